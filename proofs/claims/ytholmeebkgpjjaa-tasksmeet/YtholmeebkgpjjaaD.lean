/- The law's own functions: lists held against one another, written over, copied. -/
import Derived.Test.YtholmeebkgpjjaaC3
namespace Go.Proofs.Ytholmeebkgpjjaa
open Go.RowKit
attribute [local go_sem ↓] Go.wp_at_zero Go.wp_at_succ
set_option linter.unusedVariables false
set_option linter.unusedSimpArgs false

def OwnV (B : Nat) (w : World) (v : Value) (l : List Int) : Prop := w.ownsRow B 3 1 v l.length (l.map (Value.int .i64))
theorem sameInts_yes (v u : Value) (l : List Int) (w : World) (hv : rd w v l) (hu : rd w u l) (hb : l.length ≤ 17592186044416) :
    Calls Try.prog 22 #[v, u] w fun e w' => e = .returned (.bool true) ∧ w.grownBy w' none := by
  obtain ⟨a, cap, rfl, ha⟩ := hv
  obtain ⟨a', cap', rfl, ha'⟩ := hu
  have HA : Hid (l = [] ∨ ∃ b off, a = some ⟨b, off, none⟩ ∧ ∀ i, i < l.length → w.cell? ⟨b, off + i, none⟩ = some (.int .i64 (l.getD i 0))) := ha
  have HA' : Hid (l = [] ∨ ∃ b off, a' = some ⟨b, off, none⟩ ∧ ∀ i, i < l.length → w.cell? ⟨b, off + i, none⟩ = some (.int .i64 (l.getD i 0))) := ha'
  clear ha ha'
  obtain ⟨n, hn⟩ : ∃ n, l.length = n := ⟨_, rfl⟩
  have HN : Hid (l.length = n) := hn
  rw [hn] at hb ⊢
  clear hn
  go_enter Try.func22, Try.ntmps22
  go_wp2
  go_loopg [5] n (fun gk s5 wx => ∃ k : Nat, s5 = .int .i64 k ∧ k ≤ n ∧ gk = n - k ∧ w.grownBy wx none)
  case atStart => exact ⟨0, rfl, Nat.zero_le _, by omega, World.grownBy.refl _ _⟩
  case round =>
    obtain ⟨k, rfl, hk, hgk, hgr⟩ := hrel
    have HG : Hid (gk = n - k) := hgk
    clear hgk
    by_cases hlt : k < n
    · have hkl : k < l.length := by rw [HN.out]; exact hlt
      rcases HA.out with h | ⟨b, off, rfl, hc⟩
      · subst h; simp at hkl
      rcases HA'.out with h | ⟨b', off', rfl, hc'⟩
      · subst h; simp at hkl
      have q0 := hgr.cell (hc k hkl) (by simp)
      have q1 := hgr.cell (hc' k hkl) (by simp)
      clear hc hc'
      generalize l.getD k 0 = x at q0 q1
      have i1 : (0 : Int) ≤ (k : Int) := by omega
      have i2 : (k : Int) < (n : Int) := by omega
      go_wp2
      go_region_held3 (fun w' => w'.cell? ⟨b, off + k, none⟩ = some (.int .i64 x) ∧ w'.cell? ⟨b', off' + k, none⟩ = some (.int .i64 x)) (go_keep) (fail)
      go_wp2
      have hgl := HG.out
      go_roundg (n - (k + 1))
      all_goals first | omega | exact ⟨k + 1, by go_num, by omega, by omega, gr_drew hgr⟩
    · have hk' : ¬ ((k : Int) < (n : Int)) := by omega
      go_wp2
      go_ret
      exact ⟨rfl, hgr⟩

theorem OwnV.store {B : Nat} {w : World} {g cap : Nat} {l : List Int} (h : OwnV B w (.slice (some ⟨g, 0, none⟩) l.length cap) l) (k : Nat) (x : Int) :
    OwnV B (w.setCell ⟨g, k, none⟩ (.int .i64 x)) (.slice (some ⟨g, 0, none⟩) l.length cap) (l.set k x) := by
  obtain ⟨h1, h2 | ⟨g', cap', cur, e, hb, hc, hn, hm, hs, ht⟩⟩ := h
  · simp at h2
  · simp at e
    obtain ⟨rfl, rfl⟩ := e
    refine ⟨by simp, .inr ⟨g, cap, cur.setIfInBounds k (.int .i64 x), by simp, hb, at_set hc k _, by simpa using hn, hm, by simpa using hs, ?_⟩⟩
    rw [List.length_set, Array.toList_setIfInBounds, List.take_set, ht, List.map_set]
theorem OwnV.frozen {B : Nat} {w : World} {g cap : Nat} {l : List Int} (h : OwnV B w (.slice (some ⟨g, 0, none⟩) l.length cap) l) (k : Nat) : w.frozen? ⟨g, k, none⟩ = false := by
  obtain ⟨h1, h2 | ⟨g', cap', cur, e, hb, hc, hn, hm, hs, ht⟩⟩ := h
  · simp at h2
  · simp at e
    obtain ⟨rfl, rfl⟩ := e
    exact at_frozen hc k
theorem OwnV.get {B : Nat} {w : World} {g cap : Nat} {l : List Int} (h : OwnV B w (.slice (some ⟨g, 0, none⟩) l.length cap) l) (i : Nat) (hi : i < l.length) : w.cell? ⟨g, i, none⟩ = some (.int .i64 (l.getD i 0)) := by
  rw [World.ownsRow.cellAt h i (by omega)]
  simp [hi]
theorem OwnV.mine {B : Nat} {w wx : World} {g cap : Nat} {l : List Int} (h : OwnV B wx (.slice (some ⟨g, 0, none⟩) l.length cap) l) (hg : w.grownBy wx (some g)) : Mine 3 1 g w wx (.slice (some ⟨g, 0, none⟩) l.length cap) l.length := by
  obtain ⟨h1, h2 | ⟨g', cap', cur, e, hb, hc, hn, hm, hs, ht⟩⟩ := h
  · simp at h2
  · simp at e
    obtain ⟨rfl, rfl⟩ := e
    exact ⟨_, ⟨h1, .inr ⟨g, cap, cur, rfl, Nat.zero_le _, hc, hn, hm, hs, ht⟩⟩, .inl rfl, hg⟩

set_option maxHeartbeats 2000000 in
theorem over_own (B g cap : Nat) (l : List Int) (z : Int) (w : World) (hl : l.length ≤ 900) (h : OwnV B w (.slice (some ⟨g, 0, none⟩) l.length cap) l) :
    Calls Try.prog 23 #[.slice (some ⟨g, 0, none⟩) l.length cap, .int .i64 z] w fun e w' => e = .returned (.tuple #[]) ∧ w.grownBy w' (some g) := by
  obtain ⟨n, hn⟩ : ∃ n, l.length = n := ⟨_, rfl⟩
  have HO : Hid (OwnV B w (.slice (some ⟨g, 0, none⟩) n cap) l) := by rw [← hn]; exact h
  have HN : Hid (l.length = n) := hn
  rw [hn] at hl ⊢
  clear h hn
  go_enter Try.func23, Try.ntmps23
  go_wp2
  go_loopg [4] n (fun gk s4 wx => ∃ (k : Nat) (ar : List Int), s4 = .int .i64 k ∧ k ≤ n ∧ gk = n - k ∧ ar.length = n ∧ OwnV B wx (.slice (some ⟨g, 0, none⟩) ar.length cap) ar ∧ w.grownBy wx (some g))
  case atStart => exact ⟨0, l, rfl, Nat.zero_le _, by omega, HN.out, by rw [HN.out]; exact HO.out, World.grownBy.refl _ _⟩
  case round =>
    obtain ⟨k, ar, rfl, hk, hgk, has, har, hgr⟩ := hrel
    have HG : Hid (gk = n - k) := hgk
    have HA : Hid (OwnV B wr (.slice (some ⟨g, 0, none⟩) ar.length cap) ar) := har
    have HS : Hid (ar.length = n) := has
    clear hgk
    by_cases hlt : k < n
    · have q0 := har.get k (by omega)
      have f0 := har.frozen k
      clear har has
      have i1 : (0 : Int) ≤ (k : Int) := by omega
      have i2 : (k : Int) < (n : Int) := by omega
      go_wp2
      have hgl := HG.out
      go_roundg (n - (k + 1))
      all_goals first | omega | exact ⟨k + 1, ar.set k z, by go_num, by omega, by omega, by simp [HS.out], by rw [List.length_set]; exact HA.out.store k z, gr_set hgr _ _⟩
    · have hk' : ¬ ((k : Int) < (n : Int)) := by omega
      have HM : Hid (Mine 3 1 g w wr (.slice (some ⟨g, 0, none⟩) n cap) n) := by have := HA.out.mine hgr; rw [HS.out] at this; exact this
      clear har HG
      go_wp2
      go_loopg [0, 5] 20 (fun gk s0 s5 wx => ∃ (j m : Nat), s5 = .int .i64 j ∧ j ≤ 20 ∧ gk = 20 - j ∧ Mine 3 1 g w wx s0 m ∧ m ≤ 900 + j)
      case atStart => exact ⟨0, n, rfl, Nat.zero_le _, by omega, HM.out, by omega⟩
      case round =>
        obtain ⟨j, m, rfl, hj, hgj, hmine, hm⟩ := hrel
        have HG : Hid (_ = _) := hgj
        clear hgj
        by_cases hlt : j < 20
        · obtain ⟨i0, hi, hz0, hz1, hz2⟩ := info_parts info3
          obtain ⟨v', w', hrun, hmine'⟩ := mine_more Try.underlying23 hi hz0 hz1 hz2 rfl (by omega) hmine [.int .i64 z] rfl (by simp [Value.oneCell']) (by omega) (by omega)
          have HRUN : Hid (_ = _) := hrun
          have HM : Hid (Mine 3 1 g w w' v' (m + 1)) := hmine'
          clear hmine hrun hmine' hi hz0 hz1 hz2
          have j2 : (j : Int) < 20 := by omega
          go_wp2_with (first | (at_builtin; refine wpList_append_run rfl _ _ 23 rfl _ _ v' w' rfl rfl HRUN.out ?_))
          have hgl := HG.out
          go_roundg (20 - (j + 1))
          all_goals first | omega | exact ⟨j + 1, m + 1, by go_num, by omega, by omega, HM.out, by omega⟩
        · have hj' : ¬ ((j : Int) < 20) := by omega
          obtain ⟨_, _, _, hg⟩ := hmine
          go_wp2
          go_end0
          exact ⟨rfl, hg⟩

set_option maxHeartbeats 2000000 in
theorem over_nil (z : Int) (w : World) : Calls Try.prog 23 #[.slice none 0 0, .int .i64 z] w fun e w' => e = .returned (.tuple #[]) ∧ w.grownBy w' none := by
  obtain ⟨i0, hi, hz0, hz1, hz2⟩ := info_parts info3
  go_enter Try.func23, Try.ntmps23
  go_wp2
  refine wp_loop_rounds 1 ?_
  rw [rounds_succ]
  go_wp2
  go_loopg [0, 5] 20 (fun gk s0 s5 wx => ∃ (j m : Nat) (xs : List Value), s5 = .int .i64 j ∧ j ≤ 20 ∧ gk = 20 - j ∧ wx.ownsRow w.heap.size 3 1 s0 m xs ∧ m ≤ j ∧ w.grownBy wx none)
  case atStart => exact ⟨0, 0, [], rfl, Nat.zero_le _, by omega, World.ownsRow_nil _ _ _ _, by omega, World.grownBy.refl _ _⟩
  case round =>
    obtain ⟨j, m, xs, rfl, hj, hgj, hown, hm, hgr⟩ := hrel
    have HG : Hid (_ = _) := hgj
    clear hgj
    by_cases hlt : j < 20
    · obtain ⟨v', w', r1, r2, r3, _, r5⟩ := run_append_own_at (P := Try.prog) (wr.alloc (.cells #[.int .i64 z] 3)) w.heap.size 23 23 3 i0 _ 1 8 Try.underlying23 hi hz0 hz1 hz2 rfl (by omega) _ m xs (hown.alloc _) ⟨wr.heap.size, 0, none⟩ 1 1 [.int .i64 z] rfl
        (fun j u hj => by
          rw [addn, at_cell (heap_alloc_new wr _) _]
          simpa using hj)
        (by simp [Value.oneCell']) (by unfold maxLen; omega) (by omega) (by have := hgr.size; simp; omega)
      have hgr' : w.grownBy w' none := grown_join (gr_alloc hgr _) r3 (.inr fun x hx => (hown.lt x hx).1)
      have HRUN : Hid (_ = _) := r1
      have HO : Hid (World.ownsRow w' w.heap.size 3 1 v' (m + 1) _) := r2
      clear hown r1 r2 r3 r5 hi hz0 hz1 hz2
      have j2 : (j : Int) < 20 := by omega
      go_wp2_with (first | (at_builtin; refine wpList_append_run rfl _ _ 23 rfl _ _ v' w' rfl rfl HRUN.out ?_))
      have hgl := HG.out
      go_roundg (20 - (j + 1))
      all_goals first | omega | exact ⟨j + 1, m + 1, _, by go_num, by omega, by omega, HO.out, by omega, hgr'⟩
    · have hj' : ¬ ((j : Int) < 20) := by omega
      clear hi hz0 hz1 hz2
      go_wp2
      go_end0
      exact ⟨rfl, hgr⟩
/-- over, whatever list of one's own. -/
theorem over_any (B : Nat) (v : Value) (l : List Int) (z : Int) (w : World) (hl : l.length ≤ 900) (h : OwnV B w v l) :
    Calls Try.prog 23 #[v, .int .i64 z] w fun e w' => e = .returned (.tuple #[]) ∧ w.grownBy w' v.ownBlock := by
  have h' := h
  obtain ⟨_, ⟨rfl, hn⟩ | ⟨g, cap, cur, rfl, _⟩⟩ := h'
  · exact over_nil z w
  · exact over_own B g cap l z w hl h

end Go.Proofs.Ytholmeebkgpjjaa
