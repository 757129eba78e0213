/- Lists compared, copied and written over by their owner. -/
import Derived.Test.YtefekafpmnaeoaaB0
namespace Go.Proofs.Ytefekafpmnaeoaa
open Go.RowKit
attribute [local go_sem ↓] Go.wp_at_zero Go.wp_at_succ
set_option linter.unusedVariables false
set_option linter.unusedSimpArgs false

theorem sameInts_yes (v u : Value) (l : List Int) (w : World) (hv : rd w v l) (hu : rd w u l) (hb : l.length ≤ 17592186044416) :
    Calls Try.prog 17 #[v, u] w fun e w' => e = .returned (.bool true) ∧ w.grownBy w' none := by
  obtain ⟨a, cap, rfl, ha⟩ := hv
  obtain ⟨a', cap', rfl, ha'⟩ := hu
  have HA : Hid (l = [] ∨ ∃ b off, a = some ⟨b, off, none⟩ ∧ ∀ i, i < l.length → w.cell? ⟨b, off + i, none⟩ = some (.int .i64 (l.getD i 0))) := ha
  have HA' : Hid (l = [] ∨ ∃ b off, a' = some ⟨b, off, none⟩ ∧ ∀ i, i < l.length → w.cell? ⟨b, off + i, none⟩ = some (.int .i64 (l.getD i 0))) := ha'
  clear ha ha'
  obtain ⟨n, hn⟩ : ∃ n, l.length = n := ⟨_, rfl⟩
  have HN : Hid (l.length = n) := hn
  rw [hn] at hb ⊢
  clear hn
  go_enter Try.func17, Try.ntmps17
  go_wp2
  go_loopg [5] n (fun gk s5 wx => ∃ k : Nat, s5 = .int .i64 k ∧ k ≤ n ∧ gk = n - k ∧ w.grownBy wx none)
  case atStart => exact ⟨0, rfl, Nat.zero_le _, by omega, World.grownBy.refl _ _⟩
  case round =>
    obtain ⟨k, rfl, hk, hgk, hgr⟩ := hrel
    have HG : Hid (gk = n - k) := hgk
    clear hgk
    by_cases hlt : k < n
    · have hkl : k < l.length := by rw [HN.out]; exact hlt
      rcases HA.out with h | ⟨b, off, rfl, hc⟩
      · subst h; simp at hkl
      rcases HA'.out with h | ⟨b', off', rfl, hc'⟩
      · subst h; simp at hkl
      have q0 := hgr.cell (hc k hkl) (by simp)
      have q1 := hgr.cell (hc' k hkl) (by simp)
      clear hc hc'
      generalize l.getD k 0 = x at q0 q1
      have i1 : (0 : Int) ≤ (k : Int) := by omega
      have i2 : (k : Int) < (n : Int) := by omega
      go_wp2
      go_region_held3 (fun w' => w'.cell? ⟨b, off + k, none⟩ = some (.int .i64 x) ∧ w'.cell? ⟨b', off' + k, none⟩ = some (.int .i64 x)) (go_keep) (fail)
      go_wp2
      have hgl := HG.out
      go_roundg (n - (k + 1))
      all_goals first | omega | exact ⟨k + 1, by go_num, by omega, by omega, gr_drew hgr⟩
    · have hk' : ¬ ((k : Int) < (n : Int)) := by omega
      go_wp2
      go_ret
      exact ⟨rfl, hgr⟩

/-- One number more, however many there are. -/
theorem mine_more8 {c : Nat} {w wx : World} {v : Value} {n : Nat} (h : Mine 3 1 c w wx v n) (z : Int) (hn : n ≤ 17592186044000) :
    ∃ v' w', (Builtin.append_ #[26, 26] 26 #[v, .slice (some ⟨wx.heap.size, 0, none⟩) 1 1]).run Try.prog (wx.alloc (.cells #[.int .i64 z] 3)) = .ok v' w' ∧ Mine 3 1 c w w' v' (n + 1) := by
  obtain ⟨i0, hi, hz0, hz1, hz2⟩ := info_parts info3
  obtain ⟨xs, hown, hor, hgr⟩ := h
  obtain ⟨v', w', r1, r2, r3, _, r5⟩ := run_append_own_at (P := Try.prog) (wx.alloc (.cells #[.int .i64 z] 3)) 0 26 26 3 i0 _ 1 8 Try.underlying26 hi hz0 hz1 hz2 rfl (by omega) v n xs (hown.alloc _) ⟨wx.heap.size, 0, none⟩ 1 1 [.int .i64 z] rfl
    (fun j u hj => by
      rw [addn, at_cell (heap_alloc_new wx _) _]
      simpa using hj)
    (by simp [Value.oneCell']) (by unfold maxLen; omega) (by omega) (Nat.zero_le _)
  refine ⟨v', w', r1, _, r2, ?_, ?_⟩
  · rcases r5 with h5 | h5
    · rw [h5]; exact hor
    · right
      intro x hx
      rw [h5] at hx
      simp at hx
      have := hgr.size
      omega
  · refine grown_join (gr_alloc hgr _) r3 ?_
    rcases hor with h | h
    · exact .inl h
    · exact .inr h
set_option maxHeartbeats 2000000 in
theorem over_own (B g cap : Nat) (l : List Int) (z : Int) (w : World) (hl : l.length ≤ 17592186043904) (h : OwnV B w (.slice (some ⟨g, 0, none⟩) l.length cap) l) :
    Calls Try.prog 14 #[.slice (some ⟨g, 0, none⟩) l.length cap, .int .i64 z] w fun e w' => e = .returned (.tuple #[]) ∧ w.grownBy w' (some g) := by
  obtain ⟨n, hn⟩ : ∃ n, l.length = n := ⟨_, rfl⟩
  have HO : Hid (OwnV B w (.slice (some ⟨g, 0, none⟩) n cap) l) := by rw [← hn]; exact h
  have HN : Hid (l.length = n) := hn
  rw [hn] at hl ⊢
  clear h hn
  go_enter Try.func14, Try.ntmps14
  go_wp2
  go_loopg [4] n (fun gk s4 wx => ∃ (k : Nat) (ar : List Int), s4 = .int .i64 k ∧ k ≤ n ∧ gk = n - k ∧ ar.length = n ∧ OwnV B wx (.slice (some ⟨g, 0, none⟩) ar.length cap) ar ∧ w.grownBy wx (some g))
  case atStart => exact ⟨0, l, rfl, Nat.zero_le _, by omega, HN.out, by rw [HN.out]; exact HO.out, World.grownBy.refl _ _⟩
  case round =>
    obtain ⟨k, ar, rfl, hk, hgk, has, har, hgr⟩ := hrel
    have HG : Hid (gk = n - k) := hgk
    have HA : Hid (OwnV B wr (.slice (some ⟨g, 0, none⟩) ar.length cap) ar) := har
    have HS : Hid (ar.length = n) := has
    clear hgk
    by_cases hlt : k < n
    · have q0 := har.get k (by omega)
      have f0 := har.frozen k
      clear har has
      have i1 : (0 : Int) ≤ (k : Int) := by omega
      have i2 : (k : Int) < (n : Int) := by omega
      go_wp2
      have hgl := HG.out
      go_roundg (n - (k + 1))
      all_goals first | omega | exact ⟨k + 1, ar.set k z, by go_num, by omega, by omega, by simp [HS.out], by rw [List.length_set]; exact HA.out.store k z, gr_set hgr _ _⟩
    · have hk' : ¬ ((k : Int) < (n : Int)) := by omega
      have HM : Hid (Mine 3 1 g w wr (.slice (some ⟨g, 0, none⟩) n cap) n) := by have := HA.out.mine hgr; rw [HS.out] at this; exact this
      clear har HG
      go_wp2
      go_loopg [0, 5] 20 (fun gk s0 s5 wx => ∃ (j m : Nat), s5 = .int .i64 j ∧ j ≤ 20 ∧ gk = 20 - j ∧ Mine 3 1 g w wx s0 m ∧ m ≤ 17592186043904 + j)
      case atStart => exact ⟨0, n, rfl, Nat.zero_le _, by omega, HM.out, by omega⟩
      case round =>
        obtain ⟨j, m, rfl, hj, hgj, hmine, hm⟩ := hrel
        have HG : Hid (_ = _) := hgj
        clear hgj
        by_cases hlt : j < 20
        · obtain ⟨v', w', hrun, hmine'⟩ := mine_more8 hmine z (by omega)
          have HRUN : Hid (_ = _) := hrun
          have HM : Hid (Mine 3 1 g w w' v' (m + 1)) := hmine'
          clear hmine hrun hmine'
          have j2 : (j : Int) < 20 := by omega
          go_wp2_with (first | (at_builtin; refine wpList_append_run rfl _ _ 26 rfl _ _ v' w' rfl rfl HRUN.out ?_))
          have hgl := HG.out
          go_roundg (20 - (j + 1))
          all_goals first | omega | exact ⟨j + 1, m + 1, by go_num, by omega, by omega, HM.out, by omega⟩
        · have hj' : ¬ ((j : Int) < 20) := by omega
          obtain ⟨_, _, _, hg⟩ := hmine
          go_wp2
          go_end0
          exact ⟨rfl, hg⟩

set_option maxHeartbeats 2000000 in
theorem over_nil (z : Int) (w : World) : Calls Try.prog 14 #[.slice none 0 0, .int .i64 z] w fun e w' => e = .returned (.tuple #[]) ∧ w.grownBy w' none := by
  obtain ⟨i0, hi, hz0, hz1, hz2⟩ := info_parts info3
  go_enter Try.func14, Try.ntmps14
  go_wp2
  refine wp_loop_rounds 1 ?_
  rw [rounds_succ]
  go_wp2
  go_loopg [0, 5] 20 (fun gk s0 s5 wx => ∃ (j m : Nat) (xs : List Value), s5 = .int .i64 j ∧ j ≤ 20 ∧ gk = 20 - j ∧ wx.ownsRow w.heap.size 3 1 s0 m xs ∧ m ≤ j ∧ w.grownBy wx none)
  case atStart => exact ⟨0, 0, [], rfl, Nat.zero_le _, by omega, World.ownsRow_nil _ _ _ _, by omega, World.grownBy.refl _ _⟩
  case round =>
    obtain ⟨j, m, xs, rfl, hj, hgj, hown, hm, hgr⟩ := hrel
    have HG : Hid (_ = _) := hgj
    clear hgj
    by_cases hlt : j < 20
    · obtain ⟨v', w', r1, r2, r3, _, r5⟩ := run_append_own_at (P := Try.prog) (wr.alloc (.cells #[.int .i64 z] 3)) w.heap.size 26 26 3 i0 _ 1 8 Try.underlying26 hi hz0 hz1 hz2 rfl (by omega) _ m xs (hown.alloc _) ⟨wr.heap.size, 0, none⟩ 1 1 [.int .i64 z] rfl
        (fun j u hj => by
          rw [addn, at_cell (heap_alloc_new wr _) _]
          simpa using hj)
        (by simp [Value.oneCell']) (by unfold maxLen; omega) (by omega) (by have := hgr.size; simp; omega)
      have hgr' : w.grownBy w' none := grown_join (gr_alloc hgr _) r3 (.inr fun x hx => (hown.lt x hx).1)
      have HRUN : Hid (_ = _) := r1
      have HO : Hid (World.ownsRow w' w.heap.size 3 1 v' (m + 1) _) := r2
      clear hown r1 r2 r3 r5 hi hz0 hz1 hz2
      have j2 : (j : Int) < 20 := by omega
      go_wp2_with (first | (at_builtin; refine wpList_append_run rfl _ _ 26 rfl _ _ v' w' rfl rfl HRUN.out ?_))
      have hgl := HG.out
      go_roundg (20 - (j + 1))
      all_goals first | omega | exact ⟨j + 1, m + 1, _, by go_num, by omega, by omega, HO.out, by omega, hgr'⟩
    · have hj' : ¬ ((j : Int) < 20) := by omega
      clear hi hz0 hz1 hz2
      go_wp2
      go_end0
      exact ⟨rfl, hgr⟩
/-- over, whatever list of one's own. -/
theorem over_any (B : Nat) (v : Value) (l : List Int) (z : Int) (w : World) (hl : l.length ≤ 17592186043904) (h : OwnV B w v l) :
    Calls Try.prog 14 #[v, .int .i64 z] w fun e w' => e = .returned (.tuple #[]) ∧ w.grownBy w' v.ownBlock := by
  have h' := h
  obtain ⟨_, ⟨rfl, hn⟩ | ⟨g, cap, cur, rfl, _⟩⟩ := h'
  · exact over_nil z w
  · exact over_own B g cap l z w hl h


theorem own_ne {B e size n : Nat} {r : Option Nat} {w w' : World} {v : Value} {xs : List Value} (h : w.ownsRow B e size v n xs) (hg : w.grownBy w' r) (hne : ∀ x, v.ownBlock = some x → r ≠ some x) : w'.ownsRow B e size v n xs :=
  World.ownsRow.kept h hg (by
    cases hv : v.ownBlock with
    | none => exact .inl rfl
    | some x => exact .inr (fun e => hne x hv e.symm))
theorem rd.cells {w : World} {a : Option Addr} {cap : Nat} {l : List Int} (h : rd w (.slice a l.length cap) l) : l.length = 0 ∨ ∃ b off, a = some ⟨b, off, none⟩ ∧ ∀ j u, (l.map (Value.int .i64))[j]? = some u → w.cell? ((⟨b, off, none⟩ : Addr).add j) = some u := by
  obtain ⟨a', cap', e, h | ⟨b, off, rfl, hc⟩⟩ := h
  · left; simp [h]
  · injection e with e1 e2 e3
    subst e1 e3
    refine .inr ⟨b, off, rfl, fun j u hj => ?_⟩
    simp at hj
    obtain ⟨x, hx, rfl⟩ := hj
    have hj : j < l.length := (List.getElem?_eq_some_iff.1 hx).1
    rw [addn, hc j hj]
    simp [List.getD_eq_getElem?_getD, hx]
/-- All numbers of a list, behind none. -/
theorem copyL {w : World} {a : Option Addr} {cap : Nat} {l : List Int} (h : rd w (.slice a l.length cap) l) (hl : l.length ≤ 17592186043904) :
    ∃ oa oc w', (Builtin.append_ #[26, 26] 26 #[.slice none 0 0, .slice a l.length cap]).run Try.prog w = .ok (.slice oa l.length oc) w' ∧ OwnL w.heap.size w' oa oc l ∧ w.grownBy w' none := by
  obtain ⟨i0, hi, hz0, hz1, hz2⟩ := info_parts info3
  obtain ⟨oa, oc, w', h1, h2, h3⟩ := run_append_all (P := Try.prog) w 26 26 3 i0 _ 1 8 Try.underlying26 hi hz0 hz1 hz2 rfl (by omega) a l.length cap (l.map (Value.int .i64)) (by simp) h.cells (by intro u hu; simp at hu; obtain ⟨x, _, rfl⟩ := hu; rfl) (by unfold maxLen; omega) (by omega)
  exact ⟨oa, oc, w', h1, h2, h3⟩
end Go.Proofs.Ytefekafpmnaeoaa
