/- Bytes written over by their owner. -/
import Derived.Test.YtlbipcecdcmgdaaDoorD
namespace Go.Proofs.YtlbipcecdcmgdaaDoor
open Go.RowKit
attribute [local go_sem ↓] Go.wp_at_zero Go.wp_at_succ
set_option linter.unusedVariables false
set_option linter.unusedSimpArgs false

def OwnU (B : Nat) (w : World) (v : Value) (l : List Int) : Prop := w.ownsRow B 5 1 v l.length (l.map (Value.int .u8))
theorem OwnU.store {B : Nat} {w : World} {g cap : Nat} {l : List Int} (h : OwnU B w (.slice (some ⟨g, 0, none⟩) l.length cap) l) (k : Nat) (x : Int) :
    OwnU B (w.setCell ⟨g, k, none⟩ (.int .u8 x)) (.slice (some ⟨g, 0, none⟩) l.length cap) (l.set k x) := by
  obtain ⟨h1, h2 | ⟨g', cap', cur, e, hb, hc, hn, hm, hs, ht⟩⟩ := h
  · simp at h2
  · simp at e
    obtain ⟨rfl, rfl⟩ := e
    refine ⟨by simp, .inr ⟨g, cap, cur.setIfInBounds k (.int .u8 x), by simp, hb, at_set hc k _, by simpa using hn, hm, by simpa using hs, ?_⟩⟩
    rw [List.length_set, Array.toList_setIfInBounds, List.take_set, ht, List.map_set]
theorem OwnU.frozen {B : Nat} {w : World} {g cap : Nat} {l : List Int} (h : OwnU B w (.slice (some ⟨g, 0, none⟩) l.length cap) l) (k : Nat) : w.frozen? ⟨g, k, none⟩ = false := by
  obtain ⟨h1, h2 | ⟨g', cap', cur, e, hb, hc, hn, hm, hs, ht⟩⟩ := h
  · simp at h2
  · simp at e
    obtain ⟨rfl, rfl⟩ := e
    exact at_frozen hc k
theorem OwnU.get {B : Nat} {w : World} {g cap : Nat} {l : List Int} (h : OwnU B w (.slice (some ⟨g, 0, none⟩) l.length cap) l) (i : Nat) (hi : i < l.length) : w.cell? ⟨g, i, none⟩ = some (.int .u8 (l.getD i 0)) := by
  rw [World.ownsRow.cellAt h i (by omega)]
  simp [hi]
theorem OwnU.mine {B : Nat} {w wx : World} {g cap : Nat} {l : List Int} (h : OwnU B wx (.slice (some ⟨g, 0, none⟩) l.length cap) l) (hg : w.grownBy wx (some g)) : Mine 5 1 g w wx (.slice (some ⟨g, 0, none⟩) l.length cap) l.length := by
  obtain ⟨h1, h2 | ⟨g', cap', cur, e, hb, hc, hn, hm, hs, ht⟩⟩ := h
  · simp at h2
  · simp at e
    obtain ⟨rfl, rfl⟩ := e
    exact ⟨_, ⟨h1, .inr ⟨g, cap, cur, rfl, Nat.zero_le _, hc, hn, hm, hs, ht⟩⟩, .inl rfl, hg⟩


theorem OwnB.u {B : Nat} {w : World} {a : Option Addr} {cap : Nat} {l : List Nat} (h : OwnB B w a cap l) : OwnU B w (.slice a l.length cap) (l.map fun x : Nat => (x : Int)) := by
  unfold OwnU
  have e : (l.map fun x : Nat => (x : Int)).map (Value.int .u8) = bV l := by simp [bV]
  rw [e, List.length_map]
  exact h
/-- Two elements more. -/
theorem mine_two {c : Nat} {w wx : World} {v : Value} {n : Nat} (h : Mine 5 1 c w wx v n) (x y : Int) (hn : n ≤ 140737488351232) :
    ∃ v' w', (Builtin.append_ #[23, 23] 23 #[v, .slice (some ⟨wx.heap.size, 0, none⟩) 2 2]).run Tryd.prog (wx.alloc (.cells #[.int .u8 x, .int .u8 y] 5)) = .ok v' w' ∧ Mine 5 1 c w w' v' (n + 2) := by
  obtain ⟨i0, hi, hz0, hz1, hz2⟩ := info_parts info5
  obtain ⟨xs, hown, hor, hgr⟩ := h
  obtain ⟨v', w', r1, r2, r3, _, r5⟩ := run_append_own_at (P := Tryd.prog) (wx.alloc (.cells #[.int .u8 x, .int .u8 y] 5)) 0 23 23 5 i0 _ 1 1 Tryd.underlying23 hi hz0 hz1 hz2 rfl (by omega) v n xs (hown.alloc _) ⟨wx.heap.size, 0, none⟩ 2 2 [.int .u8 x, .int .u8 y] rfl
    (fun j u hj => by
      rw [addn, at_cell (heap_alloc_new wx _) _]
      simpa using hj)
    (by simp [Value.oneCell']) (by unfold maxLen; omega) (by omega) (Nat.zero_le _)
  refine ⟨v', w', r1, _, r2, ?_, ?_⟩
  · rcases r5 with h5 | h5
    · rw [h5]; exact hor
    · right
      intro x hx
      rw [h5] at hx
      simp at hx
      have := hgr.size
      omega
  · refine grown_join (gr_alloc hgr _) r3 ?_
    rcases hor with h | h
    · exact .inl h
    · exact .inr h
theorem mine_head {c n : Nat} {w wx : World} {v : Value} (h : Mine 5 1 c w wx v (n + 1)) : ∃ g cap y, v = .slice (some ⟨g, 0, none⟩) (n + 1) cap ∧ (g = c ∨ w.heap.size ≤ g) ∧ wx.cell? ⟨g, 0, none⟩ = some y ∧ wx.frozen? ⟨g, 0, none⟩ = false ∧ w.grownBy wx (some c) := by
  obtain ⟨xs, ⟨hl, ⟨_, h0⟩ | ⟨g, cap, cur, rfl, _, hc, hn, _, hs, _⟩⟩, hor, hgr⟩ := h
  · omega
  · refine ⟨g, cap, cur[0]'(by omega), rfl, ?_, ?_, at_frozen hc 0, hgr⟩
    · rcases hor with h | h
      · left; simpa [Value.ownBlock] using h
      · right; exact h g rfl
    · rw [at_cell hc]
      exact Array.getElem?_eq_getElem _
set_option maxHeartbeats 2000000 in
theorem spoil_own (B g cap : Nat) (l : List Int) (w : World) (hl : l.length ≤ 140737488351232) (h : OwnU B w (.slice (some ⟨g, 0, none⟩) l.length cap) l) :
    Calls Tryd.prog 13 #[.slice (some ⟨g, 0, none⟩) l.length cap] w fun e w' => e = .returned (.tuple #[]) ∧ w.grownBy w' (some g) := by
  obtain ⟨n, hn⟩ : ∃ n, l.length = n := ⟨_, rfl⟩
  have HO : Hid (OwnU B w (.slice (some ⟨g, 0, none⟩) n cap) l) := by rw [← hn]; exact h
  have HN : Hid (l.length = n) := hn
  rw [hn] at hl ⊢
  clear h hn
  go_enter Tryd.func13, Tryd.ntmps13
  go_wp2
  go_loopg [2] n (fun gk s1 wx => ∃ (k : Nat) (ar : List Int), s1 = .int .i64 k ∧ k ≤ n ∧ gk = n - k ∧ ar.length = n ∧ OwnU B wx (.slice (some ⟨g, 0, none⟩) ar.length cap) ar ∧ w.grownBy wx (some g))
  case atStart => exact ⟨0, l, rfl, Nat.zero_le _, by omega, HN.out, by rw [HN.out]; exact HO.out, World.grownBy.refl _ _⟩
  case round =>
    obtain ⟨k, ar, rfl, hk, hgk, has, har, hgr⟩ := hrel
    have HG : Hid (gk = n - k) := hgk
    have HA : Hid (OwnU B wr (.slice (some ⟨g, 0, none⟩) ar.length cap) ar) := har
    have HS : Hid (ar.length = n) := has
    clear hgk
    by_cases hlt : k < n
    · have q0 := har.get k (by omega)
      have f0 := har.frozen k
      clear har has
      have i1 : (0 : Int) ≤ (k : Int) := by omega
      have i2 : (k : Int) < (n : Int) := by omega
      go_wp2
      have hgl := HG.out
      go_roundg (n - (k + 1))
      all_goals first | omega | exact ⟨k + 1, ar.set k _, by go_num, by omega, by omega, by simp [HS.out], by rw [List.length_set]; exact HA.out.store k _, gr_set hgr _ _⟩
    · have hk' : ¬ ((k : Int) < (n : Int)) := by omega
      have HM : Hid (Mine 5 1 g w wr (.slice (some ⟨g, 0, none⟩) n cap) n) := by have := HA.out.mine hgr; rw [HS.out] at this; exact this
      clear har HG
      obtain ⟨v', w', hrun, hm⟩ := mine_two HM.out 90 90 (by omega)
      obtain ⟨g', cap', y, rfl, hor, hcell, hfz, hgr'⟩ := mine_head hm
      have HRUN : Hid (_ = _) := hrun
      clear hrun hm HM
      go_wp2_with (first | (at_builtin; refine wpList_append_run rfl _ _ 23 rfl _ _ _ w' rfl rfl HRUN.out ?_))
      go_end0
      refine ⟨rfl, ?_⟩
      rcases hor with rfl | hge
      · exact gr_set hgr' _ _
      · exact ⟨hgr'.os, hgr'.tape, hgr'.output, by simpa using hgr'.size, fun k hk hne => by rw [Below.heap_setCell _ _ _ _ (by simp; omega)]; exact hgr'.block k hk hne⟩
set_option maxHeartbeats 2000000 in
theorem spoil_nil (w : World) : Calls Tryd.prog 13 #[.slice none 0 0] w fun e w' => e = .returned (.tuple #[]) ∧ w.grownBy w' none := by
  obtain ⟨i0, hi, hz0, hz1, hz2⟩ := info_parts info5
  obtain ⟨v', w', r1, r2, r3, _, r5⟩ := run_append_own_at (P := Tryd.prog) (w.alloc (.cells #[.int .u8 90, .int .u8 90] 5)) w.heap.size 23 23 5 i0 _ 1 1 Tryd.underlying23 hi hz0 hz1 hz2 rfl (by omega) (.slice none 0 0) 0 [] (World.ownsRow_nil _ _ _ _) ⟨w.heap.size, 0, none⟩ 2 2 [.int .u8 90, .int .u8 90] rfl
    (fun j u hj => by
      rw [addn, at_cell (heap_alloc_new w _) _]
      simpa using hj)
    (by simp [Value.oneCell']) (by unfold maxLen; omega) (by omega) (by simp)
  have hg : w.grownBy w' none := grown_join (gr_alloc (World.grownBy.refl _ _) _) r3 (.inr fun x hx => by simp [Value.ownBlock] at hx)
  obtain ⟨_, ⟨_, h0⟩ | ⟨g, cap, cur, rfl, hB, hc, hn, _, hs, _⟩⟩ := r2
  · omega
  · have hcell : w'.cell? ⟨g, 0, none⟩ = some (cur[0]'(by omega)) := by rw [at_cell hc]; exact Array.getElem?_eq_getElem _
    have hfz := at_frozen hc 0
    have HRUN : Hid (_ = _) := r1
    clear r1 r3 r5 hi hz0 hz1 hz2 hc
    go_enter Tryd.func13, Tryd.ntmps13
    go_wp2
    refine wp_loop_rounds 1 ?_
    rw [rounds_succ]
    go_wp2_with (first | (at_builtin; refine wpList_append_run rfl _ _ 23 rfl _ _ _ w' rfl rfl HRUN.out ?_))
    go_end0
    exact ⟨rfl, gr_own hg hB _ _⟩
theorem spoil_any (B : Nat) (v : Value) (l : List Int) (w : World) (hl : l.length ≤ 140737488351232) (h : OwnU B w v l) :
    Calls Tryd.prog 13 #[v] w fun e w' => e = .returned (.tuple #[]) ∧ w.grownBy w' v.ownBlock := by
  have h' := h
  obtain ⟨_, ⟨rfl, hn⟩ | ⟨g, cap, cur, rfl, _⟩⟩ := h'
  · exact spoil_nil w
  · exact spoil_own B g cap l w hl h
end Go.Proofs.YtlbipcecdcmgdaaDoor
