/- What the program knows of a standard block by its number. -/
import Derived.Test.YtbaijehecncclaaDoorM
namespace Go.Proofs.YtbaijehecncclaaDoor
open Go.RowKit
attribute [local go_sem ↓] Go.wp_at_zero Go.wp_at_succ
set_option linter.unusedVariables false
set_option linter.unusedSimpArgs false

/-- The names of the standard blocks, by their numbers. -/
def stdN : List ByteArray := [tonName, tofName, tpName, ctuName, ctdName, ctudName, rtrigName, ftrigName, srName, rsName, rampName, hystName]
/-- They stand in the program's own list. -/
def Stds (w : World) : Prop := ∀ k, k < 12 → w.cell? ⟨0, k, none⟩ = some (.string (stdN.getD k ByteArray.empty))
theorem Stds.grown {w w' : World} (h : Stds w) (hg : w.grownBy w' none) : Stds w' := fun k hk => hg.cell (h k hk) (by simp)
/-- How many words each has. -/
def stdW (n : Int) : Int := if n = 1 ∨ n = 2 ∨ n = 3 then 8 else if n = 4 ∨ n = 5 then 7 else if n = 6 then 11 else if n = 7 ∨ n = 8 then 3 else if n = 9 ∨ n = 10 ∨ n = 11 then 4 else if n = 12 then 5 else 0
def kitV (nm : ByteArray) (i o s : Nat) : Value := .agg #[.string nm, .int .i64 i, .int .i64 ((i : Int) + o), .int .i64 ((i : Int) + o + s)]

set_option maxHeartbeats 2000000 in
theorem kit_gen (k : Nat) (nm : ByteArray) (I O S : List (ByteArray × Int)) (hC : ShapeC nm I O S) (hI : I.length ≤ 5) (hO : O.length ≤ 5) (hL : S.length ≤ 5) (w : World) (hk : k < 12) (h0 : w.cell? ⟨0, k, none⟩ = some (.string nm)) :
    Calls Tryd.prog 46 #[.int .i64 ((k : Int) + 1)] w fun e w' => e = .returned (kitV nm I.length O.length S.length) ∧ w.grownBy w' none := by
  have h1 : ∀ o, (w.alloc o).cell? ⟨0, k, none⟩ = some (.string nm) := fun o => (gr_alloc (World.grownBy.refl w none) o).cell h0 (by simp)
  obtain ⟨i, hi⟩ : ∃ i, I.length = i := ⟨_, rfl⟩
  obtain ⟨o, ho⟩ : ∃ i, O.length = i := ⟨_, rfl⟩
  obtain ⟨s, hs⟩ : ∃ i, S.length = i := ⟨_, rfl⟩
  have k0 : (0 : Int) ≤ (k : Int) := by omega
  have k1 : (k : Int) < 12 := by omega
  have k2 : wrap64 ((k : Int) + 1 - 1) = (k : Int) := by unfold wrap64; omega
  have e1 : wrap64 ((i : Int) + (o : Int)) = (i : Int) + o := by unfold wrap64; omega
  have e2 : wrap64 ((i : Int) + (o : Int) + (s : Int)) = (i : Int) + o + s := by unfold wrap64; omega
  rw [hi, ho, hs]
  clear h0
  go_enter Tryd.func46, Tryd.ntmps46
  go_wp2_with fail
  refine (hC _).mono ?_
  rintro e w1 ⟨v, rfl, ⟨b1, b2, b3, rfl, hb1, hb2, hb3, n12, n13, n23, hB1, hB2, hB3⟩, hg1⟩
  rw [hi, ho, hs]
  simp at hb1 hb2 hb3
  have hX := kept hg1 ((hp_old (by simp) _).trans (heap_alloc_new w _))
  have hY := kept hg1 (hp_new (k := w.heap.size + 1) (by simp) _)
  have hgw : w.grownBy w1 none := (gr_alloc (gr_alloc (World.grownBy.refl w none) _) _).trans hg1
  have hs1 := at_lt hX
  have hs2 := at_lt hY
  have x0 := at_cell hX 0
  have x1 := at_cell hX 1
  have x2 := at_cell hX 2
  have x3 := at_cell hX 3
  have y0 := at_cell hY 0
  have y1 := at_cell hY 1
  have y2 := at_cell hY 2
  have y3 := at_cell hY 3
  have f0 := at_frozen hX 0
  have f1 := at_frozen hX 1
  have f2 := at_frozen hX 2
  have f3 := at_frozen hX 3
  have g0 := at_frozen hY 0
  have g1 := at_frozen hY 1
  have g2 := at_frozen hY 2
  have g3 := at_frozen hY 3
  simp at x0 x1 x2 x3 y0 y1 y2 y3
  have HX : Hid (_ = _) := hX
  clear hX hY hB1 hB2 hB3 h1
  go_wp2_with fail
  have hF := (hp_old (w := (((((((w1.setCell ⟨w.heap.size + 1, 1, none⟩ (.int .i64 i)).setCell ⟨w.heap.size + 1, 2, none⟩ (.int .i64 ((i : Int) + o))).setCell ⟨w.heap.size + 1, 3, none⟩ (.int .i64 ((i : Int) + o + s))).setCell ⟨w.heap.size, 0, none⟩ (.string nm)).setCell ⟨w.heap.size, 1, none⟩ (.int .i64 i)).setCell ⟨w.heap.size, 2, none⟩ (.int .i64 ((i : Int) + o))).setCell ⟨w.heap.size, 3, none⟩ (.int .i64 ((i : Int) + o + s)))) (k := w.heap.size) (by simpa using hs1) (.cells #[.slice (some ⟨b1, 0, none⟩) i i, .slice (some ⟨b2, 0, none⟩) o o, .slice (some ⟨b3, 0, none⟩) s s] 71)).trans (at_set (at_set (at_set (at_set (((Below.heap_setCell _ _ _ _ (by simp)).trans ((Below.heap_setCell _ _ _ _ (by simp)).trans ((Below.heap_setCell _ _ _ _ (by simp)).trans HX.out)))) 0 (.string nm)) 1 (.int .i64 i)) 2 (.int .i64 ((i : Int) + o))) 3 (.int .i64 ((i : Int) + o + s)))
  have c0 := at_cell hF 0
  have c1 := at_cell hF 1
  have c2 := at_cell hF 2
  have c3 := at_cell hF 3
  simp at c0 c1 c2 c3
  refine bodyPost_ret (v := kitV nm i o s) (by simp [results, Tryd.results46, go_sem, kitV, c0, c1, c2, c3]) rfl ⟨rfl, ?_⟩
  clear HX hF c0 c1 c2 c3
  refine gr_alloc (gr_own (gr_own (gr_own (gr_own (gr_own (gr_own (gr_own hgw ?_ _ _) ?_ _ _) ?_ _ _) ?_ _ _) ?_ _ _) ?_ _ _) ?_ _ _) _
  all_goals omega

theorem kit_any (n : Int) (w : World) (hS : Stds w) (h1 : 1 ≤ n) (h2 : n ≤ 12) : Calls Tryd.prog 46 #[.int .i64 n] w fun e w' => (∃ nm i o, e = .returned (.agg #[.string nm, .int .i64 i, .int .i64 o, .int .i64 (stdW n)])) ∧ w.grownBy w' none := by
  rcases (show n = 1 ∨ n = 2 ∨ n = 3 ∨ n = 4 ∨ n = 5 ∨ n = 6 ∨ n = 7 ∨ n = 8 ∨ n = 9 ∨ n = 10 ∨ n = 11 ∨ n = 12 by omega) with rfl | rfl | rfl | rfl | rfl | rfl | rfl | rfl | rfl | rfl | rfl | rfl
  · exact (kit_gen 0 tonName _ _ _ shapeC_ton (by decide) (by decide) (by decide) w (by omega) (hS 0 (by omega))).mono fun e w' h => ⟨⟨_, _, _, h.1⟩, h.2⟩
  · exact (kit_gen 1 tofName _ _ _ shapeC_tof (by decide) (by decide) (by decide) w (by omega) (hS 1 (by omega))).mono fun e w' h => ⟨⟨_, _, _, h.1⟩, h.2⟩
  · exact (kit_gen 2 tpName _ _ _ shapeC_tp (by decide) (by decide) (by decide) w (by omega) (hS 2 (by omega))).mono fun e w' h => ⟨⟨_, _, _, h.1⟩, h.2⟩
  · exact (kit_gen 3 ctuName _ _ _ shapeC_ctu (by decide) (by decide) (by decide) w (by omega) (hS 3 (by omega))).mono fun e w' h => ⟨⟨_, _, _, h.1⟩, h.2⟩
  · exact (kit_gen 4 ctdName _ _ _ shapeC_ctd (by decide) (by decide) (by decide) w (by omega) (hS 4 (by omega))).mono fun e w' h => ⟨⟨_, _, _, h.1⟩, h.2⟩
  · exact (kit_gen 5 ctudName _ _ _ shapeC_ctud (by decide) (by decide) (by decide) w (by omega) (hS 5 (by omega))).mono fun e w' h => ⟨⟨_, _, _, h.1⟩, h.2⟩
  · exact (kit_gen 6 rtrigName _ _ _ shapeC_rtrig (by decide) (by decide) (by decide) w (by omega) (hS 6 (by omega))).mono fun e w' h => ⟨⟨_, _, _, h.1⟩, h.2⟩
  · exact (kit_gen 7 ftrigName _ _ _ shapeC_ftrig (by decide) (by decide) (by decide) w (by omega) (hS 7 (by omega))).mono fun e w' h => ⟨⟨_, _, _, h.1⟩, h.2⟩
  · exact (kit_gen 8 srName _ _ _ shapeC_sr (by decide) (by decide) (by decide) w (by omega) (hS 8 (by omega))).mono fun e w' h => ⟨⟨_, _, _, h.1⟩, h.2⟩
  · exact (kit_gen 9 rsName _ _ _ shapeC_rs (by decide) (by decide) (by decide) w (by omega) (hS 9 (by omega))).mono fun e w' h => ⟨⟨_, _, _, h.1⟩, h.2⟩
  · exact (kit_gen 10 rampName _ _ _ shapeC_ramp (by decide) (by decide) (by decide) w (by omega) (hS 10 (by omega))).mono fun e w' h => ⟨⟨_, _, _, h.1⟩, h.2⟩
  · exact (kit_gen 11 hystName _ _ _ shapeC_hyst (by decide) (by decide) (by decide) w (by omega) (hS 11 (by omega))).mono fun e w' h => ⟨⟨_, _, _, h.1⟩, h.2⟩
end Go.Proofs.YtbaijehecncclaaDoor
