/- What is wrong with a vote. -/
import Derived.Test.YtefekafpmnaeoaaE
namespace Go.Proofs.Ytefekafpmnaeoaa
open Go.RowKit
attribute [local go_sem ↓] Go.wp_at_zero Go.wp_at_succ
set_option linter.unusedVariables false
set_option linter.unusedSimpArgs false

def voteE (se need : Int) (of : List Int) : Nat := if of.length = 0 then 4 else if of.any (ou 0 (se - 1)) then 6 else if twB of then 7 else if ou 1 (of.length : Int) need then 3 else 0
set_option maxRecDepth 10000 in
set_option maxHeartbeats 2000000 in
theorem lookAtVote_any (se need : Int) (of : List Int) (u : Value) (w : World) (hu : rd w u of) (hl : of.length ≤ 17592186044416) (h1 : 1 ≤ se) (h64 : se ≤ 64) :
    Calls Try.prog 23 #[.agg #[.int .i64 need, u], .int .i64 se] w fun e w' => e = .returned (.int .i64 (voteE se need of : Int)) ∧ w.grownBy w' none := by
  obtain ⟨ua, uc, rfl, _⟩ := id hu
  have hg0 : w.grownBy (w.alloc (.cells #[.int .i64 need, .slice ua of.length uc] 50)) none := gr_alloc (World.grownBy.refl _ _) _
  obtain ⟨p, hp⟩ : ∃ p, w.heap.size = p := ⟨_, rfl⟩
  have hW : (w.alloc (.cells #[.int .i64 need, .slice ua of.length uc] 50)).heap[p]? = some (.cells #[.int .i64 need, .slice ua of.length uc] 50) := hp_new hp.symm _
  have mS : IntKind.i64.wrap (se - 1) = se - 1 := i64_id (by omega) (by omega)
  go_enter Try.func23, Try.ntmps23
  go_upto_region 1 with fail
  have hu' := rd_grown hu hg0
  clear hp hu
  generalize w.alloc (.cells #[.int .i64 need, .slice ua of.length uc] 50) = W at *
  have HW := hidI (And.intro hW (And.intro hg0 hu'))
  have y1 : W.cell? ⟨p, 1, none⟩ = some (.slice ua of.length uc) := at_cell hW 1
  have cA : ∀ X, W.grownBy X none → Calls Try.prog 29 #[.int .i64 0, .int .i64 (se - 1)] X (fun e w1 => ∃ p q, e = .returned (.func (.func 35) #[] #[.pointer (some ⟨p, 0, none⟩), .pointer (some ⟨q, 0, none⟩)]) ∧ Hid (OutP w1 0 (se - 1) p q ∧ X.grownBy w1 none) ∧ w1.cell? ⟨p, 1, none⟩ = w1.cell? ⟨p, 1, none⟩ ∧ W.grownBy w1 none) := fun X hX => (outside_any 0 (se - 1) X).mono fun e w1 ⟨p, q, e1, e2, e3⟩ => ⟨p, q, e1, hidI ⟨e2, e3⟩, rfl, grown_join hX e3 (.inl rfl)⟩
  have cB : ∀ X, W.grownBy X none → Calls Try.prog 29 #[.int .i64 1, .int .i64 (of.length : Int)] X (fun e w1 => ∃ p q, e = .returned (.func (.func 35) #[] #[.pointer (some ⟨p, 0, none⟩), .pointer (some ⟨q, 0, none⟩)]) ∧ Hid (OutP w1 1 (of.length : Int) p q ∧ X.grownBy w1 none) ∧ w1.cell? ⟨p, 1, none⟩ = w1.cell? ⟨p, 1, none⟩ ∧ W.grownBy w1 none) := fun X hX => (outside_any 1 (of.length : Int) X).mono fun e w1 ⟨p, q, e1, e2, e3⟩ => ⟨p, q, e1, hidI ⟨e2, e3⟩, rfl, grown_join hX e3 (.inl rfl)⟩
  clear hW hg0 hu'
  generalize hln : of.length = n at *
  have HLN := hidI hln
  clear hln
  go_region_held3 (fun w' => w'.cell? ⟨p, 1, none⟩ = some (.slice ua n uc)) (first | go_keep | (exact (by assumption : W.grownBy _ none).cell y1 (by simp)))
    ((go_at_call 29; first | (with_reducible refine (cA _ (by first | exact World.grownBy.refl _ _ | exact gr_drew (World.grownBy.refl _ _) | assumption | exact gr_drew (by assumption))).mono ?_; rintro e wA ⟨p1, q1, rfl, HA, _, gA⟩) | (with_reducible refine (cB _ (by first | exact World.grownBy.refl _ _ | exact gr_drew (World.grownBy.refl _ _) | assumption | exact gr_drew (by assumption))).mono ?_; rintro e wB ⟨p2, q2, rfl, HB, _, gB⟩)))
  obtain ⟨oA, _⟩ := HA.out
  obtain ⟨oB, g2⟩ := HB.out
  obtain ⟨hW, hg0, hu'⟩ := HW.out
  have oA' := oA.grown g2
  have hWB := kept gB hW
  have huB := rd_grown hu' gB
  have HGB := hidI (grown_join hg0 gB (.inl rfl))
  have x0 : wB.cell? ⟨p, 0, none⟩ = some (.int .i64 need) := at_cell hWB 0
  have x1 : wB.cell? ⟨p, 1, none⟩ = some (.slice ua n uc) := at_cell hWB 1
  have c1 := hasOut_any of _ 0 (se - 1) p1 q1 wB huB (by rw [HLN.out]; exact hl) oA'
  have c3 := fun (X : World) (hX : wB.grownBy X none) => out_any 1 (n : Int) need p2 q2 X (oB.grown hX)
  have c2 := fun h => twice_any of _ wB huB (by rw [HLN.out]; exact hl) h
  have HBX := hidI hWB
  clear cA cB HA HB oA oB oA' g2 hW hg0 hu' hWB huB gA gB y1 HW
  by_cases hz : n = 0
  · subst hz
    clear c1 c2 c3
    go_wp2
    go_ret
    exact ⟨ret_int (by simp [voteE, HLN.out]), HGB.out⟩
  have hz' : ¬ ((n : Int) = 0) := by omega
  cases ha : of.any (ou 0 (se - 1)) with
  | true =>
    simp only [ha] at c1
    clear c2 c3
    go_wp2_with fail
    refine c1.mono ?_
    rintro e w' ⟨rfl, rfl⟩
    go_wp2
    go_ret
    exact ⟨ret_int (by simp [voteE, HLN.out, hz, ha]), HGB.out⟩
  | false =>
  simp only [ha] at c1
  have c2 := c2 (fun x hx => by
    have := List.any_eq_false.1 ha x hx
    simp [ou] at this
    omega)
  cases hb : twB of with
  | true =>
    simp only [hb] at c2
    clear c3
    go_wp2_with fail
    refine c1.mono ?_
    rintro e w' ⟨rfl, rfl⟩
    go_wp2_with fail
    refine c2.mono ?_
    rintro e w' ⟨rfl, hg⟩
    go_wp2
    go_ret
    exact ⟨ret_int (by simp [voteE, HLN.out, hz, ha, hb]), grown_join HGB.out hg (.inl rfl)⟩
  | false =>
  simp only [hb] at c2
  cases hc : ou 1 (n : Int) need with
  | true =>
    simp only [hc] at c3
    go_wp2_with fail
    refine c1.mono ?_
    rintro e w' ⟨rfl, rfl⟩
    go_wp2_with fail
    refine c2.mono ?_
    rintro e wC ⟨rfl, hg⟩
    have z0 : wC.cell? ⟨p, 0, none⟩ = some (.int .i64 need) := at_cell (kept hg HBX.out) 0
    go_wp2_with fail
    refine (c3 _ hg).mono ?_
    rintro e w' ⟨rfl, rfl⟩
    go_wp2
    go_ret
    exact ⟨ret_int (by simp [voteE, HLN.out, hz, ha, hb, hc]), grown_join HGB.out hg (.inl rfl)⟩
  | false =>
    simp only [hc] at c3
    go_wp2_with fail
    refine c1.mono ?_
    rintro e w' ⟨rfl, rfl⟩
    go_wp2_with fail
    refine c2.mono ?_
    rintro e wC ⟨rfl, hg⟩
    have z0 : wC.cell? ⟨p, 0, none⟩ = some (.int .i64 need) := at_cell (kept hg HBX.out) 0
    go_wp2_with fail
    refine (c3 _ hg).mono ?_
    rintro e w' ⟨rfl, rfl⟩
    go_wp2
    go_ret
    exact ⟨ret_int (by simp [voteE, HLN.out, hz, ha, hb, hc]), grown_join HGB.out hg (.inl rfl)⟩
end Go.Proofs.Ytefekafpmnaeoaa
