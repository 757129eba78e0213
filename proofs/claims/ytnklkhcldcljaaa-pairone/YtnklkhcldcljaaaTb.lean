/- Both hear one another: plain. -/
import Derived.Test.YtnklkhcldcljaaaT
namespace Go.Proofs.Ytnklkhcldcljaaa
set_option linter.unusedVariables false
set_option linter.unusedSimpArgs false
theorem hear_fr {k : Nat} {s : Sn} {b : Bn} (hf : b.fr ≠ k) (ha : (hearN k s b).ac = true) : hearN k s b = s ∧ oldN k s b = true := by
  by_cases hE : beatN k s b = 0
  · rw [hearN_yes hE] at ha
    cases ha
  · refine ⟨hearN_no hE, ?_⟩
    unfold beatN at hE
    rw [if_neg hf] at hE
    cases ho : oldN k s b with
    | true => rfl
    | false => rw [ho] at hE; exact absurd rfl hE
/-- What is known ahead of round j of both. -/
def Stg (j : Nat) (s : Nat → Sn) : Prop := (j = 1 → (s 0).ac = true → (s 1).ac = true → (s 0).te < (s 1).te) ∧ (2 ≤ j → ¬ ((s 0).ac = true ∧ (s 1).ac = true))
theorem Stg.zero (s : Nat → Sn) : Stg 0 s := ⟨(fun h => by omega), fun h => by omega⟩
theorem Stg.no {N pt j : Nat} {s : Nat → Sn} {bs : List Bn} (h : Good N pt s bs) (hj : j < 2) (ha : (s j).ac = false) : Stg (j + 1) s := by
  rcases two_cases hj with rfl | rfl
  · exact ⟨(fun _ h0 => by rw [ha] at h0; cases h0), fun h => by omega⟩
  · exact ⟨(fun h => by omega), fun _ h1 => by rw [ha] at h1; cases h1.2⟩
theorem Stg.yes {N pt j : Nat} {s : Nat → Sn} {bs : List Bn} (h : Good N pt s bs) (hS : Stg j s) (hj : j < 2) (ha : (s j).ac = true) : Stg (j + 1) (upN s (1 - j) (hearN (1 - j) (s (1 - j)) ⟨j, (s j).te, (s j).cy⟩)) := by
  rcases two_cases hj with rfl | rfl
  · refine ⟨fun _ h0 h1 => ?_, fun h => by omega⟩
    have e0 : upN s (1 - 0) (hearN (1 - 0) (s (1 - 0)) ⟨0, (s 0).te, (s 0).cy⟩) 0 = s 0 := up_ne _ _ (by decide)
    have e1 : upN s (1 - 0) (hearN (1 - 0) (s (1 - 0)) ⟨0, (s 0).te, (s 0).cy⟩) 1 = hearN 1 (s 1) ⟨0, (s 0).te, (s 0).cy⟩ := up_same _ _ _
    rw [e1] at h1 ⊢
    rw [e0]
    obtain ⟨e2, ho⟩ := hear_fr (show (0 : Nat) ≠ 1 by decide) h1
    rw [e2] at h1 ⊢
    have p0 := h.par 0 (by omega)
    have p1 := h.par 1 (by omega)
    rw [if_pos ha] at p0
    rw [if_pos h1] at p1
    unfold oldN at ho
    dsimp only at ho
    rw [if_neg (by omega)] at ho
    exact of_decide_eq_true ho
  · refine ⟨fun h => by omega, fun _ ⟨h0, h1⟩ => ?_⟩
    have e1 : upN s (1 - 1) (hearN (1 - 1) (s (1 - 1)) ⟨1, (s 1).te, (s 1).cy⟩) 0 = hearN 0 (s 0) ⟨1, (s 1).te, (s 1).cy⟩ := up_same _ _ _
    rw [e1] at h0
    obtain ⟨e2, ho⟩ := hear_fr (show (1 : Nat) ≠ 0 by decide) h0
    rw [e2] at h0
    have hl := hS.1 rfl h0 ha
    unfold oldN at ho
    dsimp only at ho
    rw [if_neg (by omega)] at ho
    have := of_decide_eq_true ho
    omega
theorem hear_R {k pt : Nat} {s : Sn} {b : Bn} (hE : beatN k s b = 0) : (sdOf k pt (hearN k s b)).ac = false ∧ (sdOf k pt (hearN k s b)).te = (btOf b).te ∧ (sdOf k pt (hearN k s b)).cy = (btOf b).cy ∧ (sdOf k pt (hearN k s b)).im = (btOf b).im := by
  rw [hearN_yes hE]
  exact ⟨rfl, rfl, rfl, rfl⟩
end Go.Proofs.Ytnklkhcldcljaaa
