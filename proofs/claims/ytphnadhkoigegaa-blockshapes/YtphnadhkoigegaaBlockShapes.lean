/-
  WHAT IS PROVED: the statement Rows.BlockShapesSaid: for every name the Go function BlockShapes returns true and leaves its argument alone; there are no conditions.
  The frame below is the one that the guide's program writes; the walk and the facts ahead of it are mine.
-/
import Derived.Test.YtphnadhkoigegaaRows
import Derived.WalkKit
import Derived.ProofKit
import Derived.OpenShut
import Derived.ShutString
import Derived.ChangeOld
import Derived.Below
import Derived.Test.YtphnadhkoigegaaQ0
import Derived.Test.YtphnadhkoigegaaS3
namespace Go.Proofs.Ytphnadhkoigegaa.blockShapes
open Go.ChangeShapes Go.WideShapes Go.ChangeAt Go.RowKit
open Go.ChangeMaps (open_string shut_string)
set_option linter.unusedVariables false

theorem own : ownKnob Try.prog.godebug = none := by kernel_rfl
theorem laidOut : laidOutB Try.prog = true := by kernel_rfl

theorem walk (s : ByteArray) (w : World) :
    Calls Try.prog 3 #[.string s] w fun e w' => e = .returned (.bool true) ∧ Below w.heap.size w w' := by
  have fin : ∀ (e : Ending) (w' : World), (e = .returned (.bool true) ∧ w.grownBy w' none) → e = .returned (.bool true) ∧ Below w.heap.size w w' := fun e w' h => ⟨h.1, (Below.refl _ _).grown h.2 (Nat.le_refl _) (by simp)⟩
  rcases name_cases s with rfl | rfl | rfl | rfl | rfl | rfl | rfl | rfl | rfl | rfl | rfl | rfl | hs
  · exact (shapes_gen _ _ _ _ w (by decide) (by decide) (by decide) shapeC_ton refShape_ton).mono fin
  · exact (shapes_gen _ _ _ _ w (by decide) (by decide) (by decide) shapeC_tof refShape_tof).mono fin
  · exact (shapes_gen _ _ _ _ w (by decide) (by decide) (by decide) shapeC_tp refShape_tp).mono fin
  · exact (shapes_gen _ _ _ _ w (by decide) (by decide) (by decide) shapeC_ctu refShape_ctu).mono fin
  · exact (shapes_gen _ _ _ _ w (by decide) (by decide) (by decide) shapeC_ctd refShape_ctd).mono fin
  · exact (shapes_gen _ _ _ _ w (by decide) (by decide) (by decide) shapeC_ctud refShape_ctud).mono fin
  · exact (shapes_gen _ _ _ _ w (by decide) (by decide) (by decide) shapeC_rtrig refShape_rtrig).mono fin
  · exact (shapes_gen _ _ _ _ w (by decide) (by decide) (by decide) shapeC_ftrig refShape_ftrig).mono fin
  · exact (shapes_gen _ _ _ _ w (by decide) (by decide) (by decide) shapeC_sr refShape_sr).mono fin
  · exact (shapes_gen _ _ _ _ w (by decide) (by decide) (by decide) shapeC_rs refShape_rs).mono fin
  · exact (shapes_gen _ _ _ _ w (by decide) (by decide) (by decide) shapeC_ramp refShape_ramp).mono fin
  · exact (shapes_gen _ _ _ _ w (by decide) (by decide) (by decide) shapeC_hyst refShape_hyst).mono fin
  · exact (shapes_none s hs w).mono fin

set_option maxRecDepth 100000 in
theorem lifted (os : Os) (started : os.Started) (H : Type) (enc : TypeId × Value → H) :
    ReturnsInHanded {} Try.checked os 3 .any (Rows.blockShapesSpec.pre6 enc Try.prog Try.f3 Rows.blockShapesRow.domain false) (Rows.blockShapesSpec.post enc Try.prog Try.f3 false true false false) := by
  refine returnsInHanded_of_change (C := Try.checked) own started (by kernel_rfl) Try.func3
    (ChangeSpec.witness6 (enc := enc) (C := Try.checked) false ⟨#[], #[.string ByteArray.empty], []⟩ 8 (by kernel_rfl) (by kernel_rfl) (by kernel_rfl) (by kernel_rfl)) ?_
  intro W base args ds gs before hval0 hW hcnd _
  have hval : ∀ (j : Nat) t v, Try.f3.params[j]? = some t → args[j]? = some v → Value.okWide Try.prog W .any base t v := hval0
  have hW' := hW
  obtain ⟨p, q, hA0, hV, rfl, hfz, hnd⟩ := hW
  have hA : DataW.TrodAll enc Try.prog W 0 (fun _ => true) true Try.f3.params.toList args.toList ds p := hA0
  rw [Try.params3] at hA hval
  obtain ⟨v0, vs0, d0, ds0, p0, q0, hargs, rfl, rfl, h0, r0⟩ := trodAll_cons hA
  obtain ⟨rfl, rfl, rfl⟩ := trodAll_nil r0
  obtain rfl : args = #[v0] := by cases args; simp_all
  obtain ⟨rfl, rfl⟩ := trodVars_none hV
  obtain ⟨a0, rfl, rfl, rfl, w0⟩ := open_string Try.underlying9 (hval 0 9 v0 rfl rfl) h0
  clear hA0 hval0
  refine (walk a0 W).mono fun e W' ⟨he, bel⟩ => ?_
  subst he
  exact ⟨_, rfl, _, _, _, [], _, [], hW', trodAll_mk1 (shut_bool Try.underlying4 _), (trodAll_cons_mk (shut_string Try.underlying9 w0) trodAll_mk0), rfl, bel.frame _, fun h => by cases h⟩

theorem over : Rows.blockShapesRow.holds Try.pinned (OpenSpec.ofChange Rows.blockShapesSpec) :=
  OpenClaim.holds_of_wide 3 Try.f3 rfl rfl rfl rfl rfl rfl rfl ⟨rfl, rfl, rfl, rfl, rfl⟩ rfl rfl rfl rfl rfl (by kernel_rfl) Try.func3 (by kernel_rfl)
    (of_decide_eq_true (by kernel_rfl)) (by unfold Func.isWrapper; first | (rw [if_pos (by decide +kernel)]; kernel_rfl) | (rw [if_neg (by decide +kernel)]; exact ⟨rfl, rfl⟩))
    (fun os started H enc _ => lifted os started H enc)

/-- ████ THE STATEMENT ████ -/
theorem proved : Rows.BlockShapesSaid := over
#print axioms proved
end Go.Proofs.Ytphnadhkoigegaa.blockShapes
