/-
  WHAT IS PROVED: the statement Rows.BlockShiftSaid: for every name, every list of calls and every integer the Go function BlockShift returns true and leaves its arguments alone; there are no conditions.
  The frame below is the one that the guide's program writes, with the lists opened by Derived.Deep.SlicePairs; the walk and the facts ahead of it are mine.
-/
import Derived.Test.YtphnadhkoigegaaRows
import Derived.WalkKit
import Derived.ProofKit
import Derived.OpenShut
import Derived.ShutString
import Derived.ChangeOld
import Derived.Below
import Derived.Test.YtphnadhkoigegaaQ0
import Derived.Test.YtphnadhkoigegaaP2
namespace Go.Proofs.Ytphnadhkoigegaa.blockShift
open Go.ChangeShapes Go.WideShapes Go.ChangeAt Go.RowKit
open Go.ChangeMaps (open_string shut_string)
set_option linter.unusedVariables false

theorem own : ownKnob Try.prog.godebug = none := by kernel_rfl
theorem laidOut : laidOutB Try.prog = true := by kernel_rfl

/-- Any block, any calls. -/
theorem walk1 (nm : ByteArray) (n m : Nat) (kS kI : List Int) (F : List Int → List Int → Int → List Int × List Int) (R : List Int → List Int → Prop) (by' : Int) (a : Option Addr) (len cap : Nat) (w : World) (hm5 : m ≤ 5) (hn5 : n ≤ 5) (hsh : LenC nm m n) (hst : StepC nm n m kS kI F) (hmk : MakeC n)
    (hR0 : R (List.replicate n 0) (List.replicate n 0)) (hR : AlikeC by' n m kS kI F R) (hC : CallsAt w a len) :
    Calls Try.prog 5 #[.string nm, .slice a len cap, .int .i64 by'] w fun e w' => e = .returned (.bool true) ∧ w.grownBy w' none := by
  rcases hC with rfl | ⟨b, off, V, Li, T, rfl, hlen, h0, hv, h1⟩
  · exact shift_nil nm n m by' a cap w hn5 hsh hmk
  · exact shift_gen nm n m kS kI F R by' b off cap len V Li T w hm5 hn5 hsh hst hmk hR0 hR h0 hv h1 hlen
theorem walk (s : ByteArray) (a : Option Addr) (len cap : Nat) (by' : Int) (w : World) (hC : CallsAt w a len) :
    Calls Try.prog 5 #[.string s, .slice a len cap, .int .i64 by'] w fun e w' => e = .returned (.bool true) ∧ Below w.heap.size w w' := by
  have fin : ∀ (e : Ending) (w' : World), (e = .returned (.bool true) ∧ w.grownBy w' none) → e = .returned (.bool true) ∧ Below w.heap.size w w' := fun e w' h => ⟨h.1, (Below.refl _ _).grown h.2 (Nat.le_refl _) (by simp)⟩
  rcases name_cases s with rfl | rfl | rfl | rfl | rfl | rfl | rfl | rfl | rfl | rfl | rfl | rfl | hs
  · exact (walk1 _ 4 2 _ _ _ (TimR by') by' a len cap w (by omega) (by omega) (lenC_of shapeC_ton) stepC_ton makeC4 (tim_zero by') (ton_alike by') hC).mono fin
  · exact (walk1 _ 4 2 _ _ _ (TimR by') by' a len cap w (by omega) (by omega) (lenC_of shapeC_tof) stepC_tof makeC4 (tim_zero by') (tof_alike by') hC).mono fin
  · exact (walk1 _ 4 2 _ _ _ (TimR by') by' a len cap w (by omega) (by omega) (lenC_of shapeC_tp) stepC_tp makeC4 (tim_zero by') (tp_alike by') hC).mono fin
  · exact (walk1 _ 2 2 _ _ _ (Eqn 2) by' a len cap w (by omega) (by omega) (lenC_of shapeC_ctu) stepC_ctu makeC2 (⟨rfl, rfl⟩) (ctu_alike by') hC).mono fin
  · exact (walk1 _ 2 2 _ _ _ (Eqn 2) by' a len cap w (by omega) (by omega) (lenC_of shapeC_ctd) stepC_ctd makeC2 (⟨rfl, rfl⟩) (ctd_alike by') hC).mono fin
  · exact (walk1 _ 3 3 _ _ _ (Eqn 3) by' a len cap w (by omega) (by omega) (lenC_of shapeC_ctud) stepC_ctud makeC3 (⟨rfl, rfl⟩) (ctud_alike by') hC).mono fin
  · exact (walk1 _ 1 1 _ _ _ (Eqn 1) by' a len cap w (by omega) (by omega) (lenC_of shapeC_rtrig) stepC_rtrig makeC1 (⟨rfl, rfl⟩) (rtrig_alike by') hC).mono fin
  · exact (walk1 _ 1 1 _ _ _ (Eqn 1) by' a len cap w (by omega) (by omega) (lenC_of shapeC_ftrig) stepC_ftrig makeC1 (⟨rfl, rfl⟩) (ftrig_alike by') hC).mono fin
  · exact (walk1 _ 1 1 _ _ _ (Eqn 1) by' a len cap w (by omega) (by omega) (lenC_of shapeC_sr) stepC_sr makeC1 (⟨rfl, rfl⟩) (sr_alike by') hC).mono fin
  · exact (walk1 _ 1 1 _ _ _ (Eqn 1) by' a len cap w (by omega) (by omega) (lenC_of shapeC_rs) stepC_rs makeC1 (⟨rfl, rfl⟩) (rs_alike by') hC).mono fin
  · exact (walk1 _ 1 1 _ _ _ (Eqn 1) by' a len cap w (by omega) (by omega) (lenC_of shapeC_ramp) stepC_ramp makeC1 (⟨rfl, rfl⟩) (ramp_alike by') hC).mono fin
  · exact (walk1 _ 1 1 _ _ _ (Eqn 1) by' a len cap w (by omega) (by omega) (lenC_of shapeC_hyst) stepC_hyst makeC1 (⟨rfl, rfl⟩) (hyst_alike by') hC).mono fin
  · exact (shift_none s hs by' _ w).mono fin

set_option maxRecDepth 100000 in
theorem lifted (os : Os) (started : os.Started) (H : Type) (enc : TypeId × Value → H) :
    ReturnsInHanded {} Try.checked os 5 .any (Rows.blockShiftSpec.pre6 enc Try.prog Try.f5 Rows.blockShiftRow.domain false) (Rows.blockShiftSpec.post enc Try.prog Try.f5 false true false false) := by
  refine returnsInHanded_of_change (C := Try.checked) own started (by kernel_rfl) Try.func5
    (ChangeSpec.witness6 (enc := enc) (C := Try.checked) false ⟨#[], #[.string ByteArray.empty, .slice none 0 0, .int .i64 0], []⟩ 8 (by kernel_rfl) (by kernel_rfl) (by kernel_rfl) (by kernel_rfl)) ?_
  intro W base args ds gs before hval0 hW hcnd _
  have hval : ∀ (j : Nat) t v, Try.f5.params[j]? = some t → args[j]? = some v → Value.okWide Try.prog W .any base t v := hval0
  have hW' := hW
  obtain ⟨p, q, hA0, hV, rfl, hfz, hnd⟩ := hW
  have hA : DataW.TrodAll enc Try.prog W 0 (fun _ => true) true Try.f5.params.toList args.toList ds p := hA0
  rw [Try.params5] at hA hval
  obtain ⟨v0, vs0, d0, ds0, p0, q0, hargs, rfl, rfl, h0, r0⟩ := trodAll_cons hA
  obtain ⟨v1, vs1, d1, ds1, p1, q1, rfl, rfl, rfl, h1, r1⟩ := trodAll_cons r0
  obtain ⟨v2, vs2, d2, ds2, p2, q2, rfl, rfl, rfl, h2, r2⟩ := trodAll_cons r1
  obtain ⟨rfl, rfl, rfl⟩ := trodAll_nil r2
  obtain rfl : args = #[v0, v1, v2] := by cases args; simp_all
  obtain ⟨rfl, rfl⟩ := trodVars_none hV
  obtain ⟨a0, rfl, rfl, rfl, w0⟩ := open_string Try.underlying9 (hval 0 9 v0 rfl rfl) h0
  obtain ⟨a1, len1, cap1, rfl⟩ := okWide_slice Try.underlying32 (hval 1 32 v1 rfl rfl)
  obtain ⟨a2, rfl, rfl, rfl, w2⟩ := open_int Try.underlying3 (hval 2 3 v2 rfl rfl) h2
  have k1 := h1
  have lt1 : ∀ x ∈ p1, x.block < W.heap.size := by obtain ⟨m, hm⟩ := k1; exact DataW.trod_lt m _ _ _ hm
  have hC : CallsAt W a1 len1 := by
    obtain ⟨fuel, hf⟩ := h1
    exact calls_opened hf
  clear hA0 hval0
  refine (walk a0 a1 len1 cap1 a2 W hC).mono fun e W' ⟨he, bel⟩ => ?_
  subst he
  exact ⟨_, rfl, _, _, _, [], _, [], hW', trodAll_mk1 (shut_bool Try.underlying4 _), (trodAll_cons_mk (shut_string Try.underlying9 w0) (trodAll_cons_mk (Below.trod laidOut (by kernel_rfl) (of_decide_eq_true (by kernel_rfl)) k1 bel lt1) (trodAll_cons_mk (shut_int Try.underlying3 w2) trodAll_mk0))), rfl, bel.frame _, fun h => by cases h⟩

theorem over : Rows.blockShiftRow.holds Try.pinned (OpenSpec.ofChange Rows.blockShiftSpec) :=
  OpenClaim.holds_of_wide 5 Try.f5 rfl rfl rfl rfl rfl rfl rfl ⟨rfl, rfl, rfl, rfl, rfl⟩ rfl rfl rfl rfl rfl (by kernel_rfl) Try.func5 (by kernel_rfl)
    (of_decide_eq_true (by kernel_rfl)) (by unfold Func.isWrapper; first | (rw [if_pos (by decide +kernel)]; kernel_rfl) | (rw [if_neg (by decide +kernel)]; exact ⟨rfl, rfl⟩))
    (fun os started H enc _ => lifted os started H enc)

/-- ████ THE STATEMENT ████ -/
theorem proved : Rows.BlockShiftSaid := over
#print axioms proved
end Go.Proofs.Ytphnadhkoigegaa.blockShift
