/-
  WHAT IS PROVED: the statement Rows.BlockStepsSaid: for every name, every list of integers and every list of calls the Go function BlockSteps returns true and leaves its arguments alone; there are no conditions (that what is read is no greater than the form's own reach is the form's).
  The frame below is the one that the guide's program writes, with the form's own reach handed on (Derived.SizedLaws) and the lists opened by Derived.Deep.SlicePairs; the walk and the facts ahead of it are mine.
-/
import Derived.Test.YtphnadhkoigegaaRows
import Derived.WalkKit
import Derived.ProofKit
import Derived.OpenShut
import Derived.ShutString
import Derived.ChangeOld
import Derived.Below
import Derived.SizedLaws
import Derived.Test.YtphnadhkoigegaaQ1
import Derived.Test.YtphnadhkoigegaaU2
import Derived.Test.YtphnadhkoigegaaL1
import Derived.Test.YtphnadhkoigegaaL2
import Derived.Test.YtphnadhkoigegaaL3
import Derived.Test.YtphnadhkoigegaaL4
import Derived.Test.YtphnadhkoigegaaT6
import Derived.Test.YtphnadhkoigegaaT6u
import Derived.Test.YtphnadhkoigegaaT7
import Derived.Test.YtphnadhkoigegaaT7f
import Derived.Test.YtphnadhkoigegaaT9
namespace Go.Proofs.Ytphnadhkoigegaa.blockSteps
open Go.ChangeShapes Go.WideShapes Go.ChangeAt Go.RowKit
open Go.ChangeMaps (open_string shut_string)
set_option linter.unusedVariables false

theorem own : ownKnob Try.prog.godebug = none := by kernel_rfl
theorem laidOut : laidOutB Try.prog = true := by kernel_rfl

/-- Any block, any calls. -/
theorem walk1 (nm : ByteArray) (n m : Nat) (kS kI : List Int) (F : List Int → List Int → Int → List Int × List Int) (a : Option Addr) (len cap : Nat) (vs : Value) (ls : List Int) (w : World) (hm5 : m ≤ 5) (hn5 : n ≤ 5) (hst : StepC nm n m kS kI F) (hrs : RefStepC nm n m kS kI F) (hF : LensC n m kS kI F)
    (hS : StateAt w vs ls) (hsb : ls.length ≤ 17592186043904) (hC : SizedCalls w a len) :
    Calls Try.prog 4 #[.string nm, vs, .slice a len cap] w fun e w' => e = .returned (.bool true) ∧ w.grownBy w' none := by
  rcases hC with rfl | ⟨b, off, V, Li, T, rfl, hlen, h0, hv, hvb, h1⟩
  · exact steps_nil nm a cap vs ls w hS hsb
  · exact steps_gen nm n m kS kI F b off cap len V Li T vs ls w hm5 hn5 hst hrs hF hS hsb h0 hv hvb h1 hlen
theorem walk (s : ByteArray) (vs : Value) (ls : List Int) (a : Option Addr) (len cap : Nat) (w : World) (hS : StateAt w vs ls) (hsb : ls.length ≤ 17592186043904) (hC : SizedCalls w a len) :
    Calls Try.prog 4 #[.string s, vs, .slice a len cap] w fun e w' => e = .returned (.bool true) ∧ Below w.heap.size w w' := by
  have fin : ∀ (e : Ending) (w' : World), (e = .returned (.bool true) ∧ w.grownBy w' none) → e = .returned (.bool true) ∧ Below w.heap.size w w' := fun e w' h => ⟨h.1, (Below.refl _ _).grown h.2 (Nat.le_refl _) (by simp)⟩
  rcases name_cases s with rfl | rfl | rfl | rfl | rfl | rfl | rfl | rfl | rfl | rfl | rfl | rfl | hs
  · exact (walk1 _ 4 2 _ _ _ a len cap vs ls w (by omega) (by omega) stepC_ton refStep_ton lens_ton hS hsb hC).mono fin
  · exact (walk1 _ 4 2 _ _ _ a len cap vs ls w (by omega) (by omega) stepC_tof refStep_tof lens_tof hS hsb hC).mono fin
  · exact (walk1 _ 4 2 _ _ _ a len cap vs ls w (by omega) (by omega) stepC_tp refStep_tp lens_tp hS hsb hC).mono fin
  · exact (walk1 _ 2 2 _ _ _ a len cap vs ls w (by omega) (by omega) stepC_ctu refStep_ctu lens_ctu hS hsb hC).mono fin
  · exact (walk1 _ 2 2 _ _ _ a len cap vs ls w (by omega) (by omega) stepC_ctd refStep_ctd lens_ctd hS hsb hC).mono fin
  · exact (walk1 _ 3 3 _ _ _ a len cap vs ls w (by omega) (by omega) stepC_ctud refStep_ctud lens_ctud hS hsb hC).mono fin
  · exact (walk1 _ 1 1 _ _ _ a len cap vs ls w (by omega) (by omega) stepC_rtrig refStep_rtrig lens_rtrig hS hsb hC).mono fin
  · exact (walk1 _ 1 1 _ _ _ a len cap vs ls w (by omega) (by omega) stepC_ftrig refStep_ftrig lens_ftrig hS hsb hC).mono fin
  · exact (walk1 _ 1 1 _ _ _ a len cap vs ls w (by omega) (by omega) stepC_sr refStep_sr lens_sr hS hsb hC).mono fin
  · exact (walk1 _ 1 1 _ _ _ a len cap vs ls w (by omega) (by omega) stepC_rs refStep_rs lens_rs hS hsb hC).mono fin
  · exact (walk1 _ 1 1 _ _ _ a len cap vs ls w (by omega) (by omega) stepC_ramp refStep_ramp lens_ramp hS hsb hC).mono fin
  · exact (walk1 _ 1 1 _ _ _ a len cap vs ls w (by omega) (by omega) stepC_hyst refStep_hyst lens_hyst hS hsb hC).mono fin
  · rcases hC with rfl | ⟨b, off, V, Li, T, rfl, hlen, h0, hv, hvb, h1⟩
    · exact (steps_nil s a cap vs ls w hS hsb).mono fin
    · exact (steps_none s hs b off cap len V Li T vs ls w hS hsb h0 hv hvb h1 hlen).mono fin

set_option maxRecDepth 100000 in
theorem lifted (os : Os) (started : os.Started) (H : Type) (enc : TypeId × Value → H) :
    ReturnsInHanded {} Try.checked os 4 .any (Rows.blockStepsSpec.pre6 enc Try.prog Try.f4 Rows.blockStepsRow.domain false) (Rows.blockStepsSpec.post enc Try.prog Try.f4 false true false false) := by
  refine returnsInHanded_of_change_sized (C := Try.checked) own started (by kernel_rfl) Try.func4
    (ChangeSpec.witness6 (enc := enc) (C := Try.checked) false ⟨#[], #[.string ByteArray.empty, .slice none 0 0, .slice none 0 0], []⟩ 8 (by kernel_rfl) (by kernel_rfl) (by kernel_rfl) (by kernel_rfl)) ?_
  intro W base args ds gs before hval0 hW hcnd hsz0 _
  have hsz : (DataW.weightsEach Try.prog (Try.f4.params.toList ++ Rows.blockStepsSpec.plain.varTypes Try.prog) (ds ++ gs)).all (· ≤ reachBytes) = true := hsz0
  have hval : ∀ (j : Nat) t v, Try.f4.params[j]? = some t → args[j]? = some v → Value.okWide Try.prog W .any base t v := hval0
  have hW' := hW
  obtain ⟨p, q, hA0, hV, rfl, hfz, hnd⟩ := hW
  have hA : DataW.TrodAll enc Try.prog W 0 (fun _ => true) true Try.f4.params.toList args.toList ds p := hA0
  rw [Try.params4] at hA hval hsz
  obtain ⟨v0, vs0, d0, ds0, p0, q0, hargs, rfl, rfl, h0, r0⟩ := trodAll_cons hA
  obtain ⟨v1, vs1, d1, ds1, p1, q1, rfl, rfl, rfl, h1, r1⟩ := trodAll_cons r0
  obtain ⟨v2, vs2, d2, ds2, p2, q2, rfl, rfl, rfl, h2, r2⟩ := trodAll_cons r1
  obtain ⟨rfl, rfl, rfl⟩ := trodAll_nil r2
  obtain rfl : args = #[v0, v1, v2] := by cases args; simp_all
  obtain ⟨rfl, rfl⟩ := trodVars_none hV
  obtain ⟨a0, rfl, rfl, rfl, w0⟩ := open_string Try.underlying9 (hval 0 9 v0 rfl rfl) h0
  obtain ⟨a1, len1, cap1, rfl⟩ := okWide_slice Try.underlying31 (hval 1 31 v1 rfl rfl)
  obtain ⟨a2, len2, cap2, rfl⟩ := okWide_slice Try.underlying32 (hval 2 32 v2 rfl rfl)
  have k1 := h1
  have lt1 : ∀ x ∈ p1, x.block < W.heap.size := by obtain ⟨m, hm⟩ := k1; exact DataW.trod_lt m _ _ _ hm
  have k2 := h2
  have lt2 : ∀ x ∈ p2, x.block < W.heap.size := by obtain ⟨m, hm⟩ := k2; exact DataW.trod_lt m _ _ _ hm
  obtain ⟨ls, hS, hsb⟩ : ∃ ls, StateAt W (.slice a1 len1 cap1) ls ∧ ls.length ≤ 17592186043904 := by
    obtain ⟨fuel, hf⟩ := h1
    rcases open_ints Try.underlying31 Try.underlying3 (by kernel_rfl) hf with ⟨hcs, _⟩ | ⟨x, l, c, zs, hcs, _, hl, hm, hz, hd, hcell, hwz⟩
    · simp [Value.cells] at hcs
      obtain ⟨rfl, rfl, rfl⟩ := hcs
      exact ⟨[], .inl ⟨rfl, rfl⟩, by simp⟩
    · simp [Value.cells] at hcs
      obtain ⟨rfl, rfl, rfl⟩ := hcs
      simp only [Prod.mk.injEq] at hd
      have hsl := sized_slice hsz (j := 1) (t := 31) (e := 3) rfl (by rw [hd.1]; rfl) Try.underlying31
      rw [bytes3] at hsl
      simp only [lits, List.length_map, List.length_take, List.length_drop, reachBytes] at hsl
      simp only [if_true] at hz
      have hlen : (zs.take len1).length = len1 := by simp; omega
      refine ⟨zs.take len1, .inr ⟨x, cap1, by rw [hlen], fun j u hj => ?_⟩, by rw [hlen]; omega⟩
      have hjl : j < len1 := by
        have hlt := (List.getElem?_eq_some_iff.1 hj).1
        simp at hlt
        omega
      rw [hcell j (by omega)]
      have hjz : j < zs.length := by omega
      simp [hjl, hjz] at hj
      subst hj
      simp [hjz]
  have hC : SizedCalls W a2 len2 := by
    obtain ⟨fuel, hf⟩ := h2
    exact calls_sized hf (fun k hk => by
      have := List.all_eq_true.1 hsz _ (DataW.weights_mem_each (j := 2) (t := 32) (d := d2) rfl rfl k hk)
      simpa using this)
  clear hA0 hval0
  refine (walk a0 _ ls a2 len2 cap2 W hS hsb hC).mono fun e W' ⟨he, bel⟩ => ?_
  subst he
  exact ⟨_, rfl, _, _, _, [], _, [], hW', trodAll_mk1 (shut_bool Try.underlying4 _), (trodAll_cons_mk (shut_string Try.underlying9 w0) (trodAll_cons_mk (Below.trod laidOut (by kernel_rfl) (of_decide_eq_true (by kernel_rfl)) k1 bel lt1) (trodAll_cons_mk (Below.trod laidOut (by kernel_rfl) (of_decide_eq_true (by kernel_rfl)) k2 bel lt2) trodAll_mk0))), rfl, bel.frame _, fun h => by cases h⟩

theorem over : Rows.blockStepsRow.holds Try.pinned (OpenSpec.ofChange Rows.blockStepsSpec) :=
  OpenClaim.holds_of_wide 4 Try.f4 rfl rfl rfl rfl rfl rfl rfl ⟨rfl, rfl, rfl, rfl, rfl⟩ rfl rfl rfl rfl rfl (by kernel_rfl) Try.func4 (by kernel_rfl)
    (of_decide_eq_true (by kernel_rfl)) (by unfold Func.isWrapper; first | (rw [if_pos (by decide +kernel)]; kernel_rfl) | (rw [if_neg (by decide +kernel)]; exact ⟨rfl, rfl⟩))
    (fun os started H enc _ => lifted os started H enc)

/-- ████ THE STATEMENT ████ -/
theorem proved : Rows.BlockStepsSaid := over
#print axioms proved
end Go.Proofs.Ytphnadhkoigegaa.blockSteps
