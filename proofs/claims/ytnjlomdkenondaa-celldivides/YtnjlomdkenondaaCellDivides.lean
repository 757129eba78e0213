/-
  WHAT IS PROVED: the statement Rows.CellDividesSaid: for every bool and every two integers the Go function CellDivides returns true and leaves its arguments alone; there are no conditions.
  The frame below is the one that the guide's program wrote for this function; the walk and the facts ahead of it are mine.
-/
import Derived.Test.YtnjlomdkenondaaRows
import Derived.Test.YtnjlomdkenondaaCellF
import Derived.WalkKit
import Derived.ProofKit
import Derived.OpenShut
import Derived.ShutString
namespace Go.Proofs.Ytnjlomdkenondaa.cellDivides
open Go.ChangeShapes Go.WideShapes Go.ChangeAt Go.RowKit
open Go.ChangeMaps (open_string shut_string)
set_option linter.unusedVariables false      -- a walk need not use every 'w<i>' (that an integer argument fits its kind)

theorem own : ownKnob Try.prog.godebug = none := by kernel_rfl

/-! ### What Do gives for dividing -/
theorem doN_add (k a b : Int) (h : k = 2 ∨ k = 3) : doN 1 k a b = wrapK k (a + b) := by
  rw [← ring_add k a b h]
  rcases h with rfl | rfl <;> simp [doN, hasB, zeroB, resK, secK, workK, cmpB, shB, mkB, reckK, wrapK_w64]
theorem doN_mul (k a b : Int) (h : k = 2 ∨ k = 3) : doN 3 k a b = wrapK k (a * b) := by
  rw [← ring_mul k a b h]
  rcases h with rfl | rfl <;> simp [doN, hasB, zeroB, resK, secK, workK, cmpB, shB, mkB, reckK, wrapK_w64]
theorem div_zero (k a b : Int) (h : k = 2 ∨ k = 3) (hz : wrapK k b = 0) : doN 4 k a b = 0 := by
  rcases h with rfl | rfl <;> simp [doN, hasB, zeroB, secK, hz]
theorem mod_zero (k a b : Int) (h : k = 2 ∨ k = 3) (hz : wrapK k b = 0) : doN 5 k a b = 0 := by
  rcases h with rfl | rfl <;> simp [doN, hasB, zeroB, secK, hz]
theorem div_z (k b : Int) (h : k = 2 ∨ k = 3) (hz : wrapK k b = 0) : doZ 4 k b = true := by
  rcases h with rfl | rfl <;> simp [doZ, hasB, zeroB, secK, hz]
theorem mod_z (k b : Int) (h : k = 2 ∨ k = 3) (hz : wrapK k b = 0) : doZ 5 k b = true := by
  rcases h with rfl | rfl <;> simp [doZ, hasB, zeroB, secK, hz]
theorem div_nz (k b : Int) (h : k = 2 ∨ k = 3) (hz : ¬ wrapK k b = 0) : doZ 4 k b = false := by
  rcases h with rfl | rfl <;> simp [doZ, hasB, zeroB, secK, hz]
theorem mod_nz (k b : Int) (h : k = 2 ∨ k = 3) (hz : ¬ wrapK k b = 0) : doZ 5 k b = false := by
  rcases h with rfl | rfl <;> simp [doZ, hasB, zeroB, secK, hz]
theorem doN_div (k a b : Int) (h : k = 2 ∨ k = 3) (hz : ¬ wrapK k b = 0) : doN 4 k a b = wrapK k ((wrapK k a).tdiv (wrapK k b)) := by
  rcases h with rfl | rfl <;> simp [doN, hasB, zeroB, resK, secK, workK, cmpB, shB, mkB, reckK, wrapK_w64, hz]
theorem doN_mod (k a b : Int) (h : k = 2 ∨ k = 3) (hz : ¬ wrapK k b = 0) : doN 5 k a b = wrapK k ((wrapK k a).tmod (wrapK k b)) := by
  rcases h with rfl | rfl <;> simp [doN, hasB, zeroB, resK, secK, workK, cmpB, shB, mkB, reckK, hz]
theorem back (k a b : Int) (h : k = 2 ∨ k = 3) (hz : ¬ wrapK k b = 0) : doN 1 k (doN 3 k (doN 4 k a b) b) (doN 5 k a b) = wrapK k a := by
  rw [doN_add k _ _ h, doN_mul k _ _ h, doN_div k a b h hz, doN_mod k a b h hz]
  have e := Int.mul_tdiv_add_tmod (wrapK k a) (wrapK k b)
  generalize hQ : (wrapK k a).tdiv (wrapK k b) = Q at e ⊢
  generalize hR : (wrapK k a).tmod (wrapK k b) = R at e ⊢
  have e1 : wrapK k (wrapK k Q * b) = wrapK k (Q * wrapK k b) := by
    rw [← ring_mul k (wrapK k Q) b h, ← ring_mul k Q (wrapK k b) h, wrapK_idem, wrapK_idem]
  rw [e1, ring_add k _ _ h, Int.mul_comm, e, wrapK_idem]
theorem fits_div (k a b : Int) (h : k = 2 ∨ k = 3) : fitsK k (doN 4 k a b) = true := by
  by_cases hz : wrapK k b = 0
  · rw [div_zero k a b h hz]; rcases h with rfl | rfl <;> simp [fitsK, isK, wrapK]
  · rw [doN_div k a b h hz]; rcases h with rfl | rfl <;> simp [fitsK, isK, wrapK_idem]
theorem fits_mod (k a b : Int) (h : k = 2 ∨ k = 3) : fitsK k (doN 5 k a b) = true := by
  by_cases hz : wrapK k b = 0
  · rw [mod_zero k a b h hz]; rcases h with rfl | rfl <;> simp [fitsK, isK, wrapK]
  · rw [doN_mod k a b h hz]; rcases h with rfl | rfl <;> simp [fitsK, isK, wrapK_idem]

/-! ### STEP 1: THE WALK: the Go text returns true. 'Grown w w'': the world has at most new blocks (Derived/RowKit3.lean). Part the cases AHEAD of 'go_enter' where a test parts the walk; take each callee by a contract of your own. -/
theorem walk (a0 : Bool) (a1 : Int) (a2 : Int) (w1 : (Lit.int .i64 a1).wf = true) (w2 : (Lit.int .i64 a2).wf = true) (w : World) :
    Calls Try.prog 6 #[.bool a0, .int .i64 a1, .int .i64 a2] w fun e w' => e = .returned (.bool true) ∧ Grown w w' := by
  cases a0
  · by_cases hz : wrapK 2 a2 = 0
    · have e1 := div_zero 2 a1 a2 (.inl rfl) hz
      have e2 := mod_zero 2 a1 a2 (.inl rfl) hz
      have e3 := div_z 2 a2 (.inl rfl) hz
      have e4 := mod_z 2 a2 (.inl rfl) hz
      clear w1 w2
      go_enter Try.func6, Try.ntmps6
      go_wp2_with (first | (go_at_call 7; refine (do_any _ _ _ _ _).mono ?_; rintro e w' ⟨rfl, rfl⟩) | (go_at_call 11; refine (wrap_any _ _ _).mono ?_; rintro e w' ⟨rfl, rfl⟩) | (go_at_call 9; refine (fits_any _ _ _).mono ?_; rintro e w' ⟨rfl, rfl⟩))
      go_ret
      exact ⟨ret_bool rfl, Grown.refl _⟩
    · have e0 : (wrapK 2 a2 == 0) = false := by simpa using hz
      have e3 := div_nz 2 a2 (.inl rfl) hz
      have e4 := mod_nz 2 a2 (.inl rfl) hz
      have e5 := back 2 a1 a2 (.inl rfl) hz
      have e6 := fits_div 2 a1 a2 (.inl rfl)
      have e7 := fits_mod 2 a1 a2 (.inl rfl)
      clear w1 w2 hz
      go_enter Try.func6, Try.ntmps6
      go_wp2_with (first | (go_at_call 7; refine (do_any _ _ _ _ _).mono ?_; rintro e w' ⟨rfl, rfl⟩) | (go_at_call 11; refine (wrap_any _ _ _).mono ?_; rintro e w' ⟨rfl, rfl⟩) | (go_at_call 9; refine (fits_any _ _ _).mono ?_; rintro e w' ⟨rfl, rfl⟩))
      go_ret
      exact ⟨ret_bool rfl, Grown.refl _⟩
  · by_cases hz : wrapK 3 a2 = 0
    · have e1 := div_zero 3 a1 a2 (.inr rfl) hz
      have e2 := mod_zero 3 a1 a2 (.inr rfl) hz
      have e3 := div_z 3 a2 (.inr rfl) hz
      have e4 := mod_z 3 a2 (.inr rfl) hz
      clear w1 w2
      go_enter Try.func6, Try.ntmps6
      go_wp2_with (first | (go_at_call 7; refine (do_any _ _ _ _ _).mono ?_; rintro e w' ⟨rfl, rfl⟩) | (go_at_call 11; refine (wrap_any _ _ _).mono ?_; rintro e w' ⟨rfl, rfl⟩) | (go_at_call 9; refine (fits_any _ _ _).mono ?_; rintro e w' ⟨rfl, rfl⟩))
      go_ret
      exact ⟨ret_bool rfl, Grown.refl _⟩
    · have e0 : (wrapK 3 a2 == 0) = false := by simpa using hz
      have e3 := div_nz 3 a2 (.inr rfl) hz
      have e4 := mod_nz 3 a2 (.inr rfl) hz
      have e5 := back 3 a1 a2 (.inr rfl) hz
      have e6 := fits_div 3 a1 a2 (.inr rfl)
      have e7 := fits_mod 3 a1 a2 (.inr rfl)
      clear w1 w2 hz
      go_enter Try.func6, Try.ntmps6
      go_wp2_with (first | (go_at_call 7; refine (do_any _ _ _ _ _).mono ?_; rintro e w' ⟨rfl, rfl⟩) | (go_at_call 11; refine (wrap_any _ _ _).mono ?_; rintro e w' ⟨rfl, rfl⟩) | (go_at_call 9; refine (fits_any _ _ _).mono ?_; rintro e w' ⟨rfl, rfl⟩))
      go_ret
      exact ⟨ret_bool rfl, Grown.refl _⟩

/-! ### THE ROW's STEP: WRITTEN OUT: LEAVE IT -/
set_option maxRecDepth 100000 in
theorem lifted (os : Os) (started : os.Started) (H : Type) (enc : TypeId × Value → H) :
    ReturnsInHanded {} Try.checked os 6 .any (Rows.cellDividesSpec.pre6 enc Try.prog Try.f6 Rows.cellDividesRow.domain false) (Rows.cellDividesSpec.post enc Try.prog Try.f6 false true false false) := by
  refine returnsInHanded_of_change (C := Try.checked) own started (by kernel_rfl) Try.func6
    (ChangeSpec.witness6 (enc := enc) (C := Try.checked) false ⟨#[], #[.bool false, .int .i64 0, .int .i64 0], []⟩ 8 (by kernel_rfl) (by kernel_rfl) (by kernel_rfl) (by kernel_rfl)) ?_
  intro W base args ds gs before hval0 hW hcnd _
  have hval : ∀ (j : Nat) t v, Try.f6.params[j]? = some t → args[j]? = some v → Value.okWide Try.prog W .any base t v := hval0
  have hW' := hW
  obtain ⟨p, q, hA0, hV, rfl, hfz, hnd⟩ := hW
  have hA : DataW.TrodAll enc Try.prog W 0 (fun _ => true) true Try.f6.params.toList args.toList ds p := hA0
  rw [Try.params6] at hA hval
  obtain ⟨v0, vs0, d0, ds0, p0, q0, hargs, rfl, rfl, h0, r0⟩ := trodAll_cons hA
  obtain ⟨v1, vs1, d1, ds1, p1, q1, rfl, rfl, rfl, h1, r1⟩ := trodAll_cons r0
  obtain ⟨v2, vs2, d2, ds2, p2, q2, rfl, rfl, rfl, h2, r2⟩ := trodAll_cons r1
  obtain ⟨rfl, rfl, rfl⟩ := trodAll_nil r2
  obtain rfl : args = #[v0, v1, v2] := by cases args; simp_all
  obtain ⟨rfl, rfl⟩ := trodVars_none hV
  obtain ⟨a0, rfl, rfl, rfl⟩ := open_bool Try.underlying4 (hval 0 4 v0 rfl rfl) h0
  obtain ⟨a1, rfl, rfl, rfl, w1⟩ := open_int Try.underlying3 (hval 1 3 v1 rfl rfl) h1
  obtain ⟨a2, rfl, rfl, rfl, w2⟩ := open_int Try.underlying3 (hval 2 3 v2 rfl rfl) h2
  clear hA0 hval0
  simp only [List.append_nil] at hW'
  refine (walk a0 a1 a2 w1 w2 W).mono fun e W' ⟨he, hg⟩ => ?_
  subst he
  exact ⟨_, rfl, post_of_same (pa := []) (pv := []) hW' (fun _ _ _ => (trodAll_cons_mk (shut_bool Try.underlying4 _) trodAll_mk0)) (fun sp _ => (trodAll_cons_mk (shut_bool Try.underlying4 _) (trodAll_cons_mk (shut_int Try.underlying3 w1) (trodAll_cons_mk (shut_int Try.underlying3 w2) trodAll_mk0)))) (fun _ _ => rfl) rfl
    (hg.frame _) hg.2.1 (ok_one (by kernel_rfl) rfl (okWide_bool_mk Try.underlying4 _))⟩

theorem over : Rows.cellDividesRow.holds Try.pinned (OpenSpec.ofChange Rows.cellDividesSpec) :=
  OpenClaim.holds_of_wide 6 Try.f6 rfl rfl rfl rfl rfl rfl rfl ⟨rfl, rfl, rfl, rfl, rfl⟩ rfl rfl rfl rfl rfl (by kernel_rfl) Try.func6 (by kernel_rfl)
    (of_decide_eq_true (by kernel_rfl)) (by unfold Func.isWrapper; first | (rw [if_pos (by decide +kernel)]; kernel_rfl) | (rw [if_neg (by decide +kernel)]; exact ⟨rfl, rfl⟩))
    (fun os started H enc _ => lifted os started H enc)

/-- ████ THE STATEMENT ████ -/
theorem proved : Rows.CellDividesSaid :=
  over
#print axioms proved
end Go.Proofs.Ytnjlomdkenondaa.cellDivides
