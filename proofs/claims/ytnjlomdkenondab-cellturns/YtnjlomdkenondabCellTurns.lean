/-
  WHAT IS PROVED: the statement Rows.CellTurnsSaid: for every two integers the Go function CellTurns returns true and leaves its arguments alone; there are no conditions.
  The frame below is the one that the guide's program wrote for this function; the walk and the facts ahead of it are mine.
-/
import Derived.Test.YtnjlomdkenondabRows
import Derived.Test.YtnjlomdkenondabCellF
import Derived.WalkKit
import Derived.ProofKit
import Derived.OpenShut
import Derived.ShutString
namespace Go.Proofs.Ytnjlomdkenondab.cellTurns
open Go.ChangeShapes Go.WideShapes Go.ChangeAt Go.RowKit
open Go.ChangeMaps (open_string shut_string)
set_option linter.unusedVariables false      -- a walk need not use every 'w<i>' (that an integer argument fits its kind)

theorem own : ownKnob Try.prog.godebug = none := by kernel_rfl

/-! ### What Do gives for turning, moving and masking -/
theorem and_mask (n : Int) (j : Nat) (hj : j ≤ 62) (c : Int) (hc : c = 2 ^ j - 1) : bits .and .i64 n c = n % 2 ^ j := by
  subst hc
  unfold bits
  have hp : (2 : Int) ^ j ≤ 2 ^ 62 := by exact_mod_cast Nat.pow_le_pow_right (by decide) hj
  have h62 : (2 : Int) ^ 62 = 4611686018427387904 := by decide
  have hp0 : (0 : Int) < 2 ^ j := by exact_mod_cast Nat.two_pow_pos j
  have e : (BitVec.ofInt IntKind.i64.bits n &&& BitVec.ofInt IntKind.i64.bits (2 ^ j - 1)).toNat = (n % 2 ^ j).toNat := by
    show (BitVec.ofInt 64 n &&& BitVec.ofInt 64 (2 ^ j - 1)).toNat = _
    rw [BitVec.toNat_and, BitVec.toNat_ofInt, BitVec.toNat_ofInt]
    have h1 : (((2 : Int) ^ j - 1) % ((2 ^ 64 : Nat) : Int)).toNat = 2 ^ j - 1 := by
      rw [Int.emod_eq_of_lt (by omega) (by omega)]
      have : ((2 : Int) ^ j).toNat = 2 ^ j := by exact_mod_cast Int.toNat_natCast (2 ^ j)
      omega
    rw [h1, Nat.and_two_pow_sub_one_eq_mod]
    have h2 : (2 ^ j : Nat) ∣ 2 ^ 64 := Nat.pow_dvd_pow 2 (by omega)
    have h3 : ((n % ((2 ^ 64 : Nat) : Int)).toNat % 2 ^ j : Nat) = (n % 2 ^ j).toNat := by
      apply Int.ofNat.inj
      show (((n % ((2 ^ 64 : Nat) : Int)).toNat % 2 ^ j : Nat) : Int) = ((n % 2 ^ j).toNat : Int)
      rw [Int.natCast_emod, Int.toNat_of_nonneg (Int.emod_nonneg _ (by decide)), Int.toNat_of_nonneg (Int.emod_nonneg _ (by omega))]
      have h4 : ((2 ^ j : Nat) : Int) ∣ ((2 ^ 64 : Nat) : Int) := by exact_mod_cast h2
      rw [Int.emod_emod_of_dvd _ h4]
      simp
    exact h3
  simp only [e]
  have b1 := Int.emod_nonneg n (show (2 : Int) ^ j ≠ 0 by omega)
  have b2 := Int.emod_lt_of_pos n hp0
  rw [IntWalk.i64_left, Int.toNat_of_nonneg b1]
  exact wrap64_id (by omega) (by omega)
theorem mask16 (n : Int) : bits BinOp.and IntKind.i64 n 65535 = n % 65536 := and_mask n 16 (by decide) 65535 (by decide)
theorem mask12 (n : Int) : bits BinOp.and IntKind.i64 n 4095 = n % 4096 := and_mask n 12 (by decide) 4095 (by decide)
theorem fits16 (n : Int) : fitsK 4 (n % 65536) = true := by
  have : n % 65536 % 65536 = n % 65536 := by omega
  simp [fitsK, isK, wrapK4]
theorem rotM_back (a : Int) (m : Nat) (hm : m < 16) (h0 : 0 ≤ a) (h1 : a ≤ 65535) : rotM (rotM a m) ((16 - m) % 16) = a := by
  have hc : m = 0 ∨ m = 1 ∨ m = 2 ∨ m = 3 ∨ m = 4 ∨ m = 5 ∨ m = 6 ∨ m = 7 ∨ m = 8 ∨ m = 9 ∨ m = 10 ∨ m = 11 ∨ m = 12 ∨ m = 13 ∨ m = 14 ∨ m = 15 := by omega
  unfold rotM
  rcases hc with rfl | rfl | rfl | rfl | rfl | rfl | rfl | rfl | rfl | rfl | rfl | rfl | rfl | rfl | rfl | rfl
  all_goals simp only [Nat.sub_zero, Nat.reduceSub, Nat.reduceMod, Int.reducePow]
  · omega
  · obtain ⟨lo, hi, rfl, g0, g1, g2, g3⟩ : ∃ lo hi : Int, a = lo + hi * 32768 ∧ 0 ≤ lo ∧ lo < 32768 ∧ 0 ≤ hi ∧ hi < 2 := ⟨a % 32768, a / 32768, by omega, by omega, by omega, by omega, by omega⟩
    have e : (lo + hi * 32768) * 2 % 65536 + (lo + hi * 32768) / 32768 = lo * 2 + hi := by omega
    have e1 : (lo * 2 + hi) * 32768 % 65536 = hi * 32768 := by clear e; omega
    have e2 : (lo * 2 + hi) / 2 = lo := by clear e e1; omega
    rw [e, e1, e2]; omega
  · obtain ⟨lo, hi, rfl, g0, g1, g2, g3⟩ : ∃ lo hi : Int, a = lo + hi * 16384 ∧ 0 ≤ lo ∧ lo < 16384 ∧ 0 ≤ hi ∧ hi < 4 := ⟨a % 16384, a / 16384, by omega, by omega, by omega, by omega, by omega⟩
    have e : (lo + hi * 16384) * 4 % 65536 + (lo + hi * 16384) / 16384 = lo * 4 + hi := by omega
    have e1 : (lo * 4 + hi) * 16384 % 65536 = hi * 16384 := by clear e; omega
    have e2 : (lo * 4 + hi) / 4 = lo := by clear e e1; omega
    rw [e, e1, e2]; omega
  · obtain ⟨lo, hi, rfl, g0, g1, g2, g3⟩ : ∃ lo hi : Int, a = lo + hi * 8192 ∧ 0 ≤ lo ∧ lo < 8192 ∧ 0 ≤ hi ∧ hi < 8 := ⟨a % 8192, a / 8192, by omega, by omega, by omega, by omega, by omega⟩
    have e : (lo + hi * 8192) * 8 % 65536 + (lo + hi * 8192) / 8192 = lo * 8 + hi := by omega
    have e1 : (lo * 8 + hi) * 8192 % 65536 = hi * 8192 := by clear e; omega
    have e2 : (lo * 8 + hi) / 8 = lo := by clear e e1; omega
    rw [e, e1, e2]; omega
  · obtain ⟨lo, hi, rfl, g0, g1, g2, g3⟩ : ∃ lo hi : Int, a = lo + hi * 4096 ∧ 0 ≤ lo ∧ lo < 4096 ∧ 0 ≤ hi ∧ hi < 16 := ⟨a % 4096, a / 4096, by omega, by omega, by omega, by omega, by omega⟩
    have e : (lo + hi * 4096) * 16 % 65536 + (lo + hi * 4096) / 4096 = lo * 16 + hi := by omega
    have e1 : (lo * 16 + hi) * 4096 % 65536 = hi * 4096 := by clear e; omega
    have e2 : (lo * 16 + hi) / 16 = lo := by clear e e1; omega
    rw [e, e1, e2]; omega
  · obtain ⟨lo, hi, rfl, g0, g1, g2, g3⟩ : ∃ lo hi : Int, a = lo + hi * 2048 ∧ 0 ≤ lo ∧ lo < 2048 ∧ 0 ≤ hi ∧ hi < 32 := ⟨a % 2048, a / 2048, by omega, by omega, by omega, by omega, by omega⟩
    have e : (lo + hi * 2048) * 32 % 65536 + (lo + hi * 2048) / 2048 = lo * 32 + hi := by omega
    have e1 : (lo * 32 + hi) * 2048 % 65536 = hi * 2048 := by clear e; omega
    have e2 : (lo * 32 + hi) / 32 = lo := by clear e e1; omega
    rw [e, e1, e2]; omega
  · obtain ⟨lo, hi, rfl, g0, g1, g2, g3⟩ : ∃ lo hi : Int, a = lo + hi * 1024 ∧ 0 ≤ lo ∧ lo < 1024 ∧ 0 ≤ hi ∧ hi < 64 := ⟨a % 1024, a / 1024, by omega, by omega, by omega, by omega, by omega⟩
    have e : (lo + hi * 1024) * 64 % 65536 + (lo + hi * 1024) / 1024 = lo * 64 + hi := by omega
    have e1 : (lo * 64 + hi) * 1024 % 65536 = hi * 1024 := by clear e; omega
    have e2 : (lo * 64 + hi) / 64 = lo := by clear e e1; omega
    rw [e, e1, e2]; omega
  · obtain ⟨lo, hi, rfl, g0, g1, g2, g3⟩ : ∃ lo hi : Int, a = lo + hi * 512 ∧ 0 ≤ lo ∧ lo < 512 ∧ 0 ≤ hi ∧ hi < 128 := ⟨a % 512, a / 512, by omega, by omega, by omega, by omega, by omega⟩
    have e : (lo + hi * 512) * 128 % 65536 + (lo + hi * 512) / 512 = lo * 128 + hi := by omega
    have e1 : (lo * 128 + hi) * 512 % 65536 = hi * 512 := by clear e; omega
    have e2 : (lo * 128 + hi) / 128 = lo := by clear e e1; omega
    rw [e, e1, e2]; omega
  · obtain ⟨lo, hi, rfl, g0, g1, g2, g3⟩ : ∃ lo hi : Int, a = lo + hi * 256 ∧ 0 ≤ lo ∧ lo < 256 ∧ 0 ≤ hi ∧ hi < 256 := ⟨a % 256, a / 256, by omega, by omega, by omega, by omega, by omega⟩
    have e : (lo + hi * 256) * 256 % 65536 + (lo + hi * 256) / 256 = lo * 256 + hi := by omega
    have e1 : (lo * 256 + hi) * 256 % 65536 = hi * 256 := by clear e; omega
    have e2 : (lo * 256 + hi) / 256 = lo := by clear e e1; omega
    rw [e, e1, e2]; omega
  · obtain ⟨lo, hi, rfl, g0, g1, g2, g3⟩ : ∃ lo hi : Int, a = lo + hi * 128 ∧ 0 ≤ lo ∧ lo < 128 ∧ 0 ≤ hi ∧ hi < 512 := ⟨a % 128, a / 128, by omega, by omega, by omega, by omega, by omega⟩
    have e : (lo + hi * 128) * 512 % 65536 + (lo + hi * 128) / 128 = lo * 512 + hi := by omega
    have e1 : (lo * 512 + hi) * 128 % 65536 = hi * 128 := by clear e; omega
    have e2 : (lo * 512 + hi) / 512 = lo := by clear e e1; omega
    rw [e, e1, e2]; omega
  · obtain ⟨lo, hi, rfl, g0, g1, g2, g3⟩ : ∃ lo hi : Int, a = lo + hi * 64 ∧ 0 ≤ lo ∧ lo < 64 ∧ 0 ≤ hi ∧ hi < 1024 := ⟨a % 64, a / 64, by omega, by omega, by omega, by omega, by omega⟩
    have e : (lo + hi * 64) * 1024 % 65536 + (lo + hi * 64) / 64 = lo * 1024 + hi := by omega
    have e1 : (lo * 1024 + hi) * 64 % 65536 = hi * 64 := by clear e; omega
    have e2 : (lo * 1024 + hi) / 1024 = lo := by clear e e1; omega
    rw [e, e1, e2]; omega
  · obtain ⟨lo, hi, rfl, g0, g1, g2, g3⟩ : ∃ lo hi : Int, a = lo + hi * 32 ∧ 0 ≤ lo ∧ lo < 32 ∧ 0 ≤ hi ∧ hi < 2048 := ⟨a % 32, a / 32, by omega, by omega, by omega, by omega, by omega⟩
    have e : (lo + hi * 32) * 2048 % 65536 + (lo + hi * 32) / 32 = lo * 2048 + hi := by omega
    have e1 : (lo * 2048 + hi) * 32 % 65536 = hi * 32 := by clear e; omega
    have e2 : (lo * 2048 + hi) / 2048 = lo := by clear e e1; omega
    rw [e, e1, e2]; omega
  · obtain ⟨lo, hi, rfl, g0, g1, g2, g3⟩ : ∃ lo hi : Int, a = lo + hi * 16 ∧ 0 ≤ lo ∧ lo < 16 ∧ 0 ≤ hi ∧ hi < 4096 := ⟨a % 16, a / 16, by omega, by omega, by omega, by omega, by omega⟩
    have e : (lo + hi * 16) * 4096 % 65536 + (lo + hi * 16) / 16 = lo * 4096 + hi := by omega
    have e1 : (lo * 4096 + hi) * 16 % 65536 = hi * 16 := by clear e; omega
    have e2 : (lo * 4096 + hi) / 4096 = lo := by clear e e1; omega
    rw [e, e1, e2]; omega
  · obtain ⟨lo, hi, rfl, g0, g1, g2, g3⟩ : ∃ lo hi : Int, a = lo + hi * 8 ∧ 0 ≤ lo ∧ lo < 8 ∧ 0 ≤ hi ∧ hi < 8192 := ⟨a % 8, a / 8, by omega, by omega, by omega, by omega, by omega⟩
    have e : (lo + hi * 8) * 8192 % 65536 + (lo + hi * 8) / 8 = lo * 8192 + hi := by omega
    have e1 : (lo * 8192 + hi) * 8 % 65536 = hi * 8 := by clear e; omega
    have e2 : (lo * 8192 + hi) / 8192 = lo := by clear e e1; omega
    rw [e, e1, e2]; omega
  · obtain ⟨lo, hi, rfl, g0, g1, g2, g3⟩ : ∃ lo hi : Int, a = lo + hi * 4 ∧ 0 ≤ lo ∧ lo < 4 ∧ 0 ≤ hi ∧ hi < 16384 := ⟨a % 4, a / 4, by omega, by omega, by omega, by omega, by omega⟩
    have e : (lo + hi * 4) * 16384 % 65536 + (lo + hi * 4) / 4 = lo * 16384 + hi := by omega
    have e1 : (lo * 16384 + hi) * 4 % 65536 = hi * 4 := by clear e; omega
    have e2 : (lo * 16384 + hi) / 16384 = lo := by clear e e1; omega
    rw [e, e1, e2]; omega
  · obtain ⟨lo, hi, rfl, g0, g1, g2, g3⟩ : ∃ lo hi : Int, a = lo + hi * 2 ∧ 0 ≤ lo ∧ lo < 2 ∧ 0 ≤ hi ∧ hi < 32768 := ⟨a % 2, a / 2, by omega, by omega, by omega, by omega, by omega⟩
    have e : (lo + hi * 2) * 32768 % 65536 + (lo + hi * 2) / 2 = lo * 32768 + hi := by omega
    have e1 : (lo * 32768 + hi) * 2 % 65536 = hi * 2 := by clear e; omega
    have e2 : (lo * 32768 + hi) / 32768 = lo := by clear e e1; omega
    rw [e, e1, e2]; omega
theorem rotL_back (a c : Int) (h0 : 0 ≤ a) (h1 : a ≤ 65535) : rotL (rotL a c) (-c) = a := by
  unfold rotL
  have e : ((-c) % 16).toNat = (16 - (c % 16).toNat) % 16 := by omega
  rw [e]
  exact rotM_back a _ (by omega) h0 h1
theorem do_rol (a b : Int) : doN 17 4 a b = rotL (a % 65536) (if wrapK 2 b < 0 then 0 else wrapK 2 b) := by
  have hb := rotL_bd (a % 65536) (if wrapK 2 b < 0 then 0 else wrapK 2 b) (by omega) (by omega)
  simp only [doN, hasB, zeroB, resK, secK, workK, cmpB, shB, shK, wrapK4]
  simp
  rw [wrapK4]
  omega
theorem do_ror (a b : Int) : doN 18 4 a b = rotL (a % 65536) (-(if wrapK 2 b < 0 then 0 else wrapK 2 b)) := by
  have hb := rotL_bd (a % 65536) (-(if wrapK 2 b < 0 then 0 else wrapK 2 b)) (by omega) (by omega)
  simp only [doN, hasB, zeroB, resK, secK, workK, cmpB, shB, shK, wrapK4]
  simp
  rw [wrapK4]
  omega
theorem turned (a b : Int) : doN 18 4 (doN 17 4 a b) b = wrapK 4 a := by
  rw [do_rol, do_ror]
  have hb := rotL_bd (a % 65536) (if wrapK 2 b < 0 then 0 else wrapK 2 b) (by omega) (by omega)
  have e : rotL (a % 65536) (if wrapK 2 b < 0 then 0 else wrapK 2 b) % 65536 = rotL (a % 65536) (if wrapK 2 b < 0 then 0 else wrapK 2 b) := by omega
  rw [e, rotL_back _ _ (by omega) (by omega), wrapK4]
theorem moved (a : Int) : doN 16 4 (doN 15 4 a 4) 4 = doN 6 4 a 4095 := by
  have e1 : doN 15 4 a 4 = a % 65536 * 16 % 65536 := by
    simp [doN, hasB, zeroB, resK, secK, workK, cmpB, shB, shK, wrapK4, wrapK2, wrapK_w64]
  have e2 : ∀ n : Int, doN 16 4 n 4 = n % 65536 / 16 % 65536 := fun n => by
    simp [doN, hasB, zeroB, resK, secK, workK, cmpB, shB, shK, wrapK4, wrapK2]
  have e3 : doN 6 4 a 4095 = a % 65536 % 4096 % 65536 := by
    simp [doN, hasB, zeroB, resK, secK, workK, cmpB, shB, mkB, maskK, wrapK4, mask12]
  rw [e1, e2, e3]
  omega

/-! ### STEP 1: THE WALK: the Go text returns true. 'Grown w w'': the world has at most new blocks (Derived/RowKit3.lean). Part the cases AHEAD of 'go_enter' where a test parts the walk; take each callee by a contract of your own. -/
theorem walk (a0 : Int) (a1 : Int) (w0 : (Lit.int .i64 a0).wf = true) (w1 : (Lit.int .i64 a1).wf = true) (w : World) :
    Calls Try.prog 3 #[.int .i64 a0, .int .i64 a1] w fun e w' => e = .returned (.bool true) ∧ Grown w w' := by
  have e1 := turned a0 a1
  have e2 := moved a0
  have e3 := mask16 a0
  have e4 := fits16 a0
  clear w0 w1
  go_enter Try.func3, Try.ntmps3
  go_wp2_with (first | (go_at_call 4; refine (do_any _ _ _ _ _).mono ?_; rintro e w' ⟨rfl, rfl⟩) | (go_at_call 5; refine (wrap_any _ _ _).mono ?_; rintro e w' ⟨rfl, rfl⟩) | (go_at_call 6; refine (fits_any _ _ _).mono ?_; rintro e w' ⟨rfl, rfl⟩))
  go_ret
  exact ⟨ret_bool rfl, Grown.refl _⟩

/-! ### THE ROW's STEP: WRITTEN OUT: LEAVE IT -/
set_option maxRecDepth 100000 in
theorem lifted (os : Os) (started : os.Started) (H : Type) (enc : TypeId × Value → H) :
    ReturnsInHanded {} Try.checked os 3 .any (Rows.cellTurnsSpec.pre6 enc Try.prog Try.f3 Rows.cellTurnsRow.domain false) (Rows.cellTurnsSpec.post enc Try.prog Try.f3 false true false false) := by
  refine returnsInHanded_of_change (C := Try.checked) own started (by kernel_rfl) Try.func3
    (ChangeSpec.witness6 (enc := enc) (C := Try.checked) false ⟨#[], #[.int .i64 0, .int .i64 0], []⟩ 8 (by kernel_rfl) (by kernel_rfl) (by kernel_rfl) (by kernel_rfl)) ?_
  intro W base args ds gs before hval0 hW hcnd _
  have hval : ∀ (j : Nat) t v, Try.f3.params[j]? = some t → args[j]? = some v → Value.okWide Try.prog W .any base t v := hval0
  have hW' := hW
  obtain ⟨p, q, hA0, hV, rfl, hfz, hnd⟩ := hW
  have hA : DataW.TrodAll enc Try.prog W 0 (fun _ => true) true Try.f3.params.toList args.toList ds p := hA0
  rw [Try.params3] at hA hval
  obtain ⟨v0, vs0, d0, ds0, p0, q0, hargs, rfl, rfl, h0, r0⟩ := trodAll_cons hA
  obtain ⟨v1, vs1, d1, ds1, p1, q1, rfl, rfl, rfl, h1, r1⟩ := trodAll_cons r0
  obtain ⟨rfl, rfl, rfl⟩ := trodAll_nil r1
  obtain rfl : args = #[v0, v1] := by cases args; simp_all
  obtain ⟨rfl, rfl⟩ := trodVars_none hV
  obtain ⟨a0, rfl, rfl, rfl, w0⟩ := open_int Try.underlying3 (hval 0 3 v0 rfl rfl) h0
  obtain ⟨a1, rfl, rfl, rfl, w1⟩ := open_int Try.underlying3 (hval 1 3 v1 rfl rfl) h1
  clear hA0 hval0
  simp only [List.append_nil] at hW'
  refine (walk a0 a1 w0 w1 W).mono fun e W' ⟨he, hg⟩ => ?_
  subst he
  exact ⟨_, rfl, post_of_same (pa := []) (pv := []) hW' (fun _ _ _ => (trodAll_cons_mk (shut_bool Try.underlying4 _) trodAll_mk0)) (fun sp _ => (trodAll_cons_mk (shut_int Try.underlying3 w0) (trodAll_cons_mk (shut_int Try.underlying3 w1) trodAll_mk0))) (fun _ _ => rfl) rfl
    (hg.frame _) hg.2.1 (ok_one (by kernel_rfl) rfl (okWide_bool_mk Try.underlying4 _))⟩

theorem over : Rows.cellTurnsRow.holds Try.pinned (OpenSpec.ofChange Rows.cellTurnsSpec) :=
  OpenClaim.holds_of_wide 3 Try.f3 rfl rfl rfl rfl rfl rfl rfl ⟨rfl, rfl, rfl, rfl, rfl⟩ rfl rfl rfl rfl rfl (by kernel_rfl) Try.func3 (by kernel_rfl)
    (of_decide_eq_true (by kernel_rfl)) (by unfold Func.isWrapper; first | (rw [if_pos (by decide +kernel)]; kernel_rfl) | (rw [if_neg (by decide +kernel)]; exact ⟨rfl, rfl⟩))
    (fun os started H enc _ => lifted os started H enc)

/-- ████ THE STATEMENT ████ -/
theorem proved : Rows.CellTurnsSaid :=
  over
#print axioms proved
end Go.Proofs.Ytnjlomdkenondab.cellTurns
