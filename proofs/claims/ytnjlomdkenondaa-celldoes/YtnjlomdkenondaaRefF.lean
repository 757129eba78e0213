/- The contract of the document's Do. -/
import Derived.Test.YtnjlomdkenondaaRefE
import Derived.Test.YtnjlomdkenondaaPlainC
namespace Go.Proofs.Ytnjlomdkenondaa
open Go.RowKit

theorem doN_of {op k b : Int} (a : Int) (hh : hasB op k = true) (hz : zeroB op k b = false) : doN op k a b = wrapK (resK op k) (workK op (wrapK k a) (wrapK (secK op k) b)) := by
  simp [doN, hh, hz]
theorem zeroB_not {op : Int} (k b : Int) (h4 : (op == 4) = false) (h5 : (op == 5) = false) : zeroB op k b = false := by
  simp [zeroB, h4, h5]
theorem res_nz {op k : Int} (hh : hasB op k = true) : (resK op k == 0) = false := by
  have := resK_zero op k
  simp only [hh] at this
  simp at this
  simpa using this
theorem mod_eq (r a b : Int) : wrapK r (wrap64 (a - wrap64 (wrap64 (a.tdiv b) * b))) = wrapK r (a.tmod b) := by
  apply wrapK_eq_of_emod
  have e := Int.mul_tdiv_add_tmod a b
  have e1 : ∀ x : Int, wrap64 x % 4294967296 = x % 4294967296 := fun x => by unfold wrap64; omega
  rw [e1, Int.sub_emod, e1, Int.mul_emod, e1, ← Int.mul_emod, ← Int.sub_emod, Int.mul_comm]
  congr 1
  omega
theorem has_mk {op k : Int} (hh : hasB op k = true) (hm : mkB op = true) : k = 1 ∨ k = 4 := by
  have ho : op = 6 ∨ op = 7 ∨ op = 8 ∨ op = 21 := by simp [mkB] at hm; omega
  rcases ho with rfl | rfl | rfl | rfl
  all_goals simpa [hasB] using hh
theorem wrap_word {k : Int} (n : Int) (h : k = 1 ∨ k = 4 ∨ k = 0) : 0 ≤ wrapK k n ∧ wrapK k n ≤ 65535 := by
  rcases h with rfl | rfl | rfl
  · rw [wrapK1]; omega
  · rw [wrapK4]; omega
  · rw [wrapK_else n (by decide) (by decide) (by decide) (by decide) (by decide)]; omega

set_option maxHeartbeats 2000000 in
theorem rdo1 (k a b : Int) (w : World) (hh : hasB 1 k = true) :
    Calls Try.prog 8 #[.int .i64 1, .int .i64 k, .int .i64 a, .int .i64 b] w fun e w' => e = .returned (.tuple #[.int .i64 (doN 1 k a b), .bool (doZ 1 k b)]) ∧ w' = w := by
  have hr := res_nz hh
  have bA := wrapK_bd k a
  have bB := wrapK_bd (secK 1 k) b
  have hz : zeroB 1 k b = false := zeroB_not k b (by decide) (by decide)
  have HZ : Hid (doZ 1 k b = false) := by
    show doZ 1 k b = false
    simp [doZ, hz]
  have HN : Hid (doN 1 k a b = wrapK (resK 1 k) (wrapK k a + wrapK (secK 1 k) b)) := by
    show doN 1 k a b = wrapK (resK 1 k) (wrapK k a + wrapK (secK 1 k) b)
    have e : workK 1 (wrapK k a) (wrapK (secK 1 k) b) = wrap64 (wrapK k a + wrapK (secK 1 k) b) := by simp [workK, shB, mkB, cmpB, reckK]
    rw [doN_of a hh hz, e, wrapK_w64]
  clear hz hh
  go_enter Try.func8, Try.ntmps8
  go_wp2_with (first | (go_at_call 14; refine (rresult_any _ _ _).mono ?_; rintro e w' ⟨rfl, rfl⟩) | (go_at_call 12; refine (rwrap_any _ _ _).mono ?_; rintro e w' ⟨rfl, rfl⟩) | (go_at_call 16; refine (rsecond_any _ _ _).mono ?_; rintro e w' ⟨rfl, rfl⟩) | (go_at_call 27; refine (yes_any _ _).mono ?_; rintro e w' ⟨rfl, rfl⟩))
  go_ret2
  refine ⟨?_, rfl⟩
  rw [HN.out, HZ.out]
  simp

set_option maxHeartbeats 2000000 in
theorem rdo2 (k a b : Int) (w : World) (hh : hasB 2 k = true) :
    Calls Try.prog 8 #[.int .i64 2, .int .i64 k, .int .i64 a, .int .i64 b] w fun e w' => e = .returned (.tuple #[.int .i64 (doN 2 k a b), .bool (doZ 2 k b)]) ∧ w' = w := by
  have hr := res_nz hh
  have bA := wrapK_bd k a
  have bB := wrapK_bd (secK 2 k) b
  have hz : zeroB 2 k b = false := zeroB_not k b (by decide) (by decide)
  have HZ : Hid (doZ 2 k b = false) := by
    show doZ 2 k b = false
    simp [doZ, hz]
  have HN : Hid (doN 2 k a b = wrapK (resK 2 k) (wrapK k a - wrapK (secK 2 k) b)) := by
    show doN 2 k a b = wrapK (resK 2 k) (wrapK k a - wrapK (secK 2 k) b)
    have e : workK 2 (wrapK k a) (wrapK (secK 2 k) b) = wrap64 (wrapK k a - wrapK (secK 2 k) b) := by simp [workK, shB, mkB, cmpB, reckK]
    rw [doN_of a hh hz, e, wrapK_w64]
  clear hz hh
  go_enter Try.func8, Try.ntmps8
  go_wp2_with (first | (go_at_call 14; refine (rresult_any _ _ _).mono ?_; rintro e w' ⟨rfl, rfl⟩) | (go_at_call 12; refine (rwrap_any _ _ _).mono ?_; rintro e w' ⟨rfl, rfl⟩) | (go_at_call 16; refine (rsecond_any _ _ _).mono ?_; rintro e w' ⟨rfl, rfl⟩) | (go_at_call 27; refine (yes_any _ _).mono ?_; rintro e w' ⟨rfl, rfl⟩))
  go_ret2
  refine ⟨?_, rfl⟩
  rw [HN.out, HZ.out]
  simp

set_option maxHeartbeats 2000000 in
theorem rdo3 (k a b : Int) (w : World) (hh : hasB 3 k = true) :
    Calls Try.prog 8 #[.int .i64 3, .int .i64 k, .int .i64 a, .int .i64 b] w fun e w' => e = .returned (.tuple #[.int .i64 (doN 3 k a b), .bool (doZ 3 k b)]) ∧ w' = w := by
  have hr := res_nz hh
  have bA := wrapK_bd k a
  have bB := wrapK_bd (secK 3 k) b
  have hz : zeroB 3 k b = false := zeroB_not k b (by decide) (by decide)
  have HZ : Hid (doZ 3 k b = false) := by
    show doZ 3 k b = false
    simp [doZ, hz]
  have HN : Hid (doN 3 k a b = wrapK (resK 3 k) (wrap64 (wrapK k a * wrapK (secK 3 k) b))) := by
    show doN 3 k a b = wrapK (resK 3 k) (wrap64 (wrapK k a * wrapK (secK 3 k) b))
    have e : workK 3 (wrapK k a) (wrapK (secK 3 k) b) = wrap64 (wrapK k a * wrapK (secK 3 k) b) := by simp [workK, shB, mkB, cmpB, reckK]
    rw [doN_of a hh hz, e]
  clear hz hh
  go_enter Try.func8, Try.ntmps8
  go_wp2_with (first | (go_at_call 14; refine (rresult_any _ _ _).mono ?_; rintro e w' ⟨rfl, rfl⟩) | (go_at_call 12; refine (rwrap_any _ _ _).mono ?_; rintro e w' ⟨rfl, rfl⟩) | (go_at_call 16; refine (rsecond_any _ _ _).mono ?_; rintro e w' ⟨rfl, rfl⟩) | (go_at_call 27; refine (yes_any _ _).mono ?_; rintro e w' ⟨rfl, rfl⟩))
  go_ret2
  refine ⟨?_, rfl⟩
  rw [HN.out, HZ.out]
  simp

set_option maxHeartbeats 2000000 in
theorem rdo22 (k a b : Int) (w : World) (hh : hasB 22 k = true) :
    Calls Try.prog 8 #[.int .i64 22, .int .i64 k, .int .i64 a, .int .i64 b] w fun e w' => e = .returned (.tuple #[.int .i64 (doN 22 k a b), .bool (doZ 22 k b)]) ∧ w' = w := by
  have hr := res_nz hh
  have bA := wrapK_bd k a
  have bB := wrapK_bd (secK 22 k) b
  have hz : zeroB 22 k b = false := zeroB_not k b (by decide) (by decide)
  have HZ : Hid (doZ 22 k b = false) := by
    show doZ 22 k b = false
    simp [doZ, hz]
  have HN : Hid (doN 22 k a b = wrapK (resK 22 k) (-(wrapK k a))) := by
    show doN 22 k a b = wrapK (resK 22 k) (-(wrapK k a))
    have e : workK 22 (wrapK k a) (wrapK (secK 22 k) b) = wrap64 (-(wrapK k a)) := by simp [workK, shB, mkB, cmpB, reckK]
    rw [doN_of a hh hz, e, wrapK_w64]
  clear hz hh
  go_enter Try.func8, Try.ntmps8
  go_wp2_with (first | (go_at_call 14; refine (rresult_any _ _ _).mono ?_; rintro e w' ⟨rfl, rfl⟩) | (go_at_call 12; refine (rwrap_any _ _ _).mono ?_; rintro e w' ⟨rfl, rfl⟩) | (go_at_call 16; refine (rsecond_any _ _ _).mono ?_; rintro e w' ⟨rfl, rfl⟩) | (go_at_call 27; refine (yes_any _ _).mono ?_; rintro e w' ⟨rfl, rfl⟩))
  go_ret2
  refine ⟨?_, rfl⟩
  rw [HN.out, HZ.out]
  simp

set_option maxHeartbeats 2000000 in
theorem rdo4 (k a b : Int) (w : World) (hh : hasB 4 k = true) :
    Calls Try.prog 8 #[.int .i64 4, .int .i64 k, .int .i64 a, .int .i64 b] w fun e w' => e = .returned (.tuple #[.int .i64 (doN 4 k a b), .bool (doZ 4 k b)]) ∧ w' = w := by
  have hr := res_nz hh
  have bA := wrapK_bd k a
  have bB := wrapK_bd (secK 4 k) b
  by_cases h0 : wrapK (secK 4 k) b = 0
  · have HN : Hid (doN 4 k a b = 0) := by
      show doN 4 k a b = 0
      simp [doN, hh, zeroB, h0]
    have HZ : Hid (doZ 4 k b = true) := by
      show doZ 4 k b = true
      simp [doZ, hh, zeroB, h0]
    have e0 : (wrapK (secK 4 k) b == 0) = true := by simpa using h0
    clear h0 hh
    go_enter Try.func8, Try.ntmps8
    go_wp2_with (first | (go_at_call 14; refine (rresult_any _ _ _).mono ?_; rintro e w' ⟨rfl, rfl⟩) | (go_at_call 12; refine (rwrap_any _ _ _).mono ?_; rintro e w' ⟨rfl, rfl⟩) | (go_at_call 16; refine (rsecond_any _ _ _).mono ?_; rintro e w' ⟨rfl, rfl⟩) | (go_at_call 27; refine (yes_any _ _).mono ?_; rintro e w' ⟨rfl, rfl⟩))
    go_ret2
    refine ⟨?_, rfl⟩
    rw [HN.out, HZ.out]
    simp
  · have hz : zeroB 4 k b = false := by simp [zeroB, h0]
    have HZ : Hid (doZ 4 k b = false) := by
      show doZ 4 k b = false
      simp [doZ, hz]
    have HN : Hid (doN 4 k a b = wrapK (resK 4 k) (wrap64 ((wrapK k a).tdiv (wrapK (secK 4 k) b)))) := by
      show doN 4 k a b = wrapK (resK 4 k) (wrap64 ((wrapK k a).tdiv (wrapK (secK 4 k) b)))
      have e : workK 4 (wrapK k a) (wrapK (secK 4 k) b) = wrap64 ((wrapK k a).tdiv (wrapK (secK 4 k) b)) := by simp [workK, shB, mkB, cmpB, reckK]
      rw [doN_of a hh hz, e]
    have e0 : (wrapK (secK 4 k) b == 0) = false := by simpa using h0
    clear hz hh
    go_enter Try.func8, Try.ntmps8
    go_wp2_with (first | (go_at_call 14; refine (rresult_any _ _ _).mono ?_; rintro e w' ⟨rfl, rfl⟩) | (go_at_call 12; refine (rwrap_any _ _ _).mono ?_; rintro e w' ⟨rfl, rfl⟩) | (go_at_call 16; refine (rsecond_any _ _ _).mono ?_; rintro e w' ⟨rfl, rfl⟩) | (go_at_call 27; refine (yes_any _ _).mono ?_; rintro e w' ⟨rfl, rfl⟩))
    go_ret2
    refine ⟨?_, rfl⟩
    rw [HN.out, HZ.out]
    simp

set_option maxHeartbeats 2000000 in
theorem rdo5 (k a b : Int) (w : World) (hh : hasB 5 k = true) :
    Calls Try.prog 8 #[.int .i64 5, .int .i64 k, .int .i64 a, .int .i64 b] w fun e w' => e = .returned (.tuple #[.int .i64 (doN 5 k a b), .bool (doZ 5 k b)]) ∧ w' = w := by
  have hr := res_nz hh
  have bA := wrapK_bd k a
  have bB := wrapK_bd (secK 5 k) b
  by_cases h0 : wrapK (secK 5 k) b = 0
  · have HN : Hid (doN 5 k a b = 0) := by
      show doN 5 k a b = 0
      simp [doN, hh, zeroB, h0]
    have HZ : Hid (doZ 5 k b = true) := by
      show doZ 5 k b = true
      simp [doZ, hh, zeroB, h0]
    have e0 : (wrapK (secK 5 k) b == 0) = true := by simpa using h0
    clear h0 hh
    go_enter Try.func8, Try.ntmps8
    go_wp2_with (first | (go_at_call 14; refine (rresult_any _ _ _).mono ?_; rintro e w' ⟨rfl, rfl⟩) | (go_at_call 12; refine (rwrap_any _ _ _).mono ?_; rintro e w' ⟨rfl, rfl⟩) | (go_at_call 16; refine (rsecond_any _ _ _).mono ?_; rintro e w' ⟨rfl, rfl⟩) | (go_at_call 27; refine (yes_any _ _).mono ?_; rintro e w' ⟨rfl, rfl⟩))
    go_ret2
    refine ⟨?_, rfl⟩
    rw [HN.out, HZ.out]
    simp
  · have hz : zeroB 5 k b = false := by simp [zeroB, h0]
    have HZ : Hid (doZ 5 k b = false) := by
      show doZ 5 k b = false
      simp [doZ, hz]
    have HN : Hid (doN 5 k a b = wrapK (resK 5 k) (wrap64 (wrapK k a - wrap64 (wrap64 ((wrapK k a).tdiv (wrapK (secK 5 k) b)) * wrapK (secK 5 k) b)))) := by
      show doN 5 k a b = wrapK (resK 5 k) (wrap64 (wrapK k a - wrap64 (wrap64 ((wrapK k a).tdiv (wrapK (secK 5 k) b)) * wrapK (secK 5 k) b)))
      have e : workK 5 (wrapK k a) (wrapK (secK 5 k) b) = (wrapK k a).tmod (wrapK (secK 5 k) b) := by simp [workK, shB, mkB, cmpB, reckK]
      rw [doN_of a hh hz, e, mod_eq]
    have e0 : (wrapK (secK 5 k) b == 0) = false := by simpa using h0
    clear hz hh
    go_enter Try.func8, Try.ntmps8
    go_wp2_with (first | (go_at_call 14; refine (rresult_any _ _ _).mono ?_; rintro e w' ⟨rfl, rfl⟩) | (go_at_call 12; refine (rwrap_any _ _ _).mono ?_; rintro e w' ⟨rfl, rfl⟩) | (go_at_call 16; refine (rsecond_any _ _ _).mono ?_; rintro e w' ⟨rfl, rfl⟩) | (go_at_call 27; refine (yes_any _ _).mono ?_; rintro e w' ⟨rfl, rfl⟩))
    go_ret2
    refine ⟨?_, rfl⟩
    rw [HN.out, HZ.out]
    simp

set_option maxHeartbeats 2000000 in
theorem rdo6 (k a b : Int) (w : World) (hh : hasB 6 k = true) :
    Calls Try.prog 8 #[.int .i64 6, .int .i64 k, .int .i64 a, .int .i64 b] w fun e w' => e = .returned (.tuple #[.int .i64 (doN 6 k a b), .bool (doZ 6 k b)]) ∧ w' = w := by
  have hr := res_nz hh
  have bA := wrapK_bd k a
  have bB := wrapK_bd (secK 6 k) b
  have hz : zeroB 6 k b = false := zeroB_not k b (by decide) (by decide)
  have HZ : Hid (doZ 6 k b = false) := by
    show doZ 6 k b = false
    simp [doZ, hz]
  have hk := has_mk hh (by decide)
  have hA := wrap_word a (show k = 1 ∨ k = 4 ∨ k = 0 by omega)
  have hB := wrap_word b (show secK 6 k = 1 ∨ secK 6 k = 4 ∨ secK 6 k = 0 by rw [show secK 6 k = k by simp [secK, hh]]; omega)
  have HN : Hid (doN 6 k a b = wrapK (resK 6 k) ((bwX 6 (wrapK k a).toNat (wrapK (secK 6 k) b).toNat : Nat) : Int)) := by
    show doN 6 k a b = wrapK (resK 6 k) ((bwX 6 (wrapK k a).toNat (wrapK (secK 6 k) b).toNat : Nat) : Int)
    have e : workK 6 (wrapK k a) (wrapK (secK 6 k) b) = maskK 6 (wrapK k a) (wrapK (secK 6 k) b) := by simp [workK, shB, mkB]
    have er : resK 6 k = k := by simp [resK, hh, cmpB]
    rw [doN_of a hh hz, e, er, mask_eq 6 k _ _ (by decide) hk hA.1 hA.2 hB.1 hB.2]
  clear hz hh hk
  go_enter Try.func8, Try.ntmps8
  go_wp2_with (first | (go_at_call 14; refine (rresult_any _ _ _).mono ?_; rintro e w' ⟨rfl, rfl⟩) | (go_at_call 12; refine (rwrap_any _ _ _).mono ?_; rintro e w' ⟨rfl, rfl⟩) | (go_at_call 16; refine (rsecond_any _ _ _).mono ?_; rintro e w' ⟨rfl, rfl⟩) | (go_at_call 27; refine (yes_any _ _).mono ?_; rintro e w' ⟨rfl, rfl⟩) | (go_at_call 26; refine (bitwise_any _ _ _ _ (by decide) hA.1 hA.2 hB.1 hB.2).mono ?_; rintro e w' ⟨rfl, rfl⟩))
  go_ret2
  refine ⟨?_, rfl⟩
  rw [HN.out, HZ.out]
  simp

set_option maxHeartbeats 2000000 in
theorem rdo7 (k a b : Int) (w : World) (hh : hasB 7 k = true) :
    Calls Try.prog 8 #[.int .i64 7, .int .i64 k, .int .i64 a, .int .i64 b] w fun e w' => e = .returned (.tuple #[.int .i64 (doN 7 k a b), .bool (doZ 7 k b)]) ∧ w' = w := by
  have hr := res_nz hh
  have bA := wrapK_bd k a
  have bB := wrapK_bd (secK 7 k) b
  have hz : zeroB 7 k b = false := zeroB_not k b (by decide) (by decide)
  have HZ : Hid (doZ 7 k b = false) := by
    show doZ 7 k b = false
    simp [doZ, hz]
  have hk := has_mk hh (by decide)
  have hA := wrap_word a (show k = 1 ∨ k = 4 ∨ k = 0 by omega)
  have hB := wrap_word b (show secK 7 k = 1 ∨ secK 7 k = 4 ∨ secK 7 k = 0 by rw [show secK 7 k = k by simp [secK, hh]]; omega)
  have HN : Hid (doN 7 k a b = wrapK (resK 7 k) ((bwX 7 (wrapK k a).toNat (wrapK (secK 7 k) b).toNat : Nat) : Int)) := by
    show doN 7 k a b = wrapK (resK 7 k) ((bwX 7 (wrapK k a).toNat (wrapK (secK 7 k) b).toNat : Nat) : Int)
    have e : workK 7 (wrapK k a) (wrapK (secK 7 k) b) = maskK 7 (wrapK k a) (wrapK (secK 7 k) b) := by simp [workK, shB, mkB]
    have er : resK 7 k = k := by simp [resK, hh, cmpB]
    rw [doN_of a hh hz, e, er, mask_eq 7 k _ _ (by decide) hk hA.1 hA.2 hB.1 hB.2]
  clear hz hh hk
  go_enter Try.func8, Try.ntmps8
  go_wp2_with (first | (go_at_call 14; refine (rresult_any _ _ _).mono ?_; rintro e w' ⟨rfl, rfl⟩) | (go_at_call 12; refine (rwrap_any _ _ _).mono ?_; rintro e w' ⟨rfl, rfl⟩) | (go_at_call 16; refine (rsecond_any _ _ _).mono ?_; rintro e w' ⟨rfl, rfl⟩) | (go_at_call 27; refine (yes_any _ _).mono ?_; rintro e w' ⟨rfl, rfl⟩) | (go_at_call 26; refine (bitwise_any _ _ _ _ (by decide) hA.1 hA.2 hB.1 hB.2).mono ?_; rintro e w' ⟨rfl, rfl⟩))
  go_ret2
  refine ⟨?_, rfl⟩
  rw [HN.out, HZ.out]
  simp

set_option maxHeartbeats 2000000 in
theorem rdo8 (k a b : Int) (w : World) (hh : hasB 8 k = true) :
    Calls Try.prog 8 #[.int .i64 8, .int .i64 k, .int .i64 a, .int .i64 b] w fun e w' => e = .returned (.tuple #[.int .i64 (doN 8 k a b), .bool (doZ 8 k b)]) ∧ w' = w := by
  have hr := res_nz hh
  have bA := wrapK_bd k a
  have bB := wrapK_bd (secK 8 k) b
  have hz : zeroB 8 k b = false := zeroB_not k b (by decide) (by decide)
  have HZ : Hid (doZ 8 k b = false) := by
    show doZ 8 k b = false
    simp [doZ, hz]
  have hk := has_mk hh (by decide)
  have hA := wrap_word a (show k = 1 ∨ k = 4 ∨ k = 0 by omega)
  have hB := wrap_word b (show secK 8 k = 1 ∨ secK 8 k = 4 ∨ secK 8 k = 0 by rw [show secK 8 k = k by simp [secK, hh]]; omega)
  have HN : Hid (doN 8 k a b = wrapK (resK 8 k) ((bwX 8 (wrapK k a).toNat (wrapK (secK 8 k) b).toNat : Nat) : Int)) := by
    show doN 8 k a b = wrapK (resK 8 k) ((bwX 8 (wrapK k a).toNat (wrapK (secK 8 k) b).toNat : Nat) : Int)
    have e : workK 8 (wrapK k a) (wrapK (secK 8 k) b) = maskK 8 (wrapK k a) (wrapK (secK 8 k) b) := by simp [workK, shB, mkB]
    have er : resK 8 k = k := by simp [resK, hh, cmpB]
    rw [doN_of a hh hz, e, er, mask_eq 8 k _ _ (by decide) hk hA.1 hA.2 hB.1 hB.2]
  clear hz hh hk
  go_enter Try.func8, Try.ntmps8
  go_wp2_with (first | (go_at_call 14; refine (rresult_any _ _ _).mono ?_; rintro e w' ⟨rfl, rfl⟩) | (go_at_call 12; refine (rwrap_any _ _ _).mono ?_; rintro e w' ⟨rfl, rfl⟩) | (go_at_call 16; refine (rsecond_any _ _ _).mono ?_; rintro e w' ⟨rfl, rfl⟩) | (go_at_call 27; refine (yes_any _ _).mono ?_; rintro e w' ⟨rfl, rfl⟩) | (go_at_call 26; refine (bitwise_any _ _ _ _ (by decide) hA.1 hA.2 hB.1 hB.2).mono ?_; rintro e w' ⟨rfl, rfl⟩))
  go_ret2
  refine ⟨?_, rfl⟩
  rw [HN.out, HZ.out]
  simp

set_option maxHeartbeats 2000000 in
theorem rdo21 (k a b : Int) (w : World) (hh : hasB 21 k = true) :
    Calls Try.prog 8 #[.int .i64 21, .int .i64 k, .int .i64 a, .int .i64 b] w fun e w' => e = .returned (.tuple #[.int .i64 (doN 21 k a b), .bool (doZ 21 k b)]) ∧ w' = w := by
  have hr := res_nz hh
  have bA := wrapK_bd k a
  have bB := wrapK_bd (secK 21 k) b
  have hz : zeroB 21 k b = false := zeroB_not k b (by decide) (by decide)
  have HZ : Hid (doZ 21 k b = false) := by
    show doZ 21 k b = false
    simp [doZ, hz]
  have hk := has_mk hh (by decide)
  have hA := wrap_word a (show k = 1 ∨ k = 4 ∨ k = 0 by omega)
  have hB := wrap_word b (show secK 21 k = 1 ∨ secK 21 k = 4 ∨ secK 21 k = 0 by simp [secK, hh])
  have HN : Hid (doN 21 k a b = wrapK (resK 21 k) ((bwX 21 (wrapK k a).toNat (wrapK (secK 21 k) b).toNat : Nat) : Int)) := by
    show doN 21 k a b = wrapK (resK 21 k) ((bwX 21 (wrapK k a).toNat (wrapK (secK 21 k) b).toNat : Nat) : Int)
    have e : workK 21 (wrapK k a) (wrapK (secK 21 k) b) = maskK 21 (wrapK k a) (wrapK (secK 21 k) b) := by simp [workK, shB, mkB]
    have er : resK 21 k = k := by simp [resK, hh, cmpB]
    rw [doN_of a hh hz, e, er, mask_eq 21 k _ _ (by decide) hk hA.1 hA.2 hB.1 hB.2]
  clear hz hh hk
  go_enter Try.func8, Try.ntmps8
  go_wp2_with (first | (go_at_call 14; refine (rresult_any _ _ _).mono ?_; rintro e w' ⟨rfl, rfl⟩) | (go_at_call 12; refine (rwrap_any _ _ _).mono ?_; rintro e w' ⟨rfl, rfl⟩) | (go_at_call 16; refine (rsecond_any _ _ _).mono ?_; rintro e w' ⟨rfl, rfl⟩) | (go_at_call 27; refine (yes_any _ _).mono ?_; rintro e w' ⟨rfl, rfl⟩) | (go_at_call 26; refine (bitwise_any _ _ _ _ (by decide) hA.1 hA.2 hB.1 hB.2).mono ?_; rintro e w' ⟨rfl, rfl⟩))
  go_ret2
  refine ⟨?_, rfl⟩
  rw [HN.out, HZ.out]
  simp

set_option maxHeartbeats 2000000 in
theorem rdo9 (k a b : Int) (w : World) (hh : hasB 9 k = true) :
    Calls Try.prog 8 #[.int .i64 9, .int .i64 k, .int .i64 a, .int .i64 b] w fun e w' => e = .returned (.tuple #[.int .i64 (doN 9 k a b), .bool (doZ 9 k b)]) ∧ w' = w := by
  have hr := res_nz hh
  have bA := wrapK_bd k a
  have bB := wrapK_bd (secK 9 k) b
  have hz : zeroB 9 k b = false := zeroB_not k b (by decide) (by decide)
  have HZ : Hid (doZ 9 k b = false) := by
    show doZ 9 k b = false
    simp [doZ, hz]
  have HN : Hid (doN 9 k a b = wrapK (resK 9 k) (tru (wrapK k a == wrapK (secK 9 k) b))) := by
    show doN 9 k a b = wrapK (resK 9 k) (tru (wrapK k a == wrapK (secK 9 k) b))
    have e : workK 9 (wrapK k a) (wrapK (secK 9 k) b) = tru (wrapK k a == wrapK (secK 9 k) b) := by simp [workK, shB, mkB, cmpB, holdsB]
    rw [doN_of a hh hz, e]
  clear hz hh
  go_enter Try.func8, Try.ntmps8
  go_wp2_with (first | (go_at_call 14; refine (rresult_any _ _ _).mono ?_; rintro e w' ⟨rfl, rfl⟩) | (go_at_call 12; refine (rwrap_any _ _ _).mono ?_; rintro e w' ⟨rfl, rfl⟩) | (go_at_call 16; refine (rsecond_any _ _ _).mono ?_; rintro e w' ⟨rfl, rfl⟩) | (go_at_call 27; refine (yes_any _ _).mono ?_; rintro e w' ⟨rfl, rfl⟩))
  go_ret2
  refine ⟨?_, rfl⟩
  rw [HN.out, HZ.out]
  simp

set_option maxHeartbeats 2000000 in
theorem rdo10 (k a b : Int) (w : World) (hh : hasB 10 k = true) :
    Calls Try.prog 8 #[.int .i64 10, .int .i64 k, .int .i64 a, .int .i64 b] w fun e w' => e = .returned (.tuple #[.int .i64 (doN 10 k a b), .bool (doZ 10 k b)]) ∧ w' = w := by
  have hr := res_nz hh
  have bA := wrapK_bd k a
  have bB := wrapK_bd (secK 10 k) b
  have hz : zeroB 10 k b = false := zeroB_not k b (by decide) (by decide)
  have HZ : Hid (doZ 10 k b = false) := by
    show doZ 10 k b = false
    simp [doZ, hz]
  have HN : Hid (doN 10 k a b = wrapK (resK 10 k) (tru (wrapK k a != wrapK (secK 10 k) b))) := by
    show doN 10 k a b = wrapK (resK 10 k) (tru (wrapK k a != wrapK (secK 10 k) b))
    have e : workK 10 (wrapK k a) (wrapK (secK 10 k) b) = tru (wrapK k a != wrapK (secK 10 k) b) := by simp [workK, shB, mkB, cmpB, holdsB]
    rw [doN_of a hh hz, e]
  clear hz hh
  go_enter Try.func8, Try.ntmps8
  go_wp2_with (first | (go_at_call 14; refine (rresult_any _ _ _).mono ?_; rintro e w' ⟨rfl, rfl⟩) | (go_at_call 12; refine (rwrap_any _ _ _).mono ?_; rintro e w' ⟨rfl, rfl⟩) | (go_at_call 16; refine (rsecond_any _ _ _).mono ?_; rintro e w' ⟨rfl, rfl⟩) | (go_at_call 27; refine (yes_any _ _).mono ?_; rintro e w' ⟨rfl, rfl⟩))
  go_ret2
  refine ⟨?_, rfl⟩
  rw [HN.out, HZ.out]
  simp

set_option maxHeartbeats 2000000 in
theorem rdo11 (k a b : Int) (w : World) (hh : hasB 11 k = true) :
    Calls Try.prog 8 #[.int .i64 11, .int .i64 k, .int .i64 a, .int .i64 b] w fun e w' => e = .returned (.tuple #[.int .i64 (doN 11 k a b), .bool (doZ 11 k b)]) ∧ w' = w := by
  have hr := res_nz hh
  have bA := wrapK_bd k a
  have bB := wrapK_bd (secK 11 k) b
  have hz : zeroB 11 k b = false := zeroB_not k b (by decide) (by decide)
  have HZ : Hid (doZ 11 k b = false) := by
    show doZ 11 k b = false
    simp [doZ, hz]
  have HN : Hid (doN 11 k a b = wrapK (resK 11 k) (tru (decide (wrapK k a < wrapK (secK 11 k) b)))) := by
    show doN 11 k a b = wrapK (resK 11 k) (tru (decide (wrapK k a < wrapK (secK 11 k) b)))
    have e : workK 11 (wrapK k a) (wrapK (secK 11 k) b) = tru (decide (wrapK k a < wrapK (secK 11 k) b)) := by simp [workK, shB, mkB, cmpB, holdsB]
    rw [doN_of a hh hz, e]
  clear hz hh
  go_enter Try.func8, Try.ntmps8
  go_wp2_with (first | (go_at_call 14; refine (rresult_any _ _ _).mono ?_; rintro e w' ⟨rfl, rfl⟩) | (go_at_call 12; refine (rwrap_any _ _ _).mono ?_; rintro e w' ⟨rfl, rfl⟩) | (go_at_call 16; refine (rsecond_any _ _ _).mono ?_; rintro e w' ⟨rfl, rfl⟩) | (go_at_call 27; refine (yes_any _ _).mono ?_; rintro e w' ⟨rfl, rfl⟩))
  go_ret2
  refine ⟨?_, rfl⟩
  rw [HN.out, HZ.out]
  simp

set_option maxHeartbeats 2000000 in
theorem rdo12 (k a b : Int) (w : World) (hh : hasB 12 k = true) :
    Calls Try.prog 8 #[.int .i64 12, .int .i64 k, .int .i64 a, .int .i64 b] w fun e w' => e = .returned (.tuple #[.int .i64 (doN 12 k a b), .bool (doZ 12 k b)]) ∧ w' = w := by
  have hr := res_nz hh
  have bA := wrapK_bd k a
  have bB := wrapK_bd (secK 12 k) b
  have hz : zeroB 12 k b = false := zeroB_not k b (by decide) (by decide)
  have HZ : Hid (doZ 12 k b = false) := by
    show doZ 12 k b = false
    simp [doZ, hz]
  have HN : Hid (doN 12 k a b = wrapK (resK 12 k) (tru (decide (wrapK k a ≤ wrapK (secK 12 k) b)))) := by
    show doN 12 k a b = wrapK (resK 12 k) (tru (decide (wrapK k a ≤ wrapK (secK 12 k) b)))
    have e : workK 12 (wrapK k a) (wrapK (secK 12 k) b) = tru (decide (wrapK k a ≤ wrapK (secK 12 k) b)) := by simp [workK, shB, mkB, cmpB, holdsB]
    rw [doN_of a hh hz, e]
  clear hz hh
  go_enter Try.func8, Try.ntmps8
  go_wp2_with (first | (go_at_call 14; refine (rresult_any _ _ _).mono ?_; rintro e w' ⟨rfl, rfl⟩) | (go_at_call 12; refine (rwrap_any _ _ _).mono ?_; rintro e w' ⟨rfl, rfl⟩) | (go_at_call 16; refine (rsecond_any _ _ _).mono ?_; rintro e w' ⟨rfl, rfl⟩) | (go_at_call 27; refine (yes_any _ _).mono ?_; rintro e w' ⟨rfl, rfl⟩))
  go_ret2
  refine ⟨?_, rfl⟩
  rw [HN.out, HZ.out]
  simp

set_option maxHeartbeats 2000000 in
theorem rdo13 (k a b : Int) (w : World) (hh : hasB 13 k = true) :
    Calls Try.prog 8 #[.int .i64 13, .int .i64 k, .int .i64 a, .int .i64 b] w fun e w' => e = .returned (.tuple #[.int .i64 (doN 13 k a b), .bool (doZ 13 k b)]) ∧ w' = w := by
  have hr := res_nz hh
  have bA := wrapK_bd k a
  have bB := wrapK_bd (secK 13 k) b
  have hz : zeroB 13 k b = false := zeroB_not k b (by decide) (by decide)
  have HZ : Hid (doZ 13 k b = false) := by
    show doZ 13 k b = false
    simp [doZ, hz]
  have HN : Hid (doN 13 k a b = wrapK (resK 13 k) (tru (decide (wrapK (secK 13 k) b < wrapK k a)))) := by
    show doN 13 k a b = wrapK (resK 13 k) (tru (decide (wrapK (secK 13 k) b < wrapK k a)))
    have e : workK 13 (wrapK k a) (wrapK (secK 13 k) b) = tru (decide (wrapK (secK 13 k) b < wrapK k a)) := by simp [workK, shB, mkB, cmpB, holdsB]
    rw [doN_of a hh hz, e]
  clear hz hh
  go_enter Try.func8, Try.ntmps8
  go_wp2_with (first | (go_at_call 14; refine (rresult_any _ _ _).mono ?_; rintro e w' ⟨rfl, rfl⟩) | (go_at_call 12; refine (rwrap_any _ _ _).mono ?_; rintro e w' ⟨rfl, rfl⟩) | (go_at_call 16; refine (rsecond_any _ _ _).mono ?_; rintro e w' ⟨rfl, rfl⟩) | (go_at_call 27; refine (yes_any _ _).mono ?_; rintro e w' ⟨rfl, rfl⟩))
  go_ret2
  refine ⟨?_, rfl⟩
  rw [HN.out, HZ.out]
  simp

set_option maxHeartbeats 2000000 in
theorem rdo14 (k a b : Int) (w : World) (hh : hasB 14 k = true) :
    Calls Try.prog 8 #[.int .i64 14, .int .i64 k, .int .i64 a, .int .i64 b] w fun e w' => e = .returned (.tuple #[.int .i64 (doN 14 k a b), .bool (doZ 14 k b)]) ∧ w' = w := by
  have hr := res_nz hh
  have bA := wrapK_bd k a
  have bB := wrapK_bd (secK 14 k) b
  have hz : zeroB 14 k b = false := zeroB_not k b (by decide) (by decide)
  have HZ : Hid (doZ 14 k b = false) := by
    show doZ 14 k b = false
    simp [doZ, hz]
  have HN : Hid (doN 14 k a b = wrapK (resK 14 k) (tru (decide (wrapK (secK 14 k) b ≤ wrapK k a)))) := by
    show doN 14 k a b = wrapK (resK 14 k) (tru (decide (wrapK (secK 14 k) b ≤ wrapK k a)))
    have e : workK 14 (wrapK k a) (wrapK (secK 14 k) b) = tru (decide (wrapK (secK 14 k) b ≤ wrapK k a)) := by simp [workK, shB, mkB, cmpB, holdsB]
    rw [doN_of a hh hz, e]
  clear hz hh
  go_enter Try.func8, Try.ntmps8
  go_wp2_with (first | (go_at_call 14; refine (rresult_any _ _ _).mono ?_; rintro e w' ⟨rfl, rfl⟩) | (go_at_call 12; refine (rwrap_any _ _ _).mono ?_; rintro e w' ⟨rfl, rfl⟩) | (go_at_call 16; refine (rsecond_any _ _ _).mono ?_; rintro e w' ⟨rfl, rfl⟩) | (go_at_call 27; refine (yes_any _ _).mono ?_; rintro e w' ⟨rfl, rfl⟩))
  go_ret2
  refine ⟨?_, rfl⟩
  rw [HN.out, HZ.out]
  simp

set_option maxHeartbeats 2000000 in
theorem rdo15 (k a b : Int) (w : World) (hh : hasB 15 k = true) :
    Calls Try.prog 8 #[.int .i64 15, .int .i64 k, .int .i64 a, .int .i64 b] w fun e w' => e = .returned (.tuple #[.int .i64 (doN 15 k a b), .bool (doZ 15 k b)]) ∧ w' = w := by
  have hr := res_nz hh
  have bA := wrapK_bd k a
  have bB := wrapK_bd (secK 15 k) b
  have hz : zeroB 15 k b = false := zeroB_not k b (by decide) (by decide)
  have HZ : Hid (doZ 15 k b = false) := by
    show doZ 15 k b = false
    simp [doZ, hz]
  have hk : k = 4 := has_sh hh (by decide)
  have hA := wrap_word a (show k = 1 ∨ k = 4 ∨ k = 0 by omega)
  have hs : secK 15 k = 2 := sec_sh hh (by decide)
  have hB : wrapK (secK 15 k) b ≤ 32767 := by rw [hs, wrapK2]; omega
  have HN : Hid (doN 15 k a b = wrapK (resK 15 k) (mvY 15 (wrapK k a) (wrapK (secK 15 k) b))) := by
    show doN 15 k a b = wrapK (resK 15 k) (mvY 15 (wrapK k a) (wrapK (secK 15 k) b))
    have e : workK 15 (wrapK k a) (wrapK (secK 15 k) b) = shK 15 (wrapK k a) (if wrapK (secK 15 k) b < 0 then 0 else wrapK (secK 15 k) b) := by simp [workK, shB]
    have er : resK 15 k = 4 := by rw [← hk]; simp [resK, hh, cmpB]
    rw [doN_of a hh hz, e, er, shift_eq 15 _ _ (by decide) hA.1 hA.2 (by split <;> omega), mvY]
  clear hz hh hk hs
  go_enter Try.func8, Try.ntmps8
  go_wp2_with (first | (go_at_call 14; refine (rresult_any _ _ _).mono ?_; rintro e w' ⟨rfl, rfl⟩) | (go_at_call 12; refine (rwrap_any _ _ _).mono ?_; rintro e w' ⟨rfl, rfl⟩) | (go_at_call 16; refine (rsecond_any _ _ _).mono ?_; rintro e w' ⟨rfl, rfl⟩) | (go_at_call 27; refine (yes_any _ _).mono ?_; rintro e w' ⟨rfl, rfl⟩) | (go_at_call 28; refine (moved_any _ _ _ _ (by decide) hA.1 hA.2 hB).mono ?_; rintro e w' ⟨rfl, rfl⟩))
  go_ret2
  refine ⟨?_, rfl⟩
  rw [HN.out, HZ.out]
  simp

set_option maxHeartbeats 2000000 in
theorem rdo16 (k a b : Int) (w : World) (hh : hasB 16 k = true) :
    Calls Try.prog 8 #[.int .i64 16, .int .i64 k, .int .i64 a, .int .i64 b] w fun e w' => e = .returned (.tuple #[.int .i64 (doN 16 k a b), .bool (doZ 16 k b)]) ∧ w' = w := by
  have hr := res_nz hh
  have bA := wrapK_bd k a
  have bB := wrapK_bd (secK 16 k) b
  have hz : zeroB 16 k b = false := zeroB_not k b (by decide) (by decide)
  have HZ : Hid (doZ 16 k b = false) := by
    show doZ 16 k b = false
    simp [doZ, hz]
  have hk : k = 4 := has_sh hh (by decide)
  have hA := wrap_word a (show k = 1 ∨ k = 4 ∨ k = 0 by omega)
  have hs : secK 16 k = 2 := sec_sh hh (by decide)
  have hB : wrapK (secK 16 k) b ≤ 32767 := by rw [hs, wrapK2]; omega
  have HN : Hid (doN 16 k a b = wrapK (resK 16 k) (mvY 16 (wrapK k a) (wrapK (secK 16 k) b))) := by
    show doN 16 k a b = wrapK (resK 16 k) (mvY 16 (wrapK k a) (wrapK (secK 16 k) b))
    have e : workK 16 (wrapK k a) (wrapK (secK 16 k) b) = shK 16 (wrapK k a) (if wrapK (secK 16 k) b < 0 then 0 else wrapK (secK 16 k) b) := by simp [workK, shB]
    have er : resK 16 k = 4 := by rw [← hk]; simp [resK, hh, cmpB]
    rw [doN_of a hh hz, e, er, shift_eq 16 _ _ (by decide) hA.1 hA.2 (by split <;> omega), mvY]
  clear hz hh hk hs
  go_enter Try.func8, Try.ntmps8
  go_wp2_with (first | (go_at_call 14; refine (rresult_any _ _ _).mono ?_; rintro e w' ⟨rfl, rfl⟩) | (go_at_call 12; refine (rwrap_any _ _ _).mono ?_; rintro e w' ⟨rfl, rfl⟩) | (go_at_call 16; refine (rsecond_any _ _ _).mono ?_; rintro e w' ⟨rfl, rfl⟩) | (go_at_call 27; refine (yes_any _ _).mono ?_; rintro e w' ⟨rfl, rfl⟩) | (go_at_call 28; refine (moved_any _ _ _ _ (by decide) hA.1 hA.2 hB).mono ?_; rintro e w' ⟨rfl, rfl⟩))
  go_ret2
  refine ⟨?_, rfl⟩
  rw [HN.out, HZ.out]
  simp

set_option maxHeartbeats 2000000 in
theorem rdo17 (k a b : Int) (w : World) (hh : hasB 17 k = true) :
    Calls Try.prog 8 #[.int .i64 17, .int .i64 k, .int .i64 a, .int .i64 b] w fun e w' => e = .returned (.tuple #[.int .i64 (doN 17 k a b), .bool (doZ 17 k b)]) ∧ w' = w := by
  have hr := res_nz hh
  have bA := wrapK_bd k a
  have bB := wrapK_bd (secK 17 k) b
  have hz : zeroB 17 k b = false := zeroB_not k b (by decide) (by decide)
  have HZ : Hid (doZ 17 k b = false) := by
    show doZ 17 k b = false
    simp [doZ, hz]
  have hk : k = 4 := has_sh hh (by decide)
  have hA := wrap_word a (show k = 1 ∨ k = 4 ∨ k = 0 by omega)
  have hs : secK 17 k = 2 := sec_sh hh (by decide)
  have hB : wrapK (secK 17 k) b ≤ 32767 := by rw [hs, wrapK2]; omega
  have HN : Hid (doN 17 k a b = wrapK (resK 17 k) (mvY 17 (wrapK k a) (wrapK (secK 17 k) b))) := by
    show doN 17 k a b = wrapK (resK 17 k) (mvY 17 (wrapK k a) (wrapK (secK 17 k) b))
    have e : workK 17 (wrapK k a) (wrapK (secK 17 k) b) = shK 17 (wrapK k a) (if wrapK (secK 17 k) b < 0 then 0 else wrapK (secK 17 k) b) := by simp [workK, shB]
    have er : resK 17 k = 4 := by rw [← hk]; simp [resK, hh, cmpB]
    rw [doN_of a hh hz, e, er, shift_eq 17 _ _ (by decide) hA.1 hA.2 (by split <;> omega), mvY]
  clear hz hh hk hs
  go_enter Try.func8, Try.ntmps8
  go_wp2_with (first | (go_at_call 14; refine (rresult_any _ _ _).mono ?_; rintro e w' ⟨rfl, rfl⟩) | (go_at_call 12; refine (rwrap_any _ _ _).mono ?_; rintro e w' ⟨rfl, rfl⟩) | (go_at_call 16; refine (rsecond_any _ _ _).mono ?_; rintro e w' ⟨rfl, rfl⟩) | (go_at_call 27; refine (yes_any _ _).mono ?_; rintro e w' ⟨rfl, rfl⟩) | (go_at_call 28; refine (moved_any _ _ _ _ (by decide) hA.1 hA.2 hB).mono ?_; rintro e w' ⟨rfl, rfl⟩))
  go_ret2
  refine ⟨?_, rfl⟩
  rw [HN.out, HZ.out]
  simp

set_option maxHeartbeats 2000000 in
theorem rdo18 (k a b : Int) (w : World) (hh : hasB 18 k = true) :
    Calls Try.prog 8 #[.int .i64 18, .int .i64 k, .int .i64 a, .int .i64 b] w fun e w' => e = .returned (.tuple #[.int .i64 (doN 18 k a b), .bool (doZ 18 k b)]) ∧ w' = w := by
  have hr := res_nz hh
  have bA := wrapK_bd k a
  have bB := wrapK_bd (secK 18 k) b
  have hz : zeroB 18 k b = false := zeroB_not k b (by decide) (by decide)
  have HZ : Hid (doZ 18 k b = false) := by
    show doZ 18 k b = false
    simp [doZ, hz]
  have hk : k = 4 := has_sh hh (by decide)
  have hA := wrap_word a (show k = 1 ∨ k = 4 ∨ k = 0 by omega)
  have hs : secK 18 k = 2 := sec_sh hh (by decide)
  have hB : wrapK (secK 18 k) b ≤ 32767 := by rw [hs, wrapK2]; omega
  have HN : Hid (doN 18 k a b = wrapK (resK 18 k) (mvY 18 (wrapK k a) (wrapK (secK 18 k) b))) := by
    show doN 18 k a b = wrapK (resK 18 k) (mvY 18 (wrapK k a) (wrapK (secK 18 k) b))
    have e : workK 18 (wrapK k a) (wrapK (secK 18 k) b) = shK 18 (wrapK k a) (if wrapK (secK 18 k) b < 0 then 0 else wrapK (secK 18 k) b) := by simp [workK, shB]
    have er : resK 18 k = 4 := by rw [← hk]; simp [resK, hh, cmpB]
    rw [doN_of a hh hz, e, er, shift_eq 18 _ _ (by decide) hA.1 hA.2 (by split <;> omega), mvY]
  clear hz hh hk hs
  go_enter Try.func8, Try.ntmps8
  go_wp2_with (first | (go_at_call 14; refine (rresult_any _ _ _).mono ?_; rintro e w' ⟨rfl, rfl⟩) | (go_at_call 12; refine (rwrap_any _ _ _).mono ?_; rintro e w' ⟨rfl, rfl⟩) | (go_at_call 16; refine (rsecond_any _ _ _).mono ?_; rintro e w' ⟨rfl, rfl⟩) | (go_at_call 27; refine (yes_any _ _).mono ?_; rintro e w' ⟨rfl, rfl⟩) | (go_at_call 28; refine (moved_any _ _ _ _ (by decide) hA.1 hA.2 hB).mono ?_; rintro e w' ⟨rfl, rfl⟩))
  go_ret2
  refine ⟨?_, rfl⟩
  rw [HN.out, HZ.out]
  simp

set_option maxHeartbeats 2000000 in
theorem rdo19 (k a b : Int) (w : World) (hh : hasB 19 k = true) :
    Calls Try.prog 8 #[.int .i64 19, .int .i64 k, .int .i64 a, .int .i64 b] w fun e w' => e = .returned (.tuple #[.int .i64 (doN 19 k a b), .bool (doZ 19 k b)]) ∧ w' = w := by
  have hr := res_nz hh
  have bA := wrapK_bd k a
  have bB := wrapK_bd (secK 19 k) b
  have hz : zeroB 19 k b = false := zeroB_not k b (by decide) (by decide)
  have HZ : Hid (doZ 19 k b = false) := by
    show doZ 19 k b = false
    simp [doZ, hz]
  have e : workK 19 (wrapK k a) (wrapK (secK 19 k) b) = (if wrapK (secK 19 k) b < wrapK k a then wrapK (secK 19 k) b else wrapK k a) := by simp [workK, shB, mkB, cmpB, reckK]
  have ed := doN_of a hh hz
  by_cases hc : wrapK (secK 19 k) b < wrapK k a
  · have HN : Hid (doN 19 k a b = wrapK (resK 19 k) (wrapK (secK 19 k) b)) := by
      show doN 19 k a b = wrapK (resK 19 k) (wrapK (secK 19 k) b)
      rw [ed, e]
      congr 1
      rw [if_pos hc]
    clear ed e hz hh
    go_enter Try.func8, Try.ntmps8
    go_wp2_with (first | (go_at_call 14; refine (rresult_any _ _ _).mono ?_; rintro e w' ⟨rfl, rfl⟩) | (go_at_call 12; refine (rwrap_any _ _ _).mono ?_; rintro e w' ⟨rfl, rfl⟩) | (go_at_call 16; refine (rsecond_any _ _ _).mono ?_; rintro e w' ⟨rfl, rfl⟩) | (go_at_call 27; refine (yes_any _ _).mono ?_; rintro e w' ⟨rfl, rfl⟩))
    go_ret2
    refine ⟨?_, rfl⟩
    rw [HN.out, HZ.out]
    simp
  · have HN : Hid (doN 19 k a b = wrapK (resK 19 k) (wrapK k a)) := by
      show doN 19 k a b = wrapK (resK 19 k) (wrapK k a)
      rw [ed, e]
      congr 1
      rw [if_neg hc]
    clear ed e hz hh
    go_enter Try.func8, Try.ntmps8
    go_wp2_with (first | (go_at_call 14; refine (rresult_any _ _ _).mono ?_; rintro e w' ⟨rfl, rfl⟩) | (go_at_call 12; refine (rwrap_any _ _ _).mono ?_; rintro e w' ⟨rfl, rfl⟩) | (go_at_call 16; refine (rsecond_any _ _ _).mono ?_; rintro e w' ⟨rfl, rfl⟩) | (go_at_call 27; refine (yes_any _ _).mono ?_; rintro e w' ⟨rfl, rfl⟩))
    go_ret2
    refine ⟨?_, rfl⟩
    rw [HN.out, HZ.out]
    simp

set_option maxHeartbeats 2000000 in
theorem rdo20 (k a b : Int) (w : World) (hh : hasB 20 k = true) :
    Calls Try.prog 8 #[.int .i64 20, .int .i64 k, .int .i64 a, .int .i64 b] w fun e w' => e = .returned (.tuple #[.int .i64 (doN 20 k a b), .bool (doZ 20 k b)]) ∧ w' = w := by
  have hr := res_nz hh
  have bA := wrapK_bd k a
  have bB := wrapK_bd (secK 20 k) b
  have hz : zeroB 20 k b = false := zeroB_not k b (by decide) (by decide)
  have HZ : Hid (doZ 20 k b = false) := by
    show doZ 20 k b = false
    simp [doZ, hz]
  have e : workK 20 (wrapK k a) (wrapK (secK 20 k) b) = (if wrapK k a < wrapK (secK 20 k) b then wrapK (secK 20 k) b else wrapK k a) := by simp [workK, shB, mkB, cmpB, reckK]
  have ed := doN_of a hh hz
  by_cases hc : wrapK k a < wrapK (secK 20 k) b
  · have HN : Hid (doN 20 k a b = wrapK (resK 20 k) (wrapK (secK 20 k) b)) := by
      show doN 20 k a b = wrapK (resK 20 k) (wrapK (secK 20 k) b)
      rw [ed, e]
      congr 1
      rw [if_pos hc]
    clear ed e hz hh
    go_enter Try.func8, Try.ntmps8
    go_wp2_with (first | (go_at_call 14; refine (rresult_any _ _ _).mono ?_; rintro e w' ⟨rfl, rfl⟩) | (go_at_call 12; refine (rwrap_any _ _ _).mono ?_; rintro e w' ⟨rfl, rfl⟩) | (go_at_call 16; refine (rsecond_any _ _ _).mono ?_; rintro e w' ⟨rfl, rfl⟩) | (go_at_call 27; refine (yes_any _ _).mono ?_; rintro e w' ⟨rfl, rfl⟩))
    go_ret2
    refine ⟨?_, rfl⟩
    rw [HN.out, HZ.out]
    simp
  · have HN : Hid (doN 20 k a b = wrapK (resK 20 k) (wrapK k a)) := by
      show doN 20 k a b = wrapK (resK 20 k) (wrapK k a)
      rw [ed, e]
      congr 1
      rw [if_neg hc]
    clear ed e hz hh
    go_enter Try.func8, Try.ntmps8
    go_wp2_with (first | (go_at_call 14; refine (rresult_any _ _ _).mono ?_; rintro e w' ⟨rfl, rfl⟩) | (go_at_call 12; refine (rwrap_any _ _ _).mono ?_; rintro e w' ⟨rfl, rfl⟩) | (go_at_call 16; refine (rsecond_any _ _ _).mono ?_; rintro e w' ⟨rfl, rfl⟩) | (go_at_call 27; refine (yes_any _ _).mono ?_; rintro e w' ⟨rfl, rfl⟩))
    go_ret2
    refine ⟨?_, rfl⟩
    rw [HN.out, HZ.out]
    simp

set_option maxHeartbeats 2000000 in
theorem rdo23 (k a b : Int) (w : World) (hh : hasB 23 k = true) :
    Calls Try.prog 8 #[.int .i64 23, .int .i64 k, .int .i64 a, .int .i64 b] w fun e w' => e = .returned (.tuple #[.int .i64 (doN 23 k a b), .bool (doZ 23 k b)]) ∧ w' = w := by
  have hr := res_nz hh
  have bA := wrapK_bd k a
  have bB := wrapK_bd (secK 23 k) b
  have hz : zeroB 23 k b = false := zeroB_not k b (by decide) (by decide)
  have HZ : Hid (doZ 23 k b = false) := by
    show doZ 23 k b = false
    simp [doZ, hz]
  have e : workK 23 (wrapK k a) (wrapK (secK 23 k) b) = (if wrapK k a < wrap64 (-(wrapK k a)) then wrap64 (-(wrapK k a)) else wrapK k a) := by simp [workK, shB, mkB, cmpB, reckK]
  have ed := doN_of a hh hz
  by_cases hc : wrapK k a < 0
  · have HN : Hid (doN 23 k a b = wrapK (resK 23 k) (-(wrapK k a))) := by
      show doN 23 k a b = wrapK (resK 23 k) (-(wrapK k a))
      rw [ed, e]
      congr 1
      rw [wrap64_id (by omega) (by omega)]; split <;> omega
    clear ed e hz hh
    go_enter Try.func8, Try.ntmps8
    go_wp2_with (first | (go_at_call 14; refine (rresult_any _ _ _).mono ?_; rintro e w' ⟨rfl, rfl⟩) | (go_at_call 12; refine (rwrap_any _ _ _).mono ?_; rintro e w' ⟨rfl, rfl⟩) | (go_at_call 16; refine (rsecond_any _ _ _).mono ?_; rintro e w' ⟨rfl, rfl⟩) | (go_at_call 27; refine (yes_any _ _).mono ?_; rintro e w' ⟨rfl, rfl⟩))
    go_ret2
    refine ⟨?_, rfl⟩
    rw [HN.out, HZ.out]
    simp
  · have HN : Hid (doN 23 k a b = wrapK (resK 23 k) (wrapK k a)) := by
      show doN 23 k a b = wrapK (resK 23 k) (wrapK k a)
      rw [ed, e]
      congr 1
      rw [wrap64_id (by omega) (by omega)]; split <;> omega
    clear ed e hz hh
    go_enter Try.func8, Try.ntmps8
    go_wp2_with (first | (go_at_call 14; refine (rresult_any _ _ _).mono ?_; rintro e w' ⟨rfl, rfl⟩) | (go_at_call 12; refine (rwrap_any _ _ _).mono ?_; rintro e w' ⟨rfl, rfl⟩) | (go_at_call 16; refine (rsecond_any _ _ _).mono ?_; rintro e w' ⟨rfl, rfl⟩) | (go_at_call 27; refine (yes_any _ _).mono ?_; rintro e w' ⟨rfl, rfl⟩))
    go_ret2
    refine ⟨?_, rfl⟩
    rw [HN.out, HZ.out]
    simp

set_option maxHeartbeats 1000000 in
theorem rdo_any (op k a b : Int) (w : World) :
    Calls Try.prog 8 #[.int .i64 op, .int .i64 k, .int .i64 a, .int .i64 b] w fun e w' => e = .returned (.tuple #[.int .i64 (doN op k a b), .bool (doZ op k b)]) ∧ w' = w := by
  by_cases hh : hasB op k = true
  · rcases ops op with rfl | rfl | rfl | rfl | rfl | rfl | rfl | rfl | rfl | rfl | rfl | rfl | rfl | rfl | rfl | rfl | rfl | rfl | rfl | rfl | rfl | rfl | rfl | h
    · exact rdo1 k a b w hh
    · exact rdo2 k a b w hh
    · exact rdo3 k a b w hh
    · exact rdo4 k a b w hh
    · exact rdo5 k a b w hh
    · exact rdo6 k a b w hh
    · exact rdo7 k a b w hh
    · exact rdo8 k a b w hh
    · exact rdo9 k a b w hh
    · exact rdo10 k a b w hh
    · exact rdo11 k a b w hh
    · exact rdo12 k a b w hh
    · exact rdo13 k a b w hh
    · exact rdo14 k a b w hh
    · exact rdo15 k a b w hh
    · exact rdo16 k a b w hh
    · exact rdo17 k a b w hh
    · exact rdo18 k a b w hh
    · exact rdo19 k a b w hh
    · exact rdo20 k a b w hh
    · exact rdo21 k a b w hh
    · exact rdo22 k a b w hh
    · exact rdo23 k a b w hh
    · rw [hasB_none k h] at hh; cases hh
  · have hh : hasB op k = false := by simpa using hh
    have hr : (resK op k == 0) = true := by
      have := (resK_zero op k).2 hh
      simp [this]
    have HN : Hid (doN op k a b = 0) := by
      show doN op k a b = 0
      simp [doN, hh]
    have HZ : Hid (doZ op k b = false) := by
      show doZ op k b = false
      simp [doZ, hh]
    clear hh
    go_enter Try.func8, Try.ntmps8
    go_wp2_with (first | (go_at_call 14; refine (rresult_any _ _ _).mono ?_; rintro e w' ⟨rfl, rfl⟩))
    go_ret2
    refine ⟨?_, rfl⟩
    rw [HN.out, HZ.out]
    simp
end Go.Proofs.Ytnjlomdkenondaa
