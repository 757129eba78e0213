/- Contracts of the document's answer: Width, Wrap, Fits, yes, Convert, and of the program's Convert. -/
import Derived.Test.YtnjlomdkenondaaCellF
namespace Go.Proofs.Ytnjlomdkenondaa
open Go.RowKit

def wideS (k : Int) : Int := if k == 1 then 2 else if k == 2 then 65536 else if k == 3 then 4294967296 else if k == 4 then 65536 else if k == 5 then 4294967296 else 0
def wideL (k : Int) : Int := if k == 1 then 0 else if k == 2 then -32768 else if k == 3 then -2147483648 else 0
set_option maxHeartbeats 400000 in
theorem width_any (k : Int) (w : World) :
    Calls Try.prog 30 #[.int .i64 k] w fun e w' => e = .returned (.tuple #[.int .i64 (wideS k), .int .i64 (wideL k)]) ∧ w' = w := by
  go_enter Try.func30, Try.ntmps30
  go_wp2
  all_goals go_ret2
  all_goals refine ⟨?_, rfl⟩
  all_goals simp [wideS, wideL, *]

theorem kinds (k : Int) : k = 1 ∨ k = 2 ∨ k = 3 ∨ k = 4 ∨ k = 5 ∨ (k ≠ 1 ∧ k ≠ 2 ∧ k ≠ 3 ∧ k ≠ 4 ∧ k ≠ 5) := by omega

theorem tmod_cases (n s : Int) : (0 ≤ n ∧ n.tmod s = n % s) ∨ (n < 0 ∧ n.tmod s = -((-n) % s)) := by
  rcases Int.lt_or_le n 0 with h1 | h1
  · right
    refine ⟨h1, ?_⟩
    have : n.tmod s = -((-n).tmod s) := by rw [Int.neg_tmod, Int.neg_neg]
    rw [this, Int.tmod_eq_emod_of_nonneg (by omega)]
  · left
    exact ⟨h1, Int.tmod_eq_emod_of_nonneg h1⟩

set_option maxHeartbeats 1000000 in
theorem rwrap_any (k n : Int) (w : World) :
    Calls Try.prog 12 #[.int .i64 k, .int .i64 n] w fun e w' => e = .returned (.int .i64 (wrapK k n)) ∧ w' = w := by
  rcases kinds k with rfl | rfl | rfl | rfl | rfl | ⟨h1, h2, h3, h4, h5⟩
  · have e1 : wideS 1 = 2 := rfl
    have e2 : wideL 1 = 0 := rfl
    have ht := tmod_cases n 2
    have HT : Hid ((0 ≤ n ∧ n.tmod 2 = n % 2) ∨ (n < 0 ∧ n.tmod 2 = -((-n) % 2))) := ht
    have hb : -2 < n.tmod 2 ∧ n.tmod 2 < 2 := by omega
    clear ht
    go_enter Try.func12, Try.ntmps12
    go_wp2_with (go_at_call 30; refine (width_any _ _).mono ?_; rintro e w' ⟨rfl, rfl⟩)
    all_goals go_ret
    all_goals refine ⟨ret_int ?_, rfl⟩
    all_goals
      have := HT.out
      rw [wrapK1]
      clear HT e1 e2
      omega
  · have e1 : wideS 2 = 65536 := rfl
    have e2 : wideL 2 = -32768 := rfl
    have ht := tmod_cases n 65536
    have HT : Hid ((0 ≤ n ∧ n.tmod 65536 = n % 65536) ∨ (n < 0 ∧ n.tmod 65536 = -((-n) % 65536))) := ht
    have hb : -65536 < n.tmod 65536 ∧ n.tmod 65536 < 65536 := by omega
    clear ht
    go_enter Try.func12, Try.ntmps12
    go_wp2_with (go_at_call 30; refine (width_any _ _).mono ?_; rintro e w' ⟨rfl, rfl⟩)
    all_goals go_ret
    all_goals refine ⟨ret_int ?_, rfl⟩
    all_goals
      have := HT.out
      rw [wrapK2]
      clear HT e1 e2
      omega
  · have e1 : wideS 3 = 4294967296 := rfl
    have e2 : wideL 3 = -2147483648 := rfl
    have ht := tmod_cases n 4294967296
    have HT : Hid ((0 ≤ n ∧ n.tmod 4294967296 = n % 4294967296) ∨ (n < 0 ∧ n.tmod 4294967296 = -((-n) % 4294967296))) := ht
    have hb : -4294967296 < n.tmod 4294967296 ∧ n.tmod 4294967296 < 4294967296 := by omega
    clear ht
    go_enter Try.func12, Try.ntmps12
    go_wp2_with (go_at_call 30; refine (width_any _ _).mono ?_; rintro e w' ⟨rfl, rfl⟩)
    all_goals go_ret
    all_goals refine ⟨ret_int ?_, rfl⟩
    all_goals
      have := HT.out
      rw [wrapK3]
      clear HT e1 e2
      omega
  · have e1 : wideS 4 = 65536 := rfl
    have e2 : wideL 4 = 0 := rfl
    have ht := tmod_cases n 65536
    have HT : Hid ((0 ≤ n ∧ n.tmod 65536 = n % 65536) ∨ (n < 0 ∧ n.tmod 65536 = -((-n) % 65536))) := ht
    have hb : -65536 < n.tmod 65536 ∧ n.tmod 65536 < 65536 := by omega
    clear ht
    go_enter Try.func12, Try.ntmps12
    go_wp2_with (go_at_call 30; refine (width_any _ _).mono ?_; rintro e w' ⟨rfl, rfl⟩)
    all_goals go_ret
    all_goals refine ⟨ret_int ?_, rfl⟩
    all_goals
      have := HT.out
      rw [wrapK4]
      clear HT e1 e2
      omega
  · have e1 : wideS 5 = 4294967296 := rfl
    have e2 : wideL 5 = 0 := rfl
    have ht := tmod_cases n 4294967296
    have HT : Hid ((0 ≤ n ∧ n.tmod 4294967296 = n % 4294967296) ∨ (n < 0 ∧ n.tmod 4294967296 = -((-n) % 4294967296))) := ht
    have hb : -4294967296 < n.tmod 4294967296 ∧ n.tmod 4294967296 < 4294967296 := by omega
    clear ht
    go_enter Try.func12, Try.ntmps12
    go_wp2_with (go_at_call 30; refine (width_any _ _).mono ?_; rintro e w' ⟨rfl, rfl⟩)
    all_goals go_ret
    all_goals refine ⟨ret_int ?_, rfl⟩
    all_goals
      have := HT.out
      rw [wrapK5]
      clear HT e1 e2
      omega
  · have e1 : wideS k = 0 := by simp [wideS, h1, h2, h3, h4, h5]
    have HW : Hid (wrapK k n = 0) := wrapK_else n h1 h2 h3 h4 h5
    clear h1 h2 h3 h4 h5
    go_enter Try.func12, Try.ntmps12
    go_wp2_with (go_at_call 30; refine (width_any _ _).mono ?_; rintro e w' ⟨rfl, rfl⟩)
    go_ret
    exact ⟨ret_int (by rw [HW.out]), rfl⟩

set_option maxHeartbeats 1000000 in
theorem rfits_any (k n : Int) (w : World) :
    Calls Try.prog 10 #[.int .i64 k, .int .i64 n] w fun e w' => e = .returned (.bool (fitsK k n)) ∧ w' = w := by
  rcases kinds k with rfl | rfl | rfl | rfl | rfl | ⟨h1, h2, h3, h4, h5⟩
  · have e1 : wideS 1 = 2 := rfl
    have e2 : wideL 1 = 0 := rfl
    have HF : Hid (fitsK 1 n = (decide (0 ≤ n) && decide (n ≤ 1))) := by
      show fitsK 1 n = (decide (0 ≤ n) && decide (n ≤ 1))
      rw [Bool.eq_iff_iff]
      simp [fitsK, isK, wrapK1]
      omega
    by_cases c1 : 0 ≤ n
    · by_cases c2 : n ≤ 1
      · go_enter Try.func10, Try.ntmps10
        go_wp2_with (go_at_call 30; refine (width_any _ _).mono ?_; rintro e w' ⟨rfl, rfl⟩)
        go_ret
        exact ⟨ret_bool (by rw [HF.out]; simp [c1, c2]), rfl⟩
      · go_enter Try.func10, Try.ntmps10
        go_wp2_with (go_at_call 30; refine (width_any _ _).mono ?_; rintro e w' ⟨rfl, rfl⟩)
        go_ret
        exact ⟨ret_bool (by rw [HF.out]; simp; omega), rfl⟩
    · go_enter Try.func10, Try.ntmps10
      go_wp2_with (go_at_call 30; refine (width_any _ _).mono ?_; rintro e w' ⟨rfl, rfl⟩)
      go_ret
      exact ⟨ret_bool (by rw [HF.out]; simp; omega), rfl⟩
  · have e1 : wideS 2 = 65536 := rfl
    have e2 : wideL 2 = -32768 := rfl
    have HF : Hid (fitsK 2 n = (decide (-32768 ≤ n) && decide (n ≤ 32767))) := by
      show fitsK 2 n = (decide (-32768 ≤ n) && decide (n ≤ 32767))
      rw [Bool.eq_iff_iff]
      simp [fitsK, isK, wrapK2]
      omega
    by_cases c1 : -32768 ≤ n
    · by_cases c2 : n ≤ 32767
      · go_enter Try.func10, Try.ntmps10
        go_wp2_with (go_at_call 30; refine (width_any _ _).mono ?_; rintro e w' ⟨rfl, rfl⟩)
        go_ret
        exact ⟨ret_bool (by rw [HF.out]; simp [c1, c2]), rfl⟩
      · go_enter Try.func10, Try.ntmps10
        go_wp2_with (go_at_call 30; refine (width_any _ _).mono ?_; rintro e w' ⟨rfl, rfl⟩)
        go_ret
        exact ⟨ret_bool (by rw [HF.out]; simp; omega), rfl⟩
    · go_enter Try.func10, Try.ntmps10
      go_wp2_with (go_at_call 30; refine (width_any _ _).mono ?_; rintro e w' ⟨rfl, rfl⟩)
      go_ret
      exact ⟨ret_bool (by rw [HF.out]; simp; omega), rfl⟩
  · have e1 : wideS 3 = 4294967296 := rfl
    have e2 : wideL 3 = -2147483648 := rfl
    have HF : Hid (fitsK 3 n = (decide (-2147483648 ≤ n) && decide (n ≤ 2147483647))) := by
      show fitsK 3 n = (decide (-2147483648 ≤ n) && decide (n ≤ 2147483647))
      rw [Bool.eq_iff_iff]
      simp [fitsK, isK, wrapK3]
      omega
    by_cases c1 : -2147483648 ≤ n
    · by_cases c2 : n ≤ 2147483647
      · go_enter Try.func10, Try.ntmps10
        go_wp2_with (go_at_call 30; refine (width_any _ _).mono ?_; rintro e w' ⟨rfl, rfl⟩)
        go_ret
        exact ⟨ret_bool (by rw [HF.out]; simp [c1, c2]), rfl⟩
      · go_enter Try.func10, Try.ntmps10
        go_wp2_with (go_at_call 30; refine (width_any _ _).mono ?_; rintro e w' ⟨rfl, rfl⟩)
        go_ret
        exact ⟨ret_bool (by rw [HF.out]; simp; omega), rfl⟩
    · go_enter Try.func10, Try.ntmps10
      go_wp2_with (go_at_call 30; refine (width_any _ _).mono ?_; rintro e w' ⟨rfl, rfl⟩)
      go_ret
      exact ⟨ret_bool (by rw [HF.out]; simp; omega), rfl⟩
  · have e1 : wideS 4 = 65536 := rfl
    have e2 : wideL 4 = 0 := rfl
    have HF : Hid (fitsK 4 n = (decide (0 ≤ n) && decide (n ≤ 65535))) := by
      show fitsK 4 n = (decide (0 ≤ n) && decide (n ≤ 65535))
      rw [Bool.eq_iff_iff]
      simp [fitsK, isK, wrapK4]
      omega
    by_cases c1 : 0 ≤ n
    · by_cases c2 : n ≤ 65535
      · go_enter Try.func10, Try.ntmps10
        go_wp2_with (go_at_call 30; refine (width_any _ _).mono ?_; rintro e w' ⟨rfl, rfl⟩)
        go_ret
        exact ⟨ret_bool (by rw [HF.out]; simp [c1, c2]), rfl⟩
      · go_enter Try.func10, Try.ntmps10
        go_wp2_with (go_at_call 30; refine (width_any _ _).mono ?_; rintro e w' ⟨rfl, rfl⟩)
        go_ret
        exact ⟨ret_bool (by rw [HF.out]; simp; omega), rfl⟩
    · go_enter Try.func10, Try.ntmps10
      go_wp2_with (go_at_call 30; refine (width_any _ _).mono ?_; rintro e w' ⟨rfl, rfl⟩)
      go_ret
      exact ⟨ret_bool (by rw [HF.out]; simp; omega), rfl⟩
  · have e1 : wideS 5 = 4294967296 := rfl
    have e2 : wideL 5 = 0 := rfl
    have HF : Hid (fitsK 5 n = (decide (0 ≤ n) && decide (n ≤ 4294967295))) := by
      show fitsK 5 n = (decide (0 ≤ n) && decide (n ≤ 4294967295))
      rw [Bool.eq_iff_iff]
      simp [fitsK, isK, wrapK5]
      omega
    by_cases c1 : 0 ≤ n
    · by_cases c2 : n ≤ 4294967295
      · go_enter Try.func10, Try.ntmps10
        go_wp2_with (go_at_call 30; refine (width_any _ _).mono ?_; rintro e w' ⟨rfl, rfl⟩)
        go_ret
        exact ⟨ret_bool (by rw [HF.out]; simp [c1, c2]), rfl⟩
      · go_enter Try.func10, Try.ntmps10
        go_wp2_with (go_at_call 30; refine (width_any _ _).mono ?_; rintro e w' ⟨rfl, rfl⟩)
        go_ret
        exact ⟨ret_bool (by rw [HF.out]; simp; omega), rfl⟩
    · go_enter Try.func10, Try.ntmps10
      go_wp2_with (go_at_call 30; refine (width_any _ _).mono ?_; rintro e w' ⟨rfl, rfl⟩)
      go_ret
      exact ⟨ret_bool (by rw [HF.out]; simp; omega), rfl⟩
  · have e1 : wideS k = 0 := by simp [wideS, h1, h2, h3, h4, h5]
    have HF : Hid (fitsK k n = false) := by
      show fitsK k n = false
      simp [fitsK, isK]; omega
    clear h1 h2 h3 h4 h5
    go_enter Try.func10, Try.ntmps10
    go_wp2_with (go_at_call 30; refine (width_any _ _).mono ?_; rintro e w' ⟨rfl, rfl⟩)
    go_ret
    exact ⟨ret_bool (by rw [HF.out]), rfl⟩

theorem yes_any (b : Bool) (w : World) :
    Calls Try.prog 27 #[.bool b] w fun e w' => e = .returned (.int .i64 (tru b)) ∧ w' = w := by
  cases b
  · go_enter Try.func27, Try.ntmps27
    go_wp2
    go_ret
    exact ⟨rfl, rfl⟩
  · go_enter Try.func27, Try.ntmps27
    go_wp2
    go_ret
    exact ⟨rfl, rfl⟩

def convK (k to n : Int) : Int := if to == 1 then tru (wrapK k n != 0) else wrapK to (wrapK k n)
theorem conv_any (k to n : Int) (w : World) :
    Calls Try.prog 17 #[.int .i64 k, .int .i64 to, .int .i64 n] w fun e w' => e = .returned (.int .i64 (convK k to n)) ∧ w' = w := by
  by_cases h1 : (to == 1) = true
  · by_cases h2 : (wrapK k n != 0) = true
    · go_enter Try.func17, Try.ntmps17
      go_wp2_with (go_at_call 11; refine (wrap_any _ _ _).mono ?_; rintro e w' ⟨rfl, rfl⟩)
      go_ret
      exact ⟨ret_int (by simp [convK, tru, h1, h2]), rfl⟩
    · have h2 : (wrapK k n != 0) = false := by simpa using h2
      have h3 : wrapK k n = 0 := by simpa using h2
      go_enter Try.func17, Try.ntmps17
      go_wp2_with (go_at_call 11; refine (wrap_any _ _ _).mono ?_; rintro e w' ⟨rfl, rfl⟩)
      go_ret
      exact ⟨ret_int (by simp at h1; simp [convK, tru, h1, h3, wrapK1]), rfl⟩
  · have h1 : (to == 1) = false := by simpa using h1
    go_enter Try.func17, Try.ntmps17
    go_wp2_with (go_at_call 11; refine (wrap_any _ _ _).mono ?_; rintro e w' ⟨rfl, rfl⟩)
    go_ret
    exact ⟨ret_int (by simp [convK, h1]), rfl⟩
theorem rconv_any (k to n : Int) (w : World) :
    Calls Try.prog 18 #[.int .i64 k, .int .i64 to, .int .i64 n] w fun e w' => e = .returned (.int .i64 (convK k to n)) ∧ w' = w := by
  by_cases h1 : (to == 1) = true
  · go_enter Try.func18, Try.ntmps18
    go_wp2_with (first | (go_at_call 12; refine (rwrap_any _ _ _).mono ?_; rintro e w' ⟨rfl, rfl⟩) | (go_at_call 27; refine (yes_any _ _).mono ?_; rintro e w' ⟨rfl, rfl⟩))
    go_ret
    exact ⟨ret_int (by simp [convK, h1]), rfl⟩
  · have h1 : (to == 1) = false := by simpa using h1
    go_enter Try.func18, Try.ntmps18
    go_wp2_with (first | (go_at_call 12; refine (rwrap_any _ _ _).mono ?_; rintro e w' ⟨rfl, rfl⟩) | (go_at_call 27; refine (yes_any _ _).mono ?_; rintro e w' ⟨rfl, rfl⟩))
    go_ret
    exact ⟨ret_int (by simp [convK, h1]), rfl⟩
end Go.Proofs.Ytnjlomdkenondaa
