/- Contracts of Wrap, isKind, Fits, truth, and of the document s Width, Fits, yes. -/
import Derived.Test.YtelgiffhgkbpeaaDoorPlain
import Derived.Test.YtelgiffhgkbpeaaDoorRows
import Derived.WalkSpells
import Derived.WalkLawsBesides
import Derived.Outline
namespace Go.Proofs.YtelgiffhgkbpeaaDoor
open Go.RowKit

theorem ret_int {k : IntKind} {a b : Int} (h : a = b) : Ending.returned (.int k a) = .returned (.int k b) := by rw [h]

theorem ret_bool {a b : Bool} (h : a = b) : Ending.returned (.bool a) = .returned (.bool b) := by rw [h]

set_option maxHeartbeats 400000 in
theorem wrap_any (k n : Int) (w : World) :
    Calls Tryd.prog 12 #[.int .i64 k, .int .i64 n] w fun e w' => e = .returned (.int .i64 (wrapK k n)) ∧ w' = w := by
  go_enter Tryd.func12, Tryd.ntmps12
  go_wp2
  · go_ret
    have e : k = 1 := by simpa using ‹(k == 1) = true›
    exact ⟨ret_int (by rw [e, wrapK1]; exact and1 n), rfl⟩
  · go_ret
    have e : k = 2 := by simpa using ‹(k == 2) = true›
    exact ⟨ret_int (by show wrap64 (IntKind.i16.wrap n) = _; rw [e, wrapK2, i16_is, wrap64_id (by omega) (by omega)]), rfl⟩
  · go_ret
    have e : k = 3 := by simpa using ‹(k == 3) = true›
    exact ⟨ret_int (by show wrap64 (wrap32 n) = _; rw [e, wrapK3]; unfold wrap32; rw [wrap64_id (by omega) (by omega)]), rfl⟩
  · go_ret
    have e : k = 4 := by simpa using ‹(k == 4) = true›
    exact ⟨ret_int (by show wrap64 (IntKind.u16.wrap n) = _; rw [e, wrapK4, u16_is, wrap64_id (by omega) (by omega)]), rfl⟩
  · go_ret
    have e : k = 5 := by simpa using ‹(k == 5) = true›
    exact ⟨ret_int (by show n % 4294967296 = _; rw [e, wrapK5]), rfl⟩
  · go_ret
    exact ⟨ret_int (by show 0 = _; rw [wrapK_else n (by simp_all) (by simp_all) (by simp_all) (by simp_all) (by simp_all)]), rfl⟩

def isK (k : Int) : Bool := decide (1 ≤ k) && decide (k ≤ 5)

theorem isKind_any (k : Int) (w : World) :
    Calls Tryd.prog 13 #[.int .i64 k] w fun e w' => e = .returned (.bool (isK k)) ∧ w' = w := by
  by_cases h1 : 1 ≤ k
  · by_cases h2 : k ≤ 5
    · go_enter Tryd.func13, Tryd.ntmps13
      go_wp2
      go_ret
      exact ⟨ret_bool (by simp [isK, h1, h2]), rfl⟩
    · go_enter Tryd.func13, Tryd.ntmps13
      go_wp2
      go_ret
      exact ⟨ret_bool (by simp [isK, h1, h2]), rfl⟩
  · go_enter Tryd.func13, Tryd.ntmps13
    go_wp2
    go_ret
    exact ⟨ret_bool (by simp [isK]; omega), rfl⟩

def fitsK (k n : Int) : Bool := isK k && (wrapK k n == n)

theorem fits_any (k n : Int) (w : World) :
    Calls Tryd.prog 9 #[.int .i64 k, .int .i64 n] w fun e w' => e = .returned (.bool (fitsK k n)) ∧ w' = w := by
  by_cases h : isK k = true
  · go_enter Tryd.func9, Tryd.ntmps9
    go_wp2_with (first | (go_at_call 13; refine (isKind_any _ _).mono ?_; rintro e w' ⟨rfl, rfl⟩) | (go_at_call 12; refine (wrap_any _ _ _).mono ?_; rintro e w' ⟨rfl, rfl⟩))
    go_ret
    exact ⟨ret_bool (by simp [fitsK, h]), rfl⟩
  · have h : isK k = false := by simpa using h
    go_enter Tryd.func9, Tryd.ntmps9
    go_wp2_with (first | (go_at_call 13; refine (isKind_any _ _).mono ?_; rintro e w' ⟨rfl, rfl⟩) | (go_at_call 12; refine (wrap_any _ _ _).mono ?_; rintro e w' ⟨rfl, rfl⟩))
    go_ret
    exact ⟨ret_bool (by simp [fitsK, h]), rfl⟩

def tru (b : Bool) : Int := if b = true then 1 else 0

theorem truth_any (b : Bool) (w : World) :
    Calls Tryd.prog 30 #[.bool b] w fun e w' => e = .returned (.int .i64 (tru b)) ∧ w' = w := by
  cases b
  · go_enter Tryd.func30, Tryd.ntmps30
    go_wp2
    go_ret
    exact ⟨rfl, rfl⟩
  · go_enter Tryd.func30, Tryd.ntmps30
    go_wp2
    go_ret
    exact ⟨rfl, rfl⟩

def wideS (k : Int) : Int := if k == 1 then 2 else if k == 2 then 65536 else if k == 3 then 4294967296 else if k == 4 then 65536 else if k == 5 then 4294967296 else 0

def wideL (k : Int) : Int := if k == 1 then 0 else if k == 2 then -32768 else if k == 3 then -2147483648 else 0

set_option maxHeartbeats 400000 in
theorem width_any (k : Int) (w : World) :
    Calls Tryd.prog 17 #[.int .i64 k] w fun e w' => e = .returned (.tuple #[.int .i64 (wideS k), .int .i64 (wideL k)]) ∧ w' = w := by
  go_enter Tryd.func17, Tryd.ntmps17
  go_wp2
  all_goals go_ret2
  all_goals refine ⟨?_, rfl⟩
  all_goals simp [wideS, wideL, *]

theorem kinds (k : Int) : k = 1 ∨ k = 2 ∨ k = 3 ∨ k = 4 ∨ k = 5 ∨ (k ≠ 1 ∧ k ≠ 2 ∧ k ≠ 3 ∧ k ≠ 4 ∧ k ≠ 5) := by omega

theorem tmod_cases (n s : Int) : (0 ≤ n ∧ n.tmod s = n % s) ∨ (n < 0 ∧ n.tmod s = -((-n) % s)) := by
  rcases Int.lt_or_le n 0 with h1 | h1
  · right
    refine ⟨h1, ?_⟩
    have : n.tmod s = -((-n).tmod s) := by rw [Int.neg_tmod, Int.neg_neg]
    rw [this, Int.tmod_eq_emod_of_nonneg (by omega)]
  · left
    exact ⟨h1, Int.tmod_eq_emod_of_nonneg h1⟩

set_option maxHeartbeats 1000000 in
theorem rfits_any (k n : Int) (w : World) :
    Calls Tryd.prog 23 #[.int .i64 k, .int .i64 n] w fun e w' => e = .returned (.bool (fitsK k n)) ∧ w' = w := by
  rcases kinds k with rfl | rfl | rfl | rfl | rfl | ⟨h1, h2, h3, h4, h5⟩
  · have e1 : wideS 1 = 2 := rfl
    have e2 : wideL 1 = 0 := rfl
    have HF : Hid (fitsK 1 n = (decide (0 ≤ n) && decide (n ≤ 1))) := by
      show fitsK 1 n = (decide (0 ≤ n) && decide (n ≤ 1))
      rw [Bool.eq_iff_iff]
      simp [fitsK, isK, wrapK1]
      omega
    by_cases c1 : 0 ≤ n
    · by_cases c2 : n ≤ 1
      · go_enter Tryd.func23, Tryd.ntmps23
        go_wp2_with (go_at_call 17; refine (width_any _ _).mono ?_; rintro e w' ⟨rfl, rfl⟩)
        go_ret
        exact ⟨ret_bool (by rw [HF.out]; simp [c1, c2]), rfl⟩
      · go_enter Tryd.func23, Tryd.ntmps23
        go_wp2_with (go_at_call 17; refine (width_any _ _).mono ?_; rintro e w' ⟨rfl, rfl⟩)
        go_ret
        exact ⟨ret_bool (by rw [HF.out]; simp; omega), rfl⟩
    · go_enter Tryd.func23, Tryd.ntmps23
      go_wp2_with (go_at_call 17; refine (width_any _ _).mono ?_; rintro e w' ⟨rfl, rfl⟩)
      go_ret
      exact ⟨ret_bool (by rw [HF.out]; simp; omega), rfl⟩
  · have e1 : wideS 2 = 65536 := rfl
    have e2 : wideL 2 = -32768 := rfl
    have HF : Hid (fitsK 2 n = (decide (-32768 ≤ n) && decide (n ≤ 32767))) := by
      show fitsK 2 n = (decide (-32768 ≤ n) && decide (n ≤ 32767))
      rw [Bool.eq_iff_iff]
      simp [fitsK, isK, wrapK2]
      omega
    by_cases c1 : -32768 ≤ n
    · by_cases c2 : n ≤ 32767
      · go_enter Tryd.func23, Tryd.ntmps23
        go_wp2_with (go_at_call 17; refine (width_any _ _).mono ?_; rintro e w' ⟨rfl, rfl⟩)
        go_ret
        exact ⟨ret_bool (by rw [HF.out]; simp [c1, c2]), rfl⟩
      · go_enter Tryd.func23, Tryd.ntmps23
        go_wp2_with (go_at_call 17; refine (width_any _ _).mono ?_; rintro e w' ⟨rfl, rfl⟩)
        go_ret
        exact ⟨ret_bool (by rw [HF.out]; simp; omega), rfl⟩
    · go_enter Tryd.func23, Tryd.ntmps23
      go_wp2_with (go_at_call 17; refine (width_any _ _).mono ?_; rintro e w' ⟨rfl, rfl⟩)
      go_ret
      exact ⟨ret_bool (by rw [HF.out]; simp; omega), rfl⟩
  · have e1 : wideS 3 = 4294967296 := rfl
    have e2 : wideL 3 = -2147483648 := rfl
    have HF : Hid (fitsK 3 n = (decide (-2147483648 ≤ n) && decide (n ≤ 2147483647))) := by
      show fitsK 3 n = (decide (-2147483648 ≤ n) && decide (n ≤ 2147483647))
      rw [Bool.eq_iff_iff]
      simp [fitsK, isK, wrapK3]
      omega
    by_cases c1 : -2147483648 ≤ n
    · by_cases c2 : n ≤ 2147483647
      · go_enter Tryd.func23, Tryd.ntmps23
        go_wp2_with (go_at_call 17; refine (width_any _ _).mono ?_; rintro e w' ⟨rfl, rfl⟩)
        go_ret
        exact ⟨ret_bool (by rw [HF.out]; simp [c1, c2]), rfl⟩
      · go_enter Tryd.func23, Tryd.ntmps23
        go_wp2_with (go_at_call 17; refine (width_any _ _).mono ?_; rintro e w' ⟨rfl, rfl⟩)
        go_ret
        exact ⟨ret_bool (by rw [HF.out]; simp; omega), rfl⟩
    · go_enter Tryd.func23, Tryd.ntmps23
      go_wp2_with (go_at_call 17; refine (width_any _ _).mono ?_; rintro e w' ⟨rfl, rfl⟩)
      go_ret
      exact ⟨ret_bool (by rw [HF.out]; simp; omega), rfl⟩
  · have e1 : wideS 4 = 65536 := rfl
    have e2 : wideL 4 = 0 := rfl
    have HF : Hid (fitsK 4 n = (decide (0 ≤ n) && decide (n ≤ 65535))) := by
      show fitsK 4 n = (decide (0 ≤ n) && decide (n ≤ 65535))
      rw [Bool.eq_iff_iff]
      simp [fitsK, isK, wrapK4]
      omega
    by_cases c1 : 0 ≤ n
    · by_cases c2 : n ≤ 65535
      · go_enter Tryd.func23, Tryd.ntmps23
        go_wp2_with (go_at_call 17; refine (width_any _ _).mono ?_; rintro e w' ⟨rfl, rfl⟩)
        go_ret
        exact ⟨ret_bool (by rw [HF.out]; simp [c1, c2]), rfl⟩
      · go_enter Tryd.func23, Tryd.ntmps23
        go_wp2_with (go_at_call 17; refine (width_any _ _).mono ?_; rintro e w' ⟨rfl, rfl⟩)
        go_ret
        exact ⟨ret_bool (by rw [HF.out]; simp; omega), rfl⟩
    · go_enter Tryd.func23, Tryd.ntmps23
      go_wp2_with (go_at_call 17; refine (width_any _ _).mono ?_; rintro e w' ⟨rfl, rfl⟩)
      go_ret
      exact ⟨ret_bool (by rw [HF.out]; simp; omega), rfl⟩
  · have e1 : wideS 5 = 4294967296 := rfl
    have e2 : wideL 5 = 0 := rfl
    have HF : Hid (fitsK 5 n = (decide (0 ≤ n) && decide (n ≤ 4294967295))) := by
      show fitsK 5 n = (decide (0 ≤ n) && decide (n ≤ 4294967295))
      rw [Bool.eq_iff_iff]
      simp [fitsK, isK, wrapK5]
      omega
    by_cases c1 : 0 ≤ n
    · by_cases c2 : n ≤ 4294967295
      · go_enter Tryd.func23, Tryd.ntmps23
        go_wp2_with (go_at_call 17; refine (width_any _ _).mono ?_; rintro e w' ⟨rfl, rfl⟩)
        go_ret
        exact ⟨ret_bool (by rw [HF.out]; simp [c1, c2]), rfl⟩
      · go_enter Tryd.func23, Tryd.ntmps23
        go_wp2_with (go_at_call 17; refine (width_any _ _).mono ?_; rintro e w' ⟨rfl, rfl⟩)
        go_ret
        exact ⟨ret_bool (by rw [HF.out]; simp; omega), rfl⟩
    · go_enter Tryd.func23, Tryd.ntmps23
      go_wp2_with (go_at_call 17; refine (width_any _ _).mono ?_; rintro e w' ⟨rfl, rfl⟩)
      go_ret
      exact ⟨ret_bool (by rw [HF.out]; simp; omega), rfl⟩
  · have e1 : wideS k = 0 := by simp [wideS, h1, h2, h3, h4, h5]
    have HF : Hid (fitsK k n = false) := by
      show fitsK k n = false
      simp [fitsK, isK]; omega
    clear h1 h2 h3 h4 h5
    go_enter Tryd.func23, Tryd.ntmps23
    go_wp2_with (go_at_call 17; refine (width_any _ _).mono ?_; rintro e w' ⟨rfl, rfl⟩)
    go_ret
    exact ⟨ret_bool (by rw [HF.out]), rfl⟩

theorem yes_any (b : Bool) (w : World) :
    Calls Tryd.prog 19 #[.bool b] w fun e w' => e = .returned (.int .i64 (tru b)) ∧ w' = w := by
  cases b
  · go_enter Tryd.func19, Tryd.ntmps19
    go_wp2
    go_ret
    exact ⟨rfl, rfl⟩
  · go_enter Tryd.func19, Tryd.ntmps19
    go_wp2
    go_ret
    exact ⟨rfl, rfl⟩

theorem kfits1 {n : Int} (hf : fitsK 1 n = true) : 0 ≤ n ∧ n ≤ 1 := by
  simp [fitsK, isK, wrapK1] at hf
  omega

theorem kfits2 {n : Int} (hf : fitsK 2 n = true) : -32768 ≤ n ∧ n ≤ 32767 := by
  simp [fitsK, isK, wrapK2] at hf
  omega

theorem kfits3 {n : Int} (hf : fitsK 3 n = true) : -2147483648 ≤ n ∧ n ≤ 2147483647 := by
  simp [fitsK, isK, wrapK3] at hf
  omega

theorem kfits4 {n : Int} (hf : fitsK 4 n = true) : 0 ≤ n ∧ n ≤ 65535 := by
  simp [fitsK, isK, wrapK4] at hf
  omega

theorem kfits5 {n : Int} (hf : fitsK 5 n = true) : 0 ≤ n ∧ n ≤ 4294967295 := by
  simp [fitsK, isK, wrapK5] at hf
  omega

theorem wide_is (k : Int) : (wideS k == 0) = !isK k := by
  rcases kinds k with rfl | rfl | rfl | rfl | rfl | ⟨h1, h2, h3, h4, h5⟩
  all_goals first | decide | skip
  have e : isK k = false := by simp [isK]; omega
  rw [e]
  simp [wideS, h1, h2, h3, h4, h5]

end Go.Proofs.YtelgiffhgkbpeaaDoor
