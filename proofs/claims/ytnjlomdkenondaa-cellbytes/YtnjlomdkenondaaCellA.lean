/- Contracts of Wrap, isKind, Fits. -/
import Derived.Test.YtnjlomdkenondaaPlain
import Derived.Test.YtnjlomdkenondaaRows
import Derived.WalkSpells
import Derived.WalkLawsBesides
import Derived.Outline
namespace Go.Proofs.Ytnjlomdkenondaa
open Go.RowKit

theorem ret_int {k : IntKind} {a b : Int} (h : a = b) : Ending.returned (.int k a) = .returned (.int k b) := by rw [h]
theorem ret_bool {a b : Bool} (h : a = b) : Ending.returned (.bool a) = .returned (.bool b) := by rw [h]

set_option maxHeartbeats 400000 in
theorem wrap_any (k n : Int) (w : World) :
    Calls Try.prog 11 #[.int .i64 k, .int .i64 n] w fun e w' => e = .returned (.int .i64 (wrapK k n)) ∧ w' = w := by
  go_enter Try.func11, Try.ntmps11
  go_wp2
  · go_ret
    have e : k = 1 := by simpa using ‹(k == 1) = true›
    exact ⟨ret_int (by rw [e, wrapK1]; exact and1 n), rfl⟩
  · go_ret
    have e : k = 2 := by simpa using ‹(k == 2) = true›
    exact ⟨ret_int (by show wrap64 (IntKind.i16.wrap n) = _; rw [e, wrapK2, i16_is, wrap64_id (by omega) (by omega)]), rfl⟩
  · go_ret
    have e : k = 3 := by simpa using ‹(k == 3) = true›
    exact ⟨ret_int (by show wrap64 (wrap32 n) = _; rw [e, wrapK3]; unfold wrap32; rw [wrap64_id (by omega) (by omega)]), rfl⟩
  · go_ret
    have e : k = 4 := by simpa using ‹(k == 4) = true›
    exact ⟨ret_int (by show wrap64 (IntKind.u16.wrap n) = _; rw [e, wrapK4, u16_is, wrap64_id (by omega) (by omega)]), rfl⟩
  · go_ret
    have e : k = 5 := by simpa using ‹(k == 5) = true›
    exact ⟨ret_int (by show n % 4294967296 = _; rw [e, wrapK5]), rfl⟩
  · go_ret
    exact ⟨ret_int (by show 0 = _; rw [wrapK_else n (by simp_all) (by simp_all) (by simp_all) (by simp_all) (by simp_all)]), rfl⟩

def isK (k : Int) : Bool := decide (1 ≤ k) && decide (k ≤ 5)

theorem isKind_any (k : Int) (w : World) :
    Calls Try.prog 29 #[.int .i64 k] w fun e w' => e = .returned (.bool (isK k)) ∧ w' = w := by
  by_cases h1 : 1 ≤ k
  · by_cases h2 : k ≤ 5
    · go_enter Try.func29, Try.ntmps29
      go_wp2
      go_ret
      exact ⟨ret_bool (by simp [isK, h1, h2]), rfl⟩
    · go_enter Try.func29, Try.ntmps29
      go_wp2
      go_ret
      exact ⟨ret_bool (by simp [isK, h1, h2]), rfl⟩
  · go_enter Try.func29, Try.ntmps29
    go_wp2
    go_ret
    exact ⟨ret_bool (by simp [isK]; omega), rfl⟩

def fitsK (k n : Int) : Bool := isK k && (wrapK k n == n)

theorem fits_any (k n : Int) (w : World) :
    Calls Try.prog 9 #[.int .i64 k, .int .i64 n] w fun e w' => e = .returned (.bool (fitsK k n)) ∧ w' = w := by
  by_cases h : isK k = true
  · go_enter Try.func9, Try.ntmps9
    go_wp2_with (first | (go_at_call 29; refine (isKind_any _ _).mono ?_; rintro e w' ⟨rfl, rfl⟩) | (go_at_call 11; refine (wrap_any _ _ _).mono ?_; rintro e w' ⟨rfl, rfl⟩))
    go_ret
    exact ⟨ret_bool (by simp [fitsK, h]), rfl⟩
  · have h : isK k = false := by simpa using h
    go_enter Try.func9, Try.ntmps9
    go_wp2_with (first | (go_at_call 29; refine (isKind_any _ _).mono ?_; rintro e w' ⟨rfl, rfl⟩) | (go_at_call 11; refine (wrap_any _ _ _).mono ?_; rintro e w' ⟨rfl, rfl⟩))
    go_ret
    exact ⟨ret_bool (by simp [fitsK, h]), rfl⟩
end Go.Proofs.Ytnjlomdkenondaa
