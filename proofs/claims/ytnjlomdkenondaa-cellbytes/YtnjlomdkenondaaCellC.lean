/- Contracts of compares, Result, Second, truth, holds. -/
import Derived.Test.YtnjlomdkenondaaCellB
namespace Go.Proofs.Ytnjlomdkenondaa
open Go.RowKit

def cmpB (op : Int) : Bool := decide (9 ≤ op) && decide (op ≤ 14)
theorem compares_any (op : Int) (w : World) :
    Calls Try.prog 31 #[.int .i64 op] w fun e w' => e = .returned (.bool (cmpB op)) ∧ w' = w := by
  by_cases h1 : 9 ≤ op
  · go_enter Try.func31, Try.ntmps31
    go_wp2
    all_goals go_ret
    all_goals exact ⟨ret_bool (by simp [cmpB]; omega), rfl⟩
  · go_enter Try.func31, Try.ntmps31
    go_wp2
    all_goals go_ret
    all_goals exact ⟨ret_bool (by simp [cmpB]; omega), rfl⟩

def resK (op k : Int) : Int := if hasB op k = true then (if cmpB op = true then 1 else k) else 0
theorem result_any (op k : Int) (w : World) :
    Calls Try.prog 13 #[.int .i64 op, .int .i64 k] w fun e w' => e = .returned (.int .i64 (resK op k)) ∧ w' = w := by
  by_cases h1 : hasB op k = true
  · by_cases h2 : cmpB op = true
    · go_enter Try.func13, Try.ntmps13
      go_wp2_with (first | (go_at_call 24; refine (has_any _ _ _).mono ?_; rintro e w' ⟨rfl, rfl⟩) | (go_at_call 31; refine (compares_any _ _).mono ?_; rintro e w' ⟨rfl, rfl⟩))
      go_ret
      exact ⟨ret_int (by simp [resK, h1, h2]), rfl⟩
    · have h2 : cmpB op = false := by simpa using h2
      go_enter Try.func13, Try.ntmps13
      go_wp2_with (first | (go_at_call 24; refine (has_any _ _ _).mono ?_; rintro e w' ⟨rfl, rfl⟩) | (go_at_call 31; refine (compares_any _ _).mono ?_; rintro e w' ⟨rfl, rfl⟩))
      go_ret
      exact ⟨ret_int (by simp [resK, h1, h2]), rfl⟩
  · have h1 : hasB op k = false := by simpa using h1
    go_enter Try.func13, Try.ntmps13
    go_wp2_with (first | (go_at_call 24; refine (has_any _ _ _).mono ?_; rintro e w' ⟨rfl, rfl⟩) | (go_at_call 31; refine (compares_any _ _).mono ?_; rintro e w' ⟨rfl, rfl⟩))
    go_ret
    exact ⟨ret_int (by simp [resK, h1]), rfl⟩

def secK (op k : Int) : Int :=
  if hasB op k = true then (if op == 21 || op == 22 || op == 23 then 0 else if op == 15 || op == 16 || op == 17 || op == 18 then 2 else k) else 0
set_option maxHeartbeats 400000 in
theorem second_any (op k : Int) (w : World) :
    Calls Try.prog 15 #[.int .i64 op, .int .i64 k] w fun e w' => e = .returned (.int .i64 (secK op k)) ∧ w' = w := by
  by_cases h1 : hasB op k = true
  · go_enter Try.func15, Try.ntmps15
    go_wp2_with (first | (go_at_call 24; refine (has_any _ _ _).mono ?_; rintro e w' ⟨rfl, rfl⟩))
    all_goals go_ret
    all_goals exact ⟨ret_int (by simp [secK, *]), rfl⟩
  · have h1 : hasB op k = false := by simpa using h1
    go_enter Try.func15, Try.ntmps15
    go_wp2_with (first | (go_at_call 24; refine (has_any _ _ _).mono ?_; rintro e w' ⟨rfl, rfl⟩))
    go_ret
    exact ⟨ret_int (by simp [secK, h1]), rfl⟩

def tru (b : Bool) : Int := if b = true then 1 else 0
theorem truth_any (b : Bool) (w : World) :
    Calls Try.prog 36 #[.bool b] w fun e w' => e = .returned (.int .i64 (tru b)) ∧ w' = w := by
  cases b
  · go_enter Try.func36, Try.ntmps36
    go_wp2
    go_ret
    exact ⟨rfl, rfl⟩
  · go_enter Try.func36, Try.ntmps36
    go_wp2
    go_ret
    exact ⟨rfl, rfl⟩

def holdsB (op a b : Int) : Bool :=
  if op == 9 then a == b else if op == 10 then a != b else if op == 11 then decide (a < b) else if op == 12 then decide (a ≤ b) else if op == 13 then decide (b < a) else decide (b ≤ a)
set_option maxHeartbeats 400000 in
theorem holds_any (op a b : Int) (w : World) :
    Calls Try.prog 37 #[.int .i64 op, .int .i64 a, .int .i64 b] w fun e w' => e = .returned (.bool (holdsB op a b)) ∧ w' = w := by
  go_enter Try.func37, Try.ntmps37
  go_wp2
  all_goals go_ret
  all_goals exact ⟨ret_bool (by simp [holdsB, *]), rfl⟩
end Go.Proofs.Ytnjlomdkenondaa
