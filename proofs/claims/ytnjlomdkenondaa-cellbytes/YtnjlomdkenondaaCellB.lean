/- Contracts of has, compares, Result, Second. -/
import Derived.Test.YtnjlomdkenondaaCellA
namespace Go.Proofs.Ytnjlomdkenondaa
open Go.RowKit

def hasB (op k : Int) : Bool :=
  if op == 3 || op == 4 || op == 5 || op == 22 || op == 23 then (k == 2 || k == 3)
  else if op == 1 || op == 2 then ((k == 2 || k == 3) || k == 5)
  else if op == 11 || op == 12 || op == 13 || op == 14 || op == 19 || op == 20 then (((k == 2 || k == 3) || k == 5) || k == 4)
  else if op == 6 || op == 7 || op == 8 || op == 21 then (k == 1 || k == 4)
  else if op == 15 || op == 16 || op == 17 || op == 18 then k == 4
  else if op == 9 || op == 10 then isK k
  else false

set_option maxHeartbeats 1000000 in
theorem has_any (op k : Int) (w : World) :
    Calls Try.prog 24 #[.int .i64 op, .int .i64 k] w fun e w' => e = .returned (.bool (hasB op k)) ∧ w' = w := by
  by_cases c2 : (k == 2) = true
  · go_enter Try.func24, Try.ntmps24
    go_wp2_with (first | (go_at_call 29; refine (isKind_any _ _).mono ?_; rintro e w' ⟨rfl, rfl⟩))
    all_goals go_ret
    all_goals exact ⟨ret_bool (by simp [hasB, *]), rfl⟩
  · have c2 : (k == 2) = false := by simpa using c2
    by_cases c3 : (k == 3) = true
    · go_enter Try.func24, Try.ntmps24
      go_wp2_with (first | (go_at_call 29; refine (isKind_any _ _).mono ?_; rintro e w' ⟨rfl, rfl⟩))
      all_goals go_ret
      all_goals exact ⟨ret_bool (by simp [hasB, *]), rfl⟩
    · have c3 : (k == 3) = false := by simpa using c3
      go_enter Try.func24, Try.ntmps24
      go_wp2_with (first | (go_at_call 29; refine (isKind_any _ _).mono ?_; rintro e w' ⟨rfl, rfl⟩))
      all_goals go_ret
      all_goals exact ⟨ret_bool (by simp [hasB, *]), rfl⟩
end Go.Proofs.Ytnjlomdkenondaa
