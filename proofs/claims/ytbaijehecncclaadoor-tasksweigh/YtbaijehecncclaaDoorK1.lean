/- What a kind has: the operations; Result and Second, the program's and the document's. -/
import Derived.Test.YtbaijehecncclaaDoorRows
import Derived.WalkKit
import Derived.WalkSpells
import Derived.WalkLawsBesides
import Derived.Outline
namespace Go.Proofs.YtbaijehecncclaaDoor
open Go.RowKit

theorem ret_int {k : IntKind} {a b : Int} (h : a = b) : Ending.returned (.int k a) = .returned (.int k b) := by rw [h]
theorem ret_bool {a b : Bool} (h : a = b) : Ending.returned (.bool a) = .returned (.bool b) := by rw [h]
def isK (k : Int) : Bool := decide (1 ≤ k) && decide (k ≤ 5)

theorem isKind_any (k : Int) (w : World) :
    Calls Tryd.prog 52 #[.int .i64 k] w fun e w' => e = .returned (.bool (isK k)) ∧ w' = w := by
  by_cases h1 : 1 ≤ k
  · by_cases h2 : k ≤ 5
    · go_enter Tryd.func52, Tryd.ntmps52
      go_wp2
      go_ret
      exact ⟨ret_bool (by simp [isK, h1, h2]), rfl⟩
    · go_enter Tryd.func52, Tryd.ntmps52
      go_wp2
      go_ret
      exact ⟨ret_bool (by simp [isK, h1, h2]), rfl⟩
  · go_enter Tryd.func52, Tryd.ntmps52
    go_wp2
    go_ret
    exact ⟨ret_bool (by simp [isK]; omega), rfl⟩


def hasB (op k : Int) : Bool :=
  if op == 3 || op == 4 || op == 5 || op == 22 || op == 23 then (k == 2 || k == 3)
  else if op == 1 || op == 2 then ((k == 2 || k == 3) || k == 5)
  else if op == 11 || op == 12 || op == 13 || op == 14 || op == 19 || op == 20 then (((k == 2 || k == 3) || k == 5) || k == 4)
  else if op == 6 || op == 7 || op == 8 || op == 21 then (k == 1 || k == 4)
  else if op == 15 || op == 16 || op == 17 || op == 18 then k == 4
  else if op == 9 || op == 10 then isK k
  else false

set_option maxHeartbeats 1000000 in
theorem has_any (op k : Int) (w : World) :
    Calls Tryd.prog 48 #[.int .i64 op, .int .i64 k] w fun e w' => e = .returned (.bool (hasB op k)) ∧ w' = w := by
  by_cases c2 : (k == 2) = true
  · go_enter Tryd.func48, Tryd.ntmps48
    go_wp2_with (first | (go_at_call 52; refine (isKind_any _ _).mono ?_; rintro e w' ⟨rfl, rfl⟩))
    all_goals go_ret
    all_goals exact ⟨ret_bool (by simp [hasB, *]), rfl⟩
  · have c2 : (k == 2) = false := by simpa using c2
    by_cases c3 : (k == 3) = true
    · go_enter Tryd.func48, Tryd.ntmps48
      go_wp2_with (first | (go_at_call 52; refine (isKind_any _ _).mono ?_; rintro e w' ⟨rfl, rfl⟩))
      all_goals go_ret
      all_goals exact ⟨ret_bool (by simp [hasB, *]), rfl⟩
    · have c3 : (k == 3) = false := by simpa using c3
      go_enter Tryd.func48, Tryd.ntmps48
      go_wp2_with (first | (go_at_call 52; refine (isKind_any _ _).mono ?_; rintro e w' ⟨rfl, rfl⟩))
      all_goals go_ret
      all_goals exact ⟨ret_bool (by simp [hasB, *]), rfl⟩


def cmpB (op : Int) : Bool := decide (9 ≤ op) && decide (op ≤ 14)
theorem compares_any (op : Int) (w : World) :
    Calls Tryd.prog 49 #[.int .i64 op] w fun e w' => e = .returned (.bool (cmpB op)) ∧ w' = w := by
  by_cases h1 : 9 ≤ op
  · go_enter Tryd.func49, Tryd.ntmps49
    go_wp2
    all_goals go_ret
    all_goals exact ⟨ret_bool (by simp [cmpB]; omega), rfl⟩
  · go_enter Tryd.func49, Tryd.ntmps49
    go_wp2
    all_goals go_ret
    all_goals exact ⟨ret_bool (by simp [cmpB]; omega), rfl⟩

def resK (op k : Int) : Int := if hasB op k = true then (if cmpB op = true then 1 else k) else 0
theorem result_any (op k : Int) (w : World) :
    Calls Tryd.prog 43 #[.int .i64 op, .int .i64 k] w fun e w' => e = .returned (.int .i64 (resK op k)) ∧ w' = w := by
  by_cases h1 : hasB op k = true
  · by_cases h2 : cmpB op = true
    · go_enter Tryd.func43, Tryd.ntmps43
      go_wp2_with (first | (go_at_call 48; refine (has_any _ _ _).mono ?_; rintro e w' ⟨rfl, rfl⟩) | (go_at_call 49; refine (compares_any _ _).mono ?_; rintro e w' ⟨rfl, rfl⟩))
      go_ret
      exact ⟨ret_int (by simp [resK, h1, h2]), rfl⟩
    · have h2 : cmpB op = false := by simpa using h2
      go_enter Tryd.func43, Tryd.ntmps43
      go_wp2_with (first | (go_at_call 48; refine (has_any _ _ _).mono ?_; rintro e w' ⟨rfl, rfl⟩) | (go_at_call 49; refine (compares_any _ _).mono ?_; rintro e w' ⟨rfl, rfl⟩))
      go_ret
      exact ⟨ret_int (by simp [resK, h1, h2]), rfl⟩
  · have h1 : hasB op k = false := by simpa using h1
    go_enter Tryd.func43, Tryd.ntmps43
    go_wp2_with (first | (go_at_call 48; refine (has_any _ _ _).mono ?_; rintro e w' ⟨rfl, rfl⟩) | (go_at_call 49; refine (compares_any _ _).mono ?_; rintro e w' ⟨rfl, rfl⟩))
    go_ret
    exact ⟨ret_int (by simp [resK, h1]), rfl⟩

def secK (op k : Int) : Int :=
  if hasB op k = true then (if op == 21 || op == 22 || op == 23 then 0 else if op == 15 || op == 16 || op == 17 || op == 18 then 2 else k) else 0
set_option maxHeartbeats 400000 in
theorem second_any (op k : Int) (w : World) :
    Calls Tryd.prog 51 #[.int .i64 op, .int .i64 k] w fun e w' => e = .returned (.int .i64 (secK op k)) ∧ w' = w := by
  by_cases h1 : hasB op k = true
  · go_enter Tryd.func51, Tryd.ntmps51
    go_wp2_with (first | (go_at_call 48; refine (has_any _ _ _).mono ?_; rintro e w' ⟨rfl, rfl⟩))
    all_goals go_ret
    all_goals exact ⟨ret_int (by simp [secK, *]), rfl⟩
  · have h1 : hasB op k = false := by simpa using h1
    go_enter Tryd.func51, Tryd.ntmps51
    go_wp2_with (first | (go_at_call 48; refine (has_any _ _ _).mono ?_; rintro e w' ⟨rfl, rfl⟩))
    go_ret
    exact ⟨ret_int (by simp [secK, h1]), rfl⟩



def shB (op : Int) : Bool := op == 15 || op == 16 || op == 17 || op == 18
theorem sec_sh {op k : Int} (h : hasB op k = true) (hs : shB op = true) : secK op k = 2 := by
  simp [shB] at hs
  rcases hs with ((rfl | rfl) | rfl) | rfl
  all_goals simp [secK, h]
theorem kinds (k : Int) : k = 1 ∨ k = 2 ∨ k = 3 ∨ k = 4 ∨ k = 5 ∨ (k ≠ 1 ∧ k ≠ 2 ∧ k ≠ 3 ∧ k ≠ 4 ∧ k ≠ 5) := by omega
theorem ops (op : Int) : op = 1 ∨ op = 2 ∨ op = 3 ∨ op = 4 ∨ op = 5 ∨ op = 6 ∨ op = 7 ∨ op = 8 ∨ op = 9 ∨ op = 10 ∨ op = 11 ∨ op = 12 ∨ op = 13 ∨ op = 14 ∨ op = 15 ∨ op = 16 ∨ op = 17 ∨ op = 18 ∨ op = 19 ∨ op = 20 ∨ op = 21 ∨ op = 22 ∨ op = 23 ∨ (op < 1 ∨ 23 < op) := by omega
theorem hasB_none {op : Int} (k : Int) (h : op < 1 ∨ 23 < op) : hasB op k = false := by
  unfold hasB
  have e : ∀ n : Int, 1 ≤ n → n ≤ 23 → (op == n) = false := fun n a b => by simp; omega
  simp [e]

theorem resK_none {op k : Int} (h : isK k = false) : resK op k = 0 := by
  have e : ∀ n : Int, 1 ≤ n → n ≤ 5 → (k == n) = false := fun n a b => by simp [isK] at h; simp; omega
  have hh : hasB op k = false := by
    simp [hasB, h, e]
  simp [resK, hh]
set_option maxHeartbeats 8000000 in
theorem rresult_any (op k : Int) (w : World) :
    Calls Tryd.prog 18 #[.int .i64 op, .int .i64 k] w fun e w' => e = .returned (.int .i64 (resK op k)) ∧ w' = w := by
  rcases ops op with rfl | rfl | rfl | rfl | rfl | rfl | rfl | rfl | rfl | rfl | rfl | rfl | rfl | rfl | rfl | rfl | rfl | rfl | rfl | rfl | rfl | rfl | rfl | h
  case inr.inr.inr.inr.inr.inr.inr.inr.inr.inr.inr.inr.inr.inr.inr.inr.inr.inr.inr.inr.inr.inr.inr =>
    have HR : Hid (resK op k = 0) := by
      show resK op k = 0
      simp [resK, hasB_none k h]
    have f : ∀ n : Int, 1 ≤ n → n ≤ 23 → (op == n) = false := fun n a b => by simp; omega
    have g1 := f 1 (by decide) (by decide)
    have g2 := f 2 (by decide) (by decide)
    have g3 := f 3 (by decide) (by decide)
    have g4 := f 4 (by decide) (by decide)
    have g5 := f 5 (by decide) (by decide)
    have g6 := f 6 (by decide) (by decide)
    have g7 := f 7 (by decide) (by decide)
    have g8 := f 8 (by decide) (by decide)
    have g9 := f 9 (by decide) (by decide)
    have g10 := f 10 (by decide) (by decide)
    have g19 := f 19 (by decide) (by decide)
    have g20 := f 20 (by decide) (by decide)
    have g21 := f 21 (by decide) (by decide)
    have g22 := f 22 (by decide) (by decide)
    have g23 := f 23 (by decide) (by decide)
    clear f
    rcases h with h | h
    · go_enter Tryd.func18, Tryd.ntmps18
      go_wp2
      go_ret
      exact ⟨by simp; exact HR.out.symm, rfl⟩
    · go_enter Tryd.func18, Tryd.ntmps18
      go_wp2
      go_ret
      exact ⟨by simp; exact HR.out.symm, rfl⟩
  all_goals
    go_enter Tryd.func18, Tryd.ntmps18
    go_wp2
  all_goals go_ret
  all_goals refine ⟨?_, rfl⟩
  all_goals simp
  all_goals try simp only [beq_iff_eq, beq_eq_false_iff_ne, ne_eq] at *
  all_goals rcases kinds k with rfl | rfl | rfl | rfl | rfl | h
  all_goals first | omega | decide | rw [resK_none (by simp [isK]; omega)]

end Go.Proofs.YtbaijehecncclaaDoor
