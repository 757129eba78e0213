/- Plain: what the document's answer asks of one instruction is what the program asks of it, and where a Round may go. -/
import Derived.Test.YtbaijehecncclaaDoorA2
import Derived.Test.YtbaijehecncclaaDoorF1
namespace Go.Proofs.YtbaijehecncclaaDoor
open Go.RowKit
set_option linter.unusedVariables false
set_option linter.unusedSimpArgs false

/-- What the document's answer asks of instruction i. -/
def okD (l : List (Int × Nat)) (fn n i : Nat) (x : Ins) : Bool :=
  (if x.d = 8 ∨ x.d = 9 ∨ x.d = 10 ∨ x.d = 15 then (x.a == 0) && (x.b == 0) else if x.d = 1 ∨ x.d = 2 ∨ x.d = 3 ∨ x.d = 11 ∨ x.d = 12 then (x.b == 0) else true)
  && (if x.d ≠ 4 ∧ x.d ≠ 5 ∧ x.d ≠ 16 then (x.c == 0) else true)
  && (if x.d = 1 ∨ x.d = 8 ∨ x.d = 9 ∨ x.d = 10 ∨ x.d = 15 then true
    else if x.d = 2 ∨ x.d = 3 then wordsS x.a 1 fn
    else if x.d = 4 ∨ x.d = 5 then wordsS x.a x.b fn && isW x.c (-4294967295) 4294967295
    else if x.d = 6 then resK x.a x.b != 0
    else if x.d = 7 then isK x.a && isK x.b && x.a != x.b
    else if x.d = 11 ∨ x.d = 12 then decide ((i : Int) < x.a) && decide (x.a ≤ n)
    else if x.d = 13 then decide (0 ≤ x.a) && decide (x.a < 40) && decide (1 ≤ x.b) && decide (x.b ≤ 10000)
    else if x.d = 14 then decide (x.b ≤ i) && decide (1 ≤ x.b)
    else if x.d = 16 then wordsS x.a x.b fn
    else if x.d = 17 then decide (0 ≤ x.a) && decide (x.a < l.length) && (l.getD x.a.toNat (0, 0)).1 != 1 && decide (0 ≤ x.b) && decide (x.b ≤ fn) && decide (x.b + (l.getD x.a.toNat (0, 0)).2 ≤ fn)
    else if x.d = 18 then decide (1 ≤ x.a) && decide (x.a ≤ 12) && wordsS x.b (stdW x.a) fn
    else false)

theorem words_has (at' n : Int) (fn : Nat) : wordsS at' n fn = (decide (0 < n) && hasW fn at' n) := by
  rw [Bool.eq_iff_iff]
  simp [wordsS, hasW, isW]
  omega
theorem stdW_pos {n : Int} (h : 1 ≤ n) (h2 : n ≤ 12) : 0 < stdW n := by
  unfold stdW; repeat' split
  all_goals omega

def mayD (l : List (Int × Nat)) (fn n i : Nat) (x : Ins) : Bool := (usesS x && fieldsS l fn n i x) && (if x.d = 14 then isW x.b 1 i else true)

set_option maxHeartbeats 2000000 in
theorem ok_may (l : List (Int × Nat)) (fn n i : Nat) (x : Ins) : okD l fn n i x = mayD l fn n i x := by
  obtain ⟨d, a, b, c⟩ := x
  rcases dos d with rfl | rfl | rfl | rfl | rfl | rfl | rfl | rfl | rfl | rfl | rfl | rfl | rfl | rfl | rfl | rfl | rfl | rfl | hd
  · rw [Bool.eq_iff_iff]
    simp [okD, mayD, usesS, fieldsS, words_has, isW, callS, hasW]
  · rw [Bool.eq_iff_iff]
    simp [okD, mayD, usesS, fieldsS, words_has, isW, callS, hasW]
    try omega
  · rw [Bool.eq_iff_iff]
    simp [okD, mayD, usesS, fieldsS, words_has, isW, callS, hasW]
    try omega
  · rw [Bool.eq_iff_iff]
    simp [okD, mayD, usesS, fieldsS, words_has, isW, callS, hasW]
    try omega
  · rw [Bool.eq_iff_iff]
    simp [okD, mayD, usesS, fieldsS, words_has, isW, callS, hasW]
    try omega
  · rw [Bool.eq_iff_iff]
    simp [okD, mayD, usesS, fieldsS, words_has, isW, callS, hasW]
  · rw [Bool.eq_iff_iff]
    simp [okD, mayD, usesS, fieldsS, words_has, isW, callS, hasW]
  · rw [Bool.eq_iff_iff]
    simp [okD, mayD, usesS, fieldsS, words_has, isW, callS, hasW]
  · rw [Bool.eq_iff_iff]
    simp [okD, mayD, usesS, fieldsS, words_has, isW, callS, hasW]
  · rw [Bool.eq_iff_iff]
    simp [okD, mayD, usesS, fieldsS, words_has, isW, callS, hasW]
  · rw [Bool.eq_iff_iff]
    simp [okD, mayD, usesS, fieldsS, words_has, isW, callS, hasW]
    try omega
  · rw [Bool.eq_iff_iff]
    simp [okD, mayD, usesS, fieldsS, words_has, isW, callS, hasW]
    try omega
  · rw [Bool.eq_iff_iff]
    simp [okD, mayD, usesS, fieldsS, words_has, isW, callS, hasW]
    try omega
  · rw [Bool.eq_iff_iff]
    simp [okD, mayD, usesS, fieldsS, words_has, isW, callS, hasW]
    try omega
  · rw [Bool.eq_iff_iff]
    simp [okD, mayD, usesS, fieldsS, words_has, isW, callS, hasW]
  · rw [Bool.eq_iff_iff]
    simp [okD, mayD, usesS, fieldsS, words_has, isW, callS, hasW]
    try omega
  · rw [Bool.eq_iff_iff]
    simp [okD, mayD, usesS, fieldsS, words_has, isW, callS, hasW]
    try omega
  · rw [Bool.eq_iff_iff]
    simp [okD, mayD, usesS, fieldsS, words_has, isW, callS, hasW]
    exact fun _ h1 h2 _ _ _ => stdW_pos h1 h2
  · have h1 : usesS ⟨d, a, b, c⟩ = false := by
      unfold usesS; dsimp only; rw [if_neg (by omega), if_neg (by omega), if_neg (by omega), if_neg (by omega)]
    have h2 : okD l fn n i ⟨d, a, b, c⟩ = false := by
      unfold okD; dsimp only
      rw [if_neg (by omega : ¬ (d = 1 ∨ d = 8 ∨ d = 9 ∨ d = 10 ∨ d = 15)), if_neg (by omega : ¬ (d = 2 ∨ d = 3)), if_neg (by omega : ¬ (d = 4 ∨ d = 5)), if_neg (by omega : ¬ d = 6), if_neg (by omega : ¬ d = 7), if_neg (by omega : ¬ (d = 11 ∨ d = 12)), if_neg (by omega : ¬ d = 13), if_neg (by omega : ¬ d = 14), if_neg (by omega : ¬ d = 16), if_neg (by omega : ¬ d = 17), if_neg (by omega : ¬ d = 18)]
      simp
    rw [h2]
    simp [mayD, h1]
end Go.Proofs.YtbaijehecncclaaDoor
