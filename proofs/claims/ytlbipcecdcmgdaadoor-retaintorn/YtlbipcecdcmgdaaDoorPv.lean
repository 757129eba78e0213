/- Plain: a save that stopped anywhere; a save that is whole. -/
import Derived.Test.YtlbipcecdcmgdaaDoorTs
namespace Go.Proofs.YtlbipcecdcmgdaaDoor
set_option linter.unusedVariables false
set_option linter.unusedSimpArgs false

/-- A slot where k steps are done, and c bytes of the next one. -/
def tornS (S BD HD : List Nat) (k c : Nat) : List Nat :=
  if k = 0 then erS S c else if k = 1 then bodyW S BD c else headW S BD HD c
theorem tornS_B {S BD HD : List Nat} (hS : isB S) (hB : isB BD) (hH : isB HD) (k c : Nat) : isB (tornS S BD HD k c) := by
  unfold tornS
  split
  · exact erS_B hS _
  · split
    · exact wrS_B (erS_B hS _) hB _ _
    · exact wrS_B (wrS_B (erS_B hS _) hB _ _) hH _ _
theorem tornS_len (S BD HD : List Nat) (k c : Nat) (hk : k = 0 ∨ (k = 1 ∧ c ≤ BD.length) ∨ (k = 2 ∧ c ≤ 16)) (hb : 0 < BD.length) : (tornS S BD HD k c).length ≤ max S.length (16 + BD.length) := by
  unfold tornS
  rcases hk with rfl | ⟨rfl, hc⟩ | ⟨rfl, hc⟩
  · rw [if_pos rfl, erS_len]; omega
  · rw [if_neg (by omega), if_pos rfl]
    unfold bodyW
    rw [wrS_length, erS_len]
    split <;> omega
  · rw [if_neg (by omega), if_neg (by omega), headW_len S BD HD c hc hb]; omega
/-- A torn save: as it was, or no record, or the whole record. -/
theorem tornS_cases {l : List Int} {n : Nat} (hl : l.length ≤ 2000) (hn : n < 2 ^ 32) (hall : l.all okW = true) (S : List Nat) (hS : isB S) (k c : Nat) (hk : k = 0 ∨ (k = 1 ∧ c ≤ (bodyS l).length) ∨ (k = 2 ∧ c ≤ 16)) :
    tornS S (bodyS l) (headS l n) k c = S ∨ readE (tornS S (bodyS l) (headS l n) k c) ≠ 0 ∨ (k = 2 ∧ readE (tornS S (bodyS l) (headS l n) k c) = 0 ∧ readN (tornS S (bodyS l) (headS l n) k c) = n ∧ readW (tornS S (bodyS l) (headS l n) k c) = l) := by
  unfold tornS
  rcases hk with rfl | ⟨rfl, hc⟩ | ⟨rfl, hc⟩
  · rw [if_pos rfl]
    by_cases h0 : c = 0
    · left; subst h0; exact erS_zero S
    · right; left
      rw [lost]
      · decide
      · by_cases h1 : S.length < 16
        · left; rw [erS_len]; exact h1
        · right
          rw [erS_get S c 0 (by omega), if_pos (by omega)]
          decide
  · right; left
    rw [if_neg (by omega), if_pos rfl, lost]
    · decide
    · by_cases h1 : (bodyW S (bodyS l) c).length < 16
      · left; exact h1
      · right
        rw [bodyW_low S (bodyS l) c 0 (by omega) (by omega)]
        decide
  · right
    rw [if_neg (by omega), if_neg (by omega)]
    rcases headW_torn hl hn hall S c hc hS with h | h
    · left; exact h
    · right; exact ⟨rfl, reads_prefix (parts_rec hl hn hall) hl h⟩
/-- What is newest behind a save that stopped: the old words; the new ones only where the head was under way. -/
theorem newS_stopped {A B : List Nat} {l : List Int} (ha : isB A) (hb : isB B) (he : (newS A B).e = 0) (hl : l.length ≤ 2000) (hall : l.all okW = true) (hn : (nextS A B).2 < 2 ^ 32) (k c : Nat) (hk : k = 0 ∨ (k = 1 ∧ c ≤ (bodyS l).length) ∨ (k = 2 ∧ c ≤ 16)) (F : List Nat)
    (hF : F = tornS (if (nextS A B).1 = 0 then A else B) (bodyS l) (headS l (nextS A B).2) k c) :
    newS (if (nextS A B).1 = 0 then F else A) (if (nextS A B).1 = 0 then B else F) = newS A B ∨ k = 2 ∧ newS (if (nextS A B).1 = 0 then F else A) (if (nextS A B).1 = 0 then B else F) = ⟨l, (nextS A B).1, (nextS A B).2, 0⟩ := by
  have hS : isB (if (nextS A B).1 = 0 then A else B) := by split <;> assumption
  have hT := tornS_cases hl hn hall (if (nextS A B).1 = 0 then A else B) hS k c hk
  rw [← hF] at hT
  rcases hT with h | h | ⟨h0, h1, h2, h3⟩
  · left
    rw [h]
    split <;> rfl
  · left; exact newS_torn he h
  · right; exact ⟨h0, newS_saved ha hb h1 h2 h3⟩
/-- What is newest behind a whole save: the new words. -/
theorem newS_whole {A B : List Nat} {l : List Int} (ha : isB A) (hb : isB B) (hl : l.length ≤ 2000) (hall : l.all okW = true) (hn : (nextS A B).2 < 2 ^ 32) (F : List Nat)
    (hF : F = headW (if (nextS A B).1 = 0 then A else B) (bodyS l) (headS l (nextS A B).2) (headS l (nextS A B).2).length) :
    newS (if (nextS A B).1 = 0 then F else A) (if (nextS A B).1 = 0 then B else F) = ⟨l, (nextS A B).1, (nextS A B).2, 0⟩ := by
  have hh := headS_len l (nextS A B).2
  have hbl := bodyS_len l
  rw [hh] at hF
  have hf := headW_full (if (nextS A B).1 = 0 then A else B) (bodyS l) (headS l (nextS A B).2) hh (by omega)
  rw [← hF] at hf
  obtain ⟨h1, h2, h3⟩ := reads_prefix (parts_rec hl hn hall) hl hf
  exact newS_saved ha hb h1 h2 h3
/-- The serial of the next save. -/
theorem next_lt (A B : List Nat) : (nextS A B).2 < 2 ^ 32 := by
  unfold nextS
  split
  · exact Nat.mod_lt _ (by decide)
  · decide
theorem next_okW (A B : List Nat) : okW ((nextS A B).2 : Int) = true := by
  have h := next_lt A B
  rw [okW_iff]
  omega
theorem look_wordsN (l : List Int) (A B : List Nat) : lookE (wordsS l) ((nextS A B).2 : Int) = 0 := by
  have h := wordsS_len l
  unfold lookE
  rw [if_neg (by omega), next_okW, wordsS_ok]
  rfl
/-- The words with a small number ahead of them. -/
theorem head_ok (i : Nat) (hi : i ≤ 5) (l : List Int) : (((i : Int) :: wordsS l)).all okW = true := by
  have h : okW (i : Int) = true := by rw [okW_iff]; omega
  rw [List.all_cons, h, wordsS_ok]
  rfl
theorem head_len (i : Nat) (l : List Int) : ((i : Int) :: wordsS l).length ≤ 201 := by
  have h := wordsS_len l
  rw [List.length_cons]
  omega
theorem look_head (i : Nat) (hi : i ≤ 5) (l : List Int) (A B : List Nat) : lookE ((i : Int) :: wordsS l) ((nextS A B).2 : Int) = 0 := by
  have h := head_len i l
  unfold lookE
  rw [if_neg (by omega), next_okW, head_ok i hi]
  rfl
end Go.Proofs.YtlbipcecdcmgdaaDoor
