/- Plain facts: slots that are erased and written. -/
import Derived.Test.YtlbipcecdcmgdaaDoorTw
namespace Go.Proofs.YtlbipcecdcmgdaaDoor
set_option linter.unusedVariables false
set_option linter.unusedSimpArgs false

theorem getD_ge (l : List Nat) (i : Nat) (h : l.length ≤ i) : l.getD i 0 = 0 := by simp [List.getD, h]
theorem getD_ext {l m : List Nat} (hl : l.length = m.length) (h : ∀ i, i < l.length → l.getD i 0 = m.getD i 0) : l = m := by
  apply List.ext_getElem hl
  intro i h1 h2
  have := h i h1
  simpa [List.getD, h1, h2] using this
theorem pad_get (T : List Nat) (m i : Nat) (h : i < max T.length m) : (pad T m).getD i 0 = if i < T.length then T.getD i 0 else 255 := by
  unfold pad
  by_cases h1 : i < T.length
  · rw [if_pos h1]
    simp only [List.getD]
    rw [List.getElem?_append_left h1]
  · rw [if_neg h1]
    simp only [List.getD]
    rw [List.getElem?_append_right (by omega), List.getElem?_replicate, if_pos (by omega)]
    rfl
theorem set_get (T : List Nat) (k y i : Nat) (h : k < T.length) : (T.set k y).getD i 0 = if i = k then y else T.getD i 0 := by
  by_cases e : i = k
  · subst e; simp [List.getD, h]
  · rw [if_neg e]
    simp only [List.getD]
    rw [List.getElem?_set_ne (fun h => e h.symm)]
theorem wrS_length (S : List Nat) (a : Nat) (D : List Nat) : ∀ c, (wrS S a D c).length = if c = 0 then S.length else max S.length (a + c)
  | 0 => rfl
  | c + 1 => by
    have := wrS_length S a D c
    simp only [wrS, List.length_set, pad_len]
    rw [this]
    by_cases h : c = 0
    · subst h; simp
    · simp [h]; omega
theorem wrS_get (S : List Nat) (a : Nat) (D : List Nat) : ∀ c i, i < (wrS S a D c).length → (wrS S a D c).getD i 0 = if a ≤ i ∧ i < a + c then D.getD (i - a) 0 else if i < S.length then S.getD i 0 else 255
  | 0, i, hi => by
    have hi' : i < S.length := hi
    rw [if_neg (by omega), if_pos hi']
    rfl
  | c + 1, i, hi => by
    have hlen := wrS_length S a D c
    have hlen1 := wrS_length S a D (c + 1)
    simp only [wrS] at hi ⊢
    rw [List.length_set, pad_len] at hi
    rw [set_get _ _ _ _ (by rw [pad_len]; omega)]
    by_cases e : i = a + c
    · rw [if_pos e, if_pos (by omega)]
      congr 1
      omega
    · rw [if_neg e, pad_get _ _ _ hi]
      by_cases h1 : i < (wrS S a D c).length
      · rw [if_pos h1, wrS_get S a D c i h1]
        by_cases h2 : a ≤ i ∧ i < a + c
        · rw [if_pos h2, if_pos (by omega)]
        · have h3 : ¬ (a ≤ i ∧ i < a + (c + 1)) := by omega
          rw [if_neg h2, if_neg h3]
      · rw [if_neg h1]
        have hS : ¬ i < S.length := by rw [hlen] at h1; split at h1 <;> omega
        by_cases h2 : a ≤ i ∧ i < a + (c + 1)
        · exfalso
          rw [hlen] at h1
          split at h1
          · omega
          · omega
        · rw [if_neg h2, if_neg hS]
theorem free_of {S : List Nat} {a : Nat} {D : List Nat} {c : Nat} (h : ∀ i, i < c → a + i < S.length → S.getD (a + i) 0 = 255) : free S a D c := by
  intro i hi
  rw [pad_get _ _ _ (by omega)]
  by_cases h1 : a + i < (wrS S a D i).length
  · rw [if_pos h1, wrS_get S a D i _ h1, if_neg (by omega)]
    by_cases h2 : a + i < S.length
    · rw [if_pos h2]; exact h i hi h2
    · rw [if_neg h2]
  · rw [if_neg h1]
theorem wrS_B {S D : List Nat} (hS : isB S) (hD : isB D) (a : Nat) : ∀ c, isB (wrS S a D c)
  | 0 => hS
  | c + 1 => fun x hx => by
    rcases List.mem_or_eq_of_mem_set hx with hx | rfl
    · exact pad_B (wrS_B hS hD a c) _ x hx
    · exact at_byte hD c
theorem erS_B {S : List Nat} (hS : isB S) (m : Nat) : isB (erS S m) := fun x hx => by
  unfold erS at hx
  rw [List.mem_map] at hx
  obtain ⟨i, _, rfl⟩ := hx
  split
  · omega
  · exact at_byte hS i
/-- A slot that begins with a record reads as it. -/
theorem reads_prefix {l : List Int} {n : Nat} {b S : List Nat} (h : Parts l n b) (hl : l.length ≤ 2000) (hp : S.take b.length = b) : readE S = 0 ∧ readN S = n ∧ readW S = l := by
  have hbl := h.len
  have hSl : b.length ≤ S.length := by
    have := congrArg List.length hp
    rw [List.length_take] at this
    omega
  have hv : ∀ j, j + 3 < b.length → val S j = val b j := fun j hj => by rw [← hp, val_take S b.length j hj]
  have ht : ∀ k, k ≤ b.length → S.take k = b.take k := fun k hk => by
    rw [← hp, List.take_take, Nat.min_eq_left hk]
  have hd : ∀ m, 16 + m ≤ b.length → (S.drop 16).take m = (b.drop 16).take m := fun m hm => by
    rw [← hp, List.drop_take, List.take_take, Nat.min_eq_left (by omega)]
  have hE : readE S = 0 := by
    unfold readE
    rw [if_neg (by omega), if_neg (by rw [ht 4 (by omega), h.sign]; simp), if_neg (by rw [hv 12 (by omega), ht 12 (by omega), h.hsum]; simp), hv 8 (by omega), h.cnt, if_neg (by omega), if_neg (by omega), if_neg (by rw [hv _ (by omega), hd _ (by omega), h.bsum]; simp)]
  refine ⟨hE, ?_, ?_⟩
  · unfold readN; rw [if_pos hE, hv 4 (by omega), h.ser]
  · unfold readW
    rw [if_pos hE, hv 8 (by omega), h.cnt]
    conv => rhs; rw [← h.words]
    unfold numsOf
    apply List.map_congr_left
    intro i hi
    rw [List.mem_range] at hi
    rw [val_drop, val_drop, hv _ (by omega)]
/-- What is no record. -/
theorem lost {S : List Nat} (h : S.length < 16 ∨ S.getD 0 0 ≠ 80) : readE S = 16 := by
  unfold readE
  by_cases h1 : S.length < 16
  · rw [if_pos h1]
  · rw [if_neg h1, if_pos]
    intro e
    have : S.getD 0 0 = (S.take 4).getD 0 0 := by simp [List.getD]
    rw [e] at this
    rcases h with h | h
    · exact h1 h
    · exact h this
end Go.Proofs.YtlbipcecdcmgdaaDoor
