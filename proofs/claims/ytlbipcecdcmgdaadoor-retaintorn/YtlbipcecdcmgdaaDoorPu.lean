/- Plain facts: what a save leaves, and what one leaves that power cut short. -/
import Derived.Test.YtlbipcecdcmgdaaDoorPt
namespace Go.Proofs.YtlbipcecdcmgdaaDoor
set_option linter.unusedVariables false
set_option linter.unusedSimpArgs false

theorem upTo_neg (n : Nat) : upToN (-1) n = n := by unfold upToN; rw [if_pos (by omega)]
theorem erS_all (S : List Nat) (i : Nat) (h : i < S.length) : (erS S S.length).getD i 0 = 255 := by rw [erS_get S _ i h, if_pos h]
/-- Erased; then the body written, up to c bytes. -/
def bodyW (S bd : List Nat) (c : Nat) : List Nat := wrS (erS S S.length) 16 bd c
theorem bodyW_free (S bd : List Nat) (c : Nat) : free (erS S S.length) 16 bd c := free_of fun i hi h => erS_all S _ (by rw [erS_len] at h; exact h)
theorem bodyW_low (S bd : List Nat) (c i : Nat) (hi : i < 16) (h : i < (bodyW S bd c).length) : (bodyW S bd c).getD i 0 = 255 := by
  unfold bodyW at h ⊢
  rw [wrS_get _ _ _ _ _ h, if_neg (by omega)]
  split
  · rename_i h2
    rw [erS_len] at h2
    exact erS_all S i h2
  · rfl
theorem headW_free (S bd hd : List Nat) (c : Nat) (hc : c ≤ 16) : free (bodyW S bd bd.length) 0 hd c := free_of fun i hi h => by
  rw [Nat.zero_add] at h ⊢
  exact bodyW_low S bd _ i (by omega) h
/-- Then the head, up to c bytes. -/
def headW (S bd hd : List Nat) (c : Nat) : List Nat := wrS (bodyW S bd bd.length) 0 hd c
theorem bodyW_len (S bd : List Nat) (h : 0 < bd.length) : (bodyW S bd bd.length).length = max S.length (16 + bd.length) := by
  unfold bodyW
  rw [wrS_length, if_neg (by omega), erS_len]
theorem headW_len (S bd hd : List Nat) (c : Nat) (hc : c ≤ 16) (h : 0 < bd.length) : (headW S bd hd c).length = max S.length (16 + bd.length) := by
  unfold headW
  rw [wrS_length, bodyW_len S bd h]
  split <;> omega
theorem headW_get (S bd hd : List Nat) (c i : Nat) (hc : c ≤ 16) (hb : 0 < bd.length) (hi : i < 16 + bd.length) : (headW S bd hd c).getD i 0 = if i < c then hd.getD i 0 else if i < 16 then 255 else bd.getD (i - 16) 0 := by
  have hl := headW_len S bd hd c hc hb
  have hl2 := bodyW_len S bd hb
  have h1 : i < (headW S bd hd c).length := by omega
  unfold headW at h1 ⊢
  rw [wrS_get _ _ _ _ _ h1, Nat.zero_add, Nat.sub_zero]
  by_cases hic : i < c
  · rw [if_pos ⟨by omega, hic⟩, if_pos hic]
  · rw [if_neg (by omega), if_neg hic, if_pos (by omega)]
    by_cases h16 : i < 16
    · rw [if_pos h16]
      exact bodyW_low S bd _ i h16 (by omega)
    · rw [if_neg h16]
      have h3 : i < (bodyW S bd bd.length).length := by omega
      unfold bodyW at h3 ⊢
      rw [wrS_get _ _ _ _ _ h3, if_pos (by omega)]
theorem headW_full (S bd hd : List Nat) (hh : hd.length = 16) (hb : 0 < bd.length) : (headW S bd hd 16).take (hd ++ bd).length = hd ++ bd := by
  have hl := headW_len S bd hd 16 (by omega) hb
  have hlen : ((headW S bd hd 16).take (hd ++ bd).length).length = (hd ++ bd).length := by
    rw [List.length_take, List.length_append]
    omega
  apply getD_ext hlen
  intro i hi
  rw [hlen, List.length_append] at hi
  have e1 : ((headW S bd hd 16).take (hd ++ bd).length).getD i 0 = (headW S bd hd 16).getD i 0 := by
    simp only [List.getD]
    rw [List.getElem?_take_of_lt (by rw [List.length_append]; omega)]
  rw [e1, headW_get S bd hd 16 i (by omega) hb (by omega)]
  by_cases h16 : i < 16
  · rw [if_pos h16]
    simp only [List.getD]
    rw [List.getElem?_append_left (by omega)]
  · rw [if_neg h16, if_neg h16]
    simp only [List.getD]
    rw [List.getElem?_append_right (by omega), hh]
/-- A head that was written only up to a byte: it tells nothing, or all. -/
theorem headW_torn {l : List Int} {n : Nat} (hl : l.length ≤ 2000) (hn : n < 2 ^ 32) (hall : l.all okW = true) (S : List Nat) (c : Nat) (hc : c ≤ 16) (hS : isB S) :
    readE (headW S (bodyS l) (headS l n) c) ≠ 0 ∨ (headW S (bodyS l) (headS l n) c).take (headS l n ++ bodyS l).length = headS l n ++ bodyS l := by
  have hP := parts_rec hl hn hall
  have hh := headS_len l n
  have hbl := bodyS_len l
  have hb : 0 < (bodyS l).length := by omega
  have hget := headW_get S (bodyS l) (headS l n) c
  have hlen := headW_len S (bodyS l) (headS l n) c hc hb
  have hfull : ∀ i, i < 16 → (headS l n ++ bodyS l).getD i 0 = (headS l n).getD i 0 := fun i hi => by
    simp only [List.getD]
    rw [List.getElem?_append_left (by omega)]
  generalize hT : headW S (bodyS l) (headS l n) c = T at *
  by_cases h0 : readE T = 0
  · right
    obtain ⟨h16, hs, hl2, hbs⟩ := read_ok h0
    -- the signs of the head
    have c12 : 12 ≤ c := by
      apply Classical.byContradiction
      intro hlt
      have g11 := hget 11 hc hb (by omega)
      rw [if_neg (by omega), if_pos (by omega)] at g11
      have hv : val T 8 > 2000 := by unfold val; rw [show (8 + 3) = 11 from rfl, g11]; omega
      unfold readE at h0
      repeat' split at h0
      all_goals omega
    have hsame : ∀ i, i < 12 → T.getD i 0 = (headS l n).getD i 0 := fun i hi => by
      rw [hget i hc hb (by omega), if_pos (by omega)]
    have h12 : T.take 12 = (headS l n ++ bodyS l).take 12 := by
      have e1 : (T.take 12).length = 12 := by rw [List.length_take]; omega
      have e2 : ((headS l n ++ bodyS l).take 12).length = 12 := by rw [List.length_take, List.length_append]; omega
      apply getD_ext (by rw [e1, e2])
      intro i hi
      rw [e1] at hi
      simp only [List.getD]
      rw [List.getElem?_take_of_lt hi, List.getElem?_take_of_lt hi]
      have := hsame i hi
      rw [← hfull i (by omega)] at this
      simpa only [List.getD] using this
    have hval : val T 12 = val (headS l n ++ bodyS l) 12 := by rw [hs, h12, ← hP.hsum]
    have hTB : isB T := by rw [← hT]; exact wrS_B (wrS_B (erS_B hS _) (bodyS_B l) _ _) (headS_B l n) _ _
    have t0 := at_byte hTB 12
    have t1 := at_byte hTB 13
    have t2 := at_byte hTB 14
    have t3 := at_byte hTB 15
    have u0 := at_byte hP.by_ 12
    have u1 := at_byte hP.by_ 13
    have u2 := at_byte hP.by_ 14
    have u3 := at_byte hP.by_ 15
    unfold val at hval
    simp only [Nat.reduceAdd] at hval
    have hall16 : ∀ i, i < 16 → T.getD i 0 = (headS l n ++ bodyS l).getD i 0 := fun i hi => by
      by_cases h1 : i < 12
      · rw [hsame i h1, hfull i hi]
      · have h4 : i = 12 ∨ i = 13 ∨ i = 14 ∨ i = 15 := by omega
        rcases h4 with rfl | rfl | rfl | rfl <;> omega
    have hlenP : (headS l n ++ bodyS l).length = 16 + (bodyS l).length := by rw [List.length_append, hh]
    have e3 : (T.take (headS l n ++ bodyS l).length).length = (headS l n ++ bodyS l).length := by rw [List.length_take]; omega
    apply getD_ext e3
    intro i hi
    rw [e3] at hi
    have e4 : (T.take (headS l n ++ bodyS l).length).getD i 0 = T.getD i 0 := by
      simp only [List.getD]
      rw [List.getElem?_take_of_lt hi]
    rw [e4]
    by_cases h1 : i < 16
    · exact hall16 i h1
    · rw [hget i hc hb (by omega), if_neg (by omega), if_neg h1]
      simp only [List.getD]
      rw [List.getElem?_append_right (by omega), hh]
  · exact .inl h0
theorem ahead_next {s : Nat} (h : s < 2 ^ 32) : aheadB ((s + 1) % 4294967296) s = true ∧ aheadB s ((s + 1) % 4294967296) = false := by
  unfold aheadB
  have e1 : (((s + 1) % 4294967296 : Nat) : Int) - (s : Int) = 1 ∨ (((s + 1) % 4294967296 : Nat) : Int) - (s : Int) = -4294967295 := by omega
  constructor
  · rcases e1 with e | e <;> rw [e] <;> decide
  · have e2 : (s : Int) - (((s + 1) % 4294967296 : Nat) : Int) = -1 ∨ (s : Int) - (((s + 1) % 4294967296 : Nat) : Int) = 4294967295 := by omega
    rcases e2 with e | e <;> rw [e] <;> decide
/-- What is newest behind a save, whatever the slots held. -/
theorem newS_saved {A B F : List Nat} {ws : List Int} (ha : isB A) (hb : isB B) (hE : readE F = 0) (hN : readN F = (nextS A B).2) (hW : readW F = ws) :
    newS (if (nextS A B).1 = 0 then F else A) (if (nextS A B).1 = 0 then B else F) = ⟨ws, (nextS A B).1, (nextS A B).2, 0⟩ := by
  have na := readN_lt ha
  have nb := readN_lt hb
  have a1 := ahead_next na
  have b1 := ahead_next nb
  by_cases h1 : readE A = 0 <;> by_cases h2 : readE B = 0
  · cases h3 : aheadB (readN B) (readN A) with
    | true =>
      have e : newS A B = ⟨readW B, 1, readN B, 0⟩ := by unfold newS; rw [if_neg (by simp [h1]), if_pos (by simp [h1, h2, h3])]
      have ex : nextS A B = (0, (readN B + 1) % 4294967296) := by unfold nextS; rw [e]; simp
      rw [ex] at hN ⊢
      simp only [if_true]
      unfold newS
      rw [if_neg (by simp [hE]), if_neg (by simp [hE, h2, hN, b1.2]), hW, hN]
    | false =>
      have e : newS A B = ⟨readW A, 0, readN A, 0⟩ := by unfold newS; rw [if_neg (by simp [h1]), if_neg (by simp [h1, h2, h3])]
      have ex : nextS A B = (1, (readN A + 1) % 4294967296) := by unfold nextS; rw [e]; simp
      rw [ex] at hN ⊢
      simp only [Nat.one_ne_zero, if_false]
      unfold newS
      rw [if_neg (by simp [hE]), if_pos (by simp [hE, h1, hN, a1.1]), hW, hN]
  · have e : newS A B = ⟨readW A, 0, readN A, 0⟩ := by unfold newS; rw [if_neg (by simp [h1]), if_neg (by simp [h1, h2])]
    have ex : nextS A B = (1, (readN A + 1) % 4294967296) := by unfold nextS; rw [e]; simp
    rw [ex] at hN ⊢
    simp only [Nat.one_ne_zero, if_false]
    unfold newS
    rw [if_neg (by simp [hE]), if_pos (by simp [hE, h1, hN, a1.1]), hW, hN]
  · have e : newS A B = ⟨readW B, 1, readN B, 0⟩ := by unfold newS; rw [if_neg (by simp [h2]), if_pos (by simp [h1])]
    have ex : nextS A B = (0, (readN B + 1) % 4294967296) := by unfold nextS; rw [e]; simp
    rw [ex] at hN ⊢
    simp only [if_true]
    unfold newS
    rw [if_neg (by simp [hE]), if_neg (by simp [hE, h2, hN, b1.2]), hW, hN]
  · have e : newS A B = ⟨[], 0, 0, 16⟩ := by unfold newS; rw [if_pos ⟨h1, h2⟩]
    have ex : nextS A B = (0, 1) := by unfold nextS; rw [e]; simp
    rw [ex] at hN ⊢
    simp only [if_true]
    unfold newS
    rw [if_neg (by simp [hE]), if_neg (by simp [hE, h2]), hW, hN]
/-- What is newest where the slot that is written tells nothing: what was newest. -/
theorem newS_torn {A B T : List Nat} (he : (newS A B).e = 0) (hT : readE T ≠ 0) :
    newS (if (nextS A B).1 = 0 then T else A) (if (nextS A B).1 = 0 then B else T) = newS A B := by
  have hx : (nextS A B).1 = 1 - (newS A B).slot := by unfold nextS; rw [if_pos he]
  rw [hx]
  by_cases h1 : readE A = 0 <;> by_cases h2 : readE B = 0
  · cases h3 : aheadB (readN B) (readN A) with
    | true =>
      have e : newS A B = ⟨readW B, 1, readN B, 0⟩ := by unfold newS; rw [if_neg (by simp [h1]), if_pos (by simp [h1, h2, h3])]
      rw [e]
      simp only [Nat.sub_self, if_true]
      unfold newS
      rw [if_neg (by simp [h2]), if_pos (by simp [hT])]
    | false =>
      have e : newS A B = ⟨readW A, 0, readN A, 0⟩ := by unfold newS; rw [if_neg (by simp [h1]), if_neg (by simp [h1, h2, h3])]
      rw [e]
      simp only [Nat.sub_zero, Nat.one_ne_zero, if_false]
      unfold newS
      rw [if_neg (by simp [h1]), if_neg (by simp [h1, hT])]
  · have e : newS A B = ⟨readW A, 0, readN A, 0⟩ := by unfold newS; rw [if_neg (by simp [h1]), if_neg (by simp [h1, h2])]
    rw [e]
    simp only [Nat.sub_zero, Nat.one_ne_zero, if_false]
    unfold newS
    rw [if_neg (by simp [h1]), if_neg (by simp [h1, hT])]
  · have e : newS A B = ⟨readW B, 1, readN B, 0⟩ := by unfold newS; rw [if_neg (by simp [h2]), if_pos (by simp [h1])]
    rw [e]
    simp only [Nat.sub_self, if_true]
    unfold newS
    rw [if_neg (by simp [h2]), if_pos (by simp [hT])]
  · have e : newS A B = ⟨[], 0, 0, 16⟩ := by unfold newS; rw [if_pos ⟨h1, h2⟩]
    rw [e] at he
    simp at he
end Go.Proofs.YtlbipcecdcmgdaaDoor
