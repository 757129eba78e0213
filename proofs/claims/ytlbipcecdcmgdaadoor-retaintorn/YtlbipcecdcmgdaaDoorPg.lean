/- Plain facts: what a record says; one with bits turned. -/
import Derived.Test.YtlbipcecdcmgdaaDoorPf
namespace Go.Proofs.YtlbipcecdcmgdaaDoor
set_option linter.unusedVariables false
set_option linter.unusedSimpArgs false

theorem val_app (x y : List Nat) (n j : Nat) (h : x.length = n) : val (x ++ y) (n + j) = val y j := by
  rw [← val_drop, ← h, List.drop_left]
theorem val_four {c : Nat} (hc : c < 2 ^ 32) (y : List Nat) : val (four c ++ y) 0 = c := by
  unfold val four
  simp
  omega
theorem val_fourL {ns : List Nat} (h : is32 ns) (y : List Nat) (i : Nat) (hi : i < ns.length) : val (fourL ns ++ y) (i * 4) = ns.getD i 0 := by
  have e : ns = ns.take i ++ ns.getD i 0 :: ns.drop (i + 1) := by
    have hg : ns.getD i 0 = ns[i] := by simp [List.getD, hi]
    rw [hg]
    conv => lhs; rw [← List.take_append_drop i ns]
    rw [List.drop_eq_getElem_cons hi]
  have hlen : (fourL (ns.take i)).length = i * 4 := by rw [fourL_len, List.length_take]; congr 1; omega
  have e2 : fourL ns ++ y = fourL (ns.take i) ++ (four (ns.getD i 0) ++ (fourL (ns.drop (i + 1)) ++ y)) := by
    conv => lhs; rw [e]
    simp [fourL]
  rw [e2]
  have := val_app (fourL (ns.take i)) (four (ns.getD i 0) ++ (fourL (ns.drop (i + 1)) ++ y)) (i * 4) 0 hlen
  rw [Nat.add_zero (i * 4)] at this
  rw [this, val_four (at_32 h i)]
theorem numsOf_fourL {ns : List Nat} (h : is32 ns) (y : List Nat) : numsOf (fourL ns ++ y) ns.length = iN ns := by
  apply List.ext_getElem
  · simp [numsOf, iN]
  · intro i h1 h2
    have hi : i < ns.length := by simpa [numsOf] using h1
    simp only [numsOf, iN, List.getElem_map, List.getElem_range]
    rw [val_fourL h y i hi]
    simp [List.getD, hi]
/-- The parts of a record. -/
structure Parts (l : List Int) (n : Nat) (b : List Nat) : Prop where
  len : b.length = 16 + (l.length * 4 + 4)
  by_ : isB b
  sign : b.take 4 = [80, 87, 82, 49]
  ser : val b 4 = n
  cnt : val b 8 = l.length
  hsum : val b 12 = crc (b.take 12)
  bsum : val b (16 + l.length * 4) = crc ((b.drop 16).take (l.length * 4))
  words : numsOf (b.drop 16) l.length = l
theorem parts_rec {l : List Int} {n : Nat} (hl : l.length ≤ 2000) (hn : n < 2 ^ 32) (hall : l.all okW = true) : Parts l n (headS l n ++ bodyS l) := by
  have h12 : headS l n = ([80, 87, 82, 49] ++ four n ++ four l.length) ++ four (crc ([80, 87, 82, 49] ++ four n ++ four l.length)) := by
    unfold headS summedS; simp [fourL]
  have hd : (headS l n ++ bodyS l).drop 16 = bodyS l := by rw [← headS_len l n, List.drop_left]
  have hbody : bodyS l = fourL (nN l) ++ four (crc (fourL (nN l))) := by unfold bodyS summedS; simp
  have hfl : (fourL (nN l)).length = l.length * 4 := by rw [fourL_len, nN_len]
  have hX : ([80, 87, 82, 49] ++ four n ++ four l.length).length = 12 := rfl
  refine ⟨by rw [List.length_append, headS_len, bodyS_len], isB_app (headS_B l n) (bodyS_B l), ?_, ?_, ?_, ?_, ?_, ?_⟩
  · rw [h12]; simp
  · rw [h12]
    have := val_app [80, 87, 82, 49] (four n ++ (four l.length ++ (four (crc ([80, 87, 82, 49] ++ four n ++ four l.length)) ++ bodyS l))) 4 0 rfl
    rw [Nat.add_zero, val_four hn] at this
    simpa only [List.append_assoc] using this
  · rw [h12]
    have := val_app ([80, 87, 82, 49] ++ four n) (four l.length ++ (four (crc ([80, 87, 82, 49] ++ four n ++ four l.length)) ++ bodyS l)) 8 0 rfl
    rw [Nat.add_zero, val_four (by omega)] at this
    simpa only [List.append_assoc] using this
  · rw [h12]
    have := val_app ([80, 87, 82, 49] ++ four n ++ four l.length) (four (crc ([80, 87, 82, 49] ++ four n ++ four l.length)) ++ bodyS l) 12 0 rfl
    rw [Nat.add_zero, val_four (crc_lt _)] at this
    rw [List.append_assoc, this, ← List.append_assoc, List.append_assoc _ (four (crc _)), List.take_left' hX]
  · rw [← val_drop, hd, hbody]
    have := val_app (fourL (nN l)) (four (crc (fourL (nN l))) ++ []) (l.length * 4) 0 hfl
    rw [Nat.add_zero (l.length * 4), val_four (crc_lt _), List.append_nil] at this
    rw [this, List.take_left' hfl]
  · rw [hd, hbody]
    have := numsOf_fourL (nN_32 hall) (four (crc (fourL (nN l))))
    rw [nN_len, iN_nN hall] at this
    exact this
theorem Parts.reads {l : List Int} {n : Nat} {b : List Nat} (h : Parts l n b) (hl : l.length ≤ 2000) : readE b = 0 ∧ readN b = n ∧ readW b = l := by
  have hE : readE b = 0 := by
    unfold readE
    rw [if_neg (by have := h.len; omega), if_neg (by rw [h.sign]; simp), if_neg (by rw [h.hsum]; simp), h.cnt, if_neg (by omega), if_neg (by have := h.len; omega), if_neg (by rw [h.bsum]; simp)]
  refine ⟨hE, ?_, ?_⟩
  · unfold readN; rw [if_pos hE, h.ser]
  · unfold readW; rw [if_pos hE, h.cnt, h.words]
theorem read_ok {t : List Nat} (h : readE t = 0) : 16 ≤ t.length ∧ val t 12 = crc (t.take 12) ∧ 16 + (val t 8 + 1) * 4 ≤ t.length ∧ val t (16 + val t 8 * 4) = crc ((t.drop 16).take (val t 8 * 4)) := by
  unfold readE at h
  split at h
  · omega
  split at h
  · omega
  split at h
  · omega
  split at h
  · omega
  split at h
  · omega
  split at h
  · omega
  rename_i h1 h2 h3 h4 h5 h6
  exact ⟨by omega, by simpa using h3, by omega, by simpa using h6⟩
theorem bitAt_take (l : List Nat) (k i : Nat) : bitAt (l.take k) i = if i < 8 * k then bitAt l i else 0 := by
  unfold bitAt
  by_cases h : i < 8 * k
  · rw [if_pos h]
    have : i / 8 < k := by omega
    simp [List.getD, this]
  · rw [if_neg h]
    have : k ≤ i / 8 := by omega
    have e : (l.take k).getD (i / 8) 0 = 0 := by
      simp only [List.getD]
      rw [List.getElem?_eq_none (by simp; omega)]
      rfl
    rw [e]
    simp
theorem bitAt_drop (l : List Nat) (k i : Nat) : bitAt (l.drop k) i = bitAt l (8 * k + i) := by
  unfold bitAt
  rw [show (8 * k + i) / 8 = k + i / 8 by omega, show (8 * k + i) % 8 = i % 8 by omega]
  simp [List.getD]
/-- Bits turned within 32 neighbouring ones are told. -/
theorem flip_told {l : List Int} {n : Nat} {b t : List Nat} (h : Parts l n b) (ht : isB t) (hlen : t.length = b.length) (k : Nat) (hw : ∀ i, i < k ∨ k + 32 ≤ i → bitAt t i = bitAt b i) (hr : readE t = 0) : t = b := by
  obtain ⟨h16, hs, hl2, hbs⟩ := read_ok hr
  have hbl := h.len
  have hhead : t.take 16 = b.take 16 := by
    refine burst (L := 12) (isB_take ht 16) (isB_take h.by_ 16) (by simp; omega) (by simp; omega) ?_ ?_ k (fun i hi => ?_)
    · rw [val_take _ _ _ (by omega), List.take_take]; exact hs
    · rw [val_take _ _ _ (by omega), List.take_take]; exact h.hsum
    · rw [bitAt_take, bitAt_take, hw i hi]
  have hcnt : val t 8 = l.length := by
    rw [← val_take t 16 8 (by omega), hhead, val_take b 16 8 (by omega), h.cnt]
  rw [hcnt] at hbs
  have hbody : t.drop 16 = b.drop 16 := by
    refine burst (L := l.length * 4) (isB_drop ht 16) (isB_drop h.by_ 16) (by simp; omega) (by simp; omega) ?_ ?_ (k - 128) (fun i hi => ?_)
    · rw [val_drop]; exact hbs
    · rw [val_drop]; exact h.bsum
    · rw [bitAt_drop, bitAt_drop]
      exact hw _ (by omega)
  rw [← List.take_append_drop 16 t, ← List.take_append_drop 16 b, hhead, hbody]
end Go.Proofs.YtlbipcecdcmgdaaDoor
