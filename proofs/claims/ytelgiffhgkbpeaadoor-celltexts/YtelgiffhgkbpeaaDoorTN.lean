/- A time that is shown is read; and so is every value; no program in sight. -/
import Derived.Test.YtelgiffhgkbpeaaDoorTM
namespace Go.Proofs.YtelgiffhgkbpeaaDoor
open Go.RowKit

theorem feedT_app : ∀ (l m : List UInt8) (st : TSt), feedT st (l ++ m) = (feedT st l).bind fun st' => feedT st' m
  | [], _, _ => rfl
  | c :: l, m, st => by
    rw [List.cons_append, feedT, feedT]
    cases stepT st c.toNat with
    | none => rfl
    | some st' => exact feedT_app l m st'
/-- Digits behind a unit that is whole. -/
theorem feedT_dig (T l : Int) : ∀ (D : List UInt8) (v : Int) (wh : Bool), digOnly D → feedT ⟨T, l, v, wh, []⟩ D = (feed 10 (v, wh) D).map fun d => ⟨T, l, d.1, d.2, []⟩
  | [], _, _, _ => rfl
  | c :: D, v, wh, h => by
    have hc := h c List.mem_cons_self
    rw [feedT, feed_cons]
    have e : stepT ⟨T, l, v, wh, []⟩ (c.toNat : Int) = (stepD 10 (v, wh) c.toNat).map fun d => ⟨T, l, d.1, d.2, []⟩ := by
      rw [stepT, if_neg (by omega)]
      rfl
    rw [e]
    cases stepD 10 (v, wh) c.toNat with
    | none => rfl
    | some d => exact feedT_dig T l D d.1 d.2 (fun x hx => h x (List.mem_cons_of_mem _ hx))
theorem feedT_first (S : TSt) (T l : Int) (hS : partT S = some ⟨T, l, 0, false, []⟩) (D : List UInt8) (hne : D ≠ []) (h : digOnly D) : feedT S D = feedT ⟨T, l, 0, false, []⟩ D := by
  match D, hne, h with
  | c :: D, _, h =>
    have hc := h c List.mem_cons_self
    rw [feedT, feedT]
    have e : stepT S (c.toNat : Int) = stepT ⟨T, l, 0, false, []⟩ (c.toNat : Int) := by
      rw [stepT, stepT, if_neg (by omega), if_neg (by omega), hS]
      rfl
    rw [e]
theorem feedT_letters : ∀ (u : List UInt8) (S : TSt), (∀ b ∈ u, 97 ≤ b.toNat ∧ b.toNat ≤ 122) → feedT S u = some { S with unit := S.unit ++ u }
  | [], S, _ => by rw [feedT, List.append_nil]
  | c :: u, S, h => by
    have hc := h c List.mem_cons_self
    rw [feedT]
    have e : stepT S (c.toNat : Int) = some { S with unit := S.unit ++ [c] } := by
      rw [stepT, if_pos (by omega)]
      have : UInt8.ofNat ((c.toNat : Int).toNat) = c := by simp
      rw [this]
    rw [e, Option.bind_some, feedT_letters u _ (fun x hx => h x (List.mem_cons_of_mem _ hx))]
    simp
/-- A part of a time's text, as a list. -/
def ptL (m L : Int) (u : List UInt8) : List UInt8 := if L ≤ m then Lib.decDigits (m / L).toNat ++ u else []
theorem part_read (S : TSt) (T l m L : Int) (u : List UInt8) (hS : partT S = some ⟨T, l, 0, false, []⟩) (hu : unitL u = L) (hlet : ∀ b ∈ u, 97 ≤ b.toNat ∧ b.toNat ≤ 122) (hne : u ≠ [])
    (hL : 0 < L) (hl : L < l) (h0 : 0 ≤ m) (h1 : m ≤ 4294967295) (hz : S.unit = [] → T = 0) :
    ∃ S' l', feedT S (ptL m L u) = some S' ∧ partT S' = some ⟨T + m / L * L, l', 0, false, []⟩ ∧ L ≤ l' ∧ (S'.unit = [] → T + m / L * L = 0) := by
  by_cases hm : L ≤ m
  · have hq0 : 0 ≤ m / L := Int.ediv_nonneg h0 (by omega)
    have hq1 : m / L ≤ m := Int.ediv_le_self _ h0
    have ho := dec_only (m / L).toNat (m / L).toNat (Nat.le_refl _)
    refine ⟨⟨T, l, m / L, true, u⟩, L, ?_, ?_, Int.le_refl _, fun h => absurd h hne⟩
    · rw [ptL, if_pos hm, feedT_app, feedT_first S T l hS _ (dec_ne _) ho, feedT_dig T l _ 0 false ho, feed_dec _ _ (Nat.le_refl _) (by omega)]
      show feedT ⟨T, l, ((m / L).toNat : Int), true, []⟩ u = _
      rw [feedT_letters u _ hlet, show (((m / L).toNat : Nat) : Int) = m / L by omega]
      rfl
    · rw [partT, if_neg hne]
      have hr : rightP l true (unitL u) = true := by
        rw [hu, rightP]; simp; omega
      rw [if_pos hr, hu]
  · have hq : m / L = 0 := Int.ediv_eq_zero_of_lt h0 (by omega)
    refine ⟨S, l, ?_, ?_, by omega, ?_⟩
    · rw [ptL, if_neg hm]; rfl
    · rw [hq, Int.zero_mul, Int.add_zero]; exact hS
    · rw [hq, Int.zero_mul, Int.add_zero]; exact hz

theorem parts_read (n : Int) (hn : 0 < n) (h1 : n ≤ 4294967295) :
    endT (feedT t0 (ptL n 86400000 [100] ++ (ptL (n % 86400000) 3600000 [104] ++ (ptL (n % 86400000 % 3600000) 60000 [109] ++ (ptL (n % 86400000 % 3600000 % 60000) 1000 [115] ++ ptL (n % 86400000 % 3600000 % 60000 % 1000) 1 [109, 115]))))) = (n, true) := by
  obtain ⟨S1, l1, f1, p1, g1, z1⟩ := part_read t0 0 86400001 n 86400000 [100] rfl (by decide) (by decide) (by decide) (by omega) (by omega) (by omega) h1 (fun _ => rfl)
  obtain ⟨S2, l2, f2, p2, g2, z2⟩ := part_read S1 _ l1 (n % 86400000) 3600000 [104] p1 (by decide) (by decide) (by decide) (by omega) (by omega) (by omega) (by omega) z1
  obtain ⟨S3, l3, f3, p3, g3, z3⟩ := part_read S2 _ l2 (n % 86400000 % 3600000) 60000 [109] p2 (by decide) (by decide) (by decide) (by omega) (by omega) (by omega) (by omega) z2
  obtain ⟨S4, l4, f4, p4, g4, z4⟩ := part_read S3 _ l3 (n % 86400000 % 3600000 % 60000) 1000 [115] p3 (by decide) (by decide) (by decide) (by omega) (by omega) (by omega) (by omega) z3
  obtain ⟨S5, l5, f5, p5, g5, z5⟩ := part_read S4 _ l4 (n % 86400000 % 3600000 % 60000 % 1000) 1 [109, 115] p4 (by decide) (by decide) (by decide) (by omega) (by omega) (by omega) (by omega) z4
  rw [feedT_app, f1, Option.bind_some, feedT_app, f2, Option.bind_some, feedT_app, f3, Option.bind_some, feedT_app, f4, Option.bind_some, f5]
  have hsum : 0 + n / 86400000 * 86400000 + n % 86400000 / 3600000 * 3600000 + n % 86400000 % 3600000 / 60000 * 60000 + n % 86400000 % 3600000 % 60000 / 1000 * 1000 + n % 86400000 % 3600000 % 60000 % 1000 / 1 * 1 = n := by
    clear f1 f2 f3 f4 f5 p1 p2 p3 p4 p5 z1 z2 z3 z4 z5 g1 g2 g3 g4 g5
    omega
  rw [hsum] at p5 z5
  have hne : S5.unit ≠ [] := fun h => by have := z5 h; omega
  rw [partT, if_neg hne] at p5
  split at p5
  · rename_i hr
    cases p5
    show (S5.total + S5.v * unitL S5.unit, rightP S5.last S5.wh (unitL S5.unit)) = _
    rw [hr]
  · cases p5

theorem lower_let (u : List UInt8) (h : ∀ b ∈ u, 97 ≤ b.toNat ∧ b.toNat ≤ 122) : lowL u = u := by
  unfold lowL Lib.toLowerA
  induction u with
  | nil => rfl
  | cons b t ih =>
    have hb := h b List.mem_cons_self
    rw [List.map_cons, Lib.lowerB_of_not b (by rw [Lib.isUpperB_int]; simp; omega), ih (fun x hx => h x (List.mem_cons_of_mem _ hx))]
theorem ptL_low (m L : Int) (u : List UInt8) (h : ∀ b ∈ u, 97 ≤ b.toNat ∧ b.toNat ≤ 122) : lowL (ptL m L u) = ptL m L u := by
  unfold ptL
  split
  · rw [low_app, low_only _ (dec_only _ _ (Nat.le_refl _)), lower_let u h]
  · rfl
theorem ptL_ascii (m L : Int) (u : List UInt8) (h : ∀ b ∈ u, 97 ≤ b.toNat ∧ b.toNat ≤ 122) : ∀ b ∈ ptL m L u, b.toNat < 128 := by
  unfold ptL
  split
  · exact ascii_app _ _ (only_ascii _ (dec_only _ _ (Nat.le_refl _))) (fun b hb => by have := h b hb; omega)
  · intro b hb; cases hb
theorem ptL_len (m L : Int) (u : List UInt8) (h0 : 0 ≤ m) (h1 : m / L < 1000) (hL : 0 < L) : (ptL m L u).length ≤ 3 + u.length := by
  unfold ptL
  split
  · rw [List.length_append]
    have hq0 : 0 ≤ m / L := Int.ediv_nonneg h0 (by omega)
    have := dec_lenp 2 (m / L).toNat (by show (m / L).toNat < 1000; omega)
    omega
  · simp
theorem ptB_list (m L : Int) (u : ByteArray) (h0 : 0 ≤ m) (hL : 0 < L) : (ptB m L u).data.toList = ptL m L u.data.toList := by
  unfold ptB ptL
  split
  · have hq0 : 0 ≤ m / L := Int.ediv_nonneg h0 (by omega)
    rw [ByteArray.data_append, Array.toList_append, List.toList_toArray, Lib.itoa, if_neg (by omega)]
  · rfl
def partsL (n : Int) : List UInt8 :=
  ptL n 86400000 [100] ++ (ptL (n % 86400000) 3600000 [104] ++ (ptL (n % 86400000 % 3600000) 60000 [109] ++ (ptL (n % 86400000 % 3600000 % 60000) 1000 [115] ++ ptL (n % 86400000 % 3600000 % 60000 % 1000) 1 [109, 115])))
theorem showT_list (n : Int) (h0 : 0 ≤ n) (hn : n ≠ 0) : (showT n).data.toList = [84, 35] ++ partsL n := by
  rw [showT, if_neg hn]
  simp only [ByteArray.data_append, Array.toList_append]
  rw [ptB_list _ _ _ h0 (by omega), ptB_list _ _ _ (by omega) (by omega), ptB_list _ _ _ (by omega) (by omega), ptB_list _ _ _ (by omega) (by omega), ptB_list _ _ _ (by omega) (by omega)]
  unfold partsL
  simp only [List.append_assoc]
theorem parts_low (n : Int) : lowL (partsL n) = partsL n := by
  unfold partsL
  rw [low_app, low_app, low_app, low_app, ptL_low _ _ _ (by decide), ptL_low _ _ _ (by decide), ptL_low _ _ _ (by decide), ptL_low _ _ _ (by decide), ptL_low _ _ _ (by decide)]
theorem parts_ascii (n : Int) : ∀ b ∈ partsL n, b.toNat < 128 :=
  ascii_app _ _ (ptL_ascii _ _ _ (by decide)) (ascii_app _ _ (ptL_ascii _ _ _ (by decide)) (ascii_app _ _ (ptL_ascii _ _ _ (by decide)) (ascii_app _ _ (ptL_ascii _ _ _ (by decide)) (ptL_ascii _ _ _ (by decide)))))
theorem parts_len (n : Int) (h0 : 0 ≤ n) (h1 : n ≤ 4294967295) : (partsL n).length ≤ 21 := by
  unfold partsL
  simp only [List.length_append]
  have a1 := ptL_len n 86400000 [100] h0 (by omega) (by omega)
  have a2 := ptL_len (n % 86400000) 3600000 [104] (by omega) (by omega) (by omega)
  have a3 := ptL_len (n % 86400000 % 3600000) 60000 [109] (by omega) (by omega) (by omega)
  have a4 := ptL_len (n % 86400000 % 3600000 % 60000) 1000 [115] (by omega) (by omega) (by omega)
  have a5 := ptL_len (n % 86400000 % 3600000 % 60000 % 1000) 1 [109, 115] (by omega) (by omega) (by omega)
  simp only [List.length_cons, List.length_nil] at a1 a2 a3 a4 a5
  omega
theorem back_time (n : Int) (hf : fitsK 5 n = true) (h0 : 0 < n) (h1 : n ≤ 4294967295) : readE 5 (mapS ([84, 35] ++ partsL n)) ([84, 35] ++ partsL n).length = (n, 0) := by
  have hl := parts_len n (by omega) h1
  apply readE_ok 5 n _ _ hf
  · rw [List.length_append]; simp only [List.length_cons, List.length_nil]; omega
  · have e : mapS ([84, 35] ++ partsL n) = [116, 35] ++ partsL n := by
      rw [mapS_ascii _ (ascii_app _ _ (by decide) (parts_ascii n)), low_app, parts_low]
      have : lowL [84, 35] = [116, 35] := by decide
      rw [this]
    rw [e, asD, if_neg (by omega), if_pos rfl]
    have hb : behindD ([116, 35] ++ partsL n) = (partsL n, true) := by
      have p1 : Lib.hasPrefix ([116, 35] ++ partsL n) [116, 105, 109, 101, 35] = false := by
        show List.isPrefixOf [116, 105, 109, 101, 35] (116 :: 35 :: partsL n) = false
        simp [List.isPrefixOf]
      have p2 : Lib.hasPrefix ([116, 35] ++ partsL n) [116, 35] = true := List.isPrefixOf_iff_prefix.2 ⟨_, rfl⟩
      rw [behindD, p1, p2]
      rfl
    rw [timeD, hb]
    exact parts_read n h0 h1

/-- WHAT IS SHOWN IS READ. -/
theorem back_all (k n : Int) (hf : fitsK k n = true) : readE k (mapS (showB k n).data.toList) (showB k n).size = (n, 0) := by
  have hz : (showB k n).size = (showB k n).data.toList.length := by rw [Array.length_toList]; rfl
  rw [hz]
  have hk : isK k = true := by
    simp only [fitsK, Bool.and_eq_true] at hf; exact hf.1
  rcases kinds k with rfl | rfl | rfl | rfl | rfl | h
  · have hb := kfits1 hf
    have hn : n = 0 ∨ n = 1 := by omega
    rcases hn with rfl | rfl
    · decide
    · decide
  · have hb := kfits2 hf
    have e : showB 2 n = ⟨(Lib.itoa n).toArray⟩ := by rw [showB, if_pos hf]; rfl
    rw [e, itoa_list]
    exact back_int 2 n (.inl rfl) hf (by omega)
  · have hb := kfits3 hf
    have e : showB 3 n = ⟨(Lib.itoa n).toArray⟩ := by rw [showB, if_pos hf]; rfl
    rw [e, itoa_list]
    exact back_int 3 n (.inr rfl) hf (by omega)
  · have hb := kfits4 hf
    have e : (showB 4 n).data.toList = [49, 54, 35] ++ (nibs n).map fun x => Lib.upperB (hxB x) := by
      have e1 : showB 4 n = ⟨#[49, 54, 35]⟩ ++ upS n := by rw [showB, if_pos hf]; rfl
      rw [e1, ByteArray.data_append, Array.toList_append, upS_list]
    rw [e]
    exact back_word n hf hb.1 (by omega)
  · have hb := kfits5 hf
    have e1 : showB 5 n = showT n := by rw [showB, if_pos hf]; rfl
    rw [e1]
    by_cases h0 : n = 0
    · subst h0; decide
    · rw [showT_list n hb.1 h0]
      exact back_time n hf (by omega) hb.2
  · have : isK k = false := by simp [isK]; omega
    rw [hk] at this; cases this
end Go.Proofs.YtelgiffhgkbpeaaDoor
