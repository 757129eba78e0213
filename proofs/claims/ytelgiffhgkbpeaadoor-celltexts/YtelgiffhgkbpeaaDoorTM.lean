/- What is shown is read: of each kind; no program in sight. -/
import Derived.Test.YtelgiffhgkbpeaaDoorTL
namespace Go.Proofs.YtelgiffhgkbpeaaDoor
open Go.RowKit

theorem readE_ok (k n : Int) (l : List UInt8) (z : Nat) (hf : fitsK k n = true) (hz : z ≤ 40) (h : asD k l = (n, true)) : readE k l z = (n, 0) := by
  have hk : isK k = true := by
    simp only [fitsK, Bool.and_eq_true] at hf; exact hf.1
  rw [readE, if_pos hk, if_neg (by omega), h]
  show (if true = true then (if fitsK k n = true then (n, 0) else (0, 3)) else (0, 1)) = ((n, 0) : Int × Int)
  rw [hf]; rfl

theorem itoa_list (n : Int) : (⟨(Lib.itoa n).toArray⟩ : ByteArray).data.toList = Lib.itoa n := by simp
theorem back_int (k n : Int) (hk : k = 2 ∨ k = 3) (hf : fitsK k n = true) (hb : -2147483648 ≤ n ∧ n ≤ 2147483647) :
    readE k (mapS (Lib.itoa n)) (Lib.itoa n).length = (n, 0) := by
  by_cases hn : n < 0
  · have e : Lib.itoa n = 45 :: Lib.decDigits n.natAbs := by rw [Lib.itoa, if_pos hn]
    have ho := dec_only n.natAbs n.natAbs (Nat.le_refl _)
    have el : mapS (Lib.itoa n) = 45 :: Lib.decDigits n.natAbs := by
      rw [e, mapS_ascii _ (fun b hb => by
        rcases List.mem_cons.1 hb with rfl | hb
        · decide
        · exact only_ascii _ ho b hb)]
      have := low_app [45] (Lib.decDigits n.natAbs)
      rw [List.singleton_append, low_only _ ho] at this
      exact this
    have hl := dec_lenp 9 n.natAbs (by show n.natAbs < 10000000000; omega)
    apply readE_ok k n _ _ hf
    · rw [e, List.length_cons]; omega
    · rw [el]
      have hp : Lib.hasPrefix (45 :: Lib.decDigits n.natAbs) [45] = true := by
        show List.isPrefixOf [45] (45 :: Lib.decDigits n.natAbs) = true
        simp [List.isPrefixOf]
      rw [asD, if_neg (by omega), if_neg (by omega), if_pos ⟨hk, hp⟩]
      show (-(readD 10 (Lib.decDigits n.natAbs)).1, (readD 10 (Lib.decDigits n.natAbs)).2) = (n, true)
      rw [readD, feed_dec _ _ (Nat.le_refl _) (by omega)]
      show (-((n.natAbs : Nat) : Int), true) = (n, true)
      rw [show -((n.natAbs : Nat) : Int) = n by omega]
  · have e : Lib.itoa n = Lib.decDigits n.toNat := by rw [Lib.itoa, if_neg hn]
    have ho := dec_only n.toNat n.toNat (Nat.le_refl _)
    have el : mapS (Lib.itoa n) = Lib.decDigits n.toNat := by rw [e, mapS_ascii _ (only_ascii _ ho), low_only _ ho]
    have hl := dec_lenp 9 n.toNat (by show n.toNat < 10000000000; omega)
    apply readE_ok k n _ _ hf
    · rw [e]; omega
    · rw [el, asD, if_neg (by omega), if_neg (by omega), if_neg (by rw [only_no _ _ ho ⟨45, by decide, by decide⟩]; simp), num_dec _ (by omega)]
      rw [show ((n.toNat : Nat) : Int) = n by omega]

/-! ### Words -/
def hxB (x : Int) : UInt8 := UInt8.ofNat (hx x).toNat
theorem hxB_nat (x : Int) (h0 : 0 ≤ x) (h1 : x < 16) : ((hxB x).toNat : Int) = hx x := by
  have := hx_bd x h0 h1
  have e : (hxB x).toNat = (hx x).toNat := by unfold hxB; simp; omega
  rw [e]; omega
theorem worth_hx (x : Int) (h0 : 0 ≤ x) (h1 : x < 16) : worthI (hx x) = x := by
  unfold worthI hx
  by_cases h : x < 10
  · rw [if_pos h, if_pos (by omega)]; omega
  · rw [if_neg h, if_neg (by omega), if_pos (by omega)]; omega
theorem step_hx (v : Int) (wh : Bool) (x : Int) (h0 : 0 ≤ x) (h1 : x < 16) : stepD 16 (v, wh) ((hxB x).toNat : Int) = some (min (v * 16 + x) 4294967296, true) := by
  rw [hxB_nat x h0 h1]
  have h95 : hx x ≠ 95 := by unfold hx; split <;> omega
  unfold stepD
  rw [if_neg h95, worth_hx x h0 h1, if_neg (by omega)]
theorem lu_hx : ∀ x : Fin 16, Lib.lowerB (Lib.upperB (hxB (x.val : Int))) = hxB (x.val : Int) := by decide +kernel
theorem lu_hx' (x : Int) (h0 : 0 ≤ x) (h1 : x < 16) : Lib.lowerB (Lib.upperB (hxB x)) = hxB x := by
  have := lu_hx ⟨x.toNat, by omega⟩
  have e : ((x.toNat : Nat) : Int) = x := by omega
  simp only [e] at this
  exact this
theorem up_ascii : ∀ x : Fin 16, (Lib.upperB (hxB (x.val : Int))).toNat < 128 := by decide +kernel
theorem up_ascii' (x : Int) (h0 : 0 ≤ x) (h1 : x < 16) : (Lib.upperB (hxB x)).toNat < 128 := by
  have := up_ascii ⟨x.toNat, by omega⟩
  have e : ((x.toNat : Nat) : Int) = x := by omega
  simp only [e] at this
  exact this
/-- The digits of a word, of base 16. -/
def nibs (n : Int) : List Int :=
  if n < 16 then [n] else if n < 256 then [n / 16, n % 16] else if n < 4096 then [n / 16 / 16, n / 16 % 16, n % 16] else [n / 16 / 16 / 16, n / 16 / 16 % 16, n / 16 % 16, n % 16]
theorem nibs_bd (n : Int) (h0 : 0 ≤ n) (h1 : n < 65536) : ∀ x ∈ nibs n, 0 ≤ x ∧ x < 16 := by
  intro x hx'
  unfold nibs at hx'
  repeat' split at hx'
  all_goals simp only [List.mem_cons, List.not_mem_nil, or_false] at hx'
  all_goals omega
theorem hexI_nibs (n : Int) : hexI n = (nibs n).map hx := by
  unfold hexI nibs
  repeat' split
  all_goals rfl
theorem upS_list (n : Int) : (upS n).data.toList = (nibs n).map fun x => Lib.upperB (hxB x) := by
  show (Lib.toUpperA (strOfNums (hexI n)).data.toList).toArray.toList = _
  rw [List.toList_toArray, strOfNums_data, hexI_nibs, Lib.toUpperA, List.map_map, List.map_map]
  rfl
theorem feed_nibs (n : Int) (h0 : 0 ≤ n) (h1 : n < 65536) : feed 16 (0, false) ((nibs n).map hxB) = some (n, true) := by
  have hb := nibs_bd n h0 h1
  unfold nibs at hb ⊢
  by_cases a : n < 16
  · simp only [if_pos a] at hb ⊢
    rw [List.map_cons, List.map_nil, feed_cons, step_hx _ _ _ (by omega) (by omega)]
    show some (min (0 * 16 + n) 4294967296, true) = _
    rw [show min (0 * 16 + n) 4294967296 = n by omega]
  · by_cases b : n < 256
    · simp only [if_neg a, if_pos b, List.map_cons, List.map_nil]
      rw [feed_cons, step_hx _ _ _ (by omega) (by omega), Option.bind_some, feed_cons, step_hx _ _ _ (by omega) (by omega)]
      show some (_, true) = _
      rw [show min (min (0 * 16 + n / 16) 4294967296 * 16 + n % 16) 4294967296 = n by omega]
    · by_cases c : n < 4096
      · simp only [if_neg a, if_neg b, if_pos c, List.map_cons, List.map_nil]
        rw [feed_cons, step_hx _ _ _ (by omega) (by omega), Option.bind_some, feed_cons, step_hx _ _ _ (by omega) (by omega), Option.bind_some, feed_cons, step_hx _ _ _ (by omega) (by omega)]
        show some (_, true) = _
        rw [show min (min (min (0 * 16 + n / 16 / 16) 4294967296 * 16 + n / 16 % 16) 4294967296 * 16 + n % 16) 4294967296 = n by omega]
      · simp only [if_neg a, if_neg b, if_neg c, List.map_cons, List.map_nil]
        rw [feed_cons, step_hx _ _ _ (by omega) (by omega), Option.bind_some, feed_cons, step_hx _ _ _ (by omega) (by omega), Option.bind_some, feed_cons, step_hx _ _ _ (by omega) (by omega), Option.bind_some, feed_cons, step_hx _ _ _ (by omega) (by omega)]
        show some (_, true) = _
        rw [show min (min (min (min (0 * 16 + n / 16 / 16 / 16) 4294967296 * 16 + n / 16 / 16 % 16) 4294967296 * 16 + n / 16 % 16) 4294967296 * 16 + n % 16) 4294967296 = n by omega]
theorem map_same {α β : Type} (f g : α → β) : ∀ (l : List α), (∀ x ∈ l, f x = g x) → l.map f = l.map g
  | [], _ => rfl
  | a :: l, h => by rw [List.map_cons, List.map_cons, h a List.mem_cons_self, map_same f g l (fun x hx => h x (List.mem_cons_of_mem _ hx))]
theorem back_word (n : Int) (hf : fitsK 4 n = true) (h0 : 0 ≤ n) (h1 : n < 65536) :
    readE 4 (mapS ([49, 54, 35] ++ (nibs n).map fun x => Lib.upperB (hxB x))) ([49, 54, 35] ++ (nibs n).map fun x => Lib.upperB (hxB x)).length = (n, 0) := by
  have hb := nibs_bd n h0 h1
  have hasc : ∀ b ∈ [49, 54, 35] ++ (nibs n).map (fun x => Lib.upperB (hxB x)), b.toNat < 128 := ascii_app _ _ (by decide) (fun b hb' => by
    obtain ⟨x, hx', rfl⟩ := List.mem_map.1 hb'
    have := hb x hx'
    exact up_ascii' x this.1 this.2)
  have el : mapS ([49, 54, 35] ++ (nibs n).map fun x => Lib.upperB (hxB x)) = [49, 54, 35] ++ (nibs n).map hxB := by
    rw [mapS_ascii _ hasc, low_app]
    have e1 : lowL [49, 54, 35] = [49, 54, 35] := by decide
    rw [e1]
    unfold lowL Lib.toLowerA
    rw [List.map_map]
    congr 1
    exact map_same _ _ _ (fun x hx' => by
      have := hb x hx'
      exact lu_hx' x this.1 this.2)
  apply readE_ok 4 n _ _ hf
  · rw [List.length_append, List.length_map]
    have : (nibs n).length ≤ 4 := by
      unfold nibs
      repeat' split
      all_goals simp
    simp only [List.length_cons, List.length_nil]
    omega
  · rw [el, asD, if_neg (by omega), if_neg (by omega), if_neg (by omega)]
    have hp : Lib.hasPrefix ([49, 54, 35] ++ (nibs n).map hxB) [49, 54, 35] = true := List.isPrefixOf_iff_prefix.2 ⟨_, rfl⟩
    rw [numD, if_pos hp]
    show readD 16 ((nibs n).map hxB) = _
    rw [readD, feed_nibs n h0 h1]; rfl
end Go.Proofs.YtelgiffhgkbpeaaDoor
