/- Read, the program's, whole. -/
import Derived.Test.YtlbipcecdcmgdaaDoorR
namespace Go.Proofs.YtlbipcecdcmgdaaDoor
open Go.RowKit
attribute [local go_sem ↓] Go.wp_at_zero Go.wp_at_succ
set_option linter.unusedVariables false
set_option linter.unusedSimpArgs false

/-- What is wrong with a slot. -/
def readE (l : List Nat) : Nat :=
  if l.length < 16 then 16 else if l.take 4 ≠ [80, 87, 82, 49] then 16 else if val l 12 ≠ crc (l.take 12) then 17 else if 2000 < val l 8 then 4 else if l.length < 16 + (val l 8 + 1) * 4 then 4 else if val l (16 + val l 8 * 4) ≠ crc ((l.drop 16).take (val l 8 * 4)) then 17 else 0
def readW (l : List Nat) : List Int := if readE l = 0 then numsOf (l.drop 16) (val l 8) else []
def readN (l : List Nat) : Nat := if readE l = 0 then val l 4 else 0
/-- A list of numbers, a number, an error: what a call tells. -/
def ReadP (w w' : World) (e : Ending) (W : List Int) (n c : Nat) : Prop :=
  ∃ a cap, e = .returned (.tuple #[.slice a W.length cap, .int .i64 (n : Int), .int .i64 (c : Int)]) ∧ OwnL w.heap.size w' a cap W ∧ w.grownBy w' none
theorem read_no {l : List Nat} (h : readE l ≠ 0) : readW l = [] ∧ readN l = 0 := by simp [readW, readN, h]
theorem ReadP.no {w w' : World} {e : Ending} {l : List Nat} (c : Nat) (h : readE l = c) (hc : c ≠ 0) (he : e = .returned (.tuple #[.slice none 0 0, .int .i64 0, .int .i64 (c : Int)])) (hg : w.grownBy w' none) : ReadP w w' e (readW l) (readN l) (readE l) := by
  obtain ⟨h1, h2⟩ := read_no (l := l) (by omega)
  rw [h1, h2, h]
  exact ⟨none, 0, he, OwnL.nil _ _, hg⟩

theorem bodySize_any (n : Nat) (w : World) (hn : n ≤ 5000000000) : Calls Tryd.prog 35 #[.int .i64 (n : Int)] w fun e w' => e = .returned (.int .i64 (((n + 1) * 4 : Nat) : Int)) ∧ w = w' := by
  have m1 : wrap64 ((n : Int) + 1) = (n : Int) + 1 := by unfold wrap64; omega
  have m2 : wrap64 (((n : Int) + 1) * 4) = ((n : Int) + 1) * 4 := by unfold wrap64; omega
  go_enter Tryd.func35, Tryd.ntmps35
  go_wp2
  go_ret
  refine ⟨ret_int ?_, rfl⟩
  omega

set_option maxHeartbeats 1000000 in
theorem read_any (l : List Nat) (v : Value) (w : World) (hb : isB l) (hv : rdB w v l) (hm : l.length ≤ maxLen) (hB : Beg w) : Calls Tryd.prog 15 #[v] w fun e w' => ReadP w w' e (readW l) (readN l) (readE l) := by
  have hv0 := hv
  by_cases h16 : l.length < 16
  · obtain ⟨a, cap, rfl, hcap, _⟩ := hv0
    have hE : readE l = 16 := by unfold readE; rw [if_pos h16]
    have i0 : ((l.length : Nat) : Int) < 16 := by omega
    go_enter Tryd.func15, Tryd.ntmps15
    go_wp2
    go_ret3
    exact ReadP.no 16 hE (by omega) rfl (World.grownBy.refl _ _)
  obtain ⟨b, off, cap, rfl, hcap, _⟩ := rdB_at hv0 (by omega)
  have rH := rdB_take hv 16 (by omega)
  obtain ⟨ra, hra⟩ : ∃ ra, (if cap = 16 then some ⟨b, off, none⟩ else some ⟨b, off + 16, none⟩ : Option Addr) = ra := ⟨_, rfl⟩
  have rR : rdB w (.slice ra (l.length - 16) (cap - 16)) (l.drop 16) := by
    rw [← hra]
    by_cases h : cap = 16
    · rw [if_pos h]
      have h2 : l.drop 16 = [] := List.drop_eq_nil_of_le (by omega)
      rw [h2]
      exact ⟨_, _, by rw [List.length_nil]; congr 1; omega, by simp, .inl rfl⟩
    · rw [if_neg h]
      exact rdB_drop hv 16 (l.length - 16) (cap - 16) (by omega) (by omega)
  have hHl : (l.take 16).length = 16 := by simp; omega
  have hRl : (l.drop 16).length = l.length - 16 := by simp
  have c1 := isRecord_any l _ w hb hv (by omega) hm hB
  have c2 := fun (W : World) (hg : w.grownBy W none) => isRight_any (l.take 16) 12 _ W (isB_take hb 16) (rdB_grown rH hg) (by simp; omega) (by simp; omega)
  have c3 := fun (W : World) (hg : w.grownBy W none) => number_any _ _ W (isB_drop (isB_take hb 16) 4) (rdB_drop (rdB_grown rH hg) 4 12 (cap - 4) (by omega) (by omega)) (by simp; omega)
  have c4 := fun (W : World) (hg : w.grownBy W none) => number_any _ _ W (isB_drop (isB_take hb 16) 8) (rdB_drop (rdB_grown rH hg) 8 8 (cap - 8) (by omega) (by omega)) (by simp; omega)
  simp only [val_drop, Nat.add_zero, val_take l 16 12 (by omega), val_take l 16 4 (by omega), val_take l 16 8 (by omega), List.take_take, show min 12 16 = 12 from rfl] at c2 c3 c4
  have hE1 : readE l = if l.take 4 ≠ [80, 87, 82, 49] then 16 else if val l 12 ≠ crc (l.take 12) then 17 else if 2000 < val l 8 then 4 else if l.length < 16 + (val l 8 + 1) * 4 then 4 else if val l (16 + val l 8 * 4) ≠ crc ((l.drop 16).take (val l 8 * 4)) then 17 else 0 := by unfold readE; rw [if_neg h16]
  have i0 : ¬ ((l.length : Nat) : Int) < 16 := by omega
  have i1 : (16 : Int) ≤ ((l.length : Nat) : Int) := by omega
  have i2 : ((l.length : Nat) : Int) ≤ (cap : Int) := by omega
  have i3 : (16 : Int) ≤ (cap : Int) := by omega
  obtain ⟨n, hn⟩ : ∃ n, l.length = n := ⟨_, rfl⟩
  have HN : Hid (l.length = n) := hn
  have HR : Hid (rdB w (.slice ra (n - 16) (cap - 16)) (l.drop 16)) := show rdB _ _ _ by rw [← hn]; exact rR
  have HB : Hid (isB l) := hb
  rw [hn] at c1 i0 i1 i2 hm hcap h16 ⊢
  clear hn rR rH hv hv0 hb
  unfold maxLen at hm
  go_enter Tryd.func15, Tryd.ntmps15
  have HE : Hid (_ = _) := hE1
  clear hE1
  go_wp2_with fail
  refine c1.mono ?_
  rintro e w1 ⟨rfl, hg1⟩
  by_cases hp : l.take 4 = [80, 87, 82, 49]
  case neg =>
    have e1 : (l.take 4 == [80, 87, 82, 49]) = false := by simpa using hp
    rw [e1]
    go_wp2
    go_ret3
    exact ReadP.no 16 (by rw [HE.out, if_pos hp]) (by omega) rfl hg1
  have e1 : (l.take 4 == [80, 87, 82, 49]) = true := by simpa using hp
  rw [e1]
  go_wp2_with fail
  go_quiet (fail)
  clear hra
  have hgq := gr_drewN hg1 nq
  go_wp2_with fail
  refine (c2 _ hgq).mono ?_
  rintro e w2 ⟨rfl, hg2⟩
  have hg02 := grown_join hgq hg2 (.inl rfl)
  by_cases hq : val l 12 = crc (l.take 12)
  case neg =>
    have e2 : (val l 12 == crc (l.take 12)) = false := by simpa using hq
    rw [e2]
    go_wp2
    go_ret3
    exact ReadP.no 17 (by rw [HE.out, if_neg (by simpa using hp), if_pos hq]) (by omega) rfl hg02
  have e2 : (val l 12 == crc (l.take 12)) = true := by simpa using hq
  rw [e2]
  have hv8 := val_lt HB.out 8
  have hv4 := val_lt HB.out 4
  have q3 := fun k => Calls.quiet_of_same ((c3 _ (gr_drewN hg02 k)).mono fun _ _ h => ⟨h.1, h.2.symm⟩)
  have q4 := fun k => Calls.quiet_of_same ((c4 _ (gr_drewN hg02 k)).mono fun _ _ h => ⟨h.1, h.2.symm⟩)
  have n4 : ¬ cap = 4 := by omega
  have n8 : ¬ cap = 8 := by omega
  go_wp2_with fail
  go_quiet (first | (go_at_call 34; first | with_reducible exact q3 _ | with_reducible exact q4 _))
  have hg03 := gr_drewN hg02 nq
  have HE2 : Hid (readE l = if 2000 < val l 8 then 4 else if l.length < 16 + (val l 8 + 1) * 4 then 4 else if val l (16 + val l 8 * 4) ≠ crc ((l.drop 16).take (val l 8 * 4)) then 17 else 0) := show _ = _ by rw [HE.out, if_neg (by simpa using hp), if_neg (by simpa using hq)]
  obtain ⟨cnt, hcnt⟩ : ∃ c, val l 8 = c := ⟨_, rfl⟩
  obtain ⟨ser, hser⟩ : ∃ c, val l 4 = c := ⟨_, rfl⟩
  have HC : Hid (val l 8 = cnt) := hcnt
  have HS : Hid (val l 4 = ser) := hser
  rw [hcnt] at hv8 HE2 ⊢
  rw [hser] at hv4 ⊢
  clear hcnt hser q3 q4 c1 c2 c3 c4 hp hq hgq hg1 hg2 hg02 n4 n8 e1 e2
  generalize w2.drewN nq = w3 at hg03 ⊢
  by_cases hc : 2000 < cnt
  case pos =>
    have i5 : (2000 : Int) < (cnt : Int) := by omega
    go_wp2
    go_ret3
    exact ReadP.no 4 (by rw [HE2.out, if_pos hc]) (by omega) rfl hg03
  have i5 : ¬ (2000 : Int) < (cnt : Int) := by omega
  go_wp2_with fail
  refine (bodySize_any cnt _ (by omega)).mono ?_
  rintro e w4 ⟨rfl, rfl⟩
  obtain ⟨bs, hbs⟩ : ∃ c, (cnt + 1) * 4 = c := ⟨_, rfl⟩
  have CB := fun W => bodySize_any cnt W (by omega)
  rw [hbs] at CB ⊢
  by_cases hs : n < 16 + bs
  case pos =>
    have i6 : (n : Int) - 16 < (bs : Int) := by omega
    go_wp2
    go_ret3
    exact ReadP.no 4 (by rw [HE2.out, if_neg hc, HN.out, hbs, if_pos hs]) (by omega) rfl hg03
  have i6 : ¬ (n : Int) - 16 < (bs : Int) := by omega
  have hr3 := rdB_grown HR.out hg03
  have hdl : (l.drop 16).length = n - 16 := by rw [List.length_drop, HN.out]
  obtain ⟨b', off', cap', hsl, hcap', _⟩ := rdB_at hr3 (by omega)
  injection hsl with z1 z2 z3
  subst z1
  obtain ⟨m, hmn⟩ : ∃ m, n - 16 = m := ⟨_, rfl⟩
  obtain ⟨cm, hcm⟩ : ∃ m, cap - 16 = m := ⟨_, rfl⟩
  rw [hmn, hcm] at hr3
  have hbl : ((l.drop 16).take bs).length = bs := by simp [HN.out]; omega
  have rB := rdB_take hr3 bs (by omega)
  have bB := isB_take (isB_drop HB.out 16) bs
  have cR := isRight_any _ (cnt * 4) _ w3 bB rB (by rw [hbl]; omega) (by rw [hbl]; unfold maxLen; omega)
  have cN := fun (W : World) (hg : w3.grownBy W none) => numbers_any _ cnt _ W bB (rdB_grown rB hg) (by rw [hbl]; omega) (by omega) (by rw [hbl]; unfold maxLen; omega)
  have e5 : val ((l.drop 16).take bs) (cnt * 4) = val l (16 + cnt * 4) := by rw [val_take _ _ _ (by omega), val_drop]
  have e6 : ((l.drop 16).take bs).take (cnt * 4) = (l.drop 16).take (cnt * 4) := by rw [List.take_take]; congr 1; omega
  have e7 : numsOf ((l.drop 16).take bs) cnt = numsOf (l.drop 16) cnt := by
    unfold numsOf
    apply List.map_congr_left
    intro i hi
    rw [List.mem_range] at hi
    rw [val_take _ _ _ (by omega)]
  rw [e5, e6] at cR
  simp only [e7] at cN
  have HB2 : Hid (n ≥ 16 + bs ∧ bs = (cnt + 1) * 4) := show _ ∧ _ by omega
  have hm0 : (bs : Int) ≤ (m : Int) := by omega
  have hm1 : (m : Int) ≤ (cm : Int) := by omega
  have hm2 : (bs : Int) ≤ (cm : Int) := by omega
  have hm3 : (0 : Int) ≤ (bs : Int) := by omega
  rw [hmn, hcm]
  rw [hmn] at HR hdl
  rw [hcm] at HR z3 
  clear z2 z3
  clear e5 e6 e7 bB rB hr3 hmn hcm hbs
  go_wp2_with fail
  refine (CB _).mono ?_
  rintro e w4 ⟨rfl, rfl⟩
  go_wp2_with fail
  refine cR.mono ?_
  rintro e w5 ⟨rfl, hg5⟩
  have hg05 := grown_join hg03 hg5 (.inl rfl)
  by_cases hz : val l (16 + cnt * 4) = crc ((l.drop 16).take (cnt * 4))
  case neg =>
    have e8 : (val l (16 + cnt * 4) == crc ((l.drop 16).take (cnt * 4))) = false := by simpa using hz
    rw [e8]
    go_wp2
    go_ret3
    exact ReadP.no 17 (by rw [HE2.out, if_neg hc, HN.out, ← HB2.out.2, if_neg (by omega), if_pos hz]) (by omega) rfl hg05
  have e8 : (val l (16 + cnt * 4) == crc ((l.drop 16).take (cnt * 4))) = true := by simpa using hz
  rw [e8]
  have HZ : Hid (readE l = 0) := show _ = _ by rw [HE2.out, if_neg hc, HN.out, ← HB2.out.2, if_neg (by omega), if_neg (by simpa using hz)]
  clear hz e8
  go_wp2_with fail
  refine (cN _ hg5).mono ?_
  rintro e w6 ⟨g, rfl, ho, hg6⟩
  go_wp2
  go_ret3
  have hW : readW l = numsOf (l.drop 16) cnt := by unfold readW; rw [if_pos HZ.out, HC.out]
  have hN : readN l = ser := by unfold readN; rw [if_pos HZ.out, HS.out]
  rw [hW, hN, HZ.out]
  exact ⟨_, _, by rw [numsOf_len]; rfl, own_low ho hg05.size, grown_join hg05 hg6 (.inl rfl)⟩
end Go.Proofs.YtlbipcecdcmgdaaDoor
