/- Slot, the document's. -/
import Derived.Test.YtlbipcecdcmgdaaDoorRd
import Derived.Laws.BytesArg
namespace Go.Proofs.YtlbipcecdcmgdaaDoor
open Go.RowKit
attribute [local go_sem ↓] Go.wp_at_zero Go.wp_at_succ
set_option linter.unusedVariables false
set_option linter.unusedSimpArgs false

/-- Bytes as a string. -/
def strB (l : List Nat) : ByteArray := strOfNums (l.map fun x : Nat => (x : Int))
theorem conv_rd {w : World} {v : Value} {l : List Nat} (h : rdB w v l) : (convert 23 9 v).run Tryd.prog w = .ok (.string (strB l)) w := by
  obtain ⟨a, cap, rfl, hcap, h | ⟨b, off, rfl, hc⟩⟩ := h
  · subst h
    simp only [List.length_nil]
    rw [run_convert_bytes_string w 23 9 5 a 0 cap Tryd.underlying23 Tryd.underlying5 Tryd.underlying9]
    cases a with
    | none => simp [Conv.bytesToString]; rfl
    | some a =>
      rw [run_bytesToString w a 0 cap [] (by simp [loadCells, loadCellsFrom])]
      rfl
  · exact run_convert_bytes_arg w 23 5 Tryd.underlying23 Tryd.underlying5 b off l.length cap (l.map fun x : Nat => (x : Int)) (by simp) (fun i hi => by
      rw [hc i (by simpa using hi)]
      simp [List.getD, show i < l.length by simpa using hi]) 9 Tryd.underlying9
theorem str_yes : ((strB [80, 87, 82, 49]).toList == [80, 87, 82, 49]) = true := by kernel_rfl
theorem str_no {l : List Nat} (hb : isB l) (h : l ≠ [80, 87, 82, 49]) : ((strB l).toList == [80, 87, 82, 49]) = false := by
  rw [Bool.eq_false_iff]
  intro he
  have h2 : (strB l).toList = [80, 87, 82, 49] := by simpa using he
  apply h
  have h3 : l.map (fun x => UInt8.ofNat x) = [80, 87, 82, 49] := by
    rw [← h2, ByteArray.toList_eq]
    simp [strB, strOfNums]
  have h4 : l = l.map (fun x => (UInt8.ofNat x).toNat) := by
    conv => lhs; rw [← List.map_id l]
    apply List.map_congr_left
    intro x hx
    simp [Nat.mod_eq_of_lt (hb x hx)]
  rw [h4, show (fun x => (UInt8.ofNat x).toNat) = UInt8.toNat ∘ UInt8.ofNat from rfl, ← List.map_map, show List.map UInt8.ofNat l = _ from h3]
  rfl

theorem numsOf_succ (l : List Nat) (k : Nat) : numsOf l (k + 1) = numsOf l k ++ [((val l (k * 4) : Nat) : Int)] := by
  simp [numsOf, List.range_succ]
set_option maxRecDepth 10000 in
set_option maxHeartbeats 1000000 in
theorem slot_any (l : List Nat) (v : Value) (w : World) (hb : isB l) (hv : rdB w v l) (hm : l.length ≤ maxLen) : Calls Tryd.prog 14 #[v] w fun e w' => ReadP w w' e (readW l) (readN l) (readE l) := by
  have hv0 := hv
  by_cases h16 : l.length < 16
  · obtain ⟨a, cap, rfl, hcap, _⟩ := hv0
    have hE : readE l = 16 := by unfold readE; rw [if_pos h16]
    have i0 : ((l.length : Nat) : Int) < 16 := by omega
    go_enter Tryd.func14, Tryd.ntmps14
    go_wp2
    go_ret3
    exact ReadP.no 16 hE (by omega) rfl (World.grownBy.refl _ _)
  obtain ⟨b, off, cap, rfl, hcap, _⟩ := rdB_at hv0 (by omega)
  have r4 := rdB_take hv 4 (by omega)
  have r12 := rdB_take hv 12 (by omega)
  have k4 := conv_rd r4
  have hE1 : readE l = if l.take 4 ≠ [80, 87, 82, 49] then 16 else if val l 12 ≠ crc (l.take 12) then 17 else if 2000 < val l 8 then 4 else if l.length < 16 + (val l 8 + 1) * 4 then 4 else if val l (16 + val l 8 * 4) ≠ crc ((l.drop 16).take (val l 8 * 4)) then 17 else 0 := by unfold readE; rw [if_neg h16]
  have HE : Hid (_ = _) := hE1
  have HV : Hid (rdB w (.slice (some ⟨b, off, none⟩) l.length cap) l) := hv
  have HB : Hid (isB l) := hb
  have HM : Hid (l.length ≤ maxLen) := hm
  have c1 := crc_any _ _ w (isB_take hb 12) r12 (by simp; omega)
  have cF := fun (k : Nat) (W : World) (hg : w.grownBy W none) (hk : k + 4 ≤ l.length) => fours_any l k _ W hb (rdB_grown hv hg) hk hm
  obtain ⟨n, hn⟩ : ∃ n, l.length = n := ⟨_, rfl⟩
  have HN : Hid (l.length = n) := hn
  have hmm := hm
  rw [hn] at cF hcap h16 hmm HV ⊢
  unfold maxLen at hmm
  have i0 : ¬ (n : Int) < 16 := by omega
  have i1 : (16 : Int) ≤ (n : Int) := by omega
  have i2 : (n : Int) ≤ (cap : Int) := by omega
  have i3 : (16 : Int) ≤ (cap : Int) := by omega
  have h4B := isB_take hb 4
  clear hE1 r4 r12 hm hn hv hv0
  by_cases hp : l.take 4 = [80, 87, 82, 49]
  case neg =>
    have hs := str_no h4B hp
    go_enter Tryd.func14, Tryd.ntmps14
    go_wp2
    go_ret3
    exact ReadP.no 16 (by rw [HE.out, if_pos hp]) (by omega) rfl (World.grownBy.refl _ _)
  have hs := str_yes
  rw [hp] at k4
  go_enter Tryd.func14, Tryd.ntmps14
  go_wp2_with fail
  refine c1.mono ?_
  rintro e w' ⟨rfl, rfl⟩
  go_wp2_with fail
  refine (cF 12 _ (World.grownBy.refl _ _) (by omega)).mono ?_
  rintro e w1 ⟨rfl, hg1⟩
  by_cases hq : val l 12 = crc (l.take 12)
  case neg =>
    have i5 : ¬ ((crc (l.take 12) : Nat) : Int) = ((val l 12 : Nat) : Int) := by omega
    go_wp2
    go_ret3
    exact ReadP.no 17 (by rw [HE.out, if_neg (by simpa using hp), if_pos hq]) (by omega) rfl hg1
  rw [← hq]
  have hv8 := val_lt HB.out 8
  have hv4 := val_lt HB.out 4
  have HE2 : Hid (readE l = if 2000 < val l 8 then 4 else if l.length < 16 + (val l 8 + 1) * 4 then 4 else if val l (16 + val l 8 * 4) ≠ crc ((l.drop 16).take (val l 8 * 4)) then 17 else 0) := show _ = _ by rw [HE.out, if_neg (by simpa using hp), if_neg (by simpa using hq)]
  have HP : Hid (l.take 4 = [80, 87, 82, 49]) := hp
  clear hp hq k4 c1 hs
  generalize val l 12 = v12
  go_wp2_with fail
  refine (cF 8 _ hg1 (by omega)).mono ?_
  rintro e w2 ⟨rfl, hg2⟩
  have hg02 := grown_join hg1 hg2 (.inl rfl)
  obtain ⟨cnt, hcnt⟩ : ∃ c, val l 8 = c := ⟨_, rfl⟩
  obtain ⟨ser, hser⟩ : ∃ c, val l 4 = c := ⟨_, rfl⟩
  have HC : Hid (val l 8 = cnt) := hcnt
  have HS : Hid (val l 4 = ser) := hser
  rw [hcnt] at hv8 HE2 ⊢
  rw [hser] at hv4
  clear hcnt hser hg1 hg2
  by_cases hc : 2000 < cnt
  case pos =>
    have i5 : (2000 : Int) < (cnt : Int) := by omega
    go_wp2
    go_ret3
    exact ReadP.no 4 (by rw [HE2.out, if_pos hc]) (by omega) rfl hg02
  have i5 : ¬ (2000 : Int) < (cnt : Int) := by omega
  obtain ⟨d, hd⟩ : ∃ d : Nat, 16 + cnt * 4 = d := ⟨_, rfl⟩
  by_cases hs : n < 16 + (cnt + 1) * 4
  case pos =>
    have i6 : (n : Int) < 16 + 4 * (cnt : Int) + 4 := by omega
    go_wp2
    go_ret3
    exact ReadP.no 4 (by rw [HE2.out, if_neg hc, HN.out, if_pos hs]) (by omega) rfl hg02
  have i6 : ¬ (n : Int) < 16 + 4 * (cnt : Int) + 4 := by omega
  have cB := crc_any _ _ w2 (isB_take (isB_drop HB.out 16) (4 * cnt)) (rdB_take (rdB_drop (rdB_grown HV.out hg02) 16 (n - 16) (cap - 16) (by rw [HN.out]; omega) (by omega)) (4 * cnt) (by rw [List.length_drop, HN.out]; omega)) (by rw [List.length_take, List.length_drop, HN.out]; unfold maxLen; omega)
  have cG : ∀ (k : Nat) (W : World), w.grownBy W none → 16 + 4 * k + 4 ≤ n → Calls Tryd.prog 31 #[.slice (some ⟨b, off, none⟩) n cap, .int .i64 (16 + 4 * (k : Int))] W fun e w' => e = .returned (.int .i64 ((val l (16 + 4 * k) : Nat) : Int)) ∧ W.grownBy w' none := fun k W hg hk => by
    have := cF (16 + 4 * k) W hg (by omega)
    simpa using this
  have HF : Hid (∀ (W : World), w.grownBy W none → Calls Tryd.prog 31 #[.slice (some ⟨b, off, none⟩) n cap, .int .i64 4] W fun e w' => e = .returned (.int .i64 ((ser : Nat) : Int)) ∧ W.grownBy w' none) := show ∀ _, _ from fun W hg => by
    have := cF 4 W hg (by omega)
    rw [HS.out] at this
    simpa using this
  clear cF
  go_wp2_with fail
  refine cB.mono ?_
  rintro e w3 ⟨rfl, rfl⟩
  go_wp2_with fail
  refine (cG cnt _ hg02 (by omega)).mono ?_
  rintro e w3 ⟨rfl, hg3⟩
  have hg03 := grown_join hg02 hg3 (.inl rfl)
  by_cases hz : val l (16 + 4 * cnt) = crc ((l.drop 16).take (4 * cnt))
  case neg =>
    have i7 : ¬ ((crc ((l.drop 16).take (4 * cnt)) : Nat) : Int) = ((val l (16 + 4 * cnt) : Nat) : Int) := by omega
    go_wp2
    go_ret3
    exact ReadP.no 17 (by rw [HE2.out, if_neg hc, HN.out, if_neg hs, Nat.mul_comm cnt, if_pos hz]) (by omega) rfl hg03
  have HZ : Hid (readE l = 0) := show _ = _ by rw [HE2.out, if_neg hc, HN.out, if_neg hs, Nat.mul_comm cnt, if_neg (by simpa using hz)]
  rw [← hz]
  clear hz cB hg02 hg3
  generalize val l (16 + 4 * cnt) = vz
  have HSZ : Hid (w.heap.size ≤ w3.heap.size) := hg03.size
  go_wp2_with fail
  go_loopg [6, 7] cnt (fun gk s6 s7 wx => ∃ (k : Nat) (a : Option Addr) (cp : Nat), s7 = .int .i64 k ∧ s6 = .slice a k cp ∧ k ≤ cnt ∧ gk = cnt - k ∧ Hid (OwnL w.heap.size wx a cp (numsOf (l.drop 16) k)) ∧ w.grownBy wx none)
  case atStart => exact ⟨0, none, 0, rfl, rfl, Nat.zero_le _, by omega, OwnL.nil _ _, hg03⟩
  case round =>
    obtain ⟨k, a, cp, rfl, rfl, hk, hgk, HO, hgr⟩ := hrel
    have HG : Hid (gk = cnt - k) := hgk
    clear hgk
    by_cases hlt : k < cnt
    · have i8 : (k : Int) < (cnt : Int) := by omega
      go_wp2_with fail
      refine (cG k _ hgr (by omega)).mono ?_
      rintro e w4 ⟨rfl, hg4⟩
      have hg04 := grown_join hgr hg4 (.inl rfl)
      obtain ⟨a', cp', w5, hrun, ho5, hgg⟩ := (HO.out.kept hg4).more ((val l (16 + 4 * k) : Nat) : Int) (by rw [numsOf_len]; omega) hg04.size
      rw [numsOf_len] at hrun
      have hg05 := hgg w (Nat.le_refl _) hg04
      have ho5' : OwnL w.heap.size w5 a' cp' (numsOf (l.drop 16) (k + 1)) := by rw [numsOf_succ, val_drop, Nat.mul_comm k]; exact ho5
      have HRUN : Hid (_ = _) := hrun
      have HO5 : Hid (OwnL w.heap.size w5 a' cp' (numsOf (l.drop 16) (k + 1))) := ho5'
      clear hrun ho5 ho5' HO hgg
      go_wp2_with (first | (at_builtin; refine wpList_append_run rfl _ _ 22 rfl _ _ _ w5 rfl rfl HRUN.out ?_))
      have hgl := HG.out
      go_roundg (cnt - (k + 1))
      all_goals first | omega | exact ⟨k + 1, a', cp', by go_num, rfl, by omega, by omega, HO5, hg05⟩
    · have i8 : ¬ (k : Int) < (cnt : Int) := by omega
      have hkc : k = cnt := by omega
      subst hkc
      go_wp2_with fail
      refine (HF.out _ hgr).mono ?_
      rintro e w4 ⟨rfl, hg4⟩
      go_wp2
      go_ret3
      have hW : readW l = numsOf (l.drop 16) k := by unfold readW; rw [if_pos HZ.out, HC.out]
      have hN : readN l = ser := by unfold readN; rw [if_pos HZ.out, HS.out]
      rw [hW, hN, HZ.out]
      exact ⟨_, _, by rw [numsOf_len]; rfl, HO.out.kept hg4, grown_join hgr hg4 (.inl rfl)⟩
end Go.Proofs.YtlbipcecdcmgdaaDoor
