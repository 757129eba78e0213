/- Functions of the laws that keep: picked, words, equal. -/
import Derived.Test.YtlbipcecdcmgdaaDoorLw
import Derived.Test.YtlbipcecdcmgdaaDoorPg
namespace Go.Proofs.YtlbipcecdcmgdaaDoor
open Go.RowKit
attribute [local go_sem ↓] Go.wp_at_zero Go.wp_at_succ
set_option linter.unusedVariables false
set_option linter.unusedSimpArgs false

def in64 (n : Int) : Prop := -9223372036854775808 ≤ n ∧ n ≤ 9223372036854775807
def pk (n : Int) (m : Nat) : Nat := ((if n < 0 then -(n + 1) else n) % (m : Int)).toNat
theorem pk_lt (n : Int) {m : Nat} (h : 0 < m) : pk n m < m := by
  unfold pk
  have h1 := Int.emod_lt_of_pos (if n < 0 then -(n + 1) else n) (show (0 : Int) < m by omega)
  have h2 := Int.emod_nonneg (if n < 0 then -(n + 1) else n) (show (m : Int) ≠ 0 by omega)
  omega
theorem pk_cast (n : Int) {m : Nat} (h : 0 < m) : ((pk n m : Nat) : Int) = (if n < 0 then -(n + 1) else n) % (m : Int) := by
  unfold pk
  have h2 := Int.emod_nonneg (if n < 0 then -(n + 1) else n) (show (m : Int) ≠ 0 by omega)
  omega
theorem picked_any (n : Int) (m : Nat) (w : World) (hn : in64 n) (hm : 0 < m) (hm2 : m < 9223372036854775807) : Calls Tryd.prog 23 #[.int .i64 n, .int .i64 (m : Int)] w fun e w' => e = .returned (.int .i64 ((pk n m : Nat) : Int)) ∧ w = w' := by
  have hc := pk_cast n hm
  obtain ⟨h1, h2⟩ := hn
  have hm0 : (0 : Int) < (m : Int) := by omega
  have hm1 : ¬ (m : Int) = 0 := by omega
  by_cases h : n < 0
  · rw [if_pos h] at hc
    have e2 : (-(n + 1)).tmod (m : Int) = -(n + 1) % (m : Int) := Int.tmod_eq_emod_of_nonneg (by omega)
    go_enter Tryd.func23, Tryd.ntmps23
    go_wp2
    go_ret
    refine ⟨ret_int ?_, rfl⟩
    rw [hc]
  · rw [if_neg h] at hc
    have e2 : n.tmod (m : Int) = n % (m : Int) := Int.tmod_eq_emod_of_nonneg (by omega)
    go_enter Tryd.func23, Tryd.ntmps23
    go_wp2
    go_ret
    exact ⟨ret_int rfl, rfl⟩
def wordsS (l : List Int) : List Int := (l.take 200).map fun x => ((pk x 4294967296 : Nat) : Int)
theorem wordsS_len (l : List Int) : (wordsS l).length ≤ 200 := by simp [wordsS]; omega
theorem wordsS_ok (l : List Int) : (wordsS l).all okW = true := by
  rw [List.all_eq_true]
  intro x hx
  unfold wordsS at hx
  rw [List.mem_map] at hx
  obtain ⟨y, _, rfl⟩ := hx
  have := pk_lt y (m := 4294967296) (by omega)
  rw [okW_iff]
  omega
set_option maxHeartbeats 1000000 in
theorem words_any (l : List Int) (u : Value) (w : World) (hu : rd w u l) (hz : ∀ x ∈ l, in64 x) (hl : l.length ≤ 17592186044416) : Calls Tryd.prog 22 #[u] w fun e w' => ∃ a c, e = .returned (.slice a (wordsS l).length c) ∧ OwnL w.heap.size w' a c (wordsS l) ∧ w.grownBy w' none := by
  obtain ⟨a, cap, rfl, ha⟩ := hu
  have HA : Hid (l = [] ∨ ∃ b off, a = some ⟨b, off, none⟩ ∧ ∀ i, i < l.length → w.cell? ⟨b, off + i, none⟩ = some (.int .i64 (l.getD i 0))) := ha
  have HZ := hidI hz
  obtain ⟨n, hn⟩ : ∃ n, l.length = n := ⟨_, rfl⟩
  have HN : Hid (l.length = n) := hn
  rw [hn] at hl ⊢
  clear hn ha hz
  go_enter Tryd.func22, Tryd.ntmps22
  go_wp2
  go_loopg [3, 4] 200 (fun gk s3 s4 wx => ∃ (k : Nat) (a : Option Addr) (c : Nat), s4 = .int .i64 k ∧ s3 = .slice a k c ∧ k ≤ n ∧ k ≤ 200 ∧ gk = 200 - k ∧ Hid (OwnL w.heap.size wx a c (wordsS (l.take k)) ∧ (wordsS (l.take k)).length = k) ∧ w.grownBy wx none)
  case atStart => exact ⟨0, none, 0, rfl, rfl, Nat.zero_le _, Nat.zero_le _, by omega, hidI ⟨OwnL.nil _ _, rfl⟩, World.grownBy.refl _ _⟩
  case round =>
    obtain ⟨k, oa, oc, rfl, rfl, hk, hk2, hgk, HO, hgr⟩ := hrel
    have HG : Hid (gk = 200 - k) := hgk
    clear hgk
    by_cases hlt : k < n
    · by_cases hlt2 : k < 200
      · have hkl : k < l.length := by rw [HN.out]; exact hlt
        rcases HA.out with h | ⟨b, off, rfl, hc⟩
        · subst h; simp at hkl
        have q0 := hgr.cell (hc k hkl) (by simp)
        have hT : l.take (k + 1) = l.take k ++ [l.getD k 0] := by
          rw [List.take_add_one]
          simp [List.getD, hkl]
        have hx : in64 (l.getD k 0) := HZ.out _ (by
          have : l.getD k 0 = l[k] := by simp [List.getD, hkl]
          rw [this]
          exact List.getElem_mem _)
        have HW : Hid (wordsS (l.take (k + 1)) = wordsS (l.take k) ++ [((pk (l.getD k 0) 4294967296 : Nat) : Int)]) := hidI (by
          rw [hT]
          have f1 : (l.take k ++ [l.getD k 0]).take 200 = l.take k ++ [l.getD k 0] := List.take_of_length_le (by rw [List.length_append, List.length_take]; simp; omega)
          have f2 : (l.take k).take 200 = l.take k := List.take_of_length_le (by rw [List.length_take]; omega)
          unfold wordsS
          rw [f1, f2, List.map_append]
          rfl)
        clear hc hkl hT
        generalize l.getD k 0 = x at *
        have cP := fun W => picked_any x 4294967296 W hx (by omega) (by omega)
        have j1 : (0 : Int) ≤ (k : Int) := by omega
        have j2 : (k : Int) < (n : Int) := by omega
        have j3 : (k : Int) < 200 := by omega
        go_wp2_with fail
        refine (cP _).mono ?_
        rintro e w' ⟨rfl, rfl⟩
        obtain ⟨a', c', w5, hrun, ho5, hgg⟩ := HO.out.1.more ((pk x 4294967296 : Nat) : Int) (by rw [HO.out.2]; omega) hgr.size
        rw [HO.out.2] at hrun
        rw [← HW.out] at ho5
        have hg5 := hgg w (Nat.le_refl _) hgr
        have HRUN : Hid (_ = _) := hrun
        have HNEW : Hid (OwnL w.heap.size w5 a' c' (wordsS (l.take (k + 1))) ∧ (wordsS (l.take (k + 1))).length = k + 1) := hidI ⟨ho5, by rw [HW.out, List.length_append, HO.out.2]; rfl⟩
        clear hrun ho5 hgg HO cP
        go_wp2_with (first | (at_builtin; refine hidG ?_))
        refine hidI ?_
        refine wpList_append_run rfl _ _ 22 rfl _ _ _ w5 rfl rfl HRUN.out ?_
        go_wp2
        have hgl := HG.out
        go_roundg (200 - (k + 1))
        all_goals first | omega | exact ⟨k + 1, a', c', by go_num, rfl, by omega, by omega, by omega, HNEW, hg5⟩
      · have j2 : (k : Int) < (n : Int) := by omega
        have j3 : ¬ (k : Int) < 200 := by omega
        have HE : Hid (wordsS (l.take k) = wordsS l) := hidI (by unfold wordsS; rw [List.take_take, show min 200 k = 200 by omega])
        go_wp2
        go_ret
        refine ⟨oa, oc, ?_, by have := HO.out.1; rwa [HE.out] at this, hgr⟩
        rw [← HE.out, HO.out.2]
        rfl
    · have j2 : ¬ (k : Int) < (n : Int) := by omega
      have HE : Hid (wordsS (l.take k) = wordsS l) := hidI (by rw [List.take_of_length_le (by rw [HN.out]; omega)])
      go_wp2
      go_ret
      refine ⟨oa, oc, ?_, by have := HO.out.1; rwa [HE.out] at this, hgr⟩
      rw [← HE.out, HO.out.2]
      rfl
set_option maxHeartbeats 1000000 in
theorem equal_any (la lb : List Int) (u v : Value) (w : World) (hu : rd w u la) (hv : rd w v lb) (hl : la.length ≤ 17592186044416) (hl2 : lb.length ≤ 17592186044416) : Calls Tryd.prog 25 #[u, v] w fun e w' => e = .returned (.bool (decide (la = lb))) ∧ w.grownBy w' none := by
  obtain ⟨a, cap, rfl, ha⟩ := hu
  obtain ⟨b, cap', rfl, hb⟩ := hv
  by_cases hne : la.length = lb.length
  · have HA : Hid (la = [] ∨ ∃ b off, a = some ⟨b, off, none⟩ ∧ ∀ i, i < la.length → w.cell? ⟨b, off + i, none⟩ = some (.int .i64 (la.getD i 0))) := ha
    have HB : Hid (lb = [] ∨ ∃ b' off, b = some ⟨b', off, none⟩ ∧ ∀ i, i < lb.length → w.cell? ⟨b', off + i, none⟩ = some (.int .i64 (lb.getD i 0))) := hb
    obtain ⟨n, hn⟩ : ∃ n, la.length = n := ⟨_, rfl⟩
    have hn' : lb.length = n := by omega
    have HN : Hid (la.length = n) := hn
    have HN' : Hid (lb.length = n) := hn'
    rw [hn, hn']
    rw [hn] at hl
    clear hn hn' hne ha hb hl2
    go_enter Tryd.func25, Tryd.ntmps25
    go_wp2
    go_loopg [5] n (fun gk s5 wx => ∃ k : Nat, s5 = .int .i64 k ∧ k ≤ n ∧ gk = n - k ∧ Hid (la.take k = lb.take k) ∧ w.grownBy wx none)
    case atStart => exact ⟨0, rfl, Nat.zero_le _, by omega, hidI rfl, World.grownBy.refl _ _⟩
    case round =>
      obtain ⟨k, rfl, hk, hgk, HT, hgr⟩ := hrel
      have HG : Hid (gk = n - k) := hgk
      clear hgk
      by_cases hlt : k < n
      · have hka : k < la.length := by rw [HN.out]; exact hlt
        have hkb : k < lb.length := by rw [HN'.out]; exact hlt
        rcases HA.out with h | ⟨b1, o1, rfl, hc⟩
        · subst h; simp at hka
        rcases HB.out with h | ⟨b2, o2, rfl, hc'⟩
        · subst h; simp at hkb
        have q0 := hgr.cell (hc k hka) (by simp)
        have q1 := hgr.cell (hc' k hkb) (by simp)
        have eA : la.take (k + 1) = la.take k ++ [la.getD k 0] := by rw [List.take_add_one]; simp [List.getD, hka]
        have eB : lb.take (k + 1) = lb.take k ++ [lb.getD k 0] := by rw [List.take_add_one]; simp [List.getD, hkb]
        have HXY : Hid (la.getD k 0 ≠ lb.getD k 0 → decide (la = lb) = false) := hidI (fun hne => by
          rw [decide_eq_false_iff_not]
          intro he
          exact hne (by rw [he]))
        have HT2 : Hid (la.getD k 0 = lb.getD k 0 → la.take (k + 1) = lb.take (k + 1)) := hidI (fun he => by rw [eA, eB, HT.out, he])
        clear hc hc' hka hkb eA eB
        generalize la.getD k 0 = x at *
        generalize lb.getD k 0 = y at *
        have j1 : (0 : Int) ≤ (k : Int) := by omega
        have j2 : (k : Int) < (n : Int) := by omega
        by_cases hxy : x = y
        · subst hxy
          have HT3 : Hid (_ = _) := HT2.out rfl
          clear HT2
          go_wp2
          go_region_held3 (fun w' => w'.cell? ⟨b1, o1 + k, none⟩ = some (.int .i64 x) ∧ w'.cell? ⟨b2, o2 + k, none⟩ = some (.int .i64 x)) (go_keep) (fail)
          go_wp2
          have hgl := HG.out
          go_roundg (n - (k + 1))
          all_goals first | omega | exact ⟨k + 1, by go_num, by omega, by omega, HT3, gr_drew hgr⟩
        · have HF : Hid (_ = _) := HXY.out hxy
          go_wp2
          go_region_held3 (fun w' => w'.cell? ⟨b1, o1 + k, none⟩ = some (.int .i64 x) ∧ w'.cell? ⟨b2, o2 + k, none⟩ = some (.int .i64 y)) (go_keep) (fail)
          go_wp2
          go_ret
          exact ⟨ret_bool HF.out.symm, gr_drew hgr⟩
      · have j2 : ¬ (k : Int) < (n : Int) := by omega
        have HE : Hid (decide (la = lb) = true) := hidI (by
          rw [decide_eq_true_iff]
          have := HT.out
          rwa [List.take_of_length_le (by rw [HN.out]; omega), List.take_of_length_le (by rw [HN'.out]; omega)] at this)
        go_wp2
        go_ret
        exact ⟨ret_bool HE.out.symm, hgr⟩
  · have i0 : ¬ (la.length : Int) = (lb.length : Int) := by omega
    have hd : decide (la = lb) = false := by
      rw [decide_eq_false_iff_not]
      intro h
      exact hne (by rw [h])
    rw [hd]
    go_enter Tryd.func25, Tryd.ntmps25
    go_wp2
    go_ret
    exact ⟨rfl, World.grownBy.refl _ _⟩
end Go.Proofs.YtlbipcecdcmgdaaDoor
