/- The document's Carriable and known. -/
import Derived.Test.YtmkgobmlpmjocaaA
namespace Go.Proofs.Ytmkgobmlpmjocaa
open Go.RowKit
attribute [local go_sem ↓] Go.wp_at_zero Go.wp_at_succ
set_option linter.unusedVariables false
set_option linter.unusedSimpArgs false

theorem slB_eq (n : Nat) (s0 : ByteArray) (s1 s2 s3 : Int) (s4 : Bool) (s5 : Int) : slB n ⟨s0, s1, s2, s3, s4, s5⟩ = !(decide (s3 < 0) || decide ((n : Int) < s3) || decide (s2 < 0) || decide ((n : Int) ≤ s2) || decide ((n : Int) < s2 + s3)) := by
  unfold slB liesB wds
  dsimp only
  by_cases h : 1 ≤ s3
  · rw [if_pos h]
    rw [Bool.eq_iff_iff]
    simp
    omega
  · rw [if_neg h]
    rw [Bool.eq_iff_iff]
    simp
    omega

set_option maxHeartbeats 1000000 in
theorem carr_any (k : Int) (nm : ByteArray) (fa : Option Addr) (fc : Nat) (sv tv : Value) (fs : List Int) (sl : List Slt) (w : World) (hS : SlAt w sv sl) :
    Calls Try.prog 13 #[pV k nm (.slice fa fs.length fc) sv tv] w fun e w' => e = .returned (.bool (okB fs sl)) ∧ w.grownBy w' none := by
  have HS : Hid (SlAt w sv sl) := hS
  obtain ⟨sa, sc, rfl, hs⟩ := hS
  clear hs
  unfold pV okB
  obtain ⟨n, hn⟩ : ∃ n, fs.length = n := ⟨_, rfl⟩
  obtain ⟨m, hm⟩ : ∃ m, sl.length = m := ⟨_, rfl⟩
  have HM : Hid (sl.length = m) := hm
  have HSM : Hid (SlAt w (.slice sa m sc) sl) := by have := HS.out; rw [hm] at this; exact this
  rw [hn, hm]
  clear hn hm HS
  by_cases h1 : n ≤ 20000
  · by_cases h2 : m ≤ 20000
    · have d1 : decide ((20000 : Int) < (n : Int)) = false := by simp; omega
      have d2 : decide ((20000 : Int) < (m : Int)) = false := by simp; omega
      have j1 : ¬ ((20000 : Int) < (n : Int)) := by omega
      have j2 : ¬ ((20000 : Int) < (m : Int)) := by omega
      have HN : Hid (n ≤ 20000) := h1
      have HMM : Hid (m ≤ 20000) := h2
      have HR : Hid ((decide (n ≤ 20000) && decide (m ≤ 20000) && sl.all (slB n)) = sl.all (slB n)) := (by simp [h1, h2] : (decide (n ≤ 20000) && decide (m ≤ 20000) && sl.all (slB n)) = sl.all (slB n))
      generalize hr : (decide (n ≤ 20000) && decide (m ≤ 20000) && sl.all (slB n)) = rr at *
      clear hr h1 h2
      go_enter Try.func13, Try.ntmps13
      go_wp2_with fail
      clear d1 d2 j1 j2
      go_loopg [4] m (fun gk s4 wx => ∃ (j : Nat), s4 = .int .i64 j ∧ j ≤ m ∧ gk = m - j ∧ (sl.take j).all (slB n) = true ∧ w.grownBy wx none ∧ wx.heap[w.heap.size]? = some (.cells #[.int .i64 k, .string nm, .slice fa n fc, .slice sa m sc, tv] 27))
      case atStart => exact ⟨0, rfl, Nat.zero_le _, by omega, by simp, gr1 _ _, heap_alloc_new _ _⟩
      case round =>
        obtain ⟨j, rfl, hj, hgj, hall, hgr, hbx⟩ := hrel
        have HG : Hid (gk = m - j) := hgj
        have HA : Hid ((sl.take j).all (slB n) = true) := hall
        have HB : Hid (wr.heap[w.heap.size]? = some (.cells #[.int .i64 k, .string nm, .slice fa n fc, .slice sa m sc, tv] 27)) := hbx
        clear hgj hall
        have q3 := at_cell hbx 3
        simp at q3
        clear hbx
        by_cases hlt : j < m
        · obtain ⟨b, off, s, rfl, hsj, c0, c1, c2, c3, c4, c5⟩ := sl_one (l := sl) (by have := HSM.out.grown hgr; rw [← HM.out] at this; exact this) j (by rw [HM.out]; exact hlt)
          have HSJ : Hid (sl[j]? = some s) := hsj
          have i1 : (0 : Int) ≤ (j : Int) := by omega
          have i2 : (j : Int) < (m : Int) := by omega
          clear hsj
          obtain ⟨s0, s1, s2, s3, s4, s5⟩ := s
          dsimp only at c0 c1 c2 c3 c4 c5
          have hnn := HN.out
          by_cases h1 : s3 < 0
          · have e1 : decide (s3 < 0) = true := by simp [h1]
            have hsb : slB n ⟨s0, s1, s2, s3, s4, s5⟩ = false := by rw [slB_eq]; simp; omega
            have HSB : Hid (slB n ⟨s0, s1, s2, s3, s4, s5⟩ = false) := hsb
            clear hsb
            go_wp2
            go_ret
            refine ⟨?_, hgr.trans (gr1 _ _)⟩
            rw [HR.out, all_not HSJ.out HSB.out]
            rfl
          by_cases h2 : (n : Int) < s3
          · have e1 : decide (s3 < 0) = false := by simp; omega
            have e2 : decide ((n : Int) < s3) = true := by simp [h2]
            have hsb : slB n ⟨s0, s1, s2, s3, s4, s5⟩ = false := by rw [slB_eq]; simp; omega
            have HSB : Hid (slB n ⟨s0, s1, s2, s3, s4, s5⟩ = false) := hsb
            clear hsb
            go_wp2
            go_ret
            refine ⟨?_, hgr.trans (gr1 _ _)⟩
            rw [HR.out, all_not HSJ.out HSB.out]
            rfl
          by_cases h3 : s2 < 0
          · have e1 : decide (s3 < 0) = false := by simp; omega
            have e2 : decide ((n : Int) < s3) = false := by simp; omega
            have e3 : decide (s2 < 0) = true := by simp [h3]
            have hsb : slB n ⟨s0, s1, s2, s3, s4, s5⟩ = false := by rw [slB_eq]; simp; omega
            have HSB : Hid (slB n ⟨s0, s1, s2, s3, s4, s5⟩ = false) := hsb
            clear hsb
            go_wp2
            go_ret
            refine ⟨?_, hgr.trans (gr1 _ _)⟩
            rw [HR.out, all_not HSJ.out HSB.out]
            rfl
          by_cases h4 : (n : Int) ≤ s2
          · have e1 : decide (s3 < 0) = false := by simp; omega
            have e2 : decide ((n : Int) < s3) = false := by simp; omega
            have e3 : decide (s2 < 0) = false := by simp; omega
            have e4 : decide ((n : Int) ≤ s2) = true := by simp [h4]
            have hsb : slB n ⟨s0, s1, s2, s3, s4, s5⟩ = false := by rw [slB_eq]; simp; omega
            have HSB : Hid (slB n ⟨s0, s1, s2, s3, s4, s5⟩ = false) := hsb
            clear hsb
            go_wp2
            go_ret
            refine ⟨?_, hgr.trans (gr1 _ _)⟩
            rw [HR.out, all_not HSJ.out HSB.out]
            rfl
          have e1 : decide (s3 < 0) = false := by simp; omega
          have e2 : decide ((n : Int) < s3) = false := by simp; omega
          have e3 : decide (s2 < 0) = false := by simp; omega
          have e4 : decide ((n : Int) ≤ s2) = false := by simp; omega
          by_cases h5 : (n : Int) < s2 + s3
          · have e5 : decide ((n : Int) < s2 + s3) = true := by simp [h5]
            have hsb : slB n ⟨s0, s1, s2, s3, s4, s5⟩ = false := by rw [slB_eq]; simp; omega
            have HSB : Hid (slB n ⟨s0, s1, s2, s3, s4, s5⟩ = false) := hsb
            clear hsb
            go_wp2
            go_ret
            refine ⟨?_, hgr.trans (gr1 _ _)⟩
            rw [HR.out, all_not HSJ.out HSB.out]
            rfl
          have e5 : decide ((n : Int) < s2 + s3) = false := by simp; omega
          have hsb : slB n ⟨s0, s1, s2, s3, s4, s5⟩ = true := by rw [slB_eq]; simp; omega
          have HSB : Hid (slB n ⟨s0, s1, s2, s3, s4, s5⟩ = true) := hsb
          clear hsb
          have hmm := HMM.out
          go_wp2
          have hgl := HG.out
          go_roundg (m - (j + 1))
          all_goals first | omega | exact ⟨j + 1, by go_num, by omega, by omega, all_take_more HA.out HSJ.out HSB.out, hgr.trans (gr1 _ _), kept (gr1 _ _) HB.out⟩
        · have hk' : ¬ ((j : Int) < (m : Int)) := by omega
          go_wp2
          go_ret
          refine ⟨?_, hgr⟩
          rw [HR.out]
          have e : sl.take j = sl := List.take_of_length_le (by rw [HM.out]; omega)
          have := HA.out
          rw [e] at this
          rw [this]
          rfl
    · have d1 : decide ((20000 : Int) < (m : Int)) = true := by simp; omega
      have d2 : decide (m ≤ 20000) = false := by simp; omega
      have d3 : decide ((20000 : Int) < (n : Int)) = false := by simp; omega
      go_enter Try.func13, Try.ntmps13
      go_wp2
      go_ret
      refine ⟨?_, gr1 _ _⟩
      rw [d2]
      simp
  · have d1 : decide ((20000 : Int) < (n : Int)) = true := by simp; omega
    have d2 : decide (n ≤ 20000) = false := by simp; omega
    go_enter Try.func13, Try.ntmps13
    go_wp2
    go_ret
    refine ⟨?_, gr1 _ _⟩
    rw [d2]
    simp

/-- Slots that are the same. -/
def same (a b : Slt) : Bool := decide (a.path = b.path) && decide (a.kind = b.kind) && decide (a.len = b.len)
/-- The first of some slots that is the same: its place, or the number of slots. -/
def fnd (l : List Slt) (s : Slt) : Nat := l.findIdx (fun x => same x s)

theorem fnd_le (l : List Slt) (s : Slt) : fnd l s ≤ l.length := List.findIdx_le_length

theorem toList_ne {s t : ByteArray} (h : ¬ s = t) : (s.toList == t.toList) = false := by
  rw [beq_eq_false_iff_ne]
  intro e
  apply h
  rw [ByteArray.toList_eq, ByteArray.toList_eq] at e
  obtain ⟨⟨s⟩⟩ := s
  obtain ⟨⟨t⟩⟩ := t
  simpa using e
theorem hp_drewN (w : World) (k b : Nat) : (w.drewN k).heap[b]? = w.heap[b]? := rfl
theorem no_more {l : List Slt} {t s : Slt} {j : Nat} (h : j ≤ fnd l t) (hj : l[j]? = some s) (hn : same s t = false) : j + 1 ≤ fnd l t := by
  unfold fnd at *
  rcases Nat.lt_or_ge j (l.findIdx fun x => same x t) with h1 | h1
  · exact h1
  · have e : l.findIdx (fun x => same x t) = j := by omega
    have hjl : j < l.length := (List.getElem?_eq_some_iff.1 hj).1
    have := List.findIdx_getElem (xs := l) (p := fun x => same x t) (w := by rw [e]; exact hjl)
    rw [List.getElem?_eq_getElem hjl] at hj
    simp only [e] at this
    simp only [Option.some.injEq] at hj
    rw [hj] at this
    rw [hn] at this
    cases this
theorem fnd_here {l : List Slt} {t s : Slt} {j : Nat} (h : j ≤ fnd l t) (hj : l[j]? = some s) (hn : same s t = true) : fnd l t = j := by
  rcases Nat.lt_or_ge j (fnd l t) with h1 | h1
  · have := List.not_of_lt_findIdx (xs := l) (p := fun x => same x t) h1
    have hjl : j < l.length := (List.getElem?_eq_some_iff.1 hj).1
    rw [List.getElem?_eq_getElem hjl] at hj
    simp only [Option.some.injEq] at hj
    rw [hj] at this
    simp [hn] at this
  · omega
theorem yes_here {l : List Slt} {t s : Slt} {j m : Nat} {r : Int} (h : j ≤ fnd l t) (hj : l[j]? = some s) (hn : same s t = true) (hm : j < m) (hr : (if fnd l t < m then ((fnd l t : Nat) : Int) else -1) = r) : r = (j : Int) := by
  rw [fnd_here h hj hn, if_pos hm] at hr
  exact hr.symm

set_option maxHeartbeats 1000000 in
theorem known_any (sv : Value) (sl : List Slt) (t : Slt) (w : World) (hS : SlAt w sv sl) (hl : sl.length ≤ 20000) :
    Calls Try.prog 14 #[sv, sV t] w fun e w' => e = .returned (.int .i64 (if fnd sl t < sl.length then ((fnd sl t : Nat) : Int) else -1)) ∧ w.grownBy w' none := by
  have HS : Hid (SlAt w sv sl) := hS
  obtain ⟨sa, sc, rfl, hs⟩ := hS
  clear hs
  unfold sV
  obtain ⟨m, hm⟩ : ∃ m, sl.length = m := ⟨_, rfl⟩
  have HM : Hid (sl.length = m) := hm
  have HSM : Hid (SlAt w (.slice sa m sc) sl) := by have := HS.out; rw [hm] at this; exact this
  rw [hm] at hl ⊢
  clear hm HS
  obtain ⟨r, hr⟩ : ∃ r, (if fnd sl t < m then ((fnd sl t : Nat) : Int) else -1) = r := ⟨_, rfl⟩
  have HR : Hid ((if fnd sl t < m then ((fnd sl t : Nat) : Int) else -1) = r) := hr
  rw [hr]
  clear hr
  obtain ⟨t0, t1, t2, t3, t4, t5⟩ := t
  dsimp only
  go_enter Try.func14, Try.ntmps14
  go_wp2_with fail
  go_loopg [5] m (fun gk s5 wx => ∃ (j : Nat), s5 = .int .i64 j ∧ j ≤ m ∧ gk = m - j ∧ j ≤ fnd sl ⟨t0, t1, t2, t3, t4, t5⟩ ∧ w.grownBy wx none ∧ wx.heap[w.heap.size]? = some (.cells #[.string t0, .int .i64 t1, .int .i64 t2, .int .i64 t3, .bool t4, .int .i64 t5] 50))
  case atStart => exact ⟨0, rfl, Nat.zero_le _, by omega, by omega, gr1 _ _, heap_alloc_new _ _⟩
  case round =>
    obtain ⟨j, rfl, hj, hgj, hall, hgr, hbx⟩ := hrel
    have HG : Hid (gk = m - j) := hgj
    have HA : Hid (j ≤ fnd sl ⟨t0, t1, t2, t3, t4, t5⟩) := hall
    have HB : Hid (wr.heap[w.heap.size]? = some (.cells #[.string t0, .int .i64 t1, .int .i64 t2, .int .i64 t3, .bool t4, .int .i64 t5] 50)) := hbx
    have q0 := at_cell hbx 0
    have q1 := at_cell hbx 1
    have q3 := at_cell hbx 3
    simp at q0 q1 q3
    clear hgj hall hbx
    by_cases hlt : j < m
    · obtain ⟨b, off, s, rfl, hsj, c0, c1, c2, c3, c4, c5⟩ := sl_one (l := sl) (by have := HSM.out.grown hgr; rw [← HM.out] at this; exact this) j (by rw [HM.out]; exact hlt)
      have HSJ : Hid (sl[j]? = some s) := hsj
      have i1 : (0 : Int) ≤ (j : Int) := by omega
      have i2 : (j : Int) < (m : Int) := by omega
      clear hsj
      obtain ⟨s0, s1, s2, s3, s4, s5⟩ := s
      dsimp only at c0 c1 c2 c3 c4 c5
      by_cases h0 : s0 = t0
      · subst h0
        by_cases h1 : s1 = t1
        · subst h1
          by_cases h3 : s3 = t3
          · subst h3
            have HR2 : Hid (r = (j : Int)) := yes_here HA.out HSJ.out (by simp [same]) hlt HR.out
            go_wp2
            go_quiet (fail)
            go_wp2
            go_ret
            refine ⟨?_, gr_drewN hgr _⟩
            rw [HR2.out]
            rfl
          · have d3 : decide (s3 = t3) = false := by simp [h3]
            have HNE : Hid (same ⟨s0, s1, s2, s3, s4, s5⟩ ⟨s0, s1, t2, t3, t4, t5⟩ = false) := (by simp [same, h3] : same ⟨s0, s1, s2, s3, s4, s5⟩ ⟨s0, s1, t2, t3, t4, t5⟩ = false)
            go_wp2
            go_quiet (fail)
            go_wp2
            have hgl := HG.out
            go_roundg (m - (j + 1))
            all_goals first | omega | exact ⟨j + 1, by go_num, by omega, by omega, no_more HA.out HSJ.out (by first | exact HNE.out | (simp [same]; done)), gr_drewN hgr _, by rw [hp_drewN]; exact HB.out⟩
        · have d1 : decide (s1 = t1) = false := by simp [h1]
          have HNE : Hid (same ⟨s0, s1, s2, s3, s4, s5⟩ ⟨s0, t1, t2, t3, t4, t5⟩ = false) := (by simp [same, h1] : same ⟨s0, s1, s2, s3, s4, s5⟩ ⟨s0, t1, t2, t3, t4, t5⟩ = false)
          go_wp2
          go_quiet (fail)
          go_wp2
          have hgl := HG.out
          go_roundg (m - (j + 1))
          all_goals first | omega | exact ⟨j + 1, by go_num, by omega, by omega, no_more HA.out HSJ.out (by first | exact HNE.out | (simp [same]; done)), gr_drewN hgr _, by rw [hp_drewN]; exact HB.out⟩
      · have d0 : decide (s0 = t0) = false := by simp [h0]
        have d0b : (s0.toList == t0.toList) = false := toList_ne h0
        have HNE : Hid (same ⟨s0, s1, s2, s3, s4, s5⟩ ⟨t0, t1, t2, t3, t4, t5⟩ = false) := (by simp [same, h0] : same ⟨s0, s1, s2, s3, s4, s5⟩ ⟨t0, t1, t2, t3, t4, t5⟩ = false)
        go_wp2
        go_quiet (fail)
        go_wp2
        have hgl := HG.out
        go_roundg (m - (j + 1))
        all_goals first | omega | exact ⟨j + 1, by go_num, by omega, by omega, no_more HA.out HSJ.out (by first | exact HNE.out | (simp [same]; done)), gr_drewN hgr _, by rw [hp_drewN]; exact HB.out⟩
    · have hk' : ¬ ((j : Int) < (m : Int)) := by omega
      have hjm : j = m := by omega
      have HE : Hid (r = -1) := (by rw [← HR.out, if_neg (by have := HA.out; omega)] : r = -1)
      go_wp2
      go_ret
      refine ⟨?_, hgr⟩
      rw [HE.out]
      rfl
end Go.Proofs.Ytmkgobmlpmjocaa
