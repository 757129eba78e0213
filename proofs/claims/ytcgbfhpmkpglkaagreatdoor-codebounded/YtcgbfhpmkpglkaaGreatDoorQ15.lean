/- Texts put together: L4, L5, L6, L7, V6, P1, V7, V8. -/
import Derived.Test.YtcgbfhpmkpglkaaGreatDoorQ14
import Derived.Test.YtcgbfhpmkpglkaaGreatDoorQ13
import Derived.Test.YtcgbfhpmkpglkaaGreatDoorQ01
/- bound. -/
namespace Go.Proofs.YtcgbfhpmkpglkaaGreatDoor
open Go.RowKit
attribute [local go_sem ↓] Go.wp_at_zero Go.wp_at_succ
set_option linter.unusedVariables false
set_option linter.unusedSimpArgs false

/-- The steps of an instruction, once. -/
def stepS (bds : List Int) (x : Ins) : Int := if x.d = 16 then x.b else if x.d = 17 then 1 + bds.getD x.a.toNat 0 else 1

theorem mul_bd {a b : Int} (ha : 1 ≤ a) (ha' : a ≤ 1000000001) (hb : 1 ≤ b) (hb' : b ≤ 1000000001) : 1 ≤ a * b ∧ a * b ≤ 1000000002000000001 := by
  refine ⟨(mul_ge ha hb).1, ?_⟩
  have h1 : a * b ≤ 1000000001 * b := Int.mul_le_mul_of_nonneg_right ha' (by omega)
  have h2 : (1000000001 : Int) * b ≤ 1000000001 * 1000000001 := Int.mul_le_mul_of_nonneg_left hb' (by omega)
  omega

set_option maxRecDepth 10000 in
set_option maxHeartbeats 4000000 in
theorem bound_any (o tb : Nat) (t : List Ins) (bds TM : List Int) (bv : Value) (w : World) (hO : OvT w o t) (hl : t.length ≤ 100000) (hb1 : w.cell? ⟨o, 1, none⟩ = some bv) (hb2 : rd w bv bds) (ht : w.cell? ⟨o, 4, none⟩ = some (.slice (some ⟨tb, 0, none⟩) t.length t.length)) (hT : w.heap[tb]? = some (.cells (intsA TM) 3)) (hTl : TM.length = t.length)
    (hTM : ∀ k, k < t.length → TM.getD k 0 = prd t (inn t (k + 1) k) ∧ 1 ≤ TM.getD k 0 ∧ TM.getD k 0 ≤ 1000000001)
    (hs : ∀ k, k < t.length → 1 ≤ stepS bds (nth t k) ∧ stepS bds (nth t k) ≤ 1000000001)
    (hr : ∀ k, k < t.length → (nth t k).d = 17 → 0 ≤ (nth t k).a ∧ (nth t k).a < bds.length) (hbl : bds.length ≤ 1000) :
    Calls Tryz.prog 34 #[.pointer (some ⟨o, 0, none⟩)] w fun e w' => e = .returned (.int .i64 (sumP t (fun k => stepS bds (nth t k)) t.length)) ∧ w.grownBy w' none := by
  obtain ⟨pb, po, tv, h1, h2, ta, tcap, rfl, hTx⟩ := hO
  obtain ⟨ba, bcap, rfl, hbd⟩ := hb2
  have HT : Hid (t = [] ∨ ∃ b off, ta = some ⟨b, off, none⟩ ∧ ∀ i, i < t.length →
    w.cell? ⟨b, off + i * 4, none⟩ = some (.int .i64 (nth t i).d) ∧ w.cell? ⟨b, off + i * 4 + 1, none⟩ = some (.int .i64 (nth t i).a) ∧
    w.cell? ⟨b, off + i * 4 + 2, none⟩ = some (.int .i64 (nth t i).b) ∧ w.cell? ⟨b, off + i * 4 + 3, none⟩ = some (.int .i64 (nth t i).c)) := hTx
  have HBD : Hid (bds = [] ∨ ∃ b off, ba = some ⟨b, off, none⟩ ∧ ∀ i, i < bds.length → w.cell? ⟨b, off + i, none⟩ = some (.int .i64 (bds.getD i 0))) := hbd
  have HTM : Hid (∀ k, k < t.length → TM.getD k 0 = prd t (inn t (k + 1) k) ∧ 1 ≤ TM.getD k 0 ∧ TM.getD k 0 ≤ 1000000001) := hTM
  have HS : Hid (∀ k, k < t.length → 1 ≤ stepS bds (nth t k) ∧ stepS bds (nth t k) ≤ 1000000001) := hs
  have HR : Hid (∀ k, k < t.length → (nth t k).d = 17 → 0 ≤ (nth t k).a ∧ (nth t k).a < bds.length) := hr
  have HH : Hid (w.heap[tb]? = some (.cells (intsA TM) 3)) := hT
  have HL : Hid (TM.length = t.length) := hTl
  clear hTx hbd hTM hs hr hT hTl
  obtain ⟨n, hn⟩ : ∃ n, t.length = n := ⟨_, rfl⟩
  have HN : Hid (t.length = n) := hn
  rw [hn] at hl h2 ht ⊢
  have HO4 : Hid (w.cell? ⟨o, 4, none⟩ = some (.slice (some ⟨tb, 0, none⟩) n n)) := ht
  have HO1 : Hid (w.cell? ⟨o, 1, none⟩ = some (.slice ba bds.length bcap)) := hb1
  clear hn ht hb1
  obtain ⟨F, hF⟩ : ∃ F, F = (fun k => stepS bds (nth t k)) := ⟨_, rfl⟩
  rw [← hF]
  have HF : Hid (F = (fun k => stepS bds (nth t k))) := hF
  clear hF
  go_enter Tryz.func34, Tryz.ntmps34
  go_wp2
  go_loopg [3, 15] n (fun gk s3 s15 wx => ∃ k : Nat, s15 = .int .i64 k ∧ k ≤ n ∧ gk = n - k ∧ s3 = .int .i64 (sumP t F k) ∧ 0 ≤ sumP t F k ∧ sumP t F k ≤ 1000000001 ∧ w.grownBy wx none)
  case atStart => exact ⟨0, rfl, Nat.zero_le _, by omega, rfl, by simp [sumP], by simp [sumP], World.grownBy.refl _ _⟩
  case round =>
    obtain ⟨k, rfl, hk, hgk, rfl, hp0, hp1, hgr⟩ := hrel
    have HG : Hid (gk = n - k) := hgk
    clear hgk
    by_cases hlt : k < n
    · have hkl : k < t.length := by rw [HN.out]; exact hlt
      rcases HT.out with h | ⟨b', off, rfl, hc⟩
      · subst h; simp at hkl
      obtain ⟨q0, q1, q2, q3⟩ := hc k hkl
      have q0 := hgr.cell q0 (by simp)
      have q1 := hgr.cell q1 (by simp)
      have q2 := hgr.cell q2 (by simp)
      have q3 := hgr.cell q3 (by simp)
      clear hc
      obtain ⟨s1, s2⟩ := HS.out k hkl
      obtain ⟨t0, t1, t2⟩ := HTM.out k hkl
      have hnx : sumP t F (k + 1) = min (sumP t F k + min (stepS bds (nth t k) * TM.getD k 0) top1) top1 := by rw [t0, HF.out]; rfl
      have HNX : Hid (sumP t F (k + 1) = min (sumP t F k + min (stepS bds (nth t k) * TM.getD k 0) top1) top1) := hnx
      have c0 := ints_get HH.out k (by rw [HL.out]; exact hkl)
      have C0 : ∀ ob, (wr.alloc ob).cell? ⟨tb, k, none⟩ = some (.int .i64 (TM.getD k 0)) := fun ob => (hgr.trans (gr1 wr ob)).cell c0 (by simp)
      have C4 : ∀ ob, (wr.alloc ob).cell? ⟨o, 4, none⟩ = some (.slice (some ⟨tb, 0, none⟩) n n) := fun ob => (hgr.trans (gr1 wr ob)).cell HO4.out (by simp)
      have C1 : ∀ ob, (wr.alloc ob).cell? ⟨o, 1, none⟩ = some (.slice ba bds.length bcap) := fun ob => (hgr.trans (gr1 wr ob)).cell HO1.out (by simp)
      generalize TM.getD k 0 = tm at *
      have HRK : Hid ((nth t k).d = 17 → 0 ≤ (nth t k).a ∧ (nth t k).a < bds.length) := HR.out k hkl
      generalize nth t k = x at *
      obtain ⟨d, a, b, c⟩ := x
      dsimp only at q0 q1 q2 q3 HRK
      clear c0 t0 hnx
      generalize sumP t F k = S at *
      have i1 : (0 : Int) ≤ (k : Int) := by omega
      have i2 : (k : Int) < (n : Int) := by omega
      obtain ⟨m1, m2⟩ := mul_bd s1 s2 t1 t2
      obtain ⟨st, hst⟩ : ∃ st, stepS bds ⟨d, a, b, c⟩ = st := ⟨_, rfl⟩
      have HST : Hid (stepS bds ⟨d, a, b, c⟩ = st) := hst
      rw [hst] at m1 m2 s1 s2
      have HN2 : Hid (sumP t F (k + 1) = min (S + min (st * tm) top1) top1) := (by rw [HNX.out, hst] : sumP t F (k + 1) = min (S + min (st * tm) top1) top1)
      have e1 : wrap64 (st * tm) = st * tm := by unfold wrap64; omega
      have e1' : IntKind.i64.wrap (st * tm) = st * tm := by rw [IntWalk.i64_left]; exact e1
      have e2 : wrap64 (S + min (st * tm) top1) = S + min (st * tm) top1 := by simp only [top1]; unfold wrap64; omega
      have HB2 : Hid (0 ≤ sumP t F (k + 1) ∧ sumP t F (k + 1) ≤ 1000000001) := (by rw [HN2.out]; simp only [top1]; omega : 0 ≤ sumP t F (k + 1) ∧ sumP t F (k + 1) ≤ 1000000001)
      clear hst HNX
      by_cases h16 : d = 16
      · subst h16
        have : b = st := by rw [← HST.out]; simp [stepS]
        subst this
        go_wp2_with (first | (go_at_call 60; refine (capped_any _ _).mono ?_; rintro e w' ⟨rfl, rfl⟩))
        have hgl := HG.out
        go_roundg (n - (k + 1))
        all_goals first | omega | exact ⟨k + 1, by go_num, by omega, by omega, by rw [HN2.out], HB2.out.1, HB2.out.2, gr_alloc hgr _⟩
      · by_cases h17 : d = 17
        · subst h17
          obtain ⟨r1, r2⟩ := HRK.out rfl
          obtain ⟨m, hm⟩ := Int.eq_ofNat_of_zero_le r1
          subst hm
          rcases HBD.out with h | ⟨b2, off2, rfl, hcb⟩
          · subst h; simp at r2; omega
          have d0 := hcb m (by omega)
          have D0 : ∀ ob, (wr.alloc ob).cell? ⟨b2, off2 + m, none⟩ = some (.int .i64 (bds.getD m 0)) := fun ob => (hgr.trans (gr1 wr ob)).cell d0 (by simp)
          have hstz : 1 + bds.getD m 0 = st := by rw [← HST.out]; simp [stepS]
          generalize bds.getD m 0 = z at *
          have e3 : wrap64 (1 + z) = st := by rw [← hstz]; unfold wrap64; omega
          have e3' : IntKind.i64.wrap (1 + z) = st := by rw [IntWalk.i64_left]; exact e3
          have HZ : Hid (1 + z = st) := hstz
          have j1 : (0 : Int) ≤ (m : Int) := by omega
          have j2 : (m : Int) < (bds.length : Int) := by omega
          clear hcb d0 hstz
          go_wp2_with (first | (go_at_call 60; refine (capped_any _ _).mono ?_; rintro e w' ⟨rfl, rfl⟩))
          go_quiet (fail)
          go_wp2_with (first | (go_at_call 60; refine (capped_any _ _).mono ?_; rintro e w' ⟨rfl, rfl⟩))
          have hgl := HG.out
          go_roundg (n - (k + 1))
          all_goals first | omega | exact ⟨k + 1, by go_num, by omega, by omega, by rw [HN2.out], HB2.out.1, HB2.out.2, gr_drewN (gr_alloc hgr _) _⟩
        · have : st = 1 := by rw [← HST.out]; simp [stepS, h16, h17]
          subst this
          have e16 : (d == 16) = false := by simpa using h16
          have e17 : (d == 17) = false := by simpa using h17
          rw [Int.one_mul] at e1 e1' e2
          go_wp2_with (first | (go_at_call 60; refine (capped_any _ _).mono ?_; rintro e w' ⟨rfl, rfl⟩))
          have hgl := HG.out
          go_roundg (n - (k + 1))
          all_goals first | omega | exact ⟨k + 1, by go_num, by omega, by omega, by rw [HN2.out, Int.one_mul], HB2.out.1, HB2.out.2, gr_alloc hgr _⟩
    · have hk' : ¬ ((k : Int) < (n : Int)) := by omega
      have hkn : k = n := by omega
      subst hkn
      go_wp2
      go_ret
      exact ⟨rfl, hgr⟩
end Go.Proofs.YtcgbfhpmkpglkaaGreatDoor

/- The closure that says where ways meet. -/
namespace Go.Proofs.YtcgbfhpmkpglkaaGreatDoor
open Go.RowKit
attribute [local go_sem ↓] Go.wp_at_zero Go.wp_at_succ
set_option linter.unusedVariables false
set_option linter.unusedSimpArgs false

def natsI (l : List Nat) : List Int := l.map (fun (p : Nat) => (p : Int))

/-- What comes of it: the heights behind, or none. -/
def MeetPost (hb : Nat) (m : Option (List Int)) (w : World) (e : Ending) (w' : World) : Prop :=
  w.grownBy w' (some hb) ∧ match m with
    | some hs' => e = .returned (.bool true) ∧ w'.heap[hb]? = some (.cells (intsA hs') 3)
    | none => e = .returned (.bool false)

theorem meet_cons (h : Int) (p : Nat) (ps : List Nat) (hs : List Int) : meet h (p :: ps) hs = if hs.getD p 0 = -1 then meet h ps (hs.set p h) else if hs.getD p 0 = h then meet h ps hs else none := rfl

set_option maxRecDepth 10000 in
set_option maxHeartbeats 4000000 in
theorem meet_any (c hb pb n : Nat) (h : Int) (ps : List Nat) (hs : List Int) (w : World) (hC : w.heap[c]? = some (.cells #[.slice (some ⟨hb, 0, none⟩) n n] 25)) (hH : w.heap[hb]? = some (.cells (intsA hs) 3)) (hP : w.heap[pb]? = some (.cells (intsA (natsI ps)) 3))
    (hn : hs.length = n) (hps : ∀ p, p ∈ ps → p < n) (hl : ps.length ≤ 2) (h1 : hb ≠ c) (h2 : hb ≠ pb) (h0 : 0 ≤ h) (hbig : n ≤ 1000000000000) :
    Calls Tryz.prog 78 #[.int .i64 h, .slice (some ⟨pb, 0, none⟩) ps.length ps.length, .pointer (some ⟨c, 0, none⟩)] w (MeetPost hb (meet h ps hs) w) := by
  have HC : Hid (w.heap[c]? = some (.cells #[.slice (some ⟨hb, 0, none⟩) n n] 25)) := hC
  have HH : Hid (w.heap[hb]? = some (.cells (intsA hs) 3)) := hH
  have HP : Hid (w.heap[pb]? = some (.cells (intsA (natsI ps)) 3)) := hP
  have HPS : Hid (∀ p, p ∈ ps → p < n) := hps
  have HN : Hid (hs.length = n) := hn
  obtain ⟨m, hm⟩ : ∃ m, ps.length = m := ⟨_, rfl⟩
  have HM : Hid (ps.length = m) := hm
  rw [hm] at hl ⊢
  clear hC hH hP hps hn hm
  go_enter Tryz.func78, Tryz.ntmps78
  go_wp2
  go_loopg [10] m (fun gk s10 wx => ∃ (j : Nat) (hj : List Int), s10 = .int .i64 j ∧ j ≤ m ∧ gk = m - j ∧ wx.heap[hb]? = some (.cells (intsA hj) 3) ∧ hj.length = n ∧ meet h (ps.drop j) hj = meet h ps hs ∧ w.grownBy wx (some hb))
  case atStart => exact ⟨0, hs, rfl, Nat.zero_le _, by omega, HH.out, HN.out, rfl, World.grownBy.refl _ _⟩
  case round =>
    obtain ⟨j, hj, rfl, hjm, hgk, har, hal, hme, hgr⟩ := hrel
    have HG : Hid (gk = m - j) := hgk
    have HA : Hid (wr.heap[hb]? = some (.cells (intsA hj) 3)) := har
    have HE : Hid (meet h (ps.drop j) hj = meet h ps hs) := hme
    clear hgk har hme
    by_cases hlt : j < m
    · have hjl : j < ps.length := by rw [HM.out]; exact hlt
      obtain ⟨p, hp⟩ : ∃ p, ps[j] = p := ⟨_, rfl⟩
      have hpn : p < n := HPS.out p (by rw [← hp]; exact List.getElem_mem hjl)
      have HDR : Hid (ps.drop j = p :: ps.drop (j + 1)) := (by rw [← hp]; exact List.drop_eq_getElem_cons hjl : ps.drop j = p :: ps.drop (j + 1))
      have q0 : wr.cell? ⟨pb, j, none⟩ = some (.int .i64 (p : Int)) := by
        rw [ints_get (keptBut hgr HP.out (fun e => h2 e.symm)) j (by simpa [natsI] using hjl)]
        simp [natsI, hjl, hp]
      have c0 : wr.cell? ⟨c, 0, none⟩ = some (.slice (some ⟨hb, 0, none⟩) n n) := by
        rw [at_cell (keptBut hgr HC.out (fun e => h1 e.symm))]; rfl
      have z0 := ints_get HA.out p (by omega)
      have f0 := at_frozen HA.out p
      have i1 : (0 : Int) ≤ (j : Int) := by omega
      have i2 : (j : Int) < (m : Int) := by omega
      have j1 : (0 : Int) ≤ (p : Int) := by omega
      have j2 : (p : Int) < (n : Int) := by omega
      clear hp
      obtain ⟨z, hz⟩ : ∃ z, hj.getD p 0 = z := ⟨_, rfl⟩
      rw [hz] at z0
      have HZ : Hid (hj.getD p 0 = z) := hz
      have HMC : Hid (meet h ps hs = if z = -1 then meet h (ps.drop (j + 1)) (hj.set p h) else if z = h then meet h (ps.drop (j + 1)) hj else none) := (by rw [← HE.out, HDR.out, meet_cons, hz] : meet h ps hs = if z = -1 then meet h (ps.drop (j + 1)) (hj.set p h) else if z = h then meet h (ps.drop (j + 1)) hj else none)
      clear hz
      by_cases hm1 : z = -1
      · subst hm1
        have HF : Hid (meet h (ps.drop (j + 1)) (hj.set p h) = meet h ps hs) := (by rw [HMC.out, if_pos rfl] : meet h (ps.drop (j + 1)) (hj.set p h) = meet h ps hs)
        go_wp2
        have hgl := HG.out
        go_roundg (m - (j + 1))
        all_goals first | omega | exact ⟨j + 1, hj.set p h, by go_num, by omega, by omega, by rw [at_set HA.out, intsA_set], by simp [hal], HF.out, gr_set hgr _ _⟩
      · have e1 : (z == -1) = false := by simpa using hm1
        by_cases hzh : z = h
        · subst hzh
          have HF : Hid (meet z (ps.drop (j + 1)) hj = meet z ps hs) := (by rw [HMC.out, if_neg hm1, if_pos rfl] : meet z (ps.drop (j + 1)) hj = meet z ps hs)
          go_wp2
          have hgl := HG.out
          go_roundg (m - (j + 1))
          all_goals first | omega | exact ⟨j + 1, hj, by go_num, by omega, by omega, HA.out, hal, HF.out, hgr⟩
        · have e2 : (z == h) = false := by simpa using hzh
          have HF : Hid (meet h ps hs = none) := (by rw [HMC.out, if_neg hm1, if_neg hzh] : meet h ps hs = none)
          go_wp2
          go_ret
          exact ⟨hgr, by rw [HF.out]; exact rfl⟩
    · have hj' : ¬ ((j : Int) < (m : Int)) := by omega
      have hjm2 : j = m := by omega
      have HF : Hid (meet h ps hs = some hj) := (by rw [← HE.out, List.drop_eq_nil_of_le (by rw [HM.out]; omega)]; rfl : meet h ps hs = some hj)
      go_wp2
      go_ret
      exact ⟨hgr, by rw [HF.out]; exact ⟨rfl, HA.out⟩⟩
end Go.Proofs.YtcgbfhpmkpglkaaGreatDoor

/- mayStack. -/
namespace Go.Proofs.YtcgbfhpmkpglkaaGreatDoor
open Go.RowKit
attribute [local go_sem ↓] Go.wp_at_zero Go.wp_at_succ
set_option linter.unusedVariables false
set_option linter.unusedSimpArgs false

def tkN (t : List Ins) (i : Nat) : Int := tkS (nth t i)
def gvN (t : List Ins) (i : Nat) : Int := gvS (nth t i)
theorem opers_bd (x : Ins) : 1 ≤ opersS x ∧ opersS x ≤ 2 := by unfold opersS; split <;> omega
theorem tkS_bd (x : Ins) : 0 ≤ tkS x ∧ tkS x ≤ 3 := by
  have := opers_bd x
  unfold tkS; repeat' split
  all_goals omega
theorem gvS_bd (x : Ins) : 0 ≤ gvS x ∧ gvS x ≤ 2 := by
  unfold gvS; repeat' split
  all_goals omega
/-- Jumps lie within the text. -/
def WayOk (t : List Ins) : Prop := ∀ i, i < t.length → (((nth t i).d = 11 ∨ (nth t i).d = 12) → (i : Int) < (nth t i).a ∧ (nth t i).a ≤ t.length) ∧ ((nth t i).d = 14 → 1 ≤ (nth t i).b ∧ (nth t i).b ≤ (i : Int))
theorem way_nats (t : List Ins) (i : Nat) (hi : i < t.length) (h : WayOk t) : natsI (ways t i) = wayS i (nth t i) ∧ ∀ p, p ∈ ways t i → p < t.length + 1 := by
  obtain ⟨h1, h2⟩ := h i hi
  unfold ways wayS natsI
  by_cases e11 : (nth t i).d = 11
  · have := h1 (.inl e11)
    rw [if_pos e11, if_pos e11]
    refine ⟨by simp; omega, fun p hp => ?_⟩
    simp at hp; omega
  rw [if_neg e11, if_neg e11]
  by_cases e12 : (nth t i).d = 12
  · have := h1 (.inr e12)
    rw [if_pos e12, if_pos e12]
    refine ⟨by simp; omega, fun p hp => ?_⟩
    simp at hp; omega
  rw [if_neg e12, if_neg e12]
  by_cases e14 : (nth t i).d = 14
  · have := h2 e14
    rw [if_pos e14, if_pos e14]
    refine ⟨by simp; omega, fun p hp => ?_⟩
    simp at hp; omega
  rw [if_neg e14, if_neg e14]
  refine ⟨by simp, fun p hp => ?_⟩
  simp at hp; omega
theorem ways_len (t : List Ins) (i : Nat) : (ways t i).length ≤ 2 := by
  unfold ways; repeat' split
  all_goals simp

theorem hgt_le {t : List Ins} {i : Nat} {hs : List Int} (he : hgt t (tkN t) (gvN t) i = some hs) : ∀ p : Nat, (hs[p]?).getD 0 ≤ 1000 := by
  induction i generalizing hs with
  | zero =>
    simp only [hgt, Option.some.injEq] at he
    subst he
    intro p
    cases p with
    | zero => simp
    | succ p =>
      simp only [List.getElem?_cons_succ, List.getElem?_replicate]
      split <;> simp
  | succ i ih =>
    simp only [hgt] at he
    cases h1 : hgt t (tkN t) (gvN t) i with
    | none => rw [h1] at he; simp at he
    | some hs1 =>
      rw [h1] at he
      simp only [Option.bind_some] at he
      split at he
      · rw [← Option.some.inj he]; exact ih h1
      · split at he
        · simp at he
        · rename_i hc
          have hle : (hs1[i]?).getD 0 - tkN t i + gvN t i ≤ 1000 := by omega
          generalize (hs1[i]?).getD 0 - tkN t i + gvN t i = h at *
          have key : ∀ (ps : List Nat) (a b : List Int), (∀ p : Nat, (a[p]?).getD 0 ≤ 1000) → meet h ps a = some b → ∀ p : Nat, (b[p]?).getD 0 ≤ 1000 := by
            intro ps
            induction ps with
            | nil => intro a b ha hm; simp only [meet, Option.some.injEq] at hm; rw [← hm]; exact ha
            | cons q ps ihq =>
              intro a b ha hm
              simp only [meet] at hm
              split at hm
              · refine ihq _ b (fun p => ?_) hm
                rw [List.getElem?_set]
                split
                · split
                  · simpa using hle
                  · simp
                · exact ha p
              · split at hm
                · exact ihq _ b ha hm
                · simp at hm
          exact key _ _ _ (ih h1) he

def minus (n j : Nat) (l : List Int) : Prop := l.length = n ∧ (∀ i, i < j → l.getD i 0 = -1) ∧ ∀ i, j ≤ i → i < n → l.getD i 0 = 0
theorem minus_set {n j : Nat} {l : List Int} (h : minus n j l) (hj : j < n) : minus n (j + 1) (l.set j (-1)) := by
  obtain ⟨h1, h2, h3⟩ := h
  refine ⟨by simp [h1], fun i hi => ?_, fun i hi hin => ?_⟩
  · by_cases e : i = j
    · subst e; simp [List.getD, List.getElem?_set, h1, hj]
    · have := h2 i (by omega)
      simp only [List.getD, List.getElem?_set] at *
      rw [if_neg (fun e' => e e'.symm)]; exact this
  · have := h3 i (by omega) hin
    simp only [List.getD, List.getElem?_set] at *
    rw [if_neg (by omega)]; exact this
theorem minus_all {n : Nat} {l : List Int} (h : minus (n + 1) (n + 1) l) : l.set 0 0 = 0 :: List.replicate n (-1) := by
  obtain ⟨h1, h2, _⟩ := h
  apply List.ext_getElem
  · simp [h1]
  · intro i a b
    have hi : i < n + 1 := by simpa [h1] using a
    cases i with
    | zero => simp
    | succ i =>
      have := h2 (i + 1) hi
      have hl : i + 1 < l.length := by omega
      simp [List.getD, hl] at this
      simp [this]
end Go.Proofs.YtcgbfhpmkpglkaaGreatDoor

/- mayStack: the walk. -/
namespace Go.Proofs.YtcgbfhpmkpglkaaGreatDoor
open Go.RowKit
attribute [local go_sem ↓] Go.wp_at_zero Go.wp_at_succ
set_option linter.unusedVariables false
set_option linter.unusedSimpArgs false

def StackOk (t : List Ins) : Prop := ∃ hs, hgt t (tkN t) (gvN t) t.length = some hs ∧ hs.getD t.length 0 = 0

theorem hgt_none_up {t : List Ins} {tk gv : Nat → Int} {k : Nat} (m : Nat) (h : hgt t tk gv k = none) : hgt t tk gv (k + m) = none := by
  induction m with
  | zero => exact h
  | succ m ih => show hgt t tk gv (k + m + 1) = none; simp only [hgt, ih]; rfl

set_option maxRecDepth 10000 in
set_option maxHeartbeats 4000000 in
theorem mayStack_any (o : Nat) (t : List Ins) (w : World) (hO : OvT w o t) (hl : t.length ≤ 100000) (hW : WayOk t) :
    Calls Tryz.prog 59 #[.pointer (some ⟨o, 0, none⟩)] w (BoolOf (StackOk t) w) := by
  obtain ⟨pb, po, tv, h1, h2, ta, tcap, rfl, hT⟩ := hO
  have HT : Hid (t = [] ∨ ∃ b off, ta = some ⟨b, off, none⟩ ∧ ∀ i, i < t.length →
    w.cell? ⟨b, off + i * 4, none⟩ = some (.int .i64 (nth t i).d) ∧ w.cell? ⟨b, off + i * 4 + 1, none⟩ = some (.int .i64 (nth t i).a) ∧
    w.cell? ⟨b, off + i * 4 + 2, none⟩ = some (.int .i64 (nth t i).b) ∧ w.cell? ⟨b, off + i * 4 + 3, none⟩ = some (.int .i64 (nth t i).c)) := hT
  have HW : Hid (WayOk t) := hW
  clear hT hW
  obtain ⟨n, hn⟩ : ∃ n, t.length = n := ⟨_, rfl⟩
  have HN : Hid (t.length = n) := hn
  rw [hn] at hl h2
  have ew : wrap64 ((n : Int) + 1) = (n : Int) + 1 := by unfold wrap64; omega
  have hmk : ∀ w : World, (Instr.makeSlice 25 (.int .i64 ((n : Int) + 1)) (.int .i64 ((n : Int) + 1))).run Tryz.prog w = .ok (.slice (some ⟨w.heap.size, 0, none⟩) (n + 1) (n + 1)) (w.alloc (.cells (intsA (List.replicate (n + 1) 0)) 3)) := fun w => by
    have := make_ints (n + 1) (by omega) w
    simpa using this
  clear hn
  obtain ⟨H, hH⟩ : ∃ H, w.heap.size = H := ⟨_, rfl⟩
  go_enter Tryz.func59, Tryz.ntmps59
  go_wp2
  clear hmk
  go_loopg [25] (n + 1) (fun gk s25 wx => ∃ (j : Nat) (l : List Int), s25 = .int .i64 j ∧ j ≤ n + 1 ∧ gk = n + 1 - j ∧ wx.heap[H]? = some (.cells (intsA l) 3) ∧ minus (n + 1) j l ∧ wx.heap[H + 1]? = some (.cells #[.slice (some ⟨H, 0, none⟩) (n + 1) (n + 1)] 25) ∧ w.grownBy wx none)
  case atStart => 
    refine ⟨0, _, rfl, Nat.zero_le _, by omega, (hp_old (by simp [hH]) _).trans (hp_new hH.symm _), ⟨by simp, fun i hi => by omega, fun i _ hi => by simp [List.getD, hi]⟩, hp_new (by simp [hH]) _, gr_alloc (gr1 _ _) _⟩
  case round =>
    obtain ⟨j, l, rfl, hj, hgk, har, hmi, hcc, hgr⟩ := hrel
    have HG : Hid (gk = n + 1 - j) := hgk
    have HA : Hid (wr.heap[H]? = some (.cells (intsA l) 3)) := har
    have HC : Hid (wr.heap[H + 1]? = some (.cells #[.slice (some ⟨H, 0, none⟩) (n + 1) (n + 1)] 25)) := hcc
    have HM : Hid (minus (n + 1) j l) := hmi
    clear hgk har hmi hcc
    have c0 : wr.cell? ⟨H + 1, 0, none⟩ = some (.slice (some ⟨H, 0, none⟩) (n + 1) (n + 1)) := by rw [at_cell HC.out]; rfl
    by_cases hlt : j < n + 1
    · have z0 := ints_get HA.out j (by rw [HM.out.1]; exact hlt)
      have f0 := at_frozen HA.out j
      have i1 : (0 : Int) ≤ (j : Int) := by omega
      have i2 : (j : Int) < (n : Int) + 1 := by omega
      have i3 : (j : Int) < ((n + 1 : Nat) : Int) := by omega
      go_wp2
      have hgl := HG.out
      go_roundg (n + 1 - (j + 1))
      all_goals first | omega | exact ⟨j + 1, l.set j (-1), by go_num, by omega, by omega, by rw [at_set HA.out, intsA_set], minus_set HM.out hlt, (Below.heap_setCell _ _ _ _ (by simp)).trans HC.out, gr_own hgr (by omega) _ _⟩
    · have hj' : ¬ ((j : Int) < (n : Int) + 1) := by omega
      have hj'' : ¬ ((j : Int) < ((n + 1 : Nat) : Int)) := by omega
      have hjn : j = n + 1 := by omega
      subst hjn
      have z0 := ints_get HA.out 0 (by rw [HM.out.1]; omega)
      have f0 := at_frozen HA.out 0
      have i2 : (0 : Int) < (n : Int) + 1 := by omega
      have HA1 : Hid ((wr.setCell ⟨H, 0, none⟩ (.int .i64 0)).heap[H]? = some (.cells (intsA (0 :: List.replicate n (-1))) 3)) := (by rw [at_set HA.out, intsA_set, minus_all HM.out] : (wr.setCell ⟨H, 0, none⟩ (.int .i64 0)).heap[H]? = some (.cells (intsA (0 :: List.replicate n (-1))) 3))
      clear HG
      go_wp2
      go_loopg [37] n (fun gk s37 wx => ∃ (k : Nat) (hs : List Int), s37 = .int .i64 k ∧ k ≤ n ∧ gk = n - k ∧ wx.heap[H]? = some (.cells (intsA hs) 3) ∧ hgt t (tkN t) (gvN t) k = some hs ∧ wx.heap[H + 1]? = some (.cells #[.slice (some ⟨H, 0, none⟩) (n + 1) (n + 1)] 25) ∧ w.grownBy wx none)
      case atStart => exact ⟨0, _, rfl, Nat.zero_le _, by omega, HA1.out, by rw [← HN.out]; rfl, (Below.heap_setCell _ _ _ _ (by simp)).trans HC.out, gr_own hgr (by omega) _ _⟩
      case round =>
        obtain ⟨k, hs, rfl, hk, hgk, har, hhg, hcc, hgr2⟩ := hrel
        have HG : Hid (_ = n - k) := hgk
        have HA2 : Hid (wr.heap[H]? = some (.cells (intsA hs) 3)) := har
        have HC2 : Hid (wr.heap[H + 1]? = some (.cells #[.slice (some ⟨H, 0, none⟩) (n + 1) (n + 1)] 25)) := hcc
        have HH : Hid (hgt t (tkN t) (gvN t) k = some hs) := hhg
        have HLN : Hid (hs.length = n + 1) := (by rw [hgt_len hhg, HN.out] : hs.length = n + 1)
        clear hgk har hcc hhg z0 f0 c0 hgr
        have c0 : wr.cell? ⟨H + 1, 0, none⟩ = some (.slice (some ⟨H, 0, none⟩) (n + 1) (n + 1)) := by rw [at_cell HC2.out]; rfl
        by_cases hlt : k < n
        · have hkl : k < t.length := by rw [HN.out]; exact hlt
          rcases HT.out with h | ⟨b', off, rfl, hc⟩
          · subst h; simp at hkl
          obtain ⟨q0, q1, q2, q3⟩ := hc k hkl
          have q0 := hgr2.cell q0 (by simp)
          have q1 := hgr2.cell q1 (by simp)
          have q2 := hgr2.cell q2 (by simp)
          have q3 := hgr2.cell q3 (by simp)
          clear hc
          have i1 : (0 : Int) ≤ (k : Int) := by omega
          have i2 : (k : Int) < (n : Int) := by omega
          have i3 : (k : Int) < ((n + 1 : Nat) : Int) := by omega
          have i4 : (k : Int) < (n : Int) + 1 := by omega
          have z0 := ints_get HA2.out k (by rw [HLN.out]; omega)
          have hzl := hgt_le HH.out k
          have hzg := hgt_ge (fun i => (gvS_bd (nth t i)).1) HH.out k
          have hstep : hgt t (tkN t) (gvN t) (k + 1) = if hs.getD k 0 = -1 then some hs else if hs.getD k 0 < tkN t k ∨ 1000 < hs.getD k 0 - tkN t k + gvN t k then none else meet (hs.getD k 0 - tkN t k + gvN t k) (ways t k) hs := by
            show (hgt t (tkN t) (gvN t) k).bind _ = _
            rw [HH.out]
            rfl
          obtain ⟨wn1, wn2⟩ := way_nats t k hkl HW.out
          have htk := tkS_bd (nth t k)
          have hgv := gvS_bd (nth t k)
          have wl := ways_len t k
          rw [show tkN t k = tkS (nth t k) from rfl, show gvN t k = gvS (nth t k) from rfl] at hstep
          change (hs.getD k 0) ≤ 1000 at hzl
          change -1 ≤ (hs.getD k 0) at hzg
          obtain ⟨z, hz⟩ : ∃ z, hs.getD k 0 = z := ⟨_, rfl⟩
          rw [hz] at z0 hzl hzg hstep
          have cE : ∀ w, Calls Tryz.prog 79 #[insV (nth t k)] w fun e w' => e = .returned (.tuple #[.int .i64 (tkS (nth t k)), .int .i64 (gvS (nth t k))]) ∧ w.grownBy w' none := effect_any (nth t k)
          have cW : ∀ w, Calls Tryz.prog 80 #[.int .i64 k, insV (nth t k)] w (FreshInts w (wayS k (nth t k))) := fun w => ways_any k (nth t k) w (by omega) (by omega)
          rw [← wn1] at cW
          unfold insV at cE cW
          clear wn1
          generalize tkS (nth t k) = tk at *
          generalize gvS (nth t k) = gv at *
          generalize (nth t k).d = d at *
          generalize (nth t k).a = a at *
          generalize (nth t k).b = b at *
          generalize (nth t k).c = c at *
          have Z0 : ∀ ob, (wr.alloc ob).cell? ⟨H, k, none⟩ = some (.int .i64 z) := fun ob => (gr1 wr ob).cell z0 (by simp)
          have C0 : ∀ ob, (wr.alloc ob).cell? ⟨H + 1, 0, none⟩ = some (.slice (some ⟨H, 0, none⟩) (n + 1) (n + 1)) := fun ob => (gr1 wr ob).cell c0 (by simp)
          clear z0 c0 hz
          have HST : Hid (_ = _) := hstep
          have HWN : Hid (∀ p, p ∈ ways t k → p < t.length + 1) := wn2
          clear hstep wn2
          by_cases hm1 : z = -1
          · subst hm1
            have HS1 : Hid (hgt t (tkN t) (gvN t) (k + 1) = some hs) := (by rw [HST.out, if_pos rfl] : hgt t (tkN t) (gvN t) (k + 1) = some hs)
            clear HST
            go_wp2
            have hgl := HG.out
            go_roundg (n - (k + 1))
            all_goals first | omega | exact ⟨k + 1, hs, by go_num, by omega, by omega, (hp_old (at_lt HA2.out) _).trans HA2.out, HS1.out, (hp_old (at_lt HC2.out) _).trans HC2.out, gr_alloc hgr2 _⟩
          · have e1 : (z == -1) = false := by simpa using hm1
            go_wp2_with fail
            refine (cE _).mono ?_
            rintro e w1 ⟨rfl, hg1⟩
            have hX := kept hg1 (heap_alloc_new wr _)
            have x0 := at_cell hX 0
            have x1 := at_cell hX 1
            have x2 := at_cell hX 2
            have x3 := at_cell hX 3
            simp at x0 x1 x2 x3
            have HA3 : Hid (w1.heap[H]? = some (.cells (intsA hs) 3)) := kept hg1 ((hp_old (at_lt HA2.out) _).trans HA2.out)
            have HC3 : Hid (w1.heap[H + 1]? = some (.cells #[.slice (some ⟨H, 0, none⟩) (n + 1) (n + 1)] 25)) := kept hg1 ((hp_old (at_lt HC2.out) _).trans HC2.out)
            have z1 := hg1.cell (Z0 _) (by simp)
            have c1 := hg1.cell (C0 _) (by simp)
            have hgw : w.grownBy w1 none := (gr_alloc hgr2 _).trans hg1
            have a1 : wrap64 (z - tk) = z - tk := by unfold wrap64; omega
            have a2 : wrap64 (z - tk + gv) = z - tk + gv := by unfold wrap64; omega
            have HBad : Hid (hgt t (tkN t) (gvN t) (k + 1) = none → ¬ StackOk t) := fun hnone ⟨hs', hh, _⟩ => by
              have := hgt_none_up (t.length - (k + 1)) hnone
              rw [show k + 1 + (t.length - (k + 1)) = t.length by omega, hh] at this
              simp at this
            clear hX Z0 C0 cE hg1
            by_cases hlow : z < tk
            · have HX : Hid (¬ StackOk t) := HBad.out (by rw [HST.out, if_neg hm1, if_pos (.inl hlow)])
              go_wp2_with fail
              go_ret
              exact ⟨false, rfl, by simpa using HX.out, hgw⟩
            · by_cases hhigh : 1000 < z - tk + gv
              · have HX : Hid (¬ StackOk t) := HBad.out (by rw [HST.out, if_neg hm1, if_pos (.inr hhigh)])
                go_wp2_with fail
                go_ret
                exact ⟨false, rfl, by simpa using HX.out, hgw⟩
              · have HME : Hid (hgt t (tkN t) (gvN t) (k + 1) = meet (z - tk + gv) (ways t k) hs) := (by rw [HST.out, if_neg hm1, if_neg (by omega)] : hgt t (tkN t) (gvN t) (k + 1) = meet (z - tk + gv) (ways t k) hs)
                go_wp2_with fail
                refine (cW _).mono ?_
                rintro e w2 ⟨pl, rfl, hp1, hp2, hg2⟩
                have hnl : (natsI (ways t k)).length = (ways t k).length := by simp [natsI]
                rw [hnl]
                have hlt1 := at_lt HA3.out
                have hlt2 := at_lt HC3.out
                have cM := meet_any (H + 1) H pl (n + 1) (z - tk + gv) (ways t k) hs w2 (kept hg2 HC3.out) (kept hg2 HA3.out) hp2 HLN.out (fun p hp => by have := HWN.out p hp; rw [HN.out] at this; exact this) wl (by omega) (by omega) (by omega) (by omega)
                clear hnl hp2 cW
                go_wp2_with fail
                refine cM.mono ?_
                rintro e w3 ⟨hg3, hm3⟩
                have HG3 : Hid (w.grownBy w3 none) := grown_join (hgw.trans hg2) hg3 (.inr fun x hx => by simp at hx; omega)
                have HC4 : Hid (w3.heap[H + 1]? = some (.cells #[.slice (some ⟨H, 0, none⟩) (n + 1) (n + 1)] 25)) := keptBut hg3 (kept hg2 HC3.out) (by omega)
                clear cM
                cases hmm : meet (z - tk + gv) (ways t k) hs with
                | none =>
                  rw [hmm] at hm3
                  have hm4 : e = .returned (.bool false) := hm3
                  subst hm4
                  have HX : Hid (¬ StackOk t) := HBad.out (by rw [HME.out, hmm])
                  go_wp2_with fail
                  go_ret
                  exact ⟨false, rfl, by simpa using HX.out, HG3.out⟩
                | some hs' =>
                  rw [hmm] at hm3
                  obtain ⟨hm4, hm5⟩ := hm3
                  subst hm4
                  have HA5 : Hid (w3.heap[H]? = some (.cells (intsA hs') 3)) := hm5
                  have HH5 : Hid (hgt t (tkN t) (gvN t) (k + 1) = some hs') := (by rw [HME.out, hmm] : hgt t (tkN t) (gvN t) (k + 1) = some hs')
                  clear hm5 hmm
                  go_wp2_with fail
                  have hgl := HG.out
                  go_roundg (n - (k + 1))
                  all_goals first | omega | exact ⟨k + 1, hs', by go_num, by omega, by omega, HA5.out, HH5.out, HC4.out, HG3.out⟩
        · have hk' : ¬ ((k : Int) < (n : Int)) := by omega
          have hkn : k = n := by omega
          subst hkn
          have z0 := ints_get HA2.out k (by rw [HLN.out]; omega)
          have i3 : (k : Int) < ((k + 1 : Nat) : Int) := by omega
          have i4 : (k : Int) < (k : Int) + 1 := by omega
          have i1 : (0 : Int) ≤ (k : Int) := by omega
          have HX : Hid (StackOk t ↔ hs.getD k 0 = 0) := ⟨fun ⟨hs', hh, h0⟩ => by
              rw [HN.out, HH.out] at hh
              rw [Option.some.inj hh, ← HN.out]; exact h0, fun h0 => ⟨hs, by rw [HN.out]; exact HH.out, by rw [HN.out]; exact h0⟩⟩
          generalize hs.getD k 0 = z at *
          go_wp2
          go_ret
          exact ⟨_, rfl, by rw [HX.out]; simp, hgr2⟩
end Go.Proofs.YtcgbfhpmkpglkaaGreatDoor

/- Plain facts: the document's sum of steps, as far as it is reckoned. -/
namespace Go.Proofs.YtcgbfhpmkpglkaaGreatDoor
set_option linter.unusedVariables false

theorem mulR_bd {t : List Ins} (hB : Bs t) (k e : Nat) (he : isE t e = true) (n : Int) (h1 : 1 ≤ n) (h2 : n ≤ 10000000000000) : 1 ≤ mulR t k n e ∧ mulR t k n e ≤ 10000000000000 := by
  unfold mulR
  split
  · rename_i hc
    simp only [Bool.and_eq_true, decide_eq_true_eq] at hc
    have hb := hB e he
    refine ⟨(mul_ge h1 hb.1).1, ?_⟩
    have h3 : n * (nth t e).b ≤ 1000000000 * (nth t e).b := Int.mul_le_mul_of_nonneg_right hc.2 (by omega)
    have h4 : (1000000000 : Int) * (nth t e).b ≤ 1000000000 * 10000 := Int.mul_le_mul_of_nonneg_left hb.2 (by omega)
    omega
  · exact ⟨h1, h2⟩
/-- So many steps, behind the first j loops. -/
def refJ (t : List Ins) (k : Nat) (n : Int) (j : Nat) : Int := ((ents t t.length).take j).foldl (mulR t k) n
theorem refJ_zero (t : List Ins) (k : Nat) (n : Int) : refJ t k n 0 = n := by simp [refJ]
theorem refJ_succ (t : List Ins) (k : Nat) (n : Int) (j : Nat) (hj : j < (ents t t.length).length) : refJ t k n (j + 1) = mulR t k (refJ t k n j) (ents t t.length)[j] := by
  unfold refJ
  rw [List.take_add_one, List.foldl_append]
  simp [hj]
theorem refJ_all (t : List Ins) (k : Nat) (n : Int) : refJ t k n (ents t t.length).length = refN t k n t.length := by
  unfold refJ refN
  rw [List.take_length]
  rfl
theorem refJ_bd {t : List Ins} (hB : Bs t) (k : Nat) (n : Int) (h1 : 1 ≤ n) (h2 : n ≤ 1000000001) (j : Nat) (hj : j ≤ (ents t t.length).length) : 1 ≤ refJ t k n j ∧ refJ t k n j ≤ 10000000000000 := by
  induction j with
  | zero => rw [refJ_zero]; omega
  | succ j ih =>
    rw [refJ_succ t k n j (by omega)]
    have := ih (by omega)
    exact mulR_bd hB k _ (mem_ents.1 (List.getElem_mem (by omega))).2 _ this.1 this.2
/-- Is k within the loop that begins behind e? -/
theorem inL_loop {t : List Ins} {e k : Nat} (he : isE t e = true) : inL t (e + 1) k = (decide (((e + 1 : Nat) : Int) ≤ (k : Int)) && decide ((k : Int) ≤ ((rnd t (e + 1) : Nat) : Int))) := by
  rw [Bool.eq_iff_iff, inL_iff]
  simp [he]
  omega

theorem sumP_stop {t : List Ins} (hB : Bs t) (s : Nat → Int) (hs : ∀ k, 1 ≤ s k) (k m : Nat) (hk : k < t.length) (hkm : k + 1 ≤ m) (hs2 : s k ≤ 1000000001) (h1 : sumP t s k ≤ 1000000000) (h2 : 1000000000 < sumP t s k + refN t k (s k) t.length) : sumP t s m = top1 := by
  have e := sumP_step hB s k hk (hs k) hs2 (sumP_bd hB s hs k).1 h1
  rw [if_neg (by omega)] at e
  obtain ⟨d, rfl⟩ : ∃ d, m = k + 1 + d := ⟨m - (k + 1), by omega⟩
  exact sumP_top hB s hs (k + 1) d e
theorem sumP_next {t : List Ins} (hB : Bs t) (s : Nat → Int) (hs : ∀ k, 1 ≤ s k) (k : Nat) (hk : k < t.length) (hs2 : s k ≤ 1000000001) (h1 : sumP t s k ≤ 1000000000) (h2 : sumP t s k + refN t k (s k) t.length ≤ 1000000000) : sumP t s (k + 1) = sumP t s k + refN t k (s k) t.length := by
  have e := sumP_step hB s k hk (hs k) hs2 (sumP_bd hB s hs k).1 h1
  rw [if_pos h2] at e
  exact e

/-- The counter of an Enter that nothing else has, of those that are right. -/
theorem lp_find {t : List Ins} {e : Nat} : ¬ (rnd t (e + 1) < t.length ∧ e + 1 ≤ rnd t (e + 1) ∧ (nth t (rnd t (e + 1))).a = (nth t e).a) → isE t e = true → ¬ LpOk t := fun h he hl => h (hl.enters e he)
end Go.Proofs.YtcgbfhpmkpglkaaGreatDoor

/- mayLoops, mayBe, lookOver: what the program says of one unit. -/
namespace Go.Proofs.YtcgbfhpmkpglkaaGreatDoor
open Go.RowKit
attribute [local go_sem ↓] Go.wp_at_zero Go.wp_at_succ
set_option linter.unusedVariables false
set_option linter.unusedSimpArgs false

/-- What the program asks of a text, one instruction at a time. -/
def AllMay (l : List (Int × Nat)) (fn : Nat) (t : List Ins) : Prop := ∀ i, i < t.length → mayS l fn t.length i (nth t i) = true
theorem may_fields {l : List (Int × Nat)} {fn : Nat} {t : List Ins} (h : AllMay l fn t) (i : Nat) (hi : i < t.length) : fieldsS l fn t.length i (nth t i) = true := by
  have := h i hi
  simp only [mayS, Bool.and_eq_true] at this
  exact this.2
theorem may_fwd {l : List (Int × Nat)} {fn : Nat} {t : List Ins} (h : AllMay l fn t) : Fwd t := by
  intro i hi hd
  have := may_fields h i hi
  rcases hd with hd | hd <;> (simp [fieldsS, hd, isW] at this; omega)
theorem may_bs {l : List (Int × Nat)} {fn : Nat} {t : List Ins} (h : AllMay l fn t) : Bs t := by
  intro i he
  have hd : (nth t i).d = 13 := by simpa [isE] using he
  have := may_fields h i (isE_lt he)
  simp [fieldsS, hd, isW] at this
  omega
theorem may_cnt {l : List (Int × Nat)} {fn : Nat} {t : List Ins} (h : AllMay l fn t) : ∀ i, isE t i = true → 0 ≤ (nth t i).a ∧ (nth t i).a < 40 := by
  intro i he
  have hd : (nth t i).d = 13 := by simpa [isE] using he
  have := may_fields h i (isE_lt he)
  simp [fieldsS, hd, isW] at this
  omega
theorem may_ways {l : List (Int × Nat)} {fn : Nat} {t : List Ins} (h : AllMay l fn t) (hr : RdOk t) : WayOk t := by
  intro i hi
  refine ⟨may_fwd h i hi, fun hd => ?_⟩
  have := hr.rounds i (by simp [isR, hd])
  exact ⟨this.1, this.2.1⟩
theorem may_run {l : List (Int × Nat)} {fn : Nat} {t : List Ins} (h : AllMay l fn t) (i : Nat) (hi : i < t.length) (hd : (nth t i).d = 17) : 0 ≤ (nth t i).a ∧ (nth t i).a < l.length := by
  have := may_fields h i hi
  simp [fieldsS, hd, callS, isW] at this
  omega
theorem may_steps {l : List (Int × Nat)} {fn : Nat} {t : List Ins} {bds : List Int} (h : AllMay l fn t) (hf : fn ≤ 20000) (hb : ∀ b, b ∈ bds → 0 ≤ b ∧ b ≤ 1000000000) (hl : bds.length = l.length) (i : Nat) (hi : i < t.length) : 1 ≤ stepS bds (nth t i) ∧ stepS bds (nth t i) ≤ 1000000001 := by
  unfold stepS
  split
  · rename_i hd
    have := may_fields h i hi
    simp [fieldsS, hd, hasW] at this
    omega
  · split
    · rename_i hd
      have := may_run h i hi hd
      have hm : bds.getD (nth t i).a.toNat 0 ∈ bds := by
        have hlt : (nth t i).a.toNat < bds.length := by omega
        rw [List.getD, List.getElem?_eq_getElem hlt, Option.getD_some]
        exact List.getElem_mem hlt
      have := hb _ hm
      omega
    · omega

/-- What the program asks of a unit. -/
structure ProgOk (l : List (Int × Nat)) (kd : Int) (fn : Nat) (t : List Ins) : Prop where
  kind : 1 ≤ kd ∧ kd ≤ 3
  frame : fn ≤ 20000
  len : t.length ≤ 100000
  may : AllMay l fn t
  rds : RdOk t
  nest : nst t t.length ≠ none
  jumps : JumpsOk t (begK t t.length)
  stack : StackOk t

/-- A unit that lies ahead of what was made since: its cells, and what the one who looks it over has. -/
structure UnAt (w0 : World) (o : Nat) (l : List (Int × Nat)) (kd : Int) (fn : Nat) (t : List Ins) (av bv : Value) (pb po : Nat) (tv : Value) : Prop where
  ahead : AhAt w0 av l
  kind : w0.cell? ⟨pb, po, none⟩ = some (.int .i64 kd)
  frame : ∃ fa fc, w0.cell? ⟨pb, po + 2, none⟩ = some (.slice fa fn fc)
  text : w0.cell? ⟨pb, po + 4, none⟩ = some tv
  lies : TxtAt w0 tv t
  fresh : w0.heap.size ≤ o

def OvBlk (w : World) (o : Nat) (av bv : Value) (pb po : Nat) : Prop := ∃ s3 s4, w.heap[o]? = some (.cells #[av, bv, .pointer (some ⟨pb, po, none⟩), s3, s4] 87)
theorem ovT_of {w0 w : World} {o : Nat} {l : List (Int × Nat)} {kd : Int} {fn : Nat} {t : List Ins} {av bv : Value} {pb po : Nat} {tv : Value} (h : UnAt w0 o l kd fn t av bv pb po tv) (hg : w0.grownBy w none) (hb : OvBlk w o av bv pb po) : OvT w o t := by
  obtain ⟨s3, s4, hb⟩ := hb
  refine ⟨pb, po, tv, ?_, hg.cell h.text (by simp), h.lies.grown hg⟩
  rw [at_cell hb]; rfl
theorem ov_of {w0 w : World} {o : Nat} {l : List (Int × Nat)} {kd : Int} {fn : Nat} {t : List Ins} {av bv : Value} {pb po : Nat} {tv : Value} (h : UnAt w0 o l kd fn t av bv pb po tv) (hg : w0.grownBy w none) (hb : OvBlk w o av bv pb po) : Ov w o l fn t.length := by
  obtain ⟨s3, s4, hb⟩ := hb
  obtain ⟨fa, fc, hf⟩ := h.frame
  obtain ⟨ta, tc, rfl, _⟩ := h.lies
  refine ⟨⟨av, ?_, h.ahead.grown hg⟩, pb, po, fa, fc, ta, tc, ?_, hg.cell hf (by simp), hg.cell h.text (by simp)⟩
  · rw [at_cell hb]; rfl
  · rw [at_cell hb]; rfl

/-- Behind a look that found nothing wrong the lists lie there. -/
def Laid (w' : World) (o : Nat) (t : List Ins) (av bv : Value) (pb po : Nat) : Prop := ∃ bb tb, w'.heap[o]? = some (.cells #[av, bv, .pointer (some ⟨pb, po, none⟩), .slice (some ⟨bb, 0, none⟩) (t.length + 1) (t.length + 1), .slice (some ⟨tb, 0, none⟩) t.length t.length] 87) ∧ w'.heap[bb]? = some (.cells (intsA (begK t t.length)) 3) ∧ w'.heap[tb]? = some (.cells (intsA (timK t t.length)) 3)
theorem Laid.grown {w w' : World} {o : Nat} {t : List Ins} {av bv : Value} {pb po : Nat} (h : Laid w o t av bv pb po) (hg : w.grownBy w' none) : Laid w' o t av bv pb po := by
  obtain ⟨bb, tb, h1, h2, h3⟩ := h
  exact ⟨bb, tb, kept hg h1, kept hg h2, kept hg h3⟩
theorem Laid.blk {w : World} {o : Nat} {t : List Ins} {av bv : Value} {pb po : Nat} (h : Laid w o t av bv pb po) : OvBlk w o av bv pb po := by
  obtain ⟨bb, tb, h1, _⟩ := h
  exact ⟨_, _, h1⟩

def LookPost (w0 : World) (p : Prop) (o : Nat) (t : List Ins) (av bv : Value) (pb po : Nat) (e : Ending) (w' : World) : Prop :=
  ∃ r : Bool, e = .returned (.bool r) ∧ (r = true ↔ p) ∧ w0.grownBy w' none ∧ (r = true → Laid w' o t av bv pb po)

set_option maxHeartbeats 1000000 in
theorem mayLoops_any (o : Nat) (l : List (Int × Nat)) (kd : Int) (fn : Nat) (t : List Ins) (av bv : Value) (pb po : Nat) (tv : Value) (w0 w : World) (h : UnAt w0 o l kd fn t av bv pb po tv) (hg : w0.grownBy w none) (hb : OvBlk w o av bv pb po) (hl : t.length ≤ 100000) (hm : AllMay l fn t) :
    Calls Tryz.prog 57 #[.pointer (some ⟨o, 0, none⟩)] w (LookPost w0 (RdOk t ∧ nst t t.length ≠ none) o t av bv pb po) := by
  have cR := mayRounds_any o t w (ovT_of h hg hb) hl
  have HH : Hid (UnAt w0 o l kd fn t av bv pb po tv) := h
  have HB : Hid (OvBlk w o av bv pb po) := hb
  have HM : Hid (AllMay l fn t) := hm
  clear h hb hm
  go_enter Tryz.func57, Tryz.ntmps57
  go_wp2_with fail
  refine cR.mono ?_
  rintro e w1 ⟨r, rfl, hr, hg1⟩
  clear cR
  have HR : Hid (r = true ↔ RdOk t) := hr
  clear hr
  cases r with
  | false =>
    go_wp2_with fail
    go_ret
    exact ⟨false, rfl, by simp only [Bool.false_eq_true, false_iff]; exact fun hx => by have := HR.out.2 hx.1; simp at this, hg.trans hg1, by simp⟩
  | true =>
    have HRd : Hid (RdOk t) := HR.out.1 rfl
    clear HR
    obtain ⟨s3, s4, hbl⟩ := HB.out
    have cN := nest_any o pb po av bv s3 s4 tv t w0 w1 (hg.trans hg1) HH.out.fresh (kept hg1 hbl) HH.out.text HH.out.lies hl HRd.out (may_bs HM.out) (may_cnt HM.out)
    clear hbl
    go_wp2_with fail
    refine cN.mono ?_
    rintro e w2 ⟨r, rfl, hr, hg2, hL⟩
    have H2 : Hid (r = true ↔ nst t t.length ≠ none) := hr
    have H3 : Hid (r = true → Laid w2 o t av bv pb po) := hL
    clear hr hL cN
    go_wp2_with fail
    go_ret
    exact ⟨r, by simp, by rw [H2.out]; exact ⟨fun hx => ⟨HRd.out, hx⟩, fun hx => hx.2⟩, hg2, H3.out⟩

set_option maxRecDepth 10000 in
set_option maxHeartbeats 2000000 in
theorem mayBe_any (o : Nat) (l : List (Int × Nat)) (kd : Int) (fn : Nat) (t : List Ins) (av bv : Value) (pb po : Nat) (tv : Value) (w0 w : World) (h : UnAt w0 o l kd fn t av bv pb po tv) (hg : w0.grownBy w none) (hb : OvBlk w o av bv pb po) (hS : Stds w0) (hll : l.length ≤ 1000000000000) :
    Calls Tryz.prog 33 #[.pointer (some ⟨o, 0, none⟩)] w (LookPost w0 (ProgOk l kd fn t) o t av bv pb po) := by
  have HH : Hid (UnAt w0 o l kd fn t av bv pb po tv) := h
  have HB : Hid (OvBlk w o av bv pb po) := hb
  have HS : Hid (Stds w0) := hS
  clear h hb hS
  have k0 := hg.cell HH.out.kind (by simp)
  obtain ⟨fa, fc, k2⟩ := HH.out.frame
  have k2 := hg.cell k2 (by simp)
  obtain ⟨ta, tc, htv, hT⟩ := HH.out.lies
  have k4 := hg.cell HH.out.text (by simp)
  rw [htv] at k4
  have c2 : w.cell? ⟨o, 2, none⟩ = some (.pointer (some ⟨pb, po, none⟩)) := by obtain ⟨s3, s4, hbl⟩ := HB.out; rw [at_cell hbl]; rfl
  have HT : Hid (t = [] ∨ ∃ b off, ta = some ⟨b, off, none⟩ ∧ ∀ i, i < t.length →
    w0.cell? ⟨b, off + i * 4, none⟩ = some (.int .i64 (nth t i).d) ∧ w0.cell? ⟨b, off + i * 4 + 1, none⟩ = some (.int .i64 (nth t i).a) ∧
    w0.cell? ⟨b, off + i * 4 + 2, none⟩ = some (.int .i64 (nth t i).b) ∧ w0.cell? ⟨b, off + i * 4 + 3, none⟩ = some (.int .i64 (nth t i).c)) := hT
  clear hT htv
  obtain ⟨n, hn⟩ : ∃ n, t.length = n := ⟨_, rfl⟩
  have HN : Hid (t.length = n) := hn
  rw [hn] at k4
  clear hn
  by_cases q1 : kd < 1
  · have HX : Hid (¬ ProgOk l kd fn t) := fun hx => by have := hx.kind.1; omega
    go_enter Tryz.func33, Tryz.ntmps33
    go_wp2_with fail
    go_ret
    exact ⟨false, rfl, by simpa using HX.out, hg, by simp⟩
  by_cases q2 : 3 < kd
  · have HX : Hid (¬ ProgOk l kd fn t) := fun hx => by have := hx.kind.2; omega
    go_enter Tryz.func33, Tryz.ntmps33
    go_wp2_with fail
    go_ret
    exact ⟨false, rfl, by simpa using HX.out, hg, by simp⟩
  by_cases q3 : 20000 < fn
  · have HX : Hid (¬ ProgOk l kd fn t) := fun hx => by have := hx.frame; omega
    have q3' : (20000 : Int) < (fn : Int) := by omega
    go_enter Tryz.func33, Tryz.ntmps33
    go_wp2_with fail
    go_ret
    exact ⟨false, rfl, by simpa using HX.out, hg, by simp⟩
  by_cases q4 : 100000 < n
  · have HX : Hid (¬ ProgOk l kd fn t) := fun hx => by have := hx.len; rw [HN.out] at this; omega
    have q3' : ¬ ((20000 : Int) < (fn : Int)) := by omega
    have q4' : (100000 : Int) < (n : Int) := by omega
    go_enter Tryz.func33, Tryz.ntmps33
    go_wp2_with fail
    go_ret
    exact ⟨false, rfl, by simpa using HX.out, hg, by simp⟩
  have q3' : ¬ ((20000 : Int) < (fn : Int)) := by omega
  have q4' : ¬ ((100000 : Int) < (n : Int)) := by omega
  go_enter Tryz.func33, Tryz.ntmps33
  go_wp2_with fail
  go_loopg [43] n (fun gk s43 wx => ∃ k : Nat, s43 = .int .i64 k ∧ k ≤ n ∧ gk = n - k ∧ (∀ i, i < k → mayS l fn t.length i (nth t i) = true) ∧ w.grownBy wx none)
  case atStart => exact ⟨0, rfl, Nat.zero_le _, by omega, fun i hi => by omega, World.grownBy.refl _ _⟩
  case round =>
    obtain ⟨k, rfl, hk, hgk, hall, hgr⟩ := hrel
    have HG : Hid (gk = n - k) := hgk
    have HA : Hid (∀ i, i < k → mayS l fn t.length i (nth t i) = true) := hall
    clear hgk hall
    by_cases hlt : k < n
    · have hkl : k < t.length := by rw [HN.out]; exact hlt
      rcases HT.out with h | ⟨b', off, rfl, hc⟩
      · subst h; simp at hkl
      obtain ⟨q0, q1', q2', q3''⟩ := hc k hkl
      have q0 := (hg.trans hgr).cell q0 (by simp)
      have q1' := (hg.trans hgr).cell q1' (by simp)
      have q2' := (hg.trans hgr).cell q2' (by simp)
      have q3'' := (hg.trans hgr).cell q3'' (by simp)
      clear hc
      have cM : ∀ w', w.grownBy w' none → Calls Tryz.prog 56 #[.pointer (some ⟨o, 0, none⟩), .int .i64 k, insV (nth t k)] w' fun e w2 => e = .returned (.bool (mayS l fn t.length k (nth t k))) ∧ w'.grownBy w2 none := fun w' hw' => by
        refine mayInstr_any (nth t k) l fn t.length k o w' (ov_of HH.out (hg.trans hw') ?_) (HS.out.grown (hg.trans hw')) (by omega) hll (by omega) (by rw [HN.out]; omega)
        obtain ⟨s3, s4, hbl⟩ := HB.out
        exact ⟨s3, s4, kept hw' hbl⟩
      obtain ⟨r, hr⟩ : ∃ r, mayS l fn t.length k (nth t k) = r := ⟨_, rfl⟩
      rw [hr] at cM
      have HR : Hid (mayS l fn t.length k (nth t k) = r) := hr
      unfold insV at cM
      generalize (nth t k).d = d at *
      generalize (nth t k).a = a at *
      generalize (nth t k).b = b at *
      generalize (nth t k).c = c at *
      clear hr
      have i1 : (0 : Int) ≤ (k : Int) := by omega
      have i2 : (k : Int) < (n : Int) := by omega
      go_wp2_with fail
      refine (cM _ (gr_alloc hgr _)).mono ?_
      rintro e w1 ⟨rfl, hg1⟩
      clear cM
      cases r with
      | false =>
        have HX : Hid (¬ ProgOk l kd fn t) := fun hx => by have := hx.may k hkl; rw [HR.out] at this; simp at this
        go_wp2_with fail
        go_ret
        exact ⟨false, rfl, by simpa using HX.out, hg.trans ((gr_alloc hgr _).trans hg1), by simp⟩
      | true =>
        go_wp2_with fail
        have hgl := HG.out
        go_roundg (n - (k + 1))
        all_goals first | omega | exact ⟨k + 1, by go_num, by omega, by omega, fun i hi => (by
          by_cases e : i = k
          · subst e; exact HR.out
          · exact HA.out i (by omega)), (gr_alloc hgr _).trans hg1⟩
    · have hk' : ¬ ((k : Int) < (n : Int)) := by omega
      have hkn : k = n := by omega
      subst hkn
      have HM : Hid (AllMay l fn t) := fun i hi => HA.out i (by rw [HN.out] at hi; exact hi)
      have hbl : OvBlk wr o av bv pb po := by obtain ⟨s3, s4, hbl⟩ := HB.out; exact ⟨s3, s4, kept hgr hbl⟩
      have cL := mayLoops_any o l kd fn t av bv pb po tv w0 wr HH.out (hg.trans hgr) hbl (by rw [HN.out]; omega) HM.out
      clear HG hbl
      go_wp2_with fail
      refine cL.mono ?_
      rintro e w1 ⟨r, rfl, hr, hg1, hL⟩
      clear cL
      have HR1 : Hid (r = true ↔ (RdOk t ∧ nst t t.length ≠ none)) := hr
      have HL1 : Hid (r = true → Laid w1 o t av bv pb po) := hL
      clear hr hL
      cases r with
      | false =>
        have HX : Hid (¬ ProgOk l kd fn t) := fun hx => by have := HR1.out.2 ⟨hx.rds, hx.nest⟩; simp at this
        clear HR1 HL1
        go_wp2_with fail
        go_ret
        exact ⟨false, rfl, by simpa using HX.out, hg1, by simp⟩
      | true =>
        have HRd : Hid (RdOk t ∧ nst t t.length ≠ none) := HR1.out.1 rfl
        have HLd : Hid (Laid w1 o t av bv pb po) := HL1.out rfl
        clear HR1 HL1
        obtain ⟨bb, tb, z1, z2, z3⟩ := HLd.out
        have c3 : w1.cell? ⟨o, 3, none⟩ = some (.slice (some ⟨bb, 0, none⟩) (t.length + 1) (t.length + 1)) := by rw [at_cell z1]; rfl
        have cJ := mayJumps_any o bb t (begK t t.length) w1 (ovT_of HH.out hg1 HLd.out.blk) (by rw [HN.out]; omega) c3 z2 (begK_len _ _) (may_fwd HM.out)
        clear z1 z2 z3 c3
        go_wp2_with fail
        refine cJ.mono ?_
        rintro e w2 ⟨r, rfl, hr, hg2⟩
        clear cJ
        have HR2 : Hid (r = true ↔ JumpsOk t (begK t t.length)) := hr
        clear hr
        cases r with
        | false =>
          have HX : Hid (¬ ProgOk l kd fn t) := fun hx => by have := HR2.out.2 hx.jumps; simp at this
          clear HR2
          go_wp2_with fail
          go_ret
          exact ⟨false, rfl, by simpa using HX.out, hg1.trans hg2, by simp⟩
        | true =>
          have HJd : Hid (JumpsOk t (begK t t.length)) := HR2.out.1 rfl
          clear HR2
          have cK := mayStack_any o t w2 (ovT_of HH.out (hg1.trans hg2) (HLd.out.grown hg2).blk) (by rw [HN.out]; omega) (may_ways HM.out HRd.out.1)
          go_wp2_with fail
          refine cK.mono ?_
          rintro e w3 ⟨r, rfl, hr, hg3⟩
          clear cK
          have HR3 : Hid (r = true ↔ StackOk t) := hr
          clear hr
          go_wp2_with fail
          go_ret
          refine ⟨r, by simp, ?_, (hg1.trans hg2).trans hg3, fun _ => (HLd.out.grown hg2).grown hg3⟩
          rw [HR3.out]
          exact ⟨fun hx => ⟨by omega, by omega, by rw [HN.out]; omega, HM.out, HRd.out.1, HRd.out.2, HJd.out, hx⟩, fun hx => hx.stack⟩
end Go.Proofs.YtcgbfhpmkpglkaaGreatDoor

/- Plain facts: how often an instruction can still come up; each step takes one away. -/
namespace Go.Proofs.YtcgbfhpmkpglkaaGreatDoor
set_option linter.unusedVariables false
set_option linter.unusedSimpArgs false

/-- A loop's counter and how often it goes round. -/
def aOf (t : List Ins) (f : Nat) : Int := (nth t (f - 1)).a
def bOf (t : List Ins) (f : Nat) : Int := (nth t (f - 1)).b
/-- How often the loops round k that do not hold i go round. -/
def mM (t : List Ins) (i k : Nat) : List Nat → Int
  | [] => 1
  | f :: l => (if inL t f k = true ∧ inL t f i = false then bOf t f else 1) * mM t i k l
/-- How often the loops that hold both go round again. -/
def qQ (t : List Ins) (c : Int → Int) (i k : Nat) : List Nat → Int
  | [] => 0
  | f :: l => if inL t f k = true ∧ inL t f i = true then (c (aOf t f) - 1) + bOf t f * qQ t c i k l else qQ t c i k l
/-- The places where a loop may begin, the last first. -/
def dn : Nat → List Nat
  | 0 => [0]
  | n + 1 => (n + 1) :: dn n
/-- How often k can still come up. -/
def rR (t : List Ins) (c : Int → Int) (i k : Nat) : Int := mM t i k (dn t.length) * ((if i ≤ k then 1 else 0) + qQ t c i k (dn t.length))
/-- The counters of the loops that hold i are at work. -/
def Cn (t : List Ins) (c : Int → Int) (i : Nat) : Prop := ∀ f, inL t f i = true → 1 ≤ c (aOf t f)

theorem dn_le : ∀ (n f : Nat), f ∈ dn n → f ≤ n
  | 0, f, h => by simp [dn] at h; omega
  | n + 1, f, h => by
    simp [dn] at h
    rcases h with h | h
    · omega
    · have := dn_le n f h; omega
theorem dn_split : ∀ (n f : Nat), f ≤ n → ∃ A B, dn n = A ++ f :: B ∧ (∀ g, g ∈ A → f < g) ∧ (∀ g, g ∈ B → g < f)
  | 0, f, h => ⟨[], [], by simp [dn]; omega, by simp, by simp⟩
  | n + 1, f, h => by
    by_cases e : f = n + 1
    · exact ⟨[], dn n, by simp [dn, e], by simp, fun g hg => by have := dn_le n g hg; omega⟩
    · obtain ⟨A, B, h1, h2, h3⟩ := dn_split n f (by omega)
      refine ⟨(n + 1) :: A, B, by simp [dn, h1], fun g hg => ?_, h3⟩
      rcases List.mem_cons.1 hg with h | h
      · omega
      · exact h2 g h
theorem dn_sorted : ∀ n, (dn n).Pairwise (· > ·)
  | 0 => by simp [dn]
  | n + 1 => by
    simp only [dn, List.pairwise_cons]
    exact ⟨fun g hg => by have := dn_le n g hg; omega, dn_sorted n⟩

section
variable {t : List Ins}
theorem inL_b (hB : Bs t) {f k : Nat} (h : inL t f k = true) : 1 ≤ bOf t f := (hB _ (inL_iff.1 h).2.2.1).1
theorem mM_pos (hB : Bs t) (i k : Nat) : ∀ l, 1 ≤ mM t i k l
  | [] => by simp [mM]
  | f :: l => by
    simp only [mM]
    have := mM_pos hB i k l
    split
    · rename_i h
      exact (mul_ge (inL_b hB h.1) this).1
    · simpa using this
theorem qQ_pos (hB : Bs t) {c : Int → Int} {i : Nat} (hc : Cn t c i) (k : Nat) : ∀ l, 0 ≤ qQ t c i k l
  | [] => by simp [qQ]
  | f :: l => by
    simp only [qQ]
    have ih := qQ_pos hB hc k l
    split
    · rename_i h
      have h1 := hc f h.2
      have h2 := inL_b hB h.1
      have h3 : 0 ≤ bOf t f * qQ t c i k l := Int.mul_nonneg (by omega) ih
      omega
    · exact ih
theorem mM_app (i k : Nat) : ∀ A B, mM t i k (A ++ B) = mM t i k A * mM t i k B
  | [], B => by simp [mM]
  | f :: A, B => by simp only [List.cons_append, mM, mM_app i k A B, Int.mul_assoc]
theorem qQ_skip (c : Int → Int) (i k : Nat) : ∀ A B, (∀ f, f ∈ A → inL t f i = false) → qQ t c i k (A ++ B) = qQ t c i k B
  | [], B, _ => rfl
  | f :: A, B, h => by
    simp only [List.cons_append, qQ]
    rw [if_neg (by simp [h f (by simp)])]
    exact qQ_skip c i k A B (fun g hg => h g (by simp [hg]))
theorem mM_congr (i j k : Nat) : ∀ l, (∀ f, f ∈ l → inL t f i = inL t f j) → mM t i k l = mM t j k l
  | [], _ => rfl
  | f :: l, h => by
    simp only [mM]
    rw [h f (by simp), mM_congr i j k l (fun g hg => h g (by simp [hg]))]
theorem qQ_congr (c c' : Int → Int) (i j k : Nat) : ∀ l, (∀ f, f ∈ l → inL t f i = inL t f j) → (∀ f, f ∈ l → inL t f i = true → c (aOf t f) = c' (aOf t f)) → qQ t c i k l = qQ t c' j k l
  | [], _, _ => rfl
  | f :: l, h, hc => by
    simp only [qQ]
    rw [← h f (by simp), qQ_congr c c' i j k l (fun g hg => h g (by simp [hg])) (fun g hg => hc g (by simp [hg]))]
    by_cases e : inL t f i = true
    · rw [hc f (by simp) e]
    · simp [e]

/-- A step to the next one, within the same loops. -/
theorem r_plain (hB : Bs t) (c : Int → Int) (i k : Nat) (h : ∀ f, inL t f i = inL t f (i + 1)) : (if k = i then 1 else 0) + rR t c (i + 1) k ≤ rR t c i k := by
  unfold rR
  rw [mM_congr i (i + 1) k _ (fun f _ => h f), qQ_congr c c i (i + 1) k _ (fun f _ => h f) (fun _ _ _ => rfl)]
  have hM := mM_pos hB (i + 1) k (dn t.length)
  generalize mM t (i + 1) k (dn t.length) = M at *
  generalize qQ t c (i + 1) k (dn t.length) = q at *
  by_cases e : k = i
  · subst e
    rw [if_pos rfl, if_pos (Nat.le_refl _), if_neg (by omega)]
    simp only [Int.mul_add, Int.mul_one, Int.mul_zero]
    omega
  · rw [if_neg e]
    by_cases e2 : i ≤ k
    · rw [if_pos e2, if_pos (show i + 1 ≤ k by omega)]; omega
    · rw [if_neg e2, if_neg (show ¬ i + 1 ≤ k by omega)]; omega

/-- Behind an Enter. -/
theorem r_enter (hB : Bs t) (c c' : Int → Int) (i k : Nat) (hi : i < t.length) (hf : inL t (i + 1) (i + 1) = true) (hs : ∀ g, g ≤ i → inL t g i = inL t g (i + 1)) (hc : c' (aOf t (i + 1)) = bOf t (i + 1)) (hc2 : ∀ g, g ≤ i → inL t g i = true → c (aOf t g) = c' (aOf t g)) :
    (if k = i then 1 else 0) + rR t c' (i + 1) k ≤ rR t c i k := by
  obtain ⟨A, B, hd, hA, hBl⟩ := dn_split t.length (i + 1) (by omega)
  unfold rR
  rw [hd]
  have hA1 : ∀ g, g ∈ A → inL t g i = false := fun g hg => by
    have := hA g hg
    cases h : inL t g i with
    | false => rfl
    | true => have := (inL_iff.1 h).2.1; omega
  have hA2 : ∀ g, g ∈ A → inL t g (i + 1) = false := fun g hg => by
    have := hA g hg
    cases h : inL t g (i + 1) with
    | false => rfl
    | true => have := (inL_iff.1 h).2.1; omega
  have hf0 : inL t (i + 1) i = false := by
    cases h : inL t (i + 1) i with
    | false => rfl
    | true => have := (inL_iff.1 h).2.1; omega
  have hb : ∀ g, g ∈ B → inL t g i = inL t g (i + 1) := fun g hg => hs g (by have := hBl g hg; omega)
  rw [mM_app, mM_app, qQ_skip c i k A _ hA1, qQ_skip c' (i + 1) k A _ hA2, mM_congr i (i + 1) k A (fun g hg => by rw [hA1 g hg, hA2 g hg])]
  simp only [mM, qQ, hf, hf0]
  rw [mM_congr i (i + 1) k B hb, qQ_congr c c' i (i + 1) k B hb (fun g hg => hc2 g (by have := hBl g hg; omega)), hc]
  have hM := (mul_ge (mM_pos hB (i + 1) k A) (mM_pos hB (i + 1) k B)).1
  generalize mM t (i + 1) k A = MA at *
  generalize mM t (i + 1) k B = MB at *
  generalize qQ t c' (i + 1) k B = q at *
  generalize bOf t (i + 1) = b at *
  by_cases hk : inL t (i + 1) k = true
  · have hik := (inL_iff.1 hk).2.1
    simp only [hk]
    rw [if_neg (show ¬ k = i by omega), if_pos hik, if_pos (show i ≤ k by omega)]
    simp only [and_self, and_false, if_true, if_false, Bool.true_eq_false, Bool.false_eq_true, Int.one_mul]
    have e : MA * MB * (1 + (b - 1 + b * q)) = MA * (b * MB) * (1 + q) := by
      simp only [Int.mul_add, Int.add_mul, Int.mul_sub, Int.mul_one, Int.mul_assoc, Int.mul_comm, Int.mul_left_comm]
      omega
    omega
  · simp only [hk, false_and, if_false, Int.one_mul, Bool.false_eq_true]
    by_cases e : k = i
    · subst e
      rw [if_pos rfl, if_pos (Nat.le_refl _), if_neg (by omega)]
      simp only [Int.mul_add, Int.mul_one, Int.mul_zero]
      omega
    · rw [if_neg e]
      by_cases e2 : i ≤ k
      · rw [if_pos e2, if_pos (show i + 1 ≤ k by omega)]; omega
      · rw [if_neg e2, if_neg (show ¬ i + 1 ≤ k by omega)]; omega

/-- At a Round that goes back. -/
theorem r_back (hB : Bs t) (c c' : Int → Int) (f i k : Nat) (hi : i < t.length) (hf : inL t f i = true) (hfr : rnd t f = i) (hA1 : ∀ g, f < g → inL t g i = false) (hs : ∀ g, g < f → inL t g i = inL t g f) (hc : c' (aOf t f) = c (aOf t f) - 1) (hc2 : ∀ g, g < f → inL t g i = true → c (aOf t g) = c' (aOf t g)) :
    (if k = i then 1 else 0) + rR t c' f k ≤ rR t c i k := by
  have hfi := (inL_iff.1 hf).2.1
  obtain ⟨A, B, hd, hA, hBl⟩ := dn_split t.length f (by omega)
  unfold rR
  rw [hd]
  have hA1' : ∀ g, g ∈ A → inL t g i = false := fun g hg => hA1 g (hA g hg)
  have hA2 : ∀ g, g ∈ A → inL t g f = false := fun g hg => by
    have := hA g hg
    cases h : inL t g f with
    | false => rfl
    | true => have := (inL_iff.1 h).2.1; omega
  have hff : inL t f f = true := inL_iff.2 ⟨(inL_iff.1 hf).1, Nat.le_refl _, (inL_iff.1 hf).2.2.1, by omega⟩
  have hb : ∀ g, g ∈ B → inL t g i = inL t g f := fun g hg => hs g (hBl g hg)
  rw [mM_app, mM_app, qQ_skip c i k A _ hA1', qQ_skip c' f k A _ hA2, mM_congr i f k A (fun g hg => by rw [hA1' g hg, hA2 g hg])]
  simp only [mM, qQ, hf, hff]
  rw [mM_congr i f k B hb, qQ_congr c c' i f k B hb (fun g hg => hc2 g (hBl g hg)), hc]
  have hM := (mul_ge (mM_pos hB f k A) (mM_pos hB f k B)).1
  generalize mM t f k A = MA at *
  generalize mM t f k B = MB at *
  generalize qQ t c' f k B = q at *
  generalize bOf t f = b at *
  generalize c (aOf t f) = x at *
  simp only [Bool.true_eq_false, and_false, if_false, Int.one_mul, and_true]
  by_cases hk : inL t f k = true
  · have h1 := (inL_iff.1 hk).2.1
    have h2 := (inL_iff.1 hk).2.2.2
    rw [if_pos hk, if_pos hk, if_pos h1]
    have e : MA * MB * (1 + (x - 1 - 1 + b * q)) = MA * MB * (x - 1 + b * q) := by congr 1; omega
    rw [e]
    by_cases e2 : k = i
    · subst e2
      rw [if_pos rfl, if_pos (Nat.le_refl _), Int.mul_add _ 1, Int.mul_one]
      omega
    · rw [if_neg e2, if_neg (show ¬ i ≤ k by omega), Int.zero_add, Int.zero_add]
      exact Int.le_refl _
  · rw [if_neg hk, if_neg hk]
    have hki : k ≠ i := fun e => hk (e ▸ hf)
    rw [if_neg hki, Int.zero_add]
    have hcase : k < f ∨ i < k := by
      rcases Nat.lt_or_ge k f with h | h
      · exact .inl h
      · right
        apply Classical.byContradiction
        intro hn
        exact hk (inL_iff.2 ⟨(inL_iff.1 hf).1, h, (inL_iff.1 hf).2.2.1, by omega⟩)
    rcases hcase with h | h
    · rw [if_neg (show ¬ f ≤ k by omega), if_neg (show ¬ i ≤ k by omega)]; exact Int.le_refl _
    · rw [if_pos (show f ≤ k by omega), if_pos (show i ≤ k by omega)]; exact Int.le_refl _

/-- At a Round that goes on. -/
theorem r_leave (hB : Bs t) (c c' : Int → Int) (f i k : Nat) (hi : i < t.length) (hf : inL t f i = true) (hfr : rnd t f = i) (hA1 : ∀ g, f < g → inL t g i = false) (hA2 : ∀ g, f < g → inL t g (i + 1) = false) (hs : ∀ g, g < f → inL t g i = inL t g (i + 1)) (hc : c (aOf t f) = 1) (hc2 : ∀ g, g < f → inL t g i = true → c (aOf t g) = c' (aOf t g)) :
    (if k = i then 1 else 0) + rR t c' (i + 1) k ≤ rR t c i k := by
  have hfi := (inL_iff.1 hf).2.1
  obtain ⟨A, B, hd, hA, hBl⟩ := dn_split t.length f (by omega)
  unfold rR
  rw [hd]
  have hA1' : ∀ g, g ∈ A → inL t g i = false := fun g hg => hA1 g (hA g hg)
  have hA2' : ∀ g, g ∈ A → inL t g (i + 1) = false := fun g hg => hA2 g (hA g hg)
  have hff : inL t f (i + 1) = false := by
    cases h : inL t f (i + 1) with
    | false => rfl
    | true => have := (inL_iff.1 h).2.2.2; omega
  have hb : ∀ g, g ∈ B → inL t g i = inL t g (i + 1) := fun g hg => hs g (hBl g hg)
  rw [mM_app, mM_app, qQ_skip c i k A _ hA1', qQ_skip c' (i + 1) k A _ hA2', mM_congr i (i + 1) k A (fun g hg => by rw [hA1' g hg, hA2' g hg])]
  simp only [mM, qQ, hf, hff]
  rw [mM_congr i (i + 1) k B hb, qQ_congr c c' i (i + 1) k B hb (fun g hg => hc2 g (hBl g hg)), hc]
  have hM := (mul_ge (mM_pos hB (i + 1) k A) (mM_pos hB (i + 1) k B)).1
  generalize mM t (i + 1) k A = MA at *
  generalize mM t (i + 1) k B = MB at *
  generalize qQ t c' (i + 1) k B = q at *
  generalize bOf t f = b at *
  simp only [Bool.true_eq_false, Bool.false_eq_true, and_false, if_false, Int.one_mul, and_true]
  by_cases hk : inL t f k = true
  · have h2 := (inL_iff.1 hk).2.2.2
    rw [if_pos hk, if_pos hk, if_neg (show ¬ i + 1 ≤ k by omega)]
    have e : MA * (b * MB) * (0 + q) = MA * MB * (b * q) := by
      simp only [Int.zero_add, Int.mul_assoc, Int.mul_comm, Int.mul_left_comm]
    rw [e, show (1 : Int) - 1 + b * q = b * q by omega]
    by_cases e2 : k = i
    · subst e2
      rw [if_pos rfl, if_pos (Nat.le_refl _), Int.mul_add _ 1, Int.mul_one]
      omega
    · rw [if_neg e2, if_neg (show ¬ i ≤ k by omega), Int.zero_add, Int.zero_add]
      exact Int.le_refl _
  · rw [if_neg hk, if_neg hk]
    have hki : k ≠ i := fun e => hk (e ▸ hf)
    rw [if_neg hki, Int.zero_add, Int.one_mul]
    by_cases e2 : i ≤ k
    · rw [if_pos e2, if_pos (show i + 1 ≤ k by omega)]; exact Int.le_refl _
    · rw [if_neg e2, if_neg (show ¬ i + 1 ≤ k by omega)]; exact Int.le_refl _

theorem jump_split (a : Nat) : ∀ l : List Nat, l.Pairwise (· > ·) → ∃ A B, l = A ++ B ∧ (∀ g, g ∈ A → inL t g a = false) ∧ (B = [] ∨ ∃ f B', B = f :: B' ∧ inL t f a = true ∧ ∀ g, g ∈ B' → g < f)
  | [], _ => ⟨[], [], rfl, by simp, .inl rfl⟩
  | f :: l, h => by
    rw [List.pairwise_cons] at h
    cases hf : inL t f a with
    | true => exact ⟨[], f :: l, rfl, by simp, .inr ⟨f, l, rfl, hf, fun g hg => h.1 g hg⟩⟩
    | false =>
      obtain ⟨A, B, h1, h2, h3⟩ := jump_split a l h.2
      refine ⟨f :: A, B, by rw [h1]; rfl, fun g hg => ?_, h3⟩
      rcases List.mem_cons.1 hg with e | e
      · rw [e]; exact hf
      · exact h2 g e
/-- Out of the loops of A, which hold no more of it. -/
theorem out_of (hB : Bs t) (c : Int → Int) (i a k : Nat) (hc : Cn t c i) (B : List Nat) : ∀ A, (∀ g, g ∈ A → inL t g a = false) → mM t a k A * qQ t c i k B ≤ mM t i k A * qQ t c i k (A ++ B)
  | [], _ => by simp [mM]
  | f :: A, h => by
    have ih := out_of hB c i a k hc B A (fun g hg => h g (by simp [hg]))
    simp only [mM, qQ, List.cons_append, h f (by simp), and_true]
    by_cases hk : inL t f k = true
    · have hb := inL_b hB hk
      simp only [hk, true_and, if_true]
      cases hi : inL t f i with
      | false =>
        simp only [if_true, Bool.false_eq_true, if_false]
        rw [Int.mul_assoc, Int.mul_assoc]
        exact Int.mul_le_mul_of_nonneg_left ih (by omega)
      | true =>
        simp only [Bool.true_eq_false, if_false, if_true, Int.one_mul]
        have h1 := hc f hi
        have h2 : 0 ≤ mM t i k A * (c (aOf t f) - 1) := Int.mul_nonneg (by have := mM_pos hB i k A; omega) (by omega)
        have h3 := Int.mul_le_mul_of_nonneg_left ih (show 0 ≤ bOf t f by omega)
        have e1 : bOf t f * mM t a k A * qQ t c i k B = bOf t f * (mM t a k A * qQ t c i k B) := Int.mul_assoc _ _ _
        have e2 : mM t i k A * (c (aOf t f) - 1 + bOf t f * qQ t c i k (A ++ B)) = mM t i k A * (c (aOf t f) - 1) + bOf t f * (mM t i k A * qQ t c i k (A ++ B)) := by
          rw [Int.mul_add, Int.mul_left_comm (mM t i k A) (bOf t f)]
        rw [e1, e2]
        omega
    · simp only [hk, false_and, if_false, Int.one_mul, Bool.false_eq_true]
      exact ih
theorem same_M (i a k : Nat) : ∀ A, (∀ g, g ∈ A → inL t g a = false) → (∀ g, g ∈ A → inL t g k = true → inL t g i = false) → mM t a k A = mM t i k A
  | [], _, _ => rfl
  | f :: A, h, h2 => by
    simp only [mM]
    rw [same_M i a k A (fun g hg => h g (by simp [hg])) (fun g hg => h2 g (by simp [hg])), h f (by simp)]
    by_cases hk : inL t f k = true
    · rw [h2 f (by simp) hk]
    · simp [hk]
/-- A jump forward, into no loop. -/
theorem r_jump (hB : Bs t) (hP : Pairs t) (c : Int → Int) (i a k : Nat) (hc : Cn t c i) (hia : i < a) (ha : ∀ g, inL t g a = true → inL t g i = true) :
    (if k = i then 1 else 0) + rR t c a k ≤ rR t c i k := by
  obtain ⟨A, B, hd, hA, hBl⟩ := jump_split (t := t) a (dn t.length) (dn_sorted _)
  have hb : ∀ g, g ∈ B → inL t g i = inL t g a := by
    rcases hBl with rfl | ⟨f, B', rfl, hf, hl⟩
    · simp
    · have key : ∀ g, g ≤ f → inL t g i = true → inL t g a = true := fun g hg hi => by
        rcases Nat.lt_or_ge g f with hlt | hge
        · have h1 := inL_iff.1 hi
          have h2 := inL_iff.1 (ha f hf)
          have h3 := inL_iff.1 hf
          have h4 := hP (g - 1) (f - 1) (by omega) h1.2.2.1 h2.2.2.1
          rw [show g - 1 + 1 = g by omega, show f - 1 + 1 = f by omega] at h4
          refine inL_iff.2 ⟨h1.1, by omega, h1.2.2.1, ?_⟩
          rcases h4 with h4 | h4
          · omega
          · have := h3.2.2.2; omega
        · have : g = f := by omega
          subst this
          exact hf
      intro g hg
      have hgf : g ≤ f := by
        rcases List.mem_cons.1 hg with e | e
        · omega
        · have := hl g e; omega
      cases h : inL t g a with
      | true => exact ha g h
      | false =>
        cases h2 : inL t g i with
        | false => rfl
        | true => rw [key g hgf h2] at h; exact h
  unfold rR
  rw [hd, mM_app, mM_app, qQ_skip c a k A B hA, mM_congr a i k B (fun g hg => (hb g hg).symm), ← qQ_congr c c i a k B hb (fun _ _ _ => rfl)]
  have h1 := out_of hB c i a k hc B A hA
  have hMB := mM_pos hB i k B
  have hMA := mM_pos hB i k A
  have hM := (mul_ge hMA hMB).1
  have h2 := Int.mul_le_mul_of_nonneg_left h1 (show 0 ≤ mM t i k B by omega)
  have e1 : mM t a k A * mM t i k B * ((if a ≤ k then 1 else 0) + qQ t c i k B) = mM t a k A * mM t i k B * (if a ≤ k then 1 else 0) + mM t i k B * (mM t a k A * qQ t c i k B) := by
    rw [Int.mul_add, Int.mul_comm (mM t a k A) (mM t i k B), Int.mul_assoc (mM t i k B) (mM t a k A) (qQ t c i k B)]
  have e2 : mM t i k A * mM t i k B * ((if i ≤ k then 1 else 0) + qQ t c i k (A ++ B)) = mM t i k A * mM t i k B * (if i ≤ k then 1 else 0) + mM t i k B * (mM t i k A * qQ t c i k (A ++ B)) := by
    rw [Int.mul_add, Int.mul_comm (mM t i k A) (mM t i k B), Int.mul_assoc (mM t i k B) (mM t i k A) (qQ t c i k (A ++ B))]
  rw [e1, e2]
  have h3 : (if k = i then 1 else 0) + mM t a k A * mM t i k B * (if a ≤ k then 1 else 0) ≤ mM t i k A * mM t i k B * (if i ≤ k then 1 else 0) := by
    by_cases hak : a ≤ k
    · rw [same_M i a k A hA (fun g hg hk => by
        cases h : inL t g i with
        | false => rfl
        | true =>
          have g1 := inL_iff.1 h
          have g2 := inL_iff.1 hk
          have g3 : inL t g a = true := inL_iff.2 ⟨g1.1, by omega, g1.2.2.1, by omega⟩
          rw [hA g hg] at g3
          exact g3.symm)]
      rw [if_pos hak, if_pos (show i ≤ k by omega), if_neg (show ¬ k = i by omega)]
      omega
    · rw [if_neg hak]
      by_cases e : k = i
      · subst e
        rw [if_pos rfl, if_pos (Nat.le_refl _)]
        omega
      · rw [if_neg e]
        by_cases e2 : i ≤ k
        · rw [if_pos e2]; omega
        · rw [if_neg e2]; omega
  omega
end
end Go.Proofs.YtcgbfhpmkpglkaaGreatDoor

/- Plain facts: what is still to be done grows less with each instruction, and is the bound at first. -/
namespace Go.Proofs.YtcgbfhpmkpglkaaGreatDoor
set_option linter.unusedVariables false
set_option linter.unusedSimpArgs false

def sumI (g : Nat → Int) : Nat → Int
  | 0 => 0
  | n + 1 => sumI g n + g n
theorem sumI_le {g h : Nat → Int} : ∀ n, (∀ k, k < n → g k ≤ h k) → sumI g n ≤ sumI h n
  | 0, _ => Int.le_refl _
  | n + 1, H => by
    have h1 := sumI_le n (fun k hk => H k (by omega))
    have h2 := H n (by omega)
    simp only [sumI]
    omega
theorem sumI_add (g h : Nat → Int) : ∀ n, sumI (fun k => g k + h k) n = sumI g n + sumI h n
  | 0 => rfl
  | n + 1 => by simp only [sumI, sumI_add g h n]; omega
theorem sumI_zero {g : Nat → Int} : ∀ n, (∀ k, k < n → g k = 0) → sumI g n = 0
  | 0, _ => rfl
  | n + 1, H => by simp only [sumI]; rw [sumI_zero n (fun k hk => H k (by omega)), H n (by omega)]; rfl
theorem sumI_one (s : Nat → Int) (i : Nat) : ∀ n, i < n → sumI (fun k => if k = i then s i else 0) n = s i
  | 0, h => by omega
  | n + 1, h => by
    simp only [sumI]
    by_cases e : n = i
    · subst e
      rw [sumI_zero n (fun k hk => if_neg (by omega)), if_pos rfl]
      omega
    · rw [sumI_one s i n (by omega), if_neg e]
      omega
theorem sumI_nonneg {g : Nat → Int} : ∀ n, (∀ k, k < n → 0 ≤ g k) → 0 ≤ sumI g n
  | 0, _ => Int.le_refl _
  | n + 1, H => by
    have h1 := sumI_nonneg n (fun k hk => H k (by omega))
    have h2 := H n (by omega)
    simp only [sumI]
    omega
/-- What is still to be done. -/
def phi (t : List Ins) (s : Nat → Int) (c : Int → Int) (i : Nat) : Int := sumI (fun k => s k * rR t c i k) t.length
section
variable {t : List Ins} {s : Nat → Int}
theorem phi_step (hs : ∀ k, k < t.length → 0 ≤ s k) {c c' : Int → Int} {i j : Nat} (hi : i < t.length) (h : ∀ k, (if k = i then 1 else 0) + rR t c' j k ≤ rR t c i k) : s i + phi t s c' j ≤ phi t s c i := by
  unfold phi
  rw [← sumI_one s i t.length hi, ← sumI_add]
  refine sumI_le _ (fun k hk => ?_)
  have h1 := Int.mul_le_mul_of_nonneg_left (h k) (hs k hk)
  rw [Int.mul_add] at h1
  by_cases e : k = i
  · subst e
    rw [if_pos rfl] at h1 ⊢
    omega
  · rw [if_neg e] at h1 ⊢
    omega
theorem phi_nonneg (hB : Bs t) (hs : ∀ k, k < t.length → 0 ≤ s k) {c : Int → Int} {i : Nat} (hc : Cn t c i) : 0 ≤ phi t s c i := by
  refine sumI_nonneg _ (fun k hk => Int.mul_nonneg (hs k hk) ?_)
  unfold rR
  refine Int.mul_nonneg (by have := mM_pos hB i k (dn t.length); omega) ?_
  have := qQ_pos hB hc k (dn t.length)
  split <;> omega

/-- Code whose loops and jumps are in order. -/
structure Lk (t : List Ins) : Prop where
  rds : RdOk t
  prs : Pairs t
  bs : Bs t
  fwd : Fwd t
  jdoc : JDoc t

theorem rnd_R (h : RdOk t) {f i : Nat} (hi : inL t f i = true) : isR t (rnd t f) = true ∧ rnd t f < t.length := by
  obtain ⟨h1, h2, h3, h4⟩ := inL_iff.1 hi
  have := rd_ge h h3
  rw [show f - 1 + 1 = f by omega] at this
  exact ⟨(rd_goes this.2).1, this.2⟩
theorem inL_next (h : RdOk t) {i : Nat} (hr : isR t i = false) {f : Nat} (hf : f ≤ i) : inL t f i = inL t f (i + 1) := by
  cases h1 : inL t f i with
  | true =>
    have h2 := inL_iff.1 h1
    have h3 := rnd_R h h1
    symm
    refine inL_iff.2 ⟨h2.1, by omega, h2.2.2.1, ?_⟩
    have : rnd t f ≠ i := fun e => by rw [e, hr] at h3; simp at h3
    omega
  | false =>
    cases h2 : inL t f (i + 1) with
    | false => rfl
    | true =>
      have h3 := inL_iff.1 h2
      have : inL t f i = true := inL_iff.2 ⟨h3.1, hf, h3.2.2.1, by omega⟩
      rw [h1] at this
      exact this
theorem inL_self_next (h : RdOk t) {i : Nat} (he : isE t i = false) (hr : isR t i = false) (f : Nat) : inL t f i = inL t f (i + 1) := by
  by_cases hf : f ≤ i
  · exact inL_next h hr hf
  · have h1 : inL t f i = false := by
      cases h1 : inL t f i with
      | false => rfl
      | true => have := (inL_iff.1 h1).2.1; omega
    have h2 : inL t f (i + 1) = false := by
      cases h2 : inL t f (i + 1) with
      | false => rfl
      | true =>
        have h3 := inL_iff.1 h2
        have : f = i + 1 := by omega
        subst this
        rw [show i + 1 - 1 = i by omega, he] at h3
        simp at h3
    rw [h1, h2]
/-- A loop within another has another counter. -/
theorem aOf_ne (hP : Pairs t) {f g i : Nat} (hf : inL t f i = true) (hg : inL t g i = true) (hgf : g < f) : aOf t g ≠ aOf t f := by
  have h1 := inL_iff.1 hf
  have h2 := inL_iff.1 hg
  have h3 := hP (g - 1) (f - 1) (by omega) h2.2.2.1 h1.2.2.1
  rw [show g - 1 + 1 = g by omega, show f - 1 + 1 = f by omega] at h3
  rcases h3 with h3 | h3
  · omega
  · exact h3.2
def upd (c : Int → Int) (a x : Int) : Int → Int := fun b => if b = a then x else c b
theorem upd_same (c : Int → Int) (a x : Int) : upd c a x a = x := by simp [upd]
theorem upd_else (c : Int → Int) {a b : Int} (x : Int) (h : b ≠ a) : upd c a x b = c b := by simp [upd, h]

theorem go_plain (L : Lk t) (hs : ∀ k, k < t.length → 0 ≤ s k) {c : Int → Int} {i : Nat} (hi : i < t.length) (hc : Cn t c i) (he : isE t i = false) (hr : isR t i = false) : s i + phi t s c (i + 1) ≤ phi t s c i ∧ Cn t c (i + 1) :=
  ⟨phi_step hs hi (fun k => r_plain L.bs c i k (inL_self_next L.rds he hr)), fun f hf => hc f (by rw [inL_self_next L.rds he hr f]; exact hf)⟩
theorem go_enterP (L : Lk t) (hs : ∀ k, k < t.length → 0 ≤ s k) {c : Int → Int} {i : Nat} (hi : i < t.length) (hc : Cn t c i) (he : isE t i = true) :
    s i + phi t s (upd c (nth t i).a (nth t i).b) (i + 1) ≤ phi t s c i ∧ Cn t (upd c (nth t i).a (nth t i).b) (i + 1) := by
  have hr := isE_notR he
  have ha : aOf t (i + 1) = (nth t i).a := by simp [aOf]
  have hb : bOf t (i + 1) = (nth t i).b := by simp [bOf]
  have hf : inL t (i + 1) (i + 1) = true := inL_iff.2 ⟨by omega, Nat.le_refl _, by simpa using he, (rd_ge L.rds he).1⟩
  have hne : ∀ g, g ≤ i → inL t g i = true → aOf t g ≠ (nth t i).a := fun g hg h => by
    rw [← ha]
    exact aOf_ne L.prs hf (by rw [← inL_next L.rds hr hg]; exact h) (by omega)
  refine ⟨phi_step hs hi (fun k => r_enter L.bs c _ i k hi hf (fun g hg => inL_next L.rds hr hg) (by rw [ha, hb]; exact upd_same _ _ _) (fun g hg h => (upd_else c _ (hne g hg h)).symm)), fun f h => ?_⟩
  by_cases e : f ≤ i
  · have h' : inL t f i = true := by rw [inL_next L.rds hr e]; exact h
    rw [upd_else c _ (hne f e h')]
    exact hc f h'
  · have : f = i + 1 := by have := (inL_iff.1 h).2.1; omega
    subst this
    rw [ha, upd_same]
    exact (L.bs i he).1
/-- A Round's loop. -/
theorem round_loop (h : RdOk t) {i : Nat} (hr : isR t i = true) : inL t (nth t i).b.toNat i = true ∧ rnd t (nth t i).b.toNat = i ∧ aOf t (nth t i).b.toNat = (nth t i).a ∧ ((nth t i).b.toNat : Int) = (nth t i).b := by
  obtain ⟨h1, h2, h3, h4⟩ := h.rounds i hr
  have e : ((nth t i).b.toNat : Int) = (nth t i).b := by omega
  have hrd := rd_of h hr e.symm
  have e2 : (nth t i).b.toNat - 1 = ((nth t i).b - 1).toNat := by omega
  refine ⟨inL_iff.2 ⟨by omega, by omega, by rw [e2]; exact h3, by rw [hrd]; exact Nat.le_refl _⟩, hrd, ?_, e⟩
  unfold aOf
  rw [e2]
  exact h4
theorem round_inner (L : Lk t) {i f : Nat} (hf : inL t f i = true) (hfr : rnd t f = i) (g : Nat) (hg : f < g) : inL t g i = false ∧ inL t g (i + 1) = false := by
  have h1 := inL_iff.1 hf
  have hR := (rnd_R L.rds hf).1
  rw [hfr] at hR
  have key : ∀ j, (j = i ∨ j = i + 1) → inL t g j = false := fun j hj => by
    cases h : inL t g j with
    | false => rfl
    | true =>
      have h2 := inL_iff.1 h
      have hgi : g ≤ i := by
        rcases Nat.lt_or_ge i g with hlt | hge
        · have : g = i + 1 := by omega
          subst this
          have := isE_notR h2.2.2.1
          rw [show i + 1 - 1 = i by omega, hR] at this
          exact absurd this (by simp)
        · exact hge
      have h3 := L.prs (f - 1) (g - 1) (by omega) h1.2.2.1 h2.2.2.1
      rw [show f - 1 + 1 = f by omega, show g - 1 + 1 = g by omega] at h3
      rcases h3 with h3 | h3 <;> omega
  exact ⟨key i (.inl rfl), key (i + 1) (.inr rfl)⟩
theorem round_outer (L : Lk t) {i f : Nat} (hf : inL t f i = true) (hfr : rnd t f = i) (g : Nat) (hg : g < f) : inL t g i = inL t g f ∧ inL t g i = inL t g (i + 1) := by
  have h1 := inL_iff.1 hf
  have out : ∀ j, f ≤ j → j ≤ i + 1 → inL t g j = true → f ≤ rnd t g → i < rnd t g := fun j hj hj2 h hh => by
    have h2 := inL_iff.1 h
    have h3 := L.prs (g - 1) (f - 1) (by omega) h2.2.2.1 h1.2.2.1
    rw [show f - 1 + 1 = f by omega, show g - 1 + 1 = g by omega] at h3
    rcases h3 with h3 | h3 <;> omega
  have mk : ∀ j j', f ≤ j → j ≤ i + 1 → f ≤ j' → j' ≤ i + 1 → inL t g j = true → inL t g j' = true := fun j j' h2 h3 h4 h5 h => by
    have h6 := inL_iff.1 h
    have h7 := out j h2 h3 h (by omega)
    exact inL_iff.2 ⟨h6.1, by omega, h6.2.2.1, by omega⟩
  have iff : ∀ j j', f ≤ j → j ≤ i + 1 → f ≤ j' → j' ≤ i + 1 → inL t g j = inL t g j' := fun j j' h2 h3 h4 h5 => by
    cases h : inL t g j with
    | true => exact (mk j j' h2 h3 h4 h5 h).symm
    | false =>
      cases h' : inL t g j' with
      | false => rfl
      | true => rw [mk j' j h4 h5 h2 h3 h'] at h; exact h.symm
  exact ⟨iff i f (by omega) (by omega) (Nat.le_refl _) (by omega), iff i (i + 1) (by omega) (by omega) (by omega) (Nat.le_refl _)⟩
theorem go_backP (L : Lk t) (hs : ∀ k, k < t.length → 0 ≤ s k) {c : Int → Int} {i : Nat} (hi : i < t.length) (hc : Cn t c i) (hr : isR t i = true) (hx : 0 < c (nth t i).a - 1) :
    s i + phi t s (upd c (nth t i).a (c (nth t i).a - 1)) (nth t i).b.toNat ≤ phi t s c i ∧ Cn t (upd c (nth t i).a (c (nth t i).a - 1)) (nth t i).b.toNat := by
  obtain ⟨hf, hfr, ha, hb⟩ := round_loop L.rds hr
  generalize (nth t i).b.toNat = f at *
  have hne : ∀ g, g < f → inL t g i = true → aOf t g ≠ (nth t i).a := fun g hg h => by rw [← ha]; exact aOf_ne L.prs hf h hg
  refine ⟨phi_step hs hi (fun k => r_back L.bs c _ f i k hi hf hfr (fun g hg => (round_inner L hf hfr g hg).1) (fun g hg => (round_outer L hf hfr g hg).1) (by rw [ha, upd_same]) (fun g hg h => (upd_else c _ (hne g hg h)).symm)), fun g h => ?_⟩
  rcases Nat.lt_trichotomy g f with h1 | h1 | h1
  · have h' : inL t g i = true := by rw [(round_outer L hf hfr g h1).1]; exact h
    rw [upd_else c _ (hne g h1 h')]
    exact hc g h'
  · subst h1
    rw [ha, upd_same]
    omega
  · have := (inL_iff.1 h).2.1
    omega
theorem go_leaveP (L : Lk t) (hs : ∀ k, k < t.length → 0 ≤ s k) {c : Int → Int} {i : Nat} (hi : i < t.length) (hc : Cn t c i) (hr : isR t i = true) (hx : ¬ 0 < c (nth t i).a - 1) :
    s i + phi t s (upd c (nth t i).a (c (nth t i).a - 1)) (i + 1) ≤ phi t s c i ∧ Cn t (upd c (nth t i).a (c (nth t i).a - 1)) (i + 1) := by
  obtain ⟨hf, hfr, ha, hb⟩ := round_loop L.rds hr
  generalize (nth t i).b.toNat = f at *
  have h1 := hc f hf
  rw [ha] at h1
  have hne : ∀ g, g < f → inL t g i = true → aOf t g ≠ (nth t i).a := fun g hg h => by rw [← ha]; exact aOf_ne L.prs hf h hg
  refine ⟨phi_step hs hi (fun k => r_leave L.bs c _ f i k hi hf hfr (fun g hg => (round_inner L hf hfr g hg).1) (fun g hg => (round_inner L hf hfr g hg).2) (fun g hg => (round_outer L hf hfr g hg).2) (by rw [ha]; omega) (fun g hg h => (upd_else c _ (hne g hg h)).symm)), fun g h => ?_⟩
  rcases Nat.lt_trichotomy g f with h2 | h2 | h2
  · have h' : inL t g i = true := by rw [(round_outer L hf hfr g h2).2]; exact h
    rw [upd_else c _ (hne g h2 h')]
    exact hc g h'
  · subst h2
    have := (inL_iff.1 h).2.2.2
    omega
  · rw [(round_inner L hf hfr g h2).2] at h
    simp at h
theorem go_jumpP (L : Lk t) (hs : ∀ k, k < t.length → 0 ≤ s k) {c : Int → Int} {i : Nat} (hi : i < t.length) (hc : Cn t c i) (hd : (nth t i).d = 11 ∨ (nth t i).d = 12) :
    s i + phi t s c (nth t i).a.toNat ≤ phi t s c i ∧ Cn t c (nth t i).a.toNat := by
  obtain ⟨h1, h2⟩ := L.fwd i hi hd
  have key : ∀ g, inL t g (nth t i).a.toNat = true → inL t g i = true := fun g hg => by
    have h3 := inL_iff.1 hg
    have := L.jdoc i hi hd (g - 1) h3.2.2.1 (by rw [show g - 1 + 1 = g by omega]; exact hg)
    rw [show g - 1 + 1 = g by omega] at this
    exact this
  exact ⟨phi_step hs hi (fun k => r_jump L.bs L.prs c i _ k hc (by omega) key), fun g hg => hc g (key g hg)⟩

/-- At first: the bound. -/
theorem mM_first (k : Nat) : ∀ l, (∀ f, f ∈ l → inL t f 0 = false) → mM t 0 k l = pr t (l.filter (fun f => inL t f k))
  | [], _ => rfl
  | f :: l, h => by
    simp only [mM, List.filter_cons]
    rw [mM_first k l (fun g hg => h g (by simp [hg])), h f (by simp)]
    by_cases hk : inL t f k = true
    · simp only [hk, and_self, if_true, pr, bOf]
      exact Int.mul_comm _ _
    · simp [hk]
theorem dn_range : ∀ n, dn n = (List.range (n + 1)).reverse
  | 0 => rfl
  | n + 1 => by
    rw [List.range_succ, List.reverse_append]
    simp [dn, dn_range n]
theorem inL_zero (f : Nat) : inL t f 0 = false := by
  cases h : inL t f 0 with
  | false => rfl
  | true => have := inL_iff.1 h; omega
theorem rR_first (c : Int → Int) (k : Nat) (hk : k < t.length) : rR t c 0 k = pr t (inn t (k + 1) k) := by
  unfold rR
  have hq := qQ_skip (t := t) c 0 k (dn t.length) [] (fun f _ => inL_zero f)
  rw [List.append_nil] at hq
  rw [hq, if_pos (Nat.zero_le _), mM_first k _ (fun f _ => inL_zero f), dn_range]
  obtain ⟨m, hm⟩ : ∃ m, t.length + 1 = k + 1 + m := ⟨t.length - k, by omega⟩
  have : (List.range (t.length + 1)).reverse.filter (fun f => inL t f k) = inn t (k + 1) k := by
    rw [hm, ← inn_more t k m]
    rfl
  rw [this]
  simp [qQ]
theorem sumP_exact (hB : Bs t) (hs : ∀ k, 1 ≤ s k) : ∀ n, sumP t s n ≤ 1000000000 → sumP t s n = sumI (fun k => s k * pr t (inn t (k + 1) k)) n
  | 0, _ => rfl
  | n + 1, h => by
    have h0 := sumP_bd hB s hs n
    have hp := pr_pos hB (inn t (n + 1) n) inn_enter
    have hd := prd_is hB (inn t (n + 1) n) inn_enter
    have hpd := prd_bd hB (n + 1) n
    have hm := mul_ge (hs n) hpd.1
    simp only [sumP, sumI, top1] at *
    have h1 : s n * prd t (inn t (n + 1) n) ≤ 1000000000 := by omega
    have h2 : prd t (inn t (n + 1) n) ≤ 1000000000 := by
      have := mul_ge hpd.1 (hs n)
      rw [Int.mul_comm] at this
      omega
    have h3 : prd t (inn t (n + 1) n) = pr t (inn t (n + 1) n) := by omega
    have ih := sumP_exact hB hs n (by omega)
    rw [h3] at h h1 hm ⊢
    omega
theorem phi_first (hB : Bs t) (hs : ∀ k, 1 ≤ s k) (c : Int → Int) (h : sumP t s t.length ≤ 1000000000) : phi t s c 0 = sumP t s t.length := by
  rw [sumP_exact hB hs _ h]
  unfold phi
  have : ∀ n, n ≤ t.length → sumI (fun k => s k * rR t c 0 k) n = sumI (fun k => s k * pr t (inn t (k + 1) k)) n := by
    intro n
    induction n with
    | zero => intro _; rfl
    | succ n ih =>
      intro hn
      simp only [sumI]
      rw [ih (by omega), rR_first c n (by omega)]
  exact this _ (Nat.le_refl _)
theorem cn_first (c : Int → Int) : Cn t c 0 := fun f h => by rw [inL_zero] at h; simp at h
end
end Go.Proofs.YtcgbfhpmkpglkaaGreatDoor
