/- bound. -/
import Derived.Test.YtbaijehecncclaaDoorL3
namespace Go.Proofs.YtbaijehecncclaaDoor
open Go.RowKit
attribute [local go_sem ↓] Go.wp_at_zero Go.wp_at_succ
set_option linter.unusedVariables false
set_option linter.unusedSimpArgs false

/-- The steps of an instruction, once. -/
def stepS (bds : List Int) (x : Ins) : Int := if x.d = 16 then x.b else if x.d = 17 then 1 + bds.getD x.a.toNat 0 else 1

theorem mul_bd {a b : Int} (ha : 1 ≤ a) (ha' : a ≤ 1000000001) (hb : 1 ≤ b) (hb' : b ≤ 1000000001) : 1 ≤ a * b ∧ a * b ≤ 1000000002000000001 := by
  refine ⟨(mul_ge ha hb).1, ?_⟩
  have h1 : a * b ≤ 1000000001 * b := Int.mul_le_mul_of_nonneg_right ha' (by omega)
  have h2 : (1000000001 : Int) * b ≤ 1000000001 * 1000000001 := Int.mul_le_mul_of_nonneg_left hb' (by omega)
  omega

set_option maxRecDepth 10000 in
set_option maxHeartbeats 4000000 in
theorem bound_any (o tb : Nat) (t : List Ins) (bds TM : List Int) (bv : Value) (w : World) (hO : OvT w o t) (hl : t.length ≤ 100000) (hb1 : w.cell? ⟨o, 1, none⟩ = some bv) (hb2 : rd w bv bds) (ht : w.cell? ⟨o, 4, none⟩ = some (.slice (some ⟨tb, 0, none⟩) t.length t.length)) (hT : w.heap[tb]? = some (.cells (intsA TM) 3)) (hTl : TM.length = t.length)
    (hTM : ∀ k, k < t.length → TM.getD k 0 = prd t (inn t (k + 1) k) ∧ 1 ≤ TM.getD k 0 ∧ TM.getD k 0 ≤ 1000000001)
    (hs : ∀ k, k < t.length → 1 ≤ stepS bds (nth t k) ∧ stepS bds (nth t k) ≤ 1000000001)
    (hr : ∀ k, k < t.length → (nth t k).d = 17 → 0 ≤ (nth t k).a ∧ (nth t k).a < bds.length) (hbl : bds.length ≤ 1000) :
    Calls Tryd.prog 24 #[.pointer (some ⟨o, 0, none⟩)] w fun e w' => e = .returned (.int .i64 (sumP t (fun k => stepS bds (nth t k)) t.length)) ∧ w.grownBy w' none := by
  obtain ⟨pb, po, tv, h1, h2, ta, tcap, rfl, hTx⟩ := hO
  obtain ⟨ba, bcap, rfl, hbd⟩ := hb2
  have HT : Hid (t = [] ∨ ∃ b off, ta = some ⟨b, off, none⟩ ∧ ∀ i, i < t.length →
    w.cell? ⟨b, off + i * 4, none⟩ = some (.int .i64 (nth t i).d) ∧ w.cell? ⟨b, off + i * 4 + 1, none⟩ = some (.int .i64 (nth t i).a) ∧
    w.cell? ⟨b, off + i * 4 + 2, none⟩ = some (.int .i64 (nth t i).b) ∧ w.cell? ⟨b, off + i * 4 + 3, none⟩ = some (.int .i64 (nth t i).c)) := hTx
  have HBD : Hid (bds = [] ∨ ∃ b off, ba = some ⟨b, off, none⟩ ∧ ∀ i, i < bds.length → w.cell? ⟨b, off + i, none⟩ = some (.int .i64 (bds.getD i 0))) := hbd
  have HTM : Hid (∀ k, k < t.length → TM.getD k 0 = prd t (inn t (k + 1) k) ∧ 1 ≤ TM.getD k 0 ∧ TM.getD k 0 ≤ 1000000001) := hTM
  have HS : Hid (∀ k, k < t.length → 1 ≤ stepS bds (nth t k) ∧ stepS bds (nth t k) ≤ 1000000001) := hs
  have HR : Hid (∀ k, k < t.length → (nth t k).d = 17 → 0 ≤ (nth t k).a ∧ (nth t k).a < bds.length) := hr
  have HH : Hid (w.heap[tb]? = some (.cells (intsA TM) 3)) := hT
  have HL : Hid (TM.length = t.length) := hTl
  clear hTx hbd hTM hs hr hT hTl
  obtain ⟨n, hn⟩ : ∃ n, t.length = n := ⟨_, rfl⟩
  have HN : Hid (t.length = n) := hn
  rw [hn] at hl h2 ht ⊢
  have HO4 : Hid (w.cell? ⟨o, 4, none⟩ = some (.slice (some ⟨tb, 0, none⟩) n n)) := ht
  have HO1 : Hid (w.cell? ⟨o, 1, none⟩ = some (.slice ba bds.length bcap)) := hb1
  clear hn ht hb1
  obtain ⟨F, hF⟩ : ∃ F, F = (fun k => stepS bds (nth t k)) := ⟨_, rfl⟩
  rw [← hF]
  have HF : Hid (F = (fun k => stepS bds (nth t k))) := hF
  clear hF
  go_enter Tryd.func24, Tryd.ntmps24
  go_wp2
  go_loopg [3, 15] n (fun gk s3 s15 wx => ∃ k : Nat, s15 = .int .i64 k ∧ k ≤ n ∧ gk = n - k ∧ s3 = .int .i64 (sumP t F k) ∧ 0 ≤ sumP t F k ∧ sumP t F k ≤ 1000000001 ∧ w.grownBy wx none)
  case atStart => exact ⟨0, rfl, Nat.zero_le _, by omega, rfl, by simp [sumP], by simp [sumP], World.grownBy.refl _ _⟩
  case round =>
    obtain ⟨k, rfl, hk, hgk, rfl, hp0, hp1, hgr⟩ := hrel
    have HG : Hid (gk = n - k) := hgk
    clear hgk
    by_cases hlt : k < n
    · have hkl : k < t.length := by rw [HN.out]; exact hlt
      rcases HT.out with h | ⟨b', off, rfl, hc⟩
      · subst h; simp at hkl
      obtain ⟨q0, q1, q2, q3⟩ := hc k hkl
      have q0 := hgr.cell q0 (by simp)
      have q1 := hgr.cell q1 (by simp)
      have q2 := hgr.cell q2 (by simp)
      have q3 := hgr.cell q3 (by simp)
      clear hc
      obtain ⟨s1, s2⟩ := HS.out k hkl
      obtain ⟨t0, t1, t2⟩ := HTM.out k hkl
      have hnx : sumP t F (k + 1) = min (sumP t F k + min (stepS bds (nth t k) * TM.getD k 0) top1) top1 := by rw [t0, HF.out]; rfl
      have HNX : Hid (sumP t F (k + 1) = min (sumP t F k + min (stepS bds (nth t k) * TM.getD k 0) top1) top1) := hnx
      have c0 := ints_get HH.out k (by rw [HL.out]; exact hkl)
      have C0 : ∀ ob, (wr.alloc ob).cell? ⟨tb, k, none⟩ = some (.int .i64 (TM.getD k 0)) := fun ob => (hgr.trans (gr1 wr ob)).cell c0 (by simp)
      have C4 : ∀ ob, (wr.alloc ob).cell? ⟨o, 4, none⟩ = some (.slice (some ⟨tb, 0, none⟩) n n) := fun ob => (hgr.trans (gr1 wr ob)).cell HO4.out (by simp)
      have C1 : ∀ ob, (wr.alloc ob).cell? ⟨o, 1, none⟩ = some (.slice ba bds.length bcap) := fun ob => (hgr.trans (gr1 wr ob)).cell HO1.out (by simp)
      generalize TM.getD k 0 = tm at *
      have HRK : Hid ((nth t k).d = 17 → 0 ≤ (nth t k).a ∧ (nth t k).a < bds.length) := HR.out k hkl
      generalize nth t k = x at *
      obtain ⟨d, a, b, c⟩ := x
      dsimp only at q0 q1 q2 q3 HRK
      clear c0 t0 hnx
      generalize sumP t F k = S at *
      have i1 : (0 : Int) ≤ (k : Int) := by omega
      have i2 : (k : Int) < (n : Int) := by omega
      obtain ⟨m1, m2⟩ := mul_bd s1 s2 t1 t2
      obtain ⟨st, hst⟩ : ∃ st, stepS bds ⟨d, a, b, c⟩ = st := ⟨_, rfl⟩
      have HST : Hid (stepS bds ⟨d, a, b, c⟩ = st) := hst
      rw [hst] at m1 m2 s1 s2
      have HN2 : Hid (sumP t F (k + 1) = min (S + min (st * tm) top1) top1) := (by rw [HNX.out, hst] : sumP t F (k + 1) = min (S + min (st * tm) top1) top1)
      have e1 : wrap64 (st * tm) = st * tm := by unfold wrap64; omega
      have e1' : IntKind.i64.wrap (st * tm) = st * tm := by rw [IntWalk.i64_left]; exact e1
      have e2 : wrap64 (S + min (st * tm) top1) = S + min (st * tm) top1 := by simp only [top1]; unfold wrap64; omega
      have HB2 : Hid (0 ≤ sumP t F (k + 1) ∧ sumP t F (k + 1) ≤ 1000000001) := (by rw [HN2.out]; simp only [top1]; omega : 0 ≤ sumP t F (k + 1) ∧ sumP t F (k + 1) ≤ 1000000001)
      clear hst HNX
      by_cases h16 : d = 16
      · subst h16
        have : b = st := by rw [← HST.out]; simp [stepS]
        subst this
        go_wp2_with (first | (go_at_call 32; refine (capped_any _ _).mono ?_; rintro e w' ⟨rfl, rfl⟩))
        have hgl := HG.out
        go_roundg (n - (k + 1))
        all_goals first | omega | exact ⟨k + 1, by go_num, by omega, by omega, by rw [HN2.out], HB2.out.1, HB2.out.2, gr_alloc hgr _⟩
      · by_cases h17 : d = 17
        · subst h17
          obtain ⟨r1, r2⟩ := HRK.out rfl
          obtain ⟨m, hm⟩ := Int.eq_ofNat_of_zero_le r1
          subst hm
          rcases HBD.out with h | ⟨b2, off2, rfl, hcb⟩
          · subst h; simp at r2; omega
          have d0 := hcb m (by omega)
          have D0 : ∀ ob, (wr.alloc ob).cell? ⟨b2, off2 + m, none⟩ = some (.int .i64 (bds.getD m 0)) := fun ob => (hgr.trans (gr1 wr ob)).cell d0 (by simp)
          have hstz : 1 + bds.getD m 0 = st := by rw [← HST.out]; simp [stepS]
          generalize bds.getD m 0 = z at *
          have e3 : wrap64 (1 + z) = st := by rw [← hstz]; unfold wrap64; omega
          have e3' : IntKind.i64.wrap (1 + z) = st := by rw [IntWalk.i64_left]; exact e3
          have HZ : Hid (1 + z = st) := hstz
          have j1 : (0 : Int) ≤ (m : Int) := by omega
          have j2 : (m : Int) < (bds.length : Int) := by omega
          clear hcb d0 hstz
          go_wp2_with (first | (go_at_call 32; refine (capped_any _ _).mono ?_; rintro e w' ⟨rfl, rfl⟩))
          go_quiet (fail)
          go_wp2_with (first | (go_at_call 32; refine (capped_any _ _).mono ?_; rintro e w' ⟨rfl, rfl⟩))
          have hgl := HG.out
          go_roundg (n - (k + 1))
          all_goals first | omega | exact ⟨k + 1, by go_num, by omega, by omega, by rw [HN2.out], HB2.out.1, HB2.out.2, gr_drewN (gr_alloc hgr _) _⟩
        · have : st = 1 := by rw [← HST.out]; simp [stepS, h16, h17]
          subst this
          have e16 : (d == 16) = false := by simpa using h16
          have e17 : (d == 17) = false := by simpa using h17
          rw [Int.one_mul] at e1 e1' e2
          go_wp2_with (first | (go_at_call 32; refine (capped_any _ _).mono ?_; rintro e w' ⟨rfl, rfl⟩))
          have hgl := HG.out
          go_roundg (n - (k + 1))
          all_goals first | omega | exact ⟨k + 1, by go_num, by omega, by omega, by rw [HN2.out, Int.one_mul], HB2.out.1, HB2.out.2, gr_alloc hgr _⟩
    · have hk' : ¬ ((k : Int) < (n : Int)) := by omega
      have hkn : k = n := by omega
      subst hkn
      go_wp2
      go_ret
      exact ⟨rfl, hgr⟩
end Go.Proofs.YtbaijehecncclaaDoor
