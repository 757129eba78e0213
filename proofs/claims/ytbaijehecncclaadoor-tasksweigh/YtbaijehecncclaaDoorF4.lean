/- The document's answer: instrOk, Run and Std; whatever the instruction. -/
import Derived.Test.YtbaijehecncclaaDoorF3
import Derived.Test.YtbaijehecncclaaDoorF5
namespace Go.Proofs.YtbaijehecncclaaDoor
open Go.RowKit
attribute [local go_sem ↓] Go.wp_at_zero Go.wp_at_succ
set_option linter.unusedVariables false
set_option linter.unusedSimpArgs false

set_option maxRecDepth 10000 in
set_option maxHeartbeats 4000000 in
theorem instrOk_17 (a b c : Int) (l : List (Int × Nat)) (fn n i u : Nat) (psv : Value) (w : World) (hC : CdAt w psv u l fn n i ⟨17, a, b, c⟩) (hf : fn ≤ 1000000000000) (hn : n ≤ 1000000000000) (hu : u ≤ 1000000000000) (hm : ∀ j, (l.getD j (0, 0)).2 ≤ 1000000000000) :
    Calls Tryd.prog 10 #[psv, .int .i64 u, .int .i64 i] w fun e w' => e = .returned (.bool (okD l fn n i ⟨17, a, b, c⟩)) ∧ w.grownBy w' none := by
  obtain ⟨⟨b', off, np, cap, fa, fc, tb, toff, tc, rfl, hun, p2, p4, hin, q0, q1, q2, q3, hll, hah⟩⟩ := hC
  dsimp only at q0 q1 q2 q3
  have i1 : (0 : Int) ≤ (u : Int) := by omega
  have i2 : (u : Int) < (np : Int) := by omega
  have i3 : (0 : Int) ≤ (i : Int) := by omega
  have i4 : (i : Int) < (n : Int) := by omega
  have P2 : ∀ ob, (w.alloc ob).cell? ⟨b', off + u * 5 + 2, none⟩ = some (.slice fa fn fc) := fun ob => (gr1 w ob).cell p2 (by simp)
  have P4 : ∀ ob, (w.alloc ob).cell? ⟨b', off + u * 5 + 4, none⟩ = some (.slice (some ⟨tb, toff, none⟩) n tc) := fun ob => (gr1 w ob).cell p4 (by simp)
  clear p2
  by_cases hc : c = 0
  case neg =>
    have HV : Hid (okD l fn n i ⟨17, a, b, c⟩ = false) := (by simp [okD, hc] : okD l fn n i ⟨17, a, b, c⟩ = false)
    rw [HV.out]
    have hc2 : (c == 0) = false := by simpa using hc
    go_enter Tryd.func10, Tryd.ntmps10
    go_wp2
    go_ret
    refine ⟨?_, gr1 _ _⟩
    simp
  by_cases g1 : 0 ≤ a
  case neg =>
    have HV : Hid (okD l fn n i ⟨17, a, b, c⟩ = false) := (by simp [okD]; omega : okD l fn n i ⟨17, a, b, c⟩ = false)
    rw [HV.out]
    have hd1 : decide (0 ≤ a) = false := by simpa using g1
    subst hc
    go_enter Tryd.func10, Tryd.ntmps10
    go_wp2
    go_quiet (fail)
    go_wp2
    go_ret
    refine ⟨?_, gr_drewN (gr1 _ _) _⟩
    simp
  obtain ⟨k, rfl⟩ := Int.eq_ofNat_of_zero_le g1
  have hd1 : decide ((0 : Int) ≤ (k : Int)) = true := by simp
  by_cases g2 : (k : Int) < (u : Int)
  case neg =>
    have HV : Hid (okD l fn n i ⟨17, (k : Int), b, c⟩ = false) := (by simp [okD]; omega : okD l fn n i ⟨17, (k : Int), b, c⟩ = false)
    rw [HV.out]
    have hd2 : decide ((k : Int) < (u : Int)) = false := by simpa using g2
    have hd2' : decide (k < u) = false := by simp; omega
    subst hc
    go_enter Tryd.func10, Tryd.ntmps10
    go_wp2
    go_quiet (fail)
    go_wp2
    go_ret
    refine ⟨?_, gr_drewN (gr1 _ _) _⟩
    simp
  have hd2 : decide ((k : Int) < (u : Int)) = true := by simpa using g2
  have hd2' : decide (k < u) = true := by simp; omega
  obtain ⟨c1, fa', fc', c2⟩ := hah k (by omega)
  have C1 : ∀ ob, (w.alloc ob).cell? ⟨b', off + k * 5, none⟩ = some (.int .i64 (l.getD k (0, 0)).1) := fun ob => (gr1 w ob).cell c1 (by simp)
  have C2 : ∀ ob, (w.alloc ob).cell? ⟨b', off + k * 5 + 2, none⟩ = some (.slice fa' (l.getD k (0, 0)).2 fc') := fun ob => (gr1 w ob).cell c2 (by simp)
  clear c1 c2 hah
  have j2 : (k : Int) < (np : Int) := by omega
  have HW : Hid (okD l fn n i ⟨17, (k : Int), b, c⟩ = ((c == 0) && ((l.getD k (0, 0)).1 != 1 && decide (0 ≤ b) && decide (b ≤ fn) && decide (b + (l.getD k (0, 0)).2 ≤ fn)))) := (by
    simp [okD, hll, g2, hc, Bool.and_assoc] : okD l fn n i ⟨17, (k : Int), b, c⟩ = ((c == 0) && ((l.getD k (0, 0)).1 != 1 && decide (0 ≤ b) && decide (b ≤ fn) && decide (b + (l.getD k (0, 0)).2 ≤ fn))))
  have hmk := hm k
  rw [HW.out]
  generalize (l.getD k (0, 0)).1 = kd at *
  generalize (l.getD k (0, 0)).2 = m at *
  clear hll hm HW
  subst hc
  by_cases g3 : kd = 1
  case pos =>
    subst g3
    go_enter Tryd.func10, Tryd.ntmps10
    go_wp2
    go_quiet (fail)
    go_wp2
    go_ret
    refine ⟨?_, gr_drewN (gr1 _ _) _⟩
    simp
  have hd3 : (kd == 1) = false := by simpa using g3
  have hd3' : (kd != 1) = true := by simpa using g3
  rw [hd3']
  by_cases g4 : 0 ≤ b
  case neg =>
    have hd4 : decide (0 ≤ b) = false := by simpa using g4
    rw [hd4]
    go_enter Tryd.func10, Tryd.ntmps10
    go_wp2
    go_quiet (fail)
    go_wp2
    go_ret
    refine ⟨?_, gr_drewN (gr1 _ _) _⟩
    simp
  have hd4 : decide (0 ≤ b) = true := by simpa using g4
  rw [hd4]
  by_cases g5 : b ≤ (fn : Int)
  case neg =>
    have hd5 : decide (b ≤ (fn : Int)) = false := by simpa using g5
    rw [hd5]
    go_enter Tryd.func10, Tryd.ntmps10
    go_wp2
    go_quiet (fail)
    go_wp2
    go_ret
    refine ⟨?_, gr_drewN (gr1 _ _) _⟩
    simp
  have hd5 : decide (b ≤ (fn : Int)) = true := by simpa using g5
  rw [hd5]
  have e1 : wrap64 (b + (m : Int)) = b + (m : Int) := by unfold wrap64; omega
  go_enter Tryd.func10, Tryd.ntmps10
  go_wp2
  go_quiet (fail)
  go_wp2
  go_ret
  refine ⟨?_, gr_drewN (gr1 _ _) _⟩
  simp

set_option maxRecDepth 10000 in
set_option maxHeartbeats 4000000 in
theorem instrOk_18 (a b c : Int) (l : List (Int × Nat)) (fn n i u : Nat) (psv : Value) (w : World) (hC : CdAt w psv u l fn n i ⟨18, a, b, c⟩) (hf : fn ≤ 1000000000000) (hn : n ≤ 1000000000000) (hu : u ≤ 1000000000000) (hm : ∀ j, (l.getD j (0, 0)).2 ≤ 1000000000000) :
    Calls Tryd.prog 10 #[psv, .int .i64 u, .int .i64 i] w fun e w' => e = .returned (.bool (okD l fn n i ⟨18, a, b, c⟩)) ∧ w.grownBy w' none := by
  have HC : Hid (CdAt w psv u l fn n i ⟨18, a, b, c⟩) := hC
  obtain ⟨⟨b', off, np, cap, fa, fc, tb, toff, tc, rfl, hun, p2, p4, hin, q0, q1, q2, q3, hll, hah⟩⟩ := hC
  dsimp only at q0 q1 q2 q3
  have i1 : (0 : Int) ≤ (u : Int) := by omega
  have i2 : (u : Int) < (np : Int) := by omega
  have i3 : (0 : Int) ≤ (i : Int) := by omega
  have i4 : (i : Int) < (n : Int) := by omega
  have P2 : ∀ ob, (w.alloc ob).cell? ⟨b', off + u * 5 + 2, none⟩ = some (.slice fa fn fc) := fun ob => (gr1 w ob).cell p2 (by simp)
  have P4 : ∀ ob, (w.alloc ob).cell? ⟨b', off + u * 5 + 4, none⟩ = some (.slice (some ⟨tb, toff, none⟩) n tc) := fun ob => (gr1 w ob).cell p4 (by simp)
  clear p2
  clear hah hll
  by_cases hc : c = 0
  case neg =>
    have HV : Hid (okD l fn n i ⟨18, a, b, c⟩ = false) := (by simp [okD, hc] : okD l fn n i ⟨18, a, b, c⟩ = false)
    rw [HV.out]
    have hc2 : (c == 0) = false := by simpa using hc
    go_enter Tryd.func10, Tryd.ntmps10
    go_wp2
    go_ret
    refine ⟨?_, gr1 _ _⟩
    simp
  subst hc
  by_cases h12 : 1 ≤ a ∧ a ≤ 12
  case pos =>
    have HV : Hid (okD l fn n i ⟨18, a, b, 0⟩ = wordsS b (stdW a) fn) := (by simp [okD, h12.1, h12.2] : okD l fn n i ⟨18, a, b, 0⟩ = wordsS b (stdW a) fn)
    rw [HV.out]
    have hp := stdW_pos h12.1 h12.2
    have cS : ∀ w', w.grownBy w' none → w'.cell? ⟨w.heap.size, 1, none⟩ = some (.int .i64 a) → w'.cell? ⟨w.heap.size, 2, none⟩ = some (.int .i64 b) → Calls Tryd.prog 20 #[.int .i64 a] w' fun e w2 => e = .returned (.int .i64 (stdW a)) ∧ w2.cell? ⟨w.heap.size, 1, none⟩ = some (.int .i64 a) ∧ w2.cell? ⟨w.heap.size, 2, none⟩ = some (.int .i64 b) ∧ w.grownBy w2 none := fun w' hg k1 k2 => (stdSize_any a w' h12.1 h12.2).mono fun e w2 h => ⟨h.1, h.2.cell k1 (by simp), h.2.cell k2 (by simp), hg.trans h.2⟩
    clear HV
    generalize stdW a = m at *
    have hdm : decide (0 < m) = true := by simpa using hp
    go_enter Tryd.func10, Tryd.ntmps10
    go_wp2
    go_region_held3 (fun w' => w'.cell? ⟨w.heap.size, 1, none⟩ = some (.int .i64 a) ∧ w'.cell? ⟨w.heap.size, 2, none⟩ = some (.int .i64 b) ∧ w.grownBy w' none) (refine ⟨?_, ?_, ?_⟩ <;> first | assumption | exact gr_drew (gr1 _ _) | (go_keep; done)) (first | (go_at_call 20; refine (cS _ (by first | assumption | exact gr_drew (gr1 _ _)) (by first | assumption | (go_keep; done)) (by first | assumption | (go_keep; done))).mono ?_; rintro e w1 ⟨rfl, k1, k2, hg1⟩) | (go_at_call 16; refine (wordsIn_any _ _ _ _ hf).mono ?_; rintro e w' ⟨rfl, rfl⟩))
    go_wp2
    go_ret
    refine ⟨?_, by assumption⟩
    simp
  case neg => exact instrOk_18n a b 0 h12 l fn n i u _ w HC.out hf hn hu hm

end Go.Proofs.YtbaijehecncclaaDoor
