/- Texts put together: BlL3, N7, N2, N8, N9, Na, Nb, A2, A3, A3r, A3s. -/
import Derived.Test.YtcgbfhpmkpglkaaGreatDoorQ05
import Derived.Test.YtcgbfhpmkpglkaaGreatDoorQ10
import Derived.Test.YtcgbfhpmkpglkaaGreatDoorQ11
import Derived.Test.YtcgbfhpmkpglkaaGreatDoorQ09
import Derived.Test.YtcgbfhpmkpglkaaGreatDoorQ03
import Derived.Deep.RegionWith
/- Step at ctud. -/
namespace Go.Proofs.YtcgbfhpmkpglkaaGreatDoor.Bl
open Go.RowKit

set_option linter.unusedVariables false
set_option linter.unusedSimpArgs false
theorem load_u (p b T : Nat) (l : List Int) (w : World) (hp : w.heap[p]? = some (.cells #[.bool false, .bool false, .int .i64 0] T)) (hb : w.heap[b]? = some (.cells (intsA (wrapL [1, 1, 2] l)) 3)) (hne : p ≠ b) :
    Calls Tryz.prog 143 #[.pointer (some ⟨p, 0, none⟩), .slice (some ⟨b, 0, none⟩) 3 3] w fun e w' => e = .returned (.tuple #[]) ∧ w'.heap[p]? = some (.cells (A3 (wrapL [1, 1, 2] l)) T) ∧ w.grownBy w' (some p) := by
  obtain ⟨a0, a1, a2, e⟩ := form3 1 1 2 l
  rw [e] at hb ⊢
  exact load_ctud p b T 3 _ _ _ _ _ _ w hp hb hne
theorem save_u (p T : Nat) (n0 n1 n2 : Int) (h0 : n0 = 0 ∨ n0 = 1) (h1 : n1 = 0 ∨ n1 = 1) (w : World) (hp : w.heap[p]? = some (.cells (A3 [n0, n1, n2]) T)) :
    Calls Tryz.prog 144 #[.pointer (some ⟨p, 0, none⟩)] w fun e w' => e = .returned (.slice (some ⟨w.heap.size, 0, none⟩) 3 3) ∧ w'.heap[w.heap.size]? = some (.cells (intsA [n0, n1, n2]) 3) ∧ w.grownBy w' none := by
  have h := save_ctud p T n2 (n0 != 0) (n1 != 0) w hp
  rw [yes_bit h0, yes_bit h1] at h
  exact h

theorem ctud_step (p b T : Nat) (x0 x1 x2 i0 i1 i2 i3 i4 now : Int) (h_x0 : x0 = 0 ∨ x0 = 1) (h_x1 : x1 = 0 ∨ x1 = 1) (l_x2 : -32768 ≤ x2) (u_x2 : x2 ≤ 32767) (h_i0 : i0 = 0 ∨ i0 = 1) (h_i1 : i1 = 0 ∨ i1 = 1) (h_i2 : i2 = 0 ∨ i2 = 1) (h_i3 : i3 = 0 ∨ i3 = 1) (l_i4 : -32768 ≤ i4) (u_i4 : i4 ≤ 32767) (l_now : 0 ≤ now) (u_now : now ≤ 4294967295) (w : World)
    (hp : w.heap[p]? = some (.cells (A3 [x0, x1, x2]) T)) (hb : w.heap[b]? = some (.cells (intsA [i0, i1, i2, i3, i4]) 3)) (hne : p ≠ b) :
    Calls Tryz.prog 146 #[.pointer (some ⟨p, 0, none⟩), .slice (some ⟨b, 0, none⟩) 5 5, .int .i64 now] w fun e w' => e = .returned (.slice (some ⟨w.heap.size, 0, none⟩) 3 3) ∧ w'.heap[w.heap.size]? = some (.cells (intsA (ctudF [x0, x1, x2] [i0, i1, i2, i3, i4] now).2) 3) ∧ w'.heap[p]? = some (.cells (A3 (ctudF [x0, x1, x2] [i0, i1, i2, i3, i4] now).1) T) ∧ w.grownBy w' (some p) := by
  rcases h_i0 with rfl | rfl <;> rcases h_i1 with rfl | rfl
  · rcases h_i2 with rfl | rfl
    · rcases h_i3 with rfl | rfl
      · exact (ctud_c_ff_UD p b T (x0 != 0) (x1 != 0) x2 0 0 0 0 i4 now w hp hb hne rfl rfl rfl rfl l_x2 u_x2).mono fun e w' ⟨a1, a2, a3, a4⟩ => ⟨a1, a2.trans (by simp [ctudF, udN, intsA]), a3.trans (by simp [ctudF, udN, A3]), a4⟩
      · exact (ctud_l_ff p b T (x0 != 0) (x1 != 0) x2 0 0 0 1 i4 now w hp hb hne rfl rfl rfl rfl l_x2 u_x2).mono fun e w' ⟨a1, a2, a3, a4⟩ => ⟨a1, a2.trans (by simp [ctudF, udN, intsA, yesN]), a3.trans (by simp [ctudF, udN, A3]), a4⟩
    · exact (ctud_r_ff p b T (x0 != 0) (x1 != 0) x2 0 0 1 i3 i4 now w hp hb hne rfl rfl rfl l_x2 u_x2).mono fun e w' ⟨a1, a2, a3, a4⟩ => ⟨a1, a2.trans (by simp [ctudF, udN, intsA, yesN]), a3.trans (by simp [ctudF, udN, A3]), a4⟩
  · rcases h_i2 with rfl | rfl
    · rcases h_i3 with rfl | rfl
      · rcases h_x1 with rfl | rfl
        · exact (ctud_c_ft_Uf p b T (x0 != 0) x2 0 1 0 0 i4 now w hp hb hne rfl rfl rfl rfl l_x2 u_x2).mono fun e w' ⟨a1, a2, a3, a4⟩ => ⟨a1, a2.trans (by simp [ctudF, udN, intsA]), a3.trans (by simp [ctudF, udN, A3]), a4⟩
        · exact (ctud_c_ft_Ut p b T (x0 != 0) x2 0 1 0 0 i4 now w hp hb hne rfl rfl rfl rfl l_x2 u_x2).mono fun e w' ⟨a1, a2, a3, a4⟩ => ⟨a1, a2.trans (by simp [ctudF, udN, intsA]), a3.trans (by simp [ctudF, udN, A3]), a4⟩
      · exact (ctud_l_ft p b T (x0 != 0) (x1 != 0) x2 0 1 0 1 i4 now w hp hb hne rfl rfl rfl rfl l_x2 u_x2).mono fun e w' ⟨a1, a2, a3, a4⟩ => ⟨a1, a2.trans (by simp [ctudF, udN, intsA, yesN]), a3.trans (by simp [ctudF, udN, A3]), a4⟩
    · exact (ctud_r_ft p b T (x0 != 0) (x1 != 0) x2 0 1 1 i3 i4 now w hp hb hne rfl rfl rfl l_x2 u_x2).mono fun e w' ⟨a1, a2, a3, a4⟩ => ⟨a1, a2.trans (by simp [ctudF, udN, intsA, yesN]), a3.trans (by simp [ctudF, udN, A3]), a4⟩
  · rcases h_i2 with rfl | rfl
    · rcases h_i3 with rfl | rfl
      · rcases h_x0 with rfl | rfl
        · exact (ctud_c_tf_fD p b T (x1 != 0) x2 1 0 0 0 i4 now w hp hb hne rfl rfl rfl rfl l_x2 u_x2).mono fun e w' ⟨a1, a2, a3, a4⟩ => ⟨a1, a2.trans (by simp [ctudF, udN, intsA]), a3.trans (by simp [ctudF, udN, A3]), a4⟩
        · exact (ctud_c_tf_tD p b T (x1 != 0) x2 1 0 0 0 i4 now w hp hb hne rfl rfl rfl rfl l_x2 u_x2).mono fun e w' ⟨a1, a2, a3, a4⟩ => ⟨a1, a2.trans (by simp [ctudF, udN, intsA]), a3.trans (by simp [ctudF, udN, A3]), a4⟩
      · exact (ctud_l_tf p b T (x0 != 0) (x1 != 0) x2 1 0 0 1 i4 now w hp hb hne rfl rfl rfl rfl l_x2 u_x2).mono fun e w' ⟨a1, a2, a3, a4⟩ => ⟨a1, a2.trans (by simp [ctudF, udN, intsA, yesN]), a3.trans (by simp [ctudF, udN, A3]), a4⟩
    · exact (ctud_r_tf p b T (x0 != 0) (x1 != 0) x2 1 0 1 i3 i4 now w hp hb hne rfl rfl rfl l_x2 u_x2).mono fun e w' ⟨a1, a2, a3, a4⟩ => ⟨a1, a2.trans (by simp [ctudF, udN, intsA, yesN]), a3.trans (by simp [ctudF, udN, A3]), a4⟩
  · rcases h_i2 with rfl | rfl
    · rcases h_i3 with rfl | rfl
      · rcases h_x0 with rfl | rfl <;> rcases h_x1 with rfl | rfl
        · exact (ctud_c_tt_ff p b T x2 1 1 0 0 i4 now w hp hb hne rfl rfl rfl rfl l_x2 u_x2).mono fun e w' ⟨a1, a2, a3, a4⟩ => ⟨a1, a2.trans (by simp [ctudF, udN, intsA]), a3.trans (by simp [ctudF, udN, A3]), a4⟩
        · exact (ctud_c_tt_ft p b T x2 1 1 0 0 i4 now w hp hb hne rfl rfl rfl rfl l_x2 u_x2).mono fun e w' ⟨a1, a2, a3, a4⟩ => ⟨a1, a2.trans (by simp [ctudF, udN, intsA]), a3.trans (by simp [ctudF, udN, A3]), a4⟩
        · exact (ctud_c_tt_tf p b T x2 1 1 0 0 i4 now w hp hb hne rfl rfl rfl rfl l_x2 u_x2).mono fun e w' ⟨a1, a2, a3, a4⟩ => ⟨a1, a2.trans (by simp [ctudF, udN, intsA]), a3.trans (by simp [ctudF, udN, A3]), a4⟩
        · exact (ctud_c_tt_tt p b T x2 1 1 0 0 i4 now w hp hb hne rfl rfl rfl rfl l_x2 u_x2).mono fun e w' ⟨a1, a2, a3, a4⟩ => ⟨a1, a2.trans (by simp [ctudF, udN, intsA]), a3.trans (by simp [ctudF, udN, A3]), a4⟩
      · exact (ctud_l_tt p b T (x0 != 0) (x1 != 0) x2 1 1 0 1 i4 now w hp hb hne rfl rfl rfl rfl l_x2 u_x2).mono fun e w' ⟨a1, a2, a3, a4⟩ => ⟨a1, a2.trans (by simp [ctudF, udN, intsA, yesN]), a3.trans (by simp [ctudF, udN, A3]), a4⟩
    · exact (ctud_r_tt p b T (x0 != 0) (x1 != 0) x2 1 1 1 i3 i4 now w hp hb hne rfl rfl rfl l_x2 u_x2).mono fun e w' ⟨a1, a2, a3, a4⟩ => ⟨a1, a2.trans (by simp [ctudF, udN, intsA, yesN]), a3.trans (by simp [ctudF, udN, A3]), a4⟩

theorem ctud_form (x0 x1 x2 i0 i1 i2 i3 i4 now : Int) (h_x0 : x0 = 0 ∨ x0 = 1) (h_x1 : x1 = 0 ∨ x1 = 1) (h_i0 : i0 = 0 ∨ i0 = 1) (h_i1 : i1 = 0 ∨ i1 = 1) (h_i2 : i2 = 0 ∨ i2 = 1) (h_i3 : i3 = 0 ∨ i3 = 1) :
    ∃ n0 n1 n2, (ctudF [x0, x1, x2] [i0, i1, i2, i3, i4] now).1 = [n0, n1, n2] ∧ (n0 = 0 ∨ n0 = 1) ∧ (n1 = 0 ∨ n1 = 1) := by
  unfold ctudF
  simp only []
  repeat' split
  all_goals exact ⟨_, _, _, rfl, h_i0, h_i1⟩
theorem stepC_ctud : StepC ctudName 3 3 [1, 1, 2] [1, 1, 1, 1, 2] ctudF := by
  intro vs vi l li now w hr hri
  obtain ⟨a0, a1, a2, e⟩ := form3 1 1 2 l
  obtain ⟨c0, c1, c2, c3, c4, e'⟩ := form5 1 1 1 1 2 li
  have hst : ∀ (p b : Nat) (w : World), w.heap[p]? = some (.cells (A3 (wrapL [1, 1, 2] l)) 161) → w.heap[b]? = some (.cells (intsA (wrapL [1, 1, 1, 1, 2] li)) 3) → p ≠ b → Calls Tryz.prog 146 #[.pointer (some ⟨p, 0, none⟩), .slice (some ⟨b, 0, none⟩) 5 5, .int .i64 (wrapK 5 now)] w fun e w' => e = .returned (.slice (some ⟨w.heap.size, 0, none⟩) 3 3) ∧ w'.heap[w.heap.size]? = some (.cells (intsA (ctudF (wrapL [1, 1, 2] l) (wrapL [1, 1, 1, 1, 2] li) (wrapK 5 now)).2) 3) ∧ w'.heap[p]? = some (.cells (A3 (ctudF (wrapL [1, 1, 2] l) (wrapL [1, 1, 1, 1, 2] li) (wrapK 5 now)).1) 161) ∧ w.grownBy w' (some p) := by
    intro p b w hp hb hne
    rw [e] at hp ⊢
    rw [e'] at hb ⊢
    exact ctud_step p b 161 _ _ _ _ _ _ _ _ _ (bitK a0) (bitK a1) (intK a2).1 (intK a2).2 (bitK c0) (bitK c1) (bitK c2) (bitK c3) (intK c4).1 (intK c4).2 (timK now).1 (timK now).2 w hp hb hne
  have hsv : ∀ (p : Nat) (w : World), w.heap[p]? = some (.cells (A3 (ctudF (wrapL [1, 1, 2] l) (wrapL [1, 1, 1, 1, 2] li) (wrapK 5 now)).1) 161) → Calls Tryz.prog 144 #[.pointer (some ⟨p, 0, none⟩)] w fun e w' => e = .returned (.slice (some ⟨w.heap.size, 0, none⟩) 3 3) ∧ w'.heap[w.heap.size]? = some (.cells (intsA (ctudF (wrapL [1, 1, 2] l) (wrapL [1, 1, 1, 1, 2] li) (wrapK 5 now)).1) 3) ∧ w.grownBy w' none := by
    intro p w hp
    rw [e, e'] at hp ⊢
    obtain ⟨n0, n1, n2, hf, h0, h1⟩ := ctud_form (wrapK 1 a0) (wrapK 1 a1) (wrapK 2 a2) (wrapK 1 c0) (wrapK 1 c1) (wrapK 1 c2) (wrapK 1 c3) (wrapK 2 c4) (wrapK 5 now) (bitK a0) (bitK a1) (bitK c0) (bitK c1) (bitK c2) (bitK c3)
    rw [hf] at hp ⊢
    exact save_u p 161 n0 n1 n2 h0 h1 w hp
  exact step_gen ctudName 159 161 145 143 146 144 #[.bool false, .bool false, .int .i64 0] ctudI ctudO ctudS A3 ctudF vs vi l li now w (by decide) (by decide) named_ctud
    (fun _ _ => by kernel_rfl) (fun _ _ => by kernel_rfl) (fun _ _ => by kernel_rfl) (fun _ _ => by kernel_rfl) (fun _ _ => by kernel_rfl) (fun _ _ => by kernel_rfl)
    (fun _ _ => by kernel_rfl) (fun _ _ => by kernel_rfl) (fun _ _ => by kernel_rfl) (fun _ _ => by kernel_rfl)
    shape_ctud (fun p b w hp hb hne => load_u p b 161 l w hp hb hne) hst hsv hr hri

end Go.Proofs.YtcgbfhpmkpglkaaGreatDoor.Bl

/- The machine: whatever standard block. -/
namespace Go.Proofs.YtcgbfhpmkpglkaaGreatDoor
open Go.RowKit
set_option linter.unusedVariables false
set_option linter.unusedSimpArgs false

/-- What a step of a standard block leaves of a frame, by its number. -/
def stdA (num now : Int) (ar : List Int) (p : Nat) : List Int :=
  if num = 1 then stdF Bl.tonF [1, 5, 1, 5] [1, 5] 2 2 4 now ar p else
  if num = 2 then stdF Bl.tofF [1, 5, 1, 5] [1, 5] 2 2 4 now ar p else
  if num = 3 then stdF Bl.tpF [1, 5, 1, 5] [1, 5] 2 2 4 now ar p else
  if num = 4 then stdF Bl.ctuF [1, 2] [1, 1, 2] 3 2 2 now ar p else
  if num = 5 then stdF Bl.ctdF [1, 2] [1, 1, 2] 3 2 2 now ar p else
  if num = 6 then stdF Bl.ctudF [1, 1, 2] [1, 1, 1, 1, 2] 5 3 3 now ar p else
  if num = 7 then stdF Bl.rtrigF [1] [1] 1 1 1 now ar p else
  if num = 8 then stdF Bl.ftrigF [1] [1] 1 1 1 now ar p else
  if num = 9 then stdF Bl.srF [1] [1, 1] 2 1 1 now ar p else
  if num = 10 then stdF Bl.rsF [1] [1, 1] 2 1 1 now ar p else
  if num = 11 then stdF Bl.rampF [2] [2, 2] 2 1 1 now ar p else
  if num = 12 then stdF Bl.hystF [1] [2, 2, 2] 3 1 1 now ar p else
  ar
theorem stdF_len (Fn : List Int → List Int → Int → List Int × List Int) (kS kI : List Int) (ni no ns : Nat) (hl : Bl.LensC ns no kS kI Fn) (now : Int) (ar : List Int) (p : Nat) (h : p + (ni + no + ns) ≤ ar.length) : (stdF Fn kS kI ni no ns now ar p).length = ar.length := by
  unfold stdF
  obtain ⟨h1, h2⟩ := hl (sub ar (p + (ni + no)) ns) (sub ar p ni) (Bl.wrapK 5 now)
  have e : (put ar (p + ni) (Fn (Bl.wrapL kS (sub ar (p + (ni + no)) ns)) (Bl.wrapL kI (sub ar p ni)) (Bl.wrapK 5 now)).2).length = ar.length := put_len _ _ _ (by rw [h2]; omega)
  rw [put_len _ _ _ (by rw [h1, e]; omega), e]
theorem kit_ton (w : World) (hS : Stds w) : Calls Tryz.prog 72 #[.int .i64 1] w fun e w' => e = .returned (.agg #[.string Bl.tonName, .int .i64 ((2 : Nat) : Int), .int .i64 ((2 + 2 : Nat) : Int), .int .i64 ((2 + 2 + 4 : Nat) : Int)]) ∧ w.grownBy w' none :=
  (kit_gen 0 tonName tonI tonO tonS shapeC_ton (by decide) (by decide) (by decide) w (by omega) (hS 0 (by omega))).mono fun e w' h => ⟨h.1, h.2⟩
theorem kit_tof (w : World) (hS : Stds w) : Calls Tryz.prog 72 #[.int .i64 2] w fun e w' => e = .returned (.agg #[.string Bl.tofName, .int .i64 ((2 : Nat) : Int), .int .i64 ((2 + 2 : Nat) : Int), .int .i64 ((2 + 2 + 4 : Nat) : Int)]) ∧ w.grownBy w' none :=
  (kit_gen 1 tofName tofI tofO tofS shapeC_tof (by decide) (by decide) (by decide) w (by omega) (hS 1 (by omega))).mono fun e w' h => ⟨h.1, h.2⟩
theorem kit_tp (w : World) (hS : Stds w) : Calls Tryz.prog 72 #[.int .i64 3] w fun e w' => e = .returned (.agg #[.string Bl.tpName, .int .i64 ((2 : Nat) : Int), .int .i64 ((2 + 2 : Nat) : Int), .int .i64 ((2 + 2 + 4 : Nat) : Int)]) ∧ w.grownBy w' none :=
  (kit_gen 2 tpName tpI tpO tpS shapeC_tp (by decide) (by decide) (by decide) w (by omega) (hS 2 (by omega))).mono fun e w' h => ⟨h.1, h.2⟩
theorem kit_ctu (w : World) (hS : Stds w) : Calls Tryz.prog 72 #[.int .i64 4] w fun e w' => e = .returned (.agg #[.string Bl.ctuName, .int .i64 ((3 : Nat) : Int), .int .i64 ((3 + 2 : Nat) : Int), .int .i64 ((3 + 2 + 2 : Nat) : Int)]) ∧ w.grownBy w' none :=
  (kit_gen 3 ctuName ctuI ctuO ctuS shapeC_ctu (by decide) (by decide) (by decide) w (by omega) (hS 3 (by omega))).mono fun e w' h => ⟨h.1, h.2⟩
theorem kit_ctd (w : World) (hS : Stds w) : Calls Tryz.prog 72 #[.int .i64 5] w fun e w' => e = .returned (.agg #[.string Bl.ctdName, .int .i64 ((3 : Nat) : Int), .int .i64 ((3 + 2 : Nat) : Int), .int .i64 ((3 + 2 + 2 : Nat) : Int)]) ∧ w.grownBy w' none :=
  (kit_gen 4 ctdName ctdI ctdO ctdS shapeC_ctd (by decide) (by decide) (by decide) w (by omega) (hS 4 (by omega))).mono fun e w' h => ⟨h.1, h.2⟩
theorem kit_ctud (w : World) (hS : Stds w) : Calls Tryz.prog 72 #[.int .i64 6] w fun e w' => e = .returned (.agg #[.string Bl.ctudName, .int .i64 ((5 : Nat) : Int), .int .i64 ((5 + 3 : Nat) : Int), .int .i64 ((5 + 3 + 3 : Nat) : Int)]) ∧ w.grownBy w' none :=
  (kit_gen 5 ctudName ctudI ctudO ctudS shapeC_ctud (by decide) (by decide) (by decide) w (by omega) (hS 5 (by omega))).mono fun e w' h => ⟨h.1, h.2⟩
theorem kit_rtrig (w : World) (hS : Stds w) : Calls Tryz.prog 72 #[.int .i64 7] w fun e w' => e = .returned (.agg #[.string Bl.rtrigName, .int .i64 ((1 : Nat) : Int), .int .i64 ((1 + 1 : Nat) : Int), .int .i64 ((1 + 1 + 1 : Nat) : Int)]) ∧ w.grownBy w' none :=
  (kit_gen 6 rtrigName edgeI edgeO edgeS shapeC_rtrig (by decide) (by decide) (by decide) w (by omega) (hS 6 (by omega))).mono fun e w' h => ⟨h.1, h.2⟩
theorem kit_ftrig (w : World) (hS : Stds w) : Calls Tryz.prog 72 #[.int .i64 8] w fun e w' => e = .returned (.agg #[.string Bl.ftrigName, .int .i64 ((1 : Nat) : Int), .int .i64 ((1 + 1 : Nat) : Int), .int .i64 ((1 + 1 + 1 : Nat) : Int)]) ∧ w.grownBy w' none :=
  (kit_gen 7 ftrigName edgeI edgeO edgeS shapeC_ftrig (by decide) (by decide) (by decide) w (by omega) (hS 7 (by omega))).mono fun e w' h => ⟨h.1, h.2⟩
theorem kit_sr (w : World) (hS : Stds w) : Calls Tryz.prog 72 #[.int .i64 9] w fun e w' => e = .returned (.agg #[.string Bl.srName, .int .i64 ((2 : Nat) : Int), .int .i64 ((2 + 1 : Nat) : Int), .int .i64 ((2 + 1 + 1 : Nat) : Int)]) ∧ w.grownBy w' none :=
  (kit_gen 8 srName srI srO srS shapeC_sr (by decide) (by decide) (by decide) w (by omega) (hS 8 (by omega))).mono fun e w' h => ⟨h.1, h.2⟩
theorem kit_rs (w : World) (hS : Stds w) : Calls Tryz.prog 72 #[.int .i64 10] w fun e w' => e = .returned (.agg #[.string Bl.rsName, .int .i64 ((2 : Nat) : Int), .int .i64 ((2 + 1 : Nat) : Int), .int .i64 ((2 + 1 + 1 : Nat) : Int)]) ∧ w.grownBy w' none :=
  (kit_gen 9 rsName rsI rsO rsS shapeC_rs (by decide) (by decide) (by decide) w (by omega) (hS 9 (by omega))).mono fun e w' h => ⟨h.1, h.2⟩
theorem kit_ramp (w : World) (hS : Stds w) : Calls Tryz.prog 72 #[.int .i64 11] w fun e w' => e = .returned (.agg #[.string Bl.rampName, .int .i64 ((2 : Nat) : Int), .int .i64 ((2 + 1 : Nat) : Int), .int .i64 ((2 + 1 + 1 : Nat) : Int)]) ∧ w.grownBy w' none :=
  (kit_gen 10 rampName rampI rampO rampS shapeC_ramp (by decide) (by decide) (by decide) w (by omega) (hS 10 (by omega))).mono fun e w' h => ⟨h.1, h.2⟩
theorem kit_hyst (w : World) (hS : Stds w) : Calls Tryz.prog 72 #[.int .i64 12] w fun e w' => e = .returned (.agg #[.string Bl.hystName, .int .i64 ((3 : Nat) : Int), .int .i64 ((3 + 1 : Nat) : Int), .int .i64 ((3 + 1 + 1 : Nat) : Int)]) ∧ w.grownBy w' none :=
  (kit_gen 11 hystName hystI hystO hystS shapeC_hyst (by decide) (by decide) (by decide) w (by omega) (hS 11 (by omega))).mono fun e w' h => ⟨h.1, h.2⟩

/-- Whatever standard block. -/
theorem standard_any (num : Int) (h1 : 1 ≤ num) (h2 : num ≤ 12) (w : World) (B M F p wn fc : Nat) (ar : List Int) (pv : Value) (now : Int) (sa : Option Addr) (sc : Nat) (st : List Int) (sp fl : Int) (h : MaC w B M pv now sa sc st sp fl) (hF : FrAt w F ar) (hFM : F ≠ M) (hFB : F < B) (hB : B ≤ w.heap.size) (hw : stdW num ≤ wn) (hwf : wn ≤ fc) (hp : p + wn ≤ ar.length) (hS : Stds w) :
    Calls Tryz.prog 55 #[.pointer (some ⟨M, 0, none⟩), .int .i64 num, .slice (some ⟨F, p, none⟩) wn fc] w fun e w' => e = .returned (.tuple #[]) ∧ StP w B M (some F) pv now (sb sa) st sp fl w' ∧ FrAt w' F (stdA num now ar p) ∧ (stdA num now ar p).length = ar.length := by
  have hn : num = 1 ∨ num = 2 ∨ num = 3 ∨ num = 4 ∨ num = 5 ∨ num = 6 ∨ num = 7 ∨ num = 8 ∨ num = 9 ∨ num = 10 ∨ num = 11 ∨ num = 12 := by omega
  rcases hn with rfl | rfl | rfl | rfl | rfl | rfl | rfl | rfl | rfl | rfl | rfl | rfl
  · have hw' : 2 + 2 + 4 ≤ wn := by simp [stdW] at hw; omega
    exact (standard_gen 1 Bl.tonName 2 2 4 [1, 5, 1, 5] [1, 5] Bl.tonF kit_ton Bl.stepC_ton Bl.lens_ton w B M F p wn fc ar pv now sa sc st sp fl h hF hFM hFB hB hw' hwf hp hS (by omega) (by omega)).mono fun e w' ⟨g1, g2, g3⟩ => ⟨g1, g2, by simpa [stdA] using g3, by have := stdF_len Bl.tonF [1, 5, 1, 5] [1, 5] 2 2 4 Bl.lens_ton now ar p (by omega); simpa [stdA] using this⟩
  · have hw' : 2 + 2 + 4 ≤ wn := by simp [stdW] at hw; omega
    exact (standard_gen 2 Bl.tofName 2 2 4 [1, 5, 1, 5] [1, 5] Bl.tofF kit_tof Bl.stepC_tof Bl.lens_tof w B M F p wn fc ar pv now sa sc st sp fl h hF hFM hFB hB hw' hwf hp hS (by omega) (by omega)).mono fun e w' ⟨g1, g2, g3⟩ => ⟨g1, g2, by simpa [stdA] using g3, by have := stdF_len Bl.tofF [1, 5, 1, 5] [1, 5] 2 2 4 Bl.lens_tof now ar p (by omega); simpa [stdA] using this⟩
  · have hw' : 2 + 2 + 4 ≤ wn := by simp [stdW] at hw; omega
    exact (standard_gen 3 Bl.tpName 2 2 4 [1, 5, 1, 5] [1, 5] Bl.tpF kit_tp Bl.stepC_tp Bl.lens_tp w B M F p wn fc ar pv now sa sc st sp fl h hF hFM hFB hB hw' hwf hp hS (by omega) (by omega)).mono fun e w' ⟨g1, g2, g3⟩ => ⟨g1, g2, by simpa [stdA] using g3, by have := stdF_len Bl.tpF [1, 5, 1, 5] [1, 5] 2 2 4 Bl.lens_tp now ar p (by omega); simpa [stdA] using this⟩
  · have hw' : 3 + 2 + 2 ≤ wn := by simp [stdW] at hw; omega
    exact (standard_gen 4 Bl.ctuName 3 2 2 [1, 2] [1, 1, 2] Bl.ctuF kit_ctu Bl.stepC_ctu Bl.lens_ctu w B M F p wn fc ar pv now sa sc st sp fl h hF hFM hFB hB hw' hwf hp hS (by omega) (by omega)).mono fun e w' ⟨g1, g2, g3⟩ => ⟨g1, g2, by simpa [stdA] using g3, by have := stdF_len Bl.ctuF [1, 2] [1, 1, 2] 3 2 2 Bl.lens_ctu now ar p (by omega); simpa [stdA] using this⟩
  · have hw' : 3 + 2 + 2 ≤ wn := by simp [stdW] at hw; omega
    exact (standard_gen 5 Bl.ctdName 3 2 2 [1, 2] [1, 1, 2] Bl.ctdF kit_ctd Bl.stepC_ctd Bl.lens_ctd w B M F p wn fc ar pv now sa sc st sp fl h hF hFM hFB hB hw' hwf hp hS (by omega) (by omega)).mono fun e w' ⟨g1, g2, g3⟩ => ⟨g1, g2, by simpa [stdA] using g3, by have := stdF_len Bl.ctdF [1, 2] [1, 1, 2] 3 2 2 Bl.lens_ctd now ar p (by omega); simpa [stdA] using this⟩
  · have hw' : 5 + 3 + 3 ≤ wn := by simp [stdW] at hw; omega
    exact (standard_gen 6 Bl.ctudName 5 3 3 [1, 1, 2] [1, 1, 1, 1, 2] Bl.ctudF kit_ctud Bl.stepC_ctud Bl.lens_ctud w B M F p wn fc ar pv now sa sc st sp fl h hF hFM hFB hB hw' hwf hp hS (by omega) (by omega)).mono fun e w' ⟨g1, g2, g3⟩ => ⟨g1, g2, by simpa [stdA] using g3, by have := stdF_len Bl.ctudF [1, 1, 2] [1, 1, 1, 1, 2] 5 3 3 Bl.lens_ctud now ar p (by omega); simpa [stdA] using this⟩
  · have hw' : 1 + 1 + 1 ≤ wn := by simp [stdW] at hw; omega
    exact (standard_gen 7 Bl.rtrigName 1 1 1 [1] [1] Bl.rtrigF kit_rtrig Bl.stepC_rtrig Bl.lens_rtrig w B M F p wn fc ar pv now sa sc st sp fl h hF hFM hFB hB hw' hwf hp hS (by omega) (by omega)).mono fun e w' ⟨g1, g2, g3⟩ => ⟨g1, g2, by simpa [stdA] using g3, by have := stdF_len Bl.rtrigF [1] [1] 1 1 1 Bl.lens_rtrig now ar p (by omega); simpa [stdA] using this⟩
  · have hw' : 1 + 1 + 1 ≤ wn := by simp [stdW] at hw; omega
    exact (standard_gen 8 Bl.ftrigName 1 1 1 [1] [1] Bl.ftrigF kit_ftrig Bl.stepC_ftrig Bl.lens_ftrig w B M F p wn fc ar pv now sa sc st sp fl h hF hFM hFB hB hw' hwf hp hS (by omega) (by omega)).mono fun e w' ⟨g1, g2, g3⟩ => ⟨g1, g2, by simpa [stdA] using g3, by have := stdF_len Bl.ftrigF [1] [1] 1 1 1 Bl.lens_ftrig now ar p (by omega); simpa [stdA] using this⟩
  · have hw' : 2 + 1 + 1 ≤ wn := by simp [stdW] at hw; omega
    exact (standard_gen 9 Bl.srName 2 1 1 [1] [1, 1] Bl.srF kit_sr Bl.stepC_sr Bl.lens_sr w B M F p wn fc ar pv now sa sc st sp fl h hF hFM hFB hB hw' hwf hp hS (by omega) (by omega)).mono fun e w' ⟨g1, g2, g3⟩ => ⟨g1, g2, by simpa [stdA] using g3, by have := stdF_len Bl.srF [1] [1, 1] 2 1 1 Bl.lens_sr now ar p (by omega); simpa [stdA] using this⟩
  · have hw' : 2 + 1 + 1 ≤ wn := by simp [stdW] at hw; omega
    exact (standard_gen 10 Bl.rsName 2 1 1 [1] [1, 1] Bl.rsF kit_rs Bl.stepC_rs Bl.lens_rs w B M F p wn fc ar pv now sa sc st sp fl h hF hFM hFB hB hw' hwf hp hS (by omega) (by omega)).mono fun e w' ⟨g1, g2, g3⟩ => ⟨g1, g2, by simpa [stdA] using g3, by have := stdF_len Bl.rsF [1] [1, 1] 2 1 1 Bl.lens_rs now ar p (by omega); simpa [stdA] using this⟩
  · have hw' : 2 + 1 + 1 ≤ wn := by simp [stdW] at hw; omega
    exact (standard_gen 11 Bl.rampName 2 1 1 [2] [2, 2] Bl.rampF kit_ramp Bl.stepC_ramp Bl.lens_ramp w B M F p wn fc ar pv now sa sc st sp fl h hF hFM hFB hB hw' hwf hp hS (by omega) (by omega)).mono fun e w' ⟨g1, g2, g3⟩ => ⟨g1, g2, by simpa [stdA] using g3, by have := stdF_len Bl.rampF [2] [2, 2] 2 1 1 Bl.lens_ramp now ar p (by omega); simpa [stdA] using this⟩
  · have hw' : 3 + 1 + 1 ≤ wn := by simp [stdW] at hw; omega
    exact (standard_gen 12 Bl.hystName 3 1 1 [1] [2, 2, 2] Bl.hystF kit_hyst Bl.stepC_hyst Bl.lens_hyst w B M F p wn fc ar pv now sa sc st sp fl h hF hFM hFB hB hw' hwf hp hS (by omega) (by omega)).mono fun e w' ⟨g1, g2, g3⟩ => ⟨g1, g2, by simpa [stdA] using g3, by have := stdF_len Bl.hystF [1] [2, 2, 2] 3 1 1 Bl.lens_hyst now ar p (by omega); simpa [stdA] using this⟩
end Go.Proofs.YtcgbfhpmkpglkaaGreatDoor

/- The machine: work with one operand, pick. -/
namespace Go.Proofs.YtcgbfhpmkpglkaaGreatDoor
open Go.RowKit
attribute [local go_sem ↓] Go.wp_at_zero Go.wp_at_succ
set_option linter.unusedVariables false
set_option linter.unusedSimpArgs false

set_option maxHeartbeats 4000000 in
theorem work_one (c w : World) (B M : Nat) (pv : Value) (now : Int) (sa : Option Addr) (sc : Nat) (r : List Int) (a sp fl : Int) (tb o : Nat) (x : Ins) (h : MaC w B M pv now sa sc (r ++ [a]) sp fl) (hc : c.grownBy w none) (hcM : c.heap.size ≤ M) (hcB : c.heap.size ≤ B) (hx : InsAt c tb o x) (hop : opersS x = 1) (hl : r.length ≤ 800000) (hB : B ≤ w.heap.size) (hf0 : 0 ≤ fl) (hf1 : fl ≤ 1000000000000) :
    Calls Tryz.prog 49 #[.pointer (some ⟨M, 0, none⟩), .pointer (some ⟨tb, o, none⟩)] w fun e w' => e = .returned (.tuple #[]) ∧ StP w B M none pv now (sb sa) (r ++ [Ce.doN x.a x.b a 0]) sp (if Ce.doZ x.a x.b 0 = true then fl + 1 else fl) w' := by
  have hrow : ∀ y, (sb sa) = some y → c.heap.size ≤ y := fun y hy => by have := (h.row y hy).1; omega
  have HM : Hid (MaC w B M pv now sa sc (r ++ [a]) sp fl) := h
  have HX : Hid (InsAt c tb o x) := hx
  have hxw := hx.grown hc
  obtain ⟨q0, q1, q2, q3⟩ := hxw
  have cO : Calls Tryz.prog 68 #[.agg #[.int .i64 x.d, .int .i64 x.a, .int .i64 x.b, .int .i64 x.c]] w fun e w' => e = .returned (.int .i64 1) ∧ w.grownBy w' none := (operands_any x w).mono fun e w' h => ⟨by rw [h.1, hop], h.2⟩
  clear h hx hop
  go_enter Tryz.func49, Tryz.ntmps49
  go_wp2_with fail
  refine cO.mono ?_
  rintro e w1 ⟨rfl, hg1⟩
  clear cO q0 q1 q2 q3
  have hm2 := HM.out.kept hg1
  have hcw2 : c.grownBy w1 none := hc.trans hg1
  have HM2 : Hid (MaC w1 B M pv now sa sc (r ++ [a]) sp fl) := hm2
  have HC2 : Hid (Chg M none (sb sa) w w1) := Chg.of_none hg1
  have HN2 : Hid (Nx w (sb sa) (sb sa)) := Nx.refl _ _
  have hrow2 : ∀ y, (sb sa) = some y → c.heap.size ≤ y := fun y hy => by have := (hm2.row y hy).1; omega
  obtain ⟨q0, q1, q2, q3⟩ := HX.out.grown hcw2
  clear hm2 q0 q3
  go_wp2_with fail
  go_region_held3 (fun w' => w'.cell? ⟨tb, o + 1, none⟩ = some (.int .i64 x.a) ∧ w'.cell? ⟨tb, o + 2, none⟩ = some (.int .i64 x.b)) (first | (go_keep; done) | exact HK3.out) (first
    | (go_at_call 31
       refine (pop_at HM2.out (by omega) _ (gr_drew (World.grownBy.refl _ _))).mono ?_
       rintro e w3 ⟨rfl, hm3, hc3, hn3⟩
       have HM3 : Hid (MaC w3 B M pv now sa sc r sp fl) := hm3
       have HC3 : Hid (Chg M none (sb sa) w1 w3) := hc3
       have HN3 : Hid (Nx w1 (sb sa) (sb sa)) := hn3
       have hcw3 : c.grownBy w3 none := grown_chg hcw2 hc3 hcM (fun y hy => by simp at hy) hrow2
       have HK3 : Hid (w3.cell? ⟨tb, o + 1, none⟩ = some (.int .i64 x.a) ∧ w3.cell? ⟨tb, o + 2, none⟩ = some (.int .i64 x.b)) := ⟨(HX.out.grown hcw3).a, (HX.out.grown hcw3).b⟩
       clear hm3 hc3 hn3)
    | (go_at_call 69
       refine (doW _ _ _ _ _).mono ?_
       rintro e w' ⟨rfl, rfl⟩))
  have b3 := HM3.out.blk
  have d4 := at_cell b3 4
  simp at d4
  have f4 := at_frozen b3 4
  have hw4 := fault_more fl hf0 hf1
  have HCN : Hid (Chg M none (sb sa) w w3 ∧ Nx w (sb sa) (sb sa)) := ⟨HC2.out.trans HN2.out HC3.out, Nx.trans HC2.out.size HN2.out HN3.out⟩
  have hs3 : B ≤ w3.heap.size := by have := HCN.out.1.size; omega
  clear b3
  cases hz : Ce.doZ x.a x.b 0 with
  | false =>
    go_wp2_with fail
    refine (push_at _ HM3.out (by omega) hs3 _ (World.grownBy.refl _ _)).mono ?_
    rintro e w5 ⟨rfl, sa', sc', hm5, hc5, hn5⟩
    go_wp2
    all_goals go_end0
    all_goals exact ⟨rfl, sa', sc', by simpa using hm5, HCN.out.1.trans HCN.out.2 hc5, Nx.trans HCN.out.1.size HCN.out.2 hn5⟩
  | true =>
    go_wp2_with fail
    refine (push_at _ (HM3.out.setF (fl + 1)) (by omega) (by simpa using hs3) _ (World.grownBy.refl _ _)).mono ?_
    rintro e w5 ⟨rfl, sa', sc', hm5, hc5, hn5⟩
    go_wp2
    go_end0
    exact ⟨rfl, sa', sc', by simpa using hm5, (HCN.out.1.trans HCN.out.2 (chg_set M 4 _ _ w3 _)).trans HCN.out.2 hc5, Nx.trans HCN.out.1.size HCN.out.2 (Nx.trans (by simp) (Nx.refl _ _) hn5)⟩

set_option maxHeartbeats 4000000 in
theorem pick_any (w : World) (B M : Nat) (pv : Value) (now : Int) (sa : Option Addr) (sc : Nat) (r : List Int) (g a b sp fl : Int) (h : MaC w B M pv now sa sc (r ++ [g] ++ [a] ++ [b]) sp fl) (hl : r.length ≤ 800000) (hB : B ≤ w.heap.size) :
    Calls Tryz.prog 53 #[.pointer (some ⟨M, 0, none⟩)] w fun e w' => e = .returned (.tuple #[]) ∧ StP w B M none pv now (sb sa) (r ++ [if g = 0 then a else b]) sp fl w' := by
  have HM : Hid (MaC w B M pv now sa sc (r ++ [g] ++ [a] ++ [b]) sp fl) := h
  clear h
  go_enter Tryz.func53, Tryz.ntmps53
  go_wp2_with fail
  refine (pop_at HM.out (by simp; omega) _ (World.grownBy.refl _ _)).mono ?_
  rintro e w1 ⟨rfl, hm1, hc1, hn1⟩
  have HM1 : Hid (MaC w1 B M pv now sa sc (r ++ [g] ++ [a]) sp fl) := hm1
  have HC1 : Hid (Chg M none (sb sa) w w1) := hc1
  clear hm1 hc1 hn1
  go_wp2_with fail
  refine (pop_at HM1.out (by simp; omega) _ (World.grownBy.refl _ _)).mono ?_
  rintro e w2 ⟨rfl, hm2, hc2, hn2⟩
  have HM2 : Hid (MaC w2 B M pv now sa sc (r ++ [g]) sp fl) := hm2
  have HC2 : Hid (Chg M none (sb sa) w w2) := HC1.out.trans (Nx.refl _ _) hc2
  clear hm2 hc2 hn2
  go_wp2_with fail
  refine (pop_at HM2.out (by omega) _ (World.grownBy.refl _ _)).mono ?_
  rintro e w3 ⟨rfl, hm3, hc3, hn3⟩
  have HM3 : Hid (MaC w3 B M pv now sa sc r sp fl) := hm3
  have HC3 : Hid (Chg M none (sb sa) w w3) := HC2.out.trans (Nx.refl _ _) hc3
  have hs3 : B ≤ w3.heap.size := by have := HC3.out.size; omega
  clear hm3 hc3 hn3
  by_cases hg : g = 0
  · subst hg
    go_wp2_with fail
    refine (push_at _ HM3.out (by omega) hs3 _ (World.grownBy.refl _ _)).mono ?_
    rintro e w5 ⟨rfl, sa', sc', hm5, hc5, hn5⟩
    go_wp2
    all_goals go_end0
    all_goals exact ⟨rfl, sa', sc', by simpa using hm5, HC3.out.trans (Nx.refl _ _) hc5, Nx.trans HC3.out.size (Nx.refl _ _) hn5⟩
  · have e1 : (g == 0) = false := by simpa using hg
    have e2 : (g != 0) = true := by simpa using hg
    go_wp2_with fail
    refine (push_at _ HM3.out (by omega) hs3 _ (World.grownBy.refl _ _)).mono ?_
    rintro e w5 ⟨rfl, sa', sc', hm5, hc5, hn5⟩
    go_wp2
    all_goals go_end0
    all_goals exact ⟨rfl, sa', sc', by simpa [hg] using hm5, HC3.out.trans (Nx.refl _ _) hc5, Nx.trans HC3.out.size (Nx.refl _ _) hn5⟩
end Go.Proofs.YtcgbfhpmkpglkaaGreatDoor

/- The machine: what an instruction does (1). -/
namespace Go.Proofs.YtcgbfhpmkpglkaaGreatDoor
open Go.RowKit
attribute [local go_sem ↓] Go.wp_at_zero Go.wp_at_succ
set_option linter.unusedVariables false
set_option linter.unusedSimpArgs false

/-- A machine at work: what holds round each of its steps. -/
structure Ctx (c w : World) (B M F off n fc : Nat) (ar : List Int) (pv : Value) (now : Int) (sa : Option Addr) (sc : Nat) (st : List Int) (sp fl : Int) : Prop where
  ma : MaC w B M pv now sa sc st sp fl
  fr : FrAt w F ar
  fm : F ≠ M
  fb : F < B
  cw : c.grownBy w none
  cM : c.heap.size ≤ M
  cB : c.heap.size ≤ B
  cF : c.heap.size ≤ F
  bw : B ≤ w.heap.size
  hn : off + n ≤ ar.length
  nc : n ≤ fc
  n2 : n ≤ 20000
  sl : st.length ≤ 800000
  f0 : 0 ≤ fl
  f1 : fl ≤ 1000000000000
  s0 : 0 ≤ sp
  s1 : sp ≤ 1000000000000
/-- What an instruction leaves. -/
def DoP (w : World) (B M F : Nat) (pv : Value) (now : Int) (r0 : Option Nat) (st' ar' : List Int) (sp' fl' : Int) (e : Ending) (w' : World) : Prop :=
  e = .returned (.tuple #[]) ∧ StP w B M (some F) pv now r0 st' sp' fl' w' ∧ FrAt w' F ar'
theorem StP.wide {w w' : World} {B M F : Nat} {pv : Value} {now : Int} {r0 : Option Nat} {st : List Int} {sp fl : Int} (h : StP w B M none pv now r0 st sp fl w') : StP w B M (some F) pv now r0 st sp fl w' := by
  obtain ⟨a, b, h1, h2, h3⟩ := h
  exact ⟨a, b, h1, h2.wide, h3⟩
theorem Ctx.frame {c w w' : World} {B M F off n fc : Nat} {ar : List Int} {pv : Value} {now : Int} {sa : Option Addr} {sc : Nat} {st : List Int} {sp fl : Int} {st' : List Int} {sp' fl' : Int} (h : Ctx c w B M F off n fc ar pv now sa sc st sp fl) (k : StP w B M none pv now (sb sa) st' sp' fl' w') : FrAt w' F ar := by
  obtain ⟨a, b, h1, h2, h3⟩ := k
  exact h.fr.chg h2 h.fm rfl (fun y hy => by have := (h.ma.row y hy).1; have := h.fb; omega)

variable {c w : World} {B M F off n fc : Nat} {ar : List Int} {pv : Value} {now : Int} {sa : Option Addr} {sc : Nat} {sp fl : Int} {tb o : Nat}

set_option maxRecDepth 10000 in
set_option maxHeartbeats 4000000 in
theorem do_push {st : List Int} (a : Int) (h : Ctx c w B M F off n fc ar pv now sa sc st sp fl) (hx : InsAt c tb o ⟨1, a, 0, 0⟩) :
    Calls Tryz.prog 32 #[.pointer (some ⟨M, 0, none⟩), .pointer (some ⟨tb, o, none⟩), .slice (some ⟨F, off, none⟩) n fc] w (DoP w B M F pv now (sb sa) (st ++ [a]) ar sp fl) := by
  have HH : Hid (Ctx c w B M F off n fc ar pv now sa sc st sp fl) := h
  have HX : Hid (InsAt c tb o ⟨1, a, 0, 0⟩) := hx
  obtain ⟨q0, q1, q2, q3⟩ := hx.grown h.cw
  dsimp only at q0 q1 q2 q3
  clear h hx q2 q3
  go_enter Tryz.func32, Tryz.ntmps32
  go_wp2_with fail
  refine (push_at a HH.out.ma (by have := HH.out.sl; omega) HH.out.bw _ (World.grownBy.refl _ _)).mono ?_
  rintro e w1 ⟨rfl, sa', sc', hm, hc, hn⟩
  have HP : Hid (StP w B M none pv now (sb sa) (st ++ [a]) sp fl w1) := ⟨sa', sc', hm, hc, hn⟩
  go_wp2
  all_goals first | go_end0 | ((try simp only [Exit.inBlock, Exit.then]); refine bodyPost_ret (results_none rfl _ _ _) rfl ?_)
  all_goals exact ⟨rfl, HP.out.wide, HH.out.frame HP.out⟩
set_option maxRecDepth 10000 in
set_option maxHeartbeats 4000000 in
theorem do_load {st : List Int} (j : Nat) (hj : j < n) (h : Ctx c w B M F off n fc ar pv now sa sc st sp fl) (hx : InsAt c tb o ⟨2, (j : Int), 0, 0⟩) :
    Calls Tryz.prog 32 #[.pointer (some ⟨M, 0, none⟩), .pointer (some ⟨tb, o, none⟩), .slice (some ⟨F, off, none⟩) n fc] w (DoP w B M F pv now (sb sa) (st ++ [ar.getD (off + j) 0]) ar sp fl) := by
  have HH : Hid (Ctx c w B M F off n fc ar pv now sa sc st sp fl) := h
  have HX : Hid (InsAt c tb o ⟨2, (j : Int), 0, 0⟩) := hx
  obtain ⟨q0, q1, q2, q3⟩ := hx.grown h.cw
  dsimp only at q0 q1 q2 q3
  have q5 := h.fr.get (off + j) (by have := h.hn; omega)
  obtain ⟨y, hy⟩ : ∃ y, ar.getD (off + j) 0 = y := ⟨_, rfl⟩
  rw [hy] at q5 ⊢
  have i1 : (0 : Int) ≤ (j : Int) := by omega
  have i2 : (j : Int) < (n : Int) := by omega
  clear h hx q2 q3
  go_enter Tryz.func32, Tryz.ntmps32
  go_wp2_with fail
  refine (push_at y HH.out.ma (by have := HH.out.sl; omega) HH.out.bw _ (World.grownBy.refl _ _)).mono ?_
  rintro e w1 ⟨rfl, sa', sc', hm, hc, hn⟩
  have HP : Hid (StP w B M none pv now (sb sa) (st ++ [y]) sp fl w1) := ⟨sa', sc', hm, hc, hn⟩
  go_wp2
  all_goals first | go_end0 | ((try simp only [Exit.inBlock, Exit.then]); refine bodyPost_ret (results_none rfl _ _ _) rfl ?_)
  all_goals exact ⟨rfl, HP.out.wide, HH.out.frame HP.out⟩
set_option maxRecDepth 10000 in
set_option maxHeartbeats 4000000 in
theorem do_work_two {r : List Int} (op k a b : Int) (hop : opersS ⟨6, op, k, 0⟩ = 2) (h : Ctx c w B M F off n fc ar pv now sa sc (r ++ [a] ++ [b]) sp fl) (hx : InsAt c tb o ⟨6, op, k, 0⟩) :
    Calls Tryz.prog 32 #[.pointer (some ⟨M, 0, none⟩), .pointer (some ⟨tb, o, none⟩), .slice (some ⟨F, off, none⟩) n fc] w (DoP w B M F pv now (sb sa) (r ++ [Ce.doN op k a b]) ar sp (if Ce.doZ op k b = true then fl + 1 else fl)) := by
  have HH : Hid (Ctx c w B M F off n fc ar pv now sa sc (r ++ [a] ++ [b]) sp fl) := h
  have HX : Hid (InsAt c tb o ⟨6, op, k, 0⟩) := hx
  obtain ⟨q0, q1, q2, q3⟩ := hx.grown h.cw
  dsimp only at q0 q1 q2 q3
  have cW := work_two c w B M pv now sa sc r a b sp fl tb o ⟨6, op, k, 0⟩ h.ma h.cw h.cM h.cB hx hop (by have := h.sl; simp at this; omega) h.bw h.f0 h.f1
  dsimp only at cW
  obtain ⟨Z, hZ⟩ : ∃ Z, (if Ce.doZ op k b = true then fl + 1 else fl) = Z := ⟨_, rfl⟩
  rw [hZ] at cW ⊢
  clear h hx q1 q2 q3 hop hZ
  go_enter Tryz.func32, Tryz.ntmps32
  go_wp2_with fail
  refine cW.mono ?_
  rintro e w1 ⟨rfl, hp⟩
  have HP : Hid (StP w B M none pv now (sb sa) (r ++ [Ce.doN op k a b]) sp Z w1) := hp
  clear hp cW
  go_wp2
  all_goals first | go_end0 | ((try simp only [Exit.inBlock, Exit.then]); refine bodyPost_ret (results_none rfl _ _ _) rfl ?_)
  all_goals exact ⟨rfl, HP.out.wide, HH.out.frame HP.out⟩
set_option maxRecDepth 10000 in
set_option maxHeartbeats 4000000 in
theorem do_work_one {r : List Int} (op k a : Int) (hop : opersS ⟨6, op, k, 0⟩ = 1) (h : Ctx c w B M F off n fc ar pv now sa sc (r ++ [a]) sp fl) (hx : InsAt c tb o ⟨6, op, k, 0⟩) :
    Calls Tryz.prog 32 #[.pointer (some ⟨M, 0, none⟩), .pointer (some ⟨tb, o, none⟩), .slice (some ⟨F, off, none⟩) n fc] w (DoP w B M F pv now (sb sa) (r ++ [Ce.doN op k a 0]) ar sp (if Ce.doZ op k 0 = true then fl + 1 else fl)) := by
  have HH : Hid (Ctx c w B M F off n fc ar pv now sa sc (r ++ [a]) sp fl) := h
  have HX : Hid (InsAt c tb o ⟨6, op, k, 0⟩) := hx
  obtain ⟨q0, q1, q2, q3⟩ := hx.grown h.cw
  dsimp only at q0 q1 q2 q3
  have cW := work_one c w B M pv now sa sc r a sp fl tb o ⟨6, op, k, 0⟩ h.ma h.cw h.cM h.cB hx hop (by have := h.sl; simp at this; omega) h.bw h.f0 h.f1
  dsimp only at cW
  obtain ⟨Z, hZ⟩ : ∃ Z, (if Ce.doZ op k 0 = true then fl + 1 else fl) = Z := ⟨_, rfl⟩
  rw [hZ] at cW ⊢
  clear h hx q1 q2 q3 hop hZ
  go_enter Tryz.func32, Tryz.ntmps32
  go_wp2_with fail
  refine cW.mono ?_
  rintro e w1 ⟨rfl, hp⟩
  have HP : Hid (StP w B M none pv now (sb sa) (r ++ [Ce.doN op k a 0]) sp Z w1) := hp
  clear hp cW
  go_wp2
  all_goals first | go_end0 | ((try simp only [Exit.inBlock, Exit.then]); refine bodyPost_ret (results_none rfl _ _ _) rfl ?_)
  all_goals exact ⟨rfl, HP.out.wide, HH.out.frame HP.out⟩
set_option maxRecDepth 10000 in
set_option maxHeartbeats 4000000 in
theorem do_loadAt {r : List Int} (i a b cc : Int) (ha : 0 ≤ a) (hab : a + b ≤ n) (hb : 0 ≤ b) (hc1 : -4294967295 ≤ cc) (hc2 : cc ≤ 4294967295) (h : Ctx c w B M F off n fc ar pv now sa sc (r ++ [i]) sp fl) (hx : InsAt c tb o ⟨4, a, b, cc⟩) :
    Calls Tryz.prog 32 #[.pointer (some ⟨M, 0, none⟩), .pointer (some ⟨tb, o, none⟩), .slice (some ⟨F, off, none⟩) n fc] w (DoP w B M F pv now (sb sa) (r ++ [if isW i cc (cc + b - 1) = true then ar.getD (off + (a + i - cc).toNat) 0 else 0]) ar sp (if isW i cc (cc + b - 1) = true then fl else fl + 1)) := by
  have HH : Hid (Ctx c w B M F off n fc ar pv now sa sc (r ++ [i]) sp fl) := h
  have HX : Hid (InsAt c tb o ⟨4, a, b, cc⟩) := hx
  obtain ⟨q0, q1, q2, q3⟩ := hx.grown h.cw
  dsimp only at q0 q1 q2 q3
  have cW := loadAt_any c w B M F off n fc ar pv now sa sc r i sp fl tb o ⟨4, a, b, cc⟩ h.ma h.fr h.fm h.fb h.cw h.cM h.cB hx (by have := h.sl; simp at this; omega) h.bw h.f0 h.f1 ha hab hb h.hn h.n2 hc1 hc2
  dsimp only at cW
  obtain ⟨Y, hY⟩ : ∃ Y, (if isW i cc (cc + b - 1) = true then ar.getD (off + (a + i - cc).toNat) 0 else 0) = Y := ⟨_, rfl⟩
  obtain ⟨Z, hZ⟩ : ∃ Z, (if isW i cc (cc + b - 1) = true then fl else fl + 1) = Z := ⟨_, rfl⟩
  rw [hY, hZ] at cW ⊢
  clear h hx q1 q2 q3 hY hZ
  go_enter Tryz.func32, Tryz.ntmps32
  go_wp2_with fail
  refine cW.mono ?_
  rintro e w1 ⟨rfl, hp⟩
  have HP : Hid (StP w B M none pv now (sb sa) (r ++ [Y]) sp Z w1) := hp
  clear hp cW
  go_wp2
  all_goals first | go_end0 | ((try simp only [Exit.inBlock, Exit.then]); refine bodyPost_ret (results_none rfl _ _ _) rfl ?_)
  all_goals exact ⟨rfl, HP.out.wide, HH.out.frame HP.out⟩
set_option maxRecDepth 10000 in
set_option maxHeartbeats 4000000 in
theorem do_storeAt {r : List Int} (i v a b cc : Int) (ha : 0 ≤ a) (hab : a + b ≤ n) (hb : 0 ≤ b) (hc1 : -4294967295 ≤ cc) (hc2 : cc ≤ 4294967295) (h : Ctx c w B M F off n fc ar pv now sa sc (r ++ [i] ++ [v]) sp fl) (hx : InsAt c tb o ⟨5, a, b, cc⟩) :
    Calls Tryz.prog 32 #[.pointer (some ⟨M, 0, none⟩), .pointer (some ⟨tb, o, none⟩), .slice (some ⟨F, off, none⟩) n fc] w (DoP w B M F pv now (sb sa) r (if isW i cc (cc + b - 1) = true then ar.set (off + (a + i - cc).toNat) v else ar) sp (if isW i cc (cc + b - 1) = true then fl else fl + 1)) := by
  have HH : Hid (Ctx c w B M F off n fc ar pv now sa sc (r ++ [i] ++ [v]) sp fl) := h
  have HX : Hid (InsAt c tb o ⟨5, a, b, cc⟩) := hx
  obtain ⟨q0, q1, q2, q3⟩ := hx.grown h.cw
  dsimp only at q0 q1 q2 q3
  have cW := storeAt_any c w B M F off n fc ar pv now sa sc r i v sp fl tb o ⟨5, a, b, cc⟩ h.ma h.fr h.fm h.fb h.cw h.cM h.cB h.cF hx (by have := h.sl; simp at this; omega) h.f0 h.f1 ha hab hb h.hn h.n2 hc1 hc2
  dsimp only at cW
  obtain ⟨Y, hY⟩ : ∃ Y, (if isW i cc (cc + b - 1) = true then ar.set (off + (a + i - cc).toNat) v else ar) = Y := ⟨_, rfl⟩
  obtain ⟨Z, hZ⟩ : ∃ Z, (if isW i cc (cc + b - 1) = true then fl else fl + 1) = Z := ⟨_, rfl⟩
  rw [hY, hZ] at cW ⊢
  clear h hx q1 q2 q3 hY hZ
  go_enter Tryz.func32, Tryz.ntmps32
  go_wp2_with fail
  refine cW.mono ?_
  rintro e w1 ⟨rfl, hp, hf⟩
  have HP : Hid (StP w B M (some F) pv now (sb sa) r sp Z w1) := hp
  have HF : Hid (FrAt w1 F Y) := hf
  clear hp hf cW
  go_wp2
  all_goals first | go_end0 | ((try simp only [Exit.inBlock, Exit.then]); refine bodyPost_ret (results_none rfl _ _ _) rfl ?_)
  all_goals exact ⟨rfl, HP.out, HF.out⟩
set_option maxRecDepth 10000 in
set_option maxHeartbeats 4000000 in
theorem do_pick {r : List Int} (g a b : Int) (h : Ctx c w B M F off n fc ar pv now sa sc (r ++ [g] ++ [a] ++ [b]) sp fl) (hx : InsAt c tb o ⟨8, 0, 0, 0⟩) :
    Calls Tryz.prog 32 #[.pointer (some ⟨M, 0, none⟩), .pointer (some ⟨tb, o, none⟩), .slice (some ⟨F, off, none⟩) n fc] w (DoP w B M F pv now (sb sa) (r ++ [if g = 0 then a else b]) ar sp fl) := by
  have HH : Hid (Ctx c w B M F off n fc ar pv now sa sc (r ++ [g] ++ [a] ++ [b]) sp fl) := h
  have HX : Hid (InsAt c tb o ⟨8, 0, 0, 0⟩) := hx
  obtain ⟨q0, q1, q2, q3⟩ := hx.grown h.cw
  dsimp only at q0 q1 q2 q3
  have cW := pick_any w B M pv now sa sc r g a b sp fl h.ma (by have := h.sl; simp at this; omega) h.bw
  obtain ⟨Y, hY⟩ : ∃ Y, (if g = 0 then a else b) = Y := ⟨_, rfl⟩
  rw [hY] at cW ⊢
  clear h hx q1 q2 q3 hY
  go_enter Tryz.func32, Tryz.ntmps32
  go_wp2_with fail
  refine cW.mono ?_
  rintro e w1 ⟨rfl, hp⟩
  have HP : Hid (StP w B M none pv now (sb sa) (r ++ [Y]) sp fl w1) := hp
  clear hp cW
  go_wp2
  all_goals first | go_end0 | ((try simp only [Exit.inBlock, Exit.then]); refine bodyPost_ret (results_none rfl _ _ _) rfl ?_)
  all_goals exact ⟨rfl, HP.out.wide, HH.out.frame HP.out⟩
set_option maxRecDepth 10000 in
set_option maxHeartbeats 4000000 in
theorem do_drop {r : List Int} (a : Int) (h : Ctx c w B M F off n fc ar pv now sa sc (r ++ [a]) sp fl) (hx : InsAt c tb o ⟨10, 0, 0, 0⟩) :
    Calls Tryz.prog 32 #[.pointer (some ⟨M, 0, none⟩), .pointer (some ⟨tb, o, none⟩), .slice (some ⟨F, off, none⟩) n fc] w (DoP w B M F pv now (sb sa) r ar sp fl) := by
  have HH : Hid (Ctx c w B M F off n fc ar pv now sa sc (r ++ [a]) sp fl) := h
  have HX : Hid (InsAt c tb o ⟨10, 0, 0, 0⟩) := hx
  obtain ⟨q0, q1, q2, q3⟩ := hx.grown h.cw
  dsimp only at q0 q1 q2 q3
  clear h hx q1 q2 q3
  go_enter Tryz.func32, Tryz.ntmps32
  go_wp2_with fail
  refine (pop_at HH.out.ma (by have := HH.out.sl; simp at this; omega) _ (World.grownBy.refl _ _)).mono ?_
  rintro e w1 ⟨rfl, hm, hc, hn⟩
  have HP : Hid (StP w B M none pv now (sb sa) r sp fl w1) := ⟨sa, sc, hm, hc, hn⟩
  clear hm hc hn
  go_wp2
  all_goals first | go_end0 | ((try simp only [Exit.inBlock, Exit.then]); refine bodyPost_ret (results_none rfl _ _ _) rfl ?_)
  all_goals exact ⟨rfl, HP.out.wide, HH.out.frame HP.out⟩
set_option maxRecDepth 10000 in
set_option maxHeartbeats 4000000 in
theorem do_late {st : List Int} (h : Ctx c w B M F off n fc ar pv now sa sc st sp fl) (hx : InsAt c tb o ⟨15, 0, 0, 0⟩) :
    Calls Tryz.prog 32 #[.pointer (some ⟨M, 0, none⟩), .pointer (some ⟨tb, o, none⟩), .slice (some ⟨F, off, none⟩) n fc] w (DoP w B M F pv now (sb sa) st ar sp (fl + 1)) := by
  have HH : Hid (Ctx c w B M F off n fc ar pv now sa sc st sp fl) := h
  have HX : Hid (InsAt c tb o ⟨15, 0, 0, 0⟩) := hx
  obtain ⟨q0, q1, q2, q3⟩ := hx.grown h.cw
  dsimp only at q0 q1 q2 q3
  have b1 := h.ma.blk
  have d4 := at_cell b1 4
  simp at d4
  have f4 := at_frozen b1 4
  have hw4 := fault_more fl h.f0 h.f1
  have HP : Hid (StP w B M none pv now (sb sa) st sp (fl + 1) (w.setCell ⟨M, 4, none⟩ (.int .i64 (fl + 1)))) := ⟨sa, sc, h.ma.setF (fl + 1), chg_set M 4 _ _ w _, Nx.refl _ _⟩
  clear h hx q1 q2 q3 b1
  go_enter Tryz.func32, Tryz.ntmps32
  go_wp2
  all_goals first | go_end0 | ((try simp only [Exit.inBlock, Exit.then]); refine bodyPost_ret (results_none rfl _ _ _) rfl ?_)
  all_goals exact ⟨rfl, HP.out.wide, HH.out.frame HP.out⟩
end Go.Proofs.YtcgbfhpmkpglkaaGreatDoor

/- The machine: what an instruction does (2). -/
namespace Go.Proofs.YtcgbfhpmkpglkaaGreatDoor
open Go.RowKit
attribute [local go_sem ↓] Go.wp_at_zero Go.wp_at_succ
set_option linter.unusedVariables false
set_option linter.unusedSimpArgs false

variable {c w : World} {B M F off n fc : Nat} {ar : List Int} {pv : Value} {now : Int} {sa : Option Addr} {sc : Nat} {sp fl : Int} {tb o : Nat}

theorem Ctx.row {st : List Int} (h : Ctx c w B M F off n fc ar pv now sa sc st sp fl) : ∀ y, (sb sa) = some y → c.heap.size ≤ y ∧ F < y := fun y hy => by have := (h.ma.row y hy).1; have := h.cB; have := h.fb; omega

set_option maxRecDepth 10000 in
set_option maxHeartbeats 4000000 in
theorem do_store {r : List Int} (v : Int) (j : Nat) (hj : j < n) (h : Ctx c w B M F off n fc ar pv now sa sc (r ++ [v]) sp fl) (hx : InsAt c tb o ⟨3, (j : Int), 0, 0⟩) :
    Calls Tryz.prog 32 #[.pointer (some ⟨M, 0, none⟩), .pointer (some ⟨tb, o, none⟩), .slice (some ⟨F, off, none⟩) n fc] w (DoP w B M F pv now (sb sa) r (ar.set (off + j) v) sp fl) := by
  have HH : Hid (Ctx c w B M F off n fc ar pv now sa sc (r ++ [v]) sp fl) := h
  have HX : Hid (InsAt c tb o ⟨3, (j : Int), 0, 0⟩) := hx
  obtain ⟨q0, q1, q2, q3⟩ := hx.grown h.cw
  dsimp only at q0 q1 q2 q3
  have hrow := h.row
  have htb : tb ≠ F := by have := ins_lt hx; have := h.cF; omega
  have i1 : (0 : Int) ≤ (j : Int) := by omega
  have i2 : (j : Int) < (n : Int) := by omega
  clear h hx q2 q3
  go_enter Tryz.func32, Tryz.ntmps32
  go_wp2_with fail
  go_region_held3 (fun w' => w'.cell? ⟨tb, o + 1, none⟩ = some (.int .i64 (j : Int))) (first | (go_keep; done) | exact HK1.out | exact ck_set htb HK1.out) (first
    | (go_at_call 31
       refine (pop_at HH.out.ma (by have := HH.out.sl; simp at this; omega) _ (gr_drew (World.grownBy.refl _ _))).mono ?_
       rintro e w1 ⟨rfl, hm, hc, hn⟩
       have HP : Hid (StP w B M none pv now (sb sa) r sp fl w1) := ⟨sa, sc, hm, hc, hn⟩
       have HM1 : Hid (MaC w1 B M pv now sa sc r sp fl) := hm
       have HC1 : Hid (Chg M none (sb sa) w w1) := hc
       have hcw1 : c.grownBy w1 none := grown_chg HH.out.cw hc HH.out.cM (fun y hy => by simp at hy) (fun y hy => (hrow y hy).1)
       have HK1 : Hid (w1.cell? ⟨tb, o + 1, none⟩ = some (.int .i64 (j : Int))) := (HX.out.grown hcw1).a
       have HF1 : Hid (FrAt w1 F ar) := HH.out.frame HP.out
       have q5 := HF1.out.get (off + j) (by have := HH.out.hn; omega)
       have f5 := at_frozen HF1.out (off + j)
       generalize ar.getD (off + j) 0 = y at q5
       clear hm hc hn))
  go_wp2
  all_goals first | go_end0 | ((try simp only [Exit.inBlock, Exit.then]); refine bodyPost_ret (results_none rfl _ _ _) rfl ?_)
  all_goals exact ⟨rfl, ⟨sa, sc, HM1.out.other HH.out.fm HH.out.fb _ _, (HC1.out.wide).trans (Nx.refl _ _) (chg_frame M F _ _ w1 _), Nx.refl _ _⟩, HF1.out.set (off + j) v⟩
set_option maxRecDepth 10000 in
set_option maxHeartbeats 4000000 in
theorem do_turn {r : List Int} (a k to : Int) (h : Ctx c w B M F off n fc ar pv now sa sc (r ++ [a]) sp fl) (hx : InsAt c tb o ⟨7, k, to, 0⟩) :
    Calls Tryz.prog 32 #[.pointer (some ⟨M, 0, none⟩), .pointer (some ⟨tb, o, none⟩), .slice (some ⟨F, off, none⟩) n fc] w (DoP w B M F pv now (sb sa) (r ++ [Ce.convK k to a]) ar sp fl) := by
  have HH : Hid (Ctx c w B M F off n fc ar pv now sa sc (r ++ [a]) sp fl) := h
  have HX : Hid (InsAt c tb o ⟨7, k, to, 0⟩) := hx
  obtain ⟨q0, q1, q2, q3⟩ := hx.grown h.cw
  dsimp only at q0 q1 q2 q3
  have hrow := h.row
  clear h hx q3
  go_enter Tryz.func32, Tryz.ntmps32
  go_wp2_with fail
  go_region_held3 (fun w' => w'.cell? ⟨tb, o + 1, none⟩ = some (.int .i64 k) ∧ w'.cell? ⟨tb, o + 2, none⟩ = some (.int .i64 to)) (first | (go_keep; done) | exact HK1.out | exact HK2.out) (first
    | (go_at_call 31
       refine (pop_at HH.out.ma (by have := HH.out.sl; simp at this; omega) _ (gr_drew (World.grownBy.refl _ _))).mono ?_
       rintro e w1 ⟨rfl, hm, hc, hn⟩
       have HM1 : Hid (MaC w1 B M pv now sa sc r sp fl) := hm
       have HC1 : Hid (Chg M none (sb sa) w w1) := hc
       have hcw1 : c.grownBy w1 none := grown_chg HH.out.cw hc HH.out.cM (fun y hy => by simp at hy) (fun y hy => (hrow y hy).1)
       have HK1 : Hid (w1.cell? ⟨tb, o + 1, none⟩ = some (.int .i64 k) ∧ w1.cell? ⟨tb, o + 2, none⟩ = some (.int .i64 to)) := ⟨(HX.out.grown hcw1).a, (HX.out.grown hcw1).b⟩
       clear hm hc hn)
    | (go_at_call 52
       refine (convW _ _ _ _).mono ?_
       rintro e w' ⟨rfl, rfl⟩)
    | (go_at_call 48
       refine (push_at _ HM1.out (by have := HH.out.sl; simp at this; omega) (by have := HC1.out.size; have := HH.out.bw; omega) _ (World.grownBy.refl _ _)).mono ?_
       rintro e w2 ⟨rfl, sa', sc', hm, hc, hn⟩
       have HP : Hid (StP w B M none pv now (sb sa) (r ++ [Ce.convK k to a]) sp fl w2) := ⟨sa', sc', hm, HC1.out.trans (Nx.refl _ _) hc, Nx.trans HC1.out.size (Nx.refl _ _) hn⟩
       have hcw2 : c.grownBy w2 none := grown_chg hcw1 hc HH.out.cM (fun y hy => by simp at hy) (fun y hy => (hrow y hy).1)
       have HK2 : Hid (w2.cell? ⟨tb, o + 1, none⟩ = some (.int .i64 k) ∧ w2.cell? ⟨tb, o + 2, none⟩ = some (.int .i64 to)) := ⟨(HX.out.grown hcw2).a, (HX.out.grown hcw2).b⟩
       clear hm hc hn))
  go_wp2
  all_goals first | go_end0 | ((try simp only [Exit.inBlock, Exit.then]); refine bodyPost_ret (results_none rfl _ _ _) rfl ?_)
  all_goals exact ⟨rfl, HP.out.wide, HH.out.frame HP.out⟩
set_option maxRecDepth 10000 in
set_option maxHeartbeats 4000000 in
theorem do_dup {r : List Int} (a : Int) (h : Ctx c w B M F off n fc ar pv now sa sc (r ++ [a]) sp fl) (hx : InsAt c tb o ⟨9, 0, 0, 0⟩) :
    Calls Tryz.prog 32 #[.pointer (some ⟨M, 0, none⟩), .pointer (some ⟨tb, o, none⟩), .slice (some ⟨F, off, none⟩) n fc] w (DoP w B M F pv now (sb sa) (r ++ [a] ++ [a]) ar sp fl) := by
  have HH : Hid (Ctx c w B M F off n fc ar pv now sa sc (r ++ [a]) sp fl) := h
  have HX : Hid (InsAt c tb o ⟨9, 0, 0, 0⟩) := hx
  obtain ⟨q0, q1, q2, q3⟩ := hx.grown h.cw
  dsimp only at q0 q1 q2 q3
  obtain ⟨g, hsa⟩ : ∃ g, sa = some ⟨g, 0, none⟩ := by
    obtain ⟨_, ⟨e, e2⟩ | ⟨g, cc, cur, e, _⟩⟩ := h.ma.own
    · simp at e2
    · simp at e
      exact ⟨g, e.1⟩
  subst hsa
  have q : w.cell? ⟨g, r.length, none⟩ = some (.int .i64 a) := by
    have := World.ownsRow.cells h.ma.own rfl r.length (.int .i64 a) (by simp)
    rw [addn, Nat.zero_add] at this
    exact this
  have d2 := at_cell h.ma.blk 2
  simp at d2
  have hl := h.sl
  simp at hl
  obtain ⟨m, hm⟩ : ∃ m, r.length = m := ⟨_, rfl⟩
  rw [hm] at q d2 hl
  have i1 : (0 : Int) ≤ (m : Int) := by omega
  have i2 : (m : Int) < (m : Int) + 1 := by omega
  have i3 : IntKind.i64.wrap ((m : Int) + 1 - 1) = (m : Int) := by rw [show (m : Int) + 1 - 1 = (m : Int) by omega]; exact IntWalk.i64_in _ (by omega)
  have i4 : IntKind.i64.wrap (m : Int) = (m : Int) := IntWalk.i64_in _ (by omega)
  have i5 : m < m + 1 := by omega
  clear h hx q1 q2 q3 hm
  go_enter Tryz.func32, Tryz.ntmps32
  go_wp2_with fail
  go_region_with (first
    | (go_at_call 48
       refine (push_at a HH.out.ma (by have := HH.out.sl; omega) HH.out.bw _ (gr_drew (World.grownBy.refl _ _))).mono ?_
       rintro e w1 ⟨rfl, sa', sc', hm, hc, hn⟩
       have HP : Hid (StP w B M none pv now (sb (some ⟨g, 0, none⟩)) (r ++ [a] ++ [a]) sp fl w1) := ⟨sa', sc', hm, hc, hn⟩
       clear hm hc hn))
  all_goals go_wp2
  all_goals first | go_end0 | ((try simp only [Exit.inBlock, Exit.then]); refine bodyPost_ret (results_none rfl _ _ _) rfl ?_)
  all_goals exact ⟨rfl, HP.out.wide, HH.out.frame HP.out⟩
end Go.Proofs.YtcgbfhpmkpglkaaGreatDoor

/- The machine: what an instruction does (3). -/
namespace Go.Proofs.YtcgbfhpmkpglkaaGreatDoor
open Go.RowKit
attribute [local go_sem ↓] Go.wp_at_zero Go.wp_at_succ
set_option linter.unusedVariables false
set_option linter.unusedSimpArgs false
variable {c w : World} {B M F off n fc : Nat} {ar : List Int} {pv : Value} {now : Int} {sa : Option Addr} {sc : Nat} {sp fl : Int} {tb o : Nat}

set_option maxRecDepth 10000 in
set_option maxHeartbeats 4000000 in
theorem do_fill {st : List Int} (j k : Nat) (v : Int) (hk : 1 ≤ k) (hjk : j + k ≤ n) (h : Ctx c w B M F off n fc ar pv now sa sc st sp fl) (hx : InsAt c tb o ⟨16, (j : Int), (k : Int), v⟩) :
    Calls Tryz.prog 32 #[.pointer (some ⟨M, 0, none⟩), .pointer (some ⟨tb, o, none⟩), .slice (some ⟨F, off, none⟩) n fc] w (DoP w B M F pv now (sb sa) st (filled ar (off + j) k v) (sp + ((k : Int) - 1)) fl) := by
  have HH : Hid (Ctx c w B M F off n fc ar pv now sa sc st sp fl) := h
  have HX : Hid (InsAt c tb o ⟨16, (j : Int), (k : Int), v⟩) := hx
  obtain ⟨q0, q1, q2, q3⟩ := hx.grown h.cw
  dsimp only at q0 q1 q2 q3
  have cF : ∀ W cc, w.grownBy W none → Calls Tryz.prog 54 #[.pointer (some ⟨M, 0, none⟩), .slice (some ⟨F, off + j, none⟩) k cc, .int .i64 v] W fun e w' => e = .returned (.tuple #[]) ∧ StP w B M (some F) pv now (sb sa) st (sp + ((k : Int) - 1)) fl w' ∧ FrAt w' F (filled ar (off + j) k v) := fun W cc hW =>
    (fill_any W B M F (off + j) k cc ar pv now sa sc st v sp fl (h.ma.kept hW) (h.fr.grown hW) h.fm h.fb (by have := h.hn; omega) (by have := h.n2; omega) h.s0 h.s1).mono fun e w' ⟨g1, ⟨a1, a2, g2, g3, g4⟩, g5⟩ => ⟨g1, ⟨a1, a2, g2, (Chg.of_none hW).trans (Nx.refl _ _) g3, Nx.trans hW.size (Nx.refl _ _) g4⟩, g5⟩
  have s1 : ((j : Int) + (k : Int)).toNat - j = k := by omega
  have cG : ∀ W cc, w.grownBy W none → Calls Tryz.prog 54 #[.pointer (some ⟨M, 0, none⟩), .slice (some ⟨F, off + j, none⟩) (((j : Int) + (k : Int)).toNat - j) cc, .int .i64 v] W fun e w' => e = .returned (.tuple #[]) ∧ StP w B M (some F) pv now (sb sa) st (sp + ((k : Int) - 1)) fl w' ∧ FrAt w' F (filled ar (off + j) k v) := by rw [s1]; exact cF
  have e1 : IntKind.i64.wrap ((j : Int) + (k : Int)) = (j : Int) + (k : Int) := IntWalk.i64_in _ (by have := h.n2; omega)
  have hnc := h.nc
  have hrow := h.row
  have n1 : ¬ fc = j := by omega
  have i0 : (0 : Int) ≤ (j : Int) := by omega
  have i1 : (j : Int) ≤ (j : Int) + (k : Int) := by omega
  have i2 : (j : Int) + (k : Int) ≤ (fc : Int) := by omega
  have i3 : (0 : Int) ≤ (j : Int) + (k : Int) := by omega
  have i4 : (0 : Int) ≤ (k : Int) := by omega
  clear h hx cF s1
  go_enter Tryz.func32, Tryz.ntmps32
  go_wp2_with fail
  go_region_held3 (fun w' => w'.cell? ⟨tb, o + 1, none⟩ = some (.int .i64 (j : Int)) ∧ w'.cell? ⟨tb, o + 2, none⟩ = some (.int .i64 (k : Int)) ∧ w'.cell? ⟨tb, o + 3, none⟩ = some (.int .i64 v)) (first | (go_keep; done) | exact HK1.out) (first
    | (go_at_call 54
       refine (cG _ _ (gr_drew (World.grownBy.refl _ _))).mono ?_
       rintro e w1 ⟨rfl, hp, hf⟩
       have HP : Hid (StP w B M (some F) pv now (sb sa) st (sp + ((k : Int) - 1)) fl w1) := hp
       have HF : Hid (FrAt w1 F (filled ar (off + j) k v)) := hf
       obtain ⟨a1, a2, _, hcc, _⟩ := hp
       have hcw1 : c.grownBy w1 none := grown_chg HH.out.cw hcc HH.out.cM (fun y hy => by simp at hy; have := HH.out.cF; omega) (fun y hy => (hrow y hy).1)
       have HK1 : Hid (w1.cell? ⟨tb, o + 1, none⟩ = some (.int .i64 (j : Int)) ∧ w1.cell? ⟨tb, o + 2, none⟩ = some (.int .i64 (k : Int)) ∧ w1.cell? ⟨tb, o + 3, none⟩ = some (.int .i64 v)) := ⟨(HX.out.grown hcw1).a, (HX.out.grown hcw1).b, (HX.out.grown hcw1).c⟩
       clear hf hcc))
  go_wp2
  all_goals first | go_end0 | ((try simp only [Exit.inBlock, Exit.then]); refine bodyPost_ret (results_none rfl _ _ _) rfl ?_)
  all_goals exact ⟨rfl, HP.out, HF.out⟩
set_option maxRecDepth 10000 in
set_option maxHeartbeats 4000000 in
theorem do_std {st : List Int} (num : Int) (j : Nat) (h1 : 1 ≤ num) (h2 : num ≤ 12) (hj : (j : Int) + stdW num ≤ n) (hS : Stds c) (h : Ctx c w B M F off n fc ar pv now sa sc st sp fl) (hx : InsAt c tb o ⟨18, num, (j : Int), 0⟩) :
    Calls Tryz.prog 32 #[.pointer (some ⟨M, 0, none⟩), .pointer (some ⟨tb, o, none⟩), .slice (some ⟨F, off, none⟩) n fc] w fun e w' => DoP w B M F pv now (sb sa) st (stdA num now ar (off + j)) sp fl e w' ∧ (stdA num now ar (off + j)).length = ar.length := by
  have HH : Hid (Ctx c w B M F off n fc ar pv now sa sc st sp fl) := h
  have HX : Hid (InsAt c tb o ⟨18, num, (j : Int), 0⟩) := hx
  obtain ⟨q0, q1, q2, q3⟩ := hx.grown h.cw
  dsimp only at q0 q1 q2 q3
  have hsw : 3 ≤ stdW num := by unfold stdW; repeat' split; all_goals omega
  have cF : ∀ W cc, w.grownBy W none → n - j ≤ cc → Calls Tryz.prog 55 #[.pointer (some ⟨M, 0, none⟩), .int .i64 num, .slice (some ⟨F, off + j, none⟩) (n - j) cc] W fun e w' => e = .returned (.tuple #[]) ∧ StP w B M (some F) pv now (sb sa) st sp fl w' ∧ FrAt w' F (stdA num now ar (off + j)) ∧ (stdA num now ar (off + j)).length = ar.length := fun W cc hW hcc =>
    (standard_any num h1 h2 W B M F (off + j) (n - j) cc ar pv now sa sc st sp fl (h.ma.kept hW) (h.fr.grown hW) h.fm h.fb (by have := h.bw; have := hW.size; omega) (by omega) hcc (by have := h.hn; omega) (hS.grown (h.cw.trans hW))).mono fun e w' ⟨g1, ⟨a1, a2, g2, g3, g4⟩, g5, g6⟩ => ⟨g1, ⟨a1, a2, g2, (Chg.of_none hW).trans (Nx.refl _ _) g3, Nx.trans hW.size (Nx.refl _ _) g4⟩, g5, g6⟩
  have hnc := h.nc
  have hrow := h.row
  have n1 : ¬ fc = j := by omega
  have i0 : (0 : Int) ≤ (j : Int) := by omega
  have i1 : (j : Int) ≤ (n : Int) := by omega
  have i2 : (n : Int) ≤ (fc : Int) := by omega
  have i3 : j ≤ n := by omega
  have HNJ : Hid (n - j ≤ fc - j) := (by omega : n - j ≤ fc - j)
  clear h hx hS
  go_enter Tryz.func32, Tryz.ntmps32
  go_wp2_with fail
  go_region_held3 (fun w' => w'.cell? ⟨tb, o + 1, none⟩ = some (.int .i64 num) ∧ w'.cell? ⟨tb, o + 2, none⟩ = some (.int .i64 (j : Int))) (first | (go_keep; done) | exact HK1.out) (first
    | (go_at_call 55
       refine (cF _ _ (gr_drew (World.grownBy.refl _ _)) HNJ.out).mono ?_
       rintro e w1 ⟨rfl, hp, hf, hl⟩
       have HP : Hid (StP w B M (some F) pv now (sb sa) st sp fl w1) := hp
       have HF : Hid (FrAt w1 F (stdA num now ar (off + j))) := hf
       have HL : Hid ((stdA num now ar (off + j)).length = ar.length) := hl
       obtain ⟨a1, a2, _, hcc, _⟩ := hp
       have hcw1 : c.grownBy w1 none := grown_chg HH.out.cw hcc HH.out.cM (fun y hy => by simp at hy; have := HH.out.cF; omega) (fun y hy => (hrow y hy).1)
       have HK1 : Hid (w1.cell? ⟨tb, o + 1, none⟩ = some (.int .i64 num) ∧ w1.cell? ⟨tb, o + 2, none⟩ = some (.int .i64 (j : Int))) := ⟨(HX.out.grown hcw1).a, (HX.out.grown hcw1).b⟩
       clear hf hcc hl))
  go_wp2
  all_goals first | go_end0 | ((try simp only [Exit.inBlock, Exit.then]); refine bodyPost_ret (results_none rfl _ _ _) rfl ?_)
  all_goals exact ⟨⟨rfl, HP.out, HF.out⟩, HL.out⟩

end Go.Proofs.YtcgbfhpmkpglkaaGreatDoor

/- The machine: what an instruction does (4): a unit's run. -/
namespace Go.Proofs.YtcgbfhpmkpglkaaGreatDoor
open Go.RowKit
attribute [local go_sem ↓] Go.wp_at_zero Go.wp_at_succ
set_option linter.unusedVariables false
set_option linter.unusedSimpArgs false
variable {c w : World} {B M F off n fc : Nat} {ar : List Int} {now : Int} {sa : Option Addr} {sc : Nat} {sp fl : Int} {tb o : Nat}

set_option maxRecDepth 10000 in
set_option maxHeartbeats 4000000 in
theorem do_run {st : List Int} {pb po np pcap : Nat} (u j fnu ffc : Nat) (fa : Option Addr) (Q : World → Prop) (hu : u < np) (hjn : j + fnu ≤ n) (h : Ctx c w B M F off n fc ar (.slice (some ⟨pb, po, none⟩) np pcap) now sa sc st sp fl) (hx : InsAt c tb o ⟨17, (u : Int), (j : Int), 0⟩) (hfst : c.cell? ⟨pb, po + u * 5 + 2, none⟩ = some (.slice fa fnu ffc))
    (hR : ∀ W off' cc, w.grownBy W none → off' + fnu ≤ ar.length → fnu ≤ cc → Calls Tryz.prog 18 #[.pointer (some ⟨M, 0, none⟩), .pointer (some ⟨pb, po + u * 5, none⟩), .slice (some ⟨F, off', none⟩) fnu cc] W fun e w' => e = .returned (.tuple #[]) ∧ Q w' ∧ c.grownBy w' none) :
    Calls Tryz.prog 32 #[.pointer (some ⟨M, 0, none⟩), .pointer (some ⟨tb, o, none⟩), .slice (some ⟨F, off, none⟩) n fc] w fun e w' => e = .returned (.tuple #[]) ∧ Q w' := by
  have HX : Hid (InsAt c tb o ⟨17, (u : Int), (j : Int), 0⟩) := hx
  obtain ⟨q0, q1, q2, q3⟩ := hx.grown h.cw
  dsimp only at q0 q1 q2 q3
  have m0 := at_cell h.ma.blk 0
  simp at m0
  have q4 := h.cw.cell hfst (by simp)
  have HFS : Hid (c.cell? ⟨pb, po + u * 5 + 2, none⟩ = some (.slice fa fnu ffc)) := hfst
  have s1 : ((j : Int) + (fnu : Int)).toNat - j = fnu := by omega
  have hnc := h.nc
  have hn2 := h.n2
  have hhn := h.hn
  have HR : Hid (∀ W off' cc, w.grownBy W none → off' + fnu ≤ ar.length → fnu ≤ cc → Calls Tryz.prog 18 #[.pointer (some ⟨M, 0, none⟩), .pointer (some ⟨pb, po + u * 5, none⟩), .slice (some ⟨F, off', none⟩) (((j : Int) + (fnu : Int)).toNat - j) cc] W fun e w' => e = .returned (.tuple #[]) ∧ Q w' ∧ c.grownBy w' none) := by rw [s1]; exact hR
  have e1 : IntKind.i64.wrap ((j : Int) + (fnu : Int)) = (j : Int) + (fnu : Int) := IntWalk.i64_in _ (by omega)
  have i0 : (0 : Int) ≤ (j : Int) := by omega
  have i1 : (j : Int) ≤ (j : Int) + (fnu : Int) := by omega
  have i2 : (j : Int) + (fnu : Int) ≤ (fc : Int) := by omega
  have i3 : (0 : Int) ≤ (j : Int) + (fnu : Int) := by omega
  have i4 : (0 : Int) ≤ (fnu : Int) := by omega
  have i5 : (0 : Int) ≤ (u : Int) := by omega
  have i6 : (u : Int) < (np : Int) := by omega
  clear hR hfst hx q3 h s1
  by_cases hfj : fc = j
  · have hf0 : fnu = 0 := by omega
    subst hf0
    subst hfj
    have HR0 : Hid (∀ W off' cc, w.grownBy W none → off' ≤ ar.length → Calls Tryz.prog 18 #[.pointer (some ⟨M, 0, none⟩), .pointer (some ⟨pb, po + u * 5, none⟩), .slice (some ⟨F, off', none⟩) 0 cc] W fun e w' => e = .returned (.tuple #[]) ∧ Q w' ∧ c.grownBy w' none) := fun W off' cc h1 h2 => by
      have h := HR.out W off' cc h1 (by omega) (by omega)
      rw [show ((fc : Int) + ((0 : Nat) : Int)).toNat - fc = 0 by omega] at h
      exact h
    have e2 : IntKind.i64.wrap (fc : Int) = (fc : Int) := IntWalk.i64_in _ (by omega)
    have e3 : (fc : Int) ≤ (fc : Int) := by omega
    clear e1 i1 i2 i3 i4
    go_enter Tryz.func32, Tryz.ntmps32
    go_wp2_with fail
    go_region_held3 (fun w' => w'.cell? ⟨M, 0, none⟩ = some (.slice (some ⟨pb, po, none⟩) np pcap) ∧ w'.cell? ⟨tb, o + 1, none⟩ = some (.int .i64 (u : Int))) (go_keep) (fail)
    go_wp2_with fail
    go_region_held3 (fun w' => w'.cell? ⟨tb, o + 2, none⟩ = some (.int .i64 (fc : Int)) ∧ w'.cell? ⟨pb, po + u * 5 + 2, none⟩ = some (.slice fa 0 ffc)) (first | (go_keep; done) | exact HK1.out) (first
      | (go_at_call 18
         refine (HR0.out _ _ _ (gr_drew (gr_drew (World.grownBy.refl _ _))) (by omega)).mono ?_
         rintro e w1 ⟨rfl, hp, hcw1⟩
         have HK1 : Hid (w1.cell? ⟨tb, o + 2, none⟩ = some (.int .i64 (fc : Int)) ∧ w1.cell? ⟨pb, po + u * 5 + 2, none⟩ = some (.slice fa 0 ffc)) := ⟨(HX.out.grown hcw1).b, hcw1.cell HFS.out (by simp)⟩
         clear hcw1))
    go_wp2
    all_goals first | go_end0 | ((try simp only [Exit.inBlock, Exit.then]); refine bodyPost_ret (results_none rfl _ _ _) rfl ?_)
    all_goals exact ⟨rfl, hp⟩
  · go_enter Tryz.func32, Tryz.ntmps32
    go_wp2_with fail
    go_region_held3 (fun w' => w'.cell? ⟨M, 0, none⟩ = some (.slice (some ⟨pb, po, none⟩) np pcap) ∧ w'.cell? ⟨tb, o + 1, none⟩ = some (.int .i64 (u : Int))) (go_keep) (fail)
    go_wp2_with fail
    go_region_held3 (fun w' => w'.cell? ⟨tb, o + 2, none⟩ = some (.int .i64 (j : Int)) ∧ w'.cell? ⟨pb, po + u * 5 + 2, none⟩ = some (.slice fa fnu ffc)) (first | (go_keep; done) | exact HK1.out) (first
      | (go_at_call 18
         refine (HR.out _ _ _ (gr_drew (gr_drew (World.grownBy.refl _ _))) (by omega) (by omega)).mono ?_
         rintro e w1 ⟨rfl, hp, hcw1⟩
         have HK1 : Hid (w1.cell? ⟨tb, o + 2, none⟩ = some (.int .i64 (j : Int)) ∧ w1.cell? ⟨pb, po + u * 5 + 2, none⟩ = some (.slice fa fnu ffc)) := ⟨(HX.out.grown hcw1).b, hcw1.cell HFS.out (by simp)⟩
         clear hcw1))
    go_wp2
    all_goals first | go_end0 | ((try simp only [Exit.inBlock, Exit.then]); refine bodyPost_ret (results_none rfl _ _ _) rfl ?_)
    all_goals exact ⟨rfl, hp⟩
end Go.Proofs.YtcgbfhpmkpglkaaGreatDoor

/- mayFields, mayInstr. -/
namespace Go.Proofs.YtcgbfhpmkpglkaaGreatDoor
open Go.RowKit
attribute [local go_sem ↓] Go.wp_at_zero Go.wp_at_succ
set_option linter.unusedVariables false
set_option linter.unusedSimpArgs false

/-- What the program asks of the fields of instruction i: of a unit whose frame has fn words and whose text has n instructions, behind these. -/
def fieldsS (l : List (Int × Nat)) (fn n i : Nat) (x : Ins) : Bool :=
  if x.d = 2 ∨ x.d = 3 then hasW fn x.a 1
  else if x.d = 4 ∨ x.d = 5 then decide (0 < x.b) && hasW fn x.a x.b && isW x.c (-4294967295) 4294967295
  else if x.d = 16 then decide (0 < x.b) && hasW fn x.a x.b
  else if x.d = 6 then resK x.a x.b != 0
  else if x.d = 7 then isK x.a && isK x.b && x.a != x.b
  else if x.d = 11 ∨ x.d = 12 then isW x.a ((i : Int) + 1) n
  else if x.d = 13 then isW x.a 0 39 && isW x.b 1 10000
  else if x.d = 17 then callS l x.a && hasW fn x.b (l.getD x.a.toNat (0, 0)).2
  else if x.d = 18 then isW x.a 1 12 && hasW fn x.b (stdW x.a)
  else true

/-- What the one who looks over a unit has at hand. -/
structure Ov (w : World) (o : Nat) (l : List (Int × Nat)) (fn n : Nat) : Prop where
  ahead : ∃ av, w.cell? ⟨o, 0, none⟩ = some av ∧ AhAt w av l
  proc : ∃ pb po fa fc ta tc, w.cell? ⟨o, 2, none⟩ = some (.pointer (some ⟨pb, po, none⟩)) ∧ w.cell? ⟨pb, po + 2, none⟩ = some (.slice fa fn fc) ∧ w.cell? ⟨pb, po + 4, none⟩ = some (.slice ta n tc)
theorem Ov.grown {w w' : World} {o : Nat} {l : List (Int × Nat)} {fn n : Nat} (h : Ov w o l fn n) (hg : w.grownBy w' none) : Ov w' o l fn n := by
  obtain ⟨⟨av, a1, a2⟩, pb, po, fa, fc, ta, tc, p1, p2, p3⟩ := h
  exact ⟨⟨av, hg.cell a1 (by simp), a2.grown hg⟩, pb, po, fa, fc, ta, tc, hg.cell p1 (by simp), hg.cell p2 (by simp), hg.cell p3 (by simp)⟩

theorem hasWords_ov {w : World} {o : Nat} {l : List (Int × Nat)} {fn n : Nat} (h : Ov w o l fn n) (at' k : Int) (hk : 0 ≤ k) (hf : fn ≤ 1000000000000) :
    Calls Tryz.prog 88 #[.pointer (some ⟨o, 0, none⟩), .int .i64 at', .int .i64 k] w fun e w' => e = .returned (.bool (hasW fn at' k)) ∧ w = w' := by
  obtain ⟨pb, po, fa, fc, ta, tc, p1, p2, p3⟩ := h.proc
  exact hasWords_any o pb po fn fc fa at' k w p1 p2 hk hf
theorem mayCall_ov {w : World} {o : Nat} {l : List (Int × Nat)} {fn n : Nat} (h : Ov w o l fn n) (k : Int) (hl : l.length ≤ 1000000000000) :
    Calls Tryz.prog 90 #[.pointer (some ⟨o, 0, none⟩), .int .i64 k] w fun e w' => e = .returned (.bool (callS l k)) ∧ w = w' := by
  obtain ⟨av, a1, a2⟩ := h.ahead
  exact mayCall_any o av l k w a1 a2 hl

set_option maxHeartbeats 2000000 in
theorem fields_load (d a b c : Int) (hd : d = 2 ∨ d = 3) (l : List (Int × Nat)) (fn n i o : Nat) (w : World) (hO : Ov w o l fn n) (hf : fn ≤ 1000000000000) (hl : l.length ≤ 1000000000000) (hi : i ≤ 1000000000000) (hn : n ≤ 1000000000000) :
    Calls Tryz.prog 75 #[.pointer (some ⟨o, 0, none⟩), .int .i64 i, .agg #[.int .i64 d, .int .i64 a, .int .i64 b, .int .i64 c]] w fun e w' => e = .returned (.bool (fieldsS l fn n i ⟨d, a, b, c⟩)) ∧ w.grownBy w' none := by
  have HO : ∀ ob, Ov (w.alloc ob) o l fn n := fun ob => hO.grown (gr1 _ _)
  have HH : Hid (∀ ob, Ov (w.alloc ob) o l fn n) := HO
  clear hO HO
  rcases hd with rfl | rfl
  · go_enter Tryz.func75, Tryz.ntmps75
    go_wp2_with (first | (go_at_call 88; refine (hasWords_ov (HH.out _) _ _ (by omega) hf).mono ?_; rintro e w' ⟨rfl, rfl⟩))
    go_ret
    exact ⟨rfl, gr1 _ _⟩
  · go_enter Tryz.func75, Tryz.ntmps75
    go_wp2_with (first | (go_at_call 88; refine (hasWords_ov (HH.out _) _ _ (by omega) hf).mono ?_; rintro e w' ⟨rfl, rfl⟩))
    go_ret
    exact ⟨rfl, gr1 _ _⟩

set_option maxHeartbeats 2000000 in
theorem fields_loadAt (d a b c : Int) (hd : d = 4 ∨ d = 5) (l : List (Int × Nat)) (fn n i o : Nat) (w : World) (hO : Ov w o l fn n) (hf : fn ≤ 1000000000000) (hl : l.length ≤ 1000000000000) (hi : i ≤ 1000000000000) (hn : n ≤ 1000000000000) :
    Calls Tryz.prog 75 #[.pointer (some ⟨o, 0, none⟩), .int .i64 i, .agg #[.int .i64 d, .int .i64 a, .int .i64 b, .int .i64 c]] w fun e w' => e = .returned (.bool (fieldsS l fn n i ⟨d, a, b, c⟩)) ∧ w.grownBy w' none := by
  have HO : ∀ ob, Ov (w.alloc ob) o l fn n := fun ob => hO.grown (gr1 _ _)
  have HH : Hid (∀ ob, Ov (w.alloc ob) o l fn n) := HO
  clear hO HO
  rcases hd with rfl | rfl
  · by_cases hb : 0 < b
    · by_cases hh : hasW fn a b = true
      · go_enter Tryz.func75, Tryz.ntmps75
        go_wp2_with (first | (go_at_call 88; refine (hasWords_ov (HH.out _) _ _ (by omega) hf).mono ?_; rintro e w' ⟨rfl, rfl⟩) | (go_at_call 70; refine (within_any _ _ _ _).mono ?_; rintro e w' ⟨rfl, rfl⟩))
        go_ret
        exact ⟨ret_bool (by show _ = (decide (0 < b) && hasW fn a b && isW c (-4294967295) 4294967295); simp [hb, hh]), gr1 _ _⟩
      · have hh' : hasW fn a b = false := by simpa using hh
        go_enter Tryz.func75, Tryz.ntmps75
        go_wp2_with (first | (go_at_call 88; refine (hasWords_ov (HH.out _) _ _ (by omega) hf).mono ?_; rintro e w' ⟨rfl, rfl⟩) | (go_at_call 70; refine (within_any _ _ _ _).mono ?_; rintro e w' ⟨rfl, rfl⟩))
        go_ret
        exact ⟨ret_bool (by show _ = (decide (0 < b) && hasW fn a b && isW c (-4294967295) 4294967295); simp [hb, hh']), gr1 _ _⟩
    · go_enter Tryz.func75, Tryz.ntmps75
      go_wp2_with (first | (go_at_call 88; refine (hasWords_ov (HH.out _) _ _ (by omega) hf).mono ?_; rintro e w' ⟨rfl, rfl⟩) | (go_at_call 70; refine (within_any _ _ _ _).mono ?_; rintro e w' ⟨rfl, rfl⟩))
      go_ret
      exact ⟨ret_bool (by show false = (decide (0 < b) && hasW fn a b && isW c (-4294967295) 4294967295); rw [decide_eq_false (by omega : ¬ 0 < b)]; rfl), gr1 _ _⟩
  · by_cases hb : 0 < b
    · by_cases hh : hasW fn a b = true
      · go_enter Tryz.func75, Tryz.ntmps75
        go_wp2_with (first | (go_at_call 88; refine (hasWords_ov (HH.out _) _ _ (by omega) hf).mono ?_; rintro e w' ⟨rfl, rfl⟩) | (go_at_call 70; refine (within_any _ _ _ _).mono ?_; rintro e w' ⟨rfl, rfl⟩))
        go_ret
        exact ⟨ret_bool (by show _ = (decide (0 < b) && hasW fn a b && isW c (-4294967295) 4294967295); simp [hb, hh]), gr1 _ _⟩
      · have hh' : hasW fn a b = false := by simpa using hh
        go_enter Tryz.func75, Tryz.ntmps75
        go_wp2_with (first | (go_at_call 88; refine (hasWords_ov (HH.out _) _ _ (by omega) hf).mono ?_; rintro e w' ⟨rfl, rfl⟩) | (go_at_call 70; refine (within_any _ _ _ _).mono ?_; rintro e w' ⟨rfl, rfl⟩))
        go_ret
        exact ⟨ret_bool (by show _ = (decide (0 < b) && hasW fn a b && isW c (-4294967295) 4294967295); simp [hb, hh']), gr1 _ _⟩
    · go_enter Tryz.func75, Tryz.ntmps75
      go_wp2_with (first | (go_at_call 88; refine (hasWords_ov (HH.out _) _ _ (by omega) hf).mono ?_; rintro e w' ⟨rfl, rfl⟩) | (go_at_call 70; refine (within_any _ _ _ _).mono ?_; rintro e w' ⟨rfl, rfl⟩))
      go_ret
      exact ⟨ret_bool (by show false = (decide (0 < b) && hasW fn a b && isW c (-4294967295) 4294967295); rw [decide_eq_false (by omega : ¬ 0 < b)]; rfl), gr1 _ _⟩

set_option maxHeartbeats 2000000 in
theorem fields_fill (d a b c : Int) (hd : d = 16) (l : List (Int × Nat)) (fn n i o : Nat) (w : World) (hO : Ov w o l fn n) (hf : fn ≤ 1000000000000) (hl : l.length ≤ 1000000000000) (hi : i ≤ 1000000000000) (hn : n ≤ 1000000000000) :
    Calls Tryz.prog 75 #[.pointer (some ⟨o, 0, none⟩), .int .i64 i, .agg #[.int .i64 d, .int .i64 a, .int .i64 b, .int .i64 c]] w fun e w' => e = .returned (.bool (fieldsS l fn n i ⟨d, a, b, c⟩)) ∧ w.grownBy w' none := by
  have HO : ∀ ob, Ov (w.alloc ob) o l fn n := fun ob => hO.grown (gr1 _ _)
  have HH : Hid (∀ ob, Ov (w.alloc ob) o l fn n) := HO
  clear hO HO
  subst hd
  by_cases hb : 0 < b
  · go_enter Tryz.func75, Tryz.ntmps75
    go_wp2_with (first | (go_at_call 88; refine (hasWords_ov (HH.out _) _ _ (by omega) hf).mono ?_; rintro e w' ⟨rfl, rfl⟩))
    go_ret
    exact ⟨ret_bool (by show _ = (decide (0 < b) && hasW fn a b); simp [hb]), gr1 _ _⟩
  · go_enter Tryz.func75, Tryz.ntmps75
    go_wp2_with (first | (go_at_call 88; refine (hasWords_ov (HH.out _) _ _ (by omega) hf).mono ?_; rintro e w' ⟨rfl, rfl⟩))
    go_ret
    exact ⟨ret_bool (by show false = (decide (0 < b) && hasW fn a b); rw [decide_eq_false (by omega : ¬ 0 < b)]; rfl), gr1 _ _⟩

set_option maxHeartbeats 2000000 in
theorem fields_work (d a b c : Int) (hd : d = 6) (l : List (Int × Nat)) (fn n i o : Nat) (w : World) (hO : Ov w o l fn n) (hf : fn ≤ 1000000000000) (hl : l.length ≤ 1000000000000) (hi : i ≤ 1000000000000) (hn : n ≤ 1000000000000) :
    Calls Tryz.prog 75 #[.pointer (some ⟨o, 0, none⟩), .int .i64 i, .agg #[.int .i64 d, .int .i64 a, .int .i64 b, .int .i64 c]] w fun e w' => e = .returned (.bool (fieldsS l fn n i ⟨d, a, b, c⟩)) ∧ w.grownBy w' none := by
  have HO : ∀ ob, Ov (w.alloc ob) o l fn n := fun ob => hO.grown (gr1 _ _)
  have HH : Hid (∀ ob, Ov (w.alloc ob) o l fn n) := HO
  clear hO HO
  subst hd
  go_enter Tryz.func75, Tryz.ntmps75
  go_wp2_with (first | (go_at_call 83; refine (result_any _ _ _).mono ?_; rintro e w' ⟨rfl, rfl⟩))
  go_ret
  exact ⟨rfl, gr1 _ _⟩

set_option maxHeartbeats 2000000 in
theorem fields_turn (d a b c : Int) (hd : d = 7) (l : List (Int × Nat)) (fn n i o : Nat) (w : World) (hO : Ov w o l fn n) (hf : fn ≤ 1000000000000) (hl : l.length ≤ 1000000000000) (hi : i ≤ 1000000000000) (hn : n ≤ 1000000000000) :
    Calls Tryz.prog 75 #[.pointer (some ⟨o, 0, none⟩), .int .i64 i, .agg #[.int .i64 d, .int .i64 a, .int .i64 b, .int .i64 c]] w fun e w' => e = .returned (.bool (fieldsS l fn n i ⟨d, a, b, c⟩)) ∧ w.grownBy w' none := by
  have HO : ∀ ob, Ov (w.alloc ob) o l fn n := fun ob => hO.grown (gr1 _ _)
  have HH : Hid (∀ ob, Ov (w.alloc ob) o l fn n) := HO
  clear hO HO
  subst hd
  by_cases ha : isK a = true
  · by_cases hb : isK b = true
    · go_enter Tryz.func75, Tryz.ntmps75
      go_wp2_with (first | (go_at_call 89; refine (kindIs_any _ _).mono ?_; rintro e w' ⟨rfl, rfl⟩))
      go_ret
      exact ⟨ret_bool (by show _ = (isK a && isK b && a != b); simp [ha, hb]), gr1 _ _⟩
    · have hb' : isK b = false := by simpa using hb
      go_enter Tryz.func75, Tryz.ntmps75
      go_wp2_with (first | (go_at_call 89; refine (kindIs_any _ _).mono ?_; rintro e w' ⟨rfl, rfl⟩))
      go_ret
      exact ⟨ret_bool (by show _ = (isK a && isK b && a != b); simp [ha, hb']), gr1 _ _⟩
  · have ha' : isK a = false := by simpa using ha
    go_enter Tryz.func75, Tryz.ntmps75
    go_wp2_with (first | (go_at_call 89; refine (kindIs_any _ _).mono ?_; rintro e w' ⟨rfl, rfl⟩))
    go_ret
    exact ⟨ret_bool (by show _ = (isK a && isK b && a != b); simp [ha']), gr1 _ _⟩

set_option maxHeartbeats 2000000 in
theorem fields_enter (d a b c : Int) (hd : d = 13) (l : List (Int × Nat)) (fn n i o : Nat) (w : World) (hO : Ov w o l fn n) (hf : fn ≤ 1000000000000) (hl : l.length ≤ 1000000000000) (hi : i ≤ 1000000000000) (hn : n ≤ 1000000000000) :
    Calls Tryz.prog 75 #[.pointer (some ⟨o, 0, none⟩), .int .i64 i, .agg #[.int .i64 d, .int .i64 a, .int .i64 b, .int .i64 c]] w fun e w' => e = .returned (.bool (fieldsS l fn n i ⟨d, a, b, c⟩)) ∧ w.grownBy w' none := by
  have HO : ∀ ob, Ov (w.alloc ob) o l fn n := fun ob => hO.grown (gr1 _ _)
  have HH : Hid (∀ ob, Ov (w.alloc ob) o l fn n) := HO
  clear hO HO
  subst hd
  by_cases ha : isW a 0 39 = true
  · go_enter Tryz.func75, Tryz.ntmps75
    go_wp2_with (first | (go_at_call 70; refine (within_any _ _ _ _).mono ?_; rintro e w' ⟨rfl, rfl⟩))
    go_ret
    exact ⟨ret_bool (by show _ = (isW a 0 39 && isW b 1 10000); simp [ha]), gr1 _ _⟩
  · have ha' : isW a 0 39 = false := by simpa using ha
    go_enter Tryz.func75, Tryz.ntmps75
    go_wp2_with (first | (go_at_call 70; refine (within_any _ _ _ _).mono ?_; rintro e w' ⟨rfl, rfl⟩))
    go_ret
    exact ⟨ret_bool (by show _ = (isW a 0 39 && isW b 1 10000); simp [ha']), gr1 _ _⟩

set_option maxHeartbeats 2000000 in
theorem fields_else (d a b c : Int) (h1 : (d == 2) = false) (h2 : (d == 3) = false) (h3 : (d == 4) = false) (h4 : (d == 5) = false) (h5 : (d == 6) = false) (h6 : (d == 7) = false) (h7 : (d == 11) = false) (h8 : (d == 12) = false) (h9 : (d == 13) = false) (h10 : (d == 16) = false) (h11 : (d == 17) = false) (h12 : (d == 18) = false) (l : List (Int × Nat)) (fn n i o : Nat) (w : World) (hO : Ov w o l fn n) (hf : fn ≤ 1000000000000) (hl : l.length ≤ 1000000000000) (hi : i ≤ 1000000000000) (hn : n ≤ 1000000000000) :
    Calls Tryz.prog 75 #[.pointer (some ⟨o, 0, none⟩), .int .i64 i, .agg #[.int .i64 d, .int .i64 a, .int .i64 b, .int .i64 c]] w fun e w' => e = .returned (.bool (fieldsS l fn n i ⟨d, a, b, c⟩)) ∧ w.grownBy w' none := by
  have HO : ∀ ob, Ov (w.alloc ob) o l fn n := fun ob => hO.grown (gr1 _ _)
  have HH : Hid (∀ ob, Ov (w.alloc ob) o l fn n) := HO
  clear hO HO
  have HU : Hid (fieldsS l fn n i ⟨d, a, b, c⟩ = true) := (by unfold fieldsS; simp_all : fieldsS l fn n i ⟨d, a, b, c⟩ = true)
  go_enter Tryz.func75, Tryz.ntmps75
  go_wp2
  go_ret
  exact ⟨ret_bool (by rw [HU.out]), gr1 _ _⟩

end Go.Proofs.YtcgbfhpmkpglkaaGreatDoor

/- mayFields, where the order of evaluation is drawn; mayInstr. -/
namespace Go.Proofs.YtcgbfhpmkpglkaaGreatDoor
open Go.RowKit
attribute [local go_sem ↓] Go.wp_at_zero Go.wp_at_succ
set_option linter.unusedVariables false
set_option linter.unusedSimpArgs false

set_option maxHeartbeats 2000000 in
theorem fields_jump (d a b c : Int) (hd : d = 11 ∨ d = 12) (l : List (Int × Nat)) (fn n i o : Nat) (w : World) (hO : Ov w o l fn n) (hf : fn ≤ 1000000000000) (hl : l.length ≤ 1000000000000) (hi : i ≤ 1000000000000) (hn : n ≤ 1000000000000) :
    Calls Tryz.prog 75 #[.pointer (some ⟨o, 0, none⟩), .int .i64 i, .agg #[.int .i64 d, .int .i64 a, .int .i64 b, .int .i64 c]] w fun e w' => e = .returned (.bool (fieldsS l fn n i ⟨d, a, b, c⟩)) ∧ w.grownBy w' none := by
  have HO : ∀ ob, Ov (w.alloc ob) o l fn n := fun ob => hO.grown (gr1 _ _)
  have HH : Hid (∀ ob, Ov (w.alloc ob) o l fn n) := HO
  clear hO HO
  rcases hd with rfl | rfl
  · obtain ⟨pb, po, fa, fc, ta, tc, p1, p2, p3⟩ := (HH.out (.cells #[.int .i64 11, .int .i64 a, .int .i64 b, .int .i64 c] 40)).proc
    have ew : wrap64 ((i : Int) + 1) = (i : Int) + 1 := by unfold wrap64; omega
    go_enter Tryz.func75, Tryz.ntmps75
    go_wp2
    go_quiet (first | (go_at_call 70; exact Calls.quiet_of_same ((within_any _ _ _ _).mono fun _ _ h => ⟨h.1, h.2.symm⟩)))
    go_wp2
    go_ret
    refine ⟨?_, gr_drewN (gr1 _ _) _⟩
    simp [fieldsS, ew, IntWalk.i64_left]
  · obtain ⟨pb, po, fa, fc, ta, tc, p1, p2, p3⟩ := (HH.out (.cells #[.int .i64 12, .int .i64 a, .int .i64 b, .int .i64 c] 40)).proc
    have ew : wrap64 ((i : Int) + 1) = (i : Int) + 1 := by unfold wrap64; omega
    go_enter Tryz.func75, Tryz.ntmps75
    go_wp2
    go_quiet (first | (go_at_call 70; exact Calls.quiet_of_same ((within_any _ _ _ _).mono fun _ _ h => ⟨h.1, h.2.symm⟩)))
    go_wp2
    go_ret
    refine ⟨?_, gr_drewN (gr1 _ _) _⟩
    simp [fieldsS, ew, IntWalk.i64_left]

end Go.Proofs.YtcgbfhpmkpglkaaGreatDoor

/- mayFields, where the order of evaluation is drawn. -/
namespace Go.Proofs.YtcgbfhpmkpglkaaGreatDoor
open Go.RowKit
attribute [local go_sem ↓] Go.wp_at_zero Go.wp_at_succ
set_option linter.unusedVariables false
set_option linter.unusedSimpArgs false

set_option maxHeartbeats 2000000 in
theorem fields_run (d a b c : Int) (hd : d = 17) (l : List (Int × Nat)) (fn n i o : Nat) (w : World) (hO : Ov w o l fn n) (hf : fn ≤ 1000000000000) (hl : l.length ≤ 1000000000000) (hi : i ≤ 1000000000000) (hn : n ≤ 1000000000000) :
    Calls Tryz.prog 75 #[.pointer (some ⟨o, 0, none⟩), .int .i64 i, .agg #[.int .i64 d, .int .i64 a, .int .i64 b, .int .i64 c]] w fun e w' => e = .returned (.bool (fieldsS l fn n i ⟨d, a, b, c⟩)) ∧ w.grownBy w' none := by
  have HO : ∀ ob, Ov (w.alloc ob) o l fn n := fun ob => hO.grown (gr1 _ _)
  have HH : Hid (∀ ob, Ov (w.alloc ob) o l fn n) := HO
  clear hO HO
  subst hd
  by_cases hc : callS l a = true
  · have hw : 0 ≤ a ∧ a ≤ (l.length : Int) - 1 := by simp [callS, isW] at hc; exact hc.1
    obtain ⟨k, rfl⟩ := Int.eq_ofNat_of_zero_le hw.1
    obtain ⟨av, a1, q, cap, rfl, a2⟩ := (HH.out (.cells #[.int .i64 17, .int .i64 k, .int .i64 b, .int .i64 c] 40)).ahead
    rcases a2 with h3 | ⟨b', off, rfl, hcc⟩
    · subst h3; simp at hw; omega
    obtain ⟨c1, fa, fc, c2⟩ := hcc k (by omega)
    have i1 : (0 : Int) ≤ (k : Int) := by omega
    have i2 : (k : Int) < (l.length : Int) := by omega
    have HV : Hid (fieldsS l fn n i ⟨17, k, b, c⟩ = hasW fn b (l.getD k (0, 0)).2) := (by simp [fieldsS, hc] : fieldsS l fn n i ⟨17, k, b, c⟩ = hasW fn b (l.getD k (0, 0)).2)
    rw [HV.out]
    generalize (l.getD k (0, 0)).2 = m at *
    clear hcc c1
    go_enter Tryz.func75, Tryz.ntmps75
    go_wp2
    go_quiet (first | (go_at_call 90; exact Calls.quiet_of_same ((mayCall_ov ((HH.out _).grown (gr_drewN (World.grownBy.refl _ _) _)) _ hl).mono fun _ _ h => ⟨h.1.trans (ret_bool hc), h.2.symm⟩)) | (go_at_call 88; exact Calls.quiet_of_same ((hasWords_ov ((HH.out _).grown (gr_drewN (World.grownBy.refl _ _) _)) _ _ (by omega) hf).mono fun _ _ h => ⟨h.1, h.2.symm⟩)))
    go_wp2
    go_ret
    refine ⟨?_, gr_drewN (gr1 _ _) _⟩
    simp
  · have hc' : callS l a = false := by simpa using hc
    have HV : Hid (fieldsS l fn n i ⟨17, a, b, c⟩ = false) := (by simp [fieldsS, hc'] : fieldsS l fn n i ⟨17, a, b, c⟩ = false)
    rw [HV.out]
    go_enter Tryz.func75, Tryz.ntmps75
    go_wp2
    go_quiet (first | (go_at_call 90; exact Calls.quiet_of_same ((mayCall_ov ((HH.out _).grown (gr_drewN (World.grownBy.refl _ _) _)) _ hl).mono fun _ _ h => ⟨h.1.trans (ret_bool hc'), h.2.symm⟩)))
    go_wp2
    go_ret
    refine ⟨?_, gr_drewN (gr1 _ _) _⟩
    simp

end Go.Proofs.YtcgbfhpmkpglkaaGreatDoor

/- mayFields, where the order of evaluation is drawn. -/
namespace Go.Proofs.YtcgbfhpmkpglkaaGreatDoor
open Go.RowKit
attribute [local go_sem ↓] Go.wp_at_zero Go.wp_at_succ
set_option linter.unusedVariables false
set_option linter.unusedSimpArgs false

set_option maxRecDepth 10000 in
set_option maxHeartbeats 4000000 in
theorem fields_std (d a b c : Int) (hd : d = 18) (l : List (Int × Nat)) (fn n i o : Nat) (w : World) (hO : Ov w o l fn n) (hf : fn ≤ 1000000000000) (hl : l.length ≤ 1000000000000) (hi : i ≤ 1000000000000) (hn : n ≤ 1000000000000) (hS : Stds w) :
    Calls Tryz.prog 75 #[.pointer (some ⟨o, 0, none⟩), .int .i64 i, .agg #[.int .i64 d, .int .i64 a, .int .i64 b, .int .i64 c]] w fun e w' => e = .returned (.bool (fieldsS l fn n i ⟨d, a, b, c⟩)) ∧ w.grownBy w' none := by
  have HO : ∀ ob, Ov (w.alloc ob) o l fn n := fun ob => hO.grown (gr1 _ _)
  have HH : Hid (∀ ob, Ov (w.alloc ob) o l fn n) := HO
  clear hO HO
  subst hd
  by_cases hc : isW a 1 12 = true
  · have hw : 1 ≤ a ∧ a ≤ 12 := by simpa [isW] using hc
    have HS : Hid (∀ ob, Stds (w.alloc ob)) := fun ob => hS.grown (gr1 _ _)
    have hfld : ∀ (nm : ByteArray) (ki ko m : Int) (w : World), Sem.run Tryz.prog (Instr.field 119 (.agg #[.string nm, .int .i64 ki, .int .i64 ko, .int .i64 m]) 3) w = .ok (.int .i64 m) w := fun _ _ _ _ _ => by kernel_rfl
    have HV : Hid (fieldsS l fn n i ⟨18, a, b, c⟩ = hasW fn b (stdW a)) := (by simp [fieldsS, hc] : fieldsS l fn n i ⟨18, a, b, c⟩ = hasW fn b (stdW a))
    have hp : 0 ≤ stdW a := by unfold stdW; repeat' split
                               all_goals omega
    rw [HV.out]
    clear hS
    generalize hm : stdW a = m at *
    go_enter Tryz.func75, Tryz.ntmps75
    go_wp2
    go_region_held3 (fun w' => w'.cell? ⟨w.heap.size, 1, none⟩ = some (.int .i64 a) ∧ w'.cell? ⟨w.heap.size, 2, none⟩ = some (.int .i64 b) ∧ w.grownBy w' none ∧ Ov w' o l fn n ∧ Stds w') (refine ⟨?_, ?_, ?_, ?_, ?_⟩ <;> first | assumption | (refine hg1.cell ?_ (by simp); go_keep; done) | exact ((HH.out _).grown (gr_drew (World.grownBy.refl _ _))).grown hg1 | exact ((HS.out _).grown (gr_drew (World.grownBy.refl _ _))).grown hg1 | exact (gr_drew (gr1 _ _)).trans hg1 | exact gr_drew (gr1 _ _) | exact (HH.out _).grown (gr_drew (World.grownBy.refl _ _)) | exact (HS.out _).grown (gr_drew (World.grownBy.refl _ _)) | (go_keep; done)) (first | (go_at_call 70; refine (within_any _ _ _ _).mono ?_; rintro e w' ⟨rfl, rfl⟩; rw [hc]) | (go_at_call 72; refine (kit_any _ _ ((HS.out _).grown (gr_drew (World.grownBy.refl _ _))) hw.1 hw.2).mono ?_; rintro e w1 ⟨⟨nm, ki, ko, rfl⟩, hg1⟩; rw [hm]) | (go_at_call 88; refine (hasWords_ov (((HH.out _).grown (gr_drew (World.grownBy.refl _ _))).grown hg1) _ _ (by omega) hf).mono ?_; rintro e w' ⟨rfl, rfl⟩))
    go_wp2
    go_ret
    refine ⟨?_, (gr_drew (gr1 _ _)).trans hg1⟩
    simp
  · have hc' : isW a 1 12 = false := by simpa using hc
    have HV : Hid (fieldsS l fn n i ⟨18, a, b, c⟩ = false) := (by simp [fieldsS, hc'] : fieldsS l fn n i ⟨18, a, b, c⟩ = false)
    rw [HV.out]
    go_enter Tryz.func75, Tryz.ntmps75
    go_wp2
    go_quiet (first | (go_at_call 70; exact Calls.quiet_of_same ((within_any _ _ _ _).mono fun _ _ h => ⟨h.1.trans (ret_bool hc'), h.2.symm⟩)))
    go_wp2
    go_ret
    refine ⟨?_, gr_drewN (gr1 _ _) _⟩
    simp

end Go.Proofs.YtcgbfhpmkpglkaaGreatDoor
