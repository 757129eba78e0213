/- Step at ctud. -/
import Derived.Test.YtphnadhkoigegaaI
import Derived.Test.YtphnadhkoigegaaE
import Derived.Test.YtphnadhkoigegaaH7
import Derived.Test.YtphnadhkoigegaaH8
namespace Go.Proofs.Ytphnadhkoigegaa
open Go.RowKit

set_option linter.unusedVariables false
set_option linter.unusedSimpArgs false
theorem load_u (p b T : Nat) (l : List Int) (w : World) (hp : w.heap[p]? = some (.cells #[.bool false, .bool false, .int .i64 0] T)) (hb : w.heap[b]? = some (.cells (intsA (wrapL [1, 1, 2] l)) 3)) (hne : p ≠ b) :
    Calls Try.prog 73 #[.pointer (some ⟨p, 0, none⟩), .slice (some ⟨b, 0, none⟩) 3 3] w fun e w' => e = .returned (.tuple #[]) ∧ w'.heap[p]? = some (.cells (A3 (wrapL [1, 1, 2] l)) T) ∧ w.grownBy w' (some p) := by
  obtain ⟨a0, a1, a2, e⟩ := form3 1 1 2 l
  rw [e] at hb ⊢
  exact load_ctud p b T 3 _ _ _ _ _ _ w hp hb hne
theorem save_u (p T : Nat) (n0 n1 n2 : Int) (h0 : n0 = 0 ∨ n0 = 1) (h1 : n1 = 0 ∨ n1 = 1) (w : World) (hp : w.heap[p]? = some (.cells (A3 [n0, n1, n2]) T)) :
    Calls Try.prog 74 #[.pointer (some ⟨p, 0, none⟩)] w fun e w' => e = .returned (.slice (some ⟨w.heap.size, 0, none⟩) 3 3) ∧ w'.heap[w.heap.size]? = some (.cells (intsA [n0, n1, n2]) 3) ∧ w.grownBy w' none := by
  have h := save_ctud p T n2 (n0 != 0) (n1 != 0) w hp
  rw [yes_bit h0, yes_bit h1] at h
  exact h

theorem ctud_step (p b T : Nat) (x0 x1 x2 i0 i1 i2 i3 i4 now : Int) (h_x0 : x0 = 0 ∨ x0 = 1) (h_x1 : x1 = 0 ∨ x1 = 1) (l_x2 : -32768 ≤ x2) (u_x2 : x2 ≤ 32767) (h_i0 : i0 = 0 ∨ i0 = 1) (h_i1 : i1 = 0 ∨ i1 = 1) (h_i2 : i2 = 0 ∨ i2 = 1) (h_i3 : i3 = 0 ∨ i3 = 1) (l_i4 : -32768 ≤ i4) (u_i4 : i4 ≤ 32767) (l_now : 0 ≤ now) (u_now : now ≤ 4294967295) (w : World)
    (hp : w.heap[p]? = some (.cells (A3 [x0, x1, x2]) T)) (hb : w.heap[b]? = some (.cells (intsA [i0, i1, i2, i3, i4]) 3)) (hne : p ≠ b) :
    Calls Try.prog 76 #[.pointer (some ⟨p, 0, none⟩), .slice (some ⟨b, 0, none⟩) 5 5, .int .i64 now] w fun e w' => e = .returned (.slice (some ⟨w.heap.size, 0, none⟩) 3 3) ∧ w'.heap[w.heap.size]? = some (.cells (intsA (ctudF [x0, x1, x2] [i0, i1, i2, i3, i4] now).2) 3) ∧ w'.heap[p]? = some (.cells (A3 (ctudF [x0, x1, x2] [i0, i1, i2, i3, i4] now).1) T) ∧ w.grownBy w' (some p) := by
  rcases h_i0 with rfl | rfl <;> rcases h_i1 with rfl | rfl
  · rcases h_i2 with rfl | rfl
    · rcases h_i3 with rfl | rfl
      · exact (ctud_c_ff_UD p b T (x0 != 0) (x1 != 0) x2 0 0 0 0 i4 now w hp hb hne rfl rfl rfl rfl l_x2 u_x2).mono fun e w' ⟨a1, a2, a3, a4⟩ => ⟨a1, a2.trans (by simp [ctudF, udN, intsA]), a3.trans (by simp [ctudF, udN, A3]), a4⟩
      · exact (ctud_l_ff p b T (x0 != 0) (x1 != 0) x2 0 0 0 1 i4 now w hp hb hne rfl rfl rfl rfl l_x2 u_x2).mono fun e w' ⟨a1, a2, a3, a4⟩ => ⟨a1, a2.trans (by simp [ctudF, udN, intsA, yesN]), a3.trans (by simp [ctudF, udN, A3]), a4⟩
    · exact (ctud_r_ff p b T (x0 != 0) (x1 != 0) x2 0 0 1 i3 i4 now w hp hb hne rfl rfl rfl l_x2 u_x2).mono fun e w' ⟨a1, a2, a3, a4⟩ => ⟨a1, a2.trans (by simp [ctudF, udN, intsA, yesN]), a3.trans (by simp [ctudF, udN, A3]), a4⟩
  · rcases h_i2 with rfl | rfl
    · rcases h_i3 with rfl | rfl
      · rcases h_x1 with rfl | rfl
        · exact (ctud_c_ft_Uf p b T (x0 != 0) x2 0 1 0 0 i4 now w hp hb hne rfl rfl rfl rfl l_x2 u_x2).mono fun e w' ⟨a1, a2, a3, a4⟩ => ⟨a1, a2.trans (by simp [ctudF, udN, intsA]), a3.trans (by simp [ctudF, udN, A3]), a4⟩
        · exact (ctud_c_ft_Ut p b T (x0 != 0) x2 0 1 0 0 i4 now w hp hb hne rfl rfl rfl rfl l_x2 u_x2).mono fun e w' ⟨a1, a2, a3, a4⟩ => ⟨a1, a2.trans (by simp [ctudF, udN, intsA]), a3.trans (by simp [ctudF, udN, A3]), a4⟩
      · exact (ctud_l_ft p b T (x0 != 0) (x1 != 0) x2 0 1 0 1 i4 now w hp hb hne rfl rfl rfl rfl l_x2 u_x2).mono fun e w' ⟨a1, a2, a3, a4⟩ => ⟨a1, a2.trans (by simp [ctudF, udN, intsA, yesN]), a3.trans (by simp [ctudF, udN, A3]), a4⟩
    · exact (ctud_r_ft p b T (x0 != 0) (x1 != 0) x2 0 1 1 i3 i4 now w hp hb hne rfl rfl rfl l_x2 u_x2).mono fun e w' ⟨a1, a2, a3, a4⟩ => ⟨a1, a2.trans (by simp [ctudF, udN, intsA, yesN]), a3.trans (by simp [ctudF, udN, A3]), a4⟩
  · rcases h_i2 with rfl | rfl
    · rcases h_i3 with rfl | rfl
      · rcases h_x0 with rfl | rfl
        · exact (ctud_c_tf_fD p b T (x1 != 0) x2 1 0 0 0 i4 now w hp hb hne rfl rfl rfl rfl l_x2 u_x2).mono fun e w' ⟨a1, a2, a3, a4⟩ => ⟨a1, a2.trans (by simp [ctudF, udN, intsA]), a3.trans (by simp [ctudF, udN, A3]), a4⟩
        · exact (ctud_c_tf_tD p b T (x1 != 0) x2 1 0 0 0 i4 now w hp hb hne rfl rfl rfl rfl l_x2 u_x2).mono fun e w' ⟨a1, a2, a3, a4⟩ => ⟨a1, a2.trans (by simp [ctudF, udN, intsA]), a3.trans (by simp [ctudF, udN, A3]), a4⟩
      · exact (ctud_l_tf p b T (x0 != 0) (x1 != 0) x2 1 0 0 1 i4 now w hp hb hne rfl rfl rfl rfl l_x2 u_x2).mono fun e w' ⟨a1, a2, a3, a4⟩ => ⟨a1, a2.trans (by simp [ctudF, udN, intsA, yesN]), a3.trans (by simp [ctudF, udN, A3]), a4⟩
    · exact (ctud_r_tf p b T (x0 != 0) (x1 != 0) x2 1 0 1 i3 i4 now w hp hb hne rfl rfl rfl l_x2 u_x2).mono fun e w' ⟨a1, a2, a3, a4⟩ => ⟨a1, a2.trans (by simp [ctudF, udN, intsA, yesN]), a3.trans (by simp [ctudF, udN, A3]), a4⟩
  · rcases h_i2 with rfl | rfl
    · rcases h_i3 with rfl | rfl
      · rcases h_x0 with rfl | rfl <;> rcases h_x1 with rfl | rfl
        · exact (ctud_c_tt_ff p b T x2 1 1 0 0 i4 now w hp hb hne rfl rfl rfl rfl l_x2 u_x2).mono fun e w' ⟨a1, a2, a3, a4⟩ => ⟨a1, a2.trans (by simp [ctudF, udN, intsA]), a3.trans (by simp [ctudF, udN, A3]), a4⟩
        · exact (ctud_c_tt_ft p b T x2 1 1 0 0 i4 now w hp hb hne rfl rfl rfl rfl l_x2 u_x2).mono fun e w' ⟨a1, a2, a3, a4⟩ => ⟨a1, a2.trans (by simp [ctudF, udN, intsA]), a3.trans (by simp [ctudF, udN, A3]), a4⟩
        · exact (ctud_c_tt_tf p b T x2 1 1 0 0 i4 now w hp hb hne rfl rfl rfl rfl l_x2 u_x2).mono fun e w' ⟨a1, a2, a3, a4⟩ => ⟨a1, a2.trans (by simp [ctudF, udN, intsA]), a3.trans (by simp [ctudF, udN, A3]), a4⟩
        · exact (ctud_c_tt_tt p b T x2 1 1 0 0 i4 now w hp hb hne rfl rfl rfl rfl l_x2 u_x2).mono fun e w' ⟨a1, a2, a3, a4⟩ => ⟨a1, a2.trans (by simp [ctudF, udN, intsA]), a3.trans (by simp [ctudF, udN, A3]), a4⟩
      · exact (ctud_l_tt p b T (x0 != 0) (x1 != 0) x2 1 1 0 1 i4 now w hp hb hne rfl rfl rfl rfl l_x2 u_x2).mono fun e w' ⟨a1, a2, a3, a4⟩ => ⟨a1, a2.trans (by simp [ctudF, udN, intsA, yesN]), a3.trans (by simp [ctudF, udN, A3]), a4⟩
    · exact (ctud_r_tt p b T (x0 != 0) (x1 != 0) x2 1 1 1 i3 i4 now w hp hb hne rfl rfl rfl l_x2 u_x2).mono fun e w' ⟨a1, a2, a3, a4⟩ => ⟨a1, a2.trans (by simp [ctudF, udN, intsA, yesN]), a3.trans (by simp [ctudF, udN, A3]), a4⟩

theorem ctud_form (x0 x1 x2 i0 i1 i2 i3 i4 now : Int) (h_x0 : x0 = 0 ∨ x0 = 1) (h_x1 : x1 = 0 ∨ x1 = 1) (h_i0 : i0 = 0 ∨ i0 = 1) (h_i1 : i1 = 0 ∨ i1 = 1) (h_i2 : i2 = 0 ∨ i2 = 1) (h_i3 : i3 = 0 ∨ i3 = 1) :
    ∃ n0 n1 n2, (ctudF [x0, x1, x2] [i0, i1, i2, i3, i4] now).1 = [n0, n1, n2] ∧ (n0 = 0 ∨ n0 = 1) ∧ (n1 = 0 ∨ n1 = 1) := by
  unfold ctudF
  simp only []
  repeat' split
  all_goals exact ⟨_, _, _, rfl, h_i0, h_i1⟩
theorem stepC_ctud : StepC ctudName 3 3 [1, 1, 2] [1, 1, 1, 1, 2] ctudF := by
  intro vs vi l li now w hr hri
  obtain ⟨a0, a1, a2, e⟩ := form3 1 1 2 l
  obtain ⟨c0, c1, c2, c3, c4, e'⟩ := form5 1 1 1 1 2 li
  have hst : ∀ (p b : Nat) (w : World), w.heap[p]? = some (.cells (A3 (wrapL [1, 1, 2] l)) 83) → w.heap[b]? = some (.cells (intsA (wrapL [1, 1, 1, 1, 2] li)) 3) → p ≠ b → Calls Try.prog 76 #[.pointer (some ⟨p, 0, none⟩), .slice (some ⟨b, 0, none⟩) 5 5, .int .i64 (wrapK 5 now)] w fun e w' => e = .returned (.slice (some ⟨w.heap.size, 0, none⟩) 3 3) ∧ w'.heap[w.heap.size]? = some (.cells (intsA (ctudF (wrapL [1, 1, 2] l) (wrapL [1, 1, 1, 1, 2] li) (wrapK 5 now)).2) 3) ∧ w'.heap[p]? = some (.cells (A3 (ctudF (wrapL [1, 1, 2] l) (wrapL [1, 1, 1, 1, 2] li) (wrapK 5 now)).1) 83) ∧ w.grownBy w' (some p) := by
    intro p b w hp hb hne
    rw [e] at hp ⊢
    rw [e'] at hb ⊢
    exact ctud_step p b 83 _ _ _ _ _ _ _ _ _ (bitK a0) (bitK a1) (intK a2).1 (intK a2).2 (bitK c0) (bitK c1) (bitK c2) (bitK c3) (intK c4).1 (intK c4).2 (timK now).1 (timK now).2 w hp hb hne
  have hsv : ∀ (p : Nat) (w : World), w.heap[p]? = some (.cells (A3 (ctudF (wrapL [1, 1, 2] l) (wrapL [1, 1, 1, 1, 2] li) (wrapK 5 now)).1) 83) → Calls Try.prog 74 #[.pointer (some ⟨p, 0, none⟩)] w fun e w' => e = .returned (.slice (some ⟨w.heap.size, 0, none⟩) 3 3) ∧ w'.heap[w.heap.size]? = some (.cells (intsA (ctudF (wrapL [1, 1, 2] l) (wrapL [1, 1, 1, 1, 2] li) (wrapK 5 now)).1) 3) ∧ w.grownBy w' none := by
    intro p w hp
    rw [e, e'] at hp ⊢
    obtain ⟨n0, n1, n2, hf, h0, h1⟩ := ctud_form (wrapK 1 a0) (wrapK 1 a1) (wrapK 2 a2) (wrapK 1 c0) (wrapK 1 c1) (wrapK 1 c2) (wrapK 1 c3) (wrapK 2 c4) (wrapK 5 now) (bitK a0) (bitK a1) (bitK c0) (bitK c1) (bitK c2) (bitK c3)
    rw [hf] at hp ⊢
    exact save_u p 83 n0 n1 n2 h0 h1 w hp
  exact step_gen ctudName 81 83 75 73 76 74 #[.bool false, .bool false, .int .i64 0] ctudI ctudO ctudS A3 ctudF vs vi l li now w (by decide) (by decide) named_ctud
    (fun _ _ => by kernel_rfl) (fun _ _ => by kernel_rfl) (fun _ _ => by kernel_rfl) (fun _ _ => by kernel_rfl) (fun _ _ => by kernel_rfl) (fun _ _ => by kernel_rfl)
    (fun _ _ => by kernel_rfl) (fun _ _ => by kernel_rfl) (fun _ _ => by kernel_rfl) (fun _ _ => by kernel_rfl)
    shape_ctud (fun p b w hp hb hne => load_u p b 83 l w hp hb hne) hst hsv hr hri

end Go.Proofs.Ytphnadhkoigegaa
