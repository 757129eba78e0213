/- Step at ctu, ctd. -/
import Derived.Test.YtphnadhkoigegaaI
import Derived.Test.YtphnadhkoigegaaE
import Derived.Test.YtphnadhkoigegaaH4
namespace Go.Proofs.Ytphnadhkoigegaa
open Go.RowKit

set_option linter.unusedVariables false
set_option linter.unusedSimpArgs false
theorem load_c (p b T : Nat) (l : List Int) (w : World) (hp : w.heap[p]? = some (.cells #[.bool false, .int .i64 0] T)) (hb : w.heap[b]? = some (.cells (intsA (wrapL [1, 2] l)) 3)) (hne : p ≠ b) :
    Calls Try.prog 62 #[.pointer (some ⟨p, 0, none⟩), .slice (some ⟨b, 0, none⟩) 2 2] w fun e w' => e = .returned (.tuple #[]) ∧ w'.heap[p]? = some (.cells (A2 (wrapL [1, 2] l)) T) ∧ w.grownBy w' (some p) := by
  obtain ⟨a0, a1, e⟩ := form2 1 2 l
  rw [e] at hb ⊢
  exact load_counter p b T 3 _ _ _ _ w hp hb hne
theorem save_c (p T : Nat) (n0 n1 : Int) (h0 : n0 = 0 ∨ n0 = 1) (w : World) (hp : w.heap[p]? = some (.cells (A2 [n0, n1]) T)) :
    Calls Try.prog 64 #[.pointer (some ⟨p, 0, none⟩)] w fun e w' => e = .returned (.slice (some ⟨w.heap.size, 0, none⟩) 2 2) ∧ w'.heap[w.heap.size]? = some (.cells (intsA [n0, n1]) 3) ∧ w.grownBy w' none := by
  have h := save_counter p T n1 (n0 != 0) w hp
  rw [yes_bit h0] at h
  exact h

theorem ctu_step (p b T : Nat) (x0 x1 i0 i1 i2 now : Int) (h_x0 : x0 = 0 ∨ x0 = 1) (l_x1 : -32768 ≤ x1) (u_x1 : x1 ≤ 32767) (h_i0 : i0 = 0 ∨ i0 = 1) (h_i1 : i1 = 0 ∨ i1 = 1) (l_i2 : -32768 ≤ i2) (u_i2 : i2 ≤ 32767) (l_now : 0 ≤ now) (u_now : now ≤ 4294967295) (w : World)
    (hp : w.heap[p]? = some (.cells (A2 [x0, x1]) T)) (hb : w.heap[b]? = some (.cells (intsA [i0, i1, i2]) 3)) (hne : p ≠ b) :
    Calls Try.prog 66 #[.pointer (some ⟨p, 0, none⟩), .slice (some ⟨b, 0, none⟩) 3 3, .int .i64 now] w fun e w' => e = .returned (.slice (some ⟨w.heap.size, 0, none⟩) 2 2) ∧ w'.heap[w.heap.size]? = some (.cells (intsA (ctuF [x0, x1] [i0, i1, i2] now).2) 3) ∧ w'.heap[p]? = some (.cells (A2 (ctuF [x0, x1] [i0, i1, i2] now).1) T) ∧ w.grownBy w' (some p) := by
  rcases h_i1 with rfl | rfl
  · rcases h_i0 with rfl | rfl
    · exact (ctu_no p b T (x0 != 0) x1 0 0 i2 now w hp hb hne rfl rfl l_x1 u_x1).mono fun e w' ⟨a1, a2, a3, a4⟩ => ⟨a1, a2.trans (by simp [ctuF, intsA]), a3.trans (by simp [ctuF, A2]), a4⟩
    · rcases h_x0 with rfl | rfl
      · exact (ctu_up p b T false x1 1 0 i2 now w hp hb hne rfl rfl l_x1 u_x1).mono fun e w' ⟨a1, a2, a3, a4⟩ => ⟨a1, a2.trans (by simp [ctuF, intsA]), a3.trans (by simp [ctuF, A2]), a4⟩
      · exact (ctu_no p b T true x1 1 0 i2 now w hp hb hne rfl rfl l_x1 u_x1).mono fun e w' ⟨a1, a2, a3, a4⟩ => ⟨a1, a2.trans (by simp [ctuF, intsA]), a3.trans (by simp [ctuF, A2]), a4⟩
  · exact (ctu_set p b T (x0 != 0) _ x1 i0 1 i2 now w hp hb hne rfl rfl l_x1 u_x1).mono fun e w' ⟨a1, a2, a3, a4⟩ => ⟨a1, a2.trans (by simp [ctuF, intsA]), a3.trans (by simp [ctuF, A2]), a4⟩

theorem ctu_form (x0 x1 i0 i1 i2 now : Int) (h_x0 : x0 = 0 ∨ x0 = 1) (h_i0 : i0 = 0 ∨ i0 = 1) (h_i1 : i1 = 0 ∨ i1 = 1) :
    ∃ n0 n1, (ctuF [x0, x1] [i0, i1, i2] now).1 = [n0, n1] ∧ (n0 = 0 ∨ n0 = 1) := by
  unfold ctuF
  simp only []
  repeat' split
  all_goals exact ⟨_, _, rfl, h_i0⟩
theorem stepC_ctu : StepC ctuName 2 2 [1, 2] [1, 1, 2] ctuF := by
  intro vs vi l li now w hr hri
  obtain ⟨a0, a1, e⟩ := form2 1 2 l
  obtain ⟨c0, c1, c2, e'⟩ := form3 1 1 2 li
  have hst : ∀ (p b : Nat) (w : World), w.heap[p]? = some (.cells (A2 (wrapL [1, 2] l)) 78) → w.heap[b]? = some (.cells (intsA (wrapL [1, 1, 2] li)) 3) → p ≠ b → Calls Try.prog 66 #[.pointer (some ⟨p, 0, none⟩), .slice (some ⟨b, 0, none⟩) 3 3, .int .i64 (wrapK 5 now)] w fun e w' => e = .returned (.slice (some ⟨w.heap.size, 0, none⟩) 2 2) ∧ w'.heap[w.heap.size]? = some (.cells (intsA (ctuF (wrapL [1, 2] l) (wrapL [1, 1, 2] li) (wrapK 5 now)).2) 3) ∧ w'.heap[p]? = some (.cells (A2 (ctuF (wrapL [1, 2] l) (wrapL [1, 1, 2] li) (wrapK 5 now)).1) 78) ∧ w.grownBy w' (some p) := by
    intro p b w hp hb hne
    rw [e] at hp ⊢
    rw [e'] at hb ⊢
    exact ctu_step p b 78 _ _ _ _ _ _ (bitK a0) (intK a1).1 (intK a1).2 (bitK c0) (bitK c1) (intK c2).1 (intK c2).2 (timK now).1 (timK now).2 w hp hb hne
  have hsv : ∀ (p : Nat) (w : World), w.heap[p]? = some (.cells (A2 (ctuF (wrapL [1, 2] l) (wrapL [1, 1, 2] li) (wrapK 5 now)).1) 78) → Calls Try.prog 64 #[.pointer (some ⟨p, 0, none⟩)] w fun e w' => e = .returned (.slice (some ⟨w.heap.size, 0, none⟩) 2 2) ∧ w'.heap[w.heap.size]? = some (.cells (intsA (ctuF (wrapL [1, 2] l) (wrapL [1, 1, 2] li) (wrapK 5 now)).1) 3) ∧ w.grownBy w' none := by
    intro p w hp
    rw [e, e'] at hp ⊢
    obtain ⟨n0, n1, hf, h0⟩ := ctu_form (wrapK 1 a0) (wrapK 2 a1) (wrapK 1 c0) (wrapK 1 c1) (wrapK 2 c2) (wrapK 5 now) (bitK a0) (bitK c0) (bitK c1)
    rw [hf] at hp ⊢
    exact save_c p 78 n0 n1 h0 w hp
  exact step_gen ctuName 74 78 65 62 66 64 #[.bool false, .int .i64 0] ctuI ctuO ctuS A2 ctuF vs vi l li now w (by decide) (by decide) named_ctu
    (fun _ _ => by kernel_rfl) (fun _ _ => by kernel_rfl) (fun _ _ => by kernel_rfl) (fun _ _ => by kernel_rfl) (fun _ _ => by kernel_rfl) (fun _ _ => by kernel_rfl)
    (fun _ _ => by kernel_rfl) (fun _ _ => by kernel_rfl) (fun _ _ => by kernel_rfl) (fun _ _ => by kernel_rfl)
    shape_ctu (fun p b w hp hb hne => load_c p b 78 l w hp hb hne) hst hsv hr hri

theorem ctd_step (p b T : Nat) (x0 x1 i0 i1 i2 now : Int) (h_x0 : x0 = 0 ∨ x0 = 1) (l_x1 : -32768 ≤ x1) (u_x1 : x1 ≤ 32767) (h_i0 : i0 = 0 ∨ i0 = 1) (h_i1 : i1 = 0 ∨ i1 = 1) (l_i2 : -32768 ≤ i2) (u_i2 : i2 ≤ 32767) (l_now : 0 ≤ now) (u_now : now ≤ 4294967295) (w : World)
    (hp : w.heap[p]? = some (.cells (A2 [x0, x1]) T)) (hb : w.heap[b]? = some (.cells (intsA [i0, i1, i2]) 3)) (hne : p ≠ b) :
    Calls Try.prog 71 #[.pointer (some ⟨p, 0, none⟩), .slice (some ⟨b, 0, none⟩) 3 3, .int .i64 now] w fun e w' => e = .returned (.slice (some ⟨w.heap.size, 0, none⟩) 2 2) ∧ w'.heap[w.heap.size]? = some (.cells (intsA (ctdF [x0, x1] [i0, i1, i2] now).2) 3) ∧ w'.heap[p]? = some (.cells (A2 (ctdF [x0, x1] [i0, i1, i2] now).1) T) ∧ w.grownBy w' (some p) := by
  rcases h_i1 with rfl | rfl
  · rcases h_i0 with rfl | rfl
    · exact (ctd_no p b T (x0 != 0) x1 0 0 i2 now w hp hb hne rfl rfl l_x1 u_x1).mono fun e w' ⟨a1, a2, a3, a4⟩ => ⟨a1, a2.trans (by simp [ctdF, intsA]), a3.trans (by simp [ctdF, A2]), a4⟩
    · rcases h_x0 with rfl | rfl
      · exact (ctd_up p b T false x1 1 0 i2 now w hp hb hne rfl rfl l_x1 u_x1).mono fun e w' ⟨a1, a2, a3, a4⟩ => ⟨a1, a2.trans (by simp [ctdF, intsA]), a3.trans (by simp [ctdF, A2]), a4⟩
      · exact (ctd_no p b T true x1 1 0 i2 now w hp hb hne rfl rfl l_x1 u_x1).mono fun e w' ⟨a1, a2, a3, a4⟩ => ⟨a1, a2.trans (by simp [ctdF, intsA]), a3.trans (by simp [ctdF, A2]), a4⟩
  · exact (ctd_set p b T (x0 != 0) _ x1 i0 1 i2 now w hp hb hne rfl rfl l_x1 u_x1).mono fun e w' ⟨a1, a2, a3, a4⟩ => ⟨a1, a2.trans (by simp [ctdF, intsA]), a3.trans (by simp [ctdF, A2]), a4⟩

theorem ctd_form (x0 x1 i0 i1 i2 now : Int) (h_x0 : x0 = 0 ∨ x0 = 1) (h_i0 : i0 = 0 ∨ i0 = 1) (h_i1 : i1 = 0 ∨ i1 = 1) :
    ∃ n0 n1, (ctdF [x0, x1] [i0, i1, i2] now).1 = [n0, n1] ∧ (n0 = 0 ∨ n0 = 1) := by
  unfold ctdF
  simp only []
  repeat' split
  all_goals exact ⟨_, _, rfl, h_i0⟩
theorem stepC_ctd : StepC ctdName 2 2 [1, 2] [1, 1, 2] ctdF := by
  intro vs vi l li now w hr hri
  obtain ⟨a0, a1, e⟩ := form2 1 2 l
  obtain ⟨c0, c1, c2, e'⟩ := form3 1 1 2 li
  have hst : ∀ (p b : Nat) (w : World), w.heap[p]? = some (.cells (A2 (wrapL [1, 2] l)) 80) → w.heap[b]? = some (.cells (intsA (wrapL [1, 1, 2] li)) 3) → p ≠ b → Calls Try.prog 71 #[.pointer (some ⟨p, 0, none⟩), .slice (some ⟨b, 0, none⟩) 3 3, .int .i64 (wrapK 5 now)] w fun e w' => e = .returned (.slice (some ⟨w.heap.size, 0, none⟩) 2 2) ∧ w'.heap[w.heap.size]? = some (.cells (intsA (ctdF (wrapL [1, 2] l) (wrapL [1, 1, 2] li) (wrapK 5 now)).2) 3) ∧ w'.heap[p]? = some (.cells (A2 (ctdF (wrapL [1, 2] l) (wrapL [1, 1, 2] li) (wrapK 5 now)).1) 80) ∧ w.grownBy w' (some p) := by
    intro p b w hp hb hne
    rw [e] at hp ⊢
    rw [e'] at hb ⊢
    exact ctd_step p b 80 _ _ _ _ _ _ (bitK a0) (intK a1).1 (intK a1).2 (bitK c0) (bitK c1) (intK c2).1 (intK c2).2 (timK now).1 (timK now).2 w hp hb hne
  have hsv : ∀ (p : Nat) (w : World), w.heap[p]? = some (.cells (A2 (ctdF (wrapL [1, 2] l) (wrapL [1, 1, 2] li) (wrapK 5 now)).1) 80) → Calls Try.prog 64 #[.pointer (some ⟨p, 0, none⟩)] w fun e w' => e = .returned (.slice (some ⟨w.heap.size, 0, none⟩) 2 2) ∧ w'.heap[w.heap.size]? = some (.cells (intsA (ctdF (wrapL [1, 2] l) (wrapL [1, 1, 2] li) (wrapK 5 now)).1) 3) ∧ w.grownBy w' none := by
    intro p w hp
    rw [e, e'] at hp ⊢
    obtain ⟨n0, n1, hf, h0⟩ := ctd_form (wrapK 1 a0) (wrapK 2 a1) (wrapK 1 c0) (wrapK 1 c1) (wrapK 2 c2) (wrapK 5 now) (bitK a0) (bitK c0) (bitK c1)
    rw [hf] at hp ⊢
    exact save_c p 80 n0 n1 h0 w hp
  exact step_gen ctdName 79 80 70 62 71 64 #[.bool false, .int .i64 0] ctdI ctdO ctdS A2 ctdF vs vi l li now w (by decide) (by decide) named_ctd
    (fun _ _ => by kernel_rfl) (fun _ _ => by kernel_rfl) (fun _ _ => by kernel_rfl) (fun _ _ => by kernel_rfl) (fun _ _ => by kernel_rfl) (fun _ _ => by kernel_rfl)
    (fun _ _ => by kernel_rfl) (fun _ _ => by kernel_rfl) (fun _ _ => by kernel_rfl) (fun _ _ => by kernel_rfl)
    shape_ctd (fun p b w hp hb hne => load_c p b 80 l w hp hb hne) hst hsv hr hri

end Go.Proofs.Ytphnadhkoigegaa
