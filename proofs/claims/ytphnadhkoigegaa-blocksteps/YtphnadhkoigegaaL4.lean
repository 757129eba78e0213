/- Step at rtrig, ftrig, sr, rs, ramp, hyst. -/
import Derived.Test.YtphnadhkoigegaaI
import Derived.Test.YtphnadhkoigegaaE
import Derived.Test.YtphnadhkoigegaaH5
import Derived.Test.YtphnadhkoigegaaH6
namespace Go.Proofs.Ytphnadhkoigegaa
open Go.RowKit

set_option linter.unusedVariables false
set_option linter.unusedSimpArgs false
theorem load_e (p b T : Nat) (l : List Int) (w : World) (hp : w.heap[p]? = some (.cells #[.bool false] T)) (hb : w.heap[b]? = some (.cells (intsA (wrapL [1] l)) 3)) (hne : p ≠ b) :
    Calls Try.prog 77 #[.pointer (some ⟨p, 0, none⟩), .slice (some ⟨b, 0, none⟩) 1 1] w fun e w' => e = .returned (.tuple #[]) ∧ w'.heap[p]? = some (.cells (A1 (wrapL [1] l)) T) ∧ w.grownBy w' (some p) := by
  obtain ⟨a0, e⟩ := form1 1 l
  rw [e] at hb ⊢
  exact load_edge p b T 3 _ _ w hp hb hne
theorem save_e (p T : Nat) (n0 : Int) (h0 : n0 = 0 ∨ n0 = 1) (w : World) (hp : w.heap[p]? = some (.cells (A1 [n0]) T)) :
    Calls Try.prog 78 #[.pointer (some ⟨p, 0, none⟩)] w fun e w' => e = .returned (.slice (some ⟨w.heap.size, 0, none⟩) 1 1) ∧ w'.heap[w.heap.size]? = some (.cells (intsA [n0]) 3) ∧ w.grownBy w' none := by
  have h := save_edge p T  (n0 != 0) w hp
  rw [yes_bit h0] at h
  exact h

theorem load_l (p b T : Nat) (l : List Int) (w : World) (hp : w.heap[p]? = some (.cells #[.bool false] T)) (hb : w.heap[b]? = some (.cells (intsA (wrapL [1] l)) 3)) (hne : p ≠ b) :
    Calls Try.prog 82 #[.pointer (some ⟨p, 0, none⟩), .slice (some ⟨b, 0, none⟩) 1 1] w fun e w' => e = .returned (.tuple #[]) ∧ w'.heap[p]? = some (.cells (A1 (wrapL [1] l)) T) ∧ w.grownBy w' (some p) := by
  obtain ⟨a0, e⟩ := form1 1 l
  rw [e] at hb ⊢
  exact load_latch p b T 3 _ _ w hp hb hne
theorem save_l (p T : Nat) (n0 : Int) (h0 : n0 = 0 ∨ n0 = 1) (w : World) (hp : w.heap[p]? = some (.cells (A1 [n0]) T)) :
    Calls Try.prog 83 #[.pointer (some ⟨p, 0, none⟩)] w fun e w' => e = .returned (.slice (some ⟨w.heap.size, 0, none⟩) 1 1) ∧ w'.heap[w.heap.size]? = some (.cells (intsA [n0]) 3) ∧ w.grownBy w' none := by
  have h := save_latch p T  (n0 != 0) w hp
  rw [yes_bit h0] at h
  exact h

theorem load_r (p b T : Nat) (l : List Int) (w : World) (hp : w.heap[p]? = some (.cells #[.int .i64 0] T)) (hb : w.heap[b]? = some (.cells (intsA (wrapL [2] l)) 3)) (hne : p ≠ b) :
    Calls Try.prog 89 #[.pointer (some ⟨p, 0, none⟩), .slice (some ⟨b, 0, none⟩) 1 1] w fun e w' => e = .returned (.tuple #[]) ∧ w'.heap[p]? = some (.cells (A1i (wrapL [2] l)) T) ∧ w.grownBy w' (some p) := by
  obtain ⟨a0, e⟩ := form1 2 l
  rw [e] at hb ⊢
  exact load_ramp p b T 3 _ _ w hp hb hne
theorem save_r (p T : Nat) (n0 : Int)  (w : World) (hp : w.heap[p]? = some (.cells (A1i [n0]) T)) :
    Calls Try.prog 90 #[.pointer (some ⟨p, 0, none⟩)] w fun e w' => e = .returned (.slice (some ⟨w.heap.size, 0, none⟩) 1 1) ∧ w'.heap[w.heap.size]? = some (.cells (intsA [n0]) 3) ∧ w.grownBy w' none := by
  have h := save_ramp p T n0  w hp
  skip
  exact h

theorem rtrig_step (p b T : Nat) (x0 i0 now : Int) (h_x0 : x0 = 0 ∨ x0 = 1) (h_i0 : i0 = 0 ∨ i0 = 1) (l_now : 0 ≤ now) (u_now : now ≤ 4294967295) (w : World)
    (hp : w.heap[p]? = some (.cells (A1 [x0]) T)) (hb : w.heap[b]? = some (.cells (intsA [i0]) 3)) (hne : p ≠ b) :
    Calls Try.prog 80 #[.pointer (some ⟨p, 0, none⟩), .slice (some ⟨b, 0, none⟩) 1 1, .int .i64 now] w fun e w' => e = .returned (.slice (some ⟨w.heap.size, 0, none⟩) 1 1) ∧ w'.heap[w.heap.size]? = some (.cells (intsA (rtrigF [x0] [i0] now).2) 3) ∧ w'.heap[p]? = some (.cells (A1 (rtrigF [x0] [i0] now).1) T) ∧ w.grownBy w' (some p) := by
  rcases h_i0 with rfl | rfl <;> rcases h_x0 with rfl | rfl
  · exact (rtrig_ff p b T 0 now w hp hb hne rfl).mono fun e w' ⟨a1, a2, a3, a4⟩ => ⟨a1, a2, a3, a4⟩
  · exact (rtrig_ft p b T 0 now w hp hb hne rfl).mono fun e w' ⟨a1, a2, a3, a4⟩ => ⟨a1, a2, a3, a4⟩
  · exact (rtrig_tf p b T 1 now w hp hb hne rfl).mono fun e w' ⟨a1, a2, a3, a4⟩ => ⟨a1, a2, a3, a4⟩
  · exact (rtrig_tt p b T 1 now w hp hb hne rfl).mono fun e w' ⟨a1, a2, a3, a4⟩ => ⟨a1, a2, a3, a4⟩

theorem rtrig_form (x0 i0 now : Int) (h_x0 : x0 = 0 ∨ x0 = 1) (h_i0 : i0 = 0 ∨ i0 = 1) :
    ∃ n0, (rtrigF [x0] [i0] now).1 = [n0] ∧ (n0 = 0 ∨ n0 = 1) := by
  exact ⟨_, rfl, h_i0⟩
theorem stepC_rtrig : StepC rtrigName 1 1 [1] [1] rtrigF := by
  intro vs vi l li now w hr hri
  obtain ⟨a0, e⟩ := form1 1 l
  obtain ⟨c0, e'⟩ := form1 1 li
  have hst : ∀ (p b : Nat) (w : World), w.heap[p]? = some (.cells (A1 (wrapL [1] l)) 88) → w.heap[b]? = some (.cells (intsA (wrapL [1] li)) 3) → p ≠ b → Calls Try.prog 80 #[.pointer (some ⟨p, 0, none⟩), .slice (some ⟨b, 0, none⟩) 1 1, .int .i64 (wrapK 5 now)] w fun e w' => e = .returned (.slice (some ⟨w.heap.size, 0, none⟩) 1 1) ∧ w'.heap[w.heap.size]? = some (.cells (intsA (rtrigF (wrapL [1] l) (wrapL [1] li) (wrapK 5 now)).2) 3) ∧ w'.heap[p]? = some (.cells (A1 (rtrigF (wrapL [1] l) (wrapL [1] li) (wrapK 5 now)).1) 88) ∧ w.grownBy w' (some p) := by
    intro p b w hp hb hne
    rw [e] at hp ⊢
    rw [e'] at hb ⊢
    exact rtrig_step p b 88 _ _ _ (bitK a0) (bitK c0) (timK now).1 (timK now).2 w hp hb hne
  have hsv : ∀ (p : Nat) (w : World), w.heap[p]? = some (.cells (A1 (rtrigF (wrapL [1] l) (wrapL [1] li) (wrapK 5 now)).1) 88) → Calls Try.prog 78 #[.pointer (some ⟨p, 0, none⟩)] w fun e w' => e = .returned (.slice (some ⟨w.heap.size, 0, none⟩) 1 1) ∧ w'.heap[w.heap.size]? = some (.cells (intsA (rtrigF (wrapL [1] l) (wrapL [1] li) (wrapK 5 now)).1) 3) ∧ w.grownBy w' none := by
    intro p w hp
    rw [e, e'] at hp ⊢
    obtain ⟨n0, hf, h0⟩ := rtrig_form (wrapK 1 a0) (wrapK 1 c0) (wrapK 5 now) (bitK a0) (bitK c0)
    rw [hf] at hp ⊢
    exact save_e p 88 n0 h0 w hp
  exact step_gen rtrigName 84 88 79 77 80 78 #[.bool false] edgeI edgeO edgeS A1 rtrigF vs vi l li now w (by decide) (by decide) named_rtrig
    (fun _ _ => by kernel_rfl) (fun _ _ => by kernel_rfl) (fun _ _ => by kernel_rfl) (fun _ _ => by kernel_rfl) (fun _ _ => by kernel_rfl) (fun _ _ => by kernel_rfl)
    (fun _ _ => by kernel_rfl) (fun _ _ => by kernel_rfl) (fun _ _ => by kernel_rfl) (fun _ _ => by kernel_rfl)
    shape_edge (fun p b w hp hb hne => load_e p b 88 l w hp hb hne) hst hsv hr hri

theorem ftrig_step (p b T : Nat) (x0 i0 now : Int) (h_x0 : x0 = 0 ∨ x0 = 1) (h_i0 : i0 = 0 ∨ i0 = 1) (l_now : 0 ≤ now) (u_now : now ≤ 4294967295) (w : World)
    (hp : w.heap[p]? = some (.cells (A1 [x0]) T)) (hb : w.heap[b]? = some (.cells (intsA [i0]) 3)) (hne : p ≠ b) :
    Calls Try.prog 81 #[.pointer (some ⟨p, 0, none⟩), .slice (some ⟨b, 0, none⟩) 1 1, .int .i64 now] w fun e w' => e = .returned (.slice (some ⟨w.heap.size, 0, none⟩) 1 1) ∧ w'.heap[w.heap.size]? = some (.cells (intsA (ftrigF [x0] [i0] now).2) 3) ∧ w'.heap[p]? = some (.cells (A1 (ftrigF [x0] [i0] now).1) T) ∧ w.grownBy w' (some p) := by
  rcases h_i0 with rfl | rfl <;> rcases h_x0 with rfl | rfl
  · exact (ftrig_ff p b T 0 now w hp hb hne rfl).mono fun e w' ⟨a1, a2, a3, a4⟩ => ⟨a1, a2, a3, a4⟩
  · exact (ftrig_ft p b T 0 now w hp hb hne rfl).mono fun e w' ⟨a1, a2, a3, a4⟩ => ⟨a1, a2, a3, a4⟩
  · exact (ftrig_tf p b T 1 now w hp hb hne rfl).mono fun e w' ⟨a1, a2, a3, a4⟩ => ⟨a1, a2, a3, a4⟩
  · exact (ftrig_tt p b T 1 now w hp hb hne rfl).mono fun e w' ⟨a1, a2, a3, a4⟩ => ⟨a1, a2, a3, a4⟩

theorem ftrig_form (x0 i0 now : Int) (h_x0 : x0 = 0 ∨ x0 = 1) (h_i0 : i0 = 0 ∨ i0 = 1) :
    ∃ n0, (ftrigF [x0] [i0] now).1 = [n0] ∧ (n0 = 0 ∨ n0 = 1) := by
  exact ⟨_, rfl, h_i0⟩
theorem stepC_ftrig : StepC ftrigName 1 1 [1] [1] ftrigF := by
  intro vs vi l li now w hr hri
  obtain ⟨a0, e⟩ := form1 1 l
  obtain ⟨c0, e'⟩ := form1 1 li
  have hst : ∀ (p b : Nat) (w : World), w.heap[p]? = some (.cells (A1 (wrapL [1] l)) 90) → w.heap[b]? = some (.cells (intsA (wrapL [1] li)) 3) → p ≠ b → Calls Try.prog 81 #[.pointer (some ⟨p, 0, none⟩), .slice (some ⟨b, 0, none⟩) 1 1, .int .i64 (wrapK 5 now)] w fun e w' => e = .returned (.slice (some ⟨w.heap.size, 0, none⟩) 1 1) ∧ w'.heap[w.heap.size]? = some (.cells (intsA (ftrigF (wrapL [1] l) (wrapL [1] li) (wrapK 5 now)).2) 3) ∧ w'.heap[p]? = some (.cells (A1 (ftrigF (wrapL [1] l) (wrapL [1] li) (wrapK 5 now)).1) 90) ∧ w.grownBy w' (some p) := by
    intro p b w hp hb hne
    rw [e] at hp ⊢
    rw [e'] at hb ⊢
    exact ftrig_step p b 90 _ _ _ (bitK a0) (bitK c0) (timK now).1 (timK now).2 w hp hb hne
  have hsv : ∀ (p : Nat) (w : World), w.heap[p]? = some (.cells (A1 (ftrigF (wrapL [1] l) (wrapL [1] li) (wrapK 5 now)).1) 90) → Calls Try.prog 78 #[.pointer (some ⟨p, 0, none⟩)] w fun e w' => e = .returned (.slice (some ⟨w.heap.size, 0, none⟩) 1 1) ∧ w'.heap[w.heap.size]? = some (.cells (intsA (ftrigF (wrapL [1] l) (wrapL [1] li) (wrapK 5 now)).1) 3) ∧ w.grownBy w' none := by
    intro p w hp
    rw [e, e'] at hp ⊢
    obtain ⟨n0, hf, h0⟩ := ftrig_form (wrapK 1 a0) (wrapK 1 c0) (wrapK 5 now) (bitK a0) (bitK c0)
    rw [hf] at hp ⊢
    exact save_e p 90 n0 h0 w hp
  exact step_gen ftrigName 89 90 79 77 81 78 #[.bool false] edgeI edgeO edgeS A1 ftrigF vs vi l li now w (by decide) (by decide) named_ftrig
    (fun _ _ => by kernel_rfl) (fun _ _ => by kernel_rfl) (fun _ _ => by kernel_rfl) (fun _ _ => by kernel_rfl) (fun _ _ => by kernel_rfl) (fun _ _ => by kernel_rfl)
    (fun _ _ => by kernel_rfl) (fun _ _ => by kernel_rfl) (fun _ _ => by kernel_rfl) (fun _ _ => by kernel_rfl)
    shape_edge (fun p b w hp hb hne => load_e p b 90 l w hp hb hne) hst hsv hr hri

theorem sr_step (p b T : Nat) (x0 i0 i1 now : Int) (h_x0 : x0 = 0 ∨ x0 = 1) (h_i0 : i0 = 0 ∨ i0 = 1) (h_i1 : i1 = 0 ∨ i1 = 1) (l_now : 0 ≤ now) (u_now : now ≤ 4294967295) (w : World)
    (hp : w.heap[p]? = some (.cells (A1 [x0]) T)) (hb : w.heap[b]? = some (.cells (intsA [i0, i1]) 3)) (hne : p ≠ b) :
    Calls Try.prog 85 #[.pointer (some ⟨p, 0, none⟩), .slice (some ⟨b, 0, none⟩) 2 2, .int .i64 now] w fun e w' => e = .returned (.slice (some ⟨w.heap.size, 0, none⟩) 1 1) ∧ w'.heap[w.heap.size]? = some (.cells (intsA (srF [x0] [i0, i1] now).2) 3) ∧ w'.heap[p]? = some (.cells (A1 (srF [x0] [i0, i1] now).1) T) ∧ w.grownBy w' (some p) := by
  rcases h_i0 with rfl | rfl <;> rcases h_i1 with rfl | rfl <;> rcases h_x0 with rfl | rfl
  · exact (sr_fff p b T 0 0 now w hp hb hne rfl rfl).mono fun e w' ⟨a1, a2, a3, a4⟩ => ⟨a1, a2, a3, a4⟩
  · exact (sr_fft p b T 0 0 now w hp hb hne rfl rfl).mono fun e w' ⟨a1, a2, a3, a4⟩ => ⟨a1, a2, a3, a4⟩
  · exact (sr_ftf p b T 0 1 now w hp hb hne rfl rfl).mono fun e w' ⟨a1, a2, a3, a4⟩ => ⟨a1, a2, a3, a4⟩
  · exact (sr_ftt p b T 0 1 now w hp hb hne rfl rfl).mono fun e w' ⟨a1, a2, a3, a4⟩ => ⟨a1, a2, a3, a4⟩
  · exact (sr_tff p b T 1 0 now w hp hb hne rfl rfl).mono fun e w' ⟨a1, a2, a3, a4⟩ => ⟨a1, a2, a3, a4⟩
  · exact (sr_tft p b T 1 0 now w hp hb hne rfl rfl).mono fun e w' ⟨a1, a2, a3, a4⟩ => ⟨a1, a2, a3, a4⟩
  · exact (sr_ttf p b T 1 1 now w hp hb hne rfl rfl).mono fun e w' ⟨a1, a2, a3, a4⟩ => ⟨a1, a2, a3, a4⟩
  · exact (sr_ttt p b T 1 1 now w hp hb hne rfl rfl).mono fun e w' ⟨a1, a2, a3, a4⟩ => ⟨a1, a2, a3, a4⟩

theorem sr_form (x0 i0 i1 now : Int) (h_x0 : x0 = 0 ∨ x0 = 1) (h_i0 : i0 = 0 ∨ i0 = 1) (h_i1 : i1 = 0 ∨ i1 = 1) :
    ∃ n0, (srF [x0] [i0, i1] now).1 = [n0] ∧ (n0 = 0 ∨ n0 = 1) := by
  refine ⟨_, rfl, ?_⟩
  unfold srN
  repeat' split
  all_goals simp
theorem stepC_sr : StepC srName 1 1 [1] [1, 1] srF := by
  intro vs vi l li now w hr hri
  obtain ⟨a0, e⟩ := form1 1 l
  obtain ⟨c0, c1, e'⟩ := form2 1 1 li
  have hst : ∀ (p b : Nat) (w : World), w.heap[p]? = some (.cells (A1 (wrapL [1] l)) 95) → w.heap[b]? = some (.cells (intsA (wrapL [1, 1] li)) 3) → p ≠ b → Calls Try.prog 85 #[.pointer (some ⟨p, 0, none⟩), .slice (some ⟨b, 0, none⟩) 2 2, .int .i64 (wrapK 5 now)] w fun e w' => e = .returned (.slice (some ⟨w.heap.size, 0, none⟩) 1 1) ∧ w'.heap[w.heap.size]? = some (.cells (intsA (srF (wrapL [1] l) (wrapL [1, 1] li) (wrapK 5 now)).2) 3) ∧ w'.heap[p]? = some (.cells (A1 (srF (wrapL [1] l) (wrapL [1, 1] li) (wrapK 5 now)).1) 95) ∧ w.grownBy w' (some p) := by
    intro p b w hp hb hne
    rw [e] at hp ⊢
    rw [e'] at hb ⊢
    exact sr_step p b 95 _ _ _ _ (bitK a0) (bitK c0) (bitK c1) (timK now).1 (timK now).2 w hp hb hne
  have hsv : ∀ (p : Nat) (w : World), w.heap[p]? = some (.cells (A1 (srF (wrapL [1] l) (wrapL [1, 1] li) (wrapK 5 now)).1) 95) → Calls Try.prog 83 #[.pointer (some ⟨p, 0, none⟩)] w fun e w' => e = .returned (.slice (some ⟨w.heap.size, 0, none⟩) 1 1) ∧ w'.heap[w.heap.size]? = some (.cells (intsA (srF (wrapL [1] l) (wrapL [1, 1] li) (wrapK 5 now)).1) 3) ∧ w.grownBy w' none := by
    intro p w hp
    rw [e, e'] at hp ⊢
    obtain ⟨n0, hf, h0⟩ := sr_form (wrapK 1 a0) (wrapK 1 c0) (wrapK 1 c1) (wrapK 5 now) (bitK a0) (bitK c0) (bitK c1)
    rw [hf] at hp ⊢
    exact save_l p 95 n0 h0 w hp
  exact step_gen srName 91 95 84 82 85 83 #[.bool false] srI srO srS A1 srF vs vi l li now w (by decide) (by decide) named_sr
    (fun _ _ => by kernel_rfl) (fun _ _ => by kernel_rfl) (fun _ _ => by kernel_rfl) (fun _ _ => by kernel_rfl) (fun _ _ => by kernel_rfl) (fun _ _ => by kernel_rfl)
    (fun _ _ => by kernel_rfl) (fun _ _ => by kernel_rfl) (fun _ _ => by kernel_rfl) (fun _ _ => by kernel_rfl)
    shape_sr (fun p b w hp hb hne => load_l p b 95 l w hp hb hne) hst hsv hr hri

theorem rs_step (p b T : Nat) (x0 i0 i1 now : Int) (h_x0 : x0 = 0 ∨ x0 = 1) (h_i0 : i0 = 0 ∨ i0 = 1) (h_i1 : i1 = 0 ∨ i1 = 1) (l_now : 0 ≤ now) (u_now : now ≤ 4294967295) (w : World)
    (hp : w.heap[p]? = some (.cells (A1 [x0]) T)) (hb : w.heap[b]? = some (.cells (intsA [i0, i1]) 3)) (hne : p ≠ b) :
    Calls Try.prog 88 #[.pointer (some ⟨p, 0, none⟩), .slice (some ⟨b, 0, none⟩) 2 2, .int .i64 now] w fun e w' => e = .returned (.slice (some ⟨w.heap.size, 0, none⟩) 1 1) ∧ w'.heap[w.heap.size]? = some (.cells (intsA (rsF [x0] [i0, i1] now).2) 3) ∧ w'.heap[p]? = some (.cells (A1 (rsF [x0] [i0, i1] now).1) T) ∧ w.grownBy w' (some p) := by
  rcases h_i0 with rfl | rfl <;> rcases h_i1 with rfl | rfl <;> rcases h_x0 with rfl | rfl
  · exact (rs_fff p b T 0 0 now w hp hb hne rfl rfl).mono fun e w' ⟨a1, a2, a3, a4⟩ => ⟨a1, a2, a3, a4⟩
  · exact (rs_fft p b T 0 0 now w hp hb hne rfl rfl).mono fun e w' ⟨a1, a2, a3, a4⟩ => ⟨a1, a2, a3, a4⟩
  · exact (rs_ftf p b T 0 1 now w hp hb hne rfl rfl).mono fun e w' ⟨a1, a2, a3, a4⟩ => ⟨a1, a2, a3, a4⟩
  · exact (rs_ftt p b T 0 1 now w hp hb hne rfl rfl).mono fun e w' ⟨a1, a2, a3, a4⟩ => ⟨a1, a2, a3, a4⟩
  · exact (rs_tff p b T 1 0 now w hp hb hne rfl rfl).mono fun e w' ⟨a1, a2, a3, a4⟩ => ⟨a1, a2, a3, a4⟩
  · exact (rs_tft p b T 1 0 now w hp hb hne rfl rfl).mono fun e w' ⟨a1, a2, a3, a4⟩ => ⟨a1, a2, a3, a4⟩
  · exact (rs_ttf p b T 1 1 now w hp hb hne rfl rfl).mono fun e w' ⟨a1, a2, a3, a4⟩ => ⟨a1, a2, a3, a4⟩
  · exact (rs_ttt p b T 1 1 now w hp hb hne rfl rfl).mono fun e w' ⟨a1, a2, a3, a4⟩ => ⟨a1, a2, a3, a4⟩

theorem rs_form (x0 i0 i1 now : Int) (h_x0 : x0 = 0 ∨ x0 = 1) (h_i0 : i0 = 0 ∨ i0 = 1) (h_i1 : i1 = 0 ∨ i1 = 1) :
    ∃ n0, (rsF [x0] [i0, i1] now).1 = [n0] ∧ (n0 = 0 ∨ n0 = 1) := by
  refine ⟨_, rfl, ?_⟩
  unfold rsN
  repeat' split
  all_goals simp
theorem stepC_rs : StepC rsName 1 1 [1] [1, 1] rsF := by
  intro vs vi l li now w hr hri
  obtain ⟨a0, e⟩ := form1 1 l
  obtain ⟨c0, c1, e'⟩ := form2 1 1 li
  have hst : ∀ (p b : Nat) (w : World), w.heap[p]? = some (.cells (A1 (wrapL [1] l)) 97) → w.heap[b]? = some (.cells (intsA (wrapL [1, 1] li)) 3) → p ≠ b → Calls Try.prog 88 #[.pointer (some ⟨p, 0, none⟩), .slice (some ⟨b, 0, none⟩) 2 2, .int .i64 (wrapK 5 now)] w fun e w' => e = .returned (.slice (some ⟨w.heap.size, 0, none⟩) 1 1) ∧ w'.heap[w.heap.size]? = some (.cells (intsA (rsF (wrapL [1] l) (wrapL [1, 1] li) (wrapK 5 now)).2) 3) ∧ w'.heap[p]? = some (.cells (A1 (rsF (wrapL [1] l) (wrapL [1, 1] li) (wrapK 5 now)).1) 97) ∧ w.grownBy w' (some p) := by
    intro p b w hp hb hne
    rw [e] at hp ⊢
    rw [e'] at hb ⊢
    exact rs_step p b 97 _ _ _ _ (bitK a0) (bitK c0) (bitK c1) (timK now).1 (timK now).2 w hp hb hne
  have hsv : ∀ (p : Nat) (w : World), w.heap[p]? = some (.cells (A1 (rsF (wrapL [1] l) (wrapL [1, 1] li) (wrapK 5 now)).1) 97) → Calls Try.prog 83 #[.pointer (some ⟨p, 0, none⟩)] w fun e w' => e = .returned (.slice (some ⟨w.heap.size, 0, none⟩) 1 1) ∧ w'.heap[w.heap.size]? = some (.cells (intsA (rsF (wrapL [1] l) (wrapL [1, 1] li) (wrapK 5 now)).1) 3) ∧ w.grownBy w' none := by
    intro p w hp
    rw [e, e'] at hp ⊢
    obtain ⟨n0, hf, h0⟩ := rs_form (wrapK 1 a0) (wrapK 1 c0) (wrapK 1 c1) (wrapK 5 now) (bitK a0) (bitK c0) (bitK c1)
    rw [hf] at hp ⊢
    exact save_l p 97 n0 h0 w hp
  exact step_gen rsName 96 97 87 82 88 83 #[.bool false] rsI rsO rsS A1 rsF vs vi l li now w (by decide) (by decide) named_rs
    (fun _ _ => by kernel_rfl) (fun _ _ => by kernel_rfl) (fun _ _ => by kernel_rfl) (fun _ _ => by kernel_rfl) (fun _ _ => by kernel_rfl) (fun _ _ => by kernel_rfl)
    (fun _ _ => by kernel_rfl) (fun _ _ => by kernel_rfl) (fun _ _ => by kernel_rfl) (fun _ _ => by kernel_rfl)
    shape_rs (fun p b w hp hb hne => load_l p b 97 l w hp hb hne) hst hsv hr hri

theorem ramp_step (p b T : Nat) (x0 i0 i1 now : Int) (l_x0 : -32768 ≤ x0) (u_x0 : x0 ≤ 32767) (l_i0 : -32768 ≤ i0) (u_i0 : i0 ≤ 32767) (l_i1 : -32768 ≤ i1) (u_i1 : i1 ≤ 32767) (l_now : 0 ≤ now) (u_now : now ≤ 4294967295) (w : World)
    (hp : w.heap[p]? = some (.cells (A1i [x0]) T)) (hb : w.heap[b]? = some (.cells (intsA [i0, i1]) 3)) (hne : p ≠ b) :
    Calls Try.prog 92 #[.pointer (some ⟨p, 0, none⟩), .slice (some ⟨b, 0, none⟩) 2 2, .int .i64 now] w fun e w' => e = .returned (.slice (some ⟨w.heap.size, 0, none⟩) 1 1) ∧ w'.heap[w.heap.size]? = some (.cells (intsA (rampF [x0] [i0, i1] now).2) 3) ∧ w'.heap[p]? = some (.cells (A1i (rampF [x0] [i0, i1] now).1) T) ∧ w.grownBy w' (some p) := by
  by_cases h0 : i1 < 0
  · have hN : rampN x0 i0 i1 = x0 := by unfold rampN; rw [if_pos h0]
    by_cases h1 : 0 ≤ i0 - x0
    · exact (ramp_n1 p b T i0 i1 x0 now w hp hb hne l_i0 u_i0 l_x0 u_x0 l_i1 u_i1 h0 h1).mono fun e w' ⟨a1, a2, a3, a4⟩ => ⟨a1, a2.trans (by simp [rampF, intsA, hN]), a3.trans (by simp [rampF, A1i, hN]), a4⟩
    · exact (ramp_n2 p b T i0 i1 x0 now w hp hb hne l_i0 u_i0 l_x0 u_x0 l_i1 u_i1 h0 (by omega)).mono fun e w' ⟨a1, a2, a3, a4⟩ => ⟨a1, a2.trans (by simp [rampF, intsA, hN]), a3.trans (by simp [rampF, A1i, hN]), a4⟩
  · by_cases h1 : i0 - x0 < -i1
    · have hN : rampN x0 i0 i1 = x0 - i1 := by unfold rampN; rw [if_neg h0, if_pos h1]
      exact (ramp_lo p b T i0 i1 x0 now w hp hb hne l_i0 u_i0 l_x0 u_x0 l_i1 u_i1 (by omega) h1).mono fun e w' ⟨a1, a2, a3, a4⟩ => ⟨a1, a2.trans (by simp [rampF, intsA, hN]), a3.trans (by simp [rampF, A1i, hN]), a4⟩
    · by_cases h2 : i0 - x0 ≤ i1
      · have hN : rampN x0 i0 i1 = i0 := by unfold rampN; rw [if_neg h0, if_neg h1, if_pos h2]
        exact (ramp_mid p b T i0 i1 x0 now w hp hb hne l_i0 u_i0 l_x0 u_x0 l_i1 u_i1 (by omega) (by omega) h2).mono fun e w' ⟨a1, a2, a3, a4⟩ => ⟨a1, a2.trans (by simp [rampF, intsA, hN]), a3.trans (by simp [rampF, A1i, hN]), a4⟩
      · have hN : rampN x0 i0 i1 = x0 + i1 := by unfold rampN; rw [if_neg h0, if_neg h1, if_neg h2]
        exact (ramp_hi p b T i0 i1 x0 now w hp hb hne l_i0 u_i0 l_x0 u_x0 l_i1 u_i1 (by omega) (by omega) (by omega)).mono fun e w' ⟨a1, a2, a3, a4⟩ => ⟨a1, a2.trans (by simp [rampF, intsA, hN]), a3.trans (by simp [rampF, A1i, hN]), a4⟩

theorem ramp_form (x0 i0 i1 now : Int)  :
    ∃ n0, (rampF [x0] [i0, i1] now).1 = [n0] := by
  exact ⟨_, rfl⟩
theorem stepC_ramp : StepC rampName 1 1 [2] [2, 2] rampF := by
  intro vs vi l li now w hr hri
  obtain ⟨a0, e⟩ := form1 2 l
  obtain ⟨c0, c1, e'⟩ := form2 2 2 li
  have hst : ∀ (p b : Nat) (w : World), w.heap[p]? = some (.cells (A1i (wrapL [2] l)) 100) → w.heap[b]? = some (.cells (intsA (wrapL [2, 2] li)) 3) → p ≠ b → Calls Try.prog 92 #[.pointer (some ⟨p, 0, none⟩), .slice (some ⟨b, 0, none⟩) 2 2, .int .i64 (wrapK 5 now)] w fun e w' => e = .returned (.slice (some ⟨w.heap.size, 0, none⟩) 1 1) ∧ w'.heap[w.heap.size]? = some (.cells (intsA (rampF (wrapL [2] l) (wrapL [2, 2] li) (wrapK 5 now)).2) 3) ∧ w'.heap[p]? = some (.cells (A1i (rampF (wrapL [2] l) (wrapL [2, 2] li) (wrapK 5 now)).1) 100) ∧ w.grownBy w' (some p) := by
    intro p b w hp hb hne
    rw [e] at hp ⊢
    rw [e'] at hb ⊢
    exact ramp_step p b 100 _ _ _ _ (intK a0).1 (intK a0).2 (intK c0).1 (intK c0).2 (intK c1).1 (intK c1).2 (timK now).1 (timK now).2 w hp hb hne
  have hsv : ∀ (p : Nat) (w : World), w.heap[p]? = some (.cells (A1i (rampF (wrapL [2] l) (wrapL [2, 2] li) (wrapK 5 now)).1) 100) → Calls Try.prog 90 #[.pointer (some ⟨p, 0, none⟩)] w fun e w' => e = .returned (.slice (some ⟨w.heap.size, 0, none⟩) 1 1) ∧ w'.heap[w.heap.size]? = some (.cells (intsA (rampF (wrapL [2] l) (wrapL [2, 2] li) (wrapK 5 now)).1) 3) ∧ w.grownBy w' none := by
    intro p w hp
    rw [e, e'] at hp ⊢
    obtain ⟨n0, hf⟩ := ramp_form (wrapK 2 a0) (wrapK 2 c0) (wrapK 2 c1) (wrapK 5 now) 
    rw [hf] at hp ⊢
    exact save_r p 100 n0  w hp
  exact step_gen rampName 98 100 91 89 92 90 #[.int .i64 0] rampI rampO rampS A1i rampF vs vi l li now w (by decide) (by decide) named_ramp
    (fun _ _ => by kernel_rfl) (fun _ _ => by kernel_rfl) (fun _ _ => by kernel_rfl) (fun _ _ => by kernel_rfl) (fun _ _ => by kernel_rfl) (fun _ _ => by kernel_rfl)
    (fun _ _ => by kernel_rfl) (fun _ _ => by kernel_rfl) (fun _ _ => by kernel_rfl) (fun _ _ => by kernel_rfl)
    shape_ramp (fun p b w hp hb hne => load_r p b 100 l w hp hb hne) hst hsv hr hri

theorem hyst_step (p b T : Nat) (x0 i0 i1 i2 now : Int) (h_x0 : x0 = 0 ∨ x0 = 1) (l_i0 : -32768 ≤ i0) (u_i0 : i0 ≤ 32767) (l_i1 : -32768 ≤ i1) (u_i1 : i1 ≤ 32767) (l_i2 : -32768 ≤ i2) (u_i2 : i2 ≤ 32767) (l_now : 0 ≤ now) (u_now : now ≤ 4294967295) (w : World)
    (hp : w.heap[p]? = some (.cells (A1 [x0]) T)) (hb : w.heap[b]? = some (.cells (intsA [i0, i1, i2]) 3)) (hne : p ≠ b) :
    Calls Try.prog 94 #[.pointer (some ⟨p, 0, none⟩), .slice (some ⟨b, 0, none⟩) 3 3, .int .i64 now] w fun e w' => e = .returned (.slice (some ⟨w.heap.size, 0, none⟩) 1 1) ∧ w'.heap[w.heap.size]? = some (.cells (intsA (hystF [x0] [i0, i1, i2] now).2) 3) ∧ w'.heap[p]? = some (.cells (A1 (hystF [x0] [i0, i1, i2] now).1) T) ∧ w.grownBy w' (some p) := by
  by_cases h0 : i1 ≤ i0
  · have hN : hystN x0 i0 i1 i2 = 1 := by unfold hystN; rw [if_pos h0]
    exact (hyst_on p b T (x0 != 0) i0 i1 i2 now w hp hb hne h0).mono fun e w' ⟨a1, a2, a3, a4⟩ => ⟨a1, a2.trans (by simp [hystF, intsA, hN]), a3.trans (by simp [hystF, A1, hN]), a4⟩
  · by_cases h1 : i0 ≤ i2
    · have hN : hystN x0 i0 i1 i2 = 0 := by unfold hystN; rw [if_neg h0, if_pos h1]
      exact (hyst_off p b T (x0 != 0) i0 i1 i2 now w hp hb hne h0 h1).mono fun e w' ⟨a1, a2, a3, a4⟩ => ⟨a1, a2.trans (by simp [hystF, intsA, hN]), a3.trans (by simp [hystF, A1, hN]), a4⟩
    · have hN : hystN x0 i0 i1 i2 = x0 := by unfold hystN; rw [if_neg h0, if_neg h1]
      rcases h_x0 with rfl | rfl
      · exact (hyst_f p b T i0 i1 i2 now w hp hb hne h0 h1).mono fun e w' ⟨a1, a2, a3, a4⟩ => ⟨a1, a2.trans (by simp [hystF, intsA, hN]), a3.trans (by simp [hystF, A1, hN]), a4⟩
      · exact (hyst_t p b T i0 i1 i2 now w hp hb hne h0 h1).mono fun e w' ⟨a1, a2, a3, a4⟩ => ⟨a1, a2.trans (by simp [hystF, intsA, hN]), a3.trans (by simp [hystF, A1, hN]), a4⟩

theorem hyst_form (x0 i0 i1 i2 now : Int) (h_x0 : x0 = 0 ∨ x0 = 1) :
    ∃ n0, (hystF [x0] [i0, i1, i2] now).1 = [n0] ∧ (n0 = 0 ∨ n0 = 1) := by
  refine ⟨_, rfl, ?_⟩
  unfold hystN
  repeat' split
  all_goals first | exact h_x0 | simp
theorem stepC_hyst : StepC hystName 1 1 [1] [2, 2, 2] hystF := by
  intro vs vi l li now w hr hri
  obtain ⟨a0, e⟩ := form1 1 l
  obtain ⟨c0, c1, c2, e'⟩ := form3 2 2 2 li
  have hst : ∀ (p b : Nat) (w : World), w.heap[p]? = some (.cells (A1 (wrapL [1] l)) 102) → w.heap[b]? = some (.cells (intsA (wrapL [2, 2, 2] li)) 3) → p ≠ b → Calls Try.prog 94 #[.pointer (some ⟨p, 0, none⟩), .slice (some ⟨b, 0, none⟩) 3 3, .int .i64 (wrapK 5 now)] w fun e w' => e = .returned (.slice (some ⟨w.heap.size, 0, none⟩) 1 1) ∧ w'.heap[w.heap.size]? = some (.cells (intsA (hystF (wrapL [1] l) (wrapL [2, 2, 2] li) (wrapK 5 now)).2) 3) ∧ w'.heap[p]? = some (.cells (A1 (hystF (wrapL [1] l) (wrapL [2, 2, 2] li) (wrapK 5 now)).1) 102) ∧ w.grownBy w' (some p) := by
    intro p b w hp hb hne
    rw [e] at hp ⊢
    rw [e'] at hb ⊢
    exact hyst_step p b 102 _ _ _ _ _ (bitK a0) (intK c0).1 (intK c0).2 (intK c1).1 (intK c1).2 (intK c2).1 (intK c2).2 (timK now).1 (timK now).2 w hp hb hne
  have hsv : ∀ (p : Nat) (w : World), w.heap[p]? = some (.cells (A1 (hystF (wrapL [1] l) (wrapL [2, 2, 2] li) (wrapK 5 now)).1) 102) → Calls Try.prog 83 #[.pointer (some ⟨p, 0, none⟩)] w fun e w' => e = .returned (.slice (some ⟨w.heap.size, 0, none⟩) 1 1) ∧ w'.heap[w.heap.size]? = some (.cells (intsA (hystF (wrapL [1] l) (wrapL [2, 2, 2] li) (wrapK 5 now)).1) 3) ∧ w.grownBy w' none := by
    intro p w hp
    rw [e, e'] at hp ⊢
    obtain ⟨n0, hf, h0⟩ := hyst_form (wrapK 1 a0) (wrapK 2 c0) (wrapK 2 c1) (wrapK 2 c2) (wrapK 5 now) (bitK a0)
    rw [hf] at hp ⊢
    exact save_l p 102 n0 h0 w hp
  exact step_gen hystName 101 102 93 82 94 83 #[.bool false] hystI hystO hystS A1 hystF vs vi l li now w (by decide) (by decide) named_hyst
    (fun _ _ => by kernel_rfl) (fun _ _ => by kernel_rfl) (fun _ _ => by kernel_rfl) (fun _ _ => by kernel_rfl) (fun _ _ => by kernel_rfl) (fun _ _ => by kernel_rfl)
    (fun _ _ => by kernel_rfl) (fun _ _ => by kernel_rfl) (fun _ _ => by kernel_rfl) (fun _ _ => by kernel_rfl)
    shape_hyst (fun p b w hp hb hne => load_l p b 102 l w hp hb hne) hst hsv hr hri

end Go.Proofs.Ytphnadhkoigegaa
