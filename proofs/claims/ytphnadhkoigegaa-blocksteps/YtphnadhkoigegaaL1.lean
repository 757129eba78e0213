/- Step at ton, tof, tp. -/
import Derived.Test.YtphnadhkoigegaaI
import Derived.Test.YtphnadhkoigegaaE
import Derived.Test.YtphnadhkoigegaaH1
import Derived.Test.YtphnadhkoigegaaH2
import Derived.Test.YtphnadhkoigegaaH3
namespace Go.Proofs.Ytphnadhkoigegaa
open Go.RowKit

set_option linter.unusedVariables false
set_option linter.unusedSimpArgs false
theorem load_t (p b T : Nat) (l : List Int) (w : World) (hp : w.heap[p]? = some (.cells #[.bool false, .int .i64 0, .bool false, .int .i64 0] T)) (hb : w.heap[b]? = some (.cells (intsA (wrapL [1, 5, 1, 5] l)) 3)) (hne : p ≠ b) :
    Calls Try.prog 44 #[.pointer (some ⟨p, 0, none⟩), .slice (some ⟨b, 0, none⟩) 4 4] w fun e w' => e = .returned (.tuple #[]) ∧ w'.heap[p]? = some (.cells (A4 (wrapL [1, 5, 1, 5] l)) T) ∧ w.grownBy w' (some p) := by
  obtain ⟨a0, a1, a2, a3, e⟩ := form4 1 5 1 5 l
  rw [e] at hb ⊢
  exact load_timer p b T 3 _ _ _ _ _ _ _ _ w hp hb hne
theorem save_t (p T : Nat) (n0 n1 n2 n3 : Int) (h0 : n0 = 0 ∨ n0 = 1) (h2 : n2 = 0 ∨ n2 = 1) (w : World) (hp : w.heap[p]? = some (.cells (A4 [n0, n1, n2, n3]) T)) :
    Calls Try.prog 45 #[.pointer (some ⟨p, 0, none⟩)] w fun e w' => e = .returned (.slice (some ⟨w.heap.size, 0, none⟩) 4 4) ∧ w'.heap[w.heap.size]? = some (.cells (intsA [n0, n1, n2, n3]) 3) ∧ w.grownBy w' none := by
  have h := save_timer p T n1 n3 (n0 != 0) (n2 != 0) w hp
  rw [yes_bit h0, yes_bit h2] at h
  exact h

theorem ton_step (p b T : Nat) (x0 x1 x2 x3 i0 i1 now : Int) (h_x0 : x0 = 0 ∨ x0 = 1) (l_x1 : 0 ≤ x1) (u_x1 : x1 ≤ 4294967295) (h_x2 : x2 = 0 ∨ x2 = 1) (l_x3 : 0 ≤ x3) (u_x3 : x3 ≤ 4294967295) (h_i0 : i0 = 0 ∨ i0 = 1) (l_i1 : 0 ≤ i1) (u_i1 : i1 ≤ 4294967295) (l_now : 0 ≤ now) (u_now : now ≤ 4294967295) (w : World)
    (hp : w.heap[p]? = some (.cells (A4 [x0, x1, x2, x3]) T)) (hb : w.heap[b]? = some (.cells (intsA [i0, i1]) 3)) (hne : p ≠ b) :
    Calls Try.prog 47 #[.pointer (some ⟨p, 0, none⟩), .slice (some ⟨b, 0, none⟩) 2 2, .int .i64 now] w fun e w' => e = .returned (.slice (some ⟨w.heap.size, 0, none⟩) 2 2) ∧ w'.heap[w.heap.size]? = some (.cells (intsA (tonF [x0, x1, x2, x3] [i0, i1] now).2) 3) ∧ w'.heap[p]? = some (.cells (A4 (tonF [x0, x1, x2, x3] [i0, i1] now).1) T) ∧ w.grownBy w' (some p) := by
  rcases h_i0 with rfl | rfl
  · exact (ton_1 p b T (x0 != 0) (x2 != 0) x1 x3 0 i1 now w hp hb hne rfl).mono fun e w' ⟨a1, a2, a3, a4⟩ => ⟨a1, a2, a3, a4⟩
  · rcases h_x0 with rfl | rfl
    · exact (ton_4 p b T (x2 != 0) x1 x3 1 i1 now w hp hb hne rfl l_now u_now).mono fun e w' ⟨a1, a2, a3, a4⟩ => ⟨a1, a2, a3.trans (by simp [tonF, A4, yesN_ne]), a4⟩
    · rcases h_x2 with rfl | rfl
      · exact (ton_3 p b T x1 x3 1 i1 now w hp hb hne rfl l_x1 u_x1 l_now u_now).mono fun e w' ⟨a1, a2, a3, a4⟩ => ⟨a1, a2, a3.trans (by simp [tonF, A4, yesN_ne]), a4⟩
      · exact (ton_2 p b T x1 x3 1 i1 now w hp hb hne rfl).mono fun e w' ⟨a1, a2, a3, a4⟩ => ⟨a1, a2, a3, a4⟩

theorem ton_form (x0 x1 x2 x3 i0 i1 now : Int) (h_x0 : x0 = 0 ∨ x0 = 1) (h_x2 : x2 = 0 ∨ x2 = 1) (h_i0 : i0 = 0 ∨ i0 = 1) :
    ∃ n0 n1 n2 n3, (tonF [x0, x1, x2, x3] [i0, i1] now).1 = [n0, n1, n2, n3] ∧ (n0 = 0 ∨ n0 = 1) ∧ (n2 = 0 ∨ n2 = 1) := by
  rcases h_x0 with rfl | rfl <;> rcases h_x2 with rfl | rfl <;> rcases h_i0 with rfl | rfl <;> exact ⟨_, _, _, _, rfl, by simp, by first | exact bit_yes _ | simp⟩
theorem stepC_ton : StepC tonName 4 2 [1, 5, 1, 5] [1, 5] tonF := by
  intro vs vi l li now w hr hri
  obtain ⟨a0, a1, a2, a3, e⟩ := form4 1 5 1 5 l
  obtain ⟨c0, c1, e'⟩ := form2 1 5 li
  have hst : ∀ (p b : Nat) (w : World), w.heap[p]? = some (.cells (A4 (wrapL [1, 5, 1, 5] l)) 69) → w.heap[b]? = some (.cells (intsA (wrapL [1, 5] li)) 3) → p ≠ b → Calls Try.prog 47 #[.pointer (some ⟨p, 0, none⟩), .slice (some ⟨b, 0, none⟩) 2 2, .int .i64 (wrapK 5 now)] w fun e w' => e = .returned (.slice (some ⟨w.heap.size, 0, none⟩) 2 2) ∧ w'.heap[w.heap.size]? = some (.cells (intsA (tonF (wrapL [1, 5, 1, 5] l) (wrapL [1, 5] li) (wrapK 5 now)).2) 3) ∧ w'.heap[p]? = some (.cells (A4 (tonF (wrapL [1, 5, 1, 5] l) (wrapL [1, 5] li) (wrapK 5 now)).1) 69) ∧ w.grownBy w' (some p) := by
    intro p b w hp hb hne
    rw [e] at hp ⊢
    rw [e'] at hb ⊢
    exact ton_step p b 69 _ _ _ _ _ _ _ (bitK a0) (timK a1).1 (timK a1).2 (bitK a2) (timK a3).1 (timK a3).2 (bitK c0) (timK c1).1 (timK c1).2 (timK now).1 (timK now).2 w hp hb hne
  have hsv : ∀ (p : Nat) (w : World), w.heap[p]? = some (.cells (A4 (tonF (wrapL [1, 5, 1, 5] l) (wrapL [1, 5] li) (wrapK 5 now)).1) 69) → Calls Try.prog 45 #[.pointer (some ⟨p, 0, none⟩)] w fun e w' => e = .returned (.slice (some ⟨w.heap.size, 0, none⟩) 4 4) ∧ w'.heap[w.heap.size]? = some (.cells (intsA (tonF (wrapL [1, 5, 1, 5] l) (wrapL [1, 5] li) (wrapK 5 now)).1) 3) ∧ w.grownBy w' none := by
    intro p w hp
    rw [e, e'] at hp ⊢
    obtain ⟨n0, n1, n2, n3, hf, h0, h2⟩ := ton_form (wrapK 1 a0) (wrapK 5 a1) (wrapK 1 a2) (wrapK 5 a3) (wrapK 1 c0) (wrapK 5 c1) (wrapK 5 now) (bitK a0) (bitK a2) (bitK c0)
    rw [hf] at hp ⊢
    exact save_t p 69 n0 n1 n2 n3 h0 h2 w hp
  exact step_gen tonName 65 69 46 44 47 45 #[.bool false, .int .i64 0, .bool false, .int .i64 0] tonI tonO tonS A4 tonF vs vi l li now w (by decide) (by decide) named_ton
    (fun _ _ => by kernel_rfl) (fun _ _ => by kernel_rfl) (fun _ _ => by kernel_rfl) (fun _ _ => by kernel_rfl) (fun _ _ => by kernel_rfl) (fun _ _ => by kernel_rfl)
    (fun _ _ => by kernel_rfl) (fun _ _ => by kernel_rfl) (fun _ _ => by kernel_rfl) (fun _ _ => by kernel_rfl)
    shape_ton (fun p b w hp hb hne => load_t p b 69 l w hp hb hne) hst hsv hr hri

theorem tof_step (p b T : Nat) (x0 x1 x2 x3 i0 i1 now : Int) (h_x0 : x0 = 0 ∨ x0 = 1) (l_x1 : 0 ≤ x1) (u_x1 : x1 ≤ 4294967295) (h_x2 : x2 = 0 ∨ x2 = 1) (l_x3 : 0 ≤ x3) (u_x3 : x3 ≤ 4294967295) (h_i0 : i0 = 0 ∨ i0 = 1) (l_i1 : 0 ≤ i1) (u_i1 : i1 ≤ 4294967295) (l_now : 0 ≤ now) (u_now : now ≤ 4294967295) (w : World)
    (hp : w.heap[p]? = some (.cells (A4 [x0, x1, x2, x3]) T)) (hb : w.heap[b]? = some (.cells (intsA [i0, i1]) 3)) (hne : p ≠ b) :
    Calls Try.prog 57 #[.pointer (some ⟨p, 0, none⟩), .slice (some ⟨b, 0, none⟩) 2 2, .int .i64 now] w fun e w' => e = .returned (.slice (some ⟨w.heap.size, 0, none⟩) 2 2) ∧ w'.heap[w.heap.size]? = some (.cells (intsA (tofF [x0, x1, x2, x3] [i0, i1] now).2) 3) ∧ w'.heap[p]? = some (.cells (A4 (tofF [x0, x1, x2, x3] [i0, i1] now).1) T) ∧ w.grownBy w' (some p) := by
  rcases h_i0 with rfl | rfl
  · rcases h_x2 with rfl | rfl
    · refine (tof_2 p b T (x0 != 0) x1 x3 0 i1 now w hp hb hne rfl).mono fun e w' ⟨a1, a2, a3, a4⟩ => ⟨a1, a2, a3, a4⟩
    · rcases h_x0 with rfl | rfl
      · by_cases ho : i1 ≤ goneN now now
        · exact (tof_ny p b T x1 x3 0 i1 now w hp hb hne rfl l_now u_now (by simpa using ho)).mono fun e w' ⟨a1, a2, a3, a4⟩ => ⟨a1, a2.trans (by simp [tofF, intsA, ho]), a3.trans (by simp [tofF, A4, ho]), a4⟩
        · exact (tof_nn p b T x1 x3 0 i1 now w hp hb hne rfl l_now u_now (by simpa using ho)).mono fun e w' ⟨a1, a2, a3, a4⟩ => ⟨a1, a2.trans (by simp [tofF, intsA, ho]), a3.trans (by simp [tofF, A4, ho]), a4⟩
      · by_cases ho : i1 ≤ goneN now x1
        · exact (tof_ry p b T x1 x3 0 i1 now w hp hb hne rfl l_x1 u_x1 l_now u_now (by simpa using ho)).mono fun e w' ⟨a1, a2, a3, a4⟩ => ⟨a1, a2.trans (by simp [tofF, intsA, ho]), a3.trans (by simp [tofF, A4, ho]), a4⟩
        · exact (tof_rn p b T x1 x3 0 i1 now w hp hb hne rfl l_x1 u_x1 l_now u_now (by simpa using ho)).mono fun e w' ⟨a1, a2, a3, a4⟩ => ⟨a1, a2.trans (by simp [tofF, intsA, ho]), a3.trans (by simp [tofF, A4, ho]), a4⟩
  · exact (tof_1 p b T (x0 != 0) (x2 != 0) x1 x3 1 i1 now w hp hb hne rfl).mono fun e w' ⟨a1, a2, a3, a4⟩ => ⟨a1, a2, a3, a4⟩

theorem tof_form (x0 x1 x2 x3 i0 i1 now : Int) (h_x0 : x0 = 0 ∨ x0 = 1) (h_x2 : x2 = 0 ∨ x2 = 1) (h_i0 : i0 = 0 ∨ i0 = 1) :
    ∃ n0 n1 n2 n3, (tofF [x0, x1, x2, x3] [i0, i1] now).1 = [n0, n1, n2, n3] ∧ (n0 = 0 ∨ n0 = 1) ∧ (n2 = 0 ∨ n2 = 1) := by
  rcases h_i0 with rfl | rfl
  · rcases h_x2 with rfl | rfl
    · exact ⟨_, _, _, _, rfl, h_x0, by simp⟩
    · by_cases ho : i1 ≤ goneN now (if x0 = 0 then now else x1)
      · exact ⟨0, 0, 0, min (goneN now (if x0 = 0 then now else x1)) i1, by simp [tofF, ho], by simp, by simp⟩
      · exact ⟨1, if x0 = 0 then now else x1, 1, min (goneN now (if x0 = 0 then now else x1)) i1, by simp [tofF, ho], by simp, by simp⟩
  · exact ⟨_, _, _, _, rfl, by simp, by simp⟩
theorem stepC_tof : StepC tofName 4 2 [1, 5, 1, 5] [1, 5] tofF := by
  intro vs vi l li now w hr hri
  obtain ⟨a0, a1, a2, a3, e⟩ := form4 1 5 1 5 l
  obtain ⟨c0, c1, e'⟩ := form2 1 5 li
  have hst : ∀ (p b : Nat) (w : World), w.heap[p]? = some (.cells (A4 (wrapL [1, 5, 1, 5] l)) 71) → w.heap[b]? = some (.cells (intsA (wrapL [1, 5] li)) 3) → p ≠ b → Calls Try.prog 57 #[.pointer (some ⟨p, 0, none⟩), .slice (some ⟨b, 0, none⟩) 2 2, .int .i64 (wrapK 5 now)] w fun e w' => e = .returned (.slice (some ⟨w.heap.size, 0, none⟩) 2 2) ∧ w'.heap[w.heap.size]? = some (.cells (intsA (tofF (wrapL [1, 5, 1, 5] l) (wrapL [1, 5] li) (wrapK 5 now)).2) 3) ∧ w'.heap[p]? = some (.cells (A4 (tofF (wrapL [1, 5, 1, 5] l) (wrapL [1, 5] li) (wrapK 5 now)).1) 71) ∧ w.grownBy w' (some p) := by
    intro p b w hp hb hne
    rw [e] at hp ⊢
    rw [e'] at hb ⊢
    exact tof_step p b 71 _ _ _ _ _ _ _ (bitK a0) (timK a1).1 (timK a1).2 (bitK a2) (timK a3).1 (timK a3).2 (bitK c0) (timK c1).1 (timK c1).2 (timK now).1 (timK now).2 w hp hb hne
  have hsv : ∀ (p : Nat) (w : World), w.heap[p]? = some (.cells (A4 (tofF (wrapL [1, 5, 1, 5] l) (wrapL [1, 5] li) (wrapK 5 now)).1) 71) → Calls Try.prog 45 #[.pointer (some ⟨p, 0, none⟩)] w fun e w' => e = .returned (.slice (some ⟨w.heap.size, 0, none⟩) 4 4) ∧ w'.heap[w.heap.size]? = some (.cells (intsA (tofF (wrapL [1, 5, 1, 5] l) (wrapL [1, 5] li) (wrapK 5 now)).1) 3) ∧ w.grownBy w' none := by
    intro p w hp
    rw [e, e'] at hp ⊢
    obtain ⟨n0, n1, n2, n3, hf, h0, h2⟩ := tof_form (wrapK 1 a0) (wrapK 5 a1) (wrapK 1 a2) (wrapK 5 a3) (wrapK 1 c0) (wrapK 5 c1) (wrapK 5 now) (bitK a0) (bitK a2) (bitK c0)
    rw [hf] at hp ⊢
    exact save_t p 71 n0 n1 n2 n3 h0 h2 w hp
  exact step_gen tofName 70 71 56 44 57 45 #[.bool false, .int .i64 0, .bool false, .int .i64 0] tofI tofO tofS A4 tofF vs vi l li now w (by decide) (by decide) named_tof
    (fun _ _ => by kernel_rfl) (fun _ _ => by kernel_rfl) (fun _ _ => by kernel_rfl) (fun _ _ => by kernel_rfl) (fun _ _ => by kernel_rfl) (fun _ _ => by kernel_rfl)
    (fun _ _ => by kernel_rfl) (fun _ _ => by kernel_rfl) (fun _ _ => by kernel_rfl) (fun _ _ => by kernel_rfl)
    shape_tof (fun p b w hp hb hne => load_t p b 71 l w hp hb hne) hst hsv hr hri

theorem tp_step (p b T : Nat) (x0 x1 x2 x3 i0 i1 now : Int) (h_x0 : x0 = 0 ∨ x0 = 1) (l_x1 : 0 ≤ x1) (u_x1 : x1 ≤ 4294967295) (h_x2 : x2 = 0 ∨ x2 = 1) (l_x3 : 0 ≤ x3) (u_x3 : x3 ≤ 4294967295) (h_i0 : i0 = 0 ∨ i0 = 1) (l_i1 : 0 ≤ i1) (u_i1 : i1 ≤ 4294967295) (l_now : 0 ≤ now) (u_now : now ≤ 4294967295) (w : World)
    (hp : w.heap[p]? = some (.cells (A4 [x0, x1, x2, x3]) T)) (hb : w.heap[b]? = some (.cells (intsA [i0, i1]) 3)) (hne : p ≠ b) :
    Calls Try.prog 61 #[.pointer (some ⟨p, 0, none⟩), .slice (some ⟨b, 0, none⟩) 2 2, .int .i64 now] w fun e w' => e = .returned (.slice (some ⟨w.heap.size, 0, none⟩) 2 2) ∧ w'.heap[w.heap.size]? = some (.cells (intsA (tpF [x0, x1, x2, x3] [i0, i1] now).2) 3) ∧ w'.heap[p]? = some (.cells (A4 (tpF [x0, x1, x2, x3] [i0, i1] now).1) T) ∧ w.grownBy w' (some p) := by
  rcases h_x0 with rfl | rfl
  · rcases h_i0 with rfl | rfl
    · exact (tp_zero p b T (x2 != 0) x1 x3 0 i1 now w hp hb hne rfl).mono fun e w' ⟨a1, a2, a3, a4⟩ => ⟨a1, a2, a3, a4⟩
    · rcases h_x2 with rfl | rfl
      · by_cases ho : i1 ≤ goneN now now
        · exact (tp_ny p b T x1 x3 1 i1 now w hp hb hne rfl l_now u_now (by simpa using ho)).mono fun e w' ⟨a1, a2, a3, a4⟩ => ⟨a1, a2.trans (by simp [tpF, outF, intsA, ho]), a3.trans (by simp [tpF, outF, A4, ho]), a4⟩
        · exact (tp_nn p b T x1 x3 1 i1 now w hp hb hne rfl l_now u_now (by simpa using ho)).mono fun e w' ⟨a1, a2, a3, a4⟩ => ⟨a1, a2.trans (by simp [tpF, outF, intsA, ho]), a3.trans (by simp [tpF, outF, A4, ho]), a4⟩
      · exact (tp_keep p b T x1 x3 1 i1 now w hp hb hne rfl).mono fun e w' ⟨a1, a2, a3, a4⟩ => ⟨a1, a2, a3, a4⟩
  · rcases h_i0 with rfl | rfl <;> rcases h_x2 with rfl | rfl
    · by_cases ho : i1 ≤ goneN now x1
      · exact (tp_rffy p b T x1 x3 0 i1 now w hp hb hne rfl l_x1 u_x1 l_now u_now (by simpa using ho)).mono fun e w' ⟨a1, a2, a3, a4⟩ => ⟨a1, a2.trans (by simp [tpF, outF, intsA, ho]), a3.trans (by simp [tpF, outF, A4, ho]), a4⟩
      · exact (tp_rffn p b T x1 x3 0 i1 now w hp hb hne rfl l_x1 u_x1 l_now u_now (by simpa using ho)).mono fun e w' ⟨a1, a2, a3, a4⟩ => ⟨a1, a2.trans (by simp [tpF, outF, intsA, ho]), a3.trans (by simp [tpF, outF, A4, ho]), a4⟩
    · by_cases ho : i1 ≤ goneN now x1
      · exact (tp_rfty p b T x1 x3 0 i1 now w hp hb hne rfl l_x1 u_x1 l_now u_now (by simpa using ho)).mono fun e w' ⟨a1, a2, a3, a4⟩ => ⟨a1, a2.trans (by simp [tpF, outF, intsA, ho]), a3.trans (by simp [tpF, outF, A4, ho]), a4⟩
      · exact (tp_rftn p b T x1 x3 0 i1 now w hp hb hne rfl l_x1 u_x1 l_now u_now (by simpa using ho)).mono fun e w' ⟨a1, a2, a3, a4⟩ => ⟨a1, a2.trans (by simp [tpF, outF, intsA, ho]), a3.trans (by simp [tpF, outF, A4, ho]), a4⟩
    · by_cases ho : i1 ≤ goneN now x1
      · exact (tp_rtfy p b T x1 x3 1 i1 now w hp hb hne rfl l_x1 u_x1 l_now u_now (by simpa using ho)).mono fun e w' ⟨a1, a2, a3, a4⟩ => ⟨a1, a2.trans (by simp [tpF, outF, intsA, ho]), a3.trans (by simp [tpF, outF, A4, ho]), a4⟩
      · exact (tp_rtfn p b T x1 x3 1 i1 now w hp hb hne rfl l_x1 u_x1 l_now u_now (by simpa using ho)).mono fun e w' ⟨a1, a2, a3, a4⟩ => ⟨a1, a2.trans (by simp [tpF, outF, intsA, ho]), a3.trans (by simp [tpF, outF, A4, ho]), a4⟩
    · by_cases ho : i1 ≤ goneN now x1
      · exact (tp_rtty p b T x1 x3 1 i1 now w hp hb hne rfl l_x1 u_x1 l_now u_now (by simpa using ho)).mono fun e w' ⟨a1, a2, a3, a4⟩ => ⟨a1, a2.trans (by simp [tpF, outF, intsA, ho]), a3.trans (by simp [tpF, outF, A4, ho]), a4⟩
      · exact (tp_rttn p b T x1 x3 1 i1 now w hp hb hne rfl l_x1 u_x1 l_now u_now (by simpa using ho)).mono fun e w' ⟨a1, a2, a3, a4⟩ => ⟨a1, a2.trans (by simp [tpF, outF, intsA, ho]), a3.trans (by simp [tpF, outF, A4, ho]), a4⟩

theorem tp_form (x0 x1 x2 x3 i0 i1 now : Int) (h_x0 : x0 = 0 ∨ x0 = 1) (h_x2 : x2 = 0 ∨ x2 = 1) (h_i0 : i0 = 0 ∨ i0 = 1) :
    ∃ n0 n1 n2 n3, (tpF [x0, x1, x2, x3] [i0, i1] now).1 = [n0, n1, n2, n3] ∧ (n0 = 0 ∨ n0 = 1) ∧ (n2 = 0 ∨ n2 = 1) := by
  unfold tpF outF
  simp only []
  repeat' split
  all_goals exact ⟨_, _, _, _, rfl, by simp, by first | assumption | simp⟩
theorem stepC_tp : StepC tpName 4 2 [1, 5, 1, 5] [1, 5] tpF := by
  intro vs vi l li now w hr hri
  obtain ⟨a0, a1, a2, a3, e⟩ := form4 1 5 1 5 l
  obtain ⟨c0, c1, e'⟩ := form2 1 5 li
  have hst : ∀ (p b : Nat) (w : World), w.heap[p]? = some (.cells (A4 (wrapL [1, 5, 1, 5] l)) 73) → w.heap[b]? = some (.cells (intsA (wrapL [1, 5] li)) 3) → p ≠ b → Calls Try.prog 61 #[.pointer (some ⟨p, 0, none⟩), .slice (some ⟨b, 0, none⟩) 2 2, .int .i64 (wrapK 5 now)] w fun e w' => e = .returned (.slice (some ⟨w.heap.size, 0, none⟩) 2 2) ∧ w'.heap[w.heap.size]? = some (.cells (intsA (tpF (wrapL [1, 5, 1, 5] l) (wrapL [1, 5] li) (wrapK 5 now)).2) 3) ∧ w'.heap[p]? = some (.cells (A4 (tpF (wrapL [1, 5, 1, 5] l) (wrapL [1, 5] li) (wrapK 5 now)).1) 73) ∧ w.grownBy w' (some p) := by
    intro p b w hp hb hne
    rw [e] at hp ⊢
    rw [e'] at hb ⊢
    exact tp_step p b 73 _ _ _ _ _ _ _ (bitK a0) (timK a1).1 (timK a1).2 (bitK a2) (timK a3).1 (timK a3).2 (bitK c0) (timK c1).1 (timK c1).2 (timK now).1 (timK now).2 w hp hb hne
  have hsv : ∀ (p : Nat) (w : World), w.heap[p]? = some (.cells (A4 (tpF (wrapL [1, 5, 1, 5] l) (wrapL [1, 5] li) (wrapK 5 now)).1) 73) → Calls Try.prog 45 #[.pointer (some ⟨p, 0, none⟩)] w fun e w' => e = .returned (.slice (some ⟨w.heap.size, 0, none⟩) 4 4) ∧ w'.heap[w.heap.size]? = some (.cells (intsA (tpF (wrapL [1, 5, 1, 5] l) (wrapL [1, 5] li) (wrapK 5 now)).1) 3) ∧ w.grownBy w' none := by
    intro p w hp
    rw [e, e'] at hp ⊢
    obtain ⟨n0, n1, n2, n3, hf, h0, h2⟩ := tp_form (wrapK 1 a0) (wrapK 5 a1) (wrapK 1 a2) (wrapK 5 a3) (wrapK 1 c0) (wrapK 5 c1) (wrapK 5 now) (bitK a0) (bitK a2) (bitK c0)
    rw [hf] at hp ⊢
    exact save_t p 73 n0 n1 n2 n3 h0 h2 w hp
  exact step_gen tpName 72 73 60 44 61 45 #[.bool false, .int .i64 0, .bool false, .int .i64 0] tpI tpO tpS A4 tpF vs vi l li now w (by decide) (by decide) named_tp
    (fun _ _ => by kernel_rfl) (fun _ _ => by kernel_rfl) (fun _ _ => by kernel_rfl) (fun _ _ => by kernel_rfl) (fun _ _ => by kernel_rfl) (fun _ _ => by kernel_rfl)
    (fun _ _ => by kernel_rfl) (fun _ _ => by kernel_rfl) (fun _ _ => by kernel_rfl) (fun _ _ => by kernel_rfl)
    shape_tp (fun p b w hp hb hne => load_t p b 73 l w hp hb hne) hst hsv hr hri

end Go.Proofs.Ytphnadhkoigegaa
