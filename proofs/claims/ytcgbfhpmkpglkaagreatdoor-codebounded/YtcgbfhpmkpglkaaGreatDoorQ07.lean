/- Texts put together: BlL1, BlH4, BlL2. -/
import Derived.Test.YtcgbfhpmkpglkaaGreatDoorQ05
import Derived.Test.YtcgbfhpmkpglkaaGreatDoorQ06
import Derived.OpenShut
/- Step at ton, tof, tp. -/
namespace Go.Proofs.YtcgbfhpmkpglkaaGreatDoor.Bl
open Go.RowKit

set_option linter.unusedVariables false
set_option linter.unusedSimpArgs false
theorem load_t (p b T : Nat) (l : List Int) (w : World) (hp : w.heap[p]? = some (.cells #[.bool false, .int .i64 0, .bool false, .int .i64 0] T)) (hb : w.heap[b]? = some (.cells (intsA (wrapL [1, 5, 1, 5] l)) 3)) (hne : p ≠ b) :
    Calls Tryz.prog 114 #[.pointer (some ⟨p, 0, none⟩), .slice (some ⟨b, 0, none⟩) 4 4] w fun e w' => e = .returned (.tuple #[]) ∧ w'.heap[p]? = some (.cells (A4 (wrapL [1, 5, 1, 5] l)) T) ∧ w.grownBy w' (some p) := by
  obtain ⟨a0, a1, a2, a3, e⟩ := form4 1 5 1 5 l
  rw [e] at hb ⊢
  exact load_timer p b T 3 _ _ _ _ _ _ _ _ w hp hb hne
theorem save_t (p T : Nat) (n0 n1 n2 n3 : Int) (h0 : n0 = 0 ∨ n0 = 1) (h2 : n2 = 0 ∨ n2 = 1) (w : World) (hp : w.heap[p]? = some (.cells (A4 [n0, n1, n2, n3]) T)) :
    Calls Tryz.prog 115 #[.pointer (some ⟨p, 0, none⟩)] w fun e w' => e = .returned (.slice (some ⟨w.heap.size, 0, none⟩) 4 4) ∧ w'.heap[w.heap.size]? = some (.cells (intsA [n0, n1, n2, n3]) 3) ∧ w.grownBy w' none := by
  have h := save_timer p T n1 n3 (n0 != 0) (n2 != 0) w hp
  rw [yes_bit h0, yes_bit h2] at h
  exact h

theorem ton_step (p b T : Nat) (x0 x1 x2 x3 i0 i1 now : Int) (h_x0 : x0 = 0 ∨ x0 = 1) (l_x1 : 0 ≤ x1) (u_x1 : x1 ≤ 4294967295) (h_x2 : x2 = 0 ∨ x2 = 1) (l_x3 : 0 ≤ x3) (u_x3 : x3 ≤ 4294967295) (h_i0 : i0 = 0 ∨ i0 = 1) (l_i1 : 0 ≤ i1) (u_i1 : i1 ≤ 4294967295) (l_now : 0 ≤ now) (u_now : now ≤ 4294967295) (w : World)
    (hp : w.heap[p]? = some (.cells (A4 [x0, x1, x2, x3]) T)) (hb : w.heap[b]? = some (.cells (intsA [i0, i1]) 3)) (hne : p ≠ b) :
    Calls Tryz.prog 117 #[.pointer (some ⟨p, 0, none⟩), .slice (some ⟨b, 0, none⟩) 2 2, .int .i64 now] w fun e w' => e = .returned (.slice (some ⟨w.heap.size, 0, none⟩) 2 2) ∧ w'.heap[w.heap.size]? = some (.cells (intsA (tonF [x0, x1, x2, x3] [i0, i1] now).2) 3) ∧ w'.heap[p]? = some (.cells (A4 (tonF [x0, x1, x2, x3] [i0, i1] now).1) T) ∧ w.grownBy w' (some p) := by
  rcases h_i0 with rfl | rfl
  · exact (ton_1 p b T (x0 != 0) (x2 != 0) x1 x3 0 i1 now w hp hb hne rfl).mono fun e w' ⟨a1, a2, a3, a4⟩ => ⟨a1, a2, a3, a4⟩
  · rcases h_x0 with rfl | rfl
    · exact (ton_4 p b T (x2 != 0) x1 x3 1 i1 now w hp hb hne rfl l_now u_now).mono fun e w' ⟨a1, a2, a3, a4⟩ => ⟨a1, a2, a3.trans (by simp [tonF, A4, yesN_ne]), a4⟩
    · rcases h_x2 with rfl | rfl
      · exact (ton_3 p b T x1 x3 1 i1 now w hp hb hne rfl l_x1 u_x1 l_now u_now).mono fun e w' ⟨a1, a2, a3, a4⟩ => ⟨a1, a2, a3.trans (by simp [tonF, A4, yesN_ne]), a4⟩
      · exact (ton_2 p b T x1 x3 1 i1 now w hp hb hne rfl).mono fun e w' ⟨a1, a2, a3, a4⟩ => ⟨a1, a2, a3, a4⟩

theorem ton_form (x0 x1 x2 x3 i0 i1 now : Int) (h_x0 : x0 = 0 ∨ x0 = 1) (h_x2 : x2 = 0 ∨ x2 = 1) (h_i0 : i0 = 0 ∨ i0 = 1) :
    ∃ n0 n1 n2 n3, (tonF [x0, x1, x2, x3] [i0, i1] now).1 = [n0, n1, n2, n3] ∧ (n0 = 0 ∨ n0 = 1) ∧ (n2 = 0 ∨ n2 = 1) := by
  rcases h_x0 with rfl | rfl <;> rcases h_x2 with rfl | rfl <;> rcases h_i0 with rfl | rfl <;> exact ⟨_, _, _, _, rfl, by simp, by first | exact bit_yes _ | simp⟩
theorem stepC_ton : StepC tonName 4 2 [1, 5, 1, 5] [1, 5] tonF := by
  intro vs vi l li now w hr hri
  obtain ⟨a0, a1, a2, a3, e⟩ := form4 1 5 1 5 l
  obtain ⟨c0, c1, e'⟩ := form2 1 5 li
  have hst : ∀ (p b : Nat) (w : World), w.heap[p]? = some (.cells (A4 (wrapL [1, 5, 1, 5] l)) 147) → w.heap[b]? = some (.cells (intsA (wrapL [1, 5] li)) 3) → p ≠ b → Calls Tryz.prog 117 #[.pointer (some ⟨p, 0, none⟩), .slice (some ⟨b, 0, none⟩) 2 2, .int .i64 (wrapK 5 now)] w fun e w' => e = .returned (.slice (some ⟨w.heap.size, 0, none⟩) 2 2) ∧ w'.heap[w.heap.size]? = some (.cells (intsA (tonF (wrapL [1, 5, 1, 5] l) (wrapL [1, 5] li) (wrapK 5 now)).2) 3) ∧ w'.heap[p]? = some (.cells (A4 (tonF (wrapL [1, 5, 1, 5] l) (wrapL [1, 5] li) (wrapK 5 now)).1) 147) ∧ w.grownBy w' (some p) := by
    intro p b w hp hb hne
    rw [e] at hp ⊢
    rw [e'] at hb ⊢
    exact ton_step p b 147 _ _ _ _ _ _ _ (bitK a0) (timK a1).1 (timK a1).2 (bitK a2) (timK a3).1 (timK a3).2 (bitK c0) (timK c1).1 (timK c1).2 (timK now).1 (timK now).2 w hp hb hne
  have hsv : ∀ (p : Nat) (w : World), w.heap[p]? = some (.cells (A4 (tonF (wrapL [1, 5, 1, 5] l) (wrapL [1, 5] li) (wrapK 5 now)).1) 147) → Calls Tryz.prog 115 #[.pointer (some ⟨p, 0, none⟩)] w fun e w' => e = .returned (.slice (some ⟨w.heap.size, 0, none⟩) 4 4) ∧ w'.heap[w.heap.size]? = some (.cells (intsA (tonF (wrapL [1, 5, 1, 5] l) (wrapL [1, 5] li) (wrapK 5 now)).1) 3) ∧ w.grownBy w' none := by
    intro p w hp
    rw [e, e'] at hp ⊢
    obtain ⟨n0, n1, n2, n3, hf, h0, h2⟩ := ton_form (wrapK 1 a0) (wrapK 5 a1) (wrapK 1 a2) (wrapK 5 a3) (wrapK 1 c0) (wrapK 5 c1) (wrapK 5 now) (bitK a0) (bitK a2) (bitK c0)
    rw [hf] at hp ⊢
    exact save_t p 147 n0 n1 n2 n3 h0 h2 w hp
  exact step_gen tonName 143 147 116 114 117 115 #[.bool false, .int .i64 0, .bool false, .int .i64 0] tonI tonO tonS A4 tonF vs vi l li now w (by decide) (by decide) named_ton
    (fun _ _ => by kernel_rfl) (fun _ _ => by kernel_rfl) (fun _ _ => by kernel_rfl) (fun _ _ => by kernel_rfl) (fun _ _ => by kernel_rfl) (fun _ _ => by kernel_rfl)
    (fun _ _ => by kernel_rfl) (fun _ _ => by kernel_rfl) (fun _ _ => by kernel_rfl) (fun _ _ => by kernel_rfl)
    shape_ton (fun p b w hp hb hne => load_t p b 147 l w hp hb hne) hst hsv hr hri

theorem tof_step (p b T : Nat) (x0 x1 x2 x3 i0 i1 now : Int) (h_x0 : x0 = 0 ∨ x0 = 1) (l_x1 : 0 ≤ x1) (u_x1 : x1 ≤ 4294967295) (h_x2 : x2 = 0 ∨ x2 = 1) (l_x3 : 0 ≤ x3) (u_x3 : x3 ≤ 4294967295) (h_i0 : i0 = 0 ∨ i0 = 1) (l_i1 : 0 ≤ i1) (u_i1 : i1 ≤ 4294967295) (l_now : 0 ≤ now) (u_now : now ≤ 4294967295) (w : World)
    (hp : w.heap[p]? = some (.cells (A4 [x0, x1, x2, x3]) T)) (hb : w.heap[b]? = some (.cells (intsA [i0, i1]) 3)) (hne : p ≠ b) :
    Calls Tryz.prog 127 #[.pointer (some ⟨p, 0, none⟩), .slice (some ⟨b, 0, none⟩) 2 2, .int .i64 now] w fun e w' => e = .returned (.slice (some ⟨w.heap.size, 0, none⟩) 2 2) ∧ w'.heap[w.heap.size]? = some (.cells (intsA (tofF [x0, x1, x2, x3] [i0, i1] now).2) 3) ∧ w'.heap[p]? = some (.cells (A4 (tofF [x0, x1, x2, x3] [i0, i1] now).1) T) ∧ w.grownBy w' (some p) := by
  rcases h_i0 with rfl | rfl
  · rcases h_x2 with rfl | rfl
    · refine (tof_2 p b T (x0 != 0) x1 x3 0 i1 now w hp hb hne rfl).mono fun e w' ⟨a1, a2, a3, a4⟩ => ⟨a1, a2, a3, a4⟩
    · rcases h_x0 with rfl | rfl
      · by_cases ho : i1 ≤ goneN now now
        · exact (tof_ny p b T x1 x3 0 i1 now w hp hb hne rfl l_now u_now (by simpa using ho)).mono fun e w' ⟨a1, a2, a3, a4⟩ => ⟨a1, a2.trans (by simp [tofF, intsA, ho]), a3.trans (by simp [tofF, A4, ho]), a4⟩
        · exact (tof_nn p b T x1 x3 0 i1 now w hp hb hne rfl l_now u_now (by simpa using ho)).mono fun e w' ⟨a1, a2, a3, a4⟩ => ⟨a1, a2.trans (by simp [tofF, intsA, ho]), a3.trans (by simp [tofF, A4, ho]), a4⟩
      · by_cases ho : i1 ≤ goneN now x1
        · exact (tof_ry p b T x1 x3 0 i1 now w hp hb hne rfl l_x1 u_x1 l_now u_now (by simpa using ho)).mono fun e w' ⟨a1, a2, a3, a4⟩ => ⟨a1, a2.trans (by simp [tofF, intsA, ho]), a3.trans (by simp [tofF, A4, ho]), a4⟩
        · exact (tof_rn p b T x1 x3 0 i1 now w hp hb hne rfl l_x1 u_x1 l_now u_now (by simpa using ho)).mono fun e w' ⟨a1, a2, a3, a4⟩ => ⟨a1, a2.trans (by simp [tofF, intsA, ho]), a3.trans (by simp [tofF, A4, ho]), a4⟩
  · exact (tof_1 p b T (x0 != 0) (x2 != 0) x1 x3 1 i1 now w hp hb hne rfl).mono fun e w' ⟨a1, a2, a3, a4⟩ => ⟨a1, a2, a3, a4⟩

theorem tof_form (x0 x1 x2 x3 i0 i1 now : Int) (h_x0 : x0 = 0 ∨ x0 = 1) (h_x2 : x2 = 0 ∨ x2 = 1) (h_i0 : i0 = 0 ∨ i0 = 1) :
    ∃ n0 n1 n2 n3, (tofF [x0, x1, x2, x3] [i0, i1] now).1 = [n0, n1, n2, n3] ∧ (n0 = 0 ∨ n0 = 1) ∧ (n2 = 0 ∨ n2 = 1) := by
  rcases h_i0 with rfl | rfl
  · rcases h_x2 with rfl | rfl
    · exact ⟨_, _, _, _, rfl, h_x0, by simp⟩
    · by_cases ho : i1 ≤ goneN now (if x0 = 0 then now else x1)
      · exact ⟨0, 0, 0, min (goneN now (if x0 = 0 then now else x1)) i1, by simp [tofF, ho], by simp, by simp⟩
      · exact ⟨1, if x0 = 0 then now else x1, 1, min (goneN now (if x0 = 0 then now else x1)) i1, by simp [tofF, ho], by simp, by simp⟩
  · exact ⟨_, _, _, _, rfl, by simp, by simp⟩
theorem stepC_tof : StepC tofName 4 2 [1, 5, 1, 5] [1, 5] tofF := by
  intro vs vi l li now w hr hri
  obtain ⟨a0, a1, a2, a3, e⟩ := form4 1 5 1 5 l
  obtain ⟨c0, c1, e'⟩ := form2 1 5 li
  have hst : ∀ (p b : Nat) (w : World), w.heap[p]? = some (.cells (A4 (wrapL [1, 5, 1, 5] l)) 149) → w.heap[b]? = some (.cells (intsA (wrapL [1, 5] li)) 3) → p ≠ b → Calls Tryz.prog 127 #[.pointer (some ⟨p, 0, none⟩), .slice (some ⟨b, 0, none⟩) 2 2, .int .i64 (wrapK 5 now)] w fun e w' => e = .returned (.slice (some ⟨w.heap.size, 0, none⟩) 2 2) ∧ w'.heap[w.heap.size]? = some (.cells (intsA (tofF (wrapL [1, 5, 1, 5] l) (wrapL [1, 5] li) (wrapK 5 now)).2) 3) ∧ w'.heap[p]? = some (.cells (A4 (tofF (wrapL [1, 5, 1, 5] l) (wrapL [1, 5] li) (wrapK 5 now)).1) 149) ∧ w.grownBy w' (some p) := by
    intro p b w hp hb hne
    rw [e] at hp ⊢
    rw [e'] at hb ⊢
    exact tof_step p b 149 _ _ _ _ _ _ _ (bitK a0) (timK a1).1 (timK a1).2 (bitK a2) (timK a3).1 (timK a3).2 (bitK c0) (timK c1).1 (timK c1).2 (timK now).1 (timK now).2 w hp hb hne
  have hsv : ∀ (p : Nat) (w : World), w.heap[p]? = some (.cells (A4 (tofF (wrapL [1, 5, 1, 5] l) (wrapL [1, 5] li) (wrapK 5 now)).1) 149) → Calls Tryz.prog 115 #[.pointer (some ⟨p, 0, none⟩)] w fun e w' => e = .returned (.slice (some ⟨w.heap.size, 0, none⟩) 4 4) ∧ w'.heap[w.heap.size]? = some (.cells (intsA (tofF (wrapL [1, 5, 1, 5] l) (wrapL [1, 5] li) (wrapK 5 now)).1) 3) ∧ w.grownBy w' none := by
    intro p w hp
    rw [e, e'] at hp ⊢
    obtain ⟨n0, n1, n2, n3, hf, h0, h2⟩ := tof_form (wrapK 1 a0) (wrapK 5 a1) (wrapK 1 a2) (wrapK 5 a3) (wrapK 1 c0) (wrapK 5 c1) (wrapK 5 now) (bitK a0) (bitK a2) (bitK c0)
    rw [hf] at hp ⊢
    exact save_t p 149 n0 n1 n2 n3 h0 h2 w hp
  exact step_gen tofName 148 149 126 114 127 115 #[.bool false, .int .i64 0, .bool false, .int .i64 0] tofI tofO tofS A4 tofF vs vi l li now w (by decide) (by decide) named_tof
    (fun _ _ => by kernel_rfl) (fun _ _ => by kernel_rfl) (fun _ _ => by kernel_rfl) (fun _ _ => by kernel_rfl) (fun _ _ => by kernel_rfl) (fun _ _ => by kernel_rfl)
    (fun _ _ => by kernel_rfl) (fun _ _ => by kernel_rfl) (fun _ _ => by kernel_rfl) (fun _ _ => by kernel_rfl)
    shape_tof (fun p b w hp hb hne => load_t p b 149 l w hp hb hne) hst hsv hr hri

theorem tp_step (p b T : Nat) (x0 x1 x2 x3 i0 i1 now : Int) (h_x0 : x0 = 0 ∨ x0 = 1) (l_x1 : 0 ≤ x1) (u_x1 : x1 ≤ 4294967295) (h_x2 : x2 = 0 ∨ x2 = 1) (l_x3 : 0 ≤ x3) (u_x3 : x3 ≤ 4294967295) (h_i0 : i0 = 0 ∨ i0 = 1) (l_i1 : 0 ≤ i1) (u_i1 : i1 ≤ 4294967295) (l_now : 0 ≤ now) (u_now : now ≤ 4294967295) (w : World)
    (hp : w.heap[p]? = some (.cells (A4 [x0, x1, x2, x3]) T)) (hb : w.heap[b]? = some (.cells (intsA [i0, i1]) 3)) (hne : p ≠ b) :
    Calls Tryz.prog 131 #[.pointer (some ⟨p, 0, none⟩), .slice (some ⟨b, 0, none⟩) 2 2, .int .i64 now] w fun e w' => e = .returned (.slice (some ⟨w.heap.size, 0, none⟩) 2 2) ∧ w'.heap[w.heap.size]? = some (.cells (intsA (tpF [x0, x1, x2, x3] [i0, i1] now).2) 3) ∧ w'.heap[p]? = some (.cells (A4 (tpF [x0, x1, x2, x3] [i0, i1] now).1) T) ∧ w.grownBy w' (some p) := by
  rcases h_x0 with rfl | rfl
  · rcases h_i0 with rfl | rfl
    · exact (tp_zero p b T (x2 != 0) x1 x3 0 i1 now w hp hb hne rfl).mono fun e w' ⟨a1, a2, a3, a4⟩ => ⟨a1, a2, a3, a4⟩
    · rcases h_x2 with rfl | rfl
      · by_cases ho : i1 ≤ goneN now now
        · exact (tp_ny p b T x1 x3 1 i1 now w hp hb hne rfl l_now u_now (by simpa using ho)).mono fun e w' ⟨a1, a2, a3, a4⟩ => ⟨a1, a2.trans (by simp [tpF, outF, intsA, ho]), a3.trans (by simp [tpF, outF, A4, ho]), a4⟩
        · exact (tp_nn p b T x1 x3 1 i1 now w hp hb hne rfl l_now u_now (by simpa using ho)).mono fun e w' ⟨a1, a2, a3, a4⟩ => ⟨a1, a2.trans (by simp [tpF, outF, intsA, ho]), a3.trans (by simp [tpF, outF, A4, ho]), a4⟩
      · exact (tp_keep p b T x1 x3 1 i1 now w hp hb hne rfl).mono fun e w' ⟨a1, a2, a3, a4⟩ => ⟨a1, a2, a3, a4⟩
  · rcases h_i0 with rfl | rfl <;> rcases h_x2 with rfl | rfl
    · by_cases ho : i1 ≤ goneN now x1
      · exact (tp_rffy p b T x1 x3 0 i1 now w hp hb hne rfl l_x1 u_x1 l_now u_now (by simpa using ho)).mono fun e w' ⟨a1, a2, a3, a4⟩ => ⟨a1, a2.trans (by simp [tpF, outF, intsA, ho]), a3.trans (by simp [tpF, outF, A4, ho]), a4⟩
      · exact (tp_rffn p b T x1 x3 0 i1 now w hp hb hne rfl l_x1 u_x1 l_now u_now (by simpa using ho)).mono fun e w' ⟨a1, a2, a3, a4⟩ => ⟨a1, a2.trans (by simp [tpF, outF, intsA, ho]), a3.trans (by simp [tpF, outF, A4, ho]), a4⟩
    · by_cases ho : i1 ≤ goneN now x1
      · exact (tp_rfty p b T x1 x3 0 i1 now w hp hb hne rfl l_x1 u_x1 l_now u_now (by simpa using ho)).mono fun e w' ⟨a1, a2, a3, a4⟩ => ⟨a1, a2.trans (by simp [tpF, outF, intsA, ho]), a3.trans (by simp [tpF, outF, A4, ho]), a4⟩
      · exact (tp_rftn p b T x1 x3 0 i1 now w hp hb hne rfl l_x1 u_x1 l_now u_now (by simpa using ho)).mono fun e w' ⟨a1, a2, a3, a4⟩ => ⟨a1, a2.trans (by simp [tpF, outF, intsA, ho]), a3.trans (by simp [tpF, outF, A4, ho]), a4⟩
    · by_cases ho : i1 ≤ goneN now x1
      · exact (tp_rtfy p b T x1 x3 1 i1 now w hp hb hne rfl l_x1 u_x1 l_now u_now (by simpa using ho)).mono fun e w' ⟨a1, a2, a3, a4⟩ => ⟨a1, a2.trans (by simp [tpF, outF, intsA, ho]), a3.trans (by simp [tpF, outF, A4, ho]), a4⟩
      · exact (tp_rtfn p b T x1 x3 1 i1 now w hp hb hne rfl l_x1 u_x1 l_now u_now (by simpa using ho)).mono fun e w' ⟨a1, a2, a3, a4⟩ => ⟨a1, a2.trans (by simp [tpF, outF, intsA, ho]), a3.trans (by simp [tpF, outF, A4, ho]), a4⟩
    · by_cases ho : i1 ≤ goneN now x1
      · exact (tp_rtty p b T x1 x3 1 i1 now w hp hb hne rfl l_x1 u_x1 l_now u_now (by simpa using ho)).mono fun e w' ⟨a1, a2, a3, a4⟩ => ⟨a1, a2.trans (by simp [tpF, outF, intsA, ho]), a3.trans (by simp [tpF, outF, A4, ho]), a4⟩
      · exact (tp_rttn p b T x1 x3 1 i1 now w hp hb hne rfl l_x1 u_x1 l_now u_now (by simpa using ho)).mono fun e w' ⟨a1, a2, a3, a4⟩ => ⟨a1, a2.trans (by simp [tpF, outF, intsA, ho]), a3.trans (by simp [tpF, outF, A4, ho]), a4⟩

theorem tp_form (x0 x1 x2 x3 i0 i1 now : Int) (h_x0 : x0 = 0 ∨ x0 = 1) (h_x2 : x2 = 0 ∨ x2 = 1) (h_i0 : i0 = 0 ∨ i0 = 1) :
    ∃ n0 n1 n2 n3, (tpF [x0, x1, x2, x3] [i0, i1] now).1 = [n0, n1, n2, n3] ∧ (n0 = 0 ∨ n0 = 1) ∧ (n2 = 0 ∨ n2 = 1) := by
  unfold tpF outF
  simp only []
  repeat' split
  all_goals exact ⟨_, _, _, _, rfl, by simp, by first | assumption | simp⟩
theorem stepC_tp : StepC tpName 4 2 [1, 5, 1, 5] [1, 5] tpF := by
  intro vs vi l li now w hr hri
  obtain ⟨a0, a1, a2, a3, e⟩ := form4 1 5 1 5 l
  obtain ⟨c0, c1, e'⟩ := form2 1 5 li
  have hst : ∀ (p b : Nat) (w : World), w.heap[p]? = some (.cells (A4 (wrapL [1, 5, 1, 5] l)) 151) → w.heap[b]? = some (.cells (intsA (wrapL [1, 5] li)) 3) → p ≠ b → Calls Tryz.prog 131 #[.pointer (some ⟨p, 0, none⟩), .slice (some ⟨b, 0, none⟩) 2 2, .int .i64 (wrapK 5 now)] w fun e w' => e = .returned (.slice (some ⟨w.heap.size, 0, none⟩) 2 2) ∧ w'.heap[w.heap.size]? = some (.cells (intsA (tpF (wrapL [1, 5, 1, 5] l) (wrapL [1, 5] li) (wrapK 5 now)).2) 3) ∧ w'.heap[p]? = some (.cells (A4 (tpF (wrapL [1, 5, 1, 5] l) (wrapL [1, 5] li) (wrapK 5 now)).1) 151) ∧ w.grownBy w' (some p) := by
    intro p b w hp hb hne
    rw [e] at hp ⊢
    rw [e'] at hb ⊢
    exact tp_step p b 151 _ _ _ _ _ _ _ (bitK a0) (timK a1).1 (timK a1).2 (bitK a2) (timK a3).1 (timK a3).2 (bitK c0) (timK c1).1 (timK c1).2 (timK now).1 (timK now).2 w hp hb hne
  have hsv : ∀ (p : Nat) (w : World), w.heap[p]? = some (.cells (A4 (tpF (wrapL [1, 5, 1, 5] l) (wrapL [1, 5] li) (wrapK 5 now)).1) 151) → Calls Tryz.prog 115 #[.pointer (some ⟨p, 0, none⟩)] w fun e w' => e = .returned (.slice (some ⟨w.heap.size, 0, none⟩) 4 4) ∧ w'.heap[w.heap.size]? = some (.cells (intsA (tpF (wrapL [1, 5, 1, 5] l) (wrapL [1, 5] li) (wrapK 5 now)).1) 3) ∧ w.grownBy w' none := by
    intro p w hp
    rw [e, e'] at hp ⊢
    obtain ⟨n0, n1, n2, n3, hf, h0, h2⟩ := tp_form (wrapK 1 a0) (wrapK 5 a1) (wrapK 1 a2) (wrapK 5 a3) (wrapK 1 c0) (wrapK 5 c1) (wrapK 5 now) (bitK a0) (bitK a2) (bitK c0)
    rw [hf] at hp ⊢
    exact save_t p 151 n0 n1 n2 n3 h0 h2 w hp
  exact step_gen tpName 150 151 130 114 131 115 #[.bool false, .int .i64 0, .bool false, .int .i64 0] tpI tpO tpS A4 tpF vs vi l li now w (by decide) (by decide) named_tp
    (fun _ _ => by kernel_rfl) (fun _ _ => by kernel_rfl) (fun _ _ => by kernel_rfl) (fun _ _ => by kernel_rfl) (fun _ _ => by kernel_rfl) (fun _ _ => by kernel_rfl)
    (fun _ _ => by kernel_rfl) (fun _ _ => by kernel_rfl) (fun _ _ => by kernel_rfl) (fun _ _ => by kernel_rfl)
    shape_tp (fun p b w hp hb hne => load_t p b 151 l w hp hb hne) hst hsv hr hri

end Go.Proofs.YtcgbfhpmkpglkaaGreatDoor.Bl

/- ctu, ctd: their steps. -/
namespace Go.Proofs.YtcgbfhpmkpglkaaGreatDoor.Bl
open Go.RowKit
attribute [local go_sem ↓] Go.wp_at_zero Go.wp_at_succ
set_option linter.unusedVariables false

set_option maxHeartbeats 1000000 in
theorem rises_any (p : Nat) (x P u : Bool) (w : World) (d0 : w.cell? ⟨p, 0, none⟩ = some (.bool P)) (f0 : w.frozen? ⟨p, 0, none⟩ = false) (hu : (x && !P) = u) :
    Calls Tryz.prog 133 #[.pointer (some ⟨p, 0, none⟩), .bool x] w fun e w' => e = .returned (.bool u) ∧ w' = w.setCell ⟨p, 0, none⟩ (.bool x) := by
  subst hu
  cases x <;> cases P
  all_goals
    go_enter Tryz.func133, Tryz.ntmps133
    go_wp2
    go_ret
    exact ⟨rfl, rfl⟩

set_option maxHeartbeats 1000000 in
theorem ctu_set (p b T : Nat) (P u : Bool) (n i0 i1 pv now : Int) (w : World) (hp : w.heap[p]? = some (.cells #[.bool P, .int .i64 n] T)) (hb : w.heap[b]? = some (.cells #[.int .i64 i0, .int .i64 i1, .int .i64 pv] 3)) (hne : p ≠ b) (h1 : (i1 != 0) = true) (hu : ((i0 != 0) && !P) = u) (hc0 : -32768 ≤ n) (hc1 : n ≤ 32767) :
    Calls Tryz.prog 136 #[.pointer (some ⟨p, 0, none⟩), .slice (some ⟨b, 0, none⟩) 3 3, .int .i64 now] w fun e w' => e = .returned (.slice (some ⟨w.heap.size, 0, none⟩) 2 2) ∧ w'.heap[w.heap.size]? = some (.cells #[.int .i64 (yesN (decide (pv ≤ 0))), .int .i64 0] 3) ∧ w'.heap[p]? = some (.cells #[.bool (i0 != 0), .int .i64 0] T) ∧ w.grownBy w' (some p) := by
  have hpl := at_lt hp
  have c0 := at_cell hb 0
  have c1 := at_cell hb 1
  have c2 := at_cell hb 2
  have d0 := at_cell hp 0
  have f0 := at_frozen hp 0
  have d1 := at_cell hp 1
  have f1 := at_frozen hp 1
  simp at c0 c1 c2 d0 d1
  obtain ⟨q, hq⟩ : ∃ q, decide (pv ≤ 0) = q := ⟨_, rfl⟩
  rw [hq]
  go_enter Tryz.func136, Tryz.ntmps136
  go_wp2
  go_region_held3 (fun w' => w'.cell? ⟨b, 0, none⟩ = some (.int .i64 i0) ∧ w'.cell? ⟨b, 1, none⟩ = some (.int .i64 i1) ∧ w'.cell? ⟨b, 2, none⟩ = some (.int .i64 pv)) (refine ⟨?_, ?_, ?_⟩ <;> (focus ((repeat (first | with_reducible refine ck_drew ?_ | with_reducible refine ck_old (by first | with_reducible assumption | (simp; assumption)) ?_)); (first | go_cell_look | (simp [*]; done) | go_cell)))) (first | (go_at_call 119; refine (truth_any _ _).mono ?_; rintro e w' ⟨rfl, rfl⟩) | (go_at_call 133; refine (rises_any p _ P u _ ?_ ?_ ?_).mono ?_; (focus ((repeat (first | with_reducible refine ck_drew ?_ | with_reducible refine ck_old (by first | with_reducible assumption | (simp; assumption)) ?_)); (first | go_cell_look | (simp [*]; done) | go_cell))); (focus (first | (simp [*]; done) | (go_simp; done))); (exact hu); rintro e w' ⟨rfl, rfl⟩))
  go_wp2_with (first | (go_at_call 138; refine (more_any n _ hc0 hc1).mono ?_; rintro e w' ⟨rfl, rfl⟩))
  go_region_held3 (fun w' => w'.cell? ⟨p, 1, none⟩ = some (.int .i64 0)) ((focus ((repeat (first | with_reducible refine ck_drew ?_ | with_reducible refine ck_old (by first | with_reducible assumption | (simp; assumption)) ?_)); (first | go_cell_look | (simp [*]; done) | go_cell)))) (first | (go_at_call 120; refine (word_any _ _).mono ?_; rintro e w' ⟨rfl, rfl⟩))
  go_wp2
  all_goals go_ret
  all_goals refine ⟨rfl, ?_, ?_, ?_⟩
  · repeat (with_reducible refine (hp_drew _ _).trans ?_)
    exact hp_new (by simp) _
  · repeat (with_reducible refine (hp_drew _ _).trans ?_)
    refine (hp_old (by first | with_reducible exact hpl | (simp; exact hpl)) _).trans ?_
    repeat (with_reducible refine (hp_drew _ _).trans ?_)
    apply Eq.trans
    · repeat (first | with_reducible exact hp | apply at_set)
    · simp
  · repeat (first | with_reducible exact World.grownBy.refl _ _ | with_reducible apply gr_set | with_reducible apply gr_alloc | with_reducible apply gr_drew)

set_option maxHeartbeats 1000000 in
theorem ctu_up (p b T : Nat) (P : Bool) (n i0 i1 pv now : Int) (w : World) (hp : w.heap[p]? = some (.cells #[.bool P, .int .i64 n] T)) (hb : w.heap[b]? = some (.cells #[.int .i64 i0, .int .i64 i1, .int .i64 pv] 3)) (hne : p ≠ b) (h1 : (i1 != 0) = false) (hu : ((i0 != 0) && !P) = true) (hc0 : -32768 ≤ n) (hc1 : n ≤ 32767) :
    Calls Tryz.prog 136 #[.pointer (some ⟨p, 0, none⟩), .slice (some ⟨b, 0, none⟩) 3 3, .int .i64 now] w fun e w' => e = .returned (.slice (some ⟨w.heap.size, 0, none⟩) 2 2) ∧ w'.heap[w.heap.size]? = some (.cells #[.int .i64 (yesN (decide (pv ≤ (moreN n)))), .int .i64 (moreN n)] 3) ∧ w'.heap[p]? = some (.cells #[.bool (i0 != 0), .int .i64 (moreN n)] T) ∧ w.grownBy w' (some p) := by
  have hpl := at_lt hp
  have c0 := at_cell hb 0
  have c1 := at_cell hb 1
  have c2 := at_cell hb 2
  have d0 := at_cell hp 0
  have f0 := at_frozen hp 0
  have d1 := at_cell hp 1
  have f1 := at_frozen hp 1
  simp at c0 c1 c2 d0 d1
  obtain ⟨k, hk⟩ : ∃ k, moreN n = k := ⟨_, rfl⟩
  rw [hk]
  obtain ⟨q, hq⟩ : ∃ q, decide (pv ≤ k) = q := ⟨_, rfl⟩
  rw [hq]
  go_enter Tryz.func136, Tryz.ntmps136
  go_wp2
  go_region_held3 (fun w' => w'.cell? ⟨b, 0, none⟩ = some (.int .i64 i0) ∧ w'.cell? ⟨b, 1, none⟩ = some (.int .i64 i1) ∧ w'.cell? ⟨b, 2, none⟩ = some (.int .i64 pv)) (refine ⟨?_, ?_, ?_⟩ <;> (focus ((repeat (first | with_reducible refine ck_drew ?_ | with_reducible refine ck_old (by first | with_reducible assumption | (simp; assumption)) ?_)); (first | go_cell_look | (simp [*]; done) | go_cell)))) (first | (go_at_call 119; refine (truth_any _ _).mono ?_; rintro e w' ⟨rfl, rfl⟩) | (go_at_call 133; refine (rises_any p _ P true _ ?_ ?_ ?_).mono ?_; (focus ((repeat (first | with_reducible refine ck_drew ?_ | with_reducible refine ck_old (by first | with_reducible assumption | (simp; assumption)) ?_)); (first | go_cell_look | (simp [*]; done) | go_cell))); (focus (first | (simp [*]; done) | (go_simp; done))); (exact hu); rintro e w' ⟨rfl, rfl⟩))
  go_wp2_with (first | (go_at_call 138; refine (more_any n _ hc0 hc1).mono ?_; rintro e w' ⟨rfl, rfl⟩))
  go_region_held3 (fun w' => w'.cell? ⟨p, 1, none⟩ = some (.int .i64 k)) ((focus ((repeat (first | with_reducible refine ck_drew ?_ | with_reducible refine ck_old (by first | with_reducible assumption | (simp; assumption)) ?_)); (first | go_cell_look | (simp [*]; done) | go_cell)))) (first | (go_at_call 120; refine (word_any _ _).mono ?_; rintro e w' ⟨rfl, rfl⟩))
  go_wp2
  all_goals go_ret
  all_goals refine ⟨rfl, ?_, ?_, ?_⟩
  · repeat (with_reducible refine (hp_drew _ _).trans ?_)
    exact hp_new (by simp) _
  · repeat (with_reducible refine (hp_drew _ _).trans ?_)
    refine (hp_old (by first | with_reducible exact hpl | (simp; exact hpl)) _).trans ?_
    repeat (with_reducible refine (hp_drew _ _).trans ?_)
    apply Eq.trans
    · repeat (first | with_reducible exact hp | apply at_set)
    · simp
  · repeat (first | with_reducible exact World.grownBy.refl _ _ | with_reducible apply gr_set | with_reducible apply gr_alloc | with_reducible apply gr_drew)

set_option maxHeartbeats 1000000 in
theorem ctu_no (p b T : Nat) (P : Bool) (n i0 i1 pv now : Int) (w : World) (hp : w.heap[p]? = some (.cells #[.bool P, .int .i64 n] T)) (hb : w.heap[b]? = some (.cells #[.int .i64 i0, .int .i64 i1, .int .i64 pv] 3)) (hne : p ≠ b) (h1 : (i1 != 0) = false) (hu : ((i0 != 0) && !P) = false) (hc0 : -32768 ≤ n) (hc1 : n ≤ 32767) :
    Calls Tryz.prog 136 #[.pointer (some ⟨p, 0, none⟩), .slice (some ⟨b, 0, none⟩) 3 3, .int .i64 now] w fun e w' => e = .returned (.slice (some ⟨w.heap.size, 0, none⟩) 2 2) ∧ w'.heap[w.heap.size]? = some (.cells #[.int .i64 (yesN (decide (pv ≤ n))), .int .i64 n] 3) ∧ w'.heap[p]? = some (.cells #[.bool (i0 != 0), .int .i64 n] T) ∧ w.grownBy w' (some p) := by
  have hpl := at_lt hp
  have c0 := at_cell hb 0
  have c1 := at_cell hb 1
  have c2 := at_cell hb 2
  have d0 := at_cell hp 0
  have f0 := at_frozen hp 0
  have d1 := at_cell hp 1
  have f1 := at_frozen hp 1
  simp at c0 c1 c2 d0 d1
  obtain ⟨q, hq⟩ : ∃ q, decide (pv ≤ n) = q := ⟨_, rfl⟩
  rw [hq]
  go_enter Tryz.func136, Tryz.ntmps136
  go_wp2
  go_region_held3 (fun w' => w'.cell? ⟨b, 0, none⟩ = some (.int .i64 i0) ∧ w'.cell? ⟨b, 1, none⟩ = some (.int .i64 i1) ∧ w'.cell? ⟨b, 2, none⟩ = some (.int .i64 pv)) (refine ⟨?_, ?_, ?_⟩ <;> (focus ((repeat (first | with_reducible refine ck_drew ?_ | with_reducible refine ck_old (by first | with_reducible assumption | (simp; assumption)) ?_)); (first | go_cell_look | (simp [*]; done) | go_cell)))) (first | (go_at_call 119; refine (truth_any _ _).mono ?_; rintro e w' ⟨rfl, rfl⟩) | (go_at_call 133; refine (rises_any p _ P false _ ?_ ?_ ?_).mono ?_; (focus ((repeat (first | with_reducible refine ck_drew ?_ | with_reducible refine ck_old (by first | with_reducible assumption | (simp; assumption)) ?_)); (first | go_cell_look | (simp [*]; done) | go_cell))); (focus (first | (simp [*]; done) | (go_simp; done))); (exact hu); rintro e w' ⟨rfl, rfl⟩))
  go_wp2_with (first | (go_at_call 138; refine (more_any n _ hc0 hc1).mono ?_; rintro e w' ⟨rfl, rfl⟩))
  go_region_held3 (fun w' => w'.cell? ⟨p, 1, none⟩ = some (.int .i64 n)) ((focus ((repeat (first | with_reducible refine ck_drew ?_ | with_reducible refine ck_old (by first | with_reducible assumption | (simp; assumption)) ?_)); (first | go_cell_look | (simp [*]; done) | go_cell)))) (first | (go_at_call 120; refine (word_any _ _).mono ?_; rintro e w' ⟨rfl, rfl⟩))
  go_wp2
  all_goals go_ret
  all_goals refine ⟨rfl, ?_, ?_, ?_⟩
  · repeat (with_reducible refine (hp_drew _ _).trans ?_)
    exact hp_new (by simp) _
  · repeat (with_reducible refine (hp_drew _ _).trans ?_)
    refine (hp_old (by first | with_reducible exact hpl | (simp; exact hpl)) _).trans ?_
    repeat (with_reducible refine (hp_drew _ _).trans ?_)
    apply Eq.trans
    · repeat (first | with_reducible exact hp | apply at_set)
    · simp
  · repeat (first | with_reducible exact World.grownBy.refl _ _ | with_reducible apply gr_set | with_reducible apply gr_alloc | with_reducible apply gr_drew)

set_option maxHeartbeats 1000000 in
theorem ctd_set (p b T : Nat) (P u : Bool) (n i0 i1 pv now : Int) (w : World) (hp : w.heap[p]? = some (.cells #[.bool P, .int .i64 n] T)) (hb : w.heap[b]? = some (.cells #[.int .i64 i0, .int .i64 i1, .int .i64 pv] 3)) (hne : p ≠ b) (h1 : (i1 != 0) = true) (hu : ((i0 != 0) && !P) = u) (hc0 : -32768 ≤ n) (hc1 : n ≤ 32767) :
    Calls Tryz.prog 141 #[.pointer (some ⟨p, 0, none⟩), .slice (some ⟨b, 0, none⟩) 3 3, .int .i64 now] w fun e w' => e = .returned (.slice (some ⟨w.heap.size, 0, none⟩) 2 2) ∧ w'.heap[w.heap.size]? = some (.cells #[.int .i64 (yesN (decide (pv ≤ 0))), .int .i64 pv] 3) ∧ w'.heap[p]? = some (.cells #[.bool (i0 != 0), .int .i64 pv] T) ∧ w.grownBy w' (some p) := by
  have hpl := at_lt hp
  have c0 := at_cell hb 0
  have c1 := at_cell hb 1
  have c2 := at_cell hb 2
  have d0 := at_cell hp 0
  have f0 := at_frozen hp 0
  have d1 := at_cell hp 1
  have f1 := at_frozen hp 1
  simp at c0 c1 c2 d0 d1
  obtain ⟨q, hq⟩ : ∃ q, decide (pv ≤ 0) = q := ⟨_, rfl⟩
  rw [hq]
  go_enter Tryz.func141, Tryz.ntmps141
  go_wp2
  go_region_held3 (fun w' => w'.cell? ⟨b, 0, none⟩ = some (.int .i64 i0) ∧ w'.cell? ⟨b, 1, none⟩ = some (.int .i64 i1) ∧ w'.cell? ⟨b, 2, none⟩ = some (.int .i64 pv)) (refine ⟨?_, ?_, ?_⟩ <;> (focus ((repeat (first | with_reducible refine ck_drew ?_ | with_reducible refine ck_old (by first | with_reducible assumption | (simp; assumption)) ?_)); (first | go_cell_look | (simp [*]; done) | go_cell)))) (first | (go_at_call 119; refine (truth_any _ _).mono ?_; rintro e w' ⟨rfl, rfl⟩) | (go_at_call 133; refine (rises_any p _ P u _ ?_ ?_ ?_).mono ?_; (focus ((repeat (first | with_reducible refine ck_drew ?_ | with_reducible refine ck_old (by first | with_reducible assumption | (simp; assumption)) ?_)); (first | go_cell_look | (simp [*]; done) | go_cell))); (focus (first | (simp [*]; done) | (go_simp; done))); (exact hu); rintro e w' ⟨rfl, rfl⟩))
  go_wp2_with (first | (go_at_call 142; refine (less_any n _ hc0 hc1).mono ?_; rintro e w' ⟨rfl, rfl⟩))
  go_region_held3 (fun w' => w'.cell? ⟨p, 1, none⟩ = some (.int .i64 pv)) ((focus ((repeat (first | with_reducible refine ck_drew ?_ | with_reducible refine ck_old (by first | with_reducible assumption | (simp; assumption)) ?_)); (first | go_cell_look | (simp [*]; done) | go_cell)))) (first | (go_at_call 120; refine (word_any _ _).mono ?_; rintro e w' ⟨rfl, rfl⟩))
  go_wp2
  all_goals go_ret
  all_goals refine ⟨rfl, ?_, ?_, ?_⟩
  · repeat (with_reducible refine (hp_drew _ _).trans ?_)
    exact hp_new (by simp) _
  · repeat (with_reducible refine (hp_drew _ _).trans ?_)
    refine (hp_old (by first | with_reducible exact hpl | (simp; exact hpl)) _).trans ?_
    repeat (with_reducible refine (hp_drew _ _).trans ?_)
    apply Eq.trans
    · repeat (first | with_reducible exact hp | apply at_set)
    · simp
  · repeat (first | with_reducible exact World.grownBy.refl _ _ | with_reducible apply gr_set | with_reducible apply gr_alloc | with_reducible apply gr_drew)

set_option maxHeartbeats 1000000 in
theorem ctd_up (p b T : Nat) (P : Bool) (n i0 i1 pv now : Int) (w : World) (hp : w.heap[p]? = some (.cells #[.bool P, .int .i64 n] T)) (hb : w.heap[b]? = some (.cells #[.int .i64 i0, .int .i64 i1, .int .i64 pv] 3)) (hne : p ≠ b) (h1 : (i1 != 0) = false) (hu : ((i0 != 0) && !P) = true) (hc0 : -32768 ≤ n) (hc1 : n ≤ 32767) :
    Calls Tryz.prog 141 #[.pointer (some ⟨p, 0, none⟩), .slice (some ⟨b, 0, none⟩) 3 3, .int .i64 now] w fun e w' => e = .returned (.slice (some ⟨w.heap.size, 0, none⟩) 2 2) ∧ w'.heap[w.heap.size]? = some (.cells #[.int .i64 (yesN (decide ((lessN n) ≤ 0))), .int .i64 (lessN n)] 3) ∧ w'.heap[p]? = some (.cells #[.bool (i0 != 0), .int .i64 (lessN n)] T) ∧ w.grownBy w' (some p) := by
  have hpl := at_lt hp
  have c0 := at_cell hb 0
  have c1 := at_cell hb 1
  have c2 := at_cell hb 2
  have d0 := at_cell hp 0
  have f0 := at_frozen hp 0
  have d1 := at_cell hp 1
  have f1 := at_frozen hp 1
  simp at c0 c1 c2 d0 d1
  obtain ⟨k, hk⟩ : ∃ k, lessN n = k := ⟨_, rfl⟩
  rw [hk]
  obtain ⟨q, hq⟩ : ∃ q, decide (k ≤ 0) = q := ⟨_, rfl⟩
  rw [hq]
  go_enter Tryz.func141, Tryz.ntmps141
  go_wp2
  go_region_held3 (fun w' => w'.cell? ⟨b, 0, none⟩ = some (.int .i64 i0) ∧ w'.cell? ⟨b, 1, none⟩ = some (.int .i64 i1) ∧ w'.cell? ⟨b, 2, none⟩ = some (.int .i64 pv)) (refine ⟨?_, ?_, ?_⟩ <;> (focus ((repeat (first | with_reducible refine ck_drew ?_ | with_reducible refine ck_old (by first | with_reducible assumption | (simp; assumption)) ?_)); (first | go_cell_look | (simp [*]; done) | go_cell)))) (first | (go_at_call 119; refine (truth_any _ _).mono ?_; rintro e w' ⟨rfl, rfl⟩) | (go_at_call 133; refine (rises_any p _ P true _ ?_ ?_ ?_).mono ?_; (focus ((repeat (first | with_reducible refine ck_drew ?_ | with_reducible refine ck_old (by first | with_reducible assumption | (simp; assumption)) ?_)); (first | go_cell_look | (simp [*]; done) | go_cell))); (focus (first | (simp [*]; done) | (go_simp; done))); (exact hu); rintro e w' ⟨rfl, rfl⟩))
  go_wp2_with (first | (go_at_call 142; refine (less_any n _ hc0 hc1).mono ?_; rintro e w' ⟨rfl, rfl⟩))
  go_region_held3 (fun w' => w'.cell? ⟨p, 1, none⟩ = some (.int .i64 k)) ((focus ((repeat (first | with_reducible refine ck_drew ?_ | with_reducible refine ck_old (by first | with_reducible assumption | (simp; assumption)) ?_)); (first | go_cell_look | (simp [*]; done) | go_cell)))) (first | (go_at_call 120; refine (word_any _ _).mono ?_; rintro e w' ⟨rfl, rfl⟩))
  go_wp2
  all_goals go_ret
  all_goals refine ⟨rfl, ?_, ?_, ?_⟩
  · repeat (with_reducible refine (hp_drew _ _).trans ?_)
    exact hp_new (by simp) _
  · repeat (with_reducible refine (hp_drew _ _).trans ?_)
    refine (hp_old (by first | with_reducible exact hpl | (simp; exact hpl)) _).trans ?_
    repeat (with_reducible refine (hp_drew _ _).trans ?_)
    apply Eq.trans
    · repeat (first | with_reducible exact hp | apply at_set)
    · simp
  · repeat (first | with_reducible exact World.grownBy.refl _ _ | with_reducible apply gr_set | with_reducible apply gr_alloc | with_reducible apply gr_drew)

set_option maxHeartbeats 1000000 in
theorem ctd_no (p b T : Nat) (P : Bool) (n i0 i1 pv now : Int) (w : World) (hp : w.heap[p]? = some (.cells #[.bool P, .int .i64 n] T)) (hb : w.heap[b]? = some (.cells #[.int .i64 i0, .int .i64 i1, .int .i64 pv] 3)) (hne : p ≠ b) (h1 : (i1 != 0) = false) (hu : ((i0 != 0) && !P) = false) (hc0 : -32768 ≤ n) (hc1 : n ≤ 32767) :
    Calls Tryz.prog 141 #[.pointer (some ⟨p, 0, none⟩), .slice (some ⟨b, 0, none⟩) 3 3, .int .i64 now] w fun e w' => e = .returned (.slice (some ⟨w.heap.size, 0, none⟩) 2 2) ∧ w'.heap[w.heap.size]? = some (.cells #[.int .i64 (yesN (decide (n ≤ 0))), .int .i64 n] 3) ∧ w'.heap[p]? = some (.cells #[.bool (i0 != 0), .int .i64 n] T) ∧ w.grownBy w' (some p) := by
  have hpl := at_lt hp
  have c0 := at_cell hb 0
  have c1 := at_cell hb 1
  have c2 := at_cell hb 2
  have d0 := at_cell hp 0
  have f0 := at_frozen hp 0
  have d1 := at_cell hp 1
  have f1 := at_frozen hp 1
  simp at c0 c1 c2 d0 d1
  obtain ⟨q, hq⟩ : ∃ q, decide (n ≤ 0) = q := ⟨_, rfl⟩
  rw [hq]
  go_enter Tryz.func141, Tryz.ntmps141
  go_wp2
  go_region_held3 (fun w' => w'.cell? ⟨b, 0, none⟩ = some (.int .i64 i0) ∧ w'.cell? ⟨b, 1, none⟩ = some (.int .i64 i1) ∧ w'.cell? ⟨b, 2, none⟩ = some (.int .i64 pv)) (refine ⟨?_, ?_, ?_⟩ <;> (focus ((repeat (first | with_reducible refine ck_drew ?_ | with_reducible refine ck_old (by first | with_reducible assumption | (simp; assumption)) ?_)); (first | go_cell_look | (simp [*]; done) | go_cell)))) (first | (go_at_call 119; refine (truth_any _ _).mono ?_; rintro e w' ⟨rfl, rfl⟩) | (go_at_call 133; refine (rises_any p _ P false _ ?_ ?_ ?_).mono ?_; (focus ((repeat (first | with_reducible refine ck_drew ?_ | with_reducible refine ck_old (by first | with_reducible assumption | (simp; assumption)) ?_)); (first | go_cell_look | (simp [*]; done) | go_cell))); (focus (first | (simp [*]; done) | (go_simp; done))); (exact hu); rintro e w' ⟨rfl, rfl⟩))
  go_wp2_with (first | (go_at_call 142; refine (less_any n _ hc0 hc1).mono ?_; rintro e w' ⟨rfl, rfl⟩))
  go_region_held3 (fun w' => w'.cell? ⟨p, 1, none⟩ = some (.int .i64 n)) ((focus ((repeat (first | with_reducible refine ck_drew ?_ | with_reducible refine ck_old (by first | with_reducible assumption | (simp; assumption)) ?_)); (first | go_cell_look | (simp [*]; done) | go_cell)))) (first | (go_at_call 120; refine (word_any _ _).mono ?_; rintro e w' ⟨rfl, rfl⟩))
  go_wp2
  all_goals go_ret
  all_goals refine ⟨rfl, ?_, ?_, ?_⟩
  · repeat (with_reducible refine (hp_drew _ _).trans ?_)
    exact hp_new (by simp) _
  · repeat (with_reducible refine (hp_drew _ _).trans ?_)
    refine (hp_old (by first | with_reducible exact hpl | (simp; exact hpl)) _).trans ?_
    repeat (with_reducible refine (hp_drew _ _).trans ?_)
    apply Eq.trans
    · repeat (first | with_reducible exact hp | apply at_set)
    · simp
  · repeat (first | with_reducible exact World.grownBy.refl _ _ | with_reducible apply gr_set | with_reducible apply gr_alloc | with_reducible apply gr_drew)

end Go.Proofs.YtcgbfhpmkpglkaaGreatDoor.Bl

/- Step at ctu, ctd. -/
namespace Go.Proofs.YtcgbfhpmkpglkaaGreatDoor.Bl
open Go.RowKit

set_option linter.unusedVariables false
set_option linter.unusedSimpArgs false
theorem load_c (p b T : Nat) (l : List Int) (w : World) (hp : w.heap[p]? = some (.cells #[.bool false, .int .i64 0] T)) (hb : w.heap[b]? = some (.cells (intsA (wrapL [1, 2] l)) 3)) (hne : p ≠ b) :
    Calls Tryz.prog 132 #[.pointer (some ⟨p, 0, none⟩), .slice (some ⟨b, 0, none⟩) 2 2] w fun e w' => e = .returned (.tuple #[]) ∧ w'.heap[p]? = some (.cells (A2 (wrapL [1, 2] l)) T) ∧ w.grownBy w' (some p) := by
  obtain ⟨a0, a1, e⟩ := form2 1 2 l
  rw [e] at hb ⊢
  exact load_counter p b T 3 _ _ _ _ w hp hb hne
theorem save_c (p T : Nat) (n0 n1 : Int) (h0 : n0 = 0 ∨ n0 = 1) (w : World) (hp : w.heap[p]? = some (.cells (A2 [n0, n1]) T)) :
    Calls Tryz.prog 134 #[.pointer (some ⟨p, 0, none⟩)] w fun e w' => e = .returned (.slice (some ⟨w.heap.size, 0, none⟩) 2 2) ∧ w'.heap[w.heap.size]? = some (.cells (intsA [n0, n1]) 3) ∧ w.grownBy w' none := by
  have h := save_counter p T n1 (n0 != 0) w hp
  rw [yes_bit h0] at h
  exact h

theorem ctu_step (p b T : Nat) (x0 x1 i0 i1 i2 now : Int) (h_x0 : x0 = 0 ∨ x0 = 1) (l_x1 : -32768 ≤ x1) (u_x1 : x1 ≤ 32767) (h_i0 : i0 = 0 ∨ i0 = 1) (h_i1 : i1 = 0 ∨ i1 = 1) (l_i2 : -32768 ≤ i2) (u_i2 : i2 ≤ 32767) (l_now : 0 ≤ now) (u_now : now ≤ 4294967295) (w : World)
    (hp : w.heap[p]? = some (.cells (A2 [x0, x1]) T)) (hb : w.heap[b]? = some (.cells (intsA [i0, i1, i2]) 3)) (hne : p ≠ b) :
    Calls Tryz.prog 136 #[.pointer (some ⟨p, 0, none⟩), .slice (some ⟨b, 0, none⟩) 3 3, .int .i64 now] w fun e w' => e = .returned (.slice (some ⟨w.heap.size, 0, none⟩) 2 2) ∧ w'.heap[w.heap.size]? = some (.cells (intsA (ctuF [x0, x1] [i0, i1, i2] now).2) 3) ∧ w'.heap[p]? = some (.cells (A2 (ctuF [x0, x1] [i0, i1, i2] now).1) T) ∧ w.grownBy w' (some p) := by
  rcases h_i1 with rfl | rfl
  · rcases h_i0 with rfl | rfl
    · exact (ctu_no p b T (x0 != 0) x1 0 0 i2 now w hp hb hne rfl rfl l_x1 u_x1).mono fun e w' ⟨a1, a2, a3, a4⟩ => ⟨a1, a2.trans (by simp [ctuF, intsA]), a3.trans (by simp [ctuF, A2]), a4⟩
    · rcases h_x0 with rfl | rfl
      · exact (ctu_up p b T false x1 1 0 i2 now w hp hb hne rfl rfl l_x1 u_x1).mono fun e w' ⟨a1, a2, a3, a4⟩ => ⟨a1, a2.trans (by simp [ctuF, intsA]), a3.trans (by simp [ctuF, A2]), a4⟩
      · exact (ctu_no p b T true x1 1 0 i2 now w hp hb hne rfl rfl l_x1 u_x1).mono fun e w' ⟨a1, a2, a3, a4⟩ => ⟨a1, a2.trans (by simp [ctuF, intsA]), a3.trans (by simp [ctuF, A2]), a4⟩
  · exact (ctu_set p b T (x0 != 0) _ x1 i0 1 i2 now w hp hb hne rfl rfl l_x1 u_x1).mono fun e w' ⟨a1, a2, a3, a4⟩ => ⟨a1, a2.trans (by simp [ctuF, intsA]), a3.trans (by simp [ctuF, A2]), a4⟩

theorem ctu_form (x0 x1 i0 i1 i2 now : Int) (h_x0 : x0 = 0 ∨ x0 = 1) (h_i0 : i0 = 0 ∨ i0 = 1) (h_i1 : i1 = 0 ∨ i1 = 1) :
    ∃ n0 n1, (ctuF [x0, x1] [i0, i1, i2] now).1 = [n0, n1] ∧ (n0 = 0 ∨ n0 = 1) := by
  unfold ctuF
  simp only []
  repeat' split
  all_goals exact ⟨_, _, rfl, h_i0⟩
theorem stepC_ctu : StepC ctuName 2 2 [1, 2] [1, 1, 2] ctuF := by
  intro vs vi l li now w hr hri
  obtain ⟨a0, a1, e⟩ := form2 1 2 l
  obtain ⟨c0, c1, c2, e'⟩ := form3 1 1 2 li
  have hst : ∀ (p b : Nat) (w : World), w.heap[p]? = some (.cells (A2 (wrapL [1, 2] l)) 156) → w.heap[b]? = some (.cells (intsA (wrapL [1, 1, 2] li)) 3) → p ≠ b → Calls Tryz.prog 136 #[.pointer (some ⟨p, 0, none⟩), .slice (some ⟨b, 0, none⟩) 3 3, .int .i64 (wrapK 5 now)] w fun e w' => e = .returned (.slice (some ⟨w.heap.size, 0, none⟩) 2 2) ∧ w'.heap[w.heap.size]? = some (.cells (intsA (ctuF (wrapL [1, 2] l) (wrapL [1, 1, 2] li) (wrapK 5 now)).2) 3) ∧ w'.heap[p]? = some (.cells (A2 (ctuF (wrapL [1, 2] l) (wrapL [1, 1, 2] li) (wrapK 5 now)).1) 156) ∧ w.grownBy w' (some p) := by
    intro p b w hp hb hne
    rw [e] at hp ⊢
    rw [e'] at hb ⊢
    exact ctu_step p b 156 _ _ _ _ _ _ (bitK a0) (intK a1).1 (intK a1).2 (bitK c0) (bitK c1) (intK c2).1 (intK c2).2 (timK now).1 (timK now).2 w hp hb hne
  have hsv : ∀ (p : Nat) (w : World), w.heap[p]? = some (.cells (A2 (ctuF (wrapL [1, 2] l) (wrapL [1, 1, 2] li) (wrapK 5 now)).1) 156) → Calls Tryz.prog 134 #[.pointer (some ⟨p, 0, none⟩)] w fun e w' => e = .returned (.slice (some ⟨w.heap.size, 0, none⟩) 2 2) ∧ w'.heap[w.heap.size]? = some (.cells (intsA (ctuF (wrapL [1, 2] l) (wrapL [1, 1, 2] li) (wrapK 5 now)).1) 3) ∧ w.grownBy w' none := by
    intro p w hp
    rw [e, e'] at hp ⊢
    obtain ⟨n0, n1, hf, h0⟩ := ctu_form (wrapK 1 a0) (wrapK 2 a1) (wrapK 1 c0) (wrapK 1 c1) (wrapK 2 c2) (wrapK 5 now) (bitK a0) (bitK c0) (bitK c1)
    rw [hf] at hp ⊢
    exact save_c p 156 n0 n1 h0 w hp
  exact step_gen ctuName 152 156 135 132 136 134 #[.bool false, .int .i64 0] ctuI ctuO ctuS A2 ctuF vs vi l li now w (by decide) (by decide) named_ctu
    (fun _ _ => by kernel_rfl) (fun _ _ => by kernel_rfl) (fun _ _ => by kernel_rfl) (fun _ _ => by kernel_rfl) (fun _ _ => by kernel_rfl) (fun _ _ => by kernel_rfl)
    (fun _ _ => by kernel_rfl) (fun _ _ => by kernel_rfl) (fun _ _ => by kernel_rfl) (fun _ _ => by kernel_rfl)
    shape_ctu (fun p b w hp hb hne => load_c p b 156 l w hp hb hne) hst hsv hr hri

theorem ctd_step (p b T : Nat) (x0 x1 i0 i1 i2 now : Int) (h_x0 : x0 = 0 ∨ x0 = 1) (l_x1 : -32768 ≤ x1) (u_x1 : x1 ≤ 32767) (h_i0 : i0 = 0 ∨ i0 = 1) (h_i1 : i1 = 0 ∨ i1 = 1) (l_i2 : -32768 ≤ i2) (u_i2 : i2 ≤ 32767) (l_now : 0 ≤ now) (u_now : now ≤ 4294967295) (w : World)
    (hp : w.heap[p]? = some (.cells (A2 [x0, x1]) T)) (hb : w.heap[b]? = some (.cells (intsA [i0, i1, i2]) 3)) (hne : p ≠ b) :
    Calls Tryz.prog 141 #[.pointer (some ⟨p, 0, none⟩), .slice (some ⟨b, 0, none⟩) 3 3, .int .i64 now] w fun e w' => e = .returned (.slice (some ⟨w.heap.size, 0, none⟩) 2 2) ∧ w'.heap[w.heap.size]? = some (.cells (intsA (ctdF [x0, x1] [i0, i1, i2] now).2) 3) ∧ w'.heap[p]? = some (.cells (A2 (ctdF [x0, x1] [i0, i1, i2] now).1) T) ∧ w.grownBy w' (some p) := by
  rcases h_i1 with rfl | rfl
  · rcases h_i0 with rfl | rfl
    · exact (ctd_no p b T (x0 != 0) x1 0 0 i2 now w hp hb hne rfl rfl l_x1 u_x1).mono fun e w' ⟨a1, a2, a3, a4⟩ => ⟨a1, a2.trans (by simp [ctdF, intsA]), a3.trans (by simp [ctdF, A2]), a4⟩
    · rcases h_x0 with rfl | rfl
      · exact (ctd_up p b T false x1 1 0 i2 now w hp hb hne rfl rfl l_x1 u_x1).mono fun e w' ⟨a1, a2, a3, a4⟩ => ⟨a1, a2.trans (by simp [ctdF, intsA]), a3.trans (by simp [ctdF, A2]), a4⟩
      · exact (ctd_no p b T true x1 1 0 i2 now w hp hb hne rfl rfl l_x1 u_x1).mono fun e w' ⟨a1, a2, a3, a4⟩ => ⟨a1, a2.trans (by simp [ctdF, intsA]), a3.trans (by simp [ctdF, A2]), a4⟩
  · exact (ctd_set p b T (x0 != 0) _ x1 i0 1 i2 now w hp hb hne rfl rfl l_x1 u_x1).mono fun e w' ⟨a1, a2, a3, a4⟩ => ⟨a1, a2.trans (by simp [ctdF, intsA]), a3.trans (by simp [ctdF, A2]), a4⟩

theorem ctd_form (x0 x1 i0 i1 i2 now : Int) (h_x0 : x0 = 0 ∨ x0 = 1) (h_i0 : i0 = 0 ∨ i0 = 1) (h_i1 : i1 = 0 ∨ i1 = 1) :
    ∃ n0 n1, (ctdF [x0, x1] [i0, i1, i2] now).1 = [n0, n1] ∧ (n0 = 0 ∨ n0 = 1) := by
  unfold ctdF
  simp only []
  repeat' split
  all_goals exact ⟨_, _, rfl, h_i0⟩
theorem stepC_ctd : StepC ctdName 2 2 [1, 2] [1, 1, 2] ctdF := by
  intro vs vi l li now w hr hri
  obtain ⟨a0, a1, e⟩ := form2 1 2 l
  obtain ⟨c0, c1, c2, e'⟩ := form3 1 1 2 li
  have hst : ∀ (p b : Nat) (w : World), w.heap[p]? = some (.cells (A2 (wrapL [1, 2] l)) 158) → w.heap[b]? = some (.cells (intsA (wrapL [1, 1, 2] li)) 3) → p ≠ b → Calls Tryz.prog 141 #[.pointer (some ⟨p, 0, none⟩), .slice (some ⟨b, 0, none⟩) 3 3, .int .i64 (wrapK 5 now)] w fun e w' => e = .returned (.slice (some ⟨w.heap.size, 0, none⟩) 2 2) ∧ w'.heap[w.heap.size]? = some (.cells (intsA (ctdF (wrapL [1, 2] l) (wrapL [1, 1, 2] li) (wrapK 5 now)).2) 3) ∧ w'.heap[p]? = some (.cells (A2 (ctdF (wrapL [1, 2] l) (wrapL [1, 1, 2] li) (wrapK 5 now)).1) 158) ∧ w.grownBy w' (some p) := by
    intro p b w hp hb hne
    rw [e] at hp ⊢
    rw [e'] at hb ⊢
    exact ctd_step p b 158 _ _ _ _ _ _ (bitK a0) (intK a1).1 (intK a1).2 (bitK c0) (bitK c1) (intK c2).1 (intK c2).2 (timK now).1 (timK now).2 w hp hb hne
  have hsv : ∀ (p : Nat) (w : World), w.heap[p]? = some (.cells (A2 (ctdF (wrapL [1, 2] l) (wrapL [1, 1, 2] li) (wrapK 5 now)).1) 158) → Calls Tryz.prog 134 #[.pointer (some ⟨p, 0, none⟩)] w fun e w' => e = .returned (.slice (some ⟨w.heap.size, 0, none⟩) 2 2) ∧ w'.heap[w.heap.size]? = some (.cells (intsA (ctdF (wrapL [1, 2] l) (wrapL [1, 1, 2] li) (wrapK 5 now)).1) 3) ∧ w.grownBy w' none := by
    intro p w hp
    rw [e, e'] at hp ⊢
    obtain ⟨n0, n1, hf, h0⟩ := ctd_form (wrapK 1 a0) (wrapK 2 a1) (wrapK 1 c0) (wrapK 1 c1) (wrapK 2 c2) (wrapK 5 now) (bitK a0) (bitK c0) (bitK c1)
    rw [hf] at hp ⊢
    exact save_c p 158 n0 n1 h0 w hp
  exact step_gen ctdName 157 158 140 132 141 134 #[.bool false, .int .i64 0] ctdI ctdO ctdS A2 ctdF vs vi l li now w (by decide) (by decide) named_ctd
    (fun _ _ => by kernel_rfl) (fun _ _ => by kernel_rfl) (fun _ _ => by kernel_rfl) (fun _ _ => by kernel_rfl) (fun _ _ => by kernel_rfl) (fun _ _ => by kernel_rfl)
    (fun _ _ => by kernel_rfl) (fun _ _ => by kernel_rfl) (fun _ _ => by kernel_rfl) (fun _ _ => by kernel_rfl)
    shape_ctd (fun p b w hp hb hne => load_c p b 158 l w hp hb hne) hst hsv hr hri

end Go.Proofs.YtcgbfhpmkpglkaaGreatDoor.Bl
