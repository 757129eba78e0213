/- Texts put together: BlH5, BlH6, BlL4. -/
import Derived.Test.YtcgbfhpmkpglkaaGreatDoorQ05
import Derived.OpenShut
import Derived.Deep.QuietTactic
import Derived.BigQuiet
/- the edges, the latches, hyst, ramp: their steps. -/
namespace Go.Proofs.YtcgbfhpmkpglkaaGreatDoor.Bl
open Go.RowKit
attribute [local go_sem ↓] Go.wp_at_zero Go.wp_at_succ
set_option linter.unusedVariables false

set_option maxHeartbeats 1000000 in
theorem rtrig_tt (p b T : Nat) (i0 now : Int) (w : World) (hp : w.heap[p]? = some (.cells #[.bool true] T)) (hb : w.heap[b]? = some (.cells #[.int .i64 i0] 3)) (hne : p ≠ b) (h0 : (i0 != 0) = true) :
    Calls Tryz.prog 150 #[.pointer (some ⟨p, 0, none⟩), .slice (some ⟨b, 0, none⟩) 1 1, .int .i64 now] w fun e w' => e = .returned (.slice (some ⟨w.heap.size, 0, none⟩) 1 1) ∧ w'.heap[w.heap.size]? = some (.cells #[.int .i64 0] 3) ∧ w'.heap[p]? = some (.cells #[.bool true] T) ∧ w.grownBy w' (some p) := by
  have hpl := at_lt hp
  have c0 := at_cell hb 0
  have d0 := at_cell hp 0
  have f0 := at_frozen hp 0
  simp at c0 d0
  go_enter Tryz.func150, Tryz.ntmps150
  go_wp2_with (first | (go_at_call 119; refine (truth_any _ _).mono ?_; rintro e w' ⟨rfl, rfl⟩) | (go_at_call 120; refine (word_any _ _).mono ?_; rintro e w' ⟨rfl, rfl⟩))
  all_goals go_ret
  all_goals refine ⟨rfl, ?_, ?_, ?_⟩
  · repeat (with_reducible refine (hp_drew _ _).trans ?_)
    exact hp_new (by simp) _
  · repeat (with_reducible refine (hp_drew _ _).trans ?_)
    refine (hp_old (by first | with_reducible exact hpl | (simp; exact hpl)) _).trans ?_
    repeat (with_reducible refine (hp_drew _ _).trans ?_)
    apply Eq.trans
    · repeat (first | with_reducible exact hp | apply at_set)
    · simp
  · repeat (first | with_reducible exact World.grownBy.refl _ _ | with_reducible apply gr_set | with_reducible apply gr_alloc | with_reducible apply gr_drew)

set_option maxHeartbeats 1000000 in
theorem rtrig_tf (p b T : Nat) (i0 now : Int) (w : World) (hp : w.heap[p]? = some (.cells #[.bool false] T)) (hb : w.heap[b]? = some (.cells #[.int .i64 i0] 3)) (hne : p ≠ b) (h0 : (i0 != 0) = true) :
    Calls Tryz.prog 150 #[.pointer (some ⟨p, 0, none⟩), .slice (some ⟨b, 0, none⟩) 1 1, .int .i64 now] w fun e w' => e = .returned (.slice (some ⟨w.heap.size, 0, none⟩) 1 1) ∧ w'.heap[w.heap.size]? = some (.cells #[.int .i64 1] 3) ∧ w'.heap[p]? = some (.cells #[.bool true] T) ∧ w.grownBy w' (some p) := by
  have hpl := at_lt hp
  have c0 := at_cell hb 0
  have d0 := at_cell hp 0
  have f0 := at_frozen hp 0
  simp at c0 d0
  go_enter Tryz.func150, Tryz.ntmps150
  go_wp2_with (first | (go_at_call 119; refine (truth_any _ _).mono ?_; rintro e w' ⟨rfl, rfl⟩) | (go_at_call 120; refine (word_any _ _).mono ?_; rintro e w' ⟨rfl, rfl⟩))
  all_goals go_ret
  all_goals refine ⟨rfl, ?_, ?_, ?_⟩
  · repeat (with_reducible refine (hp_drew _ _).trans ?_)
    exact hp_new (by simp) _
  · repeat (with_reducible refine (hp_drew _ _).trans ?_)
    refine (hp_old (by first | with_reducible exact hpl | (simp; exact hpl)) _).trans ?_
    repeat (with_reducible refine (hp_drew _ _).trans ?_)
    apply Eq.trans
    · repeat (first | with_reducible exact hp | apply at_set)
    · simp
  · repeat (first | with_reducible exact World.grownBy.refl _ _ | with_reducible apply gr_set | with_reducible apply gr_alloc | with_reducible apply gr_drew)

set_option maxHeartbeats 1000000 in
theorem rtrig_ft (p b T : Nat) (i0 now : Int) (w : World) (hp : w.heap[p]? = some (.cells #[.bool true] T)) (hb : w.heap[b]? = some (.cells #[.int .i64 i0] 3)) (hne : p ≠ b) (h0 : (i0 != 0) = false) :
    Calls Tryz.prog 150 #[.pointer (some ⟨p, 0, none⟩), .slice (some ⟨b, 0, none⟩) 1 1, .int .i64 now] w fun e w' => e = .returned (.slice (some ⟨w.heap.size, 0, none⟩) 1 1) ∧ w'.heap[w.heap.size]? = some (.cells #[.int .i64 0] 3) ∧ w'.heap[p]? = some (.cells #[.bool false] T) ∧ w.grownBy w' (some p) := by
  have hpl := at_lt hp
  have c0 := at_cell hb 0
  have d0 := at_cell hp 0
  have f0 := at_frozen hp 0
  simp at c0 d0
  go_enter Tryz.func150, Tryz.ntmps150
  go_wp2_with (first | (go_at_call 119; refine (truth_any _ _).mono ?_; rintro e w' ⟨rfl, rfl⟩) | (go_at_call 120; refine (word_any _ _).mono ?_; rintro e w' ⟨rfl, rfl⟩))
  all_goals go_ret
  all_goals refine ⟨rfl, ?_, ?_, ?_⟩
  · repeat (with_reducible refine (hp_drew _ _).trans ?_)
    exact hp_new (by simp) _
  · repeat (with_reducible refine (hp_drew _ _).trans ?_)
    refine (hp_old (by first | with_reducible exact hpl | (simp; exact hpl)) _).trans ?_
    repeat (with_reducible refine (hp_drew _ _).trans ?_)
    apply Eq.trans
    · repeat (first | with_reducible exact hp | apply at_set)
    · simp
  · repeat (first | with_reducible exact World.grownBy.refl _ _ | with_reducible apply gr_set | with_reducible apply gr_alloc | with_reducible apply gr_drew)

set_option maxHeartbeats 1000000 in
theorem rtrig_ff (p b T : Nat) (i0 now : Int) (w : World) (hp : w.heap[p]? = some (.cells #[.bool false] T)) (hb : w.heap[b]? = some (.cells #[.int .i64 i0] 3)) (hne : p ≠ b) (h0 : (i0 != 0) = false) :
    Calls Tryz.prog 150 #[.pointer (some ⟨p, 0, none⟩), .slice (some ⟨b, 0, none⟩) 1 1, .int .i64 now] w fun e w' => e = .returned (.slice (some ⟨w.heap.size, 0, none⟩) 1 1) ∧ w'.heap[w.heap.size]? = some (.cells #[.int .i64 0] 3) ∧ w'.heap[p]? = some (.cells #[.bool false] T) ∧ w.grownBy w' (some p) := by
  have hpl := at_lt hp
  have c0 := at_cell hb 0
  have d0 := at_cell hp 0
  have f0 := at_frozen hp 0
  simp at c0 d0
  go_enter Tryz.func150, Tryz.ntmps150
  go_wp2_with (first | (go_at_call 119; refine (truth_any _ _).mono ?_; rintro e w' ⟨rfl, rfl⟩) | (go_at_call 120; refine (word_any _ _).mono ?_; rintro e w' ⟨rfl, rfl⟩))
  all_goals go_ret
  all_goals refine ⟨rfl, ?_, ?_, ?_⟩
  · repeat (with_reducible refine (hp_drew _ _).trans ?_)
    exact hp_new (by simp) _
  · repeat (with_reducible refine (hp_drew _ _).trans ?_)
    refine (hp_old (by first | with_reducible exact hpl | (simp; exact hpl)) _).trans ?_
    repeat (with_reducible refine (hp_drew _ _).trans ?_)
    apply Eq.trans
    · repeat (first | with_reducible exact hp | apply at_set)
    · simp
  · repeat (first | with_reducible exact World.grownBy.refl _ _ | with_reducible apply gr_set | with_reducible apply gr_alloc | with_reducible apply gr_drew)

set_option maxHeartbeats 1000000 in
theorem ftrig_tt (p b T : Nat) (i0 now : Int) (w : World) (hp : w.heap[p]? = some (.cells #[.bool true] T)) (hb : w.heap[b]? = some (.cells #[.int .i64 i0] 3)) (hne : p ≠ b) (h0 : (i0 != 0) = true) :
    Calls Tryz.prog 151 #[.pointer (some ⟨p, 0, none⟩), .slice (some ⟨b, 0, none⟩) 1 1, .int .i64 now] w fun e w' => e = .returned (.slice (some ⟨w.heap.size, 0, none⟩) 1 1) ∧ w'.heap[w.heap.size]? = some (.cells #[.int .i64 0] 3) ∧ w'.heap[p]? = some (.cells #[.bool true] T) ∧ w.grownBy w' (some p) := by
  have hpl := at_lt hp
  have c0 := at_cell hb 0
  have d0 := at_cell hp 0
  have f0 := at_frozen hp 0
  simp at c0 d0
  go_enter Tryz.func151, Tryz.ntmps151
  go_wp2_with (first | (go_at_call 119; refine (truth_any _ _).mono ?_; rintro e w' ⟨rfl, rfl⟩) | (go_at_call 120; refine (word_any _ _).mono ?_; rintro e w' ⟨rfl, rfl⟩))
  all_goals go_ret
  all_goals refine ⟨rfl, ?_, ?_, ?_⟩
  · repeat (with_reducible refine (hp_drew _ _).trans ?_)
    exact hp_new (by simp) _
  · repeat (with_reducible refine (hp_drew _ _).trans ?_)
    refine (hp_old (by first | with_reducible exact hpl | (simp; exact hpl)) _).trans ?_
    repeat (with_reducible refine (hp_drew _ _).trans ?_)
    apply Eq.trans
    · repeat (first | with_reducible exact hp | apply at_set)
    · simp
  · repeat (first | with_reducible exact World.grownBy.refl _ _ | with_reducible apply gr_set | with_reducible apply gr_alloc | with_reducible apply gr_drew)

set_option maxHeartbeats 1000000 in
theorem ftrig_tf (p b T : Nat) (i0 now : Int) (w : World) (hp : w.heap[p]? = some (.cells #[.bool false] T)) (hb : w.heap[b]? = some (.cells #[.int .i64 i0] 3)) (hne : p ≠ b) (h0 : (i0 != 0) = true) :
    Calls Tryz.prog 151 #[.pointer (some ⟨p, 0, none⟩), .slice (some ⟨b, 0, none⟩) 1 1, .int .i64 now] w fun e w' => e = .returned (.slice (some ⟨w.heap.size, 0, none⟩) 1 1) ∧ w'.heap[w.heap.size]? = some (.cells #[.int .i64 0] 3) ∧ w'.heap[p]? = some (.cells #[.bool true] T) ∧ w.grownBy w' (some p) := by
  have hpl := at_lt hp
  have c0 := at_cell hb 0
  have d0 := at_cell hp 0
  have f0 := at_frozen hp 0
  simp at c0 d0
  go_enter Tryz.func151, Tryz.ntmps151
  go_wp2_with (first | (go_at_call 119; refine (truth_any _ _).mono ?_; rintro e w' ⟨rfl, rfl⟩) | (go_at_call 120; refine (word_any _ _).mono ?_; rintro e w' ⟨rfl, rfl⟩))
  all_goals go_ret
  all_goals refine ⟨rfl, ?_, ?_, ?_⟩
  · repeat (with_reducible refine (hp_drew _ _).trans ?_)
    exact hp_new (by simp) _
  · repeat (with_reducible refine (hp_drew _ _).trans ?_)
    refine (hp_old (by first | with_reducible exact hpl | (simp; exact hpl)) _).trans ?_
    repeat (with_reducible refine (hp_drew _ _).trans ?_)
    apply Eq.trans
    · repeat (first | with_reducible exact hp | apply at_set)
    · simp
  · repeat (first | with_reducible exact World.grownBy.refl _ _ | with_reducible apply gr_set | with_reducible apply gr_alloc | with_reducible apply gr_drew)

set_option maxHeartbeats 1000000 in
theorem ftrig_ft (p b T : Nat) (i0 now : Int) (w : World) (hp : w.heap[p]? = some (.cells #[.bool true] T)) (hb : w.heap[b]? = some (.cells #[.int .i64 i0] 3)) (hne : p ≠ b) (h0 : (i0 != 0) = false) :
    Calls Tryz.prog 151 #[.pointer (some ⟨p, 0, none⟩), .slice (some ⟨b, 0, none⟩) 1 1, .int .i64 now] w fun e w' => e = .returned (.slice (some ⟨w.heap.size, 0, none⟩) 1 1) ∧ w'.heap[w.heap.size]? = some (.cells #[.int .i64 1] 3) ∧ w'.heap[p]? = some (.cells #[.bool false] T) ∧ w.grownBy w' (some p) := by
  have hpl := at_lt hp
  have c0 := at_cell hb 0
  have d0 := at_cell hp 0
  have f0 := at_frozen hp 0
  simp at c0 d0
  go_enter Tryz.func151, Tryz.ntmps151
  go_wp2_with (first | (go_at_call 119; refine (truth_any _ _).mono ?_; rintro e w' ⟨rfl, rfl⟩) | (go_at_call 120; refine (word_any _ _).mono ?_; rintro e w' ⟨rfl, rfl⟩))
  all_goals go_ret
  all_goals refine ⟨rfl, ?_, ?_, ?_⟩
  · repeat (with_reducible refine (hp_drew _ _).trans ?_)
    exact hp_new (by simp) _
  · repeat (with_reducible refine (hp_drew _ _).trans ?_)
    refine (hp_old (by first | with_reducible exact hpl | (simp; exact hpl)) _).trans ?_
    repeat (with_reducible refine (hp_drew _ _).trans ?_)
    apply Eq.trans
    · repeat (first | with_reducible exact hp | apply at_set)
    · simp
  · repeat (first | with_reducible exact World.grownBy.refl _ _ | with_reducible apply gr_set | with_reducible apply gr_alloc | with_reducible apply gr_drew)

set_option maxHeartbeats 1000000 in
theorem ftrig_ff (p b T : Nat) (i0 now : Int) (w : World) (hp : w.heap[p]? = some (.cells #[.bool false] T)) (hb : w.heap[b]? = some (.cells #[.int .i64 i0] 3)) (hne : p ≠ b) (h0 : (i0 != 0) = false) :
    Calls Tryz.prog 151 #[.pointer (some ⟨p, 0, none⟩), .slice (some ⟨b, 0, none⟩) 1 1, .int .i64 now] w fun e w' => e = .returned (.slice (some ⟨w.heap.size, 0, none⟩) 1 1) ∧ w'.heap[w.heap.size]? = some (.cells #[.int .i64 0] 3) ∧ w'.heap[p]? = some (.cells #[.bool false] T) ∧ w.grownBy w' (some p) := by
  have hpl := at_lt hp
  have c0 := at_cell hb 0
  have d0 := at_cell hp 0
  have f0 := at_frozen hp 0
  simp at c0 d0
  go_enter Tryz.func151, Tryz.ntmps151
  go_wp2_with (first | (go_at_call 119; refine (truth_any _ _).mono ?_; rintro e w' ⟨rfl, rfl⟩) | (go_at_call 120; refine (word_any _ _).mono ?_; rintro e w' ⟨rfl, rfl⟩))
  all_goals go_ret
  all_goals refine ⟨rfl, ?_, ?_, ?_⟩
  · repeat (with_reducible refine (hp_drew _ _).trans ?_)
    exact hp_new (by simp) _
  · repeat (with_reducible refine (hp_drew _ _).trans ?_)
    refine (hp_old (by first | with_reducible exact hpl | (simp; exact hpl)) _).trans ?_
    repeat (with_reducible refine (hp_drew _ _).trans ?_)
    apply Eq.trans
    · repeat (first | with_reducible exact hp | apply at_set)
    · simp
  · repeat (first | with_reducible exact World.grownBy.refl _ _ | with_reducible apply gr_set | with_reducible apply gr_alloc | with_reducible apply gr_drew)

set_option maxHeartbeats 1000000 in
theorem sr_ttt (p b T : Nat) (i0 i1 now : Int) (w : World) (hp : w.heap[p]? = some (.cells #[.bool true] T)) (hb : w.heap[b]? = some (.cells #[.int .i64 i0, .int .i64 i1] 3)) (hne : p ≠ b) (h0 : (i0 != 0) = true) (h1 : (i1 != 0) = true) :
    Calls Tryz.prog 155 #[.pointer (some ⟨p, 0, none⟩), .slice (some ⟨b, 0, none⟩) 2 2, .int .i64 now] w fun e w' => e = .returned (.slice (some ⟨w.heap.size, 0, none⟩) 1 1) ∧ w'.heap[w.heap.size]? = some (.cells #[.int .i64 1] 3) ∧ w'.heap[p]? = some (.cells #[.bool true] T) ∧ w.grownBy w' (some p) := by
  have hpl := at_lt hp
  have c0 := at_cell hb 0
  have c1 := at_cell hb 1
  have d0 := at_cell hp 0
  have f0 := at_frozen hp 0
  simp at c0 c1 d0
  go_enter Tryz.func155, Tryz.ntmps155
  go_wp2
  go_region_held3 (fun w' => w'.cell? ⟨b, 0, none⟩ = some (.int .i64 i0) ∧ w'.cell? ⟨b, 1, none⟩ = some (.int .i64 i1)) (refine ⟨?_, ?_⟩ <;> (focus ((repeat (first | with_reducible refine ck_drew ?_ | with_reducible refine ck_old (by first | with_reducible assumption | (simp; assumption)) ?_)); (first | go_cell_look | (simp [*]; done) | go_cell)))) (first | (go_at_call 119; refine (truth_any _ _).mono ?_; rintro e w' ⟨rfl, rfl⟩))
  go_wp2_with (first | (go_at_call 120; refine (word_any _ _).mono ?_; rintro e w' ⟨rfl, rfl⟩))
  all_goals go_ret
  all_goals refine ⟨rfl, ?_, ?_, ?_⟩
  · repeat (with_reducible refine (hp_drew _ _).trans ?_)
    exact hp_new (by simp) _
  · repeat (with_reducible refine (hp_drew _ _).trans ?_)
    refine (hp_old (by first | with_reducible exact hpl | (simp; exact hpl)) _).trans ?_
    repeat (with_reducible refine (hp_drew _ _).trans ?_)
    apply Eq.trans
    · repeat (first | with_reducible exact hp | apply at_set)
    · simp
  · repeat (first | with_reducible exact World.grownBy.refl _ _ | with_reducible apply gr_set | with_reducible apply gr_alloc | with_reducible apply gr_drew)

set_option maxHeartbeats 1000000 in
theorem sr_ttf (p b T : Nat) (i0 i1 now : Int) (w : World) (hp : w.heap[p]? = some (.cells #[.bool false] T)) (hb : w.heap[b]? = some (.cells #[.int .i64 i0, .int .i64 i1] 3)) (hne : p ≠ b) (h0 : (i0 != 0) = true) (h1 : (i1 != 0) = true) :
    Calls Tryz.prog 155 #[.pointer (some ⟨p, 0, none⟩), .slice (some ⟨b, 0, none⟩) 2 2, .int .i64 now] w fun e w' => e = .returned (.slice (some ⟨w.heap.size, 0, none⟩) 1 1) ∧ w'.heap[w.heap.size]? = some (.cells #[.int .i64 1] 3) ∧ w'.heap[p]? = some (.cells #[.bool true] T) ∧ w.grownBy w' (some p) := by
  have hpl := at_lt hp
  have c0 := at_cell hb 0
  have c1 := at_cell hb 1
  have d0 := at_cell hp 0
  have f0 := at_frozen hp 0
  simp at c0 c1 d0
  go_enter Tryz.func155, Tryz.ntmps155
  go_wp2
  go_region_held3 (fun w' => w'.cell? ⟨b, 0, none⟩ = some (.int .i64 i0) ∧ w'.cell? ⟨b, 1, none⟩ = some (.int .i64 i1)) (refine ⟨?_, ?_⟩ <;> (focus ((repeat (first | with_reducible refine ck_drew ?_ | with_reducible refine ck_old (by first | with_reducible assumption | (simp; assumption)) ?_)); (first | go_cell_look | (simp [*]; done) | go_cell)))) (first | (go_at_call 119; refine (truth_any _ _).mono ?_; rintro e w' ⟨rfl, rfl⟩))
  go_wp2_with (first | (go_at_call 120; refine (word_any _ _).mono ?_; rintro e w' ⟨rfl, rfl⟩))
  all_goals go_ret
  all_goals refine ⟨rfl, ?_, ?_, ?_⟩
  · repeat (with_reducible refine (hp_drew _ _).trans ?_)
    exact hp_new (by simp) _
  · repeat (with_reducible refine (hp_drew _ _).trans ?_)
    refine (hp_old (by first | with_reducible exact hpl | (simp; exact hpl)) _).trans ?_
    repeat (with_reducible refine (hp_drew _ _).trans ?_)
    apply Eq.trans
    · repeat (first | with_reducible exact hp | apply at_set)
    · simp
  · repeat (first | with_reducible exact World.grownBy.refl _ _ | with_reducible apply gr_set | with_reducible apply gr_alloc | with_reducible apply gr_drew)

set_option maxHeartbeats 1000000 in
theorem sr_tft (p b T : Nat) (i0 i1 now : Int) (w : World) (hp : w.heap[p]? = some (.cells #[.bool true] T)) (hb : w.heap[b]? = some (.cells #[.int .i64 i0, .int .i64 i1] 3)) (hne : p ≠ b) (h0 : (i0 != 0) = true) (h1 : (i1 != 0) = false) :
    Calls Tryz.prog 155 #[.pointer (some ⟨p, 0, none⟩), .slice (some ⟨b, 0, none⟩) 2 2, .int .i64 now] w fun e w' => e = .returned (.slice (some ⟨w.heap.size, 0, none⟩) 1 1) ∧ w'.heap[w.heap.size]? = some (.cells #[.int .i64 1] 3) ∧ w'.heap[p]? = some (.cells #[.bool true] T) ∧ w.grownBy w' (some p) := by
  have hpl := at_lt hp
  have c0 := at_cell hb 0
  have c1 := at_cell hb 1
  have d0 := at_cell hp 0
  have f0 := at_frozen hp 0
  simp at c0 c1 d0
  go_enter Tryz.func155, Tryz.ntmps155
  go_wp2
  go_region_held3 (fun w' => w'.cell? ⟨b, 0, none⟩ = some (.int .i64 i0) ∧ w'.cell? ⟨b, 1, none⟩ = some (.int .i64 i1)) (refine ⟨?_, ?_⟩ <;> (focus ((repeat (first | with_reducible refine ck_drew ?_ | with_reducible refine ck_old (by first | with_reducible assumption | (simp; assumption)) ?_)); (first | go_cell_look | (simp [*]; done) | go_cell)))) (first | (go_at_call 119; refine (truth_any _ _).mono ?_; rintro e w' ⟨rfl, rfl⟩))
  go_wp2_with (first | (go_at_call 120; refine (word_any _ _).mono ?_; rintro e w' ⟨rfl, rfl⟩))
  all_goals go_ret
  all_goals refine ⟨rfl, ?_, ?_, ?_⟩
  · repeat (with_reducible refine (hp_drew _ _).trans ?_)
    exact hp_new (by simp) _
  · repeat (with_reducible refine (hp_drew _ _).trans ?_)
    refine (hp_old (by first | with_reducible exact hpl | (simp; exact hpl)) _).trans ?_
    repeat (with_reducible refine (hp_drew _ _).trans ?_)
    apply Eq.trans
    · repeat (first | with_reducible exact hp | apply at_set)
    · simp
  · repeat (first | with_reducible exact World.grownBy.refl _ _ | with_reducible apply gr_set | with_reducible apply gr_alloc | with_reducible apply gr_drew)

set_option maxHeartbeats 1000000 in
theorem sr_tff (p b T : Nat) (i0 i1 now : Int) (w : World) (hp : w.heap[p]? = some (.cells #[.bool false] T)) (hb : w.heap[b]? = some (.cells #[.int .i64 i0, .int .i64 i1] 3)) (hne : p ≠ b) (h0 : (i0 != 0) = true) (h1 : (i1 != 0) = false) :
    Calls Tryz.prog 155 #[.pointer (some ⟨p, 0, none⟩), .slice (some ⟨b, 0, none⟩) 2 2, .int .i64 now] w fun e w' => e = .returned (.slice (some ⟨w.heap.size, 0, none⟩) 1 1) ∧ w'.heap[w.heap.size]? = some (.cells #[.int .i64 1] 3) ∧ w'.heap[p]? = some (.cells #[.bool true] T) ∧ w.grownBy w' (some p) := by
  have hpl := at_lt hp
  have c0 := at_cell hb 0
  have c1 := at_cell hb 1
  have d0 := at_cell hp 0
  have f0 := at_frozen hp 0
  simp at c0 c1 d0
  go_enter Tryz.func155, Tryz.ntmps155
  go_wp2
  go_region_held3 (fun w' => w'.cell? ⟨b, 0, none⟩ = some (.int .i64 i0) ∧ w'.cell? ⟨b, 1, none⟩ = some (.int .i64 i1)) (refine ⟨?_, ?_⟩ <;> (focus ((repeat (first | with_reducible refine ck_drew ?_ | with_reducible refine ck_old (by first | with_reducible assumption | (simp; assumption)) ?_)); (first | go_cell_look | (simp [*]; done) | go_cell)))) (first | (go_at_call 119; refine (truth_any _ _).mono ?_; rintro e w' ⟨rfl, rfl⟩))
  go_wp2_with (first | (go_at_call 120; refine (word_any _ _).mono ?_; rintro e w' ⟨rfl, rfl⟩))
  all_goals go_ret
  all_goals refine ⟨rfl, ?_, ?_, ?_⟩
  · repeat (with_reducible refine (hp_drew _ _).trans ?_)
    exact hp_new (by simp) _
  · repeat (with_reducible refine (hp_drew _ _).trans ?_)
    refine (hp_old (by first | with_reducible exact hpl | (simp; exact hpl)) _).trans ?_
    repeat (with_reducible refine (hp_drew _ _).trans ?_)
    apply Eq.trans
    · repeat (first | with_reducible exact hp | apply at_set)
    · simp
  · repeat (first | with_reducible exact World.grownBy.refl _ _ | with_reducible apply gr_set | with_reducible apply gr_alloc | with_reducible apply gr_drew)

set_option maxHeartbeats 1000000 in
theorem sr_ftt (p b T : Nat) (i0 i1 now : Int) (w : World) (hp : w.heap[p]? = some (.cells #[.bool true] T)) (hb : w.heap[b]? = some (.cells #[.int .i64 i0, .int .i64 i1] 3)) (hne : p ≠ b) (h0 : (i0 != 0) = false) (h1 : (i1 != 0) = true) :
    Calls Tryz.prog 155 #[.pointer (some ⟨p, 0, none⟩), .slice (some ⟨b, 0, none⟩) 2 2, .int .i64 now] w fun e w' => e = .returned (.slice (some ⟨w.heap.size, 0, none⟩) 1 1) ∧ w'.heap[w.heap.size]? = some (.cells #[.int .i64 0] 3) ∧ w'.heap[p]? = some (.cells #[.bool false] T) ∧ w.grownBy w' (some p) := by
  have hpl := at_lt hp
  have c0 := at_cell hb 0
  have c1 := at_cell hb 1
  have d0 := at_cell hp 0
  have f0 := at_frozen hp 0
  simp at c0 c1 d0
  go_enter Tryz.func155, Tryz.ntmps155
  go_wp2
  go_region_held3 (fun w' => w'.cell? ⟨b, 0, none⟩ = some (.int .i64 i0) ∧ w'.cell? ⟨b, 1, none⟩ = some (.int .i64 i1)) (refine ⟨?_, ?_⟩ <;> (focus ((repeat (first | with_reducible refine ck_drew ?_ | with_reducible refine ck_old (by first | with_reducible assumption | (simp; assumption)) ?_)); (first | go_cell_look | (simp [*]; done) | go_cell)))) (first | (go_at_call 119; refine (truth_any _ _).mono ?_; rintro e w' ⟨rfl, rfl⟩))
  go_wp2_with (first | (go_at_call 120; refine (word_any _ _).mono ?_; rintro e w' ⟨rfl, rfl⟩))
  all_goals go_ret
  all_goals refine ⟨rfl, ?_, ?_, ?_⟩
  · repeat (with_reducible refine (hp_drew _ _).trans ?_)
    exact hp_new (by simp) _
  · repeat (with_reducible refine (hp_drew _ _).trans ?_)
    refine (hp_old (by first | with_reducible exact hpl | (simp; exact hpl)) _).trans ?_
    repeat (with_reducible refine (hp_drew _ _).trans ?_)
    apply Eq.trans
    · repeat (first | with_reducible exact hp | apply at_set)
    · simp
  · repeat (first | with_reducible exact World.grownBy.refl _ _ | with_reducible apply gr_set | with_reducible apply gr_alloc | with_reducible apply gr_drew)

set_option maxHeartbeats 1000000 in
theorem sr_ftf (p b T : Nat) (i0 i1 now : Int) (w : World) (hp : w.heap[p]? = some (.cells #[.bool false] T)) (hb : w.heap[b]? = some (.cells #[.int .i64 i0, .int .i64 i1] 3)) (hne : p ≠ b) (h0 : (i0 != 0) = false) (h1 : (i1 != 0) = true) :
    Calls Tryz.prog 155 #[.pointer (some ⟨p, 0, none⟩), .slice (some ⟨b, 0, none⟩) 2 2, .int .i64 now] w fun e w' => e = .returned (.slice (some ⟨w.heap.size, 0, none⟩) 1 1) ∧ w'.heap[w.heap.size]? = some (.cells #[.int .i64 0] 3) ∧ w'.heap[p]? = some (.cells #[.bool false] T) ∧ w.grownBy w' (some p) := by
  have hpl := at_lt hp
  have c0 := at_cell hb 0
  have c1 := at_cell hb 1
  have d0 := at_cell hp 0
  have f0 := at_frozen hp 0
  simp at c0 c1 d0
  go_enter Tryz.func155, Tryz.ntmps155
  go_wp2
  go_region_held3 (fun w' => w'.cell? ⟨b, 0, none⟩ = some (.int .i64 i0) ∧ w'.cell? ⟨b, 1, none⟩ = some (.int .i64 i1)) (refine ⟨?_, ?_⟩ <;> (focus ((repeat (first | with_reducible refine ck_drew ?_ | with_reducible refine ck_old (by first | with_reducible assumption | (simp; assumption)) ?_)); (first | go_cell_look | (simp [*]; done) | go_cell)))) (first | (go_at_call 119; refine (truth_any _ _).mono ?_; rintro e w' ⟨rfl, rfl⟩))
  go_wp2_with (first | (go_at_call 120; refine (word_any _ _).mono ?_; rintro e w' ⟨rfl, rfl⟩))
  all_goals go_ret
  all_goals refine ⟨rfl, ?_, ?_, ?_⟩
  · repeat (with_reducible refine (hp_drew _ _).trans ?_)
    exact hp_new (by simp) _
  · repeat (with_reducible refine (hp_drew _ _).trans ?_)
    refine (hp_old (by first | with_reducible exact hpl | (simp; exact hpl)) _).trans ?_
    repeat (with_reducible refine (hp_drew _ _).trans ?_)
    apply Eq.trans
    · repeat (first | with_reducible exact hp | apply at_set)
    · simp
  · repeat (first | with_reducible exact World.grownBy.refl _ _ | with_reducible apply gr_set | with_reducible apply gr_alloc | with_reducible apply gr_drew)

set_option maxHeartbeats 1000000 in
theorem sr_fft (p b T : Nat) (i0 i1 now : Int) (w : World) (hp : w.heap[p]? = some (.cells #[.bool true] T)) (hb : w.heap[b]? = some (.cells #[.int .i64 i0, .int .i64 i1] 3)) (hne : p ≠ b) (h0 : (i0 != 0) = false) (h1 : (i1 != 0) = false) :
    Calls Tryz.prog 155 #[.pointer (some ⟨p, 0, none⟩), .slice (some ⟨b, 0, none⟩) 2 2, .int .i64 now] w fun e w' => e = .returned (.slice (some ⟨w.heap.size, 0, none⟩) 1 1) ∧ w'.heap[w.heap.size]? = some (.cells #[.int .i64 1] 3) ∧ w'.heap[p]? = some (.cells #[.bool true] T) ∧ w.grownBy w' (some p) := by
  have hpl := at_lt hp
  have c0 := at_cell hb 0
  have c1 := at_cell hb 1
  have d0 := at_cell hp 0
  have f0 := at_frozen hp 0
  simp at c0 c1 d0
  go_enter Tryz.func155, Tryz.ntmps155
  go_wp2
  go_region_held3 (fun w' => w'.cell? ⟨b, 0, none⟩ = some (.int .i64 i0) ∧ w'.cell? ⟨b, 1, none⟩ = some (.int .i64 i1)) (refine ⟨?_, ?_⟩ <;> (focus ((repeat (first | with_reducible refine ck_drew ?_ | with_reducible refine ck_old (by first | with_reducible assumption | (simp; assumption)) ?_)); (first | go_cell_look | (simp [*]; done) | go_cell)))) (first | (go_at_call 119; refine (truth_any _ _).mono ?_; rintro e w' ⟨rfl, rfl⟩))
  go_wp2_with (first | (go_at_call 120; refine (word_any _ _).mono ?_; rintro e w' ⟨rfl, rfl⟩))
  all_goals go_ret
  all_goals refine ⟨rfl, ?_, ?_, ?_⟩
  · repeat (with_reducible refine (hp_drew _ _).trans ?_)
    exact hp_new (by simp) _
  · repeat (with_reducible refine (hp_drew _ _).trans ?_)
    refine (hp_old (by first | with_reducible exact hpl | (simp; exact hpl)) _).trans ?_
    repeat (with_reducible refine (hp_drew _ _).trans ?_)
    apply Eq.trans
    · repeat (first | with_reducible exact hp | apply at_set)
    · simp
  · repeat (first | with_reducible exact World.grownBy.refl _ _ | with_reducible apply gr_set | with_reducible apply gr_alloc | with_reducible apply gr_drew)

set_option maxHeartbeats 1000000 in
theorem sr_fff (p b T : Nat) (i0 i1 now : Int) (w : World) (hp : w.heap[p]? = some (.cells #[.bool false] T)) (hb : w.heap[b]? = some (.cells #[.int .i64 i0, .int .i64 i1] 3)) (hne : p ≠ b) (h0 : (i0 != 0) = false) (h1 : (i1 != 0) = false) :
    Calls Tryz.prog 155 #[.pointer (some ⟨p, 0, none⟩), .slice (some ⟨b, 0, none⟩) 2 2, .int .i64 now] w fun e w' => e = .returned (.slice (some ⟨w.heap.size, 0, none⟩) 1 1) ∧ w'.heap[w.heap.size]? = some (.cells #[.int .i64 0] 3) ∧ w'.heap[p]? = some (.cells #[.bool false] T) ∧ w.grownBy w' (some p) := by
  have hpl := at_lt hp
  have c0 := at_cell hb 0
  have c1 := at_cell hb 1
  have d0 := at_cell hp 0
  have f0 := at_frozen hp 0
  simp at c0 c1 d0
  go_enter Tryz.func155, Tryz.ntmps155
  go_wp2
  go_region_held3 (fun w' => w'.cell? ⟨b, 0, none⟩ = some (.int .i64 i0) ∧ w'.cell? ⟨b, 1, none⟩ = some (.int .i64 i1)) (refine ⟨?_, ?_⟩ <;> (focus ((repeat (first | with_reducible refine ck_drew ?_ | with_reducible refine ck_old (by first | with_reducible assumption | (simp; assumption)) ?_)); (first | go_cell_look | (simp [*]; done) | go_cell)))) (first | (go_at_call 119; refine (truth_any _ _).mono ?_; rintro e w' ⟨rfl, rfl⟩))
  go_wp2_with (first | (go_at_call 120; refine (word_any _ _).mono ?_; rintro e w' ⟨rfl, rfl⟩))
  all_goals go_ret
  all_goals refine ⟨rfl, ?_, ?_, ?_⟩
  · repeat (with_reducible refine (hp_drew _ _).trans ?_)
    exact hp_new (by simp) _
  · repeat (with_reducible refine (hp_drew _ _).trans ?_)
    refine (hp_old (by first | with_reducible exact hpl | (simp; exact hpl)) _).trans ?_
    repeat (with_reducible refine (hp_drew _ _).trans ?_)
    apply Eq.trans
    · repeat (first | with_reducible exact hp | apply at_set)
    · simp
  · repeat (first | with_reducible exact World.grownBy.refl _ _ | with_reducible apply gr_set | with_reducible apply gr_alloc | with_reducible apply gr_drew)

set_option maxHeartbeats 1000000 in
theorem rs_ttt (p b T : Nat) (i0 i1 now : Int) (w : World) (hp : w.heap[p]? = some (.cells #[.bool true] T)) (hb : w.heap[b]? = some (.cells #[.int .i64 i0, .int .i64 i1] 3)) (hne : p ≠ b) (h0 : (i0 != 0) = true) (h1 : (i1 != 0) = true) :
    Calls Tryz.prog 158 #[.pointer (some ⟨p, 0, none⟩), .slice (some ⟨b, 0, none⟩) 2 2, .int .i64 now] w fun e w' => e = .returned (.slice (some ⟨w.heap.size, 0, none⟩) 1 1) ∧ w'.heap[w.heap.size]? = some (.cells #[.int .i64 0] 3) ∧ w'.heap[p]? = some (.cells #[.bool false] T) ∧ w.grownBy w' (some p) := by
  have hpl := at_lt hp
  have c0 := at_cell hb 0
  have c1 := at_cell hb 1
  have d0 := at_cell hp 0
  have f0 := at_frozen hp 0
  simp at c0 c1 d0
  go_enter Tryz.func158, Tryz.ntmps158
  go_wp2
  go_region_held3 (fun w' => w'.cell? ⟨b, 0, none⟩ = some (.int .i64 i0) ∧ w'.cell? ⟨b, 1, none⟩ = some (.int .i64 i1)) (refine ⟨?_, ?_⟩ <;> (focus ((repeat (first | with_reducible refine ck_drew ?_ | with_reducible refine ck_old (by first | with_reducible assumption | (simp; assumption)) ?_)); (first | go_cell_look | (simp [*]; done) | go_cell)))) (first | (go_at_call 119; refine (truth_any _ _).mono ?_; rintro e w' ⟨rfl, rfl⟩))
  go_wp2_with (first | (go_at_call 120; refine (word_any _ _).mono ?_; rintro e w' ⟨rfl, rfl⟩))
  all_goals go_ret
  all_goals refine ⟨rfl, ?_, ?_, ?_⟩
  · repeat (with_reducible refine (hp_drew _ _).trans ?_)
    exact hp_new (by simp) _
  · repeat (with_reducible refine (hp_drew _ _).trans ?_)
    refine (hp_old (by first | with_reducible exact hpl | (simp; exact hpl)) _).trans ?_
    repeat (with_reducible refine (hp_drew _ _).trans ?_)
    apply Eq.trans
    · repeat (first | with_reducible exact hp | apply at_set)
    · simp
  · repeat (first | with_reducible exact World.grownBy.refl _ _ | with_reducible apply gr_set | with_reducible apply gr_alloc | with_reducible apply gr_drew)

set_option maxHeartbeats 1000000 in
theorem rs_ttf (p b T : Nat) (i0 i1 now : Int) (w : World) (hp : w.heap[p]? = some (.cells #[.bool false] T)) (hb : w.heap[b]? = some (.cells #[.int .i64 i0, .int .i64 i1] 3)) (hne : p ≠ b) (h0 : (i0 != 0) = true) (h1 : (i1 != 0) = true) :
    Calls Tryz.prog 158 #[.pointer (some ⟨p, 0, none⟩), .slice (some ⟨b, 0, none⟩) 2 2, .int .i64 now] w fun e w' => e = .returned (.slice (some ⟨w.heap.size, 0, none⟩) 1 1) ∧ w'.heap[w.heap.size]? = some (.cells #[.int .i64 0] 3) ∧ w'.heap[p]? = some (.cells #[.bool false] T) ∧ w.grownBy w' (some p) := by
  have hpl := at_lt hp
  have c0 := at_cell hb 0
  have c1 := at_cell hb 1
  have d0 := at_cell hp 0
  have f0 := at_frozen hp 0
  simp at c0 c1 d0
  go_enter Tryz.func158, Tryz.ntmps158
  go_wp2
  go_region_held3 (fun w' => w'.cell? ⟨b, 0, none⟩ = some (.int .i64 i0) ∧ w'.cell? ⟨b, 1, none⟩ = some (.int .i64 i1)) (refine ⟨?_, ?_⟩ <;> (focus ((repeat (first | with_reducible refine ck_drew ?_ | with_reducible refine ck_old (by first | with_reducible assumption | (simp; assumption)) ?_)); (first | go_cell_look | (simp [*]; done) | go_cell)))) (first | (go_at_call 119; refine (truth_any _ _).mono ?_; rintro e w' ⟨rfl, rfl⟩))
  go_wp2_with (first | (go_at_call 120; refine (word_any _ _).mono ?_; rintro e w' ⟨rfl, rfl⟩))
  all_goals go_ret
  all_goals refine ⟨rfl, ?_, ?_, ?_⟩
  · repeat (with_reducible refine (hp_drew _ _).trans ?_)
    exact hp_new (by simp) _
  · repeat (with_reducible refine (hp_drew _ _).trans ?_)
    refine (hp_old (by first | with_reducible exact hpl | (simp; exact hpl)) _).trans ?_
    repeat (with_reducible refine (hp_drew _ _).trans ?_)
    apply Eq.trans
    · repeat (first | with_reducible exact hp | apply at_set)
    · simp
  · repeat (first | with_reducible exact World.grownBy.refl _ _ | with_reducible apply gr_set | with_reducible apply gr_alloc | with_reducible apply gr_drew)

set_option maxHeartbeats 1000000 in
theorem rs_tft (p b T : Nat) (i0 i1 now : Int) (w : World) (hp : w.heap[p]? = some (.cells #[.bool true] T)) (hb : w.heap[b]? = some (.cells #[.int .i64 i0, .int .i64 i1] 3)) (hne : p ≠ b) (h0 : (i0 != 0) = true) (h1 : (i1 != 0) = false) :
    Calls Tryz.prog 158 #[.pointer (some ⟨p, 0, none⟩), .slice (some ⟨b, 0, none⟩) 2 2, .int .i64 now] w fun e w' => e = .returned (.slice (some ⟨w.heap.size, 0, none⟩) 1 1) ∧ w'.heap[w.heap.size]? = some (.cells #[.int .i64 1] 3) ∧ w'.heap[p]? = some (.cells #[.bool true] T) ∧ w.grownBy w' (some p) := by
  have hpl := at_lt hp
  have c0 := at_cell hb 0
  have c1 := at_cell hb 1
  have d0 := at_cell hp 0
  have f0 := at_frozen hp 0
  simp at c0 c1 d0
  go_enter Tryz.func158, Tryz.ntmps158
  go_wp2
  go_region_held3 (fun w' => w'.cell? ⟨b, 0, none⟩ = some (.int .i64 i0) ∧ w'.cell? ⟨b, 1, none⟩ = some (.int .i64 i1)) (refine ⟨?_, ?_⟩ <;> (focus ((repeat (first | with_reducible refine ck_drew ?_ | with_reducible refine ck_old (by first | with_reducible assumption | (simp; assumption)) ?_)); (first | go_cell_look | (simp [*]; done) | go_cell)))) (first | (go_at_call 119; refine (truth_any _ _).mono ?_; rintro e w' ⟨rfl, rfl⟩))
  go_wp2_with (first | (go_at_call 120; refine (word_any _ _).mono ?_; rintro e w' ⟨rfl, rfl⟩))
  all_goals go_ret
  all_goals refine ⟨rfl, ?_, ?_, ?_⟩
  · repeat (with_reducible refine (hp_drew _ _).trans ?_)
    exact hp_new (by simp) _
  · repeat (with_reducible refine (hp_drew _ _).trans ?_)
    refine (hp_old (by first | with_reducible exact hpl | (simp; exact hpl)) _).trans ?_
    repeat (with_reducible refine (hp_drew _ _).trans ?_)
    apply Eq.trans
    · repeat (first | with_reducible exact hp | apply at_set)
    · simp
  · repeat (first | with_reducible exact World.grownBy.refl _ _ | with_reducible apply gr_set | with_reducible apply gr_alloc | with_reducible apply gr_drew)

set_option maxHeartbeats 1000000 in
theorem rs_tff (p b T : Nat) (i0 i1 now : Int) (w : World) (hp : w.heap[p]? = some (.cells #[.bool false] T)) (hb : w.heap[b]? = some (.cells #[.int .i64 i0, .int .i64 i1] 3)) (hne : p ≠ b) (h0 : (i0 != 0) = true) (h1 : (i1 != 0) = false) :
    Calls Tryz.prog 158 #[.pointer (some ⟨p, 0, none⟩), .slice (some ⟨b, 0, none⟩) 2 2, .int .i64 now] w fun e w' => e = .returned (.slice (some ⟨w.heap.size, 0, none⟩) 1 1) ∧ w'.heap[w.heap.size]? = some (.cells #[.int .i64 1] 3) ∧ w'.heap[p]? = some (.cells #[.bool true] T) ∧ w.grownBy w' (some p) := by
  have hpl := at_lt hp
  have c0 := at_cell hb 0
  have c1 := at_cell hb 1
  have d0 := at_cell hp 0
  have f0 := at_frozen hp 0
  simp at c0 c1 d0
  go_enter Tryz.func158, Tryz.ntmps158
  go_wp2
  go_region_held3 (fun w' => w'.cell? ⟨b, 0, none⟩ = some (.int .i64 i0) ∧ w'.cell? ⟨b, 1, none⟩ = some (.int .i64 i1)) (refine ⟨?_, ?_⟩ <;> (focus ((repeat (first | with_reducible refine ck_drew ?_ | with_reducible refine ck_old (by first | with_reducible assumption | (simp; assumption)) ?_)); (first | go_cell_look | (simp [*]; done) | go_cell)))) (first | (go_at_call 119; refine (truth_any _ _).mono ?_; rintro e w' ⟨rfl, rfl⟩))
  go_wp2_with (first | (go_at_call 120; refine (word_any _ _).mono ?_; rintro e w' ⟨rfl, rfl⟩))
  all_goals go_ret
  all_goals refine ⟨rfl, ?_, ?_, ?_⟩
  · repeat (with_reducible refine (hp_drew _ _).trans ?_)
    exact hp_new (by simp) _
  · repeat (with_reducible refine (hp_drew _ _).trans ?_)
    refine (hp_old (by first | with_reducible exact hpl | (simp; exact hpl)) _).trans ?_
    repeat (with_reducible refine (hp_drew _ _).trans ?_)
    apply Eq.trans
    · repeat (first | with_reducible exact hp | apply at_set)
    · simp
  · repeat (first | with_reducible exact World.grownBy.refl _ _ | with_reducible apply gr_set | with_reducible apply gr_alloc | with_reducible apply gr_drew)

set_option maxHeartbeats 1000000 in
theorem rs_ftt (p b T : Nat) (i0 i1 now : Int) (w : World) (hp : w.heap[p]? = some (.cells #[.bool true] T)) (hb : w.heap[b]? = some (.cells #[.int .i64 i0, .int .i64 i1] 3)) (hne : p ≠ b) (h0 : (i0 != 0) = false) (h1 : (i1 != 0) = true) :
    Calls Tryz.prog 158 #[.pointer (some ⟨p, 0, none⟩), .slice (some ⟨b, 0, none⟩) 2 2, .int .i64 now] w fun e w' => e = .returned (.slice (some ⟨w.heap.size, 0, none⟩) 1 1) ∧ w'.heap[w.heap.size]? = some (.cells #[.int .i64 0] 3) ∧ w'.heap[p]? = some (.cells #[.bool false] T) ∧ w.grownBy w' (some p) := by
  have hpl := at_lt hp
  have c0 := at_cell hb 0
  have c1 := at_cell hb 1
  have d0 := at_cell hp 0
  have f0 := at_frozen hp 0
  simp at c0 c1 d0
  go_enter Tryz.func158, Tryz.ntmps158
  go_wp2
  go_region_held3 (fun w' => w'.cell? ⟨b, 0, none⟩ = some (.int .i64 i0) ∧ w'.cell? ⟨b, 1, none⟩ = some (.int .i64 i1)) (refine ⟨?_, ?_⟩ <;> (focus ((repeat (first | with_reducible refine ck_drew ?_ | with_reducible refine ck_old (by first | with_reducible assumption | (simp; assumption)) ?_)); (first | go_cell_look | (simp [*]; done) | go_cell)))) (first | (go_at_call 119; refine (truth_any _ _).mono ?_; rintro e w' ⟨rfl, rfl⟩))
  go_wp2_with (first | (go_at_call 120; refine (word_any _ _).mono ?_; rintro e w' ⟨rfl, rfl⟩))
  all_goals go_ret
  all_goals refine ⟨rfl, ?_, ?_, ?_⟩
  · repeat (with_reducible refine (hp_drew _ _).trans ?_)
    exact hp_new (by simp) _
  · repeat (with_reducible refine (hp_drew _ _).trans ?_)
    refine (hp_old (by first | with_reducible exact hpl | (simp; exact hpl)) _).trans ?_
    repeat (with_reducible refine (hp_drew _ _).trans ?_)
    apply Eq.trans
    · repeat (first | with_reducible exact hp | apply at_set)
    · simp
  · repeat (first | with_reducible exact World.grownBy.refl _ _ | with_reducible apply gr_set | with_reducible apply gr_alloc | with_reducible apply gr_drew)

set_option maxHeartbeats 1000000 in
theorem rs_ftf (p b T : Nat) (i0 i1 now : Int) (w : World) (hp : w.heap[p]? = some (.cells #[.bool false] T)) (hb : w.heap[b]? = some (.cells #[.int .i64 i0, .int .i64 i1] 3)) (hne : p ≠ b) (h0 : (i0 != 0) = false) (h1 : (i1 != 0) = true) :
    Calls Tryz.prog 158 #[.pointer (some ⟨p, 0, none⟩), .slice (some ⟨b, 0, none⟩) 2 2, .int .i64 now] w fun e w' => e = .returned (.slice (some ⟨w.heap.size, 0, none⟩) 1 1) ∧ w'.heap[w.heap.size]? = some (.cells #[.int .i64 0] 3) ∧ w'.heap[p]? = some (.cells #[.bool false] T) ∧ w.grownBy w' (some p) := by
  have hpl := at_lt hp
  have c0 := at_cell hb 0
  have c1 := at_cell hb 1
  have d0 := at_cell hp 0
  have f0 := at_frozen hp 0
  simp at c0 c1 d0
  go_enter Tryz.func158, Tryz.ntmps158
  go_wp2
  go_region_held3 (fun w' => w'.cell? ⟨b, 0, none⟩ = some (.int .i64 i0) ∧ w'.cell? ⟨b, 1, none⟩ = some (.int .i64 i1)) (refine ⟨?_, ?_⟩ <;> (focus ((repeat (first | with_reducible refine ck_drew ?_ | with_reducible refine ck_old (by first | with_reducible assumption | (simp; assumption)) ?_)); (first | go_cell_look | (simp [*]; done) | go_cell)))) (first | (go_at_call 119; refine (truth_any _ _).mono ?_; rintro e w' ⟨rfl, rfl⟩))
  go_wp2_with (first | (go_at_call 120; refine (word_any _ _).mono ?_; rintro e w' ⟨rfl, rfl⟩))
  all_goals go_ret
  all_goals refine ⟨rfl, ?_, ?_, ?_⟩
  · repeat (with_reducible refine (hp_drew _ _).trans ?_)
    exact hp_new (by simp) _
  · repeat (with_reducible refine (hp_drew _ _).trans ?_)
    refine (hp_old (by first | with_reducible exact hpl | (simp; exact hpl)) _).trans ?_
    repeat (with_reducible refine (hp_drew _ _).trans ?_)
    apply Eq.trans
    · repeat (first | with_reducible exact hp | apply at_set)
    · simp
  · repeat (first | with_reducible exact World.grownBy.refl _ _ | with_reducible apply gr_set | with_reducible apply gr_alloc | with_reducible apply gr_drew)

set_option maxHeartbeats 1000000 in
theorem rs_fft (p b T : Nat) (i0 i1 now : Int) (w : World) (hp : w.heap[p]? = some (.cells #[.bool true] T)) (hb : w.heap[b]? = some (.cells #[.int .i64 i0, .int .i64 i1] 3)) (hne : p ≠ b) (h0 : (i0 != 0) = false) (h1 : (i1 != 0) = false) :
    Calls Tryz.prog 158 #[.pointer (some ⟨p, 0, none⟩), .slice (some ⟨b, 0, none⟩) 2 2, .int .i64 now] w fun e w' => e = .returned (.slice (some ⟨w.heap.size, 0, none⟩) 1 1) ∧ w'.heap[w.heap.size]? = some (.cells #[.int .i64 1] 3) ∧ w'.heap[p]? = some (.cells #[.bool true] T) ∧ w.grownBy w' (some p) := by
  have hpl := at_lt hp
  have c0 := at_cell hb 0
  have c1 := at_cell hb 1
  have d0 := at_cell hp 0
  have f0 := at_frozen hp 0
  simp at c0 c1 d0
  go_enter Tryz.func158, Tryz.ntmps158
  go_wp2
  go_region_held3 (fun w' => w'.cell? ⟨b, 0, none⟩ = some (.int .i64 i0) ∧ w'.cell? ⟨b, 1, none⟩ = some (.int .i64 i1)) (refine ⟨?_, ?_⟩ <;> (focus ((repeat (first | with_reducible refine ck_drew ?_ | with_reducible refine ck_old (by first | with_reducible assumption | (simp; assumption)) ?_)); (first | go_cell_look | (simp [*]; done) | go_cell)))) (first | (go_at_call 119; refine (truth_any _ _).mono ?_; rintro e w' ⟨rfl, rfl⟩))
  go_wp2_with (first | (go_at_call 120; refine (word_any _ _).mono ?_; rintro e w' ⟨rfl, rfl⟩))
  all_goals go_ret
  all_goals refine ⟨rfl, ?_, ?_, ?_⟩
  · repeat (with_reducible refine (hp_drew _ _).trans ?_)
    exact hp_new (by simp) _
  · repeat (with_reducible refine (hp_drew _ _).trans ?_)
    refine (hp_old (by first | with_reducible exact hpl | (simp; exact hpl)) _).trans ?_
    repeat (with_reducible refine (hp_drew _ _).trans ?_)
    apply Eq.trans
    · repeat (first | with_reducible exact hp | apply at_set)
    · simp
  · repeat (first | with_reducible exact World.grownBy.refl _ _ | with_reducible apply gr_set | with_reducible apply gr_alloc | with_reducible apply gr_drew)

set_option maxHeartbeats 1000000 in
theorem rs_fff (p b T : Nat) (i0 i1 now : Int) (w : World) (hp : w.heap[p]? = some (.cells #[.bool false] T)) (hb : w.heap[b]? = some (.cells #[.int .i64 i0, .int .i64 i1] 3)) (hne : p ≠ b) (h0 : (i0 != 0) = false) (h1 : (i1 != 0) = false) :
    Calls Tryz.prog 158 #[.pointer (some ⟨p, 0, none⟩), .slice (some ⟨b, 0, none⟩) 2 2, .int .i64 now] w fun e w' => e = .returned (.slice (some ⟨w.heap.size, 0, none⟩) 1 1) ∧ w'.heap[w.heap.size]? = some (.cells #[.int .i64 0] 3) ∧ w'.heap[p]? = some (.cells #[.bool false] T) ∧ w.grownBy w' (some p) := by
  have hpl := at_lt hp
  have c0 := at_cell hb 0
  have c1 := at_cell hb 1
  have d0 := at_cell hp 0
  have f0 := at_frozen hp 0
  simp at c0 c1 d0
  go_enter Tryz.func158, Tryz.ntmps158
  go_wp2
  go_region_held3 (fun w' => w'.cell? ⟨b, 0, none⟩ = some (.int .i64 i0) ∧ w'.cell? ⟨b, 1, none⟩ = some (.int .i64 i1)) (refine ⟨?_, ?_⟩ <;> (focus ((repeat (first | with_reducible refine ck_drew ?_ | with_reducible refine ck_old (by first | with_reducible assumption | (simp; assumption)) ?_)); (first | go_cell_look | (simp [*]; done) | go_cell)))) (first | (go_at_call 119; refine (truth_any _ _).mono ?_; rintro e w' ⟨rfl, rfl⟩))
  go_wp2_with (first | (go_at_call 120; refine (word_any _ _).mono ?_; rintro e w' ⟨rfl, rfl⟩))
  all_goals go_ret
  all_goals refine ⟨rfl, ?_, ?_, ?_⟩
  · repeat (with_reducible refine (hp_drew _ _).trans ?_)
    exact hp_new (by simp) _
  · repeat (with_reducible refine (hp_drew _ _).trans ?_)
    refine (hp_old (by first | with_reducible exact hpl | (simp; exact hpl)) _).trans ?_
    repeat (with_reducible refine (hp_drew _ _).trans ?_)
    apply Eq.trans
    · repeat (first | with_reducible exact hp | apply at_set)
    · simp
  · repeat (first | with_reducible exact World.grownBy.refl _ _ | with_reducible apply gr_set | with_reducible apply gr_alloc | with_reducible apply gr_drew)

end Go.Proofs.YtcgbfhpmkpglkaaGreatDoor.Bl

/- hyst, ramp: their steps. -/
namespace Go.Proofs.YtcgbfhpmkpglkaaGreatDoor.Bl
open Go.RowKit
attribute [local go_sem ↓] Go.wp_at_zero Go.wp_at_succ
set_option linter.unusedVariables false

set_option maxHeartbeats 1000000 in
theorem hyst_on (p b T : Nat) (on : Bool) (x hi lo now : Int) (w : World) (hp : w.heap[p]? = some (.cells #[.bool on] T)) (hb : w.heap[b]? = some (.cells #[.int .i64 x, .int .i64 hi, .int .i64 lo] 3)) (hne : p ≠ b) (h0 : hi ≤ x) :
    Calls Tryz.prog 164 #[.pointer (some ⟨p, 0, none⟩), .slice (some ⟨b, 0, none⟩) 3 3, .int .i64 now] w fun e w' => e = .returned (.slice (some ⟨w.heap.size, 0, none⟩) 1 1) ∧ w'.heap[w.heap.size]? = some (.cells #[.int .i64 1] 3) ∧ w'.heap[p]? = some (.cells #[.bool true] T) ∧ w.grownBy w' (some p) := by
  have hpl := at_lt hp
  have c0 := at_cell hb 0
  have c1 := at_cell hb 1
  have c2 := at_cell hb 2
  have d0 := at_cell hp 0
  have f0 := at_frozen hp 0
  simp at c0 c1 c2 d0
  go_enter Tryz.func164, Tryz.ntmps164
  go_wp2
  go_region_held3 (fun w' => w'.cell? ⟨b, 0, none⟩ = some (.int .i64 x) ∧ w'.cell? ⟨b, 1, none⟩ = some (.int .i64 hi) ∧ w'.cell? ⟨b, 2, none⟩ = some (.int .i64 lo)) (refine ⟨?_, ?_, ?_⟩ <;> (focus ((repeat (first | with_reducible refine ck_drew ?_ | with_reducible refine ck_old (by first | with_reducible assumption | (simp; assumption)) ?_)); (first | go_cell_look | (simp [*]; done) | go_cell)))) (fail)
  go_wp2_with (first | (go_at_call 120; refine (word_any _ _).mono ?_; rintro e w' ⟨rfl, rfl⟩))
  all_goals go_ret
  all_goals refine ⟨rfl, ?_, ?_, ?_⟩
  · repeat (with_reducible refine (hp_drew _ _).trans ?_)
    exact hp_new (by simp) _
  · repeat (with_reducible refine (hp_drew _ _).trans ?_)
    refine (hp_old (by first | with_reducible exact hpl | (simp; exact hpl)) _).trans ?_
    repeat (with_reducible refine (hp_drew _ _).trans ?_)
    apply Eq.trans
    · repeat (first | with_reducible exact hp | apply at_set)
    · simp
  · repeat (first | with_reducible exact World.grownBy.refl _ _ | with_reducible apply gr_set | with_reducible apply gr_alloc | with_reducible apply gr_drew)

set_option maxHeartbeats 1000000 in
theorem hyst_off (p b T : Nat) (on : Bool) (x hi lo now : Int) (w : World) (hp : w.heap[p]? = some (.cells #[.bool on] T)) (hb : w.heap[b]? = some (.cells #[.int .i64 x, .int .i64 hi, .int .i64 lo] 3)) (hne : p ≠ b) (h0 : ¬ hi ≤ x) (h1 : x ≤ lo) :
    Calls Tryz.prog 164 #[.pointer (some ⟨p, 0, none⟩), .slice (some ⟨b, 0, none⟩) 3 3, .int .i64 now] w fun e w' => e = .returned (.slice (some ⟨w.heap.size, 0, none⟩) 1 1) ∧ w'.heap[w.heap.size]? = some (.cells #[.int .i64 0] 3) ∧ w'.heap[p]? = some (.cells #[.bool false] T) ∧ w.grownBy w' (some p) := by
  have hpl := at_lt hp
  have c0 := at_cell hb 0
  have c1 := at_cell hb 1
  have c2 := at_cell hb 2
  have d0 := at_cell hp 0
  have f0 := at_frozen hp 0
  simp at c0 c1 c2 d0
  go_enter Tryz.func164, Tryz.ntmps164
  go_wp2
  go_region_held3 (fun w' => w'.cell? ⟨b, 0, none⟩ = some (.int .i64 x) ∧ w'.cell? ⟨b, 1, none⟩ = some (.int .i64 hi) ∧ w'.cell? ⟨b, 2, none⟩ = some (.int .i64 lo)) (refine ⟨?_, ?_, ?_⟩ <;> (focus ((repeat (first | with_reducible refine ck_drew ?_ | with_reducible refine ck_old (by first | with_reducible assumption | (simp; assumption)) ?_)); (first | go_cell_look | (simp [*]; done) | go_cell)))) (fail)
  go_wp2_with (first | (go_at_call 120; refine (word_any _ _).mono ?_; rintro e w' ⟨rfl, rfl⟩))
  all_goals go_ret
  all_goals refine ⟨rfl, ?_, ?_, ?_⟩
  · repeat (with_reducible refine (hp_drew _ _).trans ?_)
    exact hp_new (by simp) _
  · repeat (with_reducible refine (hp_drew _ _).trans ?_)
    refine (hp_old (by first | with_reducible exact hpl | (simp; exact hpl)) _).trans ?_
    repeat (with_reducible refine (hp_drew _ _).trans ?_)
    apply Eq.trans
    · repeat (first | with_reducible exact hp | apply at_set)
    · simp
  · repeat (first | with_reducible exact World.grownBy.refl _ _ | with_reducible apply gr_set | with_reducible apply gr_alloc | with_reducible apply gr_drew)

set_option maxHeartbeats 1000000 in
theorem hyst_t (p b T : Nat) (x hi lo now : Int) (w : World) (hp : w.heap[p]? = some (.cells #[.bool true] T)) (hb : w.heap[b]? = some (.cells #[.int .i64 x, .int .i64 hi, .int .i64 lo] 3)) (hne : p ≠ b) (h0 : ¬ hi ≤ x) (h1 : ¬ x ≤ lo) :
    Calls Tryz.prog 164 #[.pointer (some ⟨p, 0, none⟩), .slice (some ⟨b, 0, none⟩) 3 3, .int .i64 now] w fun e w' => e = .returned (.slice (some ⟨w.heap.size, 0, none⟩) 1 1) ∧ w'.heap[w.heap.size]? = some (.cells #[.int .i64 1] 3) ∧ w'.heap[p]? = some (.cells #[.bool true] T) ∧ w.grownBy w' (some p) := by
  have hpl := at_lt hp
  have c0 := at_cell hb 0
  have c1 := at_cell hb 1
  have c2 := at_cell hb 2
  have d0 := at_cell hp 0
  have f0 := at_frozen hp 0
  simp at c0 c1 c2 d0
  go_enter Tryz.func164, Tryz.ntmps164
  go_wp2
  go_region_held3 (fun w' => w'.cell? ⟨b, 0, none⟩ = some (.int .i64 x) ∧ w'.cell? ⟨b, 1, none⟩ = some (.int .i64 hi) ∧ w'.cell? ⟨b, 2, none⟩ = some (.int .i64 lo)) (refine ⟨?_, ?_, ?_⟩ <;> (focus ((repeat (first | with_reducible refine ck_drew ?_ | with_reducible refine ck_old (by first | with_reducible assumption | (simp; assumption)) ?_)); (first | go_cell_look | (simp [*]; done) | go_cell)))) (fail)
  go_wp2_with (first | (go_at_call 120; refine (word_any _ _).mono ?_; rintro e w' ⟨rfl, rfl⟩))
  all_goals go_ret
  all_goals refine ⟨rfl, ?_, ?_, ?_⟩
  · repeat (with_reducible refine (hp_drew _ _).trans ?_)
    exact hp_new (by simp) _
  · repeat (with_reducible refine (hp_drew _ _).trans ?_)
    refine (hp_old (by first | with_reducible exact hpl | (simp; exact hpl)) _).trans ?_
    repeat (with_reducible refine (hp_drew _ _).trans ?_)
    apply Eq.trans
    · repeat (first | with_reducible exact hp | apply at_set)
    · simp
  · repeat (first | with_reducible exact World.grownBy.refl _ _ | with_reducible apply gr_set | with_reducible apply gr_alloc | with_reducible apply gr_drew)

set_option maxHeartbeats 1000000 in
theorem hyst_f (p b T : Nat) (x hi lo now : Int) (w : World) (hp : w.heap[p]? = some (.cells #[.bool false] T)) (hb : w.heap[b]? = some (.cells #[.int .i64 x, .int .i64 hi, .int .i64 lo] 3)) (hne : p ≠ b) (h0 : ¬ hi ≤ x) (h1 : ¬ x ≤ lo) :
    Calls Tryz.prog 164 #[.pointer (some ⟨p, 0, none⟩), .slice (some ⟨b, 0, none⟩) 3 3, .int .i64 now] w fun e w' => e = .returned (.slice (some ⟨w.heap.size, 0, none⟩) 1 1) ∧ w'.heap[w.heap.size]? = some (.cells #[.int .i64 0] 3) ∧ w'.heap[p]? = some (.cells #[.bool false] T) ∧ w.grownBy w' (some p) := by
  have hpl := at_lt hp
  have c0 := at_cell hb 0
  have c1 := at_cell hb 1
  have c2 := at_cell hb 2
  have d0 := at_cell hp 0
  have f0 := at_frozen hp 0
  simp at c0 c1 c2 d0
  go_enter Tryz.func164, Tryz.ntmps164
  go_wp2
  go_region_held3 (fun w' => w'.cell? ⟨b, 0, none⟩ = some (.int .i64 x) ∧ w'.cell? ⟨b, 1, none⟩ = some (.int .i64 hi) ∧ w'.cell? ⟨b, 2, none⟩ = some (.int .i64 lo)) (refine ⟨?_, ?_, ?_⟩ <;> (focus ((repeat (first | with_reducible refine ck_drew ?_ | with_reducible refine ck_old (by first | with_reducible assumption | (simp; assumption)) ?_)); (first | go_cell_look | (simp [*]; done) | go_cell)))) (fail)
  go_wp2_with (first | (go_at_call 120; refine (word_any _ _).mono ?_; rintro e w' ⟨rfl, rfl⟩))
  all_goals go_ret
  all_goals refine ⟨rfl, ?_, ?_, ?_⟩
  · repeat (with_reducible refine (hp_drew _ _).trans ?_)
    exact hp_new (by simp) _
  · repeat (with_reducible refine (hp_drew _ _).trans ?_)
    refine (hp_old (by first | with_reducible exact hpl | (simp; exact hpl)) _).trans ?_
    repeat (with_reducible refine (hp_drew _ _).trans ?_)
    apply Eq.trans
    · repeat (first | with_reducible exact hp | apply at_set)
    · simp
  · repeat (first | with_reducible exact World.grownBy.refl _ _ | with_reducible apply gr_set | with_reducible apply gr_alloc | with_reducible apply gr_drew)

set_option maxHeartbeats 1000000 in
theorem ramp_n1 (p b T : Nat) (x k a now : Int) (w : World) (hp : w.heap[p]? = some (.cells #[.int .i64 a] T)) (hb : w.heap[b]? = some (.cells #[.int .i64 x, .int .i64 k] 3)) (hne : p ≠ b) (hx0 : -32768 ≤ x) (hx1 : x ≤ 32767) (ha0 : -32768 ≤ a) (ha1 : a ≤ 32767) (hk0 : -32768 ≤ k) (hk1 : k ≤ 32767) (h0 : k < 0) (h1 : 0 ≤ x - a) :
    Calls Tryz.prog 162 #[.pointer (some ⟨p, 0, none⟩), .slice (some ⟨b, 0, none⟩) 2 2, .int .i64 now] w fun e w' => e = .returned (.slice (some ⟨w.heap.size, 0, none⟩) 1 1) ∧ w'.heap[w.heap.size]? = some (.cells #[.int .i64 a] 3) ∧ w'.heap[p]? = some (.cells #[.int .i64 a] T) ∧ w.grownBy w' (some p) := by
  have hpl := at_lt hp
  have c0 := at_cell hb 0
  have c1 := at_cell hb 1
  have d0 := at_cell hp 0
  have f0 := at_frozen hp 0
  simp at c0 c1 d0
  go_enter Tryz.func162, Tryz.ntmps162
  go_wp2
  go_region_held3 (fun w' => w'.cell? ⟨b, 0, none⟩ = some (.int .i64 x) ∧ w'.cell? ⟨b, 1, none⟩ = some (.int .i64 k)) (refine ⟨?_, ?_⟩ <;> (focus ((repeat (first | with_reducible refine ck_drew ?_ | with_reducible refine ck_old (by first | with_reducible assumption | (simp; assumption)) ?_)); (first | go_cell_look | (simp [*]; done) | go_cell)))) (fail)
  go_wp2
  go_region
  all_goals go_wp2
  all_goals go_ret
  all_goals exact ⟨rfl,
    by
      repeat (with_reducible refine (hp_drew _ _).trans ?_)
      refine (hp_new (by simp) _).trans ?_
      first | rfl | (simp; done) | (simp; omega),
    by
      repeat (with_reducible refine (hp_drew _ _).trans ?_)
      refine (hp_old (by first | with_reducible exact hpl | (simp; exact hpl)) _).trans ?_
      repeat (with_reducible refine (hp_drew _ _).trans ?_)
      apply Eq.trans
      · repeat (first | with_reducible exact hp | apply at_set)
      · first | (simp; done) | (simp; omega),
    by
      repeat (first | with_reducible exact World.grownBy.refl _ _ | with_reducible apply gr_set | with_reducible apply gr_alloc | with_reducible apply gr_drew)⟩

set_option maxHeartbeats 1000000 in
theorem ramp_n2 (p b T : Nat) (x k a now : Int) (w : World) (hp : w.heap[p]? = some (.cells #[.int .i64 a] T)) (hb : w.heap[b]? = some (.cells #[.int .i64 x, .int .i64 k] 3)) (hne : p ≠ b) (hx0 : -32768 ≤ x) (hx1 : x ≤ 32767) (ha0 : -32768 ≤ a) (ha1 : a ≤ 32767) (hk0 : -32768 ≤ k) (hk1 : k ≤ 32767) (h0 : k < 0) (h1 : x - a < 0) :
    Calls Tryz.prog 162 #[.pointer (some ⟨p, 0, none⟩), .slice (some ⟨b, 0, none⟩) 2 2, .int .i64 now] w fun e w' => e = .returned (.slice (some ⟨w.heap.size, 0, none⟩) 1 1) ∧ w'.heap[w.heap.size]? = some (.cells #[.int .i64 a] 3) ∧ w'.heap[p]? = some (.cells #[.int .i64 a] T) ∧ w.grownBy w' (some p) := by
  have hpl := at_lt hp
  have c0 := at_cell hb 0
  have c1 := at_cell hb 1
  have d0 := at_cell hp 0
  have f0 := at_frozen hp 0
  simp at c0 c1 d0
  go_enter Tryz.func162, Tryz.ntmps162
  go_wp2
  go_region_held3 (fun w' => w'.cell? ⟨b, 0, none⟩ = some (.int .i64 x) ∧ w'.cell? ⟨b, 1, none⟩ = some (.int .i64 k)) (refine ⟨?_, ?_⟩ <;> (focus ((repeat (first | with_reducible refine ck_drew ?_ | with_reducible refine ck_old (by first | with_reducible assumption | (simp; assumption)) ?_)); (first | go_cell_look | (simp [*]; done) | go_cell)))) (fail)
  go_wp2
  go_region
  all_goals go_wp2
  all_goals go_ret
  all_goals exact ⟨rfl,
    by
      repeat (with_reducible refine (hp_drew _ _).trans ?_)
      refine (hp_new (by simp) _).trans ?_
      first | rfl | (simp; done) | (simp; omega),
    by
      repeat (with_reducible refine (hp_drew _ _).trans ?_)
      refine (hp_old (by first | with_reducible exact hpl | (simp; exact hpl)) _).trans ?_
      repeat (with_reducible refine (hp_drew _ _).trans ?_)
      apply Eq.trans
      · repeat (first | with_reducible exact hp | apply at_set)
      · first | (simp; done) | (simp; omega),
    by
      repeat (first | with_reducible exact World.grownBy.refl _ _ | with_reducible apply gr_set | with_reducible apply gr_alloc | with_reducible apply gr_drew)⟩

set_option maxHeartbeats 1000000 in
theorem ramp_lo (p b T : Nat) (x k a now : Int) (w : World) (hp : w.heap[p]? = some (.cells #[.int .i64 a] T)) (hb : w.heap[b]? = some (.cells #[.int .i64 x, .int .i64 k] 3)) (hne : p ≠ b) (hx0 : -32768 ≤ x) (hx1 : x ≤ 32767) (ha0 : -32768 ≤ a) (ha1 : a ≤ 32767) (hk0 : -32768 ≤ k) (hk1 : k ≤ 32767) (h0 : 0 ≤ k) (h1 : x - a < -k) :
    Calls Tryz.prog 162 #[.pointer (some ⟨p, 0, none⟩), .slice (some ⟨b, 0, none⟩) 2 2, .int .i64 now] w fun e w' => e = .returned (.slice (some ⟨w.heap.size, 0, none⟩) 1 1) ∧ w'.heap[w.heap.size]? = some (.cells #[.int .i64 (a - k)] 3) ∧ w'.heap[p]? = some (.cells #[.int .i64 (a - k)] T) ∧ w.grownBy w' (some p) := by
  have hpl := at_lt hp
  have c0 := at_cell hb 0
  have c1 := at_cell hb 1
  have d0 := at_cell hp 0
  have f0 := at_frozen hp 0
  simp at c0 c1 d0
  go_enter Tryz.func162, Tryz.ntmps162
  go_wp2
  go_region_held3 (fun w' => w'.cell? ⟨b, 0, none⟩ = some (.int .i64 x) ∧ w'.cell? ⟨b, 1, none⟩ = some (.int .i64 k)) (refine ⟨?_, ?_⟩ <;> (focus ((repeat (first | with_reducible refine ck_drew ?_ | with_reducible refine ck_old (by first | with_reducible assumption | (simp; assumption)) ?_)); (first | go_cell_look | (simp [*]; done) | go_cell)))) (fail)
  go_wp2
  go_region
  all_goals go_wp2
  all_goals go_ret
  all_goals exact ⟨rfl,
    by
      repeat (with_reducible refine (hp_drew _ _).trans ?_)
      refine (hp_new (by simp) _).trans ?_
      first | rfl | (simp; done) | (simp; omega),
    by
      repeat (with_reducible refine (hp_drew _ _).trans ?_)
      refine (hp_old (by first | with_reducible exact hpl | (simp; exact hpl)) _).trans ?_
      repeat (with_reducible refine (hp_drew _ _).trans ?_)
      apply Eq.trans
      · repeat (first | with_reducible exact hp | apply at_set)
      · first | (simp; done) | (simp; omega),
    by
      repeat (first | with_reducible exact World.grownBy.refl _ _ | with_reducible apply gr_set | with_reducible apply gr_alloc | with_reducible apply gr_drew)⟩

set_option maxHeartbeats 1000000 in
theorem ramp_mid (p b T : Nat) (x k a now : Int) (w : World) (hp : w.heap[p]? = some (.cells #[.int .i64 a] T)) (hb : w.heap[b]? = some (.cells #[.int .i64 x, .int .i64 k] 3)) (hne : p ≠ b) (hx0 : -32768 ≤ x) (hx1 : x ≤ 32767) (ha0 : -32768 ≤ a) (ha1 : a ≤ 32767) (hk0 : -32768 ≤ k) (hk1 : k ≤ 32767) (h0 : 0 ≤ k) (h1 : -k ≤ x - a) (h2 : x - a ≤ k) :
    Calls Tryz.prog 162 #[.pointer (some ⟨p, 0, none⟩), .slice (some ⟨b, 0, none⟩) 2 2, .int .i64 now] w fun e w' => e = .returned (.slice (some ⟨w.heap.size, 0, none⟩) 1 1) ∧ w'.heap[w.heap.size]? = some (.cells #[.int .i64 x] 3) ∧ w'.heap[p]? = some (.cells #[.int .i64 x] T) ∧ w.grownBy w' (some p) := by
  have hpl := at_lt hp
  have c0 := at_cell hb 0
  have c1 := at_cell hb 1
  have d0 := at_cell hp 0
  have f0 := at_frozen hp 0
  simp at c0 c1 d0
  go_enter Tryz.func162, Tryz.ntmps162
  go_wp2
  go_region_held3 (fun w' => w'.cell? ⟨b, 0, none⟩ = some (.int .i64 x) ∧ w'.cell? ⟨b, 1, none⟩ = some (.int .i64 k)) (refine ⟨?_, ?_⟩ <;> (focus ((repeat (first | with_reducible refine ck_drew ?_ | with_reducible refine ck_old (by first | with_reducible assumption | (simp; assumption)) ?_)); (first | go_cell_look | (simp [*]; done) | go_cell)))) (fail)
  go_wp2
  go_region
  all_goals go_wp2
  all_goals go_ret
  all_goals exact ⟨rfl,
    by
      repeat (with_reducible refine (hp_drew _ _).trans ?_)
      refine (hp_new (by simp) _).trans ?_
      first | rfl | (simp; done) | (simp; omega),
    by
      repeat (with_reducible refine (hp_drew _ _).trans ?_)
      refine (hp_old (by first | with_reducible exact hpl | (simp; exact hpl)) _).trans ?_
      repeat (with_reducible refine (hp_drew _ _).trans ?_)
      apply Eq.trans
      · repeat (first | with_reducible exact hp | apply at_set)
      · first | (simp; done) | (simp; omega),
    by
      repeat (first | with_reducible exact World.grownBy.refl _ _ | with_reducible apply gr_set | with_reducible apply gr_alloc | with_reducible apply gr_drew)⟩

set_option maxHeartbeats 1000000 in
theorem ramp_hi (p b T : Nat) (x k a now : Int) (w : World) (hp : w.heap[p]? = some (.cells #[.int .i64 a] T)) (hb : w.heap[b]? = some (.cells #[.int .i64 x, .int .i64 k] 3)) (hne : p ≠ b) (hx0 : -32768 ≤ x) (hx1 : x ≤ 32767) (ha0 : -32768 ≤ a) (ha1 : a ≤ 32767) (hk0 : -32768 ≤ k) (hk1 : k ≤ 32767) (h0 : 0 ≤ k) (h1 : -k ≤ x - a) (h2 : k < x - a) :
    Calls Tryz.prog 162 #[.pointer (some ⟨p, 0, none⟩), .slice (some ⟨b, 0, none⟩) 2 2, .int .i64 now] w fun e w' => e = .returned (.slice (some ⟨w.heap.size, 0, none⟩) 1 1) ∧ w'.heap[w.heap.size]? = some (.cells #[.int .i64 (a + k)] 3) ∧ w'.heap[p]? = some (.cells #[.int .i64 (a + k)] T) ∧ w.grownBy w' (some p) := by
  have hpl := at_lt hp
  have c0 := at_cell hb 0
  have c1 := at_cell hb 1
  have d0 := at_cell hp 0
  have f0 := at_frozen hp 0
  simp at c0 c1 d0
  go_enter Tryz.func162, Tryz.ntmps162
  go_wp2
  go_region_held3 (fun w' => w'.cell? ⟨b, 0, none⟩ = some (.int .i64 x) ∧ w'.cell? ⟨b, 1, none⟩ = some (.int .i64 k)) (refine ⟨?_, ?_⟩ <;> (focus ((repeat (first | with_reducible refine ck_drew ?_ | with_reducible refine ck_old (by first | with_reducible assumption | (simp; assumption)) ?_)); (first | go_cell_look | (simp [*]; done) | go_cell)))) (fail)
  go_wp2
  go_region
  all_goals go_wp2
  all_goals go_ret
  all_goals exact ⟨rfl,
    by
      repeat (with_reducible refine (hp_drew _ _).trans ?_)
      refine (hp_new (by simp) _).trans ?_
      first | rfl | (simp; done) | (simp; omega),
    by
      repeat (with_reducible refine (hp_drew _ _).trans ?_)
      refine (hp_old (by first | with_reducible exact hpl | (simp; exact hpl)) _).trans ?_
      repeat (with_reducible refine (hp_drew _ _).trans ?_)
      apply Eq.trans
      · repeat (first | with_reducible exact hp | apply at_set)
      · first | (simp; done) | (simp; omega),
    by
      repeat (first | with_reducible exact World.grownBy.refl _ _ | with_reducible apply gr_set | with_reducible apply gr_alloc | with_reducible apply gr_drew)⟩

end Go.Proofs.YtcgbfhpmkpglkaaGreatDoor.Bl

/- Step at rtrig, ftrig, sr, rs, ramp, hyst. -/
namespace Go.Proofs.YtcgbfhpmkpglkaaGreatDoor.Bl
open Go.RowKit

set_option linter.unusedVariables false
set_option linter.unusedSimpArgs false
theorem load_e (p b T : Nat) (l : List Int) (w : World) (hp : w.heap[p]? = some (.cells #[.bool false] T)) (hb : w.heap[b]? = some (.cells (intsA (wrapL [1] l)) 3)) (hne : p ≠ b) :
    Calls Tryz.prog 147 #[.pointer (some ⟨p, 0, none⟩), .slice (some ⟨b, 0, none⟩) 1 1] w fun e w' => e = .returned (.tuple #[]) ∧ w'.heap[p]? = some (.cells (A1 (wrapL [1] l)) T) ∧ w.grownBy w' (some p) := by
  obtain ⟨a0, e⟩ := form1 1 l
  rw [e] at hb ⊢
  exact load_edge p b T 3 _ _ w hp hb hne
theorem save_e (p T : Nat) (n0 : Int) (h0 : n0 = 0 ∨ n0 = 1) (w : World) (hp : w.heap[p]? = some (.cells (A1 [n0]) T)) :
    Calls Tryz.prog 148 #[.pointer (some ⟨p, 0, none⟩)] w fun e w' => e = .returned (.slice (some ⟨w.heap.size, 0, none⟩) 1 1) ∧ w'.heap[w.heap.size]? = some (.cells (intsA [n0]) 3) ∧ w.grownBy w' none := by
  have h := save_edge p T  (n0 != 0) w hp
  rw [yes_bit h0] at h
  exact h

theorem load_l (p b T : Nat) (l : List Int) (w : World) (hp : w.heap[p]? = some (.cells #[.bool false] T)) (hb : w.heap[b]? = some (.cells (intsA (wrapL [1] l)) 3)) (hne : p ≠ b) :
    Calls Tryz.prog 152 #[.pointer (some ⟨p, 0, none⟩), .slice (some ⟨b, 0, none⟩) 1 1] w fun e w' => e = .returned (.tuple #[]) ∧ w'.heap[p]? = some (.cells (A1 (wrapL [1] l)) T) ∧ w.grownBy w' (some p) := by
  obtain ⟨a0, e⟩ := form1 1 l
  rw [e] at hb ⊢
  exact load_latch p b T 3 _ _ w hp hb hne
theorem save_l (p T : Nat) (n0 : Int) (h0 : n0 = 0 ∨ n0 = 1) (w : World) (hp : w.heap[p]? = some (.cells (A1 [n0]) T)) :
    Calls Tryz.prog 153 #[.pointer (some ⟨p, 0, none⟩)] w fun e w' => e = .returned (.slice (some ⟨w.heap.size, 0, none⟩) 1 1) ∧ w'.heap[w.heap.size]? = some (.cells (intsA [n0]) 3) ∧ w.grownBy w' none := by
  have h := save_latch p T  (n0 != 0) w hp
  rw [yes_bit h0] at h
  exact h

theorem load_r (p b T : Nat) (l : List Int) (w : World) (hp : w.heap[p]? = some (.cells #[.int .i64 0] T)) (hb : w.heap[b]? = some (.cells (intsA (wrapL [2] l)) 3)) (hne : p ≠ b) :
    Calls Tryz.prog 159 #[.pointer (some ⟨p, 0, none⟩), .slice (some ⟨b, 0, none⟩) 1 1] w fun e w' => e = .returned (.tuple #[]) ∧ w'.heap[p]? = some (.cells (A1i (wrapL [2] l)) T) ∧ w.grownBy w' (some p) := by
  obtain ⟨a0, e⟩ := form1 2 l
  rw [e] at hb ⊢
  exact load_ramp p b T 3 _ _ w hp hb hne
theorem save_r (p T : Nat) (n0 : Int)  (w : World) (hp : w.heap[p]? = some (.cells (A1i [n0]) T)) :
    Calls Tryz.prog 160 #[.pointer (some ⟨p, 0, none⟩)] w fun e w' => e = .returned (.slice (some ⟨w.heap.size, 0, none⟩) 1 1) ∧ w'.heap[w.heap.size]? = some (.cells (intsA [n0]) 3) ∧ w.grownBy w' none := by
  have h := save_ramp p T n0  w hp
  skip
  exact h

theorem rtrig_step (p b T : Nat) (x0 i0 now : Int) (h_x0 : x0 = 0 ∨ x0 = 1) (h_i0 : i0 = 0 ∨ i0 = 1) (l_now : 0 ≤ now) (u_now : now ≤ 4294967295) (w : World)
    (hp : w.heap[p]? = some (.cells (A1 [x0]) T)) (hb : w.heap[b]? = some (.cells (intsA [i0]) 3)) (hne : p ≠ b) :
    Calls Tryz.prog 150 #[.pointer (some ⟨p, 0, none⟩), .slice (some ⟨b, 0, none⟩) 1 1, .int .i64 now] w fun e w' => e = .returned (.slice (some ⟨w.heap.size, 0, none⟩) 1 1) ∧ w'.heap[w.heap.size]? = some (.cells (intsA (rtrigF [x0] [i0] now).2) 3) ∧ w'.heap[p]? = some (.cells (A1 (rtrigF [x0] [i0] now).1) T) ∧ w.grownBy w' (some p) := by
  rcases h_i0 with rfl | rfl <;> rcases h_x0 with rfl | rfl
  · exact (rtrig_ff p b T 0 now w hp hb hne rfl).mono fun e w' ⟨a1, a2, a3, a4⟩ => ⟨a1, a2, a3, a4⟩
  · exact (rtrig_ft p b T 0 now w hp hb hne rfl).mono fun e w' ⟨a1, a2, a3, a4⟩ => ⟨a1, a2, a3, a4⟩
  · exact (rtrig_tf p b T 1 now w hp hb hne rfl).mono fun e w' ⟨a1, a2, a3, a4⟩ => ⟨a1, a2, a3, a4⟩
  · exact (rtrig_tt p b T 1 now w hp hb hne rfl).mono fun e w' ⟨a1, a2, a3, a4⟩ => ⟨a1, a2, a3, a4⟩

theorem rtrig_form (x0 i0 now : Int) (h_x0 : x0 = 0 ∨ x0 = 1) (h_i0 : i0 = 0 ∨ i0 = 1) :
    ∃ n0, (rtrigF [x0] [i0] now).1 = [n0] ∧ (n0 = 0 ∨ n0 = 1) := by
  exact ⟨_, rfl, h_i0⟩
theorem stepC_rtrig : StepC rtrigName 1 1 [1] [1] rtrigF := by
  intro vs vi l li now w hr hri
  obtain ⟨a0, e⟩ := form1 1 l
  obtain ⟨c0, e'⟩ := form1 1 li
  have hst : ∀ (p b : Nat) (w : World), w.heap[p]? = some (.cells (A1 (wrapL [1] l)) 166) → w.heap[b]? = some (.cells (intsA (wrapL [1] li)) 3) → p ≠ b → Calls Tryz.prog 150 #[.pointer (some ⟨p, 0, none⟩), .slice (some ⟨b, 0, none⟩) 1 1, .int .i64 (wrapK 5 now)] w fun e w' => e = .returned (.slice (some ⟨w.heap.size, 0, none⟩) 1 1) ∧ w'.heap[w.heap.size]? = some (.cells (intsA (rtrigF (wrapL [1] l) (wrapL [1] li) (wrapK 5 now)).2) 3) ∧ w'.heap[p]? = some (.cells (A1 (rtrigF (wrapL [1] l) (wrapL [1] li) (wrapK 5 now)).1) 166) ∧ w.grownBy w' (some p) := by
    intro p b w hp hb hne
    rw [e] at hp ⊢
    rw [e'] at hb ⊢
    exact rtrig_step p b 166 _ _ _ (bitK a0) (bitK c0) (timK now).1 (timK now).2 w hp hb hne
  have hsv : ∀ (p : Nat) (w : World), w.heap[p]? = some (.cells (A1 (rtrigF (wrapL [1] l) (wrapL [1] li) (wrapK 5 now)).1) 166) → Calls Tryz.prog 148 #[.pointer (some ⟨p, 0, none⟩)] w fun e w' => e = .returned (.slice (some ⟨w.heap.size, 0, none⟩) 1 1) ∧ w'.heap[w.heap.size]? = some (.cells (intsA (rtrigF (wrapL [1] l) (wrapL [1] li) (wrapK 5 now)).1) 3) ∧ w.grownBy w' none := by
    intro p w hp
    rw [e, e'] at hp ⊢
    obtain ⟨n0, hf, h0⟩ := rtrig_form (wrapK 1 a0) (wrapK 1 c0) (wrapK 5 now) (bitK a0) (bitK c0)
    rw [hf] at hp ⊢
    exact save_e p 166 n0 h0 w hp
  exact step_gen rtrigName 162 166 149 147 150 148 #[.bool false] edgeI edgeO edgeS A1 rtrigF vs vi l li now w (by decide) (by decide) named_rtrig
    (fun _ _ => by kernel_rfl) (fun _ _ => by kernel_rfl) (fun _ _ => by kernel_rfl) (fun _ _ => by kernel_rfl) (fun _ _ => by kernel_rfl) (fun _ _ => by kernel_rfl)
    (fun _ _ => by kernel_rfl) (fun _ _ => by kernel_rfl) (fun _ _ => by kernel_rfl) (fun _ _ => by kernel_rfl)
    shape_edge (fun p b w hp hb hne => load_e p b 166 l w hp hb hne) hst hsv hr hri

theorem ftrig_step (p b T : Nat) (x0 i0 now : Int) (h_x0 : x0 = 0 ∨ x0 = 1) (h_i0 : i0 = 0 ∨ i0 = 1) (l_now : 0 ≤ now) (u_now : now ≤ 4294967295) (w : World)
    (hp : w.heap[p]? = some (.cells (A1 [x0]) T)) (hb : w.heap[b]? = some (.cells (intsA [i0]) 3)) (hne : p ≠ b) :
    Calls Tryz.prog 151 #[.pointer (some ⟨p, 0, none⟩), .slice (some ⟨b, 0, none⟩) 1 1, .int .i64 now] w fun e w' => e = .returned (.slice (some ⟨w.heap.size, 0, none⟩) 1 1) ∧ w'.heap[w.heap.size]? = some (.cells (intsA (ftrigF [x0] [i0] now).2) 3) ∧ w'.heap[p]? = some (.cells (A1 (ftrigF [x0] [i0] now).1) T) ∧ w.grownBy w' (some p) := by
  rcases h_i0 with rfl | rfl <;> rcases h_x0 with rfl | rfl
  · exact (ftrig_ff p b T 0 now w hp hb hne rfl).mono fun e w' ⟨a1, a2, a3, a4⟩ => ⟨a1, a2, a3, a4⟩
  · exact (ftrig_ft p b T 0 now w hp hb hne rfl).mono fun e w' ⟨a1, a2, a3, a4⟩ => ⟨a1, a2, a3, a4⟩
  · exact (ftrig_tf p b T 1 now w hp hb hne rfl).mono fun e w' ⟨a1, a2, a3, a4⟩ => ⟨a1, a2, a3, a4⟩
  · exact (ftrig_tt p b T 1 now w hp hb hne rfl).mono fun e w' ⟨a1, a2, a3, a4⟩ => ⟨a1, a2, a3, a4⟩

theorem ftrig_form (x0 i0 now : Int) (h_x0 : x0 = 0 ∨ x0 = 1) (h_i0 : i0 = 0 ∨ i0 = 1) :
    ∃ n0, (ftrigF [x0] [i0] now).1 = [n0] ∧ (n0 = 0 ∨ n0 = 1) := by
  exact ⟨_, rfl, h_i0⟩
theorem stepC_ftrig : StepC ftrigName 1 1 [1] [1] ftrigF := by
  intro vs vi l li now w hr hri
  obtain ⟨a0, e⟩ := form1 1 l
  obtain ⟨c0, e'⟩ := form1 1 li
  have hst : ∀ (p b : Nat) (w : World), w.heap[p]? = some (.cells (A1 (wrapL [1] l)) 168) → w.heap[b]? = some (.cells (intsA (wrapL [1] li)) 3) → p ≠ b → Calls Tryz.prog 151 #[.pointer (some ⟨p, 0, none⟩), .slice (some ⟨b, 0, none⟩) 1 1, .int .i64 (wrapK 5 now)] w fun e w' => e = .returned (.slice (some ⟨w.heap.size, 0, none⟩) 1 1) ∧ w'.heap[w.heap.size]? = some (.cells (intsA (ftrigF (wrapL [1] l) (wrapL [1] li) (wrapK 5 now)).2) 3) ∧ w'.heap[p]? = some (.cells (A1 (ftrigF (wrapL [1] l) (wrapL [1] li) (wrapK 5 now)).1) 168) ∧ w.grownBy w' (some p) := by
    intro p b w hp hb hne
    rw [e] at hp ⊢
    rw [e'] at hb ⊢
    exact ftrig_step p b 168 _ _ _ (bitK a0) (bitK c0) (timK now).1 (timK now).2 w hp hb hne
  have hsv : ∀ (p : Nat) (w : World), w.heap[p]? = some (.cells (A1 (ftrigF (wrapL [1] l) (wrapL [1] li) (wrapK 5 now)).1) 168) → Calls Tryz.prog 148 #[.pointer (some ⟨p, 0, none⟩)] w fun e w' => e = .returned (.slice (some ⟨w.heap.size, 0, none⟩) 1 1) ∧ w'.heap[w.heap.size]? = some (.cells (intsA (ftrigF (wrapL [1] l) (wrapL [1] li) (wrapK 5 now)).1) 3) ∧ w.grownBy w' none := by
    intro p w hp
    rw [e, e'] at hp ⊢
    obtain ⟨n0, hf, h0⟩ := ftrig_form (wrapK 1 a0) (wrapK 1 c0) (wrapK 5 now) (bitK a0) (bitK c0)
    rw [hf] at hp ⊢
    exact save_e p 168 n0 h0 w hp
  exact step_gen ftrigName 167 168 149 147 151 148 #[.bool false] edgeI edgeO edgeS A1 ftrigF vs vi l li now w (by decide) (by decide) named_ftrig
    (fun _ _ => by kernel_rfl) (fun _ _ => by kernel_rfl) (fun _ _ => by kernel_rfl) (fun _ _ => by kernel_rfl) (fun _ _ => by kernel_rfl) (fun _ _ => by kernel_rfl)
    (fun _ _ => by kernel_rfl) (fun _ _ => by kernel_rfl) (fun _ _ => by kernel_rfl) (fun _ _ => by kernel_rfl)
    shape_edge (fun p b w hp hb hne => load_e p b 168 l w hp hb hne) hst hsv hr hri

theorem sr_step (p b T : Nat) (x0 i0 i1 now : Int) (h_x0 : x0 = 0 ∨ x0 = 1) (h_i0 : i0 = 0 ∨ i0 = 1) (h_i1 : i1 = 0 ∨ i1 = 1) (l_now : 0 ≤ now) (u_now : now ≤ 4294967295) (w : World)
    (hp : w.heap[p]? = some (.cells (A1 [x0]) T)) (hb : w.heap[b]? = some (.cells (intsA [i0, i1]) 3)) (hne : p ≠ b) :
    Calls Tryz.prog 155 #[.pointer (some ⟨p, 0, none⟩), .slice (some ⟨b, 0, none⟩) 2 2, .int .i64 now] w fun e w' => e = .returned (.slice (some ⟨w.heap.size, 0, none⟩) 1 1) ∧ w'.heap[w.heap.size]? = some (.cells (intsA (srF [x0] [i0, i1] now).2) 3) ∧ w'.heap[p]? = some (.cells (A1 (srF [x0] [i0, i1] now).1) T) ∧ w.grownBy w' (some p) := by
  rcases h_i0 with rfl | rfl <;> rcases h_i1 with rfl | rfl <;> rcases h_x0 with rfl | rfl
  · exact (sr_fff p b T 0 0 now w hp hb hne rfl rfl).mono fun e w' ⟨a1, a2, a3, a4⟩ => ⟨a1, a2, a3, a4⟩
  · exact (sr_fft p b T 0 0 now w hp hb hne rfl rfl).mono fun e w' ⟨a1, a2, a3, a4⟩ => ⟨a1, a2, a3, a4⟩
  · exact (sr_ftf p b T 0 1 now w hp hb hne rfl rfl).mono fun e w' ⟨a1, a2, a3, a4⟩ => ⟨a1, a2, a3, a4⟩
  · exact (sr_ftt p b T 0 1 now w hp hb hne rfl rfl).mono fun e w' ⟨a1, a2, a3, a4⟩ => ⟨a1, a2, a3, a4⟩
  · exact (sr_tff p b T 1 0 now w hp hb hne rfl rfl).mono fun e w' ⟨a1, a2, a3, a4⟩ => ⟨a1, a2, a3, a4⟩
  · exact (sr_tft p b T 1 0 now w hp hb hne rfl rfl).mono fun e w' ⟨a1, a2, a3, a4⟩ => ⟨a1, a2, a3, a4⟩
  · exact (sr_ttf p b T 1 1 now w hp hb hne rfl rfl).mono fun e w' ⟨a1, a2, a3, a4⟩ => ⟨a1, a2, a3, a4⟩
  · exact (sr_ttt p b T 1 1 now w hp hb hne rfl rfl).mono fun e w' ⟨a1, a2, a3, a4⟩ => ⟨a1, a2, a3, a4⟩

theorem sr_form (x0 i0 i1 now : Int) (h_x0 : x0 = 0 ∨ x0 = 1) (h_i0 : i0 = 0 ∨ i0 = 1) (h_i1 : i1 = 0 ∨ i1 = 1) :
    ∃ n0, (srF [x0] [i0, i1] now).1 = [n0] ∧ (n0 = 0 ∨ n0 = 1) := by
  refine ⟨_, rfl, ?_⟩
  unfold srN
  repeat' split
  all_goals simp
theorem stepC_sr : StepC srName 1 1 [1] [1, 1] srF := by
  intro vs vi l li now w hr hri
  obtain ⟨a0, e⟩ := form1 1 l
  obtain ⟨c0, c1, e'⟩ := form2 1 1 li
  have hst : ∀ (p b : Nat) (w : World), w.heap[p]? = some (.cells (A1 (wrapL [1] l)) 173) → w.heap[b]? = some (.cells (intsA (wrapL [1, 1] li)) 3) → p ≠ b → Calls Tryz.prog 155 #[.pointer (some ⟨p, 0, none⟩), .slice (some ⟨b, 0, none⟩) 2 2, .int .i64 (wrapK 5 now)] w fun e w' => e = .returned (.slice (some ⟨w.heap.size, 0, none⟩) 1 1) ∧ w'.heap[w.heap.size]? = some (.cells (intsA (srF (wrapL [1] l) (wrapL [1, 1] li) (wrapK 5 now)).2) 3) ∧ w'.heap[p]? = some (.cells (A1 (srF (wrapL [1] l) (wrapL [1, 1] li) (wrapK 5 now)).1) 173) ∧ w.grownBy w' (some p) := by
    intro p b w hp hb hne
    rw [e] at hp ⊢
    rw [e'] at hb ⊢
    exact sr_step p b 173 _ _ _ _ (bitK a0) (bitK c0) (bitK c1) (timK now).1 (timK now).2 w hp hb hne
  have hsv : ∀ (p : Nat) (w : World), w.heap[p]? = some (.cells (A1 (srF (wrapL [1] l) (wrapL [1, 1] li) (wrapK 5 now)).1) 173) → Calls Tryz.prog 153 #[.pointer (some ⟨p, 0, none⟩)] w fun e w' => e = .returned (.slice (some ⟨w.heap.size, 0, none⟩) 1 1) ∧ w'.heap[w.heap.size]? = some (.cells (intsA (srF (wrapL [1] l) (wrapL [1, 1] li) (wrapK 5 now)).1) 3) ∧ w.grownBy w' none := by
    intro p w hp
    rw [e, e'] at hp ⊢
    obtain ⟨n0, hf, h0⟩ := sr_form (wrapK 1 a0) (wrapK 1 c0) (wrapK 1 c1) (wrapK 5 now) (bitK a0) (bitK c0) (bitK c1)
    rw [hf] at hp ⊢
    exact save_l p 173 n0 h0 w hp
  exact step_gen srName 169 173 154 152 155 153 #[.bool false] srI srO srS A1 srF vs vi l li now w (by decide) (by decide) named_sr
    (fun _ _ => by kernel_rfl) (fun _ _ => by kernel_rfl) (fun _ _ => by kernel_rfl) (fun _ _ => by kernel_rfl) (fun _ _ => by kernel_rfl) (fun _ _ => by kernel_rfl)
    (fun _ _ => by kernel_rfl) (fun _ _ => by kernel_rfl) (fun _ _ => by kernel_rfl) (fun _ _ => by kernel_rfl)
    shape_sr (fun p b w hp hb hne => load_l p b 173 l w hp hb hne) hst hsv hr hri

theorem rs_step (p b T : Nat) (x0 i0 i1 now : Int) (h_x0 : x0 = 0 ∨ x0 = 1) (h_i0 : i0 = 0 ∨ i0 = 1) (h_i1 : i1 = 0 ∨ i1 = 1) (l_now : 0 ≤ now) (u_now : now ≤ 4294967295) (w : World)
    (hp : w.heap[p]? = some (.cells (A1 [x0]) T)) (hb : w.heap[b]? = some (.cells (intsA [i0, i1]) 3)) (hne : p ≠ b) :
    Calls Tryz.prog 158 #[.pointer (some ⟨p, 0, none⟩), .slice (some ⟨b, 0, none⟩) 2 2, .int .i64 now] w fun e w' => e = .returned (.slice (some ⟨w.heap.size, 0, none⟩) 1 1) ∧ w'.heap[w.heap.size]? = some (.cells (intsA (rsF [x0] [i0, i1] now).2) 3) ∧ w'.heap[p]? = some (.cells (A1 (rsF [x0] [i0, i1] now).1) T) ∧ w.grownBy w' (some p) := by
  rcases h_i0 with rfl | rfl <;> rcases h_i1 with rfl | rfl <;> rcases h_x0 with rfl | rfl
  · exact (rs_fff p b T 0 0 now w hp hb hne rfl rfl).mono fun e w' ⟨a1, a2, a3, a4⟩ => ⟨a1, a2, a3, a4⟩
  · exact (rs_fft p b T 0 0 now w hp hb hne rfl rfl).mono fun e w' ⟨a1, a2, a3, a4⟩ => ⟨a1, a2, a3, a4⟩
  · exact (rs_ftf p b T 0 1 now w hp hb hne rfl rfl).mono fun e w' ⟨a1, a2, a3, a4⟩ => ⟨a1, a2, a3, a4⟩
  · exact (rs_ftt p b T 0 1 now w hp hb hne rfl rfl).mono fun e w' ⟨a1, a2, a3, a4⟩ => ⟨a1, a2, a3, a4⟩
  · exact (rs_tff p b T 1 0 now w hp hb hne rfl rfl).mono fun e w' ⟨a1, a2, a3, a4⟩ => ⟨a1, a2, a3, a4⟩
  · exact (rs_tft p b T 1 0 now w hp hb hne rfl rfl).mono fun e w' ⟨a1, a2, a3, a4⟩ => ⟨a1, a2, a3, a4⟩
  · exact (rs_ttf p b T 1 1 now w hp hb hne rfl rfl).mono fun e w' ⟨a1, a2, a3, a4⟩ => ⟨a1, a2, a3, a4⟩
  · exact (rs_ttt p b T 1 1 now w hp hb hne rfl rfl).mono fun e w' ⟨a1, a2, a3, a4⟩ => ⟨a1, a2, a3, a4⟩

theorem rs_form (x0 i0 i1 now : Int) (h_x0 : x0 = 0 ∨ x0 = 1) (h_i0 : i0 = 0 ∨ i0 = 1) (h_i1 : i1 = 0 ∨ i1 = 1) :
    ∃ n0, (rsF [x0] [i0, i1] now).1 = [n0] ∧ (n0 = 0 ∨ n0 = 1) := by
  refine ⟨_, rfl, ?_⟩
  unfold rsN
  repeat' split
  all_goals simp
theorem stepC_rs : StepC rsName 1 1 [1] [1, 1] rsF := by
  intro vs vi l li now w hr hri
  obtain ⟨a0, e⟩ := form1 1 l
  obtain ⟨c0, c1, e'⟩ := form2 1 1 li
  have hst : ∀ (p b : Nat) (w : World), w.heap[p]? = some (.cells (A1 (wrapL [1] l)) 175) → w.heap[b]? = some (.cells (intsA (wrapL [1, 1] li)) 3) → p ≠ b → Calls Tryz.prog 158 #[.pointer (some ⟨p, 0, none⟩), .slice (some ⟨b, 0, none⟩) 2 2, .int .i64 (wrapK 5 now)] w fun e w' => e = .returned (.slice (some ⟨w.heap.size, 0, none⟩) 1 1) ∧ w'.heap[w.heap.size]? = some (.cells (intsA (rsF (wrapL [1] l) (wrapL [1, 1] li) (wrapK 5 now)).2) 3) ∧ w'.heap[p]? = some (.cells (A1 (rsF (wrapL [1] l) (wrapL [1, 1] li) (wrapK 5 now)).1) 175) ∧ w.grownBy w' (some p) := by
    intro p b w hp hb hne
    rw [e] at hp ⊢
    rw [e'] at hb ⊢
    exact rs_step p b 175 _ _ _ _ (bitK a0) (bitK c0) (bitK c1) (timK now).1 (timK now).2 w hp hb hne
  have hsv : ∀ (p : Nat) (w : World), w.heap[p]? = some (.cells (A1 (rsF (wrapL [1] l) (wrapL [1, 1] li) (wrapK 5 now)).1) 175) → Calls Tryz.prog 153 #[.pointer (some ⟨p, 0, none⟩)] w fun e w' => e = .returned (.slice (some ⟨w.heap.size, 0, none⟩) 1 1) ∧ w'.heap[w.heap.size]? = some (.cells (intsA (rsF (wrapL [1] l) (wrapL [1, 1] li) (wrapK 5 now)).1) 3) ∧ w.grownBy w' none := by
    intro p w hp
    rw [e, e'] at hp ⊢
    obtain ⟨n0, hf, h0⟩ := rs_form (wrapK 1 a0) (wrapK 1 c0) (wrapK 1 c1) (wrapK 5 now) (bitK a0) (bitK c0) (bitK c1)
    rw [hf] at hp ⊢
    exact save_l p 175 n0 h0 w hp
  exact step_gen rsName 174 175 157 152 158 153 #[.bool false] rsI rsO rsS A1 rsF vs vi l li now w (by decide) (by decide) named_rs
    (fun _ _ => by kernel_rfl) (fun _ _ => by kernel_rfl) (fun _ _ => by kernel_rfl) (fun _ _ => by kernel_rfl) (fun _ _ => by kernel_rfl) (fun _ _ => by kernel_rfl)
    (fun _ _ => by kernel_rfl) (fun _ _ => by kernel_rfl) (fun _ _ => by kernel_rfl) (fun _ _ => by kernel_rfl)
    shape_rs (fun p b w hp hb hne => load_l p b 175 l w hp hb hne) hst hsv hr hri

theorem ramp_step (p b T : Nat) (x0 i0 i1 now : Int) (l_x0 : -32768 ≤ x0) (u_x0 : x0 ≤ 32767) (l_i0 : -32768 ≤ i0) (u_i0 : i0 ≤ 32767) (l_i1 : -32768 ≤ i1) (u_i1 : i1 ≤ 32767) (l_now : 0 ≤ now) (u_now : now ≤ 4294967295) (w : World)
    (hp : w.heap[p]? = some (.cells (A1i [x0]) T)) (hb : w.heap[b]? = some (.cells (intsA [i0, i1]) 3)) (hne : p ≠ b) :
    Calls Tryz.prog 162 #[.pointer (some ⟨p, 0, none⟩), .slice (some ⟨b, 0, none⟩) 2 2, .int .i64 now] w fun e w' => e = .returned (.slice (some ⟨w.heap.size, 0, none⟩) 1 1) ∧ w'.heap[w.heap.size]? = some (.cells (intsA (rampF [x0] [i0, i1] now).2) 3) ∧ w'.heap[p]? = some (.cells (A1i (rampF [x0] [i0, i1] now).1) T) ∧ w.grownBy w' (some p) := by
  by_cases h0 : i1 < 0
  · have hN : rampN x0 i0 i1 = x0 := by unfold rampN; rw [if_pos h0]
    by_cases h1 : 0 ≤ i0 - x0
    · exact (ramp_n1 p b T i0 i1 x0 now w hp hb hne l_i0 u_i0 l_x0 u_x0 l_i1 u_i1 h0 h1).mono fun e w' ⟨a1, a2, a3, a4⟩ => ⟨a1, a2.trans (by simp [rampF, intsA, hN]), a3.trans (by simp [rampF, A1i, hN]), a4⟩
    · exact (ramp_n2 p b T i0 i1 x0 now w hp hb hne l_i0 u_i0 l_x0 u_x0 l_i1 u_i1 h0 (by omega)).mono fun e w' ⟨a1, a2, a3, a4⟩ => ⟨a1, a2.trans (by simp [rampF, intsA, hN]), a3.trans (by simp [rampF, A1i, hN]), a4⟩
  · by_cases h1 : i0 - x0 < -i1
    · have hN : rampN x0 i0 i1 = x0 - i1 := by unfold rampN; rw [if_neg h0, if_pos h1]
      exact (ramp_lo p b T i0 i1 x0 now w hp hb hne l_i0 u_i0 l_x0 u_x0 l_i1 u_i1 (by omega) h1).mono fun e w' ⟨a1, a2, a3, a4⟩ => ⟨a1, a2.trans (by simp [rampF, intsA, hN]), a3.trans (by simp [rampF, A1i, hN]), a4⟩
    · by_cases h2 : i0 - x0 ≤ i1
      · have hN : rampN x0 i0 i1 = i0 := by unfold rampN; rw [if_neg h0, if_neg h1, if_pos h2]
        exact (ramp_mid p b T i0 i1 x0 now w hp hb hne l_i0 u_i0 l_x0 u_x0 l_i1 u_i1 (by omega) (by omega) h2).mono fun e w' ⟨a1, a2, a3, a4⟩ => ⟨a1, a2.trans (by simp [rampF, intsA, hN]), a3.trans (by simp [rampF, A1i, hN]), a4⟩
      · have hN : rampN x0 i0 i1 = x0 + i1 := by unfold rampN; rw [if_neg h0, if_neg h1, if_neg h2]
        exact (ramp_hi p b T i0 i1 x0 now w hp hb hne l_i0 u_i0 l_x0 u_x0 l_i1 u_i1 (by omega) (by omega) (by omega)).mono fun e w' ⟨a1, a2, a3, a4⟩ => ⟨a1, a2.trans (by simp [rampF, intsA, hN]), a3.trans (by simp [rampF, A1i, hN]), a4⟩

theorem ramp_form (x0 i0 i1 now : Int)  :
    ∃ n0, (rampF [x0] [i0, i1] now).1 = [n0] := by
  exact ⟨_, rfl⟩
theorem stepC_ramp : StepC rampName 1 1 [2] [2, 2] rampF := by
  intro vs vi l li now w hr hri
  obtain ⟨a0, e⟩ := form1 2 l
  obtain ⟨c0, c1, e'⟩ := form2 2 2 li
  have hst : ∀ (p b : Nat) (w : World), w.heap[p]? = some (.cells (A1i (wrapL [2] l)) 178) → w.heap[b]? = some (.cells (intsA (wrapL [2, 2] li)) 3) → p ≠ b → Calls Tryz.prog 162 #[.pointer (some ⟨p, 0, none⟩), .slice (some ⟨b, 0, none⟩) 2 2, .int .i64 (wrapK 5 now)] w fun e w' => e = .returned (.slice (some ⟨w.heap.size, 0, none⟩) 1 1) ∧ w'.heap[w.heap.size]? = some (.cells (intsA (rampF (wrapL [2] l) (wrapL [2, 2] li) (wrapK 5 now)).2) 3) ∧ w'.heap[p]? = some (.cells (A1i (rampF (wrapL [2] l) (wrapL [2, 2] li) (wrapK 5 now)).1) 178) ∧ w.grownBy w' (some p) := by
    intro p b w hp hb hne
    rw [e] at hp ⊢
    rw [e'] at hb ⊢
    exact ramp_step p b 178 _ _ _ _ (intK a0).1 (intK a0).2 (intK c0).1 (intK c0).2 (intK c1).1 (intK c1).2 (timK now).1 (timK now).2 w hp hb hne
  have hsv : ∀ (p : Nat) (w : World), w.heap[p]? = some (.cells (A1i (rampF (wrapL [2] l) (wrapL [2, 2] li) (wrapK 5 now)).1) 178) → Calls Tryz.prog 160 #[.pointer (some ⟨p, 0, none⟩)] w fun e w' => e = .returned (.slice (some ⟨w.heap.size, 0, none⟩) 1 1) ∧ w'.heap[w.heap.size]? = some (.cells (intsA (rampF (wrapL [2] l) (wrapL [2, 2] li) (wrapK 5 now)).1) 3) ∧ w.grownBy w' none := by
    intro p w hp
    rw [e, e'] at hp ⊢
    obtain ⟨n0, hf⟩ := ramp_form (wrapK 2 a0) (wrapK 2 c0) (wrapK 2 c1) (wrapK 5 now) 
    rw [hf] at hp ⊢
    exact save_r p 178 n0  w hp
  exact step_gen rampName 176 178 161 159 162 160 #[.int .i64 0] rampI rampO rampS A1i rampF vs vi l li now w (by decide) (by decide) named_ramp
    (fun _ _ => by kernel_rfl) (fun _ _ => by kernel_rfl) (fun _ _ => by kernel_rfl) (fun _ _ => by kernel_rfl) (fun _ _ => by kernel_rfl) (fun _ _ => by kernel_rfl)
    (fun _ _ => by kernel_rfl) (fun _ _ => by kernel_rfl) (fun _ _ => by kernel_rfl) (fun _ _ => by kernel_rfl)
    shape_ramp (fun p b w hp hb hne => load_r p b 178 l w hp hb hne) hst hsv hr hri

theorem hyst_step (p b T : Nat) (x0 i0 i1 i2 now : Int) (h_x0 : x0 = 0 ∨ x0 = 1) (l_i0 : -32768 ≤ i0) (u_i0 : i0 ≤ 32767) (l_i1 : -32768 ≤ i1) (u_i1 : i1 ≤ 32767) (l_i2 : -32768 ≤ i2) (u_i2 : i2 ≤ 32767) (l_now : 0 ≤ now) (u_now : now ≤ 4294967295) (w : World)
    (hp : w.heap[p]? = some (.cells (A1 [x0]) T)) (hb : w.heap[b]? = some (.cells (intsA [i0, i1, i2]) 3)) (hne : p ≠ b) :
    Calls Tryz.prog 164 #[.pointer (some ⟨p, 0, none⟩), .slice (some ⟨b, 0, none⟩) 3 3, .int .i64 now] w fun e w' => e = .returned (.slice (some ⟨w.heap.size, 0, none⟩) 1 1) ∧ w'.heap[w.heap.size]? = some (.cells (intsA (hystF [x0] [i0, i1, i2] now).2) 3) ∧ w'.heap[p]? = some (.cells (A1 (hystF [x0] [i0, i1, i2] now).1) T) ∧ w.grownBy w' (some p) := by
  by_cases h0 : i1 ≤ i0
  · have hN : hystN x0 i0 i1 i2 = 1 := by unfold hystN; rw [if_pos h0]
    exact (hyst_on p b T (x0 != 0) i0 i1 i2 now w hp hb hne h0).mono fun e w' ⟨a1, a2, a3, a4⟩ => ⟨a1, a2.trans (by simp [hystF, intsA, hN]), a3.trans (by simp [hystF, A1, hN]), a4⟩
  · by_cases h1 : i0 ≤ i2
    · have hN : hystN x0 i0 i1 i2 = 0 := by unfold hystN; rw [if_neg h0, if_pos h1]
      exact (hyst_off p b T (x0 != 0) i0 i1 i2 now w hp hb hne h0 h1).mono fun e w' ⟨a1, a2, a3, a4⟩ => ⟨a1, a2.trans (by simp [hystF, intsA, hN]), a3.trans (by simp [hystF, A1, hN]), a4⟩
    · have hN : hystN x0 i0 i1 i2 = x0 := by unfold hystN; rw [if_neg h0, if_neg h1]
      rcases h_x0 with rfl | rfl
      · exact (hyst_f p b T i0 i1 i2 now w hp hb hne h0 h1).mono fun e w' ⟨a1, a2, a3, a4⟩ => ⟨a1, a2.trans (by simp [hystF, intsA, hN]), a3.trans (by simp [hystF, A1, hN]), a4⟩
      · exact (hyst_t p b T i0 i1 i2 now w hp hb hne h0 h1).mono fun e w' ⟨a1, a2, a3, a4⟩ => ⟨a1, a2.trans (by simp [hystF, intsA, hN]), a3.trans (by simp [hystF, A1, hN]), a4⟩

theorem hyst_form (x0 i0 i1 i2 now : Int) (h_x0 : x0 = 0 ∨ x0 = 1) :
    ∃ n0, (hystF [x0] [i0, i1, i2] now).1 = [n0] ∧ (n0 = 0 ∨ n0 = 1) := by
  refine ⟨_, rfl, ?_⟩
  unfold hystN
  repeat' split
  all_goals first | exact h_x0 | simp
theorem stepC_hyst : StepC hystName 1 1 [1] [2, 2, 2] hystF := by
  intro vs vi l li now w hr hri
  obtain ⟨a0, e⟩ := form1 1 l
  obtain ⟨c0, c1, c2, e'⟩ := form3 2 2 2 li
  have hst : ∀ (p b : Nat) (w : World), w.heap[p]? = some (.cells (A1 (wrapL [1] l)) 180) → w.heap[b]? = some (.cells (intsA (wrapL [2, 2, 2] li)) 3) → p ≠ b → Calls Tryz.prog 164 #[.pointer (some ⟨p, 0, none⟩), .slice (some ⟨b, 0, none⟩) 3 3, .int .i64 (wrapK 5 now)] w fun e w' => e = .returned (.slice (some ⟨w.heap.size, 0, none⟩) 1 1) ∧ w'.heap[w.heap.size]? = some (.cells (intsA (hystF (wrapL [1] l) (wrapL [2, 2, 2] li) (wrapK 5 now)).2) 3) ∧ w'.heap[p]? = some (.cells (A1 (hystF (wrapL [1] l) (wrapL [2, 2, 2] li) (wrapK 5 now)).1) 180) ∧ w.grownBy w' (some p) := by
    intro p b w hp hb hne
    rw [e] at hp ⊢
    rw [e'] at hb ⊢
    exact hyst_step p b 180 _ _ _ _ _ (bitK a0) (intK c0).1 (intK c0).2 (intK c1).1 (intK c1).2 (intK c2).1 (intK c2).2 (timK now).1 (timK now).2 w hp hb hne
  have hsv : ∀ (p : Nat) (w : World), w.heap[p]? = some (.cells (A1 (hystF (wrapL [1] l) (wrapL [2, 2, 2] li) (wrapK 5 now)).1) 180) → Calls Tryz.prog 153 #[.pointer (some ⟨p, 0, none⟩)] w fun e w' => e = .returned (.slice (some ⟨w.heap.size, 0, none⟩) 1 1) ∧ w'.heap[w.heap.size]? = some (.cells (intsA (hystF (wrapL [1] l) (wrapL [2, 2, 2] li) (wrapK 5 now)).1) 3) ∧ w.grownBy w' none := by
    intro p w hp
    rw [e, e'] at hp ⊢
    obtain ⟨n0, hf, h0⟩ := hyst_form (wrapK 1 a0) (wrapK 2 c0) (wrapK 2 c1) (wrapK 2 c2) (wrapK 5 now) (bitK a0)
    rw [hf] at hp ⊢
    exact save_l p 180 n0 h0 w hp
  exact step_gen hystName 179 180 163 152 164 153 #[.bool false] hystI hystO hystS A1 hystF vs vi l li now w (by decide) (by decide) named_hyst
    (fun _ _ => by kernel_rfl) (fun _ _ => by kernel_rfl) (fun _ _ => by kernel_rfl) (fun _ _ => by kernel_rfl) (fun _ _ => by kernel_rfl) (fun _ _ => by kernel_rfl)
    (fun _ _ => by kernel_rfl) (fun _ _ => by kernel_rfl) (fun _ _ => by kernel_rfl) (fun _ _ => by kernel_rfl)
    shape_hyst (fun p b w hp hb hne => load_l p b 180 l w hp hb hne) hst hsv hr hri

end Go.Proofs.YtcgbfhpmkpglkaaGreatDoor.Bl
