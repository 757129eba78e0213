/- the edges, the latches, hyst, ramp: their steps. -/
import Derived.Test.YtphnadhkoigegaaG
import Derived.OpenShut
namespace Go.Proofs.Ytphnadhkoigegaa
open Go.RowKit
attribute [local go_sem ↓] Go.wp_at_zero Go.wp_at_succ
set_option linter.unusedVariables false

set_option maxHeartbeats 1000000 in
theorem rtrig_tt (p b T : Nat) (i0 now : Int) (w : World) (hp : w.heap[p]? = some (.cells #[.bool true] T)) (hb : w.heap[b]? = some (.cells #[.int .i64 i0] 3)) (hne : p ≠ b) (h0 : (i0 != 0) = true) :
    Calls Try.prog 80 #[.pointer (some ⟨p, 0, none⟩), .slice (some ⟨b, 0, none⟩) 1 1, .int .i64 now] w fun e w' => e = .returned (.slice (some ⟨w.heap.size, 0, none⟩) 1 1) ∧ w'.heap[w.heap.size]? = some (.cells #[.int .i64 0] 3) ∧ w'.heap[p]? = some (.cells #[.bool true] T) ∧ w.grownBy w' (some p) := by
  have hpl := at_lt hp
  have c0 := at_cell hb 0
  have d0 := at_cell hp 0
  have f0 := at_frozen hp 0
  simp at c0 d0
  go_enter Try.func80, Try.ntmps80
  go_wp2_with (first | (go_at_call 49; refine (truth_any _ _).mono ?_; rintro e w' ⟨rfl, rfl⟩) | (go_at_call 50; refine (word_any _ _).mono ?_; rintro e w' ⟨rfl, rfl⟩))
  all_goals go_ret
  all_goals refine ⟨rfl, ?_, ?_, ?_⟩
  · repeat (with_reducible refine (hp_drew _ _).trans ?_)
    exact hp_new (by simp) _
  · repeat (with_reducible refine (hp_drew _ _).trans ?_)
    refine (hp_old (by first | with_reducible exact hpl | (simp; exact hpl)) _).trans ?_
    repeat (with_reducible refine (hp_drew _ _).trans ?_)
    apply Eq.trans
    · repeat (first | with_reducible exact hp | apply at_set)
    · simp
  · repeat (first | with_reducible exact World.grownBy.refl _ _ | with_reducible apply gr_set | with_reducible apply gr_alloc | with_reducible apply gr_drew)

set_option maxHeartbeats 1000000 in
theorem rtrig_tf (p b T : Nat) (i0 now : Int) (w : World) (hp : w.heap[p]? = some (.cells #[.bool false] T)) (hb : w.heap[b]? = some (.cells #[.int .i64 i0] 3)) (hne : p ≠ b) (h0 : (i0 != 0) = true) :
    Calls Try.prog 80 #[.pointer (some ⟨p, 0, none⟩), .slice (some ⟨b, 0, none⟩) 1 1, .int .i64 now] w fun e w' => e = .returned (.slice (some ⟨w.heap.size, 0, none⟩) 1 1) ∧ w'.heap[w.heap.size]? = some (.cells #[.int .i64 1] 3) ∧ w'.heap[p]? = some (.cells #[.bool true] T) ∧ w.grownBy w' (some p) := by
  have hpl := at_lt hp
  have c0 := at_cell hb 0
  have d0 := at_cell hp 0
  have f0 := at_frozen hp 0
  simp at c0 d0
  go_enter Try.func80, Try.ntmps80
  go_wp2_with (first | (go_at_call 49; refine (truth_any _ _).mono ?_; rintro e w' ⟨rfl, rfl⟩) | (go_at_call 50; refine (word_any _ _).mono ?_; rintro e w' ⟨rfl, rfl⟩))
  all_goals go_ret
  all_goals refine ⟨rfl, ?_, ?_, ?_⟩
  · repeat (with_reducible refine (hp_drew _ _).trans ?_)
    exact hp_new (by simp) _
  · repeat (with_reducible refine (hp_drew _ _).trans ?_)
    refine (hp_old (by first | with_reducible exact hpl | (simp; exact hpl)) _).trans ?_
    repeat (with_reducible refine (hp_drew _ _).trans ?_)
    apply Eq.trans
    · repeat (first | with_reducible exact hp | apply at_set)
    · simp
  · repeat (first | with_reducible exact World.grownBy.refl _ _ | with_reducible apply gr_set | with_reducible apply gr_alloc | with_reducible apply gr_drew)

set_option maxHeartbeats 1000000 in
theorem rtrig_ft (p b T : Nat) (i0 now : Int) (w : World) (hp : w.heap[p]? = some (.cells #[.bool true] T)) (hb : w.heap[b]? = some (.cells #[.int .i64 i0] 3)) (hne : p ≠ b) (h0 : (i0 != 0) = false) :
    Calls Try.prog 80 #[.pointer (some ⟨p, 0, none⟩), .slice (some ⟨b, 0, none⟩) 1 1, .int .i64 now] w fun e w' => e = .returned (.slice (some ⟨w.heap.size, 0, none⟩) 1 1) ∧ w'.heap[w.heap.size]? = some (.cells #[.int .i64 0] 3) ∧ w'.heap[p]? = some (.cells #[.bool false] T) ∧ w.grownBy w' (some p) := by
  have hpl := at_lt hp
  have c0 := at_cell hb 0
  have d0 := at_cell hp 0
  have f0 := at_frozen hp 0
  simp at c0 d0
  go_enter Try.func80, Try.ntmps80
  go_wp2_with (first | (go_at_call 49; refine (truth_any _ _).mono ?_; rintro e w' ⟨rfl, rfl⟩) | (go_at_call 50; refine (word_any _ _).mono ?_; rintro e w' ⟨rfl, rfl⟩))
  all_goals go_ret
  all_goals refine ⟨rfl, ?_, ?_, ?_⟩
  · repeat (with_reducible refine (hp_drew _ _).trans ?_)
    exact hp_new (by simp) _
  · repeat (with_reducible refine (hp_drew _ _).trans ?_)
    refine (hp_old (by first | with_reducible exact hpl | (simp; exact hpl)) _).trans ?_
    repeat (with_reducible refine (hp_drew _ _).trans ?_)
    apply Eq.trans
    · repeat (first | with_reducible exact hp | apply at_set)
    · simp
  · repeat (first | with_reducible exact World.grownBy.refl _ _ | with_reducible apply gr_set | with_reducible apply gr_alloc | with_reducible apply gr_drew)

set_option maxHeartbeats 1000000 in
theorem rtrig_ff (p b T : Nat) (i0 now : Int) (w : World) (hp : w.heap[p]? = some (.cells #[.bool false] T)) (hb : w.heap[b]? = some (.cells #[.int .i64 i0] 3)) (hne : p ≠ b) (h0 : (i0 != 0) = false) :
    Calls Try.prog 80 #[.pointer (some ⟨p, 0, none⟩), .slice (some ⟨b, 0, none⟩) 1 1, .int .i64 now] w fun e w' => e = .returned (.slice (some ⟨w.heap.size, 0, none⟩) 1 1) ∧ w'.heap[w.heap.size]? = some (.cells #[.int .i64 0] 3) ∧ w'.heap[p]? = some (.cells #[.bool false] T) ∧ w.grownBy w' (some p) := by
  have hpl := at_lt hp
  have c0 := at_cell hb 0
  have d0 := at_cell hp 0
  have f0 := at_frozen hp 0
  simp at c0 d0
  go_enter Try.func80, Try.ntmps80
  go_wp2_with (first | (go_at_call 49; refine (truth_any _ _).mono ?_; rintro e w' ⟨rfl, rfl⟩) | (go_at_call 50; refine (word_any _ _).mono ?_; rintro e w' ⟨rfl, rfl⟩))
  all_goals go_ret
  all_goals refine ⟨rfl, ?_, ?_, ?_⟩
  · repeat (with_reducible refine (hp_drew _ _).trans ?_)
    exact hp_new (by simp) _
  · repeat (with_reducible refine (hp_drew _ _).trans ?_)
    refine (hp_old (by first | with_reducible exact hpl | (simp; exact hpl)) _).trans ?_
    repeat (with_reducible refine (hp_drew _ _).trans ?_)
    apply Eq.trans
    · repeat (first | with_reducible exact hp | apply at_set)
    · simp
  · repeat (first | with_reducible exact World.grownBy.refl _ _ | with_reducible apply gr_set | with_reducible apply gr_alloc | with_reducible apply gr_drew)

set_option maxHeartbeats 1000000 in
theorem ftrig_tt (p b T : Nat) (i0 now : Int) (w : World) (hp : w.heap[p]? = some (.cells #[.bool true] T)) (hb : w.heap[b]? = some (.cells #[.int .i64 i0] 3)) (hne : p ≠ b) (h0 : (i0 != 0) = true) :
    Calls Try.prog 81 #[.pointer (some ⟨p, 0, none⟩), .slice (some ⟨b, 0, none⟩) 1 1, .int .i64 now] w fun e w' => e = .returned (.slice (some ⟨w.heap.size, 0, none⟩) 1 1) ∧ w'.heap[w.heap.size]? = some (.cells #[.int .i64 0] 3) ∧ w'.heap[p]? = some (.cells #[.bool true] T) ∧ w.grownBy w' (some p) := by
  have hpl := at_lt hp
  have c0 := at_cell hb 0
  have d0 := at_cell hp 0
  have f0 := at_frozen hp 0
  simp at c0 d0
  go_enter Try.func81, Try.ntmps81
  go_wp2_with (first | (go_at_call 49; refine (truth_any _ _).mono ?_; rintro e w' ⟨rfl, rfl⟩) | (go_at_call 50; refine (word_any _ _).mono ?_; rintro e w' ⟨rfl, rfl⟩))
  all_goals go_ret
  all_goals refine ⟨rfl, ?_, ?_, ?_⟩
  · repeat (with_reducible refine (hp_drew _ _).trans ?_)
    exact hp_new (by simp) _
  · repeat (with_reducible refine (hp_drew _ _).trans ?_)
    refine (hp_old (by first | with_reducible exact hpl | (simp; exact hpl)) _).trans ?_
    repeat (with_reducible refine (hp_drew _ _).trans ?_)
    apply Eq.trans
    · repeat (first | with_reducible exact hp | apply at_set)
    · simp
  · repeat (first | with_reducible exact World.grownBy.refl _ _ | with_reducible apply gr_set | with_reducible apply gr_alloc | with_reducible apply gr_drew)

set_option maxHeartbeats 1000000 in
theorem ftrig_tf (p b T : Nat) (i0 now : Int) (w : World) (hp : w.heap[p]? = some (.cells #[.bool false] T)) (hb : w.heap[b]? = some (.cells #[.int .i64 i0] 3)) (hne : p ≠ b) (h0 : (i0 != 0) = true) :
    Calls Try.prog 81 #[.pointer (some ⟨p, 0, none⟩), .slice (some ⟨b, 0, none⟩) 1 1, .int .i64 now] w fun e w' => e = .returned (.slice (some ⟨w.heap.size, 0, none⟩) 1 1) ∧ w'.heap[w.heap.size]? = some (.cells #[.int .i64 0] 3) ∧ w'.heap[p]? = some (.cells #[.bool true] T) ∧ w.grownBy w' (some p) := by
  have hpl := at_lt hp
  have c0 := at_cell hb 0
  have d0 := at_cell hp 0
  have f0 := at_frozen hp 0
  simp at c0 d0
  go_enter Try.func81, Try.ntmps81
  go_wp2_with (first | (go_at_call 49; refine (truth_any _ _).mono ?_; rintro e w' ⟨rfl, rfl⟩) | (go_at_call 50; refine (word_any _ _).mono ?_; rintro e w' ⟨rfl, rfl⟩))
  all_goals go_ret
  all_goals refine ⟨rfl, ?_, ?_, ?_⟩
  · repeat (with_reducible refine (hp_drew _ _).trans ?_)
    exact hp_new (by simp) _
  · repeat (with_reducible refine (hp_drew _ _).trans ?_)
    refine (hp_old (by first | with_reducible exact hpl | (simp; exact hpl)) _).trans ?_
    repeat (with_reducible refine (hp_drew _ _).trans ?_)
    apply Eq.trans
    · repeat (first | with_reducible exact hp | apply at_set)
    · simp
  · repeat (first | with_reducible exact World.grownBy.refl _ _ | with_reducible apply gr_set | with_reducible apply gr_alloc | with_reducible apply gr_drew)

set_option maxHeartbeats 1000000 in
theorem ftrig_ft (p b T : Nat) (i0 now : Int) (w : World) (hp : w.heap[p]? = some (.cells #[.bool true] T)) (hb : w.heap[b]? = some (.cells #[.int .i64 i0] 3)) (hne : p ≠ b) (h0 : (i0 != 0) = false) :
    Calls Try.prog 81 #[.pointer (some ⟨p, 0, none⟩), .slice (some ⟨b, 0, none⟩) 1 1, .int .i64 now] w fun e w' => e = .returned (.slice (some ⟨w.heap.size, 0, none⟩) 1 1) ∧ w'.heap[w.heap.size]? = some (.cells #[.int .i64 1] 3) ∧ w'.heap[p]? = some (.cells #[.bool false] T) ∧ w.grownBy w' (some p) := by
  have hpl := at_lt hp
  have c0 := at_cell hb 0
  have d0 := at_cell hp 0
  have f0 := at_frozen hp 0
  simp at c0 d0
  go_enter Try.func81, Try.ntmps81
  go_wp2_with (first | (go_at_call 49; refine (truth_any _ _).mono ?_; rintro e w' ⟨rfl, rfl⟩) | (go_at_call 50; refine (word_any _ _).mono ?_; rintro e w' ⟨rfl, rfl⟩))
  all_goals go_ret
  all_goals refine ⟨rfl, ?_, ?_, ?_⟩
  · repeat (with_reducible refine (hp_drew _ _).trans ?_)
    exact hp_new (by simp) _
  · repeat (with_reducible refine (hp_drew _ _).trans ?_)
    refine (hp_old (by first | with_reducible exact hpl | (simp; exact hpl)) _).trans ?_
    repeat (with_reducible refine (hp_drew _ _).trans ?_)
    apply Eq.trans
    · repeat (first | with_reducible exact hp | apply at_set)
    · simp
  · repeat (first | with_reducible exact World.grownBy.refl _ _ | with_reducible apply gr_set | with_reducible apply gr_alloc | with_reducible apply gr_drew)

set_option maxHeartbeats 1000000 in
theorem ftrig_ff (p b T : Nat) (i0 now : Int) (w : World) (hp : w.heap[p]? = some (.cells #[.bool false] T)) (hb : w.heap[b]? = some (.cells #[.int .i64 i0] 3)) (hne : p ≠ b) (h0 : (i0 != 0) = false) :
    Calls Try.prog 81 #[.pointer (some ⟨p, 0, none⟩), .slice (some ⟨b, 0, none⟩) 1 1, .int .i64 now] w fun e w' => e = .returned (.slice (some ⟨w.heap.size, 0, none⟩) 1 1) ∧ w'.heap[w.heap.size]? = some (.cells #[.int .i64 0] 3) ∧ w'.heap[p]? = some (.cells #[.bool false] T) ∧ w.grownBy w' (some p) := by
  have hpl := at_lt hp
  have c0 := at_cell hb 0
  have d0 := at_cell hp 0
  have f0 := at_frozen hp 0
  simp at c0 d0
  go_enter Try.func81, Try.ntmps81
  go_wp2_with (first | (go_at_call 49; refine (truth_any _ _).mono ?_; rintro e w' ⟨rfl, rfl⟩) | (go_at_call 50; refine (word_any _ _).mono ?_; rintro e w' ⟨rfl, rfl⟩))
  all_goals go_ret
  all_goals refine ⟨rfl, ?_, ?_, ?_⟩
  · repeat (with_reducible refine (hp_drew _ _).trans ?_)
    exact hp_new (by simp) _
  · repeat (with_reducible refine (hp_drew _ _).trans ?_)
    refine (hp_old (by first | with_reducible exact hpl | (simp; exact hpl)) _).trans ?_
    repeat (with_reducible refine (hp_drew _ _).trans ?_)
    apply Eq.trans
    · repeat (first | with_reducible exact hp | apply at_set)
    · simp
  · repeat (first | with_reducible exact World.grownBy.refl _ _ | with_reducible apply gr_set | with_reducible apply gr_alloc | with_reducible apply gr_drew)

set_option maxHeartbeats 1000000 in
theorem sr_ttt (p b T : Nat) (i0 i1 now : Int) (w : World) (hp : w.heap[p]? = some (.cells #[.bool true] T)) (hb : w.heap[b]? = some (.cells #[.int .i64 i0, .int .i64 i1] 3)) (hne : p ≠ b) (h0 : (i0 != 0) = true) (h1 : (i1 != 0) = true) :
    Calls Try.prog 85 #[.pointer (some ⟨p, 0, none⟩), .slice (some ⟨b, 0, none⟩) 2 2, .int .i64 now] w fun e w' => e = .returned (.slice (some ⟨w.heap.size, 0, none⟩) 1 1) ∧ w'.heap[w.heap.size]? = some (.cells #[.int .i64 1] 3) ∧ w'.heap[p]? = some (.cells #[.bool true] T) ∧ w.grownBy w' (some p) := by
  have hpl := at_lt hp
  have c0 := at_cell hb 0
  have c1 := at_cell hb 1
  have d0 := at_cell hp 0
  have f0 := at_frozen hp 0
  simp at c0 c1 d0
  go_enter Try.func85, Try.ntmps85
  go_wp2
  go_region_held3 (fun w' => w'.cell? ⟨b, 0, none⟩ = some (.int .i64 i0) ∧ w'.cell? ⟨b, 1, none⟩ = some (.int .i64 i1)) (refine ⟨?_, ?_⟩ <;> (focus ((repeat (first | with_reducible refine ck_drew ?_ | with_reducible refine ck_old (by first | with_reducible assumption | (simp; assumption)) ?_)); (first | go_cell_look | (simp [*]; done) | go_cell)))) (first | (go_at_call 49; refine (truth_any _ _).mono ?_; rintro e w' ⟨rfl, rfl⟩))
  go_wp2_with (first | (go_at_call 50; refine (word_any _ _).mono ?_; rintro e w' ⟨rfl, rfl⟩))
  all_goals go_ret
  all_goals refine ⟨rfl, ?_, ?_, ?_⟩
  · repeat (with_reducible refine (hp_drew _ _).trans ?_)
    exact hp_new (by simp) _
  · repeat (with_reducible refine (hp_drew _ _).trans ?_)
    refine (hp_old (by first | with_reducible exact hpl | (simp; exact hpl)) _).trans ?_
    repeat (with_reducible refine (hp_drew _ _).trans ?_)
    apply Eq.trans
    · repeat (first | with_reducible exact hp | apply at_set)
    · simp
  · repeat (first | with_reducible exact World.grownBy.refl _ _ | with_reducible apply gr_set | with_reducible apply gr_alloc | with_reducible apply gr_drew)

set_option maxHeartbeats 1000000 in
theorem sr_ttf (p b T : Nat) (i0 i1 now : Int) (w : World) (hp : w.heap[p]? = some (.cells #[.bool false] T)) (hb : w.heap[b]? = some (.cells #[.int .i64 i0, .int .i64 i1] 3)) (hne : p ≠ b) (h0 : (i0 != 0) = true) (h1 : (i1 != 0) = true) :
    Calls Try.prog 85 #[.pointer (some ⟨p, 0, none⟩), .slice (some ⟨b, 0, none⟩) 2 2, .int .i64 now] w fun e w' => e = .returned (.slice (some ⟨w.heap.size, 0, none⟩) 1 1) ∧ w'.heap[w.heap.size]? = some (.cells #[.int .i64 1] 3) ∧ w'.heap[p]? = some (.cells #[.bool true] T) ∧ w.grownBy w' (some p) := by
  have hpl := at_lt hp
  have c0 := at_cell hb 0
  have c1 := at_cell hb 1
  have d0 := at_cell hp 0
  have f0 := at_frozen hp 0
  simp at c0 c1 d0
  go_enter Try.func85, Try.ntmps85
  go_wp2
  go_region_held3 (fun w' => w'.cell? ⟨b, 0, none⟩ = some (.int .i64 i0) ∧ w'.cell? ⟨b, 1, none⟩ = some (.int .i64 i1)) (refine ⟨?_, ?_⟩ <;> (focus ((repeat (first | with_reducible refine ck_drew ?_ | with_reducible refine ck_old (by first | with_reducible assumption | (simp; assumption)) ?_)); (first | go_cell_look | (simp [*]; done) | go_cell)))) (first | (go_at_call 49; refine (truth_any _ _).mono ?_; rintro e w' ⟨rfl, rfl⟩))
  go_wp2_with (first | (go_at_call 50; refine (word_any _ _).mono ?_; rintro e w' ⟨rfl, rfl⟩))
  all_goals go_ret
  all_goals refine ⟨rfl, ?_, ?_, ?_⟩
  · repeat (with_reducible refine (hp_drew _ _).trans ?_)
    exact hp_new (by simp) _
  · repeat (with_reducible refine (hp_drew _ _).trans ?_)
    refine (hp_old (by first | with_reducible exact hpl | (simp; exact hpl)) _).trans ?_
    repeat (with_reducible refine (hp_drew _ _).trans ?_)
    apply Eq.trans
    · repeat (first | with_reducible exact hp | apply at_set)
    · simp
  · repeat (first | with_reducible exact World.grownBy.refl _ _ | with_reducible apply gr_set | with_reducible apply gr_alloc | with_reducible apply gr_drew)

set_option maxHeartbeats 1000000 in
theorem sr_tft (p b T : Nat) (i0 i1 now : Int) (w : World) (hp : w.heap[p]? = some (.cells #[.bool true] T)) (hb : w.heap[b]? = some (.cells #[.int .i64 i0, .int .i64 i1] 3)) (hne : p ≠ b) (h0 : (i0 != 0) = true) (h1 : (i1 != 0) = false) :
    Calls Try.prog 85 #[.pointer (some ⟨p, 0, none⟩), .slice (some ⟨b, 0, none⟩) 2 2, .int .i64 now] w fun e w' => e = .returned (.slice (some ⟨w.heap.size, 0, none⟩) 1 1) ∧ w'.heap[w.heap.size]? = some (.cells #[.int .i64 1] 3) ∧ w'.heap[p]? = some (.cells #[.bool true] T) ∧ w.grownBy w' (some p) := by
  have hpl := at_lt hp
  have c0 := at_cell hb 0
  have c1 := at_cell hb 1
  have d0 := at_cell hp 0
  have f0 := at_frozen hp 0
  simp at c0 c1 d0
  go_enter Try.func85, Try.ntmps85
  go_wp2
  go_region_held3 (fun w' => w'.cell? ⟨b, 0, none⟩ = some (.int .i64 i0) ∧ w'.cell? ⟨b, 1, none⟩ = some (.int .i64 i1)) (refine ⟨?_, ?_⟩ <;> (focus ((repeat (first | with_reducible refine ck_drew ?_ | with_reducible refine ck_old (by first | with_reducible assumption | (simp; assumption)) ?_)); (first | go_cell_look | (simp [*]; done) | go_cell)))) (first | (go_at_call 49; refine (truth_any _ _).mono ?_; rintro e w' ⟨rfl, rfl⟩))
  go_wp2_with (first | (go_at_call 50; refine (word_any _ _).mono ?_; rintro e w' ⟨rfl, rfl⟩))
  all_goals go_ret
  all_goals refine ⟨rfl, ?_, ?_, ?_⟩
  · repeat (with_reducible refine (hp_drew _ _).trans ?_)
    exact hp_new (by simp) _
  · repeat (with_reducible refine (hp_drew _ _).trans ?_)
    refine (hp_old (by first | with_reducible exact hpl | (simp; exact hpl)) _).trans ?_
    repeat (with_reducible refine (hp_drew _ _).trans ?_)
    apply Eq.trans
    · repeat (first | with_reducible exact hp | apply at_set)
    · simp
  · repeat (first | with_reducible exact World.grownBy.refl _ _ | with_reducible apply gr_set | with_reducible apply gr_alloc | with_reducible apply gr_drew)

set_option maxHeartbeats 1000000 in
theorem sr_tff (p b T : Nat) (i0 i1 now : Int) (w : World) (hp : w.heap[p]? = some (.cells #[.bool false] T)) (hb : w.heap[b]? = some (.cells #[.int .i64 i0, .int .i64 i1] 3)) (hne : p ≠ b) (h0 : (i0 != 0) = true) (h1 : (i1 != 0) = false) :
    Calls Try.prog 85 #[.pointer (some ⟨p, 0, none⟩), .slice (some ⟨b, 0, none⟩) 2 2, .int .i64 now] w fun e w' => e = .returned (.slice (some ⟨w.heap.size, 0, none⟩) 1 1) ∧ w'.heap[w.heap.size]? = some (.cells #[.int .i64 1] 3) ∧ w'.heap[p]? = some (.cells #[.bool true] T) ∧ w.grownBy w' (some p) := by
  have hpl := at_lt hp
  have c0 := at_cell hb 0
  have c1 := at_cell hb 1
  have d0 := at_cell hp 0
  have f0 := at_frozen hp 0
  simp at c0 c1 d0
  go_enter Try.func85, Try.ntmps85
  go_wp2
  go_region_held3 (fun w' => w'.cell? ⟨b, 0, none⟩ = some (.int .i64 i0) ∧ w'.cell? ⟨b, 1, none⟩ = some (.int .i64 i1)) (refine ⟨?_, ?_⟩ <;> (focus ((repeat (first | with_reducible refine ck_drew ?_ | with_reducible refine ck_old (by first | with_reducible assumption | (simp; assumption)) ?_)); (first | go_cell_look | (simp [*]; done) | go_cell)))) (first | (go_at_call 49; refine (truth_any _ _).mono ?_; rintro e w' ⟨rfl, rfl⟩))
  go_wp2_with (first | (go_at_call 50; refine (word_any _ _).mono ?_; rintro e w' ⟨rfl, rfl⟩))
  all_goals go_ret
  all_goals refine ⟨rfl, ?_, ?_, ?_⟩
  · repeat (with_reducible refine (hp_drew _ _).trans ?_)
    exact hp_new (by simp) _
  · repeat (with_reducible refine (hp_drew _ _).trans ?_)
    refine (hp_old (by first | with_reducible exact hpl | (simp; exact hpl)) _).trans ?_
    repeat (with_reducible refine (hp_drew _ _).trans ?_)
    apply Eq.trans
    · repeat (first | with_reducible exact hp | apply at_set)
    · simp
  · repeat (first | with_reducible exact World.grownBy.refl _ _ | with_reducible apply gr_set | with_reducible apply gr_alloc | with_reducible apply gr_drew)

set_option maxHeartbeats 1000000 in
theorem sr_ftt (p b T : Nat) (i0 i1 now : Int) (w : World) (hp : w.heap[p]? = some (.cells #[.bool true] T)) (hb : w.heap[b]? = some (.cells #[.int .i64 i0, .int .i64 i1] 3)) (hne : p ≠ b) (h0 : (i0 != 0) = false) (h1 : (i1 != 0) = true) :
    Calls Try.prog 85 #[.pointer (some ⟨p, 0, none⟩), .slice (some ⟨b, 0, none⟩) 2 2, .int .i64 now] w fun e w' => e = .returned (.slice (some ⟨w.heap.size, 0, none⟩) 1 1) ∧ w'.heap[w.heap.size]? = some (.cells #[.int .i64 0] 3) ∧ w'.heap[p]? = some (.cells #[.bool false] T) ∧ w.grownBy w' (some p) := by
  have hpl := at_lt hp
  have c0 := at_cell hb 0
  have c1 := at_cell hb 1
  have d0 := at_cell hp 0
  have f0 := at_frozen hp 0
  simp at c0 c1 d0
  go_enter Try.func85, Try.ntmps85
  go_wp2
  go_region_held3 (fun w' => w'.cell? ⟨b, 0, none⟩ = some (.int .i64 i0) ∧ w'.cell? ⟨b, 1, none⟩ = some (.int .i64 i1)) (refine ⟨?_, ?_⟩ <;> (focus ((repeat (first | with_reducible refine ck_drew ?_ | with_reducible refine ck_old (by first | with_reducible assumption | (simp; assumption)) ?_)); (first | go_cell_look | (simp [*]; done) | go_cell)))) (first | (go_at_call 49; refine (truth_any _ _).mono ?_; rintro e w' ⟨rfl, rfl⟩))
  go_wp2_with (first | (go_at_call 50; refine (word_any _ _).mono ?_; rintro e w' ⟨rfl, rfl⟩))
  all_goals go_ret
  all_goals refine ⟨rfl, ?_, ?_, ?_⟩
  · repeat (with_reducible refine (hp_drew _ _).trans ?_)
    exact hp_new (by simp) _
  · repeat (with_reducible refine (hp_drew _ _).trans ?_)
    refine (hp_old (by first | with_reducible exact hpl | (simp; exact hpl)) _).trans ?_
    repeat (with_reducible refine (hp_drew _ _).trans ?_)
    apply Eq.trans
    · repeat (first | with_reducible exact hp | apply at_set)
    · simp
  · repeat (first | with_reducible exact World.grownBy.refl _ _ | with_reducible apply gr_set | with_reducible apply gr_alloc | with_reducible apply gr_drew)

set_option maxHeartbeats 1000000 in
theorem sr_ftf (p b T : Nat) (i0 i1 now : Int) (w : World) (hp : w.heap[p]? = some (.cells #[.bool false] T)) (hb : w.heap[b]? = some (.cells #[.int .i64 i0, .int .i64 i1] 3)) (hne : p ≠ b) (h0 : (i0 != 0) = false) (h1 : (i1 != 0) = true) :
    Calls Try.prog 85 #[.pointer (some ⟨p, 0, none⟩), .slice (some ⟨b, 0, none⟩) 2 2, .int .i64 now] w fun e w' => e = .returned (.slice (some ⟨w.heap.size, 0, none⟩) 1 1) ∧ w'.heap[w.heap.size]? = some (.cells #[.int .i64 0] 3) ∧ w'.heap[p]? = some (.cells #[.bool false] T) ∧ w.grownBy w' (some p) := by
  have hpl := at_lt hp
  have c0 := at_cell hb 0
  have c1 := at_cell hb 1
  have d0 := at_cell hp 0
  have f0 := at_frozen hp 0
  simp at c0 c1 d0
  go_enter Try.func85, Try.ntmps85
  go_wp2
  go_region_held3 (fun w' => w'.cell? ⟨b, 0, none⟩ = some (.int .i64 i0) ∧ w'.cell? ⟨b, 1, none⟩ = some (.int .i64 i1)) (refine ⟨?_, ?_⟩ <;> (focus ((repeat (first | with_reducible refine ck_drew ?_ | with_reducible refine ck_old (by first | with_reducible assumption | (simp; assumption)) ?_)); (first | go_cell_look | (simp [*]; done) | go_cell)))) (first | (go_at_call 49; refine (truth_any _ _).mono ?_; rintro e w' ⟨rfl, rfl⟩))
  go_wp2_with (first | (go_at_call 50; refine (word_any _ _).mono ?_; rintro e w' ⟨rfl, rfl⟩))
  all_goals go_ret
  all_goals refine ⟨rfl, ?_, ?_, ?_⟩
  · repeat (with_reducible refine (hp_drew _ _).trans ?_)
    exact hp_new (by simp) _
  · repeat (with_reducible refine (hp_drew _ _).trans ?_)
    refine (hp_old (by first | with_reducible exact hpl | (simp; exact hpl)) _).trans ?_
    repeat (with_reducible refine (hp_drew _ _).trans ?_)
    apply Eq.trans
    · repeat (first | with_reducible exact hp | apply at_set)
    · simp
  · repeat (first | with_reducible exact World.grownBy.refl _ _ | with_reducible apply gr_set | with_reducible apply gr_alloc | with_reducible apply gr_drew)

set_option maxHeartbeats 1000000 in
theorem sr_fft (p b T : Nat) (i0 i1 now : Int) (w : World) (hp : w.heap[p]? = some (.cells #[.bool true] T)) (hb : w.heap[b]? = some (.cells #[.int .i64 i0, .int .i64 i1] 3)) (hne : p ≠ b) (h0 : (i0 != 0) = false) (h1 : (i1 != 0) = false) :
    Calls Try.prog 85 #[.pointer (some ⟨p, 0, none⟩), .slice (some ⟨b, 0, none⟩) 2 2, .int .i64 now] w fun e w' => e = .returned (.slice (some ⟨w.heap.size, 0, none⟩) 1 1) ∧ w'.heap[w.heap.size]? = some (.cells #[.int .i64 1] 3) ∧ w'.heap[p]? = some (.cells #[.bool true] T) ∧ w.grownBy w' (some p) := by
  have hpl := at_lt hp
  have c0 := at_cell hb 0
  have c1 := at_cell hb 1
  have d0 := at_cell hp 0
  have f0 := at_frozen hp 0
  simp at c0 c1 d0
  go_enter Try.func85, Try.ntmps85
  go_wp2
  go_region_held3 (fun w' => w'.cell? ⟨b, 0, none⟩ = some (.int .i64 i0) ∧ w'.cell? ⟨b, 1, none⟩ = some (.int .i64 i1)) (refine ⟨?_, ?_⟩ <;> (focus ((repeat (first | with_reducible refine ck_drew ?_ | with_reducible refine ck_old (by first | with_reducible assumption | (simp; assumption)) ?_)); (first | go_cell_look | (simp [*]; done) | go_cell)))) (first | (go_at_call 49; refine (truth_any _ _).mono ?_; rintro e w' ⟨rfl, rfl⟩))
  go_wp2_with (first | (go_at_call 50; refine (word_any _ _).mono ?_; rintro e w' ⟨rfl, rfl⟩))
  all_goals go_ret
  all_goals refine ⟨rfl, ?_, ?_, ?_⟩
  · repeat (with_reducible refine (hp_drew _ _).trans ?_)
    exact hp_new (by simp) _
  · repeat (with_reducible refine (hp_drew _ _).trans ?_)
    refine (hp_old (by first | with_reducible exact hpl | (simp; exact hpl)) _).trans ?_
    repeat (with_reducible refine (hp_drew _ _).trans ?_)
    apply Eq.trans
    · repeat (first | with_reducible exact hp | apply at_set)
    · simp
  · repeat (first | with_reducible exact World.grownBy.refl _ _ | with_reducible apply gr_set | with_reducible apply gr_alloc | with_reducible apply gr_drew)

set_option maxHeartbeats 1000000 in
theorem sr_fff (p b T : Nat) (i0 i1 now : Int) (w : World) (hp : w.heap[p]? = some (.cells #[.bool false] T)) (hb : w.heap[b]? = some (.cells #[.int .i64 i0, .int .i64 i1] 3)) (hne : p ≠ b) (h0 : (i0 != 0) = false) (h1 : (i1 != 0) = false) :
    Calls Try.prog 85 #[.pointer (some ⟨p, 0, none⟩), .slice (some ⟨b, 0, none⟩) 2 2, .int .i64 now] w fun e w' => e = .returned (.slice (some ⟨w.heap.size, 0, none⟩) 1 1) ∧ w'.heap[w.heap.size]? = some (.cells #[.int .i64 0] 3) ∧ w'.heap[p]? = some (.cells #[.bool false] T) ∧ w.grownBy w' (some p) := by
  have hpl := at_lt hp
  have c0 := at_cell hb 0
  have c1 := at_cell hb 1
  have d0 := at_cell hp 0
  have f0 := at_frozen hp 0
  simp at c0 c1 d0
  go_enter Try.func85, Try.ntmps85
  go_wp2
  go_region_held3 (fun w' => w'.cell? ⟨b, 0, none⟩ = some (.int .i64 i0) ∧ w'.cell? ⟨b, 1, none⟩ = some (.int .i64 i1)) (refine ⟨?_, ?_⟩ <;> (focus ((repeat (first | with_reducible refine ck_drew ?_ | with_reducible refine ck_old (by first | with_reducible assumption | (simp; assumption)) ?_)); (first | go_cell_look | (simp [*]; done) | go_cell)))) (first | (go_at_call 49; refine (truth_any _ _).mono ?_; rintro e w' ⟨rfl, rfl⟩))
  go_wp2_with (first | (go_at_call 50; refine (word_any _ _).mono ?_; rintro e w' ⟨rfl, rfl⟩))
  all_goals go_ret
  all_goals refine ⟨rfl, ?_, ?_, ?_⟩
  · repeat (with_reducible refine (hp_drew _ _).trans ?_)
    exact hp_new (by simp) _
  · repeat (with_reducible refine (hp_drew _ _).trans ?_)
    refine (hp_old (by first | with_reducible exact hpl | (simp; exact hpl)) _).trans ?_
    repeat (with_reducible refine (hp_drew _ _).trans ?_)
    apply Eq.trans
    · repeat (first | with_reducible exact hp | apply at_set)
    · simp
  · repeat (first | with_reducible exact World.grownBy.refl _ _ | with_reducible apply gr_set | with_reducible apply gr_alloc | with_reducible apply gr_drew)

set_option maxHeartbeats 1000000 in
theorem rs_ttt (p b T : Nat) (i0 i1 now : Int) (w : World) (hp : w.heap[p]? = some (.cells #[.bool true] T)) (hb : w.heap[b]? = some (.cells #[.int .i64 i0, .int .i64 i1] 3)) (hne : p ≠ b) (h0 : (i0 != 0) = true) (h1 : (i1 != 0) = true) :
    Calls Try.prog 88 #[.pointer (some ⟨p, 0, none⟩), .slice (some ⟨b, 0, none⟩) 2 2, .int .i64 now] w fun e w' => e = .returned (.slice (some ⟨w.heap.size, 0, none⟩) 1 1) ∧ w'.heap[w.heap.size]? = some (.cells #[.int .i64 0] 3) ∧ w'.heap[p]? = some (.cells #[.bool false] T) ∧ w.grownBy w' (some p) := by
  have hpl := at_lt hp
  have c0 := at_cell hb 0
  have c1 := at_cell hb 1
  have d0 := at_cell hp 0
  have f0 := at_frozen hp 0
  simp at c0 c1 d0
  go_enter Try.func88, Try.ntmps88
  go_wp2
  go_region_held3 (fun w' => w'.cell? ⟨b, 0, none⟩ = some (.int .i64 i0) ∧ w'.cell? ⟨b, 1, none⟩ = some (.int .i64 i1)) (refine ⟨?_, ?_⟩ <;> (focus ((repeat (first | with_reducible refine ck_drew ?_ | with_reducible refine ck_old (by first | with_reducible assumption | (simp; assumption)) ?_)); (first | go_cell_look | (simp [*]; done) | go_cell)))) (first | (go_at_call 49; refine (truth_any _ _).mono ?_; rintro e w' ⟨rfl, rfl⟩))
  go_wp2_with (first | (go_at_call 50; refine (word_any _ _).mono ?_; rintro e w' ⟨rfl, rfl⟩))
  all_goals go_ret
  all_goals refine ⟨rfl, ?_, ?_, ?_⟩
  · repeat (with_reducible refine (hp_drew _ _).trans ?_)
    exact hp_new (by simp) _
  · repeat (with_reducible refine (hp_drew _ _).trans ?_)
    refine (hp_old (by first | with_reducible exact hpl | (simp; exact hpl)) _).trans ?_
    repeat (with_reducible refine (hp_drew _ _).trans ?_)
    apply Eq.trans
    · repeat (first | with_reducible exact hp | apply at_set)
    · simp
  · repeat (first | with_reducible exact World.grownBy.refl _ _ | with_reducible apply gr_set | with_reducible apply gr_alloc | with_reducible apply gr_drew)

set_option maxHeartbeats 1000000 in
theorem rs_ttf (p b T : Nat) (i0 i1 now : Int) (w : World) (hp : w.heap[p]? = some (.cells #[.bool false] T)) (hb : w.heap[b]? = some (.cells #[.int .i64 i0, .int .i64 i1] 3)) (hne : p ≠ b) (h0 : (i0 != 0) = true) (h1 : (i1 != 0) = true) :
    Calls Try.prog 88 #[.pointer (some ⟨p, 0, none⟩), .slice (some ⟨b, 0, none⟩) 2 2, .int .i64 now] w fun e w' => e = .returned (.slice (some ⟨w.heap.size, 0, none⟩) 1 1) ∧ w'.heap[w.heap.size]? = some (.cells #[.int .i64 0] 3) ∧ w'.heap[p]? = some (.cells #[.bool false] T) ∧ w.grownBy w' (some p) := by
  have hpl := at_lt hp
  have c0 := at_cell hb 0
  have c1 := at_cell hb 1
  have d0 := at_cell hp 0
  have f0 := at_frozen hp 0
  simp at c0 c1 d0
  go_enter Try.func88, Try.ntmps88
  go_wp2
  go_region_held3 (fun w' => w'.cell? ⟨b, 0, none⟩ = some (.int .i64 i0) ∧ w'.cell? ⟨b, 1, none⟩ = some (.int .i64 i1)) (refine ⟨?_, ?_⟩ <;> (focus ((repeat (first | with_reducible refine ck_drew ?_ | with_reducible refine ck_old (by first | with_reducible assumption | (simp; assumption)) ?_)); (first | go_cell_look | (simp [*]; done) | go_cell)))) (first | (go_at_call 49; refine (truth_any _ _).mono ?_; rintro e w' ⟨rfl, rfl⟩))
  go_wp2_with (first | (go_at_call 50; refine (word_any _ _).mono ?_; rintro e w' ⟨rfl, rfl⟩))
  all_goals go_ret
  all_goals refine ⟨rfl, ?_, ?_, ?_⟩
  · repeat (with_reducible refine (hp_drew _ _).trans ?_)
    exact hp_new (by simp) _
  · repeat (with_reducible refine (hp_drew _ _).trans ?_)
    refine (hp_old (by first | with_reducible exact hpl | (simp; exact hpl)) _).trans ?_
    repeat (with_reducible refine (hp_drew _ _).trans ?_)
    apply Eq.trans
    · repeat (first | with_reducible exact hp | apply at_set)
    · simp
  · repeat (first | with_reducible exact World.grownBy.refl _ _ | with_reducible apply gr_set | with_reducible apply gr_alloc | with_reducible apply gr_drew)

set_option maxHeartbeats 1000000 in
theorem rs_tft (p b T : Nat) (i0 i1 now : Int) (w : World) (hp : w.heap[p]? = some (.cells #[.bool true] T)) (hb : w.heap[b]? = some (.cells #[.int .i64 i0, .int .i64 i1] 3)) (hne : p ≠ b) (h0 : (i0 != 0) = true) (h1 : (i1 != 0) = false) :
    Calls Try.prog 88 #[.pointer (some ⟨p, 0, none⟩), .slice (some ⟨b, 0, none⟩) 2 2, .int .i64 now] w fun e w' => e = .returned (.slice (some ⟨w.heap.size, 0, none⟩) 1 1) ∧ w'.heap[w.heap.size]? = some (.cells #[.int .i64 1] 3) ∧ w'.heap[p]? = some (.cells #[.bool true] T) ∧ w.grownBy w' (some p) := by
  have hpl := at_lt hp
  have c0 := at_cell hb 0
  have c1 := at_cell hb 1
  have d0 := at_cell hp 0
  have f0 := at_frozen hp 0
  simp at c0 c1 d0
  go_enter Try.func88, Try.ntmps88
  go_wp2
  go_region_held3 (fun w' => w'.cell? ⟨b, 0, none⟩ = some (.int .i64 i0) ∧ w'.cell? ⟨b, 1, none⟩ = some (.int .i64 i1)) (refine ⟨?_, ?_⟩ <;> (focus ((repeat (first | with_reducible refine ck_drew ?_ | with_reducible refine ck_old (by first | with_reducible assumption | (simp; assumption)) ?_)); (first | go_cell_look | (simp [*]; done) | go_cell)))) (first | (go_at_call 49; refine (truth_any _ _).mono ?_; rintro e w' ⟨rfl, rfl⟩))
  go_wp2_with (first | (go_at_call 50; refine (word_any _ _).mono ?_; rintro e w' ⟨rfl, rfl⟩))
  all_goals go_ret
  all_goals refine ⟨rfl, ?_, ?_, ?_⟩
  · repeat (with_reducible refine (hp_drew _ _).trans ?_)
    exact hp_new (by simp) _
  · repeat (with_reducible refine (hp_drew _ _).trans ?_)
    refine (hp_old (by first | with_reducible exact hpl | (simp; exact hpl)) _).trans ?_
    repeat (with_reducible refine (hp_drew _ _).trans ?_)
    apply Eq.trans
    · repeat (first | with_reducible exact hp | apply at_set)
    · simp
  · repeat (first | with_reducible exact World.grownBy.refl _ _ | with_reducible apply gr_set | with_reducible apply gr_alloc | with_reducible apply gr_drew)

set_option maxHeartbeats 1000000 in
theorem rs_tff (p b T : Nat) (i0 i1 now : Int) (w : World) (hp : w.heap[p]? = some (.cells #[.bool false] T)) (hb : w.heap[b]? = some (.cells #[.int .i64 i0, .int .i64 i1] 3)) (hne : p ≠ b) (h0 : (i0 != 0) = true) (h1 : (i1 != 0) = false) :
    Calls Try.prog 88 #[.pointer (some ⟨p, 0, none⟩), .slice (some ⟨b, 0, none⟩) 2 2, .int .i64 now] w fun e w' => e = .returned (.slice (some ⟨w.heap.size, 0, none⟩) 1 1) ∧ w'.heap[w.heap.size]? = some (.cells #[.int .i64 1] 3) ∧ w'.heap[p]? = some (.cells #[.bool true] T) ∧ w.grownBy w' (some p) := by
  have hpl := at_lt hp
  have c0 := at_cell hb 0
  have c1 := at_cell hb 1
  have d0 := at_cell hp 0
  have f0 := at_frozen hp 0
  simp at c0 c1 d0
  go_enter Try.func88, Try.ntmps88
  go_wp2
  go_region_held3 (fun w' => w'.cell? ⟨b, 0, none⟩ = some (.int .i64 i0) ∧ w'.cell? ⟨b, 1, none⟩ = some (.int .i64 i1)) (refine ⟨?_, ?_⟩ <;> (focus ((repeat (first | with_reducible refine ck_drew ?_ | with_reducible refine ck_old (by first | with_reducible assumption | (simp; assumption)) ?_)); (first | go_cell_look | (simp [*]; done) | go_cell)))) (first | (go_at_call 49; refine (truth_any _ _).mono ?_; rintro e w' ⟨rfl, rfl⟩))
  go_wp2_with (first | (go_at_call 50; refine (word_any _ _).mono ?_; rintro e w' ⟨rfl, rfl⟩))
  all_goals go_ret
  all_goals refine ⟨rfl, ?_, ?_, ?_⟩
  · repeat (with_reducible refine (hp_drew _ _).trans ?_)
    exact hp_new (by simp) _
  · repeat (with_reducible refine (hp_drew _ _).trans ?_)
    refine (hp_old (by first | with_reducible exact hpl | (simp; exact hpl)) _).trans ?_
    repeat (with_reducible refine (hp_drew _ _).trans ?_)
    apply Eq.trans
    · repeat (first | with_reducible exact hp | apply at_set)
    · simp
  · repeat (first | with_reducible exact World.grownBy.refl _ _ | with_reducible apply gr_set | with_reducible apply gr_alloc | with_reducible apply gr_drew)

set_option maxHeartbeats 1000000 in
theorem rs_ftt (p b T : Nat) (i0 i1 now : Int) (w : World) (hp : w.heap[p]? = some (.cells #[.bool true] T)) (hb : w.heap[b]? = some (.cells #[.int .i64 i0, .int .i64 i1] 3)) (hne : p ≠ b) (h0 : (i0 != 0) = false) (h1 : (i1 != 0) = true) :
    Calls Try.prog 88 #[.pointer (some ⟨p, 0, none⟩), .slice (some ⟨b, 0, none⟩) 2 2, .int .i64 now] w fun e w' => e = .returned (.slice (some ⟨w.heap.size, 0, none⟩) 1 1) ∧ w'.heap[w.heap.size]? = some (.cells #[.int .i64 0] 3) ∧ w'.heap[p]? = some (.cells #[.bool false] T) ∧ w.grownBy w' (some p) := by
  have hpl := at_lt hp
  have c0 := at_cell hb 0
  have c1 := at_cell hb 1
  have d0 := at_cell hp 0
  have f0 := at_frozen hp 0
  simp at c0 c1 d0
  go_enter Try.func88, Try.ntmps88
  go_wp2
  go_region_held3 (fun w' => w'.cell? ⟨b, 0, none⟩ = some (.int .i64 i0) ∧ w'.cell? ⟨b, 1, none⟩ = some (.int .i64 i1)) (refine ⟨?_, ?_⟩ <;> (focus ((repeat (first | with_reducible refine ck_drew ?_ | with_reducible refine ck_old (by first | with_reducible assumption | (simp; assumption)) ?_)); (first | go_cell_look | (simp [*]; done) | go_cell)))) (first | (go_at_call 49; refine (truth_any _ _).mono ?_; rintro e w' ⟨rfl, rfl⟩))
  go_wp2_with (first | (go_at_call 50; refine (word_any _ _).mono ?_; rintro e w' ⟨rfl, rfl⟩))
  all_goals go_ret
  all_goals refine ⟨rfl, ?_, ?_, ?_⟩
  · repeat (with_reducible refine (hp_drew _ _).trans ?_)
    exact hp_new (by simp) _
  · repeat (with_reducible refine (hp_drew _ _).trans ?_)
    refine (hp_old (by first | with_reducible exact hpl | (simp; exact hpl)) _).trans ?_
    repeat (with_reducible refine (hp_drew _ _).trans ?_)
    apply Eq.trans
    · repeat (first | with_reducible exact hp | apply at_set)
    · simp
  · repeat (first | with_reducible exact World.grownBy.refl _ _ | with_reducible apply gr_set | with_reducible apply gr_alloc | with_reducible apply gr_drew)

set_option maxHeartbeats 1000000 in
theorem rs_ftf (p b T : Nat) (i0 i1 now : Int) (w : World) (hp : w.heap[p]? = some (.cells #[.bool false] T)) (hb : w.heap[b]? = some (.cells #[.int .i64 i0, .int .i64 i1] 3)) (hne : p ≠ b) (h0 : (i0 != 0) = false) (h1 : (i1 != 0) = true) :
    Calls Try.prog 88 #[.pointer (some ⟨p, 0, none⟩), .slice (some ⟨b, 0, none⟩) 2 2, .int .i64 now] w fun e w' => e = .returned (.slice (some ⟨w.heap.size, 0, none⟩) 1 1) ∧ w'.heap[w.heap.size]? = some (.cells #[.int .i64 0] 3) ∧ w'.heap[p]? = some (.cells #[.bool false] T) ∧ w.grownBy w' (some p) := by
  have hpl := at_lt hp
  have c0 := at_cell hb 0
  have c1 := at_cell hb 1
  have d0 := at_cell hp 0
  have f0 := at_frozen hp 0
  simp at c0 c1 d0
  go_enter Try.func88, Try.ntmps88
  go_wp2
  go_region_held3 (fun w' => w'.cell? ⟨b, 0, none⟩ = some (.int .i64 i0) ∧ w'.cell? ⟨b, 1, none⟩ = some (.int .i64 i1)) (refine ⟨?_, ?_⟩ <;> (focus ((repeat (first | with_reducible refine ck_drew ?_ | with_reducible refine ck_old (by first | with_reducible assumption | (simp; assumption)) ?_)); (first | go_cell_look | (simp [*]; done) | go_cell)))) (first | (go_at_call 49; refine (truth_any _ _).mono ?_; rintro e w' ⟨rfl, rfl⟩))
  go_wp2_with (first | (go_at_call 50; refine (word_any _ _).mono ?_; rintro e w' ⟨rfl, rfl⟩))
  all_goals go_ret
  all_goals refine ⟨rfl, ?_, ?_, ?_⟩
  · repeat (with_reducible refine (hp_drew _ _).trans ?_)
    exact hp_new (by simp) _
  · repeat (with_reducible refine (hp_drew _ _).trans ?_)
    refine (hp_old (by first | with_reducible exact hpl | (simp; exact hpl)) _).trans ?_
    repeat (with_reducible refine (hp_drew _ _).trans ?_)
    apply Eq.trans
    · repeat (first | with_reducible exact hp | apply at_set)
    · simp
  · repeat (first | with_reducible exact World.grownBy.refl _ _ | with_reducible apply gr_set | with_reducible apply gr_alloc | with_reducible apply gr_drew)

set_option maxHeartbeats 1000000 in
theorem rs_fft (p b T : Nat) (i0 i1 now : Int) (w : World) (hp : w.heap[p]? = some (.cells #[.bool true] T)) (hb : w.heap[b]? = some (.cells #[.int .i64 i0, .int .i64 i1] 3)) (hne : p ≠ b) (h0 : (i0 != 0) = false) (h1 : (i1 != 0) = false) :
    Calls Try.prog 88 #[.pointer (some ⟨p, 0, none⟩), .slice (some ⟨b, 0, none⟩) 2 2, .int .i64 now] w fun e w' => e = .returned (.slice (some ⟨w.heap.size, 0, none⟩) 1 1) ∧ w'.heap[w.heap.size]? = some (.cells #[.int .i64 1] 3) ∧ w'.heap[p]? = some (.cells #[.bool true] T) ∧ w.grownBy w' (some p) := by
  have hpl := at_lt hp
  have c0 := at_cell hb 0
  have c1 := at_cell hb 1
  have d0 := at_cell hp 0
  have f0 := at_frozen hp 0
  simp at c0 c1 d0
  go_enter Try.func88, Try.ntmps88
  go_wp2
  go_region_held3 (fun w' => w'.cell? ⟨b, 0, none⟩ = some (.int .i64 i0) ∧ w'.cell? ⟨b, 1, none⟩ = some (.int .i64 i1)) (refine ⟨?_, ?_⟩ <;> (focus ((repeat (first | with_reducible refine ck_drew ?_ | with_reducible refine ck_old (by first | with_reducible assumption | (simp; assumption)) ?_)); (first | go_cell_look | (simp [*]; done) | go_cell)))) (first | (go_at_call 49; refine (truth_any _ _).mono ?_; rintro e w' ⟨rfl, rfl⟩))
  go_wp2_with (first | (go_at_call 50; refine (word_any _ _).mono ?_; rintro e w' ⟨rfl, rfl⟩))
  all_goals go_ret
  all_goals refine ⟨rfl, ?_, ?_, ?_⟩
  · repeat (with_reducible refine (hp_drew _ _).trans ?_)
    exact hp_new (by simp) _
  · repeat (with_reducible refine (hp_drew _ _).trans ?_)
    refine (hp_old (by first | with_reducible exact hpl | (simp; exact hpl)) _).trans ?_
    repeat (with_reducible refine (hp_drew _ _).trans ?_)
    apply Eq.trans
    · repeat (first | with_reducible exact hp | apply at_set)
    · simp
  · repeat (first | with_reducible exact World.grownBy.refl _ _ | with_reducible apply gr_set | with_reducible apply gr_alloc | with_reducible apply gr_drew)

set_option maxHeartbeats 1000000 in
theorem rs_fff (p b T : Nat) (i0 i1 now : Int) (w : World) (hp : w.heap[p]? = some (.cells #[.bool false] T)) (hb : w.heap[b]? = some (.cells #[.int .i64 i0, .int .i64 i1] 3)) (hne : p ≠ b) (h0 : (i0 != 0) = false) (h1 : (i1 != 0) = false) :
    Calls Try.prog 88 #[.pointer (some ⟨p, 0, none⟩), .slice (some ⟨b, 0, none⟩) 2 2, .int .i64 now] w fun e w' => e = .returned (.slice (some ⟨w.heap.size, 0, none⟩) 1 1) ∧ w'.heap[w.heap.size]? = some (.cells #[.int .i64 0] 3) ∧ w'.heap[p]? = some (.cells #[.bool false] T) ∧ w.grownBy w' (some p) := by
  have hpl := at_lt hp
  have c0 := at_cell hb 0
  have c1 := at_cell hb 1
  have d0 := at_cell hp 0
  have f0 := at_frozen hp 0
  simp at c0 c1 d0
  go_enter Try.func88, Try.ntmps88
  go_wp2
  go_region_held3 (fun w' => w'.cell? ⟨b, 0, none⟩ = some (.int .i64 i0) ∧ w'.cell? ⟨b, 1, none⟩ = some (.int .i64 i1)) (refine ⟨?_, ?_⟩ <;> (focus ((repeat (first | with_reducible refine ck_drew ?_ | with_reducible refine ck_old (by first | with_reducible assumption | (simp; assumption)) ?_)); (first | go_cell_look | (simp [*]; done) | go_cell)))) (first | (go_at_call 49; refine (truth_any _ _).mono ?_; rintro e w' ⟨rfl, rfl⟩))
  go_wp2_with (first | (go_at_call 50; refine (word_any _ _).mono ?_; rintro e w' ⟨rfl, rfl⟩))
  all_goals go_ret
  all_goals refine ⟨rfl, ?_, ?_, ?_⟩
  · repeat (with_reducible refine (hp_drew _ _).trans ?_)
    exact hp_new (by simp) _
  · repeat (with_reducible refine (hp_drew _ _).trans ?_)
    refine (hp_old (by first | with_reducible exact hpl | (simp; exact hpl)) _).trans ?_
    repeat (with_reducible refine (hp_drew _ _).trans ?_)
    apply Eq.trans
    · repeat (first | with_reducible exact hp | apply at_set)
    · simp
  · repeat (first | with_reducible exact World.grownBy.refl _ _ | with_reducible apply gr_set | with_reducible apply gr_alloc | with_reducible apply gr_drew)

end Go.Proofs.Ytphnadhkoigegaa
