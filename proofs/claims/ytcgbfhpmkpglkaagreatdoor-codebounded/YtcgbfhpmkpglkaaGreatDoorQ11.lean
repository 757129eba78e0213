/- Texts put together: BlH8. -/
import Derived.Test.YtcgbfhpmkpglkaaGreatDoorQ05
import Derived.OpenShut
import Derived.Deep.QuietTactic
import Derived.BigQuiet
/- ctud: its step (the count goes up or down, or stays). -/
namespace Go.Proofs.YtcgbfhpmkpglkaaGreatDoor.Bl
open Go.RowKit
attribute [local go_sem ↓] Go.wp_at_zero Go.wp_at_succ
set_option linter.unusedVariables false

theorem at_drewNB {W : World} {p : Nat} {o : Obj} {n : Nat} (h : W.heap[p]? = some o) : (W.drewN n).heap[p]? = some o := h
theorem gr_drewNB {w W : World} {r : Option Nat} {n : Nat} (h : w.grownBy W r) : w.grownBy (W.drewN n) r := ⟨h.os, h.tape, h.output, h.size, h.block⟩

set_option maxHeartbeats 1000000 in
theorem ctud_c_tt_tt (p b T : Nat) (n i0 i1 i2 i3 pv now : Int) (w : World) (hp : w.heap[p]? = some (.cells #[.bool true, .bool true, .int .i64 n] T)) (hb : w.heap[b]? = some (.cells #[.int .i64 i0, .int .i64 i1, .int .i64 i2, .int .i64 i3, .int .i64 pv] 3)) (hne : p ≠ b) (h0 : (i0 != 0) = true) (h1 : (i1 != 0) = true) (h2 : (i2 != 0) = false) (h3 : (i3 != 0) = false) (hc0 : -32768 ≤ n) (hc1 : n ≤ 32767) :
    Calls Tryz.prog 146 #[.pointer (some ⟨p, 0, none⟩), .slice (some ⟨b, 0, none⟩) 5 5, .int .i64 now] w fun e w' => e = .returned (.slice (some ⟨w.heap.size, 0, none⟩) 3 3) ∧ w'.heap[w.heap.size]? = some (.cells #[.int .i64 (yesN (decide (pv ≤ n))), .int .i64 (yesN (decide (n ≤ 0))), .int .i64 n] 3) ∧ w'.heap[p]? = some (.cells #[.bool true, .bool true, .int .i64 n] T) ∧ w.grownBy w' (some p) := by
  have hpl := at_lt hp
  have c0 := at_cell hb 0
  have c1 := at_cell hb 1
  have c2 := at_cell hb 2
  have c3 := at_cell hb 3
  have c4 := at_cell hb 4
  have d0 := at_cell hp 0
  have f0 := at_frozen hp 0
  have d1 := at_cell hp 1
  have f1 := at_frozen hp 1
  have d2 := at_cell hp 2
  have f2 := at_frozen hp 2
  simp at c0 c1 c2 c3 c4 d0 d1 d2
  obtain ⟨q, hq⟩ : ∃ q, decide (pv ≤ n) = q := ⟨_, rfl⟩
  obtain ⟨q2, hq2⟩ : ∃ q, decide (n ≤ 0) = q := ⟨_, rfl⟩
  rw [hq, hq2]
  go_enter Tryz.func146, Tryz.ntmps146
  go_wp2
  go_region_held3 (fun w' => w'.cell? ⟨b, 0, none⟩ = some (.int .i64 i0) ∧ w'.cell? ⟨b, 1, none⟩ = some (.int .i64 i1) ∧ w'.cell? ⟨b, 2, none⟩ = some (.int .i64 i2) ∧ w'.cell? ⟨b, 3, none⟩ = some (.int .i64 i3) ∧ w'.cell? ⟨b, 4, none⟩ = some (.int .i64 pv)) (refine ⟨?_, ?_, ?_, ?_, ?_⟩ <;> (focus ((repeat (first | with_reducible refine ck_drew ?_ | with_reducible refine ck_old (by first | with_reducible assumption | (simp; assumption)) ?_)); (first | go_cell_look | (simp [*]; done) | go_cell)))) (first | (go_at_call 119; refine (truth_any _ _).mono ?_; rintro e w' ⟨rfl, rfl⟩))
  go_wp2
  go_quiet (fail)
  go_wp2_with (first | (go_at_call 138; refine (more_any n _ hc0 hc1).mono ?_; rintro e w' ⟨rfl, rfl⟩) | (go_at_call 142; refine (less_any n _ hc0 hc1).mono ?_; rintro e w' ⟨rfl, rfl⟩))
  go_region_held3 (fun w' => w'.cell? ⟨p, 2, none⟩ = some (.int .i64 n)) ((focus ((repeat (first | with_reducible refine ck_drew ?_ | with_reducible refine ck_old (by first | with_reducible assumption | (simp; assumption)) ?_)); (first | go_cell_look | (simp [*]; done) | go_cell)))) (first | (go_at_call 120; refine (word_any _ _).mono ?_; rintro e w' ⟨rfl, rfl⟩))
  go_wp2
  all_goals go_ret
  all_goals refine ⟨rfl, ?_, ?_, ?_⟩
  · repeat (with_reducible refine (hp_drew _ _).trans ?_)
    exact hp_new (by simp) _
  · repeat (with_reducible refine (hp_drew _ _).trans ?_)
    refine (hp_old (by first | with_reducible exact hpl | (simp; exact hpl)) _).trans ?_
    repeat (with_reducible refine (hp_drew _ _).trans ?_)
    apply Eq.trans
    · repeat (first | with_reducible exact hp | with_reducible apply at_drewNB | apply at_set)
    · simp
  · repeat (first | with_reducible exact World.grownBy.refl _ _ | with_reducible apply gr_set | with_reducible apply gr_alloc | with_reducible apply gr_drewNB | with_reducible apply gr_drew)

set_option maxHeartbeats 1000000 in
theorem ctud_c_tt_tf (p b T : Nat) (n i0 i1 i2 i3 pv now : Int) (w : World) (hp : w.heap[p]? = some (.cells #[.bool true, .bool false, .int .i64 n] T)) (hb : w.heap[b]? = some (.cells #[.int .i64 i0, .int .i64 i1, .int .i64 i2, .int .i64 i3, .int .i64 pv] 3)) (hne : p ≠ b) (h0 : (i0 != 0) = true) (h1 : (i1 != 0) = true) (h2 : (i2 != 0) = false) (h3 : (i3 != 0) = false) (hc0 : -32768 ≤ n) (hc1 : n ≤ 32767) :
    Calls Tryz.prog 146 #[.pointer (some ⟨p, 0, none⟩), .slice (some ⟨b, 0, none⟩) 5 5, .int .i64 now] w fun e w' => e = .returned (.slice (some ⟨w.heap.size, 0, none⟩) 3 3) ∧ w'.heap[w.heap.size]? = some (.cells #[.int .i64 (yesN (decide (pv ≤ (lessN n)))), .int .i64 (yesN (decide ((lessN n) ≤ 0))), .int .i64 (lessN n)] 3) ∧ w'.heap[p]? = some (.cells #[.bool true, .bool true, .int .i64 (lessN n)] T) ∧ w.grownBy w' (some p) := by
  have hpl := at_lt hp
  have c0 := at_cell hb 0
  have c1 := at_cell hb 1
  have c2 := at_cell hb 2
  have c3 := at_cell hb 3
  have c4 := at_cell hb 4
  have d0 := at_cell hp 0
  have f0 := at_frozen hp 0
  have d1 := at_cell hp 1
  have f1 := at_frozen hp 1
  have d2 := at_cell hp 2
  have f2 := at_frozen hp 2
  simp at c0 c1 c2 c3 c4 d0 d1 d2
  obtain ⟨k, hk⟩ : ∃ k, lessN n = k := ⟨_, rfl⟩
  rw [hk]
  obtain ⟨q, hq⟩ : ∃ q, decide (pv ≤ k) = q := ⟨_, rfl⟩
  obtain ⟨q2, hq2⟩ : ∃ q, decide (k ≤ 0) = q := ⟨_, rfl⟩
  rw [hq, hq2]
  go_enter Tryz.func146, Tryz.ntmps146
  go_wp2
  go_region_held3 (fun w' => w'.cell? ⟨b, 0, none⟩ = some (.int .i64 i0) ∧ w'.cell? ⟨b, 1, none⟩ = some (.int .i64 i1) ∧ w'.cell? ⟨b, 2, none⟩ = some (.int .i64 i2) ∧ w'.cell? ⟨b, 3, none⟩ = some (.int .i64 i3) ∧ w'.cell? ⟨b, 4, none⟩ = some (.int .i64 pv)) (refine ⟨?_, ?_, ?_, ?_, ?_⟩ <;> (focus ((repeat (first | with_reducible refine ck_drew ?_ | with_reducible refine ck_old (by first | with_reducible assumption | (simp; assumption)) ?_)); (first | go_cell_look | (simp [*]; done) | go_cell)))) (first | (go_at_call 119; refine (truth_any _ _).mono ?_; rintro e w' ⟨rfl, rfl⟩))
  go_wp2
  go_quiet (fail)
  go_wp2_with (first | (go_at_call 138; refine (more_any n _ hc0 hc1).mono ?_; rintro e w' ⟨rfl, rfl⟩) | (go_at_call 142; refine (less_any n _ hc0 hc1).mono ?_; rintro e w' ⟨rfl, rfl⟩))
  go_region_held3 (fun w' => w'.cell? ⟨p, 2, none⟩ = some (.int .i64 k)) ((focus ((repeat (first | with_reducible refine ck_drew ?_ | with_reducible refine ck_old (by first | with_reducible assumption | (simp; assumption)) ?_)); (first | go_cell_look | (simp [*]; done) | go_cell)))) (first | (go_at_call 120; refine (word_any _ _).mono ?_; rintro e w' ⟨rfl, rfl⟩))
  go_wp2
  all_goals go_ret
  all_goals refine ⟨rfl, ?_, ?_, ?_⟩
  · repeat (with_reducible refine (hp_drew _ _).trans ?_)
    exact hp_new (by simp) _
  · repeat (with_reducible refine (hp_drew _ _).trans ?_)
    refine (hp_old (by first | with_reducible exact hpl | (simp; exact hpl)) _).trans ?_
    repeat (with_reducible refine (hp_drew _ _).trans ?_)
    apply Eq.trans
    · repeat (first | with_reducible exact hp | with_reducible apply at_drewNB | apply at_set)
    · simp
  · repeat (first | with_reducible exact World.grownBy.refl _ _ | with_reducible apply gr_set | with_reducible apply gr_alloc | with_reducible apply gr_drewNB | with_reducible apply gr_drew)

set_option maxHeartbeats 1000000 in
theorem ctud_c_tt_ft (p b T : Nat) (n i0 i1 i2 i3 pv now : Int) (w : World) (hp : w.heap[p]? = some (.cells #[.bool false, .bool true, .int .i64 n] T)) (hb : w.heap[b]? = some (.cells #[.int .i64 i0, .int .i64 i1, .int .i64 i2, .int .i64 i3, .int .i64 pv] 3)) (hne : p ≠ b) (h0 : (i0 != 0) = true) (h1 : (i1 != 0) = true) (h2 : (i2 != 0) = false) (h3 : (i3 != 0) = false) (hc0 : -32768 ≤ n) (hc1 : n ≤ 32767) :
    Calls Tryz.prog 146 #[.pointer (some ⟨p, 0, none⟩), .slice (some ⟨b, 0, none⟩) 5 5, .int .i64 now] w fun e w' => e = .returned (.slice (some ⟨w.heap.size, 0, none⟩) 3 3) ∧ w'.heap[w.heap.size]? = some (.cells #[.int .i64 (yesN (decide (pv ≤ (moreN n)))), .int .i64 (yesN (decide ((moreN n) ≤ 0))), .int .i64 (moreN n)] 3) ∧ w'.heap[p]? = some (.cells #[.bool true, .bool true, .int .i64 (moreN n)] T) ∧ w.grownBy w' (some p) := by
  have hpl := at_lt hp
  have c0 := at_cell hb 0
  have c1 := at_cell hb 1
  have c2 := at_cell hb 2
  have c3 := at_cell hb 3
  have c4 := at_cell hb 4
  have d0 := at_cell hp 0
  have f0 := at_frozen hp 0
  have d1 := at_cell hp 1
  have f1 := at_frozen hp 1
  have d2 := at_cell hp 2
  have f2 := at_frozen hp 2
  simp at c0 c1 c2 c3 c4 d0 d1 d2
  obtain ⟨k, hk⟩ : ∃ k, moreN n = k := ⟨_, rfl⟩
  rw [hk]
  obtain ⟨q, hq⟩ : ∃ q, decide (pv ≤ k) = q := ⟨_, rfl⟩
  obtain ⟨q2, hq2⟩ : ∃ q, decide (k ≤ 0) = q := ⟨_, rfl⟩
  rw [hq, hq2]
  go_enter Tryz.func146, Tryz.ntmps146
  go_wp2
  go_region_held3 (fun w' => w'.cell? ⟨b, 0, none⟩ = some (.int .i64 i0) ∧ w'.cell? ⟨b, 1, none⟩ = some (.int .i64 i1) ∧ w'.cell? ⟨b, 2, none⟩ = some (.int .i64 i2) ∧ w'.cell? ⟨b, 3, none⟩ = some (.int .i64 i3) ∧ w'.cell? ⟨b, 4, none⟩ = some (.int .i64 pv)) (refine ⟨?_, ?_, ?_, ?_, ?_⟩ <;> (focus ((repeat (first | with_reducible refine ck_drew ?_ | with_reducible refine ck_old (by first | with_reducible assumption | (simp; assumption)) ?_)); (first | go_cell_look | (simp [*]; done) | go_cell)))) (first | (go_at_call 119; refine (truth_any _ _).mono ?_; rintro e w' ⟨rfl, rfl⟩))
  go_wp2
  go_quiet (fail)
  go_wp2_with (first | (go_at_call 138; refine (more_any n _ hc0 hc1).mono ?_; rintro e w' ⟨rfl, rfl⟩) | (go_at_call 142; refine (less_any n _ hc0 hc1).mono ?_; rintro e w' ⟨rfl, rfl⟩))
  go_region_held3 (fun w' => w'.cell? ⟨p, 2, none⟩ = some (.int .i64 k)) ((focus ((repeat (first | with_reducible refine ck_drew ?_ | with_reducible refine ck_old (by first | with_reducible assumption | (simp; assumption)) ?_)); (first | go_cell_look | (simp [*]; done) | go_cell)))) (first | (go_at_call 120; refine (word_any _ _).mono ?_; rintro e w' ⟨rfl, rfl⟩))
  go_wp2
  all_goals go_ret
  all_goals refine ⟨rfl, ?_, ?_, ?_⟩
  · repeat (with_reducible refine (hp_drew _ _).trans ?_)
    exact hp_new (by simp) _
  · repeat (with_reducible refine (hp_drew _ _).trans ?_)
    refine (hp_old (by first | with_reducible exact hpl | (simp; exact hpl)) _).trans ?_
    repeat (with_reducible refine (hp_drew _ _).trans ?_)
    apply Eq.trans
    · repeat (first | with_reducible exact hp | with_reducible apply at_drewNB | apply at_set)
    · simp
  · repeat (first | with_reducible exact World.grownBy.refl _ _ | with_reducible apply gr_set | with_reducible apply gr_alloc | with_reducible apply gr_drewNB | with_reducible apply gr_drew)

set_option maxHeartbeats 1000000 in
theorem ctud_c_tt_ff (p b T : Nat) (n i0 i1 i2 i3 pv now : Int) (w : World) (hp : w.heap[p]? = some (.cells #[.bool false, .bool false, .int .i64 n] T)) (hb : w.heap[b]? = some (.cells #[.int .i64 i0, .int .i64 i1, .int .i64 i2, .int .i64 i3, .int .i64 pv] 3)) (hne : p ≠ b) (h0 : (i0 != 0) = true) (h1 : (i1 != 0) = true) (h2 : (i2 != 0) = false) (h3 : (i3 != 0) = false) (hc0 : -32768 ≤ n) (hc1 : n ≤ 32767) :
    Calls Tryz.prog 146 #[.pointer (some ⟨p, 0, none⟩), .slice (some ⟨b, 0, none⟩) 5 5, .int .i64 now] w fun e w' => e = .returned (.slice (some ⟨w.heap.size, 0, none⟩) 3 3) ∧ w'.heap[w.heap.size]? = some (.cells #[.int .i64 (yesN (decide (pv ≤ n))), .int .i64 (yesN (decide (n ≤ 0))), .int .i64 n] 3) ∧ w'.heap[p]? = some (.cells #[.bool true, .bool true, .int .i64 n] T) ∧ w.grownBy w' (some p) := by
  have hpl := at_lt hp
  have c0 := at_cell hb 0
  have c1 := at_cell hb 1
  have c2 := at_cell hb 2
  have c3 := at_cell hb 3
  have c4 := at_cell hb 4
  have d0 := at_cell hp 0
  have f0 := at_frozen hp 0
  have d1 := at_cell hp 1
  have f1 := at_frozen hp 1
  have d2 := at_cell hp 2
  have f2 := at_frozen hp 2
  simp at c0 c1 c2 c3 c4 d0 d1 d2
  obtain ⟨q, hq⟩ : ∃ q, decide (pv ≤ n) = q := ⟨_, rfl⟩
  obtain ⟨q2, hq2⟩ : ∃ q, decide (n ≤ 0) = q := ⟨_, rfl⟩
  rw [hq, hq2]
  go_enter Tryz.func146, Tryz.ntmps146
  go_wp2
  go_region_held3 (fun w' => w'.cell? ⟨b, 0, none⟩ = some (.int .i64 i0) ∧ w'.cell? ⟨b, 1, none⟩ = some (.int .i64 i1) ∧ w'.cell? ⟨b, 2, none⟩ = some (.int .i64 i2) ∧ w'.cell? ⟨b, 3, none⟩ = some (.int .i64 i3) ∧ w'.cell? ⟨b, 4, none⟩ = some (.int .i64 pv)) (refine ⟨?_, ?_, ?_, ?_, ?_⟩ <;> (focus ((repeat (first | with_reducible refine ck_drew ?_ | with_reducible refine ck_old (by first | with_reducible assumption | (simp; assumption)) ?_)); (first | go_cell_look | (simp [*]; done) | go_cell)))) (first | (go_at_call 119; refine (truth_any _ _).mono ?_; rintro e w' ⟨rfl, rfl⟩))
  go_wp2
  go_quiet (fail)
  go_wp2_with (first | (go_at_call 138; refine (more_any n _ hc0 hc1).mono ?_; rintro e w' ⟨rfl, rfl⟩) | (go_at_call 142; refine (less_any n _ hc0 hc1).mono ?_; rintro e w' ⟨rfl, rfl⟩))
  go_region_held3 (fun w' => w'.cell? ⟨p, 2, none⟩ = some (.int .i64 n)) ((focus ((repeat (first | with_reducible refine ck_drew ?_ | with_reducible refine ck_old (by first | with_reducible assumption | (simp; assumption)) ?_)); (first | go_cell_look | (simp [*]; done) | go_cell)))) (first | (go_at_call 120; refine (word_any _ _).mono ?_; rintro e w' ⟨rfl, rfl⟩))
  go_wp2
  all_goals go_ret
  all_goals refine ⟨rfl, ?_, ?_, ?_⟩
  · repeat (with_reducible refine (hp_drew _ _).trans ?_)
    exact hp_new (by simp) _
  · repeat (with_reducible refine (hp_drew _ _).trans ?_)
    refine (hp_old (by first | with_reducible exact hpl | (simp; exact hpl)) _).trans ?_
    repeat (with_reducible refine (hp_drew _ _).trans ?_)
    apply Eq.trans
    · repeat (first | with_reducible exact hp | with_reducible apply at_drewNB | apply at_set)
    · simp
  · repeat (first | with_reducible exact World.grownBy.refl _ _ | with_reducible apply gr_set | with_reducible apply gr_alloc | with_reducible apply gr_drewNB | with_reducible apply gr_drew)

set_option maxHeartbeats 1000000 in
theorem ctud_c_tf_tD (p b T : Nat) (D : Bool) (n i0 i1 i2 i3 pv now : Int) (w : World) (hp : w.heap[p]? = some (.cells #[.bool true, .bool D, .int .i64 n] T)) (hb : w.heap[b]? = some (.cells #[.int .i64 i0, .int .i64 i1, .int .i64 i2, .int .i64 i3, .int .i64 pv] 3)) (hne : p ≠ b) (h0 : (i0 != 0) = true) (h1 : (i1 != 0) = false) (h2 : (i2 != 0) = false) (h3 : (i3 != 0) = false) (hc0 : -32768 ≤ n) (hc1 : n ≤ 32767) :
    Calls Tryz.prog 146 #[.pointer (some ⟨p, 0, none⟩), .slice (some ⟨b, 0, none⟩) 5 5, .int .i64 now] w fun e w' => e = .returned (.slice (some ⟨w.heap.size, 0, none⟩) 3 3) ∧ w'.heap[w.heap.size]? = some (.cells #[.int .i64 (yesN (decide (pv ≤ n))), .int .i64 (yesN (decide (n ≤ 0))), .int .i64 n] 3) ∧ w'.heap[p]? = some (.cells #[.bool true, .bool false, .int .i64 n] T) ∧ w.grownBy w' (some p) := by
  have hpl := at_lt hp
  have c0 := at_cell hb 0
  have c1 := at_cell hb 1
  have c2 := at_cell hb 2
  have c3 := at_cell hb 3
  have c4 := at_cell hb 4
  have d0 := at_cell hp 0
  have f0 := at_frozen hp 0
  have d1 := at_cell hp 1
  have f1 := at_frozen hp 1
  have d2 := at_cell hp 2
  have f2 := at_frozen hp 2
  simp at c0 c1 c2 c3 c4 d0 d1 d2
  obtain ⟨q, hq⟩ : ∃ q, decide (pv ≤ n) = q := ⟨_, rfl⟩
  obtain ⟨q2, hq2⟩ : ∃ q, decide (n ≤ 0) = q := ⟨_, rfl⟩
  rw [hq, hq2]
  go_enter Tryz.func146, Tryz.ntmps146
  go_wp2
  go_region_held3 (fun w' => w'.cell? ⟨b, 0, none⟩ = some (.int .i64 i0) ∧ w'.cell? ⟨b, 1, none⟩ = some (.int .i64 i1) ∧ w'.cell? ⟨b, 2, none⟩ = some (.int .i64 i2) ∧ w'.cell? ⟨b, 3, none⟩ = some (.int .i64 i3) ∧ w'.cell? ⟨b, 4, none⟩ = some (.int .i64 pv)) (refine ⟨?_, ?_, ?_, ?_, ?_⟩ <;> (focus ((repeat (first | with_reducible refine ck_drew ?_ | with_reducible refine ck_old (by first | with_reducible assumption | (simp; assumption)) ?_)); (first | go_cell_look | (simp [*]; done) | go_cell)))) (first | (go_at_call 119; refine (truth_any _ _).mono ?_; rintro e w' ⟨rfl, rfl⟩))
  go_wp2
  go_quiet (fail)
  go_wp2_with (first | (go_at_call 138; refine (more_any n _ hc0 hc1).mono ?_; rintro e w' ⟨rfl, rfl⟩) | (go_at_call 142; refine (less_any n _ hc0 hc1).mono ?_; rintro e w' ⟨rfl, rfl⟩))
  go_region_held3 (fun w' => w'.cell? ⟨p, 2, none⟩ = some (.int .i64 n)) ((focus ((repeat (first | with_reducible refine ck_drew ?_ | with_reducible refine ck_old (by first | with_reducible assumption | (simp; assumption)) ?_)); (first | go_cell_look | (simp [*]; done) | go_cell)))) (first | (go_at_call 120; refine (word_any _ _).mono ?_; rintro e w' ⟨rfl, rfl⟩))
  go_wp2
  all_goals go_ret
  all_goals refine ⟨rfl, ?_, ?_, ?_⟩
  · repeat (with_reducible refine (hp_drew _ _).trans ?_)
    exact hp_new (by simp) _
  · repeat (with_reducible refine (hp_drew _ _).trans ?_)
    refine (hp_old (by first | with_reducible exact hpl | (simp; exact hpl)) _).trans ?_
    repeat (with_reducible refine (hp_drew _ _).trans ?_)
    apply Eq.trans
    · repeat (first | with_reducible exact hp | with_reducible apply at_drewNB | apply at_set)
    · simp
  · repeat (first | with_reducible exact World.grownBy.refl _ _ | with_reducible apply gr_set | with_reducible apply gr_alloc | with_reducible apply gr_drewNB | with_reducible apply gr_drew)

set_option maxHeartbeats 1000000 in
theorem ctud_c_tf_fD (p b T : Nat) (D : Bool) (n i0 i1 i2 i3 pv now : Int) (w : World) (hp : w.heap[p]? = some (.cells #[.bool false, .bool D, .int .i64 n] T)) (hb : w.heap[b]? = some (.cells #[.int .i64 i0, .int .i64 i1, .int .i64 i2, .int .i64 i3, .int .i64 pv] 3)) (hne : p ≠ b) (h0 : (i0 != 0) = true) (h1 : (i1 != 0) = false) (h2 : (i2 != 0) = false) (h3 : (i3 != 0) = false) (hc0 : -32768 ≤ n) (hc1 : n ≤ 32767) :
    Calls Tryz.prog 146 #[.pointer (some ⟨p, 0, none⟩), .slice (some ⟨b, 0, none⟩) 5 5, .int .i64 now] w fun e w' => e = .returned (.slice (some ⟨w.heap.size, 0, none⟩) 3 3) ∧ w'.heap[w.heap.size]? = some (.cells #[.int .i64 (yesN (decide (pv ≤ (moreN n)))), .int .i64 (yesN (decide ((moreN n) ≤ 0))), .int .i64 (moreN n)] 3) ∧ w'.heap[p]? = some (.cells #[.bool true, .bool false, .int .i64 (moreN n)] T) ∧ w.grownBy w' (some p) := by
  have hpl := at_lt hp
  have c0 := at_cell hb 0
  have c1 := at_cell hb 1
  have c2 := at_cell hb 2
  have c3 := at_cell hb 3
  have c4 := at_cell hb 4
  have d0 := at_cell hp 0
  have f0 := at_frozen hp 0
  have d1 := at_cell hp 1
  have f1 := at_frozen hp 1
  have d2 := at_cell hp 2
  have f2 := at_frozen hp 2
  simp at c0 c1 c2 c3 c4 d0 d1 d2
  obtain ⟨k, hk⟩ : ∃ k, moreN n = k := ⟨_, rfl⟩
  rw [hk]
  obtain ⟨q, hq⟩ : ∃ q, decide (pv ≤ k) = q := ⟨_, rfl⟩
  obtain ⟨q2, hq2⟩ : ∃ q, decide (k ≤ 0) = q := ⟨_, rfl⟩
  rw [hq, hq2]
  go_enter Tryz.func146, Tryz.ntmps146
  go_wp2
  go_region_held3 (fun w' => w'.cell? ⟨b, 0, none⟩ = some (.int .i64 i0) ∧ w'.cell? ⟨b, 1, none⟩ = some (.int .i64 i1) ∧ w'.cell? ⟨b, 2, none⟩ = some (.int .i64 i2) ∧ w'.cell? ⟨b, 3, none⟩ = some (.int .i64 i3) ∧ w'.cell? ⟨b, 4, none⟩ = some (.int .i64 pv)) (refine ⟨?_, ?_, ?_, ?_, ?_⟩ <;> (focus ((repeat (first | with_reducible refine ck_drew ?_ | with_reducible refine ck_old (by first | with_reducible assumption | (simp; assumption)) ?_)); (first | go_cell_look | (simp [*]; done) | go_cell)))) (first | (go_at_call 119; refine (truth_any _ _).mono ?_; rintro e w' ⟨rfl, rfl⟩))
  go_wp2
  go_quiet (fail)
  go_wp2_with (first | (go_at_call 138; refine (more_any n _ hc0 hc1).mono ?_; rintro e w' ⟨rfl, rfl⟩) | (go_at_call 142; refine (less_any n _ hc0 hc1).mono ?_; rintro e w' ⟨rfl, rfl⟩))
  go_region_held3 (fun w' => w'.cell? ⟨p, 2, none⟩ = some (.int .i64 k)) ((focus ((repeat (first | with_reducible refine ck_drew ?_ | with_reducible refine ck_old (by first | with_reducible assumption | (simp; assumption)) ?_)); (first | go_cell_look | (simp [*]; done) | go_cell)))) (first | (go_at_call 120; refine (word_any _ _).mono ?_; rintro e w' ⟨rfl, rfl⟩))
  go_wp2
  all_goals go_ret
  all_goals refine ⟨rfl, ?_, ?_, ?_⟩
  · repeat (with_reducible refine (hp_drew _ _).trans ?_)
    exact hp_new (by simp) _
  · repeat (with_reducible refine (hp_drew _ _).trans ?_)
    refine (hp_old (by first | with_reducible exact hpl | (simp; exact hpl)) _).trans ?_
    repeat (with_reducible refine (hp_drew _ _).trans ?_)
    apply Eq.trans
    · repeat (first | with_reducible exact hp | with_reducible apply at_drewNB | apply at_set)
    · simp
  · repeat (first | with_reducible exact World.grownBy.refl _ _ | with_reducible apply gr_set | with_reducible apply gr_alloc | with_reducible apply gr_drewNB | with_reducible apply gr_drew)

set_option maxHeartbeats 1000000 in
theorem ctud_c_ft_Ut (p b T : Nat) (U : Bool) (n i0 i1 i2 i3 pv now : Int) (w : World) (hp : w.heap[p]? = some (.cells #[.bool U, .bool true, .int .i64 n] T)) (hb : w.heap[b]? = some (.cells #[.int .i64 i0, .int .i64 i1, .int .i64 i2, .int .i64 i3, .int .i64 pv] 3)) (hne : p ≠ b) (h0 : (i0 != 0) = false) (h1 : (i1 != 0) = true) (h2 : (i2 != 0) = false) (h3 : (i3 != 0) = false) (hc0 : -32768 ≤ n) (hc1 : n ≤ 32767) :
    Calls Tryz.prog 146 #[.pointer (some ⟨p, 0, none⟩), .slice (some ⟨b, 0, none⟩) 5 5, .int .i64 now] w fun e w' => e = .returned (.slice (some ⟨w.heap.size, 0, none⟩) 3 3) ∧ w'.heap[w.heap.size]? = some (.cells #[.int .i64 (yesN (decide (pv ≤ n))), .int .i64 (yesN (decide (n ≤ 0))), .int .i64 n] 3) ∧ w'.heap[p]? = some (.cells #[.bool false, .bool true, .int .i64 n] T) ∧ w.grownBy w' (some p) := by
  have hpl := at_lt hp
  have c0 := at_cell hb 0
  have c1 := at_cell hb 1
  have c2 := at_cell hb 2
  have c3 := at_cell hb 3
  have c4 := at_cell hb 4
  have d0 := at_cell hp 0
  have f0 := at_frozen hp 0
  have d1 := at_cell hp 1
  have f1 := at_frozen hp 1
  have d2 := at_cell hp 2
  have f2 := at_frozen hp 2
  simp at c0 c1 c2 c3 c4 d0 d1 d2
  obtain ⟨q, hq⟩ : ∃ q, decide (pv ≤ n) = q := ⟨_, rfl⟩
  obtain ⟨q2, hq2⟩ : ∃ q, decide (n ≤ 0) = q := ⟨_, rfl⟩
  rw [hq, hq2]
  go_enter Tryz.func146, Tryz.ntmps146
  go_wp2
  go_region_held3 (fun w' => w'.cell? ⟨b, 0, none⟩ = some (.int .i64 i0) ∧ w'.cell? ⟨b, 1, none⟩ = some (.int .i64 i1) ∧ w'.cell? ⟨b, 2, none⟩ = some (.int .i64 i2) ∧ w'.cell? ⟨b, 3, none⟩ = some (.int .i64 i3) ∧ w'.cell? ⟨b, 4, none⟩ = some (.int .i64 pv)) (refine ⟨?_, ?_, ?_, ?_, ?_⟩ <;> (focus ((repeat (first | with_reducible refine ck_drew ?_ | with_reducible refine ck_old (by first | with_reducible assumption | (simp; assumption)) ?_)); (first | go_cell_look | (simp [*]; done) | go_cell)))) (first | (go_at_call 119; refine (truth_any _ _).mono ?_; rintro e w' ⟨rfl, rfl⟩))
  go_wp2
  go_quiet (fail)
  go_wp2_with (first | (go_at_call 138; refine (more_any n _ hc0 hc1).mono ?_; rintro e w' ⟨rfl, rfl⟩) | (go_at_call 142; refine (less_any n _ hc0 hc1).mono ?_; rintro e w' ⟨rfl, rfl⟩))
  go_region_held3 (fun w' => w'.cell? ⟨p, 2, none⟩ = some (.int .i64 n)) ((focus ((repeat (first | with_reducible refine ck_drew ?_ | with_reducible refine ck_old (by first | with_reducible assumption | (simp; assumption)) ?_)); (first | go_cell_look | (simp [*]; done) | go_cell)))) (first | (go_at_call 120; refine (word_any _ _).mono ?_; rintro e w' ⟨rfl, rfl⟩))
  go_wp2
  all_goals go_ret
  all_goals refine ⟨rfl, ?_, ?_, ?_⟩
  · repeat (with_reducible refine (hp_drew _ _).trans ?_)
    exact hp_new (by simp) _
  · repeat (with_reducible refine (hp_drew _ _).trans ?_)
    refine (hp_old (by first | with_reducible exact hpl | (simp; exact hpl)) _).trans ?_
    repeat (with_reducible refine (hp_drew _ _).trans ?_)
    apply Eq.trans
    · repeat (first | with_reducible exact hp | with_reducible apply at_drewNB | apply at_set)
    · simp
  · repeat (first | with_reducible exact World.grownBy.refl _ _ | with_reducible apply gr_set | with_reducible apply gr_alloc | with_reducible apply gr_drewNB | with_reducible apply gr_drew)

set_option maxHeartbeats 1000000 in
theorem ctud_c_ft_Uf (p b T : Nat) (U : Bool) (n i0 i1 i2 i3 pv now : Int) (w : World) (hp : w.heap[p]? = some (.cells #[.bool U, .bool false, .int .i64 n] T)) (hb : w.heap[b]? = some (.cells #[.int .i64 i0, .int .i64 i1, .int .i64 i2, .int .i64 i3, .int .i64 pv] 3)) (hne : p ≠ b) (h0 : (i0 != 0) = false) (h1 : (i1 != 0) = true) (h2 : (i2 != 0) = false) (h3 : (i3 != 0) = false) (hc0 : -32768 ≤ n) (hc1 : n ≤ 32767) :
    Calls Tryz.prog 146 #[.pointer (some ⟨p, 0, none⟩), .slice (some ⟨b, 0, none⟩) 5 5, .int .i64 now] w fun e w' => e = .returned (.slice (some ⟨w.heap.size, 0, none⟩) 3 3) ∧ w'.heap[w.heap.size]? = some (.cells #[.int .i64 (yesN (decide (pv ≤ (lessN n)))), .int .i64 (yesN (decide ((lessN n) ≤ 0))), .int .i64 (lessN n)] 3) ∧ w'.heap[p]? = some (.cells #[.bool false, .bool true, .int .i64 (lessN n)] T) ∧ w.grownBy w' (some p) := by
  have hpl := at_lt hp
  have c0 := at_cell hb 0
  have c1 := at_cell hb 1
  have c2 := at_cell hb 2
  have c3 := at_cell hb 3
  have c4 := at_cell hb 4
  have d0 := at_cell hp 0
  have f0 := at_frozen hp 0
  have d1 := at_cell hp 1
  have f1 := at_frozen hp 1
  have d2 := at_cell hp 2
  have f2 := at_frozen hp 2
  simp at c0 c1 c2 c3 c4 d0 d1 d2
  obtain ⟨k, hk⟩ : ∃ k, lessN n = k := ⟨_, rfl⟩
  rw [hk]
  obtain ⟨q, hq⟩ : ∃ q, decide (pv ≤ k) = q := ⟨_, rfl⟩
  obtain ⟨q2, hq2⟩ : ∃ q, decide (k ≤ 0) = q := ⟨_, rfl⟩
  rw [hq, hq2]
  go_enter Tryz.func146, Tryz.ntmps146
  go_wp2
  go_region_held3 (fun w' => w'.cell? ⟨b, 0, none⟩ = some (.int .i64 i0) ∧ w'.cell? ⟨b, 1, none⟩ = some (.int .i64 i1) ∧ w'.cell? ⟨b, 2, none⟩ = some (.int .i64 i2) ∧ w'.cell? ⟨b, 3, none⟩ = some (.int .i64 i3) ∧ w'.cell? ⟨b, 4, none⟩ = some (.int .i64 pv)) (refine ⟨?_, ?_, ?_, ?_, ?_⟩ <;> (focus ((repeat (first | with_reducible refine ck_drew ?_ | with_reducible refine ck_old (by first | with_reducible assumption | (simp; assumption)) ?_)); (first | go_cell_look | (simp [*]; done) | go_cell)))) (first | (go_at_call 119; refine (truth_any _ _).mono ?_; rintro e w' ⟨rfl, rfl⟩))
  go_wp2
  go_quiet (fail)
  go_wp2_with (first | (go_at_call 138; refine (more_any n _ hc0 hc1).mono ?_; rintro e w' ⟨rfl, rfl⟩) | (go_at_call 142; refine (less_any n _ hc0 hc1).mono ?_; rintro e w' ⟨rfl, rfl⟩))
  go_region_held3 (fun w' => w'.cell? ⟨p, 2, none⟩ = some (.int .i64 k)) ((focus ((repeat (first | with_reducible refine ck_drew ?_ | with_reducible refine ck_old (by first | with_reducible assumption | (simp; assumption)) ?_)); (first | go_cell_look | (simp [*]; done) | go_cell)))) (first | (go_at_call 120; refine (word_any _ _).mono ?_; rintro e w' ⟨rfl, rfl⟩))
  go_wp2
  all_goals go_ret
  all_goals refine ⟨rfl, ?_, ?_, ?_⟩
  · repeat (with_reducible refine (hp_drew _ _).trans ?_)
    exact hp_new (by simp) _
  · repeat (with_reducible refine (hp_drew _ _).trans ?_)
    refine (hp_old (by first | with_reducible exact hpl | (simp; exact hpl)) _).trans ?_
    repeat (with_reducible refine (hp_drew _ _).trans ?_)
    apply Eq.trans
    · repeat (first | with_reducible exact hp | with_reducible apply at_drewNB | apply at_set)
    · simp
  · repeat (first | with_reducible exact World.grownBy.refl _ _ | with_reducible apply gr_set | with_reducible apply gr_alloc | with_reducible apply gr_drewNB | with_reducible apply gr_drew)

set_option maxHeartbeats 1000000 in
theorem ctud_c_ff_UD (p b T : Nat) (U : Bool) (D : Bool) (n i0 i1 i2 i3 pv now : Int) (w : World) (hp : w.heap[p]? = some (.cells #[.bool U, .bool D, .int .i64 n] T)) (hb : w.heap[b]? = some (.cells #[.int .i64 i0, .int .i64 i1, .int .i64 i2, .int .i64 i3, .int .i64 pv] 3)) (hne : p ≠ b) (h0 : (i0 != 0) = false) (h1 : (i1 != 0) = false) (h2 : (i2 != 0) = false) (h3 : (i3 != 0) = false) (hc0 : -32768 ≤ n) (hc1 : n ≤ 32767) :
    Calls Tryz.prog 146 #[.pointer (some ⟨p, 0, none⟩), .slice (some ⟨b, 0, none⟩) 5 5, .int .i64 now] w fun e w' => e = .returned (.slice (some ⟨w.heap.size, 0, none⟩) 3 3) ∧ w'.heap[w.heap.size]? = some (.cells #[.int .i64 (yesN (decide (pv ≤ n))), .int .i64 (yesN (decide (n ≤ 0))), .int .i64 n] 3) ∧ w'.heap[p]? = some (.cells #[.bool false, .bool false, .int .i64 n] T) ∧ w.grownBy w' (some p) := by
  have hpl := at_lt hp
  have c0 := at_cell hb 0
  have c1 := at_cell hb 1
  have c2 := at_cell hb 2
  have c3 := at_cell hb 3
  have c4 := at_cell hb 4
  have d0 := at_cell hp 0
  have f0 := at_frozen hp 0
  have d1 := at_cell hp 1
  have f1 := at_frozen hp 1
  have d2 := at_cell hp 2
  have f2 := at_frozen hp 2
  simp at c0 c1 c2 c3 c4 d0 d1 d2
  obtain ⟨q, hq⟩ : ∃ q, decide (pv ≤ n) = q := ⟨_, rfl⟩
  obtain ⟨q2, hq2⟩ : ∃ q, decide (n ≤ 0) = q := ⟨_, rfl⟩
  rw [hq, hq2]
  go_enter Tryz.func146, Tryz.ntmps146
  go_wp2
  go_region_held3 (fun w' => w'.cell? ⟨b, 0, none⟩ = some (.int .i64 i0) ∧ w'.cell? ⟨b, 1, none⟩ = some (.int .i64 i1) ∧ w'.cell? ⟨b, 2, none⟩ = some (.int .i64 i2) ∧ w'.cell? ⟨b, 3, none⟩ = some (.int .i64 i3) ∧ w'.cell? ⟨b, 4, none⟩ = some (.int .i64 pv)) (refine ⟨?_, ?_, ?_, ?_, ?_⟩ <;> (focus ((repeat (first | with_reducible refine ck_drew ?_ | with_reducible refine ck_old (by first | with_reducible assumption | (simp; assumption)) ?_)); (first | go_cell_look | (simp [*]; done) | go_cell)))) (first | (go_at_call 119; refine (truth_any _ _).mono ?_; rintro e w' ⟨rfl, rfl⟩))
  go_wp2
  go_quiet (fail)
  go_wp2_with (first | (go_at_call 138; refine (more_any n _ hc0 hc1).mono ?_; rintro e w' ⟨rfl, rfl⟩) | (go_at_call 142; refine (less_any n _ hc0 hc1).mono ?_; rintro e w' ⟨rfl, rfl⟩))
  go_region_held3 (fun w' => w'.cell? ⟨p, 2, none⟩ = some (.int .i64 n)) ((focus ((repeat (first | with_reducible refine ck_drew ?_ | with_reducible refine ck_old (by first | with_reducible assumption | (simp; assumption)) ?_)); (first | go_cell_look | (simp [*]; done) | go_cell)))) (first | (go_at_call 120; refine (word_any _ _).mono ?_; rintro e w' ⟨rfl, rfl⟩))
  go_wp2
  all_goals go_ret
  all_goals refine ⟨rfl, ?_, ?_, ?_⟩
  · repeat (with_reducible refine (hp_drew _ _).trans ?_)
    exact hp_new (by simp) _
  · repeat (with_reducible refine (hp_drew _ _).trans ?_)
    refine (hp_old (by first | with_reducible exact hpl | (simp; exact hpl)) _).trans ?_
    repeat (with_reducible refine (hp_drew _ _).trans ?_)
    apply Eq.trans
    · repeat (first | with_reducible exact hp | with_reducible apply at_drewNB | apply at_set)
    · simp
  · repeat (first | with_reducible exact World.grownBy.refl _ _ | with_reducible apply gr_set | with_reducible apply gr_alloc | with_reducible apply gr_drewNB | with_reducible apply gr_drew)

end Go.Proofs.YtcgbfhpmkpglkaaGreatDoor.Bl
