/- ctu, ctd: their steps. -/
import Derived.Test.YtphnadhkoigegaaG
import Derived.OpenShut
namespace Go.Proofs.Ytphnadhkoigegaa
open Go.RowKit
attribute [local go_sem ↓] Go.wp_at_zero Go.wp_at_succ
set_option linter.unusedVariables false

set_option maxHeartbeats 1000000 in
theorem rises_any (p : Nat) (x P u : Bool) (w : World) (d0 : w.cell? ⟨p, 0, none⟩ = some (.bool P)) (f0 : w.frozen? ⟨p, 0, none⟩ = false) (hu : (x && !P) = u) :
    Calls Try.prog 63 #[.pointer (some ⟨p, 0, none⟩), .bool x] w fun e w' => e = .returned (.bool u) ∧ w' = w.setCell ⟨p, 0, none⟩ (.bool x) := by
  subst hu
  cases x <;> cases P
  all_goals
    go_enter Try.func63, Try.ntmps63
    go_wp2
    go_ret
    exact ⟨rfl, rfl⟩

set_option maxHeartbeats 1000000 in
theorem ctu_set (p b T : Nat) (P u : Bool) (n i0 i1 pv now : Int) (w : World) (hp : w.heap[p]? = some (.cells #[.bool P, .int .i64 n] T)) (hb : w.heap[b]? = some (.cells #[.int .i64 i0, .int .i64 i1, .int .i64 pv] 3)) (hne : p ≠ b) (h1 : (i1 != 0) = true) (hu : ((i0 != 0) && !P) = u) (hc0 : -32768 ≤ n) (hc1 : n ≤ 32767) :
    Calls Try.prog 66 #[.pointer (some ⟨p, 0, none⟩), .slice (some ⟨b, 0, none⟩) 3 3, .int .i64 now] w fun e w' => e = .returned (.slice (some ⟨w.heap.size, 0, none⟩) 2 2) ∧ w'.heap[w.heap.size]? = some (.cells #[.int .i64 (yesN (decide (pv ≤ 0))), .int .i64 0] 3) ∧ w'.heap[p]? = some (.cells #[.bool (i0 != 0), .int .i64 0] T) ∧ w.grownBy w' (some p) := by
  have hpl := at_lt hp
  have c0 := at_cell hb 0
  have c1 := at_cell hb 1
  have c2 := at_cell hb 2
  have d0 := at_cell hp 0
  have f0 := at_frozen hp 0
  have d1 := at_cell hp 1
  have f1 := at_frozen hp 1
  simp at c0 c1 c2 d0 d1
  obtain ⟨q, hq⟩ : ∃ q, decide (pv ≤ 0) = q := ⟨_, rfl⟩
  rw [hq]
  go_enter Try.func66, Try.ntmps66
  go_wp2
  go_region_held3 (fun w' => w'.cell? ⟨b, 0, none⟩ = some (.int .i64 i0) ∧ w'.cell? ⟨b, 1, none⟩ = some (.int .i64 i1) ∧ w'.cell? ⟨b, 2, none⟩ = some (.int .i64 pv)) (refine ⟨?_, ?_, ?_⟩ <;> (focus ((repeat (first | with_reducible refine ck_drew ?_ | with_reducible refine ck_old (by first | with_reducible assumption | (simp; assumption)) ?_)); (first | go_cell_look | (simp [*]; done) | go_cell)))) (first | (go_at_call 49; refine (truth_any _ _).mono ?_; rintro e w' ⟨rfl, rfl⟩) | (go_at_call 63; refine (rises_any p _ P u _ ?_ ?_ ?_).mono ?_; (focus ((repeat (first | with_reducible refine ck_drew ?_ | with_reducible refine ck_old (by first | with_reducible assumption | (simp; assumption)) ?_)); (first | go_cell_look | (simp [*]; done) | go_cell))); (focus (first | (simp [*]; done) | (go_simp; done))); (exact hu); rintro e w' ⟨rfl, rfl⟩))
  go_wp2_with (first | (go_at_call 68; refine (more_any n _ hc0 hc1).mono ?_; rintro e w' ⟨rfl, rfl⟩))
  go_region_held3 (fun w' => w'.cell? ⟨p, 1, none⟩ = some (.int .i64 0)) ((focus ((repeat (first | with_reducible refine ck_drew ?_ | with_reducible refine ck_old (by first | with_reducible assumption | (simp; assumption)) ?_)); (first | go_cell_look | (simp [*]; done) | go_cell)))) (first | (go_at_call 50; refine (word_any _ _).mono ?_; rintro e w' ⟨rfl, rfl⟩))
  go_wp2
  all_goals go_ret
  all_goals refine ⟨rfl, ?_, ?_, ?_⟩
  · repeat (with_reducible refine (hp_drew _ _).trans ?_)
    exact hp_new (by simp) _
  · repeat (with_reducible refine (hp_drew _ _).trans ?_)
    refine (hp_old (by first | with_reducible exact hpl | (simp; exact hpl)) _).trans ?_
    repeat (with_reducible refine (hp_drew _ _).trans ?_)
    apply Eq.trans
    · repeat (first | with_reducible exact hp | apply at_set)
    · simp
  · repeat (first | with_reducible exact World.grownBy.refl _ _ | with_reducible apply gr_set | with_reducible apply gr_alloc | with_reducible apply gr_drew)

set_option maxHeartbeats 1000000 in
theorem ctu_up (p b T : Nat) (P : Bool) (n i0 i1 pv now : Int) (w : World) (hp : w.heap[p]? = some (.cells #[.bool P, .int .i64 n] T)) (hb : w.heap[b]? = some (.cells #[.int .i64 i0, .int .i64 i1, .int .i64 pv] 3)) (hne : p ≠ b) (h1 : (i1 != 0) = false) (hu : ((i0 != 0) && !P) = true) (hc0 : -32768 ≤ n) (hc1 : n ≤ 32767) :
    Calls Try.prog 66 #[.pointer (some ⟨p, 0, none⟩), .slice (some ⟨b, 0, none⟩) 3 3, .int .i64 now] w fun e w' => e = .returned (.slice (some ⟨w.heap.size, 0, none⟩) 2 2) ∧ w'.heap[w.heap.size]? = some (.cells #[.int .i64 (yesN (decide (pv ≤ (moreN n)))), .int .i64 (moreN n)] 3) ∧ w'.heap[p]? = some (.cells #[.bool (i0 != 0), .int .i64 (moreN n)] T) ∧ w.grownBy w' (some p) := by
  have hpl := at_lt hp
  have c0 := at_cell hb 0
  have c1 := at_cell hb 1
  have c2 := at_cell hb 2
  have d0 := at_cell hp 0
  have f0 := at_frozen hp 0
  have d1 := at_cell hp 1
  have f1 := at_frozen hp 1
  simp at c0 c1 c2 d0 d1
  obtain ⟨k, hk⟩ : ∃ k, moreN n = k := ⟨_, rfl⟩
  rw [hk]
  obtain ⟨q, hq⟩ : ∃ q, decide (pv ≤ k) = q := ⟨_, rfl⟩
  rw [hq]
  go_enter Try.func66, Try.ntmps66
  go_wp2
  go_region_held3 (fun w' => w'.cell? ⟨b, 0, none⟩ = some (.int .i64 i0) ∧ w'.cell? ⟨b, 1, none⟩ = some (.int .i64 i1) ∧ w'.cell? ⟨b, 2, none⟩ = some (.int .i64 pv)) (refine ⟨?_, ?_, ?_⟩ <;> (focus ((repeat (first | with_reducible refine ck_drew ?_ | with_reducible refine ck_old (by first | with_reducible assumption | (simp; assumption)) ?_)); (first | go_cell_look | (simp [*]; done) | go_cell)))) (first | (go_at_call 49; refine (truth_any _ _).mono ?_; rintro e w' ⟨rfl, rfl⟩) | (go_at_call 63; refine (rises_any p _ P true _ ?_ ?_ ?_).mono ?_; (focus ((repeat (first | with_reducible refine ck_drew ?_ | with_reducible refine ck_old (by first | with_reducible assumption | (simp; assumption)) ?_)); (first | go_cell_look | (simp [*]; done) | go_cell))); (focus (first | (simp [*]; done) | (go_simp; done))); (exact hu); rintro e w' ⟨rfl, rfl⟩))
  go_wp2_with (first | (go_at_call 68; refine (more_any n _ hc0 hc1).mono ?_; rintro e w' ⟨rfl, rfl⟩))
  go_region_held3 (fun w' => w'.cell? ⟨p, 1, none⟩ = some (.int .i64 k)) ((focus ((repeat (first | with_reducible refine ck_drew ?_ | with_reducible refine ck_old (by first | with_reducible assumption | (simp; assumption)) ?_)); (first | go_cell_look | (simp [*]; done) | go_cell)))) (first | (go_at_call 50; refine (word_any _ _).mono ?_; rintro e w' ⟨rfl, rfl⟩))
  go_wp2
  all_goals go_ret
  all_goals refine ⟨rfl, ?_, ?_, ?_⟩
  · repeat (with_reducible refine (hp_drew _ _).trans ?_)
    exact hp_new (by simp) _
  · repeat (with_reducible refine (hp_drew _ _).trans ?_)
    refine (hp_old (by first | with_reducible exact hpl | (simp; exact hpl)) _).trans ?_
    repeat (with_reducible refine (hp_drew _ _).trans ?_)
    apply Eq.trans
    · repeat (first | with_reducible exact hp | apply at_set)
    · simp
  · repeat (first | with_reducible exact World.grownBy.refl _ _ | with_reducible apply gr_set | with_reducible apply gr_alloc | with_reducible apply gr_drew)

set_option maxHeartbeats 1000000 in
theorem ctu_no (p b T : Nat) (P : Bool) (n i0 i1 pv now : Int) (w : World) (hp : w.heap[p]? = some (.cells #[.bool P, .int .i64 n] T)) (hb : w.heap[b]? = some (.cells #[.int .i64 i0, .int .i64 i1, .int .i64 pv] 3)) (hne : p ≠ b) (h1 : (i1 != 0) = false) (hu : ((i0 != 0) && !P) = false) (hc0 : -32768 ≤ n) (hc1 : n ≤ 32767) :
    Calls Try.prog 66 #[.pointer (some ⟨p, 0, none⟩), .slice (some ⟨b, 0, none⟩) 3 3, .int .i64 now] w fun e w' => e = .returned (.slice (some ⟨w.heap.size, 0, none⟩) 2 2) ∧ w'.heap[w.heap.size]? = some (.cells #[.int .i64 (yesN (decide (pv ≤ n))), .int .i64 n] 3) ∧ w'.heap[p]? = some (.cells #[.bool (i0 != 0), .int .i64 n] T) ∧ w.grownBy w' (some p) := by
  have hpl := at_lt hp
  have c0 := at_cell hb 0
  have c1 := at_cell hb 1
  have c2 := at_cell hb 2
  have d0 := at_cell hp 0
  have f0 := at_frozen hp 0
  have d1 := at_cell hp 1
  have f1 := at_frozen hp 1
  simp at c0 c1 c2 d0 d1
  obtain ⟨q, hq⟩ : ∃ q, decide (pv ≤ n) = q := ⟨_, rfl⟩
  rw [hq]
  go_enter Try.func66, Try.ntmps66
  go_wp2
  go_region_held3 (fun w' => w'.cell? ⟨b, 0, none⟩ = some (.int .i64 i0) ∧ w'.cell? ⟨b, 1, none⟩ = some (.int .i64 i1) ∧ w'.cell? ⟨b, 2, none⟩ = some (.int .i64 pv)) (refine ⟨?_, ?_, ?_⟩ <;> (focus ((repeat (first | with_reducible refine ck_drew ?_ | with_reducible refine ck_old (by first | with_reducible assumption | (simp; assumption)) ?_)); (first | go_cell_look | (simp [*]; done) | go_cell)))) (first | (go_at_call 49; refine (truth_any _ _).mono ?_; rintro e w' ⟨rfl, rfl⟩) | (go_at_call 63; refine (rises_any p _ P false _ ?_ ?_ ?_).mono ?_; (focus ((repeat (first | with_reducible refine ck_drew ?_ | with_reducible refine ck_old (by first | with_reducible assumption | (simp; assumption)) ?_)); (first | go_cell_look | (simp [*]; done) | go_cell))); (focus (first | (simp [*]; done) | (go_simp; done))); (exact hu); rintro e w' ⟨rfl, rfl⟩))
  go_wp2_with (first | (go_at_call 68; refine (more_any n _ hc0 hc1).mono ?_; rintro e w' ⟨rfl, rfl⟩))
  go_region_held3 (fun w' => w'.cell? ⟨p, 1, none⟩ = some (.int .i64 n)) ((focus ((repeat (first | with_reducible refine ck_drew ?_ | with_reducible refine ck_old (by first | with_reducible assumption | (simp; assumption)) ?_)); (first | go_cell_look | (simp [*]; done) | go_cell)))) (first | (go_at_call 50; refine (word_any _ _).mono ?_; rintro e w' ⟨rfl, rfl⟩))
  go_wp2
  all_goals go_ret
  all_goals refine ⟨rfl, ?_, ?_, ?_⟩
  · repeat (with_reducible refine (hp_drew _ _).trans ?_)
    exact hp_new (by simp) _
  · repeat (with_reducible refine (hp_drew _ _).trans ?_)
    refine (hp_old (by first | with_reducible exact hpl | (simp; exact hpl)) _).trans ?_
    repeat (with_reducible refine (hp_drew _ _).trans ?_)
    apply Eq.trans
    · repeat (first | with_reducible exact hp | apply at_set)
    · simp
  · repeat (first | with_reducible exact World.grownBy.refl _ _ | with_reducible apply gr_set | with_reducible apply gr_alloc | with_reducible apply gr_drew)

set_option maxHeartbeats 1000000 in
theorem ctd_set (p b T : Nat) (P u : Bool) (n i0 i1 pv now : Int) (w : World) (hp : w.heap[p]? = some (.cells #[.bool P, .int .i64 n] T)) (hb : w.heap[b]? = some (.cells #[.int .i64 i0, .int .i64 i1, .int .i64 pv] 3)) (hne : p ≠ b) (h1 : (i1 != 0) = true) (hu : ((i0 != 0) && !P) = u) (hc0 : -32768 ≤ n) (hc1 : n ≤ 32767) :
    Calls Try.prog 71 #[.pointer (some ⟨p, 0, none⟩), .slice (some ⟨b, 0, none⟩) 3 3, .int .i64 now] w fun e w' => e = .returned (.slice (some ⟨w.heap.size, 0, none⟩) 2 2) ∧ w'.heap[w.heap.size]? = some (.cells #[.int .i64 (yesN (decide (pv ≤ 0))), .int .i64 pv] 3) ∧ w'.heap[p]? = some (.cells #[.bool (i0 != 0), .int .i64 pv] T) ∧ w.grownBy w' (some p) := by
  have hpl := at_lt hp
  have c0 := at_cell hb 0
  have c1 := at_cell hb 1
  have c2 := at_cell hb 2
  have d0 := at_cell hp 0
  have f0 := at_frozen hp 0
  have d1 := at_cell hp 1
  have f1 := at_frozen hp 1
  simp at c0 c1 c2 d0 d1
  obtain ⟨q, hq⟩ : ∃ q, decide (pv ≤ 0) = q := ⟨_, rfl⟩
  rw [hq]
  go_enter Try.func71, Try.ntmps71
  go_wp2
  go_region_held3 (fun w' => w'.cell? ⟨b, 0, none⟩ = some (.int .i64 i0) ∧ w'.cell? ⟨b, 1, none⟩ = some (.int .i64 i1) ∧ w'.cell? ⟨b, 2, none⟩ = some (.int .i64 pv)) (refine ⟨?_, ?_, ?_⟩ <;> (focus ((repeat (first | with_reducible refine ck_drew ?_ | with_reducible refine ck_old (by first | with_reducible assumption | (simp; assumption)) ?_)); (first | go_cell_look | (simp [*]; done) | go_cell)))) (first | (go_at_call 49; refine (truth_any _ _).mono ?_; rintro e w' ⟨rfl, rfl⟩) | (go_at_call 63; refine (rises_any p _ P u _ ?_ ?_ ?_).mono ?_; (focus ((repeat (first | with_reducible refine ck_drew ?_ | with_reducible refine ck_old (by first | with_reducible assumption | (simp; assumption)) ?_)); (first | go_cell_look | (simp [*]; done) | go_cell))); (focus (first | (simp [*]; done) | (go_simp; done))); (exact hu); rintro e w' ⟨rfl, rfl⟩))
  go_wp2_with (first | (go_at_call 72; refine (less_any n _ hc0 hc1).mono ?_; rintro e w' ⟨rfl, rfl⟩))
  go_region_held3 (fun w' => w'.cell? ⟨p, 1, none⟩ = some (.int .i64 pv)) ((focus ((repeat (first | with_reducible refine ck_drew ?_ | with_reducible refine ck_old (by first | with_reducible assumption | (simp; assumption)) ?_)); (first | go_cell_look | (simp [*]; done) | go_cell)))) (first | (go_at_call 50; refine (word_any _ _).mono ?_; rintro e w' ⟨rfl, rfl⟩))
  go_wp2
  all_goals go_ret
  all_goals refine ⟨rfl, ?_, ?_, ?_⟩
  · repeat (with_reducible refine (hp_drew _ _).trans ?_)
    exact hp_new (by simp) _
  · repeat (with_reducible refine (hp_drew _ _).trans ?_)
    refine (hp_old (by first | with_reducible exact hpl | (simp; exact hpl)) _).trans ?_
    repeat (with_reducible refine (hp_drew _ _).trans ?_)
    apply Eq.trans
    · repeat (first | with_reducible exact hp | apply at_set)
    · simp
  · repeat (first | with_reducible exact World.grownBy.refl _ _ | with_reducible apply gr_set | with_reducible apply gr_alloc | with_reducible apply gr_drew)

set_option maxHeartbeats 1000000 in
theorem ctd_up (p b T : Nat) (P : Bool) (n i0 i1 pv now : Int) (w : World) (hp : w.heap[p]? = some (.cells #[.bool P, .int .i64 n] T)) (hb : w.heap[b]? = some (.cells #[.int .i64 i0, .int .i64 i1, .int .i64 pv] 3)) (hne : p ≠ b) (h1 : (i1 != 0) = false) (hu : ((i0 != 0) && !P) = true) (hc0 : -32768 ≤ n) (hc1 : n ≤ 32767) :
    Calls Try.prog 71 #[.pointer (some ⟨p, 0, none⟩), .slice (some ⟨b, 0, none⟩) 3 3, .int .i64 now] w fun e w' => e = .returned (.slice (some ⟨w.heap.size, 0, none⟩) 2 2) ∧ w'.heap[w.heap.size]? = some (.cells #[.int .i64 (yesN (decide ((lessN n) ≤ 0))), .int .i64 (lessN n)] 3) ∧ w'.heap[p]? = some (.cells #[.bool (i0 != 0), .int .i64 (lessN n)] T) ∧ w.grownBy w' (some p) := by
  have hpl := at_lt hp
  have c0 := at_cell hb 0
  have c1 := at_cell hb 1
  have c2 := at_cell hb 2
  have d0 := at_cell hp 0
  have f0 := at_frozen hp 0
  have d1 := at_cell hp 1
  have f1 := at_frozen hp 1
  simp at c0 c1 c2 d0 d1
  obtain ⟨k, hk⟩ : ∃ k, lessN n = k := ⟨_, rfl⟩
  rw [hk]
  obtain ⟨q, hq⟩ : ∃ q, decide (k ≤ 0) = q := ⟨_, rfl⟩
  rw [hq]
  go_enter Try.func71, Try.ntmps71
  go_wp2
  go_region_held3 (fun w' => w'.cell? ⟨b, 0, none⟩ = some (.int .i64 i0) ∧ w'.cell? ⟨b, 1, none⟩ = some (.int .i64 i1) ∧ w'.cell? ⟨b, 2, none⟩ = some (.int .i64 pv)) (refine ⟨?_, ?_, ?_⟩ <;> (focus ((repeat (first | with_reducible refine ck_drew ?_ | with_reducible refine ck_old (by first | with_reducible assumption | (simp; assumption)) ?_)); (first | go_cell_look | (simp [*]; done) | go_cell)))) (first | (go_at_call 49; refine (truth_any _ _).mono ?_; rintro e w' ⟨rfl, rfl⟩) | (go_at_call 63; refine (rises_any p _ P true _ ?_ ?_ ?_).mono ?_; (focus ((repeat (first | with_reducible refine ck_drew ?_ | with_reducible refine ck_old (by first | with_reducible assumption | (simp; assumption)) ?_)); (first | go_cell_look | (simp [*]; done) | go_cell))); (focus (first | (simp [*]; done) | (go_simp; done))); (exact hu); rintro e w' ⟨rfl, rfl⟩))
  go_wp2_with (first | (go_at_call 72; refine (less_any n _ hc0 hc1).mono ?_; rintro e w' ⟨rfl, rfl⟩))
  go_region_held3 (fun w' => w'.cell? ⟨p, 1, none⟩ = some (.int .i64 k)) ((focus ((repeat (first | with_reducible refine ck_drew ?_ | with_reducible refine ck_old (by first | with_reducible assumption | (simp; assumption)) ?_)); (first | go_cell_look | (simp [*]; done) | go_cell)))) (first | (go_at_call 50; refine (word_any _ _).mono ?_; rintro e w' ⟨rfl, rfl⟩))
  go_wp2
  all_goals go_ret
  all_goals refine ⟨rfl, ?_, ?_, ?_⟩
  · repeat (with_reducible refine (hp_drew _ _).trans ?_)
    exact hp_new (by simp) _
  · repeat (with_reducible refine (hp_drew _ _).trans ?_)
    refine (hp_old (by first | with_reducible exact hpl | (simp; exact hpl)) _).trans ?_
    repeat (with_reducible refine (hp_drew _ _).trans ?_)
    apply Eq.trans
    · repeat (first | with_reducible exact hp | apply at_set)
    · simp
  · repeat (first | with_reducible exact World.grownBy.refl _ _ | with_reducible apply gr_set | with_reducible apply gr_alloc | with_reducible apply gr_drew)

set_option maxHeartbeats 1000000 in
theorem ctd_no (p b T : Nat) (P : Bool) (n i0 i1 pv now : Int) (w : World) (hp : w.heap[p]? = some (.cells #[.bool P, .int .i64 n] T)) (hb : w.heap[b]? = some (.cells #[.int .i64 i0, .int .i64 i1, .int .i64 pv] 3)) (hne : p ≠ b) (h1 : (i1 != 0) = false) (hu : ((i0 != 0) && !P) = false) (hc0 : -32768 ≤ n) (hc1 : n ≤ 32767) :
    Calls Try.prog 71 #[.pointer (some ⟨p, 0, none⟩), .slice (some ⟨b, 0, none⟩) 3 3, .int .i64 now] w fun e w' => e = .returned (.slice (some ⟨w.heap.size, 0, none⟩) 2 2) ∧ w'.heap[w.heap.size]? = some (.cells #[.int .i64 (yesN (decide (n ≤ 0))), .int .i64 n] 3) ∧ w'.heap[p]? = some (.cells #[.bool (i0 != 0), .int .i64 n] T) ∧ w.grownBy w' (some p) := by
  have hpl := at_lt hp
  have c0 := at_cell hb 0
  have c1 := at_cell hb 1
  have c2 := at_cell hb 2
  have d0 := at_cell hp 0
  have f0 := at_frozen hp 0
  have d1 := at_cell hp 1
  have f1 := at_frozen hp 1
  simp at c0 c1 c2 d0 d1
  obtain ⟨q, hq⟩ : ∃ q, decide (n ≤ 0) = q := ⟨_, rfl⟩
  rw [hq]
  go_enter Try.func71, Try.ntmps71
  go_wp2
  go_region_held3 (fun w' => w'.cell? ⟨b, 0, none⟩ = some (.int .i64 i0) ∧ w'.cell? ⟨b, 1, none⟩ = some (.int .i64 i1) ∧ w'.cell? ⟨b, 2, none⟩ = some (.int .i64 pv)) (refine ⟨?_, ?_, ?_⟩ <;> (focus ((repeat (first | with_reducible refine ck_drew ?_ | with_reducible refine ck_old (by first | with_reducible assumption | (simp; assumption)) ?_)); (first | go_cell_look | (simp [*]; done) | go_cell)))) (first | (go_at_call 49; refine (truth_any _ _).mono ?_; rintro e w' ⟨rfl, rfl⟩) | (go_at_call 63; refine (rises_any p _ P false _ ?_ ?_ ?_).mono ?_; (focus ((repeat (first | with_reducible refine ck_drew ?_ | with_reducible refine ck_old (by first | with_reducible assumption | (simp; assumption)) ?_)); (first | go_cell_look | (simp [*]; done) | go_cell))); (focus (first | (simp [*]; done) | (go_simp; done))); (exact hu); rintro e w' ⟨rfl, rfl⟩))
  go_wp2_with (first | (go_at_call 72; refine (less_any n _ hc0 hc1).mono ?_; rintro e w' ⟨rfl, rfl⟩))
  go_region_held3 (fun w' => w'.cell? ⟨p, 1, none⟩ = some (.int .i64 n)) ((focus ((repeat (first | with_reducible refine ck_drew ?_ | with_reducible refine ck_old (by first | with_reducible assumption | (simp; assumption)) ?_)); (first | go_cell_look | (simp [*]; done) | go_cell)))) (first | (go_at_call 50; refine (word_any _ _).mono ?_; rintro e w' ⟨rfl, rfl⟩))
  go_wp2
  all_goals go_ret
  all_goals refine ⟨rfl, ?_, ?_, ?_⟩
  · repeat (with_reducible refine (hp_drew _ _).trans ?_)
    exact hp_new (by simp) _
  · repeat (with_reducible refine (hp_drew _ _).trans ?_)
    refine (hp_old (by first | with_reducible exact hpl | (simp; exact hpl)) _).trans ?_
    repeat (with_reducible refine (hp_drew _ _).trans ?_)
    apply Eq.trans
    · repeat (first | with_reducible exact hp | apply at_set)
    · simp
  · repeat (first | with_reducible exact World.grownBy.refl _ _ | with_reducible apply gr_set | with_reducible apply gr_alloc | with_reducible apply gr_drew)

end Go.Proofs.Ytphnadhkoigegaa
