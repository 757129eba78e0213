/- hyst, ramp: their steps. -/
import Derived.Test.YtphnadhkoigegaaG
import Derived.OpenShut
import Derived.Deep.QuietTactic
import Derived.BigQuiet
namespace Go.Proofs.Ytphnadhkoigegaa
open Go.RowKit
attribute [local go_sem ↓] Go.wp_at_zero Go.wp_at_succ
set_option linter.unusedVariables false

set_option maxHeartbeats 1000000 in
theorem hyst_on (p b T : Nat) (on : Bool) (x hi lo now : Int) (w : World) (hp : w.heap[p]? = some (.cells #[.bool on] T)) (hb : w.heap[b]? = some (.cells #[.int .i64 x, .int .i64 hi, .int .i64 lo] 3)) (hne : p ≠ b) (h0 : hi ≤ x) :
    Calls Try.prog 94 #[.pointer (some ⟨p, 0, none⟩), .slice (some ⟨b, 0, none⟩) 3 3, .int .i64 now] w fun e w' => e = .returned (.slice (some ⟨w.heap.size, 0, none⟩) 1 1) ∧ w'.heap[w.heap.size]? = some (.cells #[.int .i64 1] 3) ∧ w'.heap[p]? = some (.cells #[.bool true] T) ∧ w.grownBy w' (some p) := by
  have hpl := at_lt hp
  have c0 := at_cell hb 0
  have c1 := at_cell hb 1
  have c2 := at_cell hb 2
  have d0 := at_cell hp 0
  have f0 := at_frozen hp 0
  simp at c0 c1 c2 d0
  go_enter Try.func94, Try.ntmps94
  go_wp2
  go_region_held3 (fun w' => w'.cell? ⟨b, 0, none⟩ = some (.int .i64 x) ∧ w'.cell? ⟨b, 1, none⟩ = some (.int .i64 hi) ∧ w'.cell? ⟨b, 2, none⟩ = some (.int .i64 lo)) (refine ⟨?_, ?_, ?_⟩ <;> (focus ((repeat (first | with_reducible refine ck_drew ?_ | with_reducible refine ck_old (by first | with_reducible assumption | (simp; assumption)) ?_)); (first | go_cell_look | (simp [*]; done) | go_cell)))) (fail)
  go_wp2_with (first | (go_at_call 50; refine (word_any _ _).mono ?_; rintro e w' ⟨rfl, rfl⟩))
  all_goals go_ret
  all_goals refine ⟨rfl, ?_, ?_, ?_⟩
  · repeat (with_reducible refine (hp_drew _ _).trans ?_)
    exact hp_new (by simp) _
  · repeat (with_reducible refine (hp_drew _ _).trans ?_)
    refine (hp_old (by first | with_reducible exact hpl | (simp; exact hpl)) _).trans ?_
    repeat (with_reducible refine (hp_drew _ _).trans ?_)
    apply Eq.trans
    · repeat (first | with_reducible exact hp | apply at_set)
    · simp
  · repeat (first | with_reducible exact World.grownBy.refl _ _ | with_reducible apply gr_set | with_reducible apply gr_alloc | with_reducible apply gr_drew)

set_option maxHeartbeats 1000000 in
theorem hyst_off (p b T : Nat) (on : Bool) (x hi lo now : Int) (w : World) (hp : w.heap[p]? = some (.cells #[.bool on] T)) (hb : w.heap[b]? = some (.cells #[.int .i64 x, .int .i64 hi, .int .i64 lo] 3)) (hne : p ≠ b) (h0 : ¬ hi ≤ x) (h1 : x ≤ lo) :
    Calls Try.prog 94 #[.pointer (some ⟨p, 0, none⟩), .slice (some ⟨b, 0, none⟩) 3 3, .int .i64 now] w fun e w' => e = .returned (.slice (some ⟨w.heap.size, 0, none⟩) 1 1) ∧ w'.heap[w.heap.size]? = some (.cells #[.int .i64 0] 3) ∧ w'.heap[p]? = some (.cells #[.bool false] T) ∧ w.grownBy w' (some p) := by
  have hpl := at_lt hp
  have c0 := at_cell hb 0
  have c1 := at_cell hb 1
  have c2 := at_cell hb 2
  have d0 := at_cell hp 0
  have f0 := at_frozen hp 0
  simp at c0 c1 c2 d0
  go_enter Try.func94, Try.ntmps94
  go_wp2
  go_region_held3 (fun w' => w'.cell? ⟨b, 0, none⟩ = some (.int .i64 x) ∧ w'.cell? ⟨b, 1, none⟩ = some (.int .i64 hi) ∧ w'.cell? ⟨b, 2, none⟩ = some (.int .i64 lo)) (refine ⟨?_, ?_, ?_⟩ <;> (focus ((repeat (first | with_reducible refine ck_drew ?_ | with_reducible refine ck_old (by first | with_reducible assumption | (simp; assumption)) ?_)); (first | go_cell_look | (simp [*]; done) | go_cell)))) (fail)
  go_wp2_with (first | (go_at_call 50; refine (word_any _ _).mono ?_; rintro e w' ⟨rfl, rfl⟩))
  all_goals go_ret
  all_goals refine ⟨rfl, ?_, ?_, ?_⟩
  · repeat (with_reducible refine (hp_drew _ _).trans ?_)
    exact hp_new (by simp) _
  · repeat (with_reducible refine (hp_drew _ _).trans ?_)
    refine (hp_old (by first | with_reducible exact hpl | (simp; exact hpl)) _).trans ?_
    repeat (with_reducible refine (hp_drew _ _).trans ?_)
    apply Eq.trans
    · repeat (first | with_reducible exact hp | apply at_set)
    · simp
  · repeat (first | with_reducible exact World.grownBy.refl _ _ | with_reducible apply gr_set | with_reducible apply gr_alloc | with_reducible apply gr_drew)

set_option maxHeartbeats 1000000 in
theorem hyst_t (p b T : Nat) (x hi lo now : Int) (w : World) (hp : w.heap[p]? = some (.cells #[.bool true] T)) (hb : w.heap[b]? = some (.cells #[.int .i64 x, .int .i64 hi, .int .i64 lo] 3)) (hne : p ≠ b) (h0 : ¬ hi ≤ x) (h1 : ¬ x ≤ lo) :
    Calls Try.prog 94 #[.pointer (some ⟨p, 0, none⟩), .slice (some ⟨b, 0, none⟩) 3 3, .int .i64 now] w fun e w' => e = .returned (.slice (some ⟨w.heap.size, 0, none⟩) 1 1) ∧ w'.heap[w.heap.size]? = some (.cells #[.int .i64 1] 3) ∧ w'.heap[p]? = some (.cells #[.bool true] T) ∧ w.grownBy w' (some p) := by
  have hpl := at_lt hp
  have c0 := at_cell hb 0
  have c1 := at_cell hb 1
  have c2 := at_cell hb 2
  have d0 := at_cell hp 0
  have f0 := at_frozen hp 0
  simp at c0 c1 c2 d0
  go_enter Try.func94, Try.ntmps94
  go_wp2
  go_region_held3 (fun w' => w'.cell? ⟨b, 0, none⟩ = some (.int .i64 x) ∧ w'.cell? ⟨b, 1, none⟩ = some (.int .i64 hi) ∧ w'.cell? ⟨b, 2, none⟩ = some (.int .i64 lo)) (refine ⟨?_, ?_, ?_⟩ <;> (focus ((repeat (first | with_reducible refine ck_drew ?_ | with_reducible refine ck_old (by first | with_reducible assumption | (simp; assumption)) ?_)); (first | go_cell_look | (simp [*]; done) | go_cell)))) (fail)
  go_wp2_with (first | (go_at_call 50; refine (word_any _ _).mono ?_; rintro e w' ⟨rfl, rfl⟩))
  all_goals go_ret
  all_goals refine ⟨rfl, ?_, ?_, ?_⟩
  · repeat (with_reducible refine (hp_drew _ _).trans ?_)
    exact hp_new (by simp) _
  · repeat (with_reducible refine (hp_drew _ _).trans ?_)
    refine (hp_old (by first | with_reducible exact hpl | (simp; exact hpl)) _).trans ?_
    repeat (with_reducible refine (hp_drew _ _).trans ?_)
    apply Eq.trans
    · repeat (first | with_reducible exact hp | apply at_set)
    · simp
  · repeat (first | with_reducible exact World.grownBy.refl _ _ | with_reducible apply gr_set | with_reducible apply gr_alloc | with_reducible apply gr_drew)

set_option maxHeartbeats 1000000 in
theorem hyst_f (p b T : Nat) (x hi lo now : Int) (w : World) (hp : w.heap[p]? = some (.cells #[.bool false] T)) (hb : w.heap[b]? = some (.cells #[.int .i64 x, .int .i64 hi, .int .i64 lo] 3)) (hne : p ≠ b) (h0 : ¬ hi ≤ x) (h1 : ¬ x ≤ lo) :
    Calls Try.prog 94 #[.pointer (some ⟨p, 0, none⟩), .slice (some ⟨b, 0, none⟩) 3 3, .int .i64 now] w fun e w' => e = .returned (.slice (some ⟨w.heap.size, 0, none⟩) 1 1) ∧ w'.heap[w.heap.size]? = some (.cells #[.int .i64 0] 3) ∧ w'.heap[p]? = some (.cells #[.bool false] T) ∧ w.grownBy w' (some p) := by
  have hpl := at_lt hp
  have c0 := at_cell hb 0
  have c1 := at_cell hb 1
  have c2 := at_cell hb 2
  have d0 := at_cell hp 0
  have f0 := at_frozen hp 0
  simp at c0 c1 c2 d0
  go_enter Try.func94, Try.ntmps94
  go_wp2
  go_region_held3 (fun w' => w'.cell? ⟨b, 0, none⟩ = some (.int .i64 x) ∧ w'.cell? ⟨b, 1, none⟩ = some (.int .i64 hi) ∧ w'.cell? ⟨b, 2, none⟩ = some (.int .i64 lo)) (refine ⟨?_, ?_, ?_⟩ <;> (focus ((repeat (first | with_reducible refine ck_drew ?_ | with_reducible refine ck_old (by first | with_reducible assumption | (simp; assumption)) ?_)); (first | go_cell_look | (simp [*]; done) | go_cell)))) (fail)
  go_wp2_with (first | (go_at_call 50; refine (word_any _ _).mono ?_; rintro e w' ⟨rfl, rfl⟩))
  all_goals go_ret
  all_goals refine ⟨rfl, ?_, ?_, ?_⟩
  · repeat (with_reducible refine (hp_drew _ _).trans ?_)
    exact hp_new (by simp) _
  · repeat (with_reducible refine (hp_drew _ _).trans ?_)
    refine (hp_old (by first | with_reducible exact hpl | (simp; exact hpl)) _).trans ?_
    repeat (with_reducible refine (hp_drew _ _).trans ?_)
    apply Eq.trans
    · repeat (first | with_reducible exact hp | apply at_set)
    · simp
  · repeat (first | with_reducible exact World.grownBy.refl _ _ | with_reducible apply gr_set | with_reducible apply gr_alloc | with_reducible apply gr_drew)

set_option maxHeartbeats 1000000 in
theorem ramp_n1 (p b T : Nat) (x k a now : Int) (w : World) (hp : w.heap[p]? = some (.cells #[.int .i64 a] T)) (hb : w.heap[b]? = some (.cells #[.int .i64 x, .int .i64 k] 3)) (hne : p ≠ b) (hx0 : -32768 ≤ x) (hx1 : x ≤ 32767) (ha0 : -32768 ≤ a) (ha1 : a ≤ 32767) (hk0 : -32768 ≤ k) (hk1 : k ≤ 32767) (h0 : k < 0) (h1 : 0 ≤ x - a) :
    Calls Try.prog 92 #[.pointer (some ⟨p, 0, none⟩), .slice (some ⟨b, 0, none⟩) 2 2, .int .i64 now] w fun e w' => e = .returned (.slice (some ⟨w.heap.size, 0, none⟩) 1 1) ∧ w'.heap[w.heap.size]? = some (.cells #[.int .i64 a] 3) ∧ w'.heap[p]? = some (.cells #[.int .i64 a] T) ∧ w.grownBy w' (some p) := by
  have hpl := at_lt hp
  have c0 := at_cell hb 0
  have c1 := at_cell hb 1
  have d0 := at_cell hp 0
  have f0 := at_frozen hp 0
  simp at c0 c1 d0
  go_enter Try.func92, Try.ntmps92
  go_wp2
  go_region_held3 (fun w' => w'.cell? ⟨b, 0, none⟩ = some (.int .i64 x) ∧ w'.cell? ⟨b, 1, none⟩ = some (.int .i64 k)) (refine ⟨?_, ?_⟩ <;> (focus ((repeat (first | with_reducible refine ck_drew ?_ | with_reducible refine ck_old (by first | with_reducible assumption | (simp; assumption)) ?_)); (first | go_cell_look | (simp [*]; done) | go_cell)))) (fail)
  go_wp2
  go_region
  all_goals go_wp2
  all_goals go_ret
  all_goals exact ⟨rfl,
    by
      repeat (with_reducible refine (hp_drew _ _).trans ?_)
      refine (hp_new (by simp) _).trans ?_
      first | rfl | (simp; done) | (simp; omega),
    by
      repeat (with_reducible refine (hp_drew _ _).trans ?_)
      refine (hp_old (by first | with_reducible exact hpl | (simp; exact hpl)) _).trans ?_
      repeat (with_reducible refine (hp_drew _ _).trans ?_)
      apply Eq.trans
      · repeat (first | with_reducible exact hp | apply at_set)
      · first | (simp; done) | (simp; omega),
    by
      repeat (first | with_reducible exact World.grownBy.refl _ _ | with_reducible apply gr_set | with_reducible apply gr_alloc | with_reducible apply gr_drew)⟩

set_option maxHeartbeats 1000000 in
theorem ramp_n2 (p b T : Nat) (x k a now : Int) (w : World) (hp : w.heap[p]? = some (.cells #[.int .i64 a] T)) (hb : w.heap[b]? = some (.cells #[.int .i64 x, .int .i64 k] 3)) (hne : p ≠ b) (hx0 : -32768 ≤ x) (hx1 : x ≤ 32767) (ha0 : -32768 ≤ a) (ha1 : a ≤ 32767) (hk0 : -32768 ≤ k) (hk1 : k ≤ 32767) (h0 : k < 0) (h1 : x - a < 0) :
    Calls Try.prog 92 #[.pointer (some ⟨p, 0, none⟩), .slice (some ⟨b, 0, none⟩) 2 2, .int .i64 now] w fun e w' => e = .returned (.slice (some ⟨w.heap.size, 0, none⟩) 1 1) ∧ w'.heap[w.heap.size]? = some (.cells #[.int .i64 a] 3) ∧ w'.heap[p]? = some (.cells #[.int .i64 a] T) ∧ w.grownBy w' (some p) := by
  have hpl := at_lt hp
  have c0 := at_cell hb 0
  have c1 := at_cell hb 1
  have d0 := at_cell hp 0
  have f0 := at_frozen hp 0
  simp at c0 c1 d0
  go_enter Try.func92, Try.ntmps92
  go_wp2
  go_region_held3 (fun w' => w'.cell? ⟨b, 0, none⟩ = some (.int .i64 x) ∧ w'.cell? ⟨b, 1, none⟩ = some (.int .i64 k)) (refine ⟨?_, ?_⟩ <;> (focus ((repeat (first | with_reducible refine ck_drew ?_ | with_reducible refine ck_old (by first | with_reducible assumption | (simp; assumption)) ?_)); (first | go_cell_look | (simp [*]; done) | go_cell)))) (fail)
  go_wp2
  go_region
  all_goals go_wp2
  all_goals go_ret
  all_goals exact ⟨rfl,
    by
      repeat (with_reducible refine (hp_drew _ _).trans ?_)
      refine (hp_new (by simp) _).trans ?_
      first | rfl | (simp; done) | (simp; omega),
    by
      repeat (with_reducible refine (hp_drew _ _).trans ?_)
      refine (hp_old (by first | with_reducible exact hpl | (simp; exact hpl)) _).trans ?_
      repeat (with_reducible refine (hp_drew _ _).trans ?_)
      apply Eq.trans
      · repeat (first | with_reducible exact hp | apply at_set)
      · first | (simp; done) | (simp; omega),
    by
      repeat (first | with_reducible exact World.grownBy.refl _ _ | with_reducible apply gr_set | with_reducible apply gr_alloc | with_reducible apply gr_drew)⟩

set_option maxHeartbeats 1000000 in
theorem ramp_lo (p b T : Nat) (x k a now : Int) (w : World) (hp : w.heap[p]? = some (.cells #[.int .i64 a] T)) (hb : w.heap[b]? = some (.cells #[.int .i64 x, .int .i64 k] 3)) (hne : p ≠ b) (hx0 : -32768 ≤ x) (hx1 : x ≤ 32767) (ha0 : -32768 ≤ a) (ha1 : a ≤ 32767) (hk0 : -32768 ≤ k) (hk1 : k ≤ 32767) (h0 : 0 ≤ k) (h1 : x - a < -k) :
    Calls Try.prog 92 #[.pointer (some ⟨p, 0, none⟩), .slice (some ⟨b, 0, none⟩) 2 2, .int .i64 now] w fun e w' => e = .returned (.slice (some ⟨w.heap.size, 0, none⟩) 1 1) ∧ w'.heap[w.heap.size]? = some (.cells #[.int .i64 (a - k)] 3) ∧ w'.heap[p]? = some (.cells #[.int .i64 (a - k)] T) ∧ w.grownBy w' (some p) := by
  have hpl := at_lt hp
  have c0 := at_cell hb 0
  have c1 := at_cell hb 1
  have d0 := at_cell hp 0
  have f0 := at_frozen hp 0
  simp at c0 c1 d0
  go_enter Try.func92, Try.ntmps92
  go_wp2
  go_region_held3 (fun w' => w'.cell? ⟨b, 0, none⟩ = some (.int .i64 x) ∧ w'.cell? ⟨b, 1, none⟩ = some (.int .i64 k)) (refine ⟨?_, ?_⟩ <;> (focus ((repeat (first | with_reducible refine ck_drew ?_ | with_reducible refine ck_old (by first | with_reducible assumption | (simp; assumption)) ?_)); (first | go_cell_look | (simp [*]; done) | go_cell)))) (fail)
  go_wp2
  go_region
  all_goals go_wp2
  all_goals go_ret
  all_goals exact ⟨rfl,
    by
      repeat (with_reducible refine (hp_drew _ _).trans ?_)
      refine (hp_new (by simp) _).trans ?_
      first | rfl | (simp; done) | (simp; omega),
    by
      repeat (with_reducible refine (hp_drew _ _).trans ?_)
      refine (hp_old (by first | with_reducible exact hpl | (simp; exact hpl)) _).trans ?_
      repeat (with_reducible refine (hp_drew _ _).trans ?_)
      apply Eq.trans
      · repeat (first | with_reducible exact hp | apply at_set)
      · first | (simp; done) | (simp; omega),
    by
      repeat (first | with_reducible exact World.grownBy.refl _ _ | with_reducible apply gr_set | with_reducible apply gr_alloc | with_reducible apply gr_drew)⟩

set_option maxHeartbeats 1000000 in
theorem ramp_mid (p b T : Nat) (x k a now : Int) (w : World) (hp : w.heap[p]? = some (.cells #[.int .i64 a] T)) (hb : w.heap[b]? = some (.cells #[.int .i64 x, .int .i64 k] 3)) (hne : p ≠ b) (hx0 : -32768 ≤ x) (hx1 : x ≤ 32767) (ha0 : -32768 ≤ a) (ha1 : a ≤ 32767) (hk0 : -32768 ≤ k) (hk1 : k ≤ 32767) (h0 : 0 ≤ k) (h1 : -k ≤ x - a) (h2 : x - a ≤ k) :
    Calls Try.prog 92 #[.pointer (some ⟨p, 0, none⟩), .slice (some ⟨b, 0, none⟩) 2 2, .int .i64 now] w fun e w' => e = .returned (.slice (some ⟨w.heap.size, 0, none⟩) 1 1) ∧ w'.heap[w.heap.size]? = some (.cells #[.int .i64 x] 3) ∧ w'.heap[p]? = some (.cells #[.int .i64 x] T) ∧ w.grownBy w' (some p) := by
  have hpl := at_lt hp
  have c0 := at_cell hb 0
  have c1 := at_cell hb 1
  have d0 := at_cell hp 0
  have f0 := at_frozen hp 0
  simp at c0 c1 d0
  go_enter Try.func92, Try.ntmps92
  go_wp2
  go_region_held3 (fun w' => w'.cell? ⟨b, 0, none⟩ = some (.int .i64 x) ∧ w'.cell? ⟨b, 1, none⟩ = some (.int .i64 k)) (refine ⟨?_, ?_⟩ <;> (focus ((repeat (first | with_reducible refine ck_drew ?_ | with_reducible refine ck_old (by first | with_reducible assumption | (simp; assumption)) ?_)); (first | go_cell_look | (simp [*]; done) | go_cell)))) (fail)
  go_wp2
  go_region
  all_goals go_wp2
  all_goals go_ret
  all_goals exact ⟨rfl,
    by
      repeat (with_reducible refine (hp_drew _ _).trans ?_)
      refine (hp_new (by simp) _).trans ?_
      first | rfl | (simp; done) | (simp; omega),
    by
      repeat (with_reducible refine (hp_drew _ _).trans ?_)
      refine (hp_old (by first | with_reducible exact hpl | (simp; exact hpl)) _).trans ?_
      repeat (with_reducible refine (hp_drew _ _).trans ?_)
      apply Eq.trans
      · repeat (first | with_reducible exact hp | apply at_set)
      · first | (simp; done) | (simp; omega),
    by
      repeat (first | with_reducible exact World.grownBy.refl _ _ | with_reducible apply gr_set | with_reducible apply gr_alloc | with_reducible apply gr_drew)⟩

set_option maxHeartbeats 1000000 in
theorem ramp_hi (p b T : Nat) (x k a now : Int) (w : World) (hp : w.heap[p]? = some (.cells #[.int .i64 a] T)) (hb : w.heap[b]? = some (.cells #[.int .i64 x, .int .i64 k] 3)) (hne : p ≠ b) (hx0 : -32768 ≤ x) (hx1 : x ≤ 32767) (ha0 : -32768 ≤ a) (ha1 : a ≤ 32767) (hk0 : -32768 ≤ k) (hk1 : k ≤ 32767) (h0 : 0 ≤ k) (h1 : -k ≤ x - a) (h2 : k < x - a) :
    Calls Try.prog 92 #[.pointer (some ⟨p, 0, none⟩), .slice (some ⟨b, 0, none⟩) 2 2, .int .i64 now] w fun e w' => e = .returned (.slice (some ⟨w.heap.size, 0, none⟩) 1 1) ∧ w'.heap[w.heap.size]? = some (.cells #[.int .i64 (a + k)] 3) ∧ w'.heap[p]? = some (.cells #[.int .i64 (a + k)] T) ∧ w.grownBy w' (some p) := by
  have hpl := at_lt hp
  have c0 := at_cell hb 0
  have c1 := at_cell hb 1
  have d0 := at_cell hp 0
  have f0 := at_frozen hp 0
  simp at c0 c1 d0
  go_enter Try.func92, Try.ntmps92
  go_wp2
  go_region_held3 (fun w' => w'.cell? ⟨b, 0, none⟩ = some (.int .i64 x) ∧ w'.cell? ⟨b, 1, none⟩ = some (.int .i64 k)) (refine ⟨?_, ?_⟩ <;> (focus ((repeat (first | with_reducible refine ck_drew ?_ | with_reducible refine ck_old (by first | with_reducible assumption | (simp; assumption)) ?_)); (first | go_cell_look | (simp [*]; done) | go_cell)))) (fail)
  go_wp2
  go_region
  all_goals go_wp2
  all_goals go_ret
  all_goals exact ⟨rfl,
    by
      repeat (with_reducible refine (hp_drew _ _).trans ?_)
      refine (hp_new (by simp) _).trans ?_
      first | rfl | (simp; done) | (simp; omega),
    by
      repeat (with_reducible refine (hp_drew _ _).trans ?_)
      refine (hp_old (by first | with_reducible exact hpl | (simp; exact hpl)) _).trans ?_
      repeat (with_reducible refine (hp_drew _ _).trans ?_)
      apply Eq.trans
      · repeat (first | with_reducible exact hp | apply at_set)
      · first | (simp; done) | (simp; omega),
    by
      repeat (first | with_reducible exact World.grownBy.refl _ _ | with_reducible apply gr_set | with_reducible apply gr_alloc | with_reducible apply gr_drew)⟩

end Go.Proofs.Ytphnadhkoigegaa
