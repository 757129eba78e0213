/- Texts put together: BlH2, BlH3. -/
import Derived.Test.YtcgbfhpmkpglkaaGreatDoorQ05
import Derived.OpenShut
/- tof: its step. -/
namespace Go.Proofs.YtcgbfhpmkpglkaaGreatDoor.Bl
open Go.RowKit
attribute [local go_sem ↓] Go.wp_at_zero Go.wp_at_succ
set_option linter.unusedVariables false

set_option maxHeartbeats 1000000 in
theorem runOut_ry (p : Nat) (s a pt now : Int) (w : World) (d0 : w.cell? ⟨p, 0, none⟩ = some (.bool true)) (f0 : w.frozen? ⟨p, 0, none⟩ = false) (d1 : w.cell? ⟨p, 1, none⟩ = some (.int .i64 s)) (f1 : w.frozen? ⟨p, 1, none⟩ = false) (d2 : w.cell? ⟨p, 2, none⟩ = some (.bool true)) (f2 : w.frozen? ⟨p, 2, none⟩ = false) (d3 : w.cell? ⟨p, 3, none⟩ = some (.int .i64 a)) (f3 : w.frozen? ⟨p, 3, none⟩ = false) (hs0 : 0 ≤ s) (hs1 : s ≤ 4294967295) (hn0 : 0 ≤ now) (hn1 : now ≤ 4294967295) (ho : decide (pt ≤ goneN now s) = true) :
    Calls Tryz.prog 128 #[.pointer (some ⟨p, 0, none⟩), .int .i64 pt, .int .i64 now] w fun e w' => e = .returned (.tuple #[]) ∧ w' = ((((w.setCell ⟨p, 3, none⟩ (.int .i64 (min (goneN now s) pt))).setCell ⟨p, 2, none⟩ (.bool false)).setCell ⟨p, 0, none⟩ (.bool false)).setCell ⟨p, 1, none⟩ (.int .i64 0)) := by
  obtain ⟨g, hg⟩ : ∃ g, goneN now s = g := ⟨_, rfl⟩
  rw [hg] at ho ⊢
  obtain ⟨t, ht⟩ : ∃ t, min g pt = t := ⟨_, rfl⟩
  rw [ht]
  go_enter Tryz.func128, Tryz.ntmps128
  go_wp2_with (first | (go_at_call 123; refine (over_any p s _ _ (.int .i64 a) _ ?_ ?_ ?_ hs0 hs1 hn0 hn1).mono ?_; (focus ((repeat (first | with_reducible refine ck_drew ?_ | with_reducible refine ck_old (by first | with_reducible assumption | (simp; assumption)) ?_)); (first | go_cell_look | (simp [*]; done) | go_cell))); (focus ((repeat (first | with_reducible refine ck_drew ?_ | with_reducible refine ck_old (by first | with_reducible assumption | (simp; assumption)) ?_)); (first | go_cell_look | (simp [*]; done) | go_cell))); (focus (first | (simp [*]; done) | (go_simp; done))); rintro e w' ⟨rfl, rfl⟩) | (go_at_call 129; refine (start_any p _ (.bool false) (.int .i64 s) _ ?_ ?_ ?_ ?_).mono ?_; (focus ((repeat (first | with_reducible refine ck_drew ?_ | with_reducible refine ck_old (by first | with_reducible assumption | (simp; assumption)) ?_)); (first | go_cell_look | (simp [*]; done) | go_cell))); (focus ((repeat (first | with_reducible refine ck_drew ?_ | with_reducible refine ck_old (by first | with_reducible assumption | (simp; assumption)) ?_)); (first | go_cell_look | (simp [*]; done) | go_cell))); (focus (first | (simp [*]; done) | (go_simp; done))); (focus (first | (simp [*]; done) | (go_simp; done))); rintro e w' ⟨rfl, rfl⟩) | (go_at_call 118; refine (stop_any p (.bool true) (.int .i64 s) _ ?_ ?_ ?_ ?_).mono ?_; (focus ((repeat (first | with_reducible refine ck_drew ?_ | with_reducible refine ck_old (by first | with_reducible assumption | (simp; assumption)) ?_)); (first | go_cell_look | (simp [*]; done) | go_cell))); (focus ((repeat (first | with_reducible refine ck_drew ?_ | with_reducible refine ck_old (by first | with_reducible assumption | (simp; assumption)) ?_)); (first | go_cell_look | (simp [*]; done) | go_cell))); (focus (first | (simp [*]; done) | (go_simp; done))); (focus (first | (simp [*]; done) | (go_simp; done))); rintro e w' ⟨rfl, rfl⟩))
  go_end0
  exact ⟨rfl, rfl⟩

set_option maxHeartbeats 1000000 in
theorem runOut_rn (p : Nat) (s a pt now : Int) (w : World) (d0 : w.cell? ⟨p, 0, none⟩ = some (.bool true)) (f0 : w.frozen? ⟨p, 0, none⟩ = false) (d1 : w.cell? ⟨p, 1, none⟩ = some (.int .i64 s)) (f1 : w.frozen? ⟨p, 1, none⟩ = false) (d2 : w.cell? ⟨p, 2, none⟩ = some (.bool true)) (f2 : w.frozen? ⟨p, 2, none⟩ = false) (d3 : w.cell? ⟨p, 3, none⟩ = some (.int .i64 a)) (f3 : w.frozen? ⟨p, 3, none⟩ = false) (hs0 : 0 ≤ s) (hs1 : s ≤ 4294967295) (hn0 : 0 ≤ now) (hn1 : now ≤ 4294967295) (ho : decide (pt ≤ goneN now s) = false) :
    Calls Tryz.prog 128 #[.pointer (some ⟨p, 0, none⟩), .int .i64 pt, .int .i64 now] w fun e w' => e = .returned (.tuple #[]) ∧ w' = (w.setCell ⟨p, 3, none⟩ (.int .i64 (min (goneN now s) pt))) := by
  obtain ⟨g, hg⟩ : ∃ g, goneN now s = g := ⟨_, rfl⟩
  rw [hg] at ho ⊢
  obtain ⟨t, ht⟩ : ∃ t, min g pt = t := ⟨_, rfl⟩
  rw [ht]
  go_enter Tryz.func128, Tryz.ntmps128
  go_wp2_with (first | (go_at_call 123; refine (over_any p s _ _ (.int .i64 a) _ ?_ ?_ ?_ hs0 hs1 hn0 hn1).mono ?_; (focus ((repeat (first | with_reducible refine ck_drew ?_ | with_reducible refine ck_old (by first | with_reducible assumption | (simp; assumption)) ?_)); (first | go_cell_look | (simp [*]; done) | go_cell))); (focus ((repeat (first | with_reducible refine ck_drew ?_ | with_reducible refine ck_old (by first | with_reducible assumption | (simp; assumption)) ?_)); (first | go_cell_look | (simp [*]; done) | go_cell))); (focus (first | (simp [*]; done) | (go_simp; done))); rintro e w' ⟨rfl, rfl⟩) | (go_at_call 129; refine (start_any p _ (.bool false) (.int .i64 s) _ ?_ ?_ ?_ ?_).mono ?_; (focus ((repeat (first | with_reducible refine ck_drew ?_ | with_reducible refine ck_old (by first | with_reducible assumption | (simp; assumption)) ?_)); (first | go_cell_look | (simp [*]; done) | go_cell))); (focus ((repeat (first | with_reducible refine ck_drew ?_ | with_reducible refine ck_old (by first | with_reducible assumption | (simp; assumption)) ?_)); (first | go_cell_look | (simp [*]; done) | go_cell))); (focus (first | (simp [*]; done) | (go_simp; done))); (focus (first | (simp [*]; done) | (go_simp; done))); rintro e w' ⟨rfl, rfl⟩) | (go_at_call 118; refine (stop_any p (.bool true) (.int .i64 s) _ ?_ ?_ ?_ ?_).mono ?_; (focus ((repeat (first | with_reducible refine ck_drew ?_ | with_reducible refine ck_old (by first | with_reducible assumption | (simp; assumption)) ?_)); (first | go_cell_look | (simp [*]; done) | go_cell))); (focus ((repeat (first | with_reducible refine ck_drew ?_ | with_reducible refine ck_old (by first | with_reducible assumption | (simp; assumption)) ?_)); (first | go_cell_look | (simp [*]; done) | go_cell))); (focus (first | (simp [*]; done) | (go_simp; done))); (focus (first | (simp [*]; done) | (go_simp; done))); rintro e w' ⟨rfl, rfl⟩))
  go_end0
  exact ⟨rfl, rfl⟩

set_option maxHeartbeats 1000000 in
theorem runOut_ny (p : Nat) (s a pt now : Int) (w : World) (d0 : w.cell? ⟨p, 0, none⟩ = some (.bool false)) (f0 : w.frozen? ⟨p, 0, none⟩ = false) (d1 : w.cell? ⟨p, 1, none⟩ = some (.int .i64 s)) (f1 : w.frozen? ⟨p, 1, none⟩ = false) (d2 : w.cell? ⟨p, 2, none⟩ = some (.bool true)) (f2 : w.frozen? ⟨p, 2, none⟩ = false) (d3 : w.cell? ⟨p, 3, none⟩ = some (.int .i64 a)) (f3 : w.frozen? ⟨p, 3, none⟩ = false) (hn0 : 0 ≤ now) (hn1 : now ≤ 4294967295) (ho : decide (pt ≤ goneN now now) = true) :
    Calls Tryz.prog 128 #[.pointer (some ⟨p, 0, none⟩), .int .i64 pt, .int .i64 now] w fun e w' => e = .returned (.tuple #[]) ∧ w' = ((((((w.setCell ⟨p, 0, none⟩ (.bool true)).setCell ⟨p, 1, none⟩ (.int .i64 now)).setCell ⟨p, 3, none⟩ (.int .i64 (min (goneN now now) pt))).setCell ⟨p, 2, none⟩ (.bool false)).setCell ⟨p, 0, none⟩ (.bool false)).setCell ⟨p, 1, none⟩ (.int .i64 0)) := by
  obtain ⟨g, hg⟩ : ∃ g, goneN now now = g := ⟨_, rfl⟩
  rw [hg] at ho ⊢
  obtain ⟨t, ht⟩ : ∃ t, min g pt = t := ⟨_, rfl⟩
  rw [ht]
  go_enter Tryz.func128, Tryz.ntmps128
  go_wp2_with (first | (go_at_call 123; refine (over_any p now _ _ (.int .i64 a) _ ?_ ?_ ?_ hn0 hn1 hn0 hn1).mono ?_; (focus ((repeat (first | with_reducible refine ck_drew ?_ | with_reducible refine ck_old (by first | with_reducible assumption | (simp; assumption)) ?_)); (first | go_cell_look | (simp [*]; done) | go_cell))); (focus ((repeat (first | with_reducible refine ck_drew ?_ | with_reducible refine ck_old (by first | with_reducible assumption | (simp; assumption)) ?_)); (first | go_cell_look | (simp [*]; done) | go_cell))); (focus (first | (simp [*]; done) | (go_simp; done))); rintro e w' ⟨rfl, rfl⟩) | (go_at_call 129; refine (start_any p _ (.bool false) (.int .i64 s) _ ?_ ?_ ?_ ?_).mono ?_; (focus ((repeat (first | with_reducible refine ck_drew ?_ | with_reducible refine ck_old (by first | with_reducible assumption | (simp; assumption)) ?_)); (first | go_cell_look | (simp [*]; done) | go_cell))); (focus ((repeat (first | with_reducible refine ck_drew ?_ | with_reducible refine ck_old (by first | with_reducible assumption | (simp; assumption)) ?_)); (first | go_cell_look | (simp [*]; done) | go_cell))); (focus (first | (simp [*]; done) | (go_simp; done))); (focus (first | (simp [*]; done) | (go_simp; done))); rintro e w' ⟨rfl, rfl⟩) | (go_at_call 118; refine (stop_any p (.bool true) (.int .i64 now) _ ?_ ?_ ?_ ?_).mono ?_; (focus ((repeat (first | with_reducible refine ck_drew ?_ | with_reducible refine ck_old (by first | with_reducible assumption | (simp; assumption)) ?_)); (first | go_cell_look | (simp [*]; done) | go_cell))); (focus ((repeat (first | with_reducible refine ck_drew ?_ | with_reducible refine ck_old (by first | with_reducible assumption | (simp; assumption)) ?_)); (first | go_cell_look | (simp [*]; done) | go_cell))); (focus (first | (simp [*]; done) | (go_simp; done))); (focus (first | (simp [*]; done) | (go_simp; done))); rintro e w' ⟨rfl, rfl⟩))
  go_end0
  exact ⟨rfl, rfl⟩

set_option maxHeartbeats 1000000 in
theorem runOut_nn (p : Nat) (s a pt now : Int) (w : World) (d0 : w.cell? ⟨p, 0, none⟩ = some (.bool false)) (f0 : w.frozen? ⟨p, 0, none⟩ = false) (d1 : w.cell? ⟨p, 1, none⟩ = some (.int .i64 s)) (f1 : w.frozen? ⟨p, 1, none⟩ = false) (d2 : w.cell? ⟨p, 2, none⟩ = some (.bool true)) (f2 : w.frozen? ⟨p, 2, none⟩ = false) (d3 : w.cell? ⟨p, 3, none⟩ = some (.int .i64 a)) (f3 : w.frozen? ⟨p, 3, none⟩ = false) (hn0 : 0 ≤ now) (hn1 : now ≤ 4294967295) (ho : decide (pt ≤ goneN now now) = false) :
    Calls Tryz.prog 128 #[.pointer (some ⟨p, 0, none⟩), .int .i64 pt, .int .i64 now] w fun e w' => e = .returned (.tuple #[]) ∧ w' = (((w.setCell ⟨p, 0, none⟩ (.bool true)).setCell ⟨p, 1, none⟩ (.int .i64 now)).setCell ⟨p, 3, none⟩ (.int .i64 (min (goneN now now) pt))) := by
  obtain ⟨g, hg⟩ : ∃ g, goneN now now = g := ⟨_, rfl⟩
  rw [hg] at ho ⊢
  obtain ⟨t, ht⟩ : ∃ t, min g pt = t := ⟨_, rfl⟩
  rw [ht]
  go_enter Tryz.func128, Tryz.ntmps128
  go_wp2_with (first | (go_at_call 123; refine (over_any p now _ _ (.int .i64 a) _ ?_ ?_ ?_ hn0 hn1 hn0 hn1).mono ?_; (focus ((repeat (first | with_reducible refine ck_drew ?_ | with_reducible refine ck_old (by first | with_reducible assumption | (simp; assumption)) ?_)); (first | go_cell_look | (simp [*]; done) | go_cell))); (focus ((repeat (first | with_reducible refine ck_drew ?_ | with_reducible refine ck_old (by first | with_reducible assumption | (simp; assumption)) ?_)); (first | go_cell_look | (simp [*]; done) | go_cell))); (focus (first | (simp [*]; done) | (go_simp; done))); rintro e w' ⟨rfl, rfl⟩) | (go_at_call 129; refine (start_any p _ (.bool false) (.int .i64 s) _ ?_ ?_ ?_ ?_).mono ?_; (focus ((repeat (first | with_reducible refine ck_drew ?_ | with_reducible refine ck_old (by first | with_reducible assumption | (simp; assumption)) ?_)); (first | go_cell_look | (simp [*]; done) | go_cell))); (focus ((repeat (first | with_reducible refine ck_drew ?_ | with_reducible refine ck_old (by first | with_reducible assumption | (simp; assumption)) ?_)); (first | go_cell_look | (simp [*]; done) | go_cell))); (focus (first | (simp [*]; done) | (go_simp; done))); (focus (first | (simp [*]; done) | (go_simp; done))); rintro e w' ⟨rfl, rfl⟩) | (go_at_call 118; refine (stop_any p (.bool true) (.int .i64 now) _ ?_ ?_ ?_ ?_).mono ?_; (focus ((repeat (first | with_reducible refine ck_drew ?_ | with_reducible refine ck_old (by first | with_reducible assumption | (simp; assumption)) ?_)); (first | go_cell_look | (simp [*]; done) | go_cell))); (focus ((repeat (first | with_reducible refine ck_drew ?_ | with_reducible refine ck_old (by first | with_reducible assumption | (simp; assumption)) ?_)); (first | go_cell_look | (simp [*]; done) | go_cell))); (focus (first | (simp [*]; done) | (go_simp; done))); (focus (first | (simp [*]; done) | (go_simp; done))); rintro e w' ⟨rfl, rfl⟩))
  go_end0
  exact ⟨rfl, rfl⟩

set_option maxHeartbeats 1000000 in
theorem tof_1 (p b T : Nat) (r m : Bool) (s a i0 pt now : Int) (w : World) (hp : w.heap[p]? = some (.cells #[.bool r, .int .i64 s, .bool m, .int .i64 a] T)) (hb : w.heap[b]? = some (.cells #[.int .i64 i0, .int .i64 pt] 3)) (hne : p ≠ b) (h0 : (i0 != 0) = true) :
    Calls Tryz.prog 127 #[.pointer (some ⟨p, 0, none⟩), .slice (some ⟨b, 0, none⟩) 2 2, .int .i64 now] w fun e w' => e = .returned (.slice (some ⟨w.heap.size, 0, none⟩) 2 2) ∧ w'.heap[w.heap.size]? = some (.cells #[.int .i64 1, .int .i64 0] 3) ∧ w'.heap[p]? = some (.cells #[.bool false, .int .i64 0, .bool true, .int .i64 0] T) ∧ w.grownBy w' (some p) := by
  have hpl := at_lt hp
  have c0 := at_cell hb 0
  have c1 := at_cell hb 1
  have d0 := at_cell hp 0
  have f0 := at_frozen hp 0
  have d1 := at_cell hp 1
  have f1 := at_frozen hp 1
  have d2 := at_cell hp 2
  have f2 := at_frozen hp 2
  have d3 := at_cell hp 3
  have f3 := at_frozen hp 3
  simp at c0 c1 d0 d1 d2 d3
  go_enter Tryz.func127, Tryz.ntmps127
  go_wp2_with (first | (go_at_call 119; refine (truth_any _ _).mono ?_; rintro e w' ⟨rfl, rfl⟩))
  go_region_held3 (fun w' => w'.cell? ⟨p, 2, none⟩ = some (.bool true)) ((focus ((repeat (first | with_reducible refine ck_drew ?_ | with_reducible refine ck_old (by first | with_reducible assumption | (simp; assumption)) ?_)); (first | go_cell_look | (simp [*]; done) | go_cell)))) (first | (go_at_call 122; refine (outs_any p _ 0 _ ?_).mono ?_; (focus ((repeat (first | with_reducible refine ck_drew ?_ | with_reducible refine ck_old (by first | with_reducible assumption | (simp; assumption)) ?_)); (first | go_cell_look | (simp [*]; done) | go_cell))); rintro e w' ⟨rfl, rfl⟩))
  go_wp2
  all_goals go_ret
  all_goals refine ⟨rfl, ?_, ?_, ?_⟩
  · repeat (with_reducible refine (hp_drew _ _).trans ?_)
    exact hp_new (by simp) _
  · repeat (with_reducible refine (hp_drew _ _).trans ?_)
    refine (hp_old (by first | with_reducible exact hpl | (simp; exact hpl)) _).trans ?_
    repeat (with_reducible refine (hp_drew _ _).trans ?_)
    apply Eq.trans
    · repeat (first | with_reducible exact hp | apply at_set)
    · simp
  · repeat (first | with_reducible exact World.grownBy.refl _ _ | with_reducible apply gr_set | with_reducible apply gr_alloc | with_reducible apply gr_drew)

set_option maxHeartbeats 1000000 in
theorem tof_2 (p b T : Nat) (r : Bool) (s a i0 pt now : Int) (w : World) (hp : w.heap[p]? = some (.cells #[.bool r, .int .i64 s, .bool false, .int .i64 a] T)) (hb : w.heap[b]? = some (.cells #[.int .i64 i0, .int .i64 pt] 3)) (hne : p ≠ b) (h0 : (i0 != 0) = false) :
    Calls Tryz.prog 127 #[.pointer (some ⟨p, 0, none⟩), .slice (some ⟨b, 0, none⟩) 2 2, .int .i64 now] w fun e w' => e = .returned (.slice (some ⟨w.heap.size, 0, none⟩) 2 2) ∧ w'.heap[w.heap.size]? = some (.cells #[.int .i64 0, .int .i64 a] 3) ∧ w'.heap[p]? = some (.cells #[.bool r, .int .i64 s, .bool false, .int .i64 a] T) ∧ w.grownBy w' (some p) := by
  have hpl := at_lt hp
  have c0 := at_cell hb 0
  have c1 := at_cell hb 1
  have d0 := at_cell hp 0
  have f0 := at_frozen hp 0
  have d1 := at_cell hp 1
  have f1 := at_frozen hp 1
  have d2 := at_cell hp 2
  have f2 := at_frozen hp 2
  have d3 := at_cell hp 3
  have f3 := at_frozen hp 3
  simp at c0 c1 d0 d1 d2 d3
  go_enter Tryz.func127, Tryz.ntmps127
  go_wp2_with (first | (go_at_call 119; refine (truth_any _ _).mono ?_; rintro e w' ⟨rfl, rfl⟩))
  go_region_held3 (fun w' => w'.cell? ⟨p, 2, none⟩ = some (.bool false)) ((focus ((repeat (first | with_reducible refine ck_drew ?_ | with_reducible refine ck_old (by first | with_reducible assumption | (simp; assumption)) ?_)); (first | go_cell_look | (simp [*]; done) | go_cell)))) (first | (go_at_call 122; refine (outs_any p _ a _ ?_).mono ?_; (focus ((repeat (first | with_reducible refine ck_drew ?_ | with_reducible refine ck_old (by first | with_reducible assumption | (simp; assumption)) ?_)); (first | go_cell_look | (simp [*]; done) | go_cell))); rintro e w' ⟨rfl, rfl⟩))
  go_wp2
  all_goals go_ret
  all_goals refine ⟨rfl, ?_, ?_, ?_⟩
  · repeat (with_reducible refine (hp_drew _ _).trans ?_)
    exact hp_new (by simp) _
  · repeat (with_reducible refine (hp_drew _ _).trans ?_)
    refine (hp_old (by first | with_reducible exact hpl | (simp; exact hpl)) _).trans ?_
    repeat (with_reducible refine (hp_drew _ _).trans ?_)
    apply Eq.trans
    · repeat (first | with_reducible exact hp | apply at_set)
    · simp
  · repeat (first | with_reducible exact World.grownBy.refl _ _ | with_reducible apply gr_set | with_reducible apply gr_alloc | with_reducible apply gr_drew)

set_option maxHeartbeats 1000000 in
theorem tof_ry (p b T : Nat) (s a i0 pt now : Int) (w : World) (hp : w.heap[p]? = some (.cells #[.bool true, .int .i64 s, .bool true, .int .i64 a] T)) (hb : w.heap[b]? = some (.cells #[.int .i64 i0, .int .i64 pt] 3)) (hne : p ≠ b) (h0 : (i0 != 0) = false) (hs0 : 0 ≤ s) (hs1 : s ≤ 4294967295) (hn0 : 0 ≤ now) (hn1 : now ≤ 4294967295) (ho : decide (pt ≤ goneN now s) = true) :
    Calls Tryz.prog 127 #[.pointer (some ⟨p, 0, none⟩), .slice (some ⟨b, 0, none⟩) 2 2, .int .i64 now] w fun e w' => e = .returned (.slice (some ⟨w.heap.size, 0, none⟩) 2 2) ∧ w'.heap[w.heap.size]? = some (.cells #[.int .i64 0, .int .i64 (min (goneN now s) pt)] 3) ∧ w'.heap[p]? = some (.cells #[.bool false, .int .i64 0, .bool false, .int .i64 (min (goneN now s) pt)] T) ∧ w.grownBy w' (some p) := by
  have hpl := at_lt hp
  have c0 := at_cell hb 0
  have c1 := at_cell hb 1
  have d0 := at_cell hp 0
  have f0 := at_frozen hp 0
  have d1 := at_cell hp 1
  have f1 := at_frozen hp 1
  have d2 := at_cell hp 2
  have f2 := at_frozen hp 2
  have d3 := at_cell hp 3
  have f3 := at_frozen hp 3
  simp at c0 c1 d0 d1 d2 d3
  obtain ⟨t, ht⟩ : ∃ t, min (goneN now s) pt = t := ⟨_, rfl⟩
  rw [ht]
  go_enter Tryz.func127, Tryz.ntmps127
  go_wp2_with (first | (go_at_call 119; refine (truth_any _ _).mono ?_; rintro e w' ⟨rfl, rfl⟩) | (go_at_call 128; refine (runOut_ry p s a _ _ _ ?_ ?_ ?_ ?_ ?_ ?_ ?_ ?_ hs0 hs1 hn0 hn1 ?_).mono ?_; (focus ((repeat (first | with_reducible refine ck_drew ?_ | with_reducible refine ck_old (by first | with_reducible assumption | (simp; assumption)) ?_)); (first | go_cell_look | (simp [*]; done) | go_cell))); (focus (first | (simp [*]; done) | (go_simp; done))); (focus ((repeat (first | with_reducible refine ck_drew ?_ | with_reducible refine ck_old (by first | with_reducible assumption | (simp; assumption)) ?_)); (first | go_cell_look | (simp [*]; done) | go_cell))); (focus (first | (simp [*]; done) | (go_simp; done))); (focus ((repeat (first | with_reducible refine ck_drew ?_ | with_reducible refine ck_old (by first | with_reducible assumption | (simp; assumption)) ?_)); (first | go_cell_look | (simp [*]; done) | go_cell))); (focus (first | (simp [*]; done) | (go_simp; done))); (focus ((repeat (first | with_reducible refine ck_drew ?_ | with_reducible refine ck_old (by first | with_reducible assumption | (simp; assumption)) ?_)); (first | go_cell_look | (simp [*]; done) | go_cell))); (focus (first | (simp [*]; done) | (go_simp; done))); (exact ho); rintro e w' ⟨rfl, rfl⟩))
  go_region_held3 (fun w' => w'.cell? ⟨p, 2, none⟩ = some (.bool false)) ((focus ((repeat (first | with_reducible refine ck_drew ?_ | with_reducible refine ck_old (by first | with_reducible assumption | (simp; assumption)) ?_)); (first | go_cell_look | (simp [*]; done) | go_cell)))) (first | (go_at_call 122; refine (outs_any p _ t _ ?_).mono ?_; (focus ((repeat (first | with_reducible refine ck_drew ?_ | with_reducible refine ck_old (by first | with_reducible assumption | (simp; assumption)) ?_)); (first | go_cell_look | (simp [*]; done) | go_cell))); rintro e w' ⟨rfl, rfl⟩))
  go_wp2
  all_goals go_ret
  all_goals refine ⟨rfl, ?_, ?_, ?_⟩
  · repeat (with_reducible refine (hp_drew _ _).trans ?_)
    exact hp_new (by simp) _
  · repeat (with_reducible refine (hp_drew _ _).trans ?_)
    refine (hp_old (by first | with_reducible exact hpl | (simp; exact hpl)) _).trans ?_
    repeat (with_reducible refine (hp_drew _ _).trans ?_)
    apply Eq.trans
    · repeat (first | with_reducible exact hp | apply at_set)
    · simp
  · repeat (first | with_reducible exact World.grownBy.refl _ _ | with_reducible apply gr_set | with_reducible apply gr_alloc | with_reducible apply gr_drew)

set_option maxHeartbeats 1000000 in
theorem tof_rn (p b T : Nat) (s a i0 pt now : Int) (w : World) (hp : w.heap[p]? = some (.cells #[.bool true, .int .i64 s, .bool true, .int .i64 a] T)) (hb : w.heap[b]? = some (.cells #[.int .i64 i0, .int .i64 pt] 3)) (hne : p ≠ b) (h0 : (i0 != 0) = false) (hs0 : 0 ≤ s) (hs1 : s ≤ 4294967295) (hn0 : 0 ≤ now) (hn1 : now ≤ 4294967295) (ho : decide (pt ≤ goneN now s) = false) :
    Calls Tryz.prog 127 #[.pointer (some ⟨p, 0, none⟩), .slice (some ⟨b, 0, none⟩) 2 2, .int .i64 now] w fun e w' => e = .returned (.slice (some ⟨w.heap.size, 0, none⟩) 2 2) ∧ w'.heap[w.heap.size]? = some (.cells #[.int .i64 1, .int .i64 (min (goneN now s) pt)] 3) ∧ w'.heap[p]? = some (.cells #[.bool true, .int .i64 s, .bool true, .int .i64 (min (goneN now s) pt)] T) ∧ w.grownBy w' (some p) := by
  have hpl := at_lt hp
  have c0 := at_cell hb 0
  have c1 := at_cell hb 1
  have d0 := at_cell hp 0
  have f0 := at_frozen hp 0
  have d1 := at_cell hp 1
  have f1 := at_frozen hp 1
  have d2 := at_cell hp 2
  have f2 := at_frozen hp 2
  have d3 := at_cell hp 3
  have f3 := at_frozen hp 3
  simp at c0 c1 d0 d1 d2 d3
  obtain ⟨t, ht⟩ : ∃ t, min (goneN now s) pt = t := ⟨_, rfl⟩
  rw [ht]
  go_enter Tryz.func127, Tryz.ntmps127
  go_wp2_with (first | (go_at_call 119; refine (truth_any _ _).mono ?_; rintro e w' ⟨rfl, rfl⟩) | (go_at_call 128; refine (runOut_rn p s a _ _ _ ?_ ?_ ?_ ?_ ?_ ?_ ?_ ?_ hs0 hs1 hn0 hn1 ?_).mono ?_; (focus ((repeat (first | with_reducible refine ck_drew ?_ | with_reducible refine ck_old (by first | with_reducible assumption | (simp; assumption)) ?_)); (first | go_cell_look | (simp [*]; done) | go_cell))); (focus (first | (simp [*]; done) | (go_simp; done))); (focus ((repeat (first | with_reducible refine ck_drew ?_ | with_reducible refine ck_old (by first | with_reducible assumption | (simp; assumption)) ?_)); (first | go_cell_look | (simp [*]; done) | go_cell))); (focus (first | (simp [*]; done) | (go_simp; done))); (focus ((repeat (first | with_reducible refine ck_drew ?_ | with_reducible refine ck_old (by first | with_reducible assumption | (simp; assumption)) ?_)); (first | go_cell_look | (simp [*]; done) | go_cell))); (focus (first | (simp [*]; done) | (go_simp; done))); (focus ((repeat (first | with_reducible refine ck_drew ?_ | with_reducible refine ck_old (by first | with_reducible assumption | (simp; assumption)) ?_)); (first | go_cell_look | (simp [*]; done) | go_cell))); (focus (first | (simp [*]; done) | (go_simp; done))); (exact ho); rintro e w' ⟨rfl, rfl⟩))
  go_region_held3 (fun w' => w'.cell? ⟨p, 2, none⟩ = some (.bool true)) ((focus ((repeat (first | with_reducible refine ck_drew ?_ | with_reducible refine ck_old (by first | with_reducible assumption | (simp; assumption)) ?_)); (first | go_cell_look | (simp [*]; done) | go_cell)))) (first | (go_at_call 122; refine (outs_any p _ t _ ?_).mono ?_; (focus ((repeat (first | with_reducible refine ck_drew ?_ | with_reducible refine ck_old (by first | with_reducible assumption | (simp; assumption)) ?_)); (first | go_cell_look | (simp [*]; done) | go_cell))); rintro e w' ⟨rfl, rfl⟩))
  go_wp2
  all_goals go_ret
  all_goals refine ⟨rfl, ?_, ?_, ?_⟩
  · repeat (with_reducible refine (hp_drew _ _).trans ?_)
    exact hp_new (by simp) _
  · repeat (with_reducible refine (hp_drew _ _).trans ?_)
    refine (hp_old (by first | with_reducible exact hpl | (simp; exact hpl)) _).trans ?_
    repeat (with_reducible refine (hp_drew _ _).trans ?_)
    apply Eq.trans
    · repeat (first | with_reducible exact hp | apply at_set)
    · simp
  · repeat (first | with_reducible exact World.grownBy.refl _ _ | with_reducible apply gr_set | with_reducible apply gr_alloc | with_reducible apply gr_drew)

set_option maxHeartbeats 1000000 in
theorem tof_ny (p b T : Nat) (s a i0 pt now : Int) (w : World) (hp : w.heap[p]? = some (.cells #[.bool false, .int .i64 s, .bool true, .int .i64 a] T)) (hb : w.heap[b]? = some (.cells #[.int .i64 i0, .int .i64 pt] 3)) (hne : p ≠ b) (h0 : (i0 != 0) = false) (hn0 : 0 ≤ now) (hn1 : now ≤ 4294967295) (ho : decide (pt ≤ goneN now now) = true) :
    Calls Tryz.prog 127 #[.pointer (some ⟨p, 0, none⟩), .slice (some ⟨b, 0, none⟩) 2 2, .int .i64 now] w fun e w' => e = .returned (.slice (some ⟨w.heap.size, 0, none⟩) 2 2) ∧ w'.heap[w.heap.size]? = some (.cells #[.int .i64 0, .int .i64 (min (goneN now now) pt)] 3) ∧ w'.heap[p]? = some (.cells #[.bool false, .int .i64 0, .bool false, .int .i64 (min (goneN now now) pt)] T) ∧ w.grownBy w' (some p) := by
  have hpl := at_lt hp
  have c0 := at_cell hb 0
  have c1 := at_cell hb 1
  have d0 := at_cell hp 0
  have f0 := at_frozen hp 0
  have d1 := at_cell hp 1
  have f1 := at_frozen hp 1
  have d2 := at_cell hp 2
  have f2 := at_frozen hp 2
  have d3 := at_cell hp 3
  have f3 := at_frozen hp 3
  simp at c0 c1 d0 d1 d2 d3
  obtain ⟨t, ht⟩ : ∃ t, min (goneN now now) pt = t := ⟨_, rfl⟩
  rw [ht]
  go_enter Tryz.func127, Tryz.ntmps127
  go_wp2_with (first | (go_at_call 119; refine (truth_any _ _).mono ?_; rintro e w' ⟨rfl, rfl⟩) | (go_at_call 128; refine (runOut_ny p s a _ _ _ ?_ ?_ ?_ ?_ ?_ ?_ ?_ ?_ hn0 hn1 ?_).mono ?_; (focus ((repeat (first | with_reducible refine ck_drew ?_ | with_reducible refine ck_old (by first | with_reducible assumption | (simp; assumption)) ?_)); (first | go_cell_look | (simp [*]; done) | go_cell))); (focus (first | (simp [*]; done) | (go_simp; done))); (focus ((repeat (first | with_reducible refine ck_drew ?_ | with_reducible refine ck_old (by first | with_reducible assumption | (simp; assumption)) ?_)); (first | go_cell_look | (simp [*]; done) | go_cell))); (focus (first | (simp [*]; done) | (go_simp; done))); (focus ((repeat (first | with_reducible refine ck_drew ?_ | with_reducible refine ck_old (by first | with_reducible assumption | (simp; assumption)) ?_)); (first | go_cell_look | (simp [*]; done) | go_cell))); (focus (first | (simp [*]; done) | (go_simp; done))); (focus ((repeat (first | with_reducible refine ck_drew ?_ | with_reducible refine ck_old (by first | with_reducible assumption | (simp; assumption)) ?_)); (first | go_cell_look | (simp [*]; done) | go_cell))); (focus (first | (simp [*]; done) | (go_simp; done))); (exact ho); rintro e w' ⟨rfl, rfl⟩))
  go_region_held3 (fun w' => w'.cell? ⟨p, 2, none⟩ = some (.bool false)) ((focus ((repeat (first | with_reducible refine ck_drew ?_ | with_reducible refine ck_old (by first | with_reducible assumption | (simp; assumption)) ?_)); (first | go_cell_look | (simp [*]; done) | go_cell)))) (first | (go_at_call 122; refine (outs_any p _ t _ ?_).mono ?_; (focus ((repeat (first | with_reducible refine ck_drew ?_ | with_reducible refine ck_old (by first | with_reducible assumption | (simp; assumption)) ?_)); (first | go_cell_look | (simp [*]; done) | go_cell))); rintro e w' ⟨rfl, rfl⟩))
  go_wp2
  all_goals go_ret
  all_goals refine ⟨rfl, ?_, ?_, ?_⟩
  · repeat (with_reducible refine (hp_drew _ _).trans ?_)
    exact hp_new (by simp) _
  · repeat (with_reducible refine (hp_drew _ _).trans ?_)
    refine (hp_old (by first | with_reducible exact hpl | (simp; exact hpl)) _).trans ?_
    repeat (with_reducible refine (hp_drew _ _).trans ?_)
    apply Eq.trans
    · repeat (first | with_reducible exact hp | apply at_set)
    · simp
  · repeat (first | with_reducible exact World.grownBy.refl _ _ | with_reducible apply gr_set | with_reducible apply gr_alloc | with_reducible apply gr_drew)

set_option maxHeartbeats 1000000 in
theorem tof_nn (p b T : Nat) (s a i0 pt now : Int) (w : World) (hp : w.heap[p]? = some (.cells #[.bool false, .int .i64 s, .bool true, .int .i64 a] T)) (hb : w.heap[b]? = some (.cells #[.int .i64 i0, .int .i64 pt] 3)) (hne : p ≠ b) (h0 : (i0 != 0) = false) (hn0 : 0 ≤ now) (hn1 : now ≤ 4294967295) (ho : decide (pt ≤ goneN now now) = false) :
    Calls Tryz.prog 127 #[.pointer (some ⟨p, 0, none⟩), .slice (some ⟨b, 0, none⟩) 2 2, .int .i64 now] w fun e w' => e = .returned (.slice (some ⟨w.heap.size, 0, none⟩) 2 2) ∧ w'.heap[w.heap.size]? = some (.cells #[.int .i64 1, .int .i64 (min (goneN now now) pt)] 3) ∧ w'.heap[p]? = some (.cells #[.bool true, .int .i64 now, .bool true, .int .i64 (min (goneN now now) pt)] T) ∧ w.grownBy w' (some p) := by
  have hpl := at_lt hp
  have c0 := at_cell hb 0
  have c1 := at_cell hb 1
  have d0 := at_cell hp 0
  have f0 := at_frozen hp 0
  have d1 := at_cell hp 1
  have f1 := at_frozen hp 1
  have d2 := at_cell hp 2
  have f2 := at_frozen hp 2
  have d3 := at_cell hp 3
  have f3 := at_frozen hp 3
  simp at c0 c1 d0 d1 d2 d3
  obtain ⟨t, ht⟩ : ∃ t, min (goneN now now) pt = t := ⟨_, rfl⟩
  rw [ht]
  go_enter Tryz.func127, Tryz.ntmps127
  go_wp2_with (first | (go_at_call 119; refine (truth_any _ _).mono ?_; rintro e w' ⟨rfl, rfl⟩) | (go_at_call 128; refine (runOut_nn p s a _ _ _ ?_ ?_ ?_ ?_ ?_ ?_ ?_ ?_ hn0 hn1 ?_).mono ?_; (focus ((repeat (first | with_reducible refine ck_drew ?_ | with_reducible refine ck_old (by first | with_reducible assumption | (simp; assumption)) ?_)); (first | go_cell_look | (simp [*]; done) | go_cell))); (focus (first | (simp [*]; done) | (go_simp; done))); (focus ((repeat (first | with_reducible refine ck_drew ?_ | with_reducible refine ck_old (by first | with_reducible assumption | (simp; assumption)) ?_)); (first | go_cell_look | (simp [*]; done) | go_cell))); (focus (first | (simp [*]; done) | (go_simp; done))); (focus ((repeat (first | with_reducible refine ck_drew ?_ | with_reducible refine ck_old (by first | with_reducible assumption | (simp; assumption)) ?_)); (first | go_cell_look | (simp [*]; done) | go_cell))); (focus (first | (simp [*]; done) | (go_simp; done))); (focus ((repeat (first | with_reducible refine ck_drew ?_ | with_reducible refine ck_old (by first | with_reducible assumption | (simp; assumption)) ?_)); (first | go_cell_look | (simp [*]; done) | go_cell))); (focus (first | (simp [*]; done) | (go_simp; done))); (exact ho); rintro e w' ⟨rfl, rfl⟩))
  go_region_held3 (fun w' => w'.cell? ⟨p, 2, none⟩ = some (.bool true)) ((focus ((repeat (first | with_reducible refine ck_drew ?_ | with_reducible refine ck_old (by first | with_reducible assumption | (simp; assumption)) ?_)); (first | go_cell_look | (simp [*]; done) | go_cell)))) (first | (go_at_call 122; refine (outs_any p _ t _ ?_).mono ?_; (focus ((repeat (first | with_reducible refine ck_drew ?_ | with_reducible refine ck_old (by first | with_reducible assumption | (simp; assumption)) ?_)); (first | go_cell_look | (simp [*]; done) | go_cell))); rintro e w' ⟨rfl, rfl⟩))
  go_wp2
  all_goals go_ret
  all_goals refine ⟨rfl, ?_, ?_, ?_⟩
  · repeat (with_reducible refine (hp_drew _ _).trans ?_)
    exact hp_new (by simp) _
  · repeat (with_reducible refine (hp_drew _ _).trans ?_)
    refine (hp_old (by first | with_reducible exact hpl | (simp; exact hpl)) _).trans ?_
    repeat (with_reducible refine (hp_drew _ _).trans ?_)
    apply Eq.trans
    · repeat (first | with_reducible exact hp | apply at_set)
    · simp
  · repeat (first | with_reducible exact World.grownBy.refl _ _ | with_reducible apply gr_set | with_reducible apply gr_alloc | with_reducible apply gr_drew)

end Go.Proofs.YtcgbfhpmkpglkaaGreatDoor.Bl

/- tp: its step. -/
namespace Go.Proofs.YtcgbfhpmkpglkaaGreatDoor.Bl
open Go.RowKit
attribute [local go_sem ↓] Go.wp_at_zero Go.wp_at_succ
set_option linter.unusedVariables false

set_option maxHeartbeats 1000000 in
theorem tp_rtty (p b T : Nat) (s a i0 pt now : Int) (w : World) (hp : w.heap[p]? = some (.cells #[.bool true, .int .i64 s, .bool true, .int .i64 a] T)) (hb : w.heap[b]? = some (.cells #[.int .i64 i0, .int .i64 pt] 3)) (hne : p ≠ b) (h0 : (i0 != 0) = true) (hs0 : 0 ≤ s) (hs1 : s ≤ 4294967295) (hn0 : 0 ≤ now) (hn1 : now ≤ 4294967295) (ho : decide (pt ≤ goneN now s) = true) :
    Calls Tryz.prog 131 #[.pointer (some ⟨p, 0, none⟩), .slice (some ⟨b, 0, none⟩) 2 2, .int .i64 now] w fun e w' => e = .returned (.slice (some ⟨w.heap.size, 0, none⟩) 2 2) ∧ w'.heap[w.heap.size]? = some (.cells #[.int .i64 0, .int .i64 (min (goneN now s) pt)] 3) ∧ w'.heap[p]? = some (.cells #[.bool false, .int .i64 0, .bool true, .int .i64 (min (goneN now s) pt)] T) ∧ w.grownBy w' (some p) := by
  have hpl := at_lt hp
  have c0 := at_cell hb 0
  have c1 := at_cell hb 1
  have d0 := at_cell hp 0
  have f0 := at_frozen hp 0
  have d1 := at_cell hp 1
  have f1 := at_frozen hp 1
  have d2 := at_cell hp 2
  have f2 := at_frozen hp 2
  have d3 := at_cell hp 3
  have f3 := at_frozen hp 3
  simp at c0 c1 d0 d1 d2 d3
  obtain ⟨g, hg⟩ : ∃ g, goneN now s = g := ⟨_, rfl⟩
  rw [hg] at ho ⊢
  obtain ⟨t, ht⟩ : ∃ t, min g pt = t := ⟨_, rfl⟩
  rw [ht]
  go_enter Tryz.func131, Tryz.ntmps131
  go_wp2_with (first | (go_at_call 119; refine (truth_any _ _).mono ?_; rintro e w' ⟨rfl, rfl⟩))
  go_region_held3 (fun w' => w'.cell? ⟨b, 1, none⟩ = some (.int .i64 pt)) ((focus ((repeat (first | with_reducible refine ck_drew ?_ | with_reducible refine ck_old (by first | with_reducible assumption | (simp; assumption)) ?_)); (first | go_cell_look | (simp [*]; done) | go_cell)))) (first | (go_at_call 123; refine (over_any p s _ _ (.int .i64 a) _ ?_ ?_ ?_ hs0 hs1 hn0 hn1).mono ?_; (focus ((repeat (first | with_reducible refine ck_drew ?_ | with_reducible refine ck_old (by first | with_reducible assumption | (simp; assumption)) ?_)); (first | go_cell_look | (simp [*]; done) | go_cell))); (focus ((repeat (first | with_reducible refine ck_drew ?_ | with_reducible refine ck_old (by first | with_reducible assumption | (simp; assumption)) ?_)); (first | go_cell_look | (simp [*]; done) | go_cell))); (focus (first | (simp [*]; done) | (go_simp; done))); rintro e w' ⟨rfl, rfl⟩))
  go_wp2_with (first | (go_at_call 118; refine (stop_any p (.bool true) (.int .i64 s) _ ?_ ?_ ?_ ?_).mono ?_; (focus ((repeat (first | with_reducible refine ck_drew ?_ | with_reducible refine ck_old (by first | with_reducible assumption | (simp; assumption)) ?_)); (first | go_cell_look | (simp [*]; done) | go_cell))); (focus ((repeat (first | with_reducible refine ck_drew ?_ | with_reducible refine ck_old (by first | with_reducible assumption | (simp; assumption)) ?_)); (first | go_cell_look | (simp [*]; done) | go_cell))); (focus (first | (simp [*]; done) | (go_simp; done))); (focus (first | (simp [*]; done) | (go_simp; done))); rintro e w' ⟨rfl, rfl⟩))
  go_region_held3 (fun w' => w'.cell? ⟨p, 0, none⟩ = some (.bool false)) ((focus ((repeat (first | with_reducible refine ck_drew ?_ | with_reducible refine ck_old (by first | with_reducible assumption | (simp; assumption)) ?_)); (first | go_cell_look | (simp [*]; done) | go_cell)))) (first | (go_at_call 122; refine (outs_any p _ t _ ?_).mono ?_; (focus ((repeat (first | with_reducible refine ck_drew ?_ | with_reducible refine ck_old (by first | with_reducible assumption | (simp; assumption)) ?_)); (first | go_cell_look | (simp [*]; done) | go_cell))); rintro e w' ⟨rfl, rfl⟩))
  go_wp2
  all_goals go_ret
  all_goals refine ⟨rfl, ?_, ?_, ?_⟩
  · repeat (with_reducible refine (hp_drew _ _).trans ?_)
    exact hp_new (by simp) _
  · repeat (with_reducible refine (hp_drew _ _).trans ?_)
    refine (hp_old (by first | with_reducible exact hpl | (simp; exact hpl)) _).trans ?_
    repeat (with_reducible refine (hp_drew _ _).trans ?_)
    apply Eq.trans
    · repeat (first | with_reducible exact hp | apply at_set)
    · simp
  · repeat (first | with_reducible exact World.grownBy.refl _ _ | with_reducible apply gr_set | with_reducible apply gr_alloc | with_reducible apply gr_drew)

set_option maxHeartbeats 1000000 in
theorem tp_rttn (p b T : Nat) (s a i0 pt now : Int) (w : World) (hp : w.heap[p]? = some (.cells #[.bool true, .int .i64 s, .bool true, .int .i64 a] T)) (hb : w.heap[b]? = some (.cells #[.int .i64 i0, .int .i64 pt] 3)) (hne : p ≠ b) (h0 : (i0 != 0) = true) (hs0 : 0 ≤ s) (hs1 : s ≤ 4294967295) (hn0 : 0 ≤ now) (hn1 : now ≤ 4294967295) (ho : decide (pt ≤ goneN now s) = false) :
    Calls Tryz.prog 131 #[.pointer (some ⟨p, 0, none⟩), .slice (some ⟨b, 0, none⟩) 2 2, .int .i64 now] w fun e w' => e = .returned (.slice (some ⟨w.heap.size, 0, none⟩) 2 2) ∧ w'.heap[w.heap.size]? = some (.cells #[.int .i64 1, .int .i64 (min (goneN now s) pt)] 3) ∧ w'.heap[p]? = some (.cells #[.bool true, .int .i64 s, .bool true, .int .i64 (min (goneN now s) pt)] T) ∧ w.grownBy w' (some p) := by
  have hpl := at_lt hp
  have c0 := at_cell hb 0
  have c1 := at_cell hb 1
  have d0 := at_cell hp 0
  have f0 := at_frozen hp 0
  have d1 := at_cell hp 1
  have f1 := at_frozen hp 1
  have d2 := at_cell hp 2
  have f2 := at_frozen hp 2
  have d3 := at_cell hp 3
  have f3 := at_frozen hp 3
  simp at c0 c1 d0 d1 d2 d3
  obtain ⟨g, hg⟩ : ∃ g, goneN now s = g := ⟨_, rfl⟩
  rw [hg] at ho ⊢
  obtain ⟨t, ht⟩ : ∃ t, min g pt = t := ⟨_, rfl⟩
  rw [ht]
  go_enter Tryz.func131, Tryz.ntmps131
  go_wp2_with (first | (go_at_call 119; refine (truth_any _ _).mono ?_; rintro e w' ⟨rfl, rfl⟩))
  go_region_held3 (fun w' => w'.cell? ⟨b, 1, none⟩ = some (.int .i64 pt)) ((focus ((repeat (first | with_reducible refine ck_drew ?_ | with_reducible refine ck_old (by first | with_reducible assumption | (simp; assumption)) ?_)); (first | go_cell_look | (simp [*]; done) | go_cell)))) (first | (go_at_call 123; refine (over_any p s _ _ (.int .i64 a) _ ?_ ?_ ?_ hs0 hs1 hn0 hn1).mono ?_; (focus ((repeat (first | with_reducible refine ck_drew ?_ | with_reducible refine ck_old (by first | with_reducible assumption | (simp; assumption)) ?_)); (first | go_cell_look | (simp [*]; done) | go_cell))); (focus ((repeat (first | with_reducible refine ck_drew ?_ | with_reducible refine ck_old (by first | with_reducible assumption | (simp; assumption)) ?_)); (first | go_cell_look | (simp [*]; done) | go_cell))); (focus (first | (simp [*]; done) | (go_simp; done))); rintro e w' ⟨rfl, rfl⟩))
  go_wp2_with (first | (go_at_call 118; refine (stop_any p (.bool true) (.int .i64 s) _ ?_ ?_ ?_ ?_).mono ?_; (focus ((repeat (first | with_reducible refine ck_drew ?_ | with_reducible refine ck_old (by first | with_reducible assumption | (simp; assumption)) ?_)); (first | go_cell_look | (simp [*]; done) | go_cell))); (focus ((repeat (first | with_reducible refine ck_drew ?_ | with_reducible refine ck_old (by first | with_reducible assumption | (simp; assumption)) ?_)); (first | go_cell_look | (simp [*]; done) | go_cell))); (focus (first | (simp [*]; done) | (go_simp; done))); (focus (first | (simp [*]; done) | (go_simp; done))); rintro e w' ⟨rfl, rfl⟩))
  go_region_held3 (fun w' => w'.cell? ⟨p, 0, none⟩ = some (.bool true)) ((focus ((repeat (first | with_reducible refine ck_drew ?_ | with_reducible refine ck_old (by first | with_reducible assumption | (simp; assumption)) ?_)); (first | go_cell_look | (simp [*]; done) | go_cell)))) (first | (go_at_call 122; refine (outs_any p _ t _ ?_).mono ?_; (focus ((repeat (first | with_reducible refine ck_drew ?_ | with_reducible refine ck_old (by first | with_reducible assumption | (simp; assumption)) ?_)); (first | go_cell_look | (simp [*]; done) | go_cell))); rintro e w' ⟨rfl, rfl⟩))
  go_wp2
  all_goals go_ret
  all_goals refine ⟨rfl, ?_, ?_, ?_⟩
  · repeat (with_reducible refine (hp_drew _ _).trans ?_)
    exact hp_new (by simp) _
  · repeat (with_reducible refine (hp_drew _ _).trans ?_)
    refine (hp_old (by first | with_reducible exact hpl | (simp; exact hpl)) _).trans ?_
    repeat (with_reducible refine (hp_drew _ _).trans ?_)
    apply Eq.trans
    · repeat (first | with_reducible exact hp | apply at_set)
    · simp
  · repeat (first | with_reducible exact World.grownBy.refl _ _ | with_reducible apply gr_set | with_reducible apply gr_alloc | with_reducible apply gr_drew)

set_option maxHeartbeats 1000000 in
theorem tp_rtfy (p b T : Nat) (s a i0 pt now : Int) (w : World) (hp : w.heap[p]? = some (.cells #[.bool true, .int .i64 s, .bool false, .int .i64 a] T)) (hb : w.heap[b]? = some (.cells #[.int .i64 i0, .int .i64 pt] 3)) (hne : p ≠ b) (h0 : (i0 != 0) = true) (hs0 : 0 ≤ s) (hs1 : s ≤ 4294967295) (hn0 : 0 ≤ now) (hn1 : now ≤ 4294967295) (ho : decide (pt ≤ goneN now s) = true) :
    Calls Tryz.prog 131 #[.pointer (some ⟨p, 0, none⟩), .slice (some ⟨b, 0, none⟩) 2 2, .int .i64 now] w fun e w' => e = .returned (.slice (some ⟨w.heap.size, 0, none⟩) 2 2) ∧ w'.heap[w.heap.size]? = some (.cells #[.int .i64 0, .int .i64 (min (goneN now s) pt)] 3) ∧ w'.heap[p]? = some (.cells #[.bool false, .int .i64 0, .bool true, .int .i64 (min (goneN now s) pt)] T) ∧ w.grownBy w' (some p) := by
  have hpl := at_lt hp
  have c0 := at_cell hb 0
  have c1 := at_cell hb 1
  have d0 := at_cell hp 0
  have f0 := at_frozen hp 0
  have d1 := at_cell hp 1
  have f1 := at_frozen hp 1
  have d2 := at_cell hp 2
  have f2 := at_frozen hp 2
  have d3 := at_cell hp 3
  have f3 := at_frozen hp 3
  simp at c0 c1 d0 d1 d2 d3
  obtain ⟨g, hg⟩ : ∃ g, goneN now s = g := ⟨_, rfl⟩
  rw [hg] at ho ⊢
  obtain ⟨t, ht⟩ : ∃ t, min g pt = t := ⟨_, rfl⟩
  rw [ht]
  go_enter Tryz.func131, Tryz.ntmps131
  go_wp2_with (first | (go_at_call 119; refine (truth_any _ _).mono ?_; rintro e w' ⟨rfl, rfl⟩))
  go_region_held3 (fun w' => w'.cell? ⟨b, 1, none⟩ = some (.int .i64 pt)) ((focus ((repeat (first | with_reducible refine ck_drew ?_ | with_reducible refine ck_old (by first | with_reducible assumption | (simp; assumption)) ?_)); (first | go_cell_look | (simp [*]; done) | go_cell)))) (first | (go_at_call 123; refine (over_any p s _ _ (.int .i64 a) _ ?_ ?_ ?_ hs0 hs1 hn0 hn1).mono ?_; (focus ((repeat (first | with_reducible refine ck_drew ?_ | with_reducible refine ck_old (by first | with_reducible assumption | (simp; assumption)) ?_)); (first | go_cell_look | (simp [*]; done) | go_cell))); (focus ((repeat (first | with_reducible refine ck_drew ?_ | with_reducible refine ck_old (by first | with_reducible assumption | (simp; assumption)) ?_)); (first | go_cell_look | (simp [*]; done) | go_cell))); (focus (first | (simp [*]; done) | (go_simp; done))); rintro e w' ⟨rfl, rfl⟩))
  go_wp2_with (first | (go_at_call 118; refine (stop_any p (.bool true) (.int .i64 s) _ ?_ ?_ ?_ ?_).mono ?_; (focus ((repeat (first | with_reducible refine ck_drew ?_ | with_reducible refine ck_old (by first | with_reducible assumption | (simp; assumption)) ?_)); (first | go_cell_look | (simp [*]; done) | go_cell))); (focus ((repeat (first | with_reducible refine ck_drew ?_ | with_reducible refine ck_old (by first | with_reducible assumption | (simp; assumption)) ?_)); (first | go_cell_look | (simp [*]; done) | go_cell))); (focus (first | (simp [*]; done) | (go_simp; done))); (focus (first | (simp [*]; done) | (go_simp; done))); rintro e w' ⟨rfl, rfl⟩))
  go_region_held3 (fun w' => w'.cell? ⟨p, 0, none⟩ = some (.bool false)) ((focus ((repeat (first | with_reducible refine ck_drew ?_ | with_reducible refine ck_old (by first | with_reducible assumption | (simp; assumption)) ?_)); (first | go_cell_look | (simp [*]; done) | go_cell)))) (first | (go_at_call 122; refine (outs_any p _ t _ ?_).mono ?_; (focus ((repeat (first | with_reducible refine ck_drew ?_ | with_reducible refine ck_old (by first | with_reducible assumption | (simp; assumption)) ?_)); (first | go_cell_look | (simp [*]; done) | go_cell))); rintro e w' ⟨rfl, rfl⟩))
  go_wp2
  all_goals go_ret
  all_goals refine ⟨rfl, ?_, ?_, ?_⟩
  · repeat (with_reducible refine (hp_drew _ _).trans ?_)
    exact hp_new (by simp) _
  · repeat (with_reducible refine (hp_drew _ _).trans ?_)
    refine (hp_old (by first | with_reducible exact hpl | (simp; exact hpl)) _).trans ?_
    repeat (with_reducible refine (hp_drew _ _).trans ?_)
    apply Eq.trans
    · repeat (first | with_reducible exact hp | apply at_set)
    · simp
  · repeat (first | with_reducible exact World.grownBy.refl _ _ | with_reducible apply gr_set | with_reducible apply gr_alloc | with_reducible apply gr_drew)

set_option maxHeartbeats 1000000 in
theorem tp_rtfn (p b T : Nat) (s a i0 pt now : Int) (w : World) (hp : w.heap[p]? = some (.cells #[.bool true, .int .i64 s, .bool false, .int .i64 a] T)) (hb : w.heap[b]? = some (.cells #[.int .i64 i0, .int .i64 pt] 3)) (hne : p ≠ b) (h0 : (i0 != 0) = true) (hs0 : 0 ≤ s) (hs1 : s ≤ 4294967295) (hn0 : 0 ≤ now) (hn1 : now ≤ 4294967295) (ho : decide (pt ≤ goneN now s) = false) :
    Calls Tryz.prog 131 #[.pointer (some ⟨p, 0, none⟩), .slice (some ⟨b, 0, none⟩) 2 2, .int .i64 now] w fun e w' => e = .returned (.slice (some ⟨w.heap.size, 0, none⟩) 2 2) ∧ w'.heap[w.heap.size]? = some (.cells #[.int .i64 1, .int .i64 (min (goneN now s) pt)] 3) ∧ w'.heap[p]? = some (.cells #[.bool true, .int .i64 s, .bool true, .int .i64 (min (goneN now s) pt)] T) ∧ w.grownBy w' (some p) := by
  have hpl := at_lt hp
  have c0 := at_cell hb 0
  have c1 := at_cell hb 1
  have d0 := at_cell hp 0
  have f0 := at_frozen hp 0
  have d1 := at_cell hp 1
  have f1 := at_frozen hp 1
  have d2 := at_cell hp 2
  have f2 := at_frozen hp 2
  have d3 := at_cell hp 3
  have f3 := at_frozen hp 3
  simp at c0 c1 d0 d1 d2 d3
  obtain ⟨g, hg⟩ : ∃ g, goneN now s = g := ⟨_, rfl⟩
  rw [hg] at ho ⊢
  obtain ⟨t, ht⟩ : ∃ t, min g pt = t := ⟨_, rfl⟩
  rw [ht]
  go_enter Tryz.func131, Tryz.ntmps131
  go_wp2_with (first | (go_at_call 119; refine (truth_any _ _).mono ?_; rintro e w' ⟨rfl, rfl⟩))
  go_region_held3 (fun w' => w'.cell? ⟨b, 1, none⟩ = some (.int .i64 pt)) ((focus ((repeat (first | with_reducible refine ck_drew ?_ | with_reducible refine ck_old (by first | with_reducible assumption | (simp; assumption)) ?_)); (first | go_cell_look | (simp [*]; done) | go_cell)))) (first | (go_at_call 123; refine (over_any p s _ _ (.int .i64 a) _ ?_ ?_ ?_ hs0 hs1 hn0 hn1).mono ?_; (focus ((repeat (first | with_reducible refine ck_drew ?_ | with_reducible refine ck_old (by first | with_reducible assumption | (simp; assumption)) ?_)); (first | go_cell_look | (simp [*]; done) | go_cell))); (focus ((repeat (first | with_reducible refine ck_drew ?_ | with_reducible refine ck_old (by first | with_reducible assumption | (simp; assumption)) ?_)); (first | go_cell_look | (simp [*]; done) | go_cell))); (focus (first | (simp [*]; done) | (go_simp; done))); rintro e w' ⟨rfl, rfl⟩))
  go_wp2_with (first | (go_at_call 118; refine (stop_any p (.bool true) (.int .i64 s) _ ?_ ?_ ?_ ?_).mono ?_; (focus ((repeat (first | with_reducible refine ck_drew ?_ | with_reducible refine ck_old (by first | with_reducible assumption | (simp; assumption)) ?_)); (first | go_cell_look | (simp [*]; done) | go_cell))); (focus ((repeat (first | with_reducible refine ck_drew ?_ | with_reducible refine ck_old (by first | with_reducible assumption | (simp; assumption)) ?_)); (first | go_cell_look | (simp [*]; done) | go_cell))); (focus (first | (simp [*]; done) | (go_simp; done))); (focus (first | (simp [*]; done) | (go_simp; done))); rintro e w' ⟨rfl, rfl⟩))
  go_region_held3 (fun w' => w'.cell? ⟨p, 0, none⟩ = some (.bool true)) ((focus ((repeat (first | with_reducible refine ck_drew ?_ | with_reducible refine ck_old (by first | with_reducible assumption | (simp; assumption)) ?_)); (first | go_cell_look | (simp [*]; done) | go_cell)))) (first | (go_at_call 122; refine (outs_any p _ t _ ?_).mono ?_; (focus ((repeat (first | with_reducible refine ck_drew ?_ | with_reducible refine ck_old (by first | with_reducible assumption | (simp; assumption)) ?_)); (first | go_cell_look | (simp [*]; done) | go_cell))); rintro e w' ⟨rfl, rfl⟩))
  go_wp2
  all_goals go_ret
  all_goals refine ⟨rfl, ?_, ?_, ?_⟩
  · repeat (with_reducible refine (hp_drew _ _).trans ?_)
    exact hp_new (by simp) _
  · repeat (with_reducible refine (hp_drew _ _).trans ?_)
    refine (hp_old (by first | with_reducible exact hpl | (simp; exact hpl)) _).trans ?_
    repeat (with_reducible refine (hp_drew _ _).trans ?_)
    apply Eq.trans
    · repeat (first | with_reducible exact hp | apply at_set)
    · simp
  · repeat (first | with_reducible exact World.grownBy.refl _ _ | with_reducible apply gr_set | with_reducible apply gr_alloc | with_reducible apply gr_drew)

set_option maxHeartbeats 1000000 in
theorem tp_rfty (p b T : Nat) (s a i0 pt now : Int) (w : World) (hp : w.heap[p]? = some (.cells #[.bool true, .int .i64 s, .bool true, .int .i64 a] T)) (hb : w.heap[b]? = some (.cells #[.int .i64 i0, .int .i64 pt] 3)) (hne : p ≠ b) (h0 : (i0 != 0) = false) (hs0 : 0 ≤ s) (hs1 : s ≤ 4294967295) (hn0 : 0 ≤ now) (hn1 : now ≤ 4294967295) (ho : decide (pt ≤ goneN now s) = true) :
    Calls Tryz.prog 131 #[.pointer (some ⟨p, 0, none⟩), .slice (some ⟨b, 0, none⟩) 2 2, .int .i64 now] w fun e w' => e = .returned (.slice (some ⟨w.heap.size, 0, none⟩) 2 2) ∧ w'.heap[w.heap.size]? = some (.cells #[.int .i64 0, .int .i64 (min (goneN now s) pt)] 3) ∧ w'.heap[p]? = some (.cells #[.bool false, .int .i64 0, .bool false, .int .i64 (min (goneN now s) pt)] T) ∧ w.grownBy w' (some p) := by
  have hpl := at_lt hp
  have c0 := at_cell hb 0
  have c1 := at_cell hb 1
  have d0 := at_cell hp 0
  have f0 := at_frozen hp 0
  have d1 := at_cell hp 1
  have f1 := at_frozen hp 1
  have d2 := at_cell hp 2
  have f2 := at_frozen hp 2
  have d3 := at_cell hp 3
  have f3 := at_frozen hp 3
  simp at c0 c1 d0 d1 d2 d3
  obtain ⟨g, hg⟩ : ∃ g, goneN now s = g := ⟨_, rfl⟩
  rw [hg] at ho ⊢
  obtain ⟨t, ht⟩ : ∃ t, min g pt = t := ⟨_, rfl⟩
  rw [ht]
  go_enter Tryz.func131, Tryz.ntmps131
  go_wp2_with (first | (go_at_call 119; refine (truth_any _ _).mono ?_; rintro e w' ⟨rfl, rfl⟩))
  go_region_held3 (fun w' => w'.cell? ⟨b, 1, none⟩ = some (.int .i64 pt)) ((focus ((repeat (first | with_reducible refine ck_drew ?_ | with_reducible refine ck_old (by first | with_reducible assumption | (simp; assumption)) ?_)); (first | go_cell_look | (simp [*]; done) | go_cell)))) (first | (go_at_call 123; refine (over_any p s _ _ (.int .i64 a) _ ?_ ?_ ?_ hs0 hs1 hn0 hn1).mono ?_; (focus ((repeat (first | with_reducible refine ck_drew ?_ | with_reducible refine ck_old (by first | with_reducible assumption | (simp; assumption)) ?_)); (first | go_cell_look | (simp [*]; done) | go_cell))); (focus ((repeat (first | with_reducible refine ck_drew ?_ | with_reducible refine ck_old (by first | with_reducible assumption | (simp; assumption)) ?_)); (first | go_cell_look | (simp [*]; done) | go_cell))); (focus (first | (simp [*]; done) | (go_simp; done))); rintro e w' ⟨rfl, rfl⟩))
  go_wp2_with (first | (go_at_call 118; refine (stop_any p (.bool true) (.int .i64 s) _ ?_ ?_ ?_ ?_).mono ?_; (focus ((repeat (first | with_reducible refine ck_drew ?_ | with_reducible refine ck_old (by first | with_reducible assumption | (simp; assumption)) ?_)); (first | go_cell_look | (simp [*]; done) | go_cell))); (focus ((repeat (first | with_reducible refine ck_drew ?_ | with_reducible refine ck_old (by first | with_reducible assumption | (simp; assumption)) ?_)); (first | go_cell_look | (simp [*]; done) | go_cell))); (focus (first | (simp [*]; done) | (go_simp; done))); (focus (first | (simp [*]; done) | (go_simp; done))); rintro e w' ⟨rfl, rfl⟩))
  go_region_held3 (fun w' => w'.cell? ⟨p, 0, none⟩ = some (.bool false)) ((focus ((repeat (first | with_reducible refine ck_drew ?_ | with_reducible refine ck_old (by first | with_reducible assumption | (simp; assumption)) ?_)); (first | go_cell_look | (simp [*]; done) | go_cell)))) (first | (go_at_call 122; refine (outs_any p _ t _ ?_).mono ?_; (focus ((repeat (first | with_reducible refine ck_drew ?_ | with_reducible refine ck_old (by first | with_reducible assumption | (simp; assumption)) ?_)); (first | go_cell_look | (simp [*]; done) | go_cell))); rintro e w' ⟨rfl, rfl⟩))
  go_wp2
  all_goals go_ret
  all_goals refine ⟨rfl, ?_, ?_, ?_⟩
  · repeat (with_reducible refine (hp_drew _ _).trans ?_)
    exact hp_new (by simp) _
  · repeat (with_reducible refine (hp_drew _ _).trans ?_)
    refine (hp_old (by first | with_reducible exact hpl | (simp; exact hpl)) _).trans ?_
    repeat (with_reducible refine (hp_drew _ _).trans ?_)
    apply Eq.trans
    · repeat (first | with_reducible exact hp | apply at_set)
    · simp
  · repeat (first | with_reducible exact World.grownBy.refl _ _ | with_reducible apply gr_set | with_reducible apply gr_alloc | with_reducible apply gr_drew)

set_option maxHeartbeats 1000000 in
theorem tp_rftn (p b T : Nat) (s a i0 pt now : Int) (w : World) (hp : w.heap[p]? = some (.cells #[.bool true, .int .i64 s, .bool true, .int .i64 a] T)) (hb : w.heap[b]? = some (.cells #[.int .i64 i0, .int .i64 pt] 3)) (hne : p ≠ b) (h0 : (i0 != 0) = false) (hs0 : 0 ≤ s) (hs1 : s ≤ 4294967295) (hn0 : 0 ≤ now) (hn1 : now ≤ 4294967295) (ho : decide (pt ≤ goneN now s) = false) :
    Calls Tryz.prog 131 #[.pointer (some ⟨p, 0, none⟩), .slice (some ⟨b, 0, none⟩) 2 2, .int .i64 now] w fun e w' => e = .returned (.slice (some ⟨w.heap.size, 0, none⟩) 2 2) ∧ w'.heap[w.heap.size]? = some (.cells #[.int .i64 1, .int .i64 (min (goneN now s) pt)] 3) ∧ w'.heap[p]? = some (.cells #[.bool true, .int .i64 s, .bool false, .int .i64 (min (goneN now s) pt)] T) ∧ w.grownBy w' (some p) := by
  have hpl := at_lt hp
  have c0 := at_cell hb 0
  have c1 := at_cell hb 1
  have d0 := at_cell hp 0
  have f0 := at_frozen hp 0
  have d1 := at_cell hp 1
  have f1 := at_frozen hp 1
  have d2 := at_cell hp 2
  have f2 := at_frozen hp 2
  have d3 := at_cell hp 3
  have f3 := at_frozen hp 3
  simp at c0 c1 d0 d1 d2 d3
  obtain ⟨g, hg⟩ : ∃ g, goneN now s = g := ⟨_, rfl⟩
  rw [hg] at ho ⊢
  obtain ⟨t, ht⟩ : ∃ t, min g pt = t := ⟨_, rfl⟩
  rw [ht]
  go_enter Tryz.func131, Tryz.ntmps131
  go_wp2_with (first | (go_at_call 119; refine (truth_any _ _).mono ?_; rintro e w' ⟨rfl, rfl⟩))
  go_region_held3 (fun w' => w'.cell? ⟨b, 1, none⟩ = some (.int .i64 pt)) ((focus ((repeat (first | with_reducible refine ck_drew ?_ | with_reducible refine ck_old (by first | with_reducible assumption | (simp; assumption)) ?_)); (first | go_cell_look | (simp [*]; done) | go_cell)))) (first | (go_at_call 123; refine (over_any p s _ _ (.int .i64 a) _ ?_ ?_ ?_ hs0 hs1 hn0 hn1).mono ?_; (focus ((repeat (first | with_reducible refine ck_drew ?_ | with_reducible refine ck_old (by first | with_reducible assumption | (simp; assumption)) ?_)); (first | go_cell_look | (simp [*]; done) | go_cell))); (focus ((repeat (first | with_reducible refine ck_drew ?_ | with_reducible refine ck_old (by first | with_reducible assumption | (simp; assumption)) ?_)); (first | go_cell_look | (simp [*]; done) | go_cell))); (focus (first | (simp [*]; done) | (go_simp; done))); rintro e w' ⟨rfl, rfl⟩))
  go_wp2_with (first | (go_at_call 118; refine (stop_any p (.bool true) (.int .i64 s) _ ?_ ?_ ?_ ?_).mono ?_; (focus ((repeat (first | with_reducible refine ck_drew ?_ | with_reducible refine ck_old (by first | with_reducible assumption | (simp; assumption)) ?_)); (first | go_cell_look | (simp [*]; done) | go_cell))); (focus ((repeat (first | with_reducible refine ck_drew ?_ | with_reducible refine ck_old (by first | with_reducible assumption | (simp; assumption)) ?_)); (first | go_cell_look | (simp [*]; done) | go_cell))); (focus (first | (simp [*]; done) | (go_simp; done))); (focus (first | (simp [*]; done) | (go_simp; done))); rintro e w' ⟨rfl, rfl⟩))
  go_region_held3 (fun w' => w'.cell? ⟨p, 0, none⟩ = some (.bool true)) ((focus ((repeat (first | with_reducible refine ck_drew ?_ | with_reducible refine ck_old (by first | with_reducible assumption | (simp; assumption)) ?_)); (first | go_cell_look | (simp [*]; done) | go_cell)))) (first | (go_at_call 122; refine (outs_any p _ t _ ?_).mono ?_; (focus ((repeat (first | with_reducible refine ck_drew ?_ | with_reducible refine ck_old (by first | with_reducible assumption | (simp; assumption)) ?_)); (first | go_cell_look | (simp [*]; done) | go_cell))); rintro e w' ⟨rfl, rfl⟩))
  go_wp2
  all_goals go_ret
  all_goals refine ⟨rfl, ?_, ?_, ?_⟩
  · repeat (with_reducible refine (hp_drew _ _).trans ?_)
    exact hp_new (by simp) _
  · repeat (with_reducible refine (hp_drew _ _).trans ?_)
    refine (hp_old (by first | with_reducible exact hpl | (simp; exact hpl)) _).trans ?_
    repeat (with_reducible refine (hp_drew _ _).trans ?_)
    apply Eq.trans
    · repeat (first | with_reducible exact hp | apply at_set)
    · simp
  · repeat (first | with_reducible exact World.grownBy.refl _ _ | with_reducible apply gr_set | with_reducible apply gr_alloc | with_reducible apply gr_drew)

set_option maxHeartbeats 1000000 in
theorem tp_rffy (p b T : Nat) (s a i0 pt now : Int) (w : World) (hp : w.heap[p]? = some (.cells #[.bool true, .int .i64 s, .bool false, .int .i64 a] T)) (hb : w.heap[b]? = some (.cells #[.int .i64 i0, .int .i64 pt] 3)) (hne : p ≠ b) (h0 : (i0 != 0) = false) (hs0 : 0 ≤ s) (hs1 : s ≤ 4294967295) (hn0 : 0 ≤ now) (hn1 : now ≤ 4294967295) (ho : decide (pt ≤ goneN now s) = true) :
    Calls Tryz.prog 131 #[.pointer (some ⟨p, 0, none⟩), .slice (some ⟨b, 0, none⟩) 2 2, .int .i64 now] w fun e w' => e = .returned (.slice (some ⟨w.heap.size, 0, none⟩) 2 2) ∧ w'.heap[w.heap.size]? = some (.cells #[.int .i64 0, .int .i64 (min (goneN now s) pt)] 3) ∧ w'.heap[p]? = some (.cells #[.bool false, .int .i64 0, .bool false, .int .i64 (min (goneN now s) pt)] T) ∧ w.grownBy w' (some p) := by
  have hpl := at_lt hp
  have c0 := at_cell hb 0
  have c1 := at_cell hb 1
  have d0 := at_cell hp 0
  have f0 := at_frozen hp 0
  have d1 := at_cell hp 1
  have f1 := at_frozen hp 1
  have d2 := at_cell hp 2
  have f2 := at_frozen hp 2
  have d3 := at_cell hp 3
  have f3 := at_frozen hp 3
  simp at c0 c1 d0 d1 d2 d3
  obtain ⟨g, hg⟩ : ∃ g, goneN now s = g := ⟨_, rfl⟩
  rw [hg] at ho ⊢
  obtain ⟨t, ht⟩ : ∃ t, min g pt = t := ⟨_, rfl⟩
  rw [ht]
  go_enter Tryz.func131, Tryz.ntmps131
  go_wp2_with (first | (go_at_call 119; refine (truth_any _ _).mono ?_; rintro e w' ⟨rfl, rfl⟩))
  go_region_held3 (fun w' => w'.cell? ⟨b, 1, none⟩ = some (.int .i64 pt)) ((focus ((repeat (first | with_reducible refine ck_drew ?_ | with_reducible refine ck_old (by first | with_reducible assumption | (simp; assumption)) ?_)); (first | go_cell_look | (simp [*]; done) | go_cell)))) (first | (go_at_call 123; refine (over_any p s _ _ (.int .i64 a) _ ?_ ?_ ?_ hs0 hs1 hn0 hn1).mono ?_; (focus ((repeat (first | with_reducible refine ck_drew ?_ | with_reducible refine ck_old (by first | with_reducible assumption | (simp; assumption)) ?_)); (first | go_cell_look | (simp [*]; done) | go_cell))); (focus ((repeat (first | with_reducible refine ck_drew ?_ | with_reducible refine ck_old (by first | with_reducible assumption | (simp; assumption)) ?_)); (first | go_cell_look | (simp [*]; done) | go_cell))); (focus (first | (simp [*]; done) | (go_simp; done))); rintro e w' ⟨rfl, rfl⟩))
  go_wp2_with (first | (go_at_call 118; refine (stop_any p (.bool true) (.int .i64 s) _ ?_ ?_ ?_ ?_).mono ?_; (focus ((repeat (first | with_reducible refine ck_drew ?_ | with_reducible refine ck_old (by first | with_reducible assumption | (simp; assumption)) ?_)); (first | go_cell_look | (simp [*]; done) | go_cell))); (focus ((repeat (first | with_reducible refine ck_drew ?_ | with_reducible refine ck_old (by first | with_reducible assumption | (simp; assumption)) ?_)); (first | go_cell_look | (simp [*]; done) | go_cell))); (focus (first | (simp [*]; done) | (go_simp; done))); (focus (first | (simp [*]; done) | (go_simp; done))); rintro e w' ⟨rfl, rfl⟩))
  go_region_held3 (fun w' => w'.cell? ⟨p, 0, none⟩ = some (.bool false)) ((focus ((repeat (first | with_reducible refine ck_drew ?_ | with_reducible refine ck_old (by first | with_reducible assumption | (simp; assumption)) ?_)); (first | go_cell_look | (simp [*]; done) | go_cell)))) (first | (go_at_call 122; refine (outs_any p _ t _ ?_).mono ?_; (focus ((repeat (first | with_reducible refine ck_drew ?_ | with_reducible refine ck_old (by first | with_reducible assumption | (simp; assumption)) ?_)); (first | go_cell_look | (simp [*]; done) | go_cell))); rintro e w' ⟨rfl, rfl⟩))
  go_wp2
  all_goals go_ret
  all_goals refine ⟨rfl, ?_, ?_, ?_⟩
  · repeat (with_reducible refine (hp_drew _ _).trans ?_)
    exact hp_new (by simp) _
  · repeat (with_reducible refine (hp_drew _ _).trans ?_)
    refine (hp_old (by first | with_reducible exact hpl | (simp; exact hpl)) _).trans ?_
    repeat (with_reducible refine (hp_drew _ _).trans ?_)
    apply Eq.trans
    · repeat (first | with_reducible exact hp | apply at_set)
    · simp
  · repeat (first | with_reducible exact World.grownBy.refl _ _ | with_reducible apply gr_set | with_reducible apply gr_alloc | with_reducible apply gr_drew)

set_option maxHeartbeats 1000000 in
theorem tp_rffn (p b T : Nat) (s a i0 pt now : Int) (w : World) (hp : w.heap[p]? = some (.cells #[.bool true, .int .i64 s, .bool false, .int .i64 a] T)) (hb : w.heap[b]? = some (.cells #[.int .i64 i0, .int .i64 pt] 3)) (hne : p ≠ b) (h0 : (i0 != 0) = false) (hs0 : 0 ≤ s) (hs1 : s ≤ 4294967295) (hn0 : 0 ≤ now) (hn1 : now ≤ 4294967295) (ho : decide (pt ≤ goneN now s) = false) :
    Calls Tryz.prog 131 #[.pointer (some ⟨p, 0, none⟩), .slice (some ⟨b, 0, none⟩) 2 2, .int .i64 now] w fun e w' => e = .returned (.slice (some ⟨w.heap.size, 0, none⟩) 2 2) ∧ w'.heap[w.heap.size]? = some (.cells #[.int .i64 1, .int .i64 (min (goneN now s) pt)] 3) ∧ w'.heap[p]? = some (.cells #[.bool true, .int .i64 s, .bool false, .int .i64 (min (goneN now s) pt)] T) ∧ w.grownBy w' (some p) := by
  have hpl := at_lt hp
  have c0 := at_cell hb 0
  have c1 := at_cell hb 1
  have d0 := at_cell hp 0
  have f0 := at_frozen hp 0
  have d1 := at_cell hp 1
  have f1 := at_frozen hp 1
  have d2 := at_cell hp 2
  have f2 := at_frozen hp 2
  have d3 := at_cell hp 3
  have f3 := at_frozen hp 3
  simp at c0 c1 d0 d1 d2 d3
  obtain ⟨g, hg⟩ : ∃ g, goneN now s = g := ⟨_, rfl⟩
  rw [hg] at ho ⊢
  obtain ⟨t, ht⟩ : ∃ t, min g pt = t := ⟨_, rfl⟩
  rw [ht]
  go_enter Tryz.func131, Tryz.ntmps131
  go_wp2_with (first | (go_at_call 119; refine (truth_any _ _).mono ?_; rintro e w' ⟨rfl, rfl⟩))
  go_region_held3 (fun w' => w'.cell? ⟨b, 1, none⟩ = some (.int .i64 pt)) ((focus ((repeat (first | with_reducible refine ck_drew ?_ | with_reducible refine ck_old (by first | with_reducible assumption | (simp; assumption)) ?_)); (first | go_cell_look | (simp [*]; done) | go_cell)))) (first | (go_at_call 123; refine (over_any p s _ _ (.int .i64 a) _ ?_ ?_ ?_ hs0 hs1 hn0 hn1).mono ?_; (focus ((repeat (first | with_reducible refine ck_drew ?_ | with_reducible refine ck_old (by first | with_reducible assumption | (simp; assumption)) ?_)); (first | go_cell_look | (simp [*]; done) | go_cell))); (focus ((repeat (first | with_reducible refine ck_drew ?_ | with_reducible refine ck_old (by first | with_reducible assumption | (simp; assumption)) ?_)); (first | go_cell_look | (simp [*]; done) | go_cell))); (focus (first | (simp [*]; done) | (go_simp; done))); rintro e w' ⟨rfl, rfl⟩))
  go_wp2_with (first | (go_at_call 118; refine (stop_any p (.bool true) (.int .i64 s) _ ?_ ?_ ?_ ?_).mono ?_; (focus ((repeat (first | with_reducible refine ck_drew ?_ | with_reducible refine ck_old (by first | with_reducible assumption | (simp; assumption)) ?_)); (first | go_cell_look | (simp [*]; done) | go_cell))); (focus ((repeat (first | with_reducible refine ck_drew ?_ | with_reducible refine ck_old (by first | with_reducible assumption | (simp; assumption)) ?_)); (first | go_cell_look | (simp [*]; done) | go_cell))); (focus (first | (simp [*]; done) | (go_simp; done))); (focus (first | (simp [*]; done) | (go_simp; done))); rintro e w' ⟨rfl, rfl⟩))
  go_region_held3 (fun w' => w'.cell? ⟨p, 0, none⟩ = some (.bool true)) ((focus ((repeat (first | with_reducible refine ck_drew ?_ | with_reducible refine ck_old (by first | with_reducible assumption | (simp; assumption)) ?_)); (first | go_cell_look | (simp [*]; done) | go_cell)))) (first | (go_at_call 122; refine (outs_any p _ t _ ?_).mono ?_; (focus ((repeat (first | with_reducible refine ck_drew ?_ | with_reducible refine ck_old (by first | with_reducible assumption | (simp; assumption)) ?_)); (first | go_cell_look | (simp [*]; done) | go_cell))); rintro e w' ⟨rfl, rfl⟩))
  go_wp2
  all_goals go_ret
  all_goals refine ⟨rfl, ?_, ?_, ?_⟩
  · repeat (with_reducible refine (hp_drew _ _).trans ?_)
    exact hp_new (by simp) _
  · repeat (with_reducible refine (hp_drew _ _).trans ?_)
    refine (hp_old (by first | with_reducible exact hpl | (simp; exact hpl)) _).trans ?_
    repeat (with_reducible refine (hp_drew _ _).trans ?_)
    apply Eq.trans
    · repeat (first | with_reducible exact hp | apply at_set)
    · simp
  · repeat (first | with_reducible exact World.grownBy.refl _ _ | with_reducible apply gr_set | with_reducible apply gr_alloc | with_reducible apply gr_drew)

set_option maxHeartbeats 1000000 in
theorem tp_ny (p b T : Nat) (s a i0 pt now : Int) (w : World) (hp : w.heap[p]? = some (.cells #[.bool false, .int .i64 s, .bool false, .int .i64 a] T)) (hb : w.heap[b]? = some (.cells #[.int .i64 i0, .int .i64 pt] 3)) (hne : p ≠ b) (h0 : (i0 != 0) = true) (hn0 : 0 ≤ now) (hn1 : now ≤ 4294967295) (ho : decide (pt ≤ goneN now now) = true) :
    Calls Tryz.prog 131 #[.pointer (some ⟨p, 0, none⟩), .slice (some ⟨b, 0, none⟩) 2 2, .int .i64 now] w fun e w' => e = .returned (.slice (some ⟨w.heap.size, 0, none⟩) 2 2) ∧ w'.heap[w.heap.size]? = some (.cells #[.int .i64 0, .int .i64 (min (goneN now now) pt)] 3) ∧ w'.heap[p]? = some (.cells #[.bool false, .int .i64 0, .bool true, .int .i64 (min (goneN now now) pt)] T) ∧ w.grownBy w' (some p) := by
  have hpl := at_lt hp
  have c0 := at_cell hb 0
  have c1 := at_cell hb 1
  have d0 := at_cell hp 0
  have f0 := at_frozen hp 0
  have d1 := at_cell hp 1
  have f1 := at_frozen hp 1
  have d2 := at_cell hp 2
  have f2 := at_frozen hp 2
  have d3 := at_cell hp 3
  have f3 := at_frozen hp 3
  simp at c0 c1 d0 d1 d2 d3
  obtain ⟨g, hg⟩ : ∃ g, goneN now now = g := ⟨_, rfl⟩
  rw [hg] at ho ⊢
  obtain ⟨t, ht⟩ : ∃ t, min g pt = t := ⟨_, rfl⟩
  rw [ht]
  go_enter Tryz.func131, Tryz.ntmps131
  go_wp2_with (first | (go_at_call 119; refine (truth_any _ _).mono ?_; rintro e w' ⟨rfl, rfl⟩) | (go_at_call 129; refine (start_any p _ (.bool false) (.int .i64 s) _ ?_ ?_ ?_ ?_).mono ?_; (focus ((repeat (first | with_reducible refine ck_drew ?_ | with_reducible refine ck_old (by first | with_reducible assumption | (simp; assumption)) ?_)); (first | go_cell_look | (simp [*]; done) | go_cell))); (focus ((repeat (first | with_reducible refine ck_drew ?_ | with_reducible refine ck_old (by first | with_reducible assumption | (simp; assumption)) ?_)); (first | go_cell_look | (simp [*]; done) | go_cell))); (focus (first | (simp [*]; done) | (go_simp; done))); (focus (first | (simp [*]; done) | (go_simp; done))); rintro e w' ⟨rfl, rfl⟩))
  go_region_held3 (fun w' => w'.cell? ⟨b, 1, none⟩ = some (.int .i64 pt)) ((focus ((repeat (first | with_reducible refine ck_drew ?_ | with_reducible refine ck_old (by first | with_reducible assumption | (simp; assumption)) ?_)); (first | go_cell_look | (simp [*]; done) | go_cell)))) (first | (go_at_call 123; refine (over_any p now _ _ (.int .i64 a) _ ?_ ?_ ?_ hn0 hn1 hn0 hn1).mono ?_; (focus ((repeat (first | with_reducible refine ck_drew ?_ | with_reducible refine ck_old (by first | with_reducible assumption | (simp; assumption)) ?_)); (first | go_cell_look | (simp [*]; done) | go_cell))); (focus ((repeat (first | with_reducible refine ck_drew ?_ | with_reducible refine ck_old (by first | with_reducible assumption | (simp; assumption)) ?_)); (first | go_cell_look | (simp [*]; done) | go_cell))); (focus (first | (simp [*]; done) | (go_simp; done))); rintro e w' ⟨rfl, rfl⟩))
  go_wp2_with (first | (go_at_call 118; refine (stop_any p (.bool true) (.int .i64 now) _ ?_ ?_ ?_ ?_).mono ?_; (focus ((repeat (first | with_reducible refine ck_drew ?_ | with_reducible refine ck_old (by first | with_reducible assumption | (simp; assumption)) ?_)); (first | go_cell_look | (simp [*]; done) | go_cell))); (focus ((repeat (first | with_reducible refine ck_drew ?_ | with_reducible refine ck_old (by first | with_reducible assumption | (simp; assumption)) ?_)); (first | go_cell_look | (simp [*]; done) | go_cell))); (focus (first | (simp [*]; done) | (go_simp; done))); (focus (first | (simp [*]; done) | (go_simp; done))); rintro e w' ⟨rfl, rfl⟩))
  go_region_held3 (fun w' => w'.cell? ⟨p, 0, none⟩ = some (.bool false)) ((focus ((repeat (first | with_reducible refine ck_drew ?_ | with_reducible refine ck_old (by first | with_reducible assumption | (simp; assumption)) ?_)); (first | go_cell_look | (simp [*]; done) | go_cell)))) (first | (go_at_call 122; refine (outs_any p _ t _ ?_).mono ?_; (focus ((repeat (first | with_reducible refine ck_drew ?_ | with_reducible refine ck_old (by first | with_reducible assumption | (simp; assumption)) ?_)); (first | go_cell_look | (simp [*]; done) | go_cell))); rintro e w' ⟨rfl, rfl⟩))
  go_wp2
  all_goals go_ret
  all_goals refine ⟨rfl, ?_, ?_, ?_⟩
  · repeat (with_reducible refine (hp_drew _ _).trans ?_)
    exact hp_new (by simp) _
  · repeat (with_reducible refine (hp_drew _ _).trans ?_)
    refine (hp_old (by first | with_reducible exact hpl | (simp; exact hpl)) _).trans ?_
    repeat (with_reducible refine (hp_drew _ _).trans ?_)
    apply Eq.trans
    · repeat (first | with_reducible exact hp | apply at_set)
    · simp
  · repeat (first | with_reducible exact World.grownBy.refl _ _ | with_reducible apply gr_set | with_reducible apply gr_alloc | with_reducible apply gr_drew)

set_option maxHeartbeats 1000000 in
theorem tp_nn (p b T : Nat) (s a i0 pt now : Int) (w : World) (hp : w.heap[p]? = some (.cells #[.bool false, .int .i64 s, .bool false, .int .i64 a] T)) (hb : w.heap[b]? = some (.cells #[.int .i64 i0, .int .i64 pt] 3)) (hne : p ≠ b) (h0 : (i0 != 0) = true) (hn0 : 0 ≤ now) (hn1 : now ≤ 4294967295) (ho : decide (pt ≤ goneN now now) = false) :
    Calls Tryz.prog 131 #[.pointer (some ⟨p, 0, none⟩), .slice (some ⟨b, 0, none⟩) 2 2, .int .i64 now] w fun e w' => e = .returned (.slice (some ⟨w.heap.size, 0, none⟩) 2 2) ∧ w'.heap[w.heap.size]? = some (.cells #[.int .i64 1, .int .i64 (min (goneN now now) pt)] 3) ∧ w'.heap[p]? = some (.cells #[.bool true, .int .i64 now, .bool true, .int .i64 (min (goneN now now) pt)] T) ∧ w.grownBy w' (some p) := by
  have hpl := at_lt hp
  have c0 := at_cell hb 0
  have c1 := at_cell hb 1
  have d0 := at_cell hp 0
  have f0 := at_frozen hp 0
  have d1 := at_cell hp 1
  have f1 := at_frozen hp 1
  have d2 := at_cell hp 2
  have f2 := at_frozen hp 2
  have d3 := at_cell hp 3
  have f3 := at_frozen hp 3
  simp at c0 c1 d0 d1 d2 d3
  obtain ⟨g, hg⟩ : ∃ g, goneN now now = g := ⟨_, rfl⟩
  rw [hg] at ho ⊢
  obtain ⟨t, ht⟩ : ∃ t, min g pt = t := ⟨_, rfl⟩
  rw [ht]
  go_enter Tryz.func131, Tryz.ntmps131
  go_wp2_with (first | (go_at_call 119; refine (truth_any _ _).mono ?_; rintro e w' ⟨rfl, rfl⟩) | (go_at_call 129; refine (start_any p _ (.bool false) (.int .i64 s) _ ?_ ?_ ?_ ?_).mono ?_; (focus ((repeat (first | with_reducible refine ck_drew ?_ | with_reducible refine ck_old (by first | with_reducible assumption | (simp; assumption)) ?_)); (first | go_cell_look | (simp [*]; done) | go_cell))); (focus ((repeat (first | with_reducible refine ck_drew ?_ | with_reducible refine ck_old (by first | with_reducible assumption | (simp; assumption)) ?_)); (first | go_cell_look | (simp [*]; done) | go_cell))); (focus (first | (simp [*]; done) | (go_simp; done))); (focus (first | (simp [*]; done) | (go_simp; done))); rintro e w' ⟨rfl, rfl⟩))
  go_region_held3 (fun w' => w'.cell? ⟨b, 1, none⟩ = some (.int .i64 pt)) ((focus ((repeat (first | with_reducible refine ck_drew ?_ | with_reducible refine ck_old (by first | with_reducible assumption | (simp; assumption)) ?_)); (first | go_cell_look | (simp [*]; done) | go_cell)))) (first | (go_at_call 123; refine (over_any p now _ _ (.int .i64 a) _ ?_ ?_ ?_ hn0 hn1 hn0 hn1).mono ?_; (focus ((repeat (first | with_reducible refine ck_drew ?_ | with_reducible refine ck_old (by first | with_reducible assumption | (simp; assumption)) ?_)); (first | go_cell_look | (simp [*]; done) | go_cell))); (focus ((repeat (first | with_reducible refine ck_drew ?_ | with_reducible refine ck_old (by first | with_reducible assumption | (simp; assumption)) ?_)); (first | go_cell_look | (simp [*]; done) | go_cell))); (focus (first | (simp [*]; done) | (go_simp; done))); rintro e w' ⟨rfl, rfl⟩))
  go_wp2_with (first | (go_at_call 118; refine (stop_any p (.bool true) (.int .i64 now) _ ?_ ?_ ?_ ?_).mono ?_; (focus ((repeat (first | with_reducible refine ck_drew ?_ | with_reducible refine ck_old (by first | with_reducible assumption | (simp; assumption)) ?_)); (first | go_cell_look | (simp [*]; done) | go_cell))); (focus ((repeat (first | with_reducible refine ck_drew ?_ | with_reducible refine ck_old (by first | with_reducible assumption | (simp; assumption)) ?_)); (first | go_cell_look | (simp [*]; done) | go_cell))); (focus (first | (simp [*]; done) | (go_simp; done))); (focus (first | (simp [*]; done) | (go_simp; done))); rintro e w' ⟨rfl, rfl⟩))
  go_region_held3 (fun w' => w'.cell? ⟨p, 0, none⟩ = some (.bool true)) ((focus ((repeat (first | with_reducible refine ck_drew ?_ | with_reducible refine ck_old (by first | with_reducible assumption | (simp; assumption)) ?_)); (first | go_cell_look | (simp [*]; done) | go_cell)))) (first | (go_at_call 122; refine (outs_any p _ t _ ?_).mono ?_; (focus ((repeat (first | with_reducible refine ck_drew ?_ | with_reducible refine ck_old (by first | with_reducible assumption | (simp; assumption)) ?_)); (first | go_cell_look | (simp [*]; done) | go_cell))); rintro e w' ⟨rfl, rfl⟩))
  go_wp2
  all_goals go_ret
  all_goals refine ⟨rfl, ?_, ?_, ?_⟩
  · repeat (with_reducible refine (hp_drew _ _).trans ?_)
    exact hp_new (by simp) _
  · repeat (with_reducible refine (hp_drew _ _).trans ?_)
    refine (hp_old (by first | with_reducible exact hpl | (simp; exact hpl)) _).trans ?_
    repeat (with_reducible refine (hp_drew _ _).trans ?_)
    apply Eq.trans
    · repeat (first | with_reducible exact hp | apply at_set)
    · simp
  · repeat (first | with_reducible exact World.grownBy.refl _ _ | with_reducible apply gr_set | with_reducible apply gr_alloc | with_reducible apply gr_drew)

set_option maxHeartbeats 1000000 in
theorem tp_keep (p b T : Nat) (s a i0 pt now : Int) (w : World) (hp : w.heap[p]? = some (.cells #[.bool false, .int .i64 s, .bool true, .int .i64 a] T)) (hb : w.heap[b]? = some (.cells #[.int .i64 i0, .int .i64 pt] 3)) (hne : p ≠ b) (h0 : (i0 != 0) = true) :
    Calls Tryz.prog 131 #[.pointer (some ⟨p, 0, none⟩), .slice (some ⟨b, 0, none⟩) 2 2, .int .i64 now] w fun e w' => e = .returned (.slice (some ⟨w.heap.size, 0, none⟩) 2 2) ∧ w'.heap[w.heap.size]? = some (.cells #[.int .i64 0, .int .i64 a] 3) ∧ w'.heap[p]? = some (.cells #[.bool false, .int .i64 s, .bool true, .int .i64 a] T) ∧ w.grownBy w' (some p) := by
  have hpl := at_lt hp
  have c0 := at_cell hb 0
  have c1 := at_cell hb 1
  have d0 := at_cell hp 0
  have f0 := at_frozen hp 0
  have d1 := at_cell hp 1
  have f1 := at_frozen hp 1
  have d2 := at_cell hp 2
  have f2 := at_frozen hp 2
  have d3 := at_cell hp 3
  have f3 := at_frozen hp 3
  simp at c0 c1 d0 d1 d2 d3
  go_enter Tryz.func131, Tryz.ntmps131
  go_wp2_with (first | (go_at_call 119; refine (truth_any _ _).mono ?_; rintro e w' ⟨rfl, rfl⟩))
  go_region_held3 (fun w' => w'.cell? ⟨p, 0, none⟩ = some (.bool false)) ((focus ((repeat (first | with_reducible refine ck_drew ?_ | with_reducible refine ck_old (by first | with_reducible assumption | (simp; assumption)) ?_)); (first | go_cell_look | (simp [*]; done) | go_cell)))) (first | (go_at_call 122; refine (outs_any p _ a _ ?_).mono ?_; (focus ((repeat (first | with_reducible refine ck_drew ?_ | with_reducible refine ck_old (by first | with_reducible assumption | (simp; assumption)) ?_)); (first | go_cell_look | (simp [*]; done) | go_cell))); rintro e w' ⟨rfl, rfl⟩))
  go_wp2
  all_goals go_ret
  all_goals refine ⟨rfl, ?_, ?_, ?_⟩
  · repeat (with_reducible refine (hp_drew _ _).trans ?_)
    exact hp_new (by simp) _
  · repeat (with_reducible refine (hp_drew _ _).trans ?_)
    refine (hp_old (by first | with_reducible exact hpl | (simp; exact hpl)) _).trans ?_
    repeat (with_reducible refine (hp_drew _ _).trans ?_)
    apply Eq.trans
    · repeat (first | with_reducible exact hp | apply at_set)
    · simp
  · repeat (first | with_reducible exact World.grownBy.refl _ _ | with_reducible apply gr_set | with_reducible apply gr_alloc | with_reducible apply gr_drew)

set_option maxHeartbeats 1000000 in
theorem tp_zero (p b T : Nat) (m : Bool) (s a i0 pt now : Int) (w : World) (hp : w.heap[p]? = some (.cells #[.bool false, .int .i64 s, .bool m, .int .i64 a] T)) (hb : w.heap[b]? = some (.cells #[.int .i64 i0, .int .i64 pt] 3)) (hne : p ≠ b) (h0 : (i0 != 0) = false) :
    Calls Tryz.prog 131 #[.pointer (some ⟨p, 0, none⟩), .slice (some ⟨b, 0, none⟩) 2 2, .int .i64 now] w fun e w' => e = .returned (.slice (some ⟨w.heap.size, 0, none⟩) 2 2) ∧ w'.heap[w.heap.size]? = some (.cells #[.int .i64 0, .int .i64 0] 3) ∧ w'.heap[p]? = some (.cells #[.bool false, .int .i64 s, .bool false, .int .i64 0] T) ∧ w.grownBy w' (some p) := by
  have hpl := at_lt hp
  have c0 := at_cell hb 0
  have c1 := at_cell hb 1
  have d0 := at_cell hp 0
  have f0 := at_frozen hp 0
  have d1 := at_cell hp 1
  have f1 := at_frozen hp 1
  have d2 := at_cell hp 2
  have f2 := at_frozen hp 2
  have d3 := at_cell hp 3
  have f3 := at_frozen hp 3
  simp at c0 c1 d0 d1 d2 d3
  go_enter Tryz.func131, Tryz.ntmps131
  go_wp2_with (first | (go_at_call 119; refine (truth_any _ _).mono ?_; rintro e w' ⟨rfl, rfl⟩))
  go_region_held3 (fun w' => w'.cell? ⟨p, 0, none⟩ = some (.bool false)) ((focus ((repeat (first | with_reducible refine ck_drew ?_ | with_reducible refine ck_old (by first | with_reducible assumption | (simp; assumption)) ?_)); (first | go_cell_look | (simp [*]; done) | go_cell)))) (first | (go_at_call 122; refine (outs_any p _ 0 _ ?_).mono ?_; (focus ((repeat (first | with_reducible refine ck_drew ?_ | with_reducible refine ck_old (by first | with_reducible assumption | (simp; assumption)) ?_)); (first | go_cell_look | (simp [*]; done) | go_cell))); rintro e w' ⟨rfl, rfl⟩))
  go_wp2
  all_goals go_ret
  all_goals refine ⟨rfl, ?_, ?_, ?_⟩
  · repeat (with_reducible refine (hp_drew _ _).trans ?_)
    exact hp_new (by simp) _
  · repeat (with_reducible refine (hp_drew _ _).trans ?_)
    refine (hp_old (by first | with_reducible exact hpl | (simp; exact hpl)) _).trans ?_
    repeat (with_reducible refine (hp_drew _ _).trans ?_)
    apply Eq.trans
    · repeat (first | with_reducible exact hp | apply at_set)
    · simp
  · repeat (first | with_reducible exact World.grownBy.refl _ _ | with_reducible apply gr_set | with_reducible apply gr_alloc | with_reducible apply gr_drew)

end Go.Proofs.YtcgbfhpmkpglkaaGreatDoor.Bl
