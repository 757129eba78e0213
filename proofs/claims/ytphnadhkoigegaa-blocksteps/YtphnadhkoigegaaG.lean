/- What the timers share: start, stop, over, outs. -/
import Derived.Test.YtphnadhkoigegaaF0
namespace Go.Proofs.Ytphnadhkoigegaa
open Go.RowKit
attribute [local go_sem ↓] Go.wp_at_zero Go.wp_at_succ

theorem start_any (p : Nat) (n : Int) (u0 u1 : Value) (w : World) (d0 : w.cell? ⟨p, 0, none⟩ = some u0) (d1 : w.cell? ⟨p, 1, none⟩ = some u1) (f0 : w.frozen? ⟨p, 0, none⟩ = false) (f1 : w.frozen? ⟨p, 1, none⟩ = false) :
    Calls Try.prog 59 #[.pointer (some ⟨p, 0, none⟩), .int .i64 n] w fun e w' => e = .returned (.tuple #[]) ∧ w' = (w.setCell ⟨p, 0, none⟩ (.bool true)).setCell ⟨p, 1, none⟩ (.int .i64 n) := by
  go_enter Try.func59, Try.ntmps59
  go_wp2
  go_end0
  exact ⟨rfl, rfl⟩
theorem stop_any (p : Nat) (u0 u1 : Value) (w : World) (d0 : w.cell? ⟨p, 0, none⟩ = some u0) (d1 : w.cell? ⟨p, 1, none⟩ = some u1) (f0 : w.frozen? ⟨p, 0, none⟩ = false) (f1 : w.frozen? ⟨p, 1, none⟩ = false) :
    Calls Try.prog 48 #[.pointer (some ⟨p, 0, none⟩)] w fun e w' => e = .returned (.tuple #[]) ∧ w' = (w.setCell ⟨p, 0, none⟩ (.bool false)).setCell ⟨p, 1, none⟩ (.int .i64 0) := by
  go_enter Try.func48, Try.ntmps48
  go_wp2
  go_end0
  exact ⟨rfl, rfl⟩

/-- How long it is since. -/
def goneN (now since : Int) : Int := wrapK 5 (now - since)
theorem over_any (p : Nat) (s pt now : Int) (u3 : Value) (w : World) (d1 : w.cell? ⟨p, 1, none⟩ = some (.int .i64 s)) (d3 : w.cell? ⟨p, 3, none⟩ = some u3) (f3 : w.frozen? ⟨p, 3, none⟩ = false)
    (hs0 : 0 ≤ s) (hs1 : s ≤ 4294967295) (hn0 : 0 ≤ now) (hn1 : now ≤ 4294967295) :
    Calls Try.prog 53 #[.pointer (some ⟨p, 0, none⟩), .int .i64 pt, .int .i64 now] w fun e w' => e = .returned (.bool (decide (pt ≤ goneN now s))) ∧ w' = w.setCell ⟨p, 3, none⟩ (.int .i64 (min (goneN now s) pt)) := by
  obtain ⟨g, hg⟩ : ∃ g, goneN now s = g := ⟨_, rfl⟩
  have hg' : wrapK 5 (now - s) = g := hg
  rw [hg]
  clear hg
  by_cases h : pt ≤ g
  · have e1 : decide (pt ≤ g) = true := by simpa using h
    have HM : Hid (min g pt = pt) := by show min g pt = pt; omega
    rw [e1, HM.out]
    go_enter Try.func53, Try.ntmps53
    go_wp2_with (go_at_call 27; refine (wrap_any _ _ _).mono ?_; rintro e w' ⟨rfl, rfl⟩)
    all_goals go_ret
    all_goals refine ⟨rfl, ?_⟩
    all_goals (first | rfl | (have e : g = pt := by omega); rw [e])
  · have e1 : decide (pt ≤ g) = false := by simpa using h
    have HM : Hid (min g pt = g) := by show min g pt = g; omega
    rw [e1, HM.out]
    go_enter Try.func53, Try.ntmps53
    go_wp2_with (go_at_call 27; refine (wrap_any _ _ _).mono ?_; rintro e w' ⟨rfl, rfl⟩)
    all_goals go_ret
    all_goals refine ⟨rfl, ?_⟩
    all_goals (first | rfl | (have e : g = pt := by omega); rw [e])

theorem outs_any (p : Nat) (q : Bool) (a : Int) (w : World) (d3 : w.cell? ⟨p, 3, none⟩ = some (.int .i64 a)) :
    Calls Try.prog 52 #[.pointer (some ⟨p, 0, none⟩), .bool q] w fun e w' => e = .returned (.slice (some ⟨w.heap.size, 0, none⟩) 2 2) ∧ w' = (w.alloc (.cells #[.int .i64 (yesN q), .int .i64 a] 3)).drew := by
  have hlt : p < w.heap.size := World.block_lt_of_cell? w _ d3
  go_enter Try.func52, Try.ntmps52
  go_wp2
  go_region_held3 (fun w' => w'.cell? ⟨p, 3, none⟩ = some (.int .i64 a)) (go_keep) (first | (go_at_call 50; refine (word_any _ _).mono ?_; rintro e w' ⟨rfl, rfl⟩))
  all_goals go_wp2
  all_goals go_ret
  all_goals exact ⟨rfl, rfl⟩
end Go.Proofs.Ytphnadhkoigegaa
