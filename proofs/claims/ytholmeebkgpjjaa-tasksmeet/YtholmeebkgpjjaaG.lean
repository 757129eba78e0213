/- cmp.Compare, the order of deadlines, insertion from the back. -/
import Derived.Test.YtholmeebkgpjjaaE
import Derived.Test.YtholmeebkgpjjaaPs
namespace Go.Proofs.Ytholmeebkgpjjaa
open Go.RowKit
attribute [local go_sem ↓] Go.wp_at_zero Go.wp_at_succ
set_option linter.unusedVariables false
set_option linter.unusedSimpArgs false

def cmpV (x y : Int) : Int := if x < y then -1 else if y < x then 1 else 0
theorem nan_any (x : Int) (w : World) : Calls Try.prog 45 #[.int .i64 x] w fun e w' => e = .returned (.bool false) ∧ w = w' := by
  go_enter Try.func45, Try.ntmps45
  go_wp2
  go_ret
  exact ⟨by simp, rfl⟩
set_option maxHeartbeats 1000000 in
theorem cmp_any (x y : Int) (w : World) : Calls Try.prog 36 #[.int .i64 x, .int .i64 y] w fun e w' => e = .returned (.int .i64 (cmpV x y)) ∧ w = w' := by
  by_cases h1 : x < y
  · have e : cmpV x y = -1 := by unfold cmpV; rw [if_pos h1]
    rw [e]
    go_enter Try.func36, Try.ntmps36
    go_wp2_with (first | (go_at_call 45; refine (nan_any _ _).mono ?_; rintro e w' ⟨rfl, rfl⟩))
    go_ret
    exact ⟨rfl, rfl⟩
  · by_cases h2 : y < x
    · have e : cmpV x y = 1 := by unfold cmpV; rw [if_neg h1, if_pos h2]
      rw [e]
      go_enter Try.func36, Try.ntmps36
      go_wp2_with (first | (go_at_call 45; refine (nan_any _ _).mono ?_; rintro e w' ⟨rfl, rfl⟩))
      go_ret
      exact ⟨rfl, rfl⟩
    · have e : cmpV x y = 0 := by unfold cmpV; rw [if_neg h1, if_neg h2]
      rw [e]
      go_enter Try.func36, Try.ntmps36
      go_wp2_with (first | (go_at_call 45; refine (nan_any _ _).mono ?_; rintro e w' ⟨rfl, rfl⟩))
      go_ret
      exact ⟨rfl, rfl⟩

set_option maxHeartbeats 1000000 in
theorem dead_any (l : List Tk) (i j p : Nat) (v : Value) (w : World) (hi : i < l.length) (hj : j < l.length) (hm : l.length ≤ 16) (hv : TsAt w v l) (hp : w.cell? ⟨p, 0, none⟩ = some v) :
    Calls Try.prog 35 #[.int .i64 i, .int .i64 j, .pointer (some ⟨p, 0, none⟩)] w fun e w' => e = .returned (.int .i64 (cmpV (dl l i) (dl l j))) ∧ ∃ n, w' = w.drewN n := by
  obtain ⟨b, off, cap, rfl, hc⟩ := hv.at (by omega)
  have ci := (hc i hi).2.2.2.2
  have cj := (hc j hj).2.2.2.2
  clear hc
  unfold dl
  generalize (l.getD i tk0).dead = x at *
  generalize (l.getD j tk0).dead = y at *
  have i1 : (0 : Int) ≤ (i : Int) := by omega
  have i2 : (i : Int) < (l.length : Int) := by omega
  have j1 : (0 : Int) ≤ (j : Int) := by omega
  have j2 : (j : Int) < (l.length : Int) := by omega
  go_enter Try.func35, Try.ntmps35
  go_wp2_with fail
  go_quiet ((go_at_call 36; exact Calls.quiet_of_same ((cmp_any _ _ _).mono fun _ _ h => ⟨h.1, h.2.symm⟩)))
  go_wp2
  go_ret
  exact ⟨rfl, _, rfl⟩
end Go.Proofs.Ytholmeebkgpjjaa
