/- BlockLate without waits. -/
import Derived.Test.YtphnadhkoigegaaO1
import Derived.Test.YtphnadhkoigegaaN
import Derived.Deep.DeepCutAuto
namespace Go.Proofs.Ytphnadhkoigegaa
open Go.RowKit
attribute [local go_sem ↓] Go.wp_at_zero Go.wp_at_succ
set_option linter.unusedSimpArgs false
set_option linter.unusedVariables false

set_option maxRecDepth 10000 in
set_option maxHeartbeats 2000000 in
theorem late_nil (pt bg : Int) (a : Option Addr) (cap : Nat) (w : World) :
    Calls Try.prog 6 #[.int .i64 pt, .int .i64 bg, .slice a 0 cap] w fun e w' => e = .returned (.bool true) ∧ w.grownBy w' none := by
  have hmk := make4
  have hO2 : tonO.length = 2 := rfl
  by_cases h1 : pt < 0
  · go_enter Try.func6, Try.ntmps6
    go_upto_region 3 with fail
    go_region
    all_goals go_wp2_with fail
    all_goals
      refine wp_loop_rounds 1 ?_
      rw [rounds_succ]
      go_wp2_with (first | (go_at_call 9; refine (shapeC_ton _).mono ?_; rintro e w' ⟨v, rfl, ⟨b1, b2, b3, rfl, hb1, hb2, hb3, n12, n13, n23, hB1, hB2, hB3⟩, hg1⟩))
      go_ret
      exact ⟨rfl, gr_alloc ((gr_drew (gr_alloc (gr_alloc (World.grownBy.refl _ _) _) _)).trans hg1) _⟩
  · by_cases h2 : 4294967295 < pt
    · go_enter Try.func6, Try.ntmps6
      go_upto_region 3 with fail
      go_region
      all_goals go_wp2_with fail
      all_goals
        refine wp_loop_rounds 1 ?_
        rw [rounds_succ]
        go_wp2_with (first | (go_at_call 9; refine (shapeC_ton _).mono ?_; rintro e w' ⟨v, rfl, ⟨b1, b2, b3, rfl, hb1, hb2, hb3, n12, n13, n23, hB1, hB2, hB3⟩, hg1⟩))
        go_ret
        exact ⟨rfl, gr_alloc ((gr_drew (gr_alloc (gr_alloc (World.grownBy.refl _ _) _) _)).trans hg1) _⟩
    · go_enter Try.func6, Try.ntmps6
      go_upto_region 3 with fail
      go_region
      all_goals go_wp2_with fail
      all_goals
        refine wp_loop_rounds 1 ?_
        rw [rounds_succ]
        go_wp2_with (first | (go_at_call 9; refine (shapeC_ton _).mono ?_; rintro e w' ⟨v, rfl, ⟨b1, b2, b3, rfl, hb1, hb2, hb3, n12, n13, n23, hB1, hB2, hB3⟩, hg1⟩))
        go_ret
        exact ⟨rfl, gr_alloc ((gr_drew (gr_alloc (gr_alloc (World.grownBy.refl _ _) _) _)).trans hg1) _⟩
end Go.Proofs.Ytphnadhkoigegaa
