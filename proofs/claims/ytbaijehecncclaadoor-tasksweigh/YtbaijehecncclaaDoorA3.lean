/- mayFields, where the order of evaluation is drawn; mayInstr. -/
import Derived.Test.YtbaijehecncclaaDoorA2
namespace Go.Proofs.YtbaijehecncclaaDoor
open Go.RowKit
attribute [local go_sem ↓] Go.wp_at_zero Go.wp_at_succ
set_option linter.unusedVariables false
set_option linter.unusedSimpArgs false

set_option maxHeartbeats 2000000 in
theorem fields_jump (d a b c : Int) (hd : d = 11 ∨ d = 12) (l : List (Int × Nat)) (fn n i o : Nat) (w : World) (hO : Ov w o l fn n) (hf : fn ≤ 1000000000000) (hl : l.length ≤ 1000000000000) (hi : i ≤ 1000000000000) (hn : n ≤ 1000000000000) :
    Calls Tryd.prog 35 #[.pointer (some ⟨o, 0, none⟩), .int .i64 i, .agg #[.int .i64 d, .int .i64 a, .int .i64 b, .int .i64 c]] w fun e w' => e = .returned (.bool (fieldsS l fn n i ⟨d, a, b, c⟩)) ∧ w.grownBy w' none := by
  have HO : ∀ ob, Ov (w.alloc ob) o l fn n := fun ob => hO.grown (gr1 _ _)
  have HH : Hid (∀ ob, Ov (w.alloc ob) o l fn n) := HO
  clear hO HO
  rcases hd with rfl | rfl
  · obtain ⟨pb, po, fa, fc, ta, tc, p1, p2, p3⟩ := (HH.out (.cells #[.int .i64 11, .int .i64 a, .int .i64 b, .int .i64 c] 47)).proc
    have ew : wrap64 ((i : Int) + 1) = (i : Int) + 1 := by unfold wrap64; omega
    go_enter Tryd.func35, Tryd.ntmps35
    go_wp2
    go_quiet (first | (go_at_call 42; exact Calls.quiet_of_same ((within_any _ _ _ _).mono fun _ _ h => ⟨h.1, h.2.symm⟩)))
    go_wp2
    go_ret
    refine ⟨?_, gr_drewN (gr1 _ _) _⟩
    simp [fieldsS, ew, IntWalk.i64_left]
  · obtain ⟨pb, po, fa, fc, ta, tc, p1, p2, p3⟩ := (HH.out (.cells #[.int .i64 12, .int .i64 a, .int .i64 b, .int .i64 c] 47)).proc
    have ew : wrap64 ((i : Int) + 1) = (i : Int) + 1 := by unfold wrap64; omega
    go_enter Tryd.func35, Tryd.ntmps35
    go_wp2
    go_quiet (first | (go_at_call 42; exact Calls.quiet_of_same ((within_any _ _ _ _).mono fun _ _ h => ⟨h.1, h.2.symm⟩)))
    go_wp2
    go_ret
    refine ⟨?_, gr_drewN (gr1 _ _) _⟩
    simp [fieldsS, ew, IntWalk.i64_left]

end Go.Proofs.YtbaijehecncclaaDoor
