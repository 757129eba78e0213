/- The document's step. -/
import Derived.Test.YtefekafpmnaeoaaX1
import Derived.Test.YtefekafpmnaeoaaX2
namespace Go.Proofs.Ytefekafpmnaeoaa
open Go.RowKit
attribute [local go_sem ↓] Go.wp_at_zero Go.wp_at_succ
set_option linter.unusedVariables false
set_option linter.unusedSimpArgs false

theorem stepped_any (se de : Int) (l : List (Int × List Int)) (T : Tr) (told : List Int) (key : Bool) (v s t : Value) (w : World) (hv : rdVs w v l) (hs : rd w s T.h) (ht : rd w t told) (hl : OkL l) (hlT : T.h.length ≤ 17592186043904) (hlt : told.length ≤ 17592186043904) :
    Calls Try.prog 15 #[.agg #[.int .i64 se, .int .i64 de, v], trV T s, t, .bool key] w fun e w' => TrE w w' e (stepT se de l T told key) (stepE se de l T told) := by
  obtain ⟨d, f, hh, kk⟩ := T
  cases d with
  | true => exact stepped_true se de l f hh kk told key v s t w hv hs ht hl hlT hlt
  | false => exact stepped_false se de l f hh kk told key v s t w hv hs ht hl hlT hlt
end Go.Proofs.Ytefekafpmnaeoaa
