/- The document's pin. -/
import Derived.Test.YtbaijehecncclaaDoorM
namespace Go.Proofs.YtbaijehecncclaaDoor
open Go.RowKit
attribute [local go_sem ↓] Go.wp_at_zero Go.wp_at_succ

theorem pin_any (s : ByteArray) (k : Int) (w : World) : Calls Tryd.prog 33 #[.string s, .int .i64 k] w fun e w' => e = .returned (.agg #[.string s, .int .i64 k]) ∧ w' = w.alloc (.cells #[.string s, .int .i64 k] 76) := by
  go_enter Tryd.func33, Tryd.ntmps33
  go_wp2
  refine bodyPost_ret (v := .agg #[.string s, .int .i64 k]) (by simp [results, Tryd.results33, go_sem]) rfl ⟨rfl, ?_⟩
  first | rfl | simp

/-- What is asked of the document's Shape at one name. -/
def RefShapeC (nm : ByteArray) (I O S : List (ByteArray × Int)) : Prop :=
  ∀ w : World, Calls Tryd.prog 26 #[.string nm] w fun e w' => ∃ v, e = .returned (.tuple #[v, .bool true]) ∧ Shp w w' v I O S ∧ w.grownBy w' none
end Go.Proofs.YtbaijehecncclaaDoor
