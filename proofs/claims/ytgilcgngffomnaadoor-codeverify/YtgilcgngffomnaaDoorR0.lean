/- The document's pin. -/
import Derived.Test.YtgilcgngffomnaaDoorM
namespace Go.Proofs.YtgilcgngffomnaaDoor
open Go.RowKit
attribute [local go_sem ↓] Go.wp_at_zero Go.wp_at_succ

theorem pin_any (s : ByteArray) (k : Int) (w : World) : Calls Tryd.prog 36 #[.string s, .int .i64 k] w fun e w' => e = .returned (.agg #[.string s, .int .i64 k]) ∧ w' = w.alloc (.cells #[.string s, .int .i64 k] 82) := by
  go_enter Tryd.func36, Tryd.ntmps36
  go_wp2
  refine bodyPost_ret (v := .agg #[.string s, .int .i64 k]) (by simp [results, Tryd.results36, go_sem]) rfl ⟨rfl, ?_⟩
  first | rfl | simp

/-- What is asked of the document's Shape at one name. -/
def RefShapeC (nm : ByteArray) (I O S : List (ByteArray × Int)) : Prop :=
  ∀ w : World, Calls Tryd.prog 29 #[.string nm] w fun e w' => ∃ v, e = .returned (.tuple #[v, .bool true]) ∧ Shp w w' v I O S ∧ w.grownBy w' none
end Go.Proofs.YtgilcgngffomnaaDoor
