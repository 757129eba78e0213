/- Nothing but numbers comes in. -/
import Derived.Test.YtnklkhcldcljaabB0
namespace Go.Proofs.Ytnklkhcldcljaab
open Go.ChangeShapes Go.WideShapes Go.ChangeAt Go.RowKit Go.Lib
theorem in64_of {n : Int} (h : (Lit.int .i64 n).wf = true) : in64 n := by
  simpa [Lit.wf, in64, IntKind.min, IntKind.max, IntKind.signed, IntKind.bits] using h
end Go.Proofs.Ytnklkhcldcljaab
