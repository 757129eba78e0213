/-
  DERIVED. GIVEN WITH THE SEED: THE CARDS: each row of YtbaijehecncclaaDoorRows.lean that lists a variable, with what it lists TIED to the program's text (the seventh form; the later family's looks); each row that meets fmt, with fmt's text TOLD by the authors' own Lean function (tested against real Go, not proved from fmt's source: count such statements apart). THE CARD IS WHAT COUNTS. Prove the row's statement (the work); the ties are given (YtbaijehecncclaaDoorTie.lean); close each card by the builder's one call (the guide's Derived/Test/ToyasCard.lean, 'card_holds'). Laid BY PROGRAM, IN A SANDBOX (cutbox-door.mjs). By AI agents, Wed Nov 11 2026. No macro, syntax, notation, axiom, sorry.
-/
import Derived.Test.YtbaijehecncclaaDoorRows
import GoSem.ClaimSeven
namespace Go.Proofs.YtbaijehecncclaaDoor
namespace Rows

/-- THE TIED CARD OF 'plantwrightlaw.TasksWeigh'. -/
def tasksWeighCard : Claim7 := { stood := { row := tasksWeighRow, standIns := [], harness := (true, "e54b55f7356469edeb0cb3394c3dda62f76981c384ed61f39abd41eec18763d4"), looks := false }, kinds := [], alts := [], laidByText := true, laidKinds := [.data], laidTests := true, laidLooks := .later }
def TasksWeighCardSaid : Prop := Claim7.holds Tryd.pinned (.plain (OpenSpec.ofChange tasksWeighSpec)) tasksWeighCard

/-- THE SECOND FORM's CARD OF 'plantwrightlaw.TasksWeigh'. -/
def tasksWeighUptoCard : Claim7 := { stood := { row := tasksWeighUptoRow, standIns := [], harness := (true, "e54b55f7356469edeb0cb3394c3dda62f76981c384ed61f39abd41eec18763d4"), looks := false }, kinds := [], alts := [], laidByText := true, laidKinds := [.data], laidTests := true, laidLooks := .later }
def TasksWeighUptoCardSaid : Prop := Claim7.holds Tryd.pinned (.plain (OpenSpec.upto tasksWeighSpec)) tasksWeighUptoCard
end Rows
end Go.Proofs.YtbaijehecncclaaDoor
