/-
  DERIVED. GIVEN WITH THE SEED: THE CARDS: each row of YtdcoidmbainkmaaGreatDoorRows.lean that lists a variable, with what it lists TIED to the program's text (the seventh form; the later family's looks); each row that meets fmt, with fmt's text TOLD by the authors' own Lean function (tested against real Go, not proved from fmt's source: count such statements apart). THE CARD IS WHAT COUNTS. Prove the row's statement (the work); the ties are given (YtdcoidmbainkmaaGreatDoorTie.lean); close each card by the builder's one call (the guide's Derived/Test/ToyasCard.lean, 'card_holds'). Laid BY PROGRAM, IN A SANDBOX (cutbox-door.mjs). By AI agents, Wed Nov 11 2026. No macro, syntax, notation, axiom, sorry.
-/
import Derived.Test.YtdcoidmbainkmaaGreatDoorRows
import GoSem.ClaimSeven
namespace Go.Proofs.YtdcoidmbainkmaaGreatDoor
namespace Rows

/-- THE TIED CARD OF 'plantwrightkeep.SourceBack'. -/
def sourceBackCard : Claim7 := { stood := { row := sourceBackRow, standIns := [], harness := (true, "fc1fffb7019b1433bf3687935ae8e5dc48d9e8df937147a35fa664bbd5a56839"), looks := true }, kinds := [], alts := [], laidByText := true, laidKinds := [.data, .data, .data, .data, .sentinel, .sentinel, .data, .data, .data, .data, .data, .data, .pinned, .pinned], laidTests := true, laidLooks := .later }
def SourceBackCardSaid : Prop := Claim7.holds Tryz.pinned (.plain (OpenSpec.ofChange sourceBackSpec)) sourceBackCard

/-- THE TIED CARD OF 'plantwrightkeep.SourceCase'. -/
def sourceCaseCard : Claim7 := { stood := { row := sourceCaseRow, standIns := [], harness := (true, "fc1fffb7019b1433bf3687935ae8e5dc48d9e8df937147a35fa664bbd5a56839"), looks := true }, kinds := [], alts := [], laidByText := true, laidKinds := [.data, .data, .data, .data, .sentinel, .sentinel, .data, .data, .data, .data, .data, .data, .pinned, .pinned], laidTests := true, laidLooks := .later }
def SourceCaseCardSaid : Prop := Claim7.holds Tryz.pinned (.plain (OpenSpec.ofChange sourceCaseSpec)) sourceCaseCard

/-- THE SECOND FORM's CARD OF 'plantwrightkeep.SourceBack'. -/
def sourceBackUptoCard : Claim7 := { stood := { row := sourceBackUptoRow, standIns := [], harness := (true, "fc1fffb7019b1433bf3687935ae8e5dc48d9e8df937147a35fa664bbd5a56839"), looks := true }, kinds := [], alts := [], laidByText := true, laidKinds := [.data, .data, .data, .data, .sentinel, .sentinel, .data, .data, .data, .data, .data, .data, .pinned, .pinned], laidTests := true, laidLooks := .later }
def SourceBackUptoCardSaid : Prop := Claim7.holds Tryz.pinned (.plain (OpenSpec.upto sourceBackSpec)) sourceBackUptoCard

/-- THE SECOND FORM's CARD OF 'plantwrightkeep.SourceCase'. -/
def sourceCaseUptoCard : Claim7 := { stood := { row := sourceCaseUptoRow, standIns := [], harness := (true, "fc1fffb7019b1433bf3687935ae8e5dc48d9e8df937147a35fa664bbd5a56839"), looks := true }, kinds := [], alts := [], laidByText := true, laidKinds := [.data, .data, .data, .data, .sentinel, .sentinel, .data, .data, .data, .data, .data, .data, .pinned, .pinned], laidTests := true, laidLooks := .later }
def SourceCaseUptoCardSaid : Prop := Claim7.holds Tryz.pinned (.plain (OpenSpec.upto sourceCaseSpec)) sourceCaseUptoCard
end Rows
end Go.Proofs.YtdcoidmbainkmaaGreatDoor
