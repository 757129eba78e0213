/-
  DERIVED. GIVEN WITH THE SEED: THE CARDS: each row of YtcgbfhpmkpglkaaGreatDoorRows.lean that lists a variable, with what it lists TIED to the program's text (the seventh form; the later family's looks); each row that meets fmt, with fmt's text TOLD by the authors' own Lean function (tested against real Go, not proved from fmt's source: count such statements apart). THE CARD IS WHAT COUNTS. Prove the row's statement (the work); the ties are given (YtcgbfhpmkpglkaaGreatDoorTie.lean); close each card by the builder's one call (the guide's Derived/Test/ToyasCard.lean, 'card_holds'). Laid BY PROGRAM, IN A SANDBOX (cutbox-door.mjs). By AI agents, Wed Nov 11 2026. No macro, syntax, notation, axiom, sorry.
-/
import Derived.Test.YtcgbfhpmkpglkaaGreatDoorRows
import GoSem.ClaimSeven
namespace Go.Proofs.YtcgbfhpmkpglkaaGreatDoor
namespace Rows

/-- THE TIED CARD OF 'plantwrightlaw.CodeRun'. -/
def codeRunCard : Claim7 := { stood := { row := codeRunRow, standIns := [], harness := (true, "fb9541895c7636c58c8e7d8f367f43f09601a712b3e29fbbbf369531d24c7481"), looks := false }, kinds := [], alts := [], laidByText := true, laidKinds := [.data], laidTests := true, laidLooks := .later }
def CodeRunCardSaid : Prop := Claim7.holds Tryz.pinned (.plain (OpenSpec.ofChange codeRunSpec)) codeRunCard

/-- THE TIED CARD OF 'plantwrightkeep.CodeBounded'. -/
def codeBoundedCard : Claim7 := { stood := { row := codeBoundedRow, standIns := [], harness := (true, "fb9541895c7636c58c8e7d8f367f43f09601a712b3e29fbbbf369531d24c7481"), looks := false }, kinds := [], alts := [], laidByText := true, laidKinds := [.data], laidTests := true, laidLooks := .later }
def CodeBoundedCardSaid : Prop := Claim7.holds Tryz.pinned (.plain (OpenSpec.ofChange codeBoundedSpec)) codeBoundedCard

/-- THE SECOND FORM's CARD OF 'plantwrightlaw.CodeRun'. -/
def codeRunUptoCard : Claim7 := { stood := { row := codeRunUptoRow, standIns := [], harness := (true, "fb9541895c7636c58c8e7d8f367f43f09601a712b3e29fbbbf369531d24c7481"), looks := false }, kinds := [], alts := [], laidByText := true, laidKinds := [.data], laidTests := true, laidLooks := .later }
def CodeRunUptoCardSaid : Prop := Claim7.holds Tryz.pinned (.plain (OpenSpec.upto codeRunSpec)) codeRunUptoCard

/-- THE SECOND FORM's CARD OF 'plantwrightkeep.CodeBounded'. -/
def codeBoundedUptoCard : Claim7 := { stood := { row := codeBoundedUptoRow, standIns := [], harness := (true, "fb9541895c7636c58c8e7d8f367f43f09601a712b3e29fbbbf369531d24c7481"), looks := false }, kinds := [], alts := [], laidByText := true, laidKinds := [.data], laidTests := true, laidLooks := .later }
def CodeBoundedUptoCardSaid : Prop := Claim7.holds Tryz.pinned (.plain (OpenSpec.upto codeBoundedSpec)) codeBoundedUptoCard
end Rows
end Go.Proofs.YtcgbfhpmkpglkaaGreatDoor
