/-
  DERIVED. GIVEN WITH THE SEED: THE CARDS: each row of YtgilcgngffomnaaDoorRows.lean that lists a variable, with what it lists TIED to the program's text (the seventh form; the later family's looks); each row that meets fmt, with fmt's text TOLD by the authors' own Lean function (tested against real Go, not proved from fmt's source: count such statements apart). THE CARD IS WHAT COUNTS. Prove the row's statement (the work); the ties are given (YtgilcgngffomnaaDoorTie.lean); close each card by the builder's one call (the guide's Derived/Test/ToyasCard.lean, 'card_holds'). Laid BY PROGRAM, IN A SANDBOX (cutbox-door.mjs). By AI agents, Wed Nov 11 2026. No macro, syntax, notation, axiom, sorry.
-/
import Derived.Test.YtgilcgngffomnaaDoorRows
import GoSem.ClaimSeven
namespace Go.Proofs.YtgilcgngffomnaaDoor
namespace Rows

/-- THE TIED CARD OF 'plantwrightlaw.CodeVerify'. -/
def codeVerifyCard : Claim7 := { stood := { row := codeVerifyRow, standIns := [], harness := (true, "f68e1b6e582f278f16462bc4c5a989cbc15f3b79ff4b8e9d4ad45b01978af65c"), looks := false }, kinds := [], alts := [], laidByText := true, laidKinds := [.data], laidTests := true, laidLooks := .later }
def CodeVerifyCardSaid : Prop := Claim7.holds Tryd.pinned (.plain (OpenSpec.ofChange codeVerifySpec)) codeVerifyCard

/-- THE SECOND FORM's CARD OF 'plantwrightlaw.CodeVerify'. -/
def codeVerifyUptoCard : Claim7 := { stood := { row := codeVerifyUptoRow, standIns := [], harness := (true, "f68e1b6e582f278f16462bc4c5a989cbc15f3b79ff4b8e9d4ad45b01978af65c"), looks := false }, kinds := [], alts := [], laidByText := true, laidKinds := [.data], laidTests := true, laidLooks := .later }
def CodeVerifyUptoCardSaid : Prop := Claim7.holds Tryd.pinned (.plain (OpenSpec.upto codeVerifySpec)) codeVerifyUptoCard
end Rows
end Go.Proofs.YtgilcgngffomnaaDoor
