/-
  DERIVED. GIVEN WITH THE SEED: THE CARDS: each row of YtcoglmaiahpooaaGreatDoorRows.lean that lists a variable, with what it lists TIED to the program's text (the seventh form; the later family's looks); each row that meets fmt, with fmt's text TOLD by the authors' own Lean function (tested against real Go, not proved from fmt's source: count such statements apart). THE CARD IS WHAT COUNTS. Prove the row's statement (the work); the ties are given (YtcoglmaiahpooaaGreatDoorTie.lean); close each card by the builder's one call (the guide's Derived/Test/ToyasCard.lean, 'card_holds'). Laid BY PROGRAM, IN A SANDBOX (cutbox-door.mjs). By AI agents, Wed Nov 11 2026. No macro, syntax, notation, axiom, sorry.
-/
import Derived.Test.YtcoglmaiahpooaaGreatDoorRows
import GoSem.ClaimSeven
namespace Go.Proofs.YtcoglmaiahpooaaGreatDoor
namespace Rows

/-- THE TIED CARD OF 'plantwrightlaw.SourceShow'. -/
def sourceShowCard : Claim7 := { stood := { row := sourceShowRow, standIns := [], harness := (true, "22d89db865233c1587b0df6f4f42dcdd823c6d7a1c60f441906a98b8d511da91"), looks := true }, kinds := [], alts := [], laidByText := true, laidKinds := [.data, .data, .data, .data, .data, .data, .data, .data, .data, .pinned, .pinned], laidTests := true, laidLooks := .later }
def SourceShowCardSaid : Prop := Claim7.holds Tryz.pinned (.plain (OpenSpec.ofChange sourceShowSpec)) sourceShowCard

/-- THE TIED CARD OF 'plantwrightlaw.CheckExact'. -/
def checkExactCard : Claim7 := { stood := { row := checkExactRow, standIns := [], harness := (true, "22d89db865233c1587b0df6f4f42dcdd823c6d7a1c60f441906a98b8d511da91"), looks := true }, kinds := [], alts := [], laidByText := true, laidKinds := [.data, .data], laidTests := true, laidLooks := .later }
def CheckExactCardSaid : Prop := Claim7.holds Tryz.pinned (.plain (OpenSpec.ofChange checkExactSpec)) checkExactCard

/-- THE TIED CARD OF 'plantwrightkeep.CheckKeeps'. -/
def checkKeepsCard : Claim7 := { stood := { row := checkKeepsRow, standIns := [], harness := (true, "22d89db865233c1587b0df6f4f42dcdd823c6d7a1c60f441906a98b8d511da91"), looks := true }, kinds := [], alts := [], laidByText := true, laidKinds := [.data, .data], laidTests := true, laidLooks := .later }
def CheckKeepsCardSaid : Prop := Claim7.holds Tryz.pinned (.plain (OpenSpec.ofChange checkKeepsSpec)) checkKeepsCard

/-- THE SECOND FORM's CARD OF 'plantwrightlaw.SourceShow'. -/
def sourceShowUptoCard : Claim7 := { stood := { row := sourceShowUptoRow, standIns := [], harness := (true, "22d89db865233c1587b0df6f4f42dcdd823c6d7a1c60f441906a98b8d511da91"), looks := true }, kinds := [], alts := [], laidByText := true, laidKinds := [.data, .data, .data, .data, .data, .data, .data, .data, .data, .pinned, .pinned], laidTests := true, laidLooks := .later }
def SourceShowUptoCardSaid : Prop := Claim7.holds Tryz.pinned (.plain (OpenSpec.upto sourceShowSpec)) sourceShowUptoCard

/-- THE SECOND FORM's CARD OF 'plantwrightlaw.CheckExact'. -/
def checkExactUptoCard : Claim7 := { stood := { row := checkExactUptoRow, standIns := [], harness := (true, "22d89db865233c1587b0df6f4f42dcdd823c6d7a1c60f441906a98b8d511da91"), looks := true }, kinds := [], alts := [], laidByText := true, laidKinds := [.data, .data], laidTests := true, laidLooks := .later }
def CheckExactUptoCardSaid : Prop := Claim7.holds Tryz.pinned (.plain (OpenSpec.upto checkExactSpec)) checkExactUptoCard

/-- THE SECOND FORM's CARD OF 'plantwrightkeep.CheckKeeps'. -/
def checkKeepsUptoCard : Claim7 := { stood := { row := checkKeepsUptoRow, standIns := [], harness := (true, "22d89db865233c1587b0df6f4f42dcdd823c6d7a1c60f441906a98b8d511da91"), looks := true }, kinds := [], alts := [], laidByText := true, laidKinds := [.data, .data], laidTests := true, laidLooks := .later }
def CheckKeepsUptoCardSaid : Prop := Claim7.holds Tryz.pinned (.plain (OpenSpec.upto checkKeepsSpec)) checkKeepsUptoCard
end Rows
end Go.Proofs.YtcoglmaiahpooaaGreatDoor
