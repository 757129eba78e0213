/-
  DERIVED. GIVEN WITH THE SEED: THE CARDS: each row of YtlbipcecdcmgdaaDoorRows.lean that lists a variable, with what it lists TIED to the program's text (the seventh form; the later family's looks); each row that meets fmt, with fmt's text TOLD by the authors' own Lean function (tested against real Go, not proved from fmt's source: count such statements apart). THE CARD IS WHAT COUNTS. Prove the row's statement (the work); the ties are given (YtlbipcecdcmgdaaDoorTie.lean); close each card by the builder's one call (the guide's Derived/Test/ToyasCard.lean, 'card_holds'). Laid BY PROGRAM, IN A SANDBOX (cutbox-door.mjs). By AI agents, Wed Nov 11 2026. No macro, syntax, notation, axiom, sorry.
-/
import Derived.Test.YtlbipcecdcmgdaaDoorRows
import GoSem.ClaimSeven
namespace Go.Proofs.YtlbipcecdcmgdaaDoor
namespace Rows

/-- THE TIED CARD OF 'plantwrightlaw.RetainRecord'. -/
def retainRecordCard : Claim7 := { stood := { row := retainRecordRow, standIns := [], harness := (true, "ca09bdfe0ffac0fc2cbe2dc17b254bacfff9f139472fe2040d999b0becbc8e73"), looks := false }, kinds := [], alts := [], laidByText := true, laidKinds := [.data], laidTests := true, laidLooks := .later }
def RetainRecordCardSaid : Prop := Claim7.holds Tryd.pinned (.plain (OpenSpec.ofChange retainRecordSpec)) retainRecordCard

/-- THE TIED CARD OF 'plantwrightlaw.RetainRead'. -/
def retainReadCard : Claim7 := { stood := { row := retainReadRow, standIns := [], harness := (true, "ca09bdfe0ffac0fc2cbe2dc17b254bacfff9f139472fe2040d999b0becbc8e73"), looks := false }, kinds := [], alts := [], laidByText := true, laidKinds := [.data], laidTests := true, laidLooks := .later }
def RetainReadCardSaid : Prop := Claim7.holds Tryd.pinned (.plain (OpenSpec.ofChange retainReadSpec)) retainReadCard

/-- THE TIED CARD OF 'plantwrightlaw.RetainNewest'. -/
def retainNewestCard : Claim7 := { stood := { row := retainNewestRow, standIns := [], harness := (true, "ca09bdfe0ffac0fc2cbe2dc17b254bacfff9f139472fe2040d999b0becbc8e73"), looks := false }, kinds := [], alts := [], laidByText := true, laidKinds := [.data], laidTests := true, laidLooks := .later }
def RetainNewestCardSaid : Prop := Claim7.holds Tryd.pinned (.plain (OpenSpec.ofChange retainNewestSpec)) retainNewestCard

/-- THE TIED CARD OF 'plantwrightlaw.RetainSave'. -/
def retainSaveCard : Claim7 := { stood := { row := retainSaveRow, standIns := [], harness := (true, "ca09bdfe0ffac0fc2cbe2dc17b254bacfff9f139472fe2040d999b0becbc8e73"), looks := false }, kinds := [], alts := [], laidByText := true, laidKinds := [.data], laidTests := true, laidLooks := .later }
def RetainSaveCardSaid : Prop := Claim7.holds Tryd.pinned (.plain (OpenSpec.ofChange retainSaveSpec)) retainSaveCard

/-- THE TIED CARD OF 'plantwrightkeep.RetainTorn'. -/
def retainTornCard : Claim7 := { stood := { row := retainTornRow, standIns := [], harness := (true, "ca09bdfe0ffac0fc2cbe2dc17b254bacfff9f139472fe2040d999b0becbc8e73"), looks := false }, kinds := [], alts := [], laidByText := true, laidKinds := [.data], laidTests := true, laidLooks := .later }
def RetainTornCardSaid : Prop := Claim7.holds Tryd.pinned (.plain (OpenSpec.ofChange retainTornSpec)) retainTornCard

/-- THE TIED CARD OF 'plantwrightkeep.RetainFlip'. -/
def retainFlipCard : Claim7 := { stood := { row := retainFlipRow, standIns := [], harness := (true, "ca09bdfe0ffac0fc2cbe2dc17b254bacfff9f139472fe2040d999b0becbc8e73"), looks := false }, kinds := [], alts := [], laidByText := true, laidKinds := [.data], laidTests := true, laidLooks := .later }
def RetainFlipCardSaid : Prop := Claim7.holds Tryd.pinned (.plain (OpenSpec.ofChange retainFlipSpec)) retainFlipCard

/-- THE SECOND FORM's CARD OF 'plantwrightlaw.RetainRecord'. -/
def retainRecordUptoCard : Claim7 := { stood := { row := retainRecordUptoRow, standIns := [], harness := (true, "ca09bdfe0ffac0fc2cbe2dc17b254bacfff9f139472fe2040d999b0becbc8e73"), looks := false }, kinds := [], alts := [], laidByText := true, laidKinds := [.data], laidTests := true, laidLooks := .later }
def RetainRecordUptoCardSaid : Prop := Claim7.holds Tryd.pinned (.plain (OpenSpec.upto retainRecordSpec)) retainRecordUptoCard

/-- THE SECOND FORM's CARD OF 'plantwrightlaw.RetainRead'. -/
def retainReadUptoCard : Claim7 := { stood := { row := retainReadUptoRow, standIns := [], harness := (true, "ca09bdfe0ffac0fc2cbe2dc17b254bacfff9f139472fe2040d999b0becbc8e73"), looks := false }, kinds := [], alts := [], laidByText := true, laidKinds := [.data], laidTests := true, laidLooks := .later }
def RetainReadUptoCardSaid : Prop := Claim7.holds Tryd.pinned (.plain (OpenSpec.upto retainReadSpec)) retainReadUptoCard

/-- THE SECOND FORM's CARD OF 'plantwrightlaw.RetainNewest'. -/
def retainNewestUptoCard : Claim7 := { stood := { row := retainNewestUptoRow, standIns := [], harness := (true, "ca09bdfe0ffac0fc2cbe2dc17b254bacfff9f139472fe2040d999b0becbc8e73"), looks := false }, kinds := [], alts := [], laidByText := true, laidKinds := [.data], laidTests := true, laidLooks := .later }
def RetainNewestUptoCardSaid : Prop := Claim7.holds Tryd.pinned (.plain (OpenSpec.upto retainNewestSpec)) retainNewestUptoCard

/-- THE SECOND FORM's CARD OF 'plantwrightlaw.RetainSave'. -/
def retainSaveUptoCard : Claim7 := { stood := { row := retainSaveUptoRow, standIns := [], harness := (true, "ca09bdfe0ffac0fc2cbe2dc17b254bacfff9f139472fe2040d999b0becbc8e73"), looks := false }, kinds := [], alts := [], laidByText := true, laidKinds := [.data], laidTests := true, laidLooks := .later }
def RetainSaveUptoCardSaid : Prop := Claim7.holds Tryd.pinned (.plain (OpenSpec.upto retainSaveSpec)) retainSaveUptoCard

/-- THE SECOND FORM's CARD OF 'plantwrightkeep.RetainTorn'. -/
def retainTornUptoCard : Claim7 := { stood := { row := retainTornUptoRow, standIns := [], harness := (true, "ca09bdfe0ffac0fc2cbe2dc17b254bacfff9f139472fe2040d999b0becbc8e73"), looks := false }, kinds := [], alts := [], laidByText := true, laidKinds := [.data], laidTests := true, laidLooks := .later }
def RetainTornUptoCardSaid : Prop := Claim7.holds Tryd.pinned (.plain (OpenSpec.upto retainTornSpec)) retainTornUptoCard

/-- THE SECOND FORM's CARD OF 'plantwrightkeep.RetainFlip'. -/
def retainFlipUptoCard : Claim7 := { stood := { row := retainFlipUptoRow, standIns := [], harness := (true, "ca09bdfe0ffac0fc2cbe2dc17b254bacfff9f139472fe2040d999b0becbc8e73"), looks := false }, kinds := [], alts := [], laidByText := true, laidKinds := [.data], laidTests := true, laidLooks := .later }
def RetainFlipUptoCardSaid : Prop := Claim7.holds Tryd.pinned (.plain (OpenSpec.upto retainFlipSpec)) retainFlipUptoCard
end Rows
end Go.Proofs.YtlbipcecdcmgdaaDoor
