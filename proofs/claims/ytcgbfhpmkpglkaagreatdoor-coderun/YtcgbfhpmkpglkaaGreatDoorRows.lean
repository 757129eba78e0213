/-
  NARROWER THAN 'FOR EVERY INPUT', by the rows' own cells (each row's printed sentence says how): CodeRun: laid · CodeBounded: laid.
  DERIVED. THE GIVEN ROWS OF THIS SEAT. 2 by the template 'for every input the law returns true; each argument reads behind the call as it read before'; 0 by the template 'total and deterministic' (their statements: YtcgbfhpmkpglkaaGreatDoorTotals.lean).
  GIVEN WITH THE SEED: the statements are not yours to turn. If you find one false, say at which input.
  Laid BY PROGRAM, IN A SANDBOX (cutbox-rows.mjs): the forced cells as the released guide's own fill.sh prints them over the translation 373a912ff3851fc6… (all of the seat's roots in one cut). By AI agents, Wed Nov 11 2026. No macro, syntax, notation, axiom, sorry.
-/
import Derived.Test.YtcgbfhpmkpglkaaGreatDoorChecked
import GoSem.Claim
import GoSem.ClaimJoined
import GoSem.ClaimMapViews
import Derived.JoinedTies
import Derived.KernelRfl
namespace Go.Proofs.YtcgbfhpmkpglkaaGreatDoor
/- THE CELL 'sum', in the pinned program and in every row, IS THE sha256 OF THE DUMP (.gsa) THAT YtcgbfhpmkpglkaaGreatDoorProg.lean LOADS. Nothing in Lean hashes anything: it is a label: what it is worth is what the hold of that sum in a sandbox is worth. -/
noncomputable def Tryz.pinned : Pinned := { name := "ytcgbfhpmkpglkaagreatdoor", sum := "373a912ff3851fc647947c311a63c02ebcc16fd11d1ddade4fd6da4958209d7f", checked := Tryz.checked }
namespace Rows
def none {H : Type} : Left H := { results := [], args := [] }

/- WHAT THE LISTED PACKAGE-LEVEL VARIABLES READ AS WHEN THE CALL BEGINS. Each datum BY PROGRAM (the guide's laid-datum.mjs) off the statement by which the dump's own 'gosem.cut.vars' lays the variable. In a bare row this is a premise. The card (YtcgbfhpmkpglkaaGreatDoorCards.lean) ties it to the program's text. -/
def laid_plantwright_code_standards {H : Type} : DataW H := .agg [.lit (.string [116, 111, 110]), .lit (.string [116, 111, 102]), .lit (.string [116, 112]), .lit (.string [99, 116, 117]), .lit (.string [99, 116, 100]), .lit (.string [99, 116, 117, 100]), .lit (.string [114, 95, 116, 114, 105, 103]), .lit (.string [102, 95, 116, 114, 105, 103]), .lit (.string [115, 114]), .lit (.string [114, 115]), .lit (.string [114, 97, 109, 112]), .lit (.string [104, 121, 115, 116])]

/-- 'plantwrightlaw.CodeRun': WHATEVER THE INPUT: true; the input reads as it did. -/
def codeRunSpec : ChangeSpec := { name := "codeRun", fn := fun _ => fun
  | [d1, d2, d3, d4] => { results := [.lit (.bool true)], args := [d1, d2, d3, d4] }
  | _ => none }
def codeRunRow : OpenClaim := { program := "ytcgbfhpmkpglkaagreatdoor", sum := "373a912ff3851fc647947c311a63c02ebcc16fd11d1ddade4fd6da4958209d7f", func := "plantwright/plantwrightlaw.CodeRun", spec := "codeRun", unfollowed := true, recurses := true, named := ["plantwright/code.standards"], apart := false, laid := [("plantwright/code.standards", laid_plantwright_code_standards)] }
def CodeRunSaid : Prop := codeRunRow.holds Tryz.pinned (OpenSpec.ofChange codeRunSpec)

/-- ITS FALSE NEIGHBOUR: 'it returns false'. Refute it at one input. -/
def codeRunWrong : ChangeSpec := { name := "codeRun", fn := fun _ => fun
  | [d1, d2, d3, d4] => { results := [.lit (.bool false)], args := [d1, d2, d3, d4] }
  | _ => none }
def CodeRunWrongFalsely : Prop := codeRunRow.holds Tryz.pinned (OpenSpec.ofChange codeRunWrong)

/-- 'plantwrightkeep.CodeBounded': WHATEVER THE INPUT: true; the input reads as it did. -/
def codeBoundedSpec : ChangeSpec := { name := "codeBounded", fn := fun _ => fun
  | [d1, d2, d3, d4] => { results := [.lit (.bool true)], args := [d1, d2, d3, d4] }
  | _ => none }
def codeBoundedRow : OpenClaim := { program := "ytcgbfhpmkpglkaagreatdoor", sum := "373a912ff3851fc647947c311a63c02ebcc16fd11d1ddade4fd6da4958209d7f", func := "plantwright/plantwrightkeep.CodeBounded", spec := "codeBounded", unfollowed := true, recurses := true, named := ["plantwright/code.standards"], apart := false, laid := [("plantwright/code.standards", laid_plantwright_code_standards)] }
def CodeBoundedSaid : Prop := codeBoundedRow.holds Tryz.pinned (OpenSpec.ofChange codeBoundedSpec)

/-- ITS FALSE NEIGHBOUR: 'it returns false'. Refute it at one input. -/
def codeBoundedWrong : ChangeSpec := { name := "codeBounded", fn := fun _ => fun
  | [d1, d2, d3, d4] => { results := [.lit (.bool false)], args := [d1, d2, d3, d4] }
  | _ => none }
def CodeBoundedWrongFalsely : Prop := codeBoundedRow.holds Tryz.pinned (OpenSpec.ofChange codeBoundedWrong)

/- THE SECOND FORM. 'bulk': how many values and letters a reading holds, each counted each time it is reached (what is shared counts as often as it is met; a slice's spare places count too). A statement '..UptoSaid' is the law's where the arguments, and the package variables that the reading takes, are together of bulk at most 1048576: NARROWER than '..Said'. Prove '..Said' where nothing that the law and all that it calls make is longer than what came in: it says more and counts as full. Else prove '..UptoSaid'. A law counts once. -/
mutual
def uptoBulk {H : Type} : DataW H → Nat
  | .lit (.string bytes) => bytes.length + 1
  | .lit _ => 1
  | .nil => 1
  | .ptr d => uptoBulk d + 1
  | .slice elems spare => uptoBulkAll elems + uptoBulkAll spare + 1
  | .agg parts => uptoBulkAll parts + 1
  | .iface _ d => uptoBulk d + 1
  | .map entries => uptoBulkEntries entries + 1
  | .held _ => 1
def uptoBulkAll {H : Type} : List (DataW H) → Nat
  | [] => 0
  | d :: r => uptoBulk d + uptoBulkAll r
def uptoBulkEntries {H : Type} : List (Lit × DataW H) → Nat
  | [] => 0
  | x :: r => uptoBulkEntry x + uptoBulkEntries r
def uptoBulkEntry {H : Type} : Lit × DataW H → Nat
  | (.string bytes, d) => bytes.length + uptoBulk d + 1
  | (_, d) => uptoBulk d + 1
 end
def uptoSmall : (H : Type) → List (DataW H) → Bool := fun _ ds => decide (uptoBulkAll ds ≤ 1048576)
def OpenSpec.upto (s : _root_.Go.ChangeSpec) : _root_.Go.OpenSpec := { _root_.Go.OpenSpec.ofChange s with cond := some uptoSmall }

/-- 'plantwrightlaw.CodeRun', WHERE WHAT IT READS IS OF BULK AT MOST 1048576: true; the input reads as it did. -/
def codeRunUptoRow : OpenClaim := { program := "ytcgbfhpmkpglkaagreatdoor", sum := "373a912ff3851fc647947c311a63c02ebcc16fd11d1ddade4fd6da4958209d7f", func := "plantwright/plantwrightlaw.CodeRun", spec := "codeRun", unfollowed := true, recurses := true, named := ["plantwright/code.standards"], apart := false, laid := [("plantwright/code.standards", laid_plantwright_code_standards)], narrowed := true }
def CodeRunUptoSaid : Prop := codeRunUptoRow.holds Tryz.pinned (OpenSpec.upto codeRunSpec)

/-- 'plantwrightkeep.CodeBounded', WHERE WHAT IT READS IS OF BULK AT MOST 1048576: true; the input reads as it did. -/
def codeBoundedUptoRow : OpenClaim := { program := "ytcgbfhpmkpglkaagreatdoor", sum := "373a912ff3851fc647947c311a63c02ebcc16fd11d1ddade4fd6da4958209d7f", func := "plantwright/plantwrightkeep.CodeBounded", spec := "codeBounded", unfollowed := true, recurses := true, named := ["plantwright/code.standards"], apart := false, laid := [("plantwright/code.standards", laid_plantwright_code_standards)], narrowed := true }
def CodeBoundedUptoSaid : Prop := codeBoundedUptoRow.holds Tryz.pinned (OpenSpec.upto codeBoundedSpec)

end Rows
end Go.Proofs.YtcgbfhpmkpglkaaGreatDoor
