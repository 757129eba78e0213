/-
  NARROWER THAN 'FOR EVERY INPUT', by the rows' own cells (each row's printed sentence says how): RetainRecord: laid · RetainRead: laid · RetainNewest: laid · RetainSave: laid · RetainTorn: laid · RetainFlip: laid.
  DERIVED. THE GIVEN ROWS OF THIS SEAT. 6 by the template 'for every input the law returns true; each argument reads behind the call as it read before'; 0 by the template 'total and deterministic' (their statements: YtlbipcecdcmgdaaDoorTotals.lean).
  GIVEN WITH THE SEED: the statements are not yours to turn. If you find one false, say at which input.
  Laid BY PROGRAM, IN A SANDBOX (cutbox-rows.mjs): the forced cells as the released guide's own fill.sh prints them over the translation 740fbe481e5a4444… (all of the seat's roots in one cut). By AI agents, Wed Nov 11 2026. No macro, syntax, notation, axiom, sorry.
-/
import Derived.Test.YtlbipcecdcmgdaaDoorChecked
import GoSem.Claim
import GoSem.ClaimJoined
import GoSem.ClaimMapViews
import Derived.JoinedTies
import Derived.KernelRfl
namespace Go.Proofs.YtlbipcecdcmgdaaDoor
/- THE CELL 'sum', in the pinned program and in every row, IS THE sha256 OF THE DUMP (.gsa) THAT YtlbipcecdcmgdaaDoorProg.lean LOADS. Nothing in Lean hashes anything: it is a label: what it is worth is what the hold of that sum in a sandbox is worth. -/
noncomputable def Tryd.pinned : Pinned := { name := "ytlbipcecdcmgdaadoor", sum := "740fbe481e5a4444f3bf4b2879c12923d736f82acb7ff92a22d7d63273e69ff5", checked := Tryd.checked }
namespace Rows
def none {H : Type} : Left H := { results := [], args := [] }

/- WHAT THE LISTED PACKAGE-LEVEL VARIABLES READ AS WHEN THE CALL BEGINS. Each datum BY PROGRAM (the guide's laid-datum.mjs) off the statement by which the dump's own 'gosem.cut.vars' lays the variable. In a bare row this is a premise. The card (YtlbipcecdcmgdaaDoorCards.lean) ties it to the program's text. -/
def laid_plantwright_retain_begin {H : Type} : DataW H := .agg [.lit (.int .u8 80), .lit (.int .u8 87), .lit (.int .u8 82), .lit (.int .u8 49)]

/-- 'plantwrightlaw.RetainRecord': WHATEVER THE INPUT: true; the input reads as it did. -/
def retainRecordSpec : ChangeSpec := { name := "retainRecord", fn := fun _ => fun
  | [d1, d2] => { results := [.lit (.bool true)], args := [d1, d2] }
  | _ => none }
def retainRecordRow : OpenClaim := { program := "ytlbipcecdcmgdaadoor", sum := "740fbe481e5a4444f3bf4b2879c12923d736f82acb7ff92a22d7d63273e69ff5", func := "plantwright/plantwrightlaw.RetainRecord", spec := "retainRecord", unfollowed := true, recurses := true, named := ["plantwright/retain.begin"], apart := false, laid := [("plantwright/retain.begin", laid_plantwright_retain_begin)] }
def RetainRecordSaid : Prop := retainRecordRow.holds Tryd.pinned (OpenSpec.ofChange retainRecordSpec)

/-- ITS FALSE NEIGHBOUR: 'it returns false'. Refute it at one input. -/
def retainRecordWrong : ChangeSpec := { name := "retainRecord", fn := fun _ => fun
  | [d1, d2] => { results := [.lit (.bool false)], args := [d1, d2] }
  | _ => none }
def RetainRecordWrongFalsely : Prop := retainRecordRow.holds Tryd.pinned (OpenSpec.ofChange retainRecordWrong)

/-- 'plantwrightlaw.RetainRead': WHATEVER THE INPUT: true; the input reads as it did. -/
def retainReadSpec : ChangeSpec := { name := "retainRead", fn := fun _ => fun
  | [d] => { results := [.lit (.bool true)], args := [d] }
  | _ => none }
def retainReadRow : OpenClaim := { program := "ytlbipcecdcmgdaadoor", sum := "740fbe481e5a4444f3bf4b2879c12923d736f82acb7ff92a22d7d63273e69ff5", func := "plantwright/plantwrightlaw.RetainRead", spec := "retainRead", named := ["plantwright/retain.begin"], apart := false, laid := [("plantwright/retain.begin", laid_plantwright_retain_begin)] }
def RetainReadSaid : Prop := retainReadRow.holds Tryd.pinned (OpenSpec.ofChange retainReadSpec)

/-- ITS FALSE NEIGHBOUR: 'it returns false'. Refute it at one input. -/
def retainReadWrong : ChangeSpec := { name := "retainRead", fn := fun _ => fun
  | [d] => { results := [.lit (.bool false)], args := [d] }
  | _ => none }
def RetainReadWrongFalsely : Prop := retainReadRow.holds Tryd.pinned (OpenSpec.ofChange retainReadWrong)

/-- 'plantwrightlaw.RetainNewest': WHATEVER THE INPUT: true; the input reads as it did. -/
def retainNewestSpec : ChangeSpec := { name := "retainNewest", fn := fun _ => fun
  | [d1, d2] => { results := [.lit (.bool true)], args := [d1, d2] }
  | _ => none }
def retainNewestRow : OpenClaim := { program := "ytlbipcecdcmgdaadoor", sum := "740fbe481e5a4444f3bf4b2879c12923d736f82acb7ff92a22d7d63273e69ff5", func := "plantwright/plantwrightlaw.RetainNewest", spec := "retainNewest", named := ["plantwright/retain.begin"], apart := false, laid := [("plantwright/retain.begin", laid_plantwright_retain_begin)] }
def RetainNewestSaid : Prop := retainNewestRow.holds Tryd.pinned (OpenSpec.ofChange retainNewestSpec)

/-- ITS FALSE NEIGHBOUR: 'it returns false'. Refute it at one input. -/
def retainNewestWrong : ChangeSpec := { name := "retainNewest", fn := fun _ => fun
  | [d1, d2] => { results := [.lit (.bool false)], args := [d1, d2] }
  | _ => none }
def RetainNewestWrongFalsely : Prop := retainNewestRow.holds Tryd.pinned (OpenSpec.ofChange retainNewestWrong)

/-- 'plantwrightlaw.RetainSave': WHATEVER THE INPUT: true; the input reads as it did. -/
def retainSaveSpec : ChangeSpec := { name := "retainSave", fn := fun _ => fun
  | [d1, d2, d3] => { results := [.lit (.bool true)], args := [d1, d2, d3] }
  | _ => none }
def retainSaveRow : OpenClaim := { program := "ytlbipcecdcmgdaadoor", sum := "740fbe481e5a4444f3bf4b2879c12923d736f82acb7ff92a22d7d63273e69ff5", func := "plantwright/plantwrightlaw.RetainSave", spec := "retainSave", unfollowed := true, recurses := true, named := ["plantwright/retain.begin"], apart := false, laid := [("plantwright/retain.begin", laid_plantwright_retain_begin)] }
def RetainSaveSaid : Prop := retainSaveRow.holds Tryd.pinned (OpenSpec.ofChange retainSaveSpec)

/-- ITS FALSE NEIGHBOUR: 'it returns false'. Refute it at one input. -/
def retainSaveWrong : ChangeSpec := { name := "retainSave", fn := fun _ => fun
  | [d1, d2, d3] => { results := [.lit (.bool false)], args := [d1, d2, d3] }
  | _ => none }
def RetainSaveWrongFalsely : Prop := retainSaveRow.holds Tryd.pinned (OpenSpec.ofChange retainSaveWrong)

/-- 'plantwrightkeep.RetainTorn': WHATEVER THE INPUT: true; the input reads as it did. -/
def retainTornSpec : ChangeSpec := { name := "retainTorn", fn := fun _ => fun
  | [d1, d2, d3, d4, d5] => { results := [.lit (.bool true)], args := [d1, d2, d3, d4, d5] }
  | _ => none }
def retainTornRow : OpenClaim := { program := "ytlbipcecdcmgdaadoor", sum := "740fbe481e5a4444f3bf4b2879c12923d736f82acb7ff92a22d7d63273e69ff5", func := "plantwright/plantwrightkeep.RetainTorn", spec := "retainTorn", unfollowed := true, recurses := true, named := ["plantwright/retain.begin"], apart := false, laid := [("plantwright/retain.begin", laid_plantwright_retain_begin)] }
def RetainTornSaid : Prop := retainTornRow.holds Tryd.pinned (OpenSpec.ofChange retainTornSpec)

/-- ITS FALSE NEIGHBOUR: 'it returns false'. Refute it at one input. -/
def retainTornWrong : ChangeSpec := { name := "retainTorn", fn := fun _ => fun
  | [d1, d2, d3, d4, d5] => { results := [.lit (.bool false)], args := [d1, d2, d3, d4, d5] }
  | _ => none }
def RetainTornWrongFalsely : Prop := retainTornRow.holds Tryd.pinned (OpenSpec.ofChange retainTornWrong)

/-- 'plantwrightkeep.RetainFlip': WHATEVER THE INPUT: true; the input reads as it did. -/
def retainFlipSpec : ChangeSpec := { name := "retainFlip", fn := fun _ => fun
  | [d1, d2, d3, d4] => { results := [.lit (.bool true)], args := [d1, d2, d3, d4] }
  | _ => none }
def retainFlipRow : OpenClaim := { program := "ytlbipcecdcmgdaadoor", sum := "740fbe481e5a4444f3bf4b2879c12923d736f82acb7ff92a22d7d63273e69ff5", func := "plantwright/plantwrightkeep.RetainFlip", spec := "retainFlip", unfollowed := true, recurses := true, named := ["plantwright/retain.begin"], apart := false, laid := [("plantwright/retain.begin", laid_plantwright_retain_begin)] }
def RetainFlipSaid : Prop := retainFlipRow.holds Tryd.pinned (OpenSpec.ofChange retainFlipSpec)

/-- ITS FALSE NEIGHBOUR: 'it returns false'. Refute it at one input. -/
def retainFlipWrong : ChangeSpec := { name := "retainFlip", fn := fun _ => fun
  | [d1, d2, d3, d4] => { results := [.lit (.bool false)], args := [d1, d2, d3, d4] }
  | _ => none }
def RetainFlipWrongFalsely : Prop := retainFlipRow.holds Tryd.pinned (OpenSpec.ofChange retainFlipWrong)

/- THE SECOND FORM. 'bulk': how many values and letters a reading holds, each counted each time it is reached (what is shared counts as often as it is met; a slice's spare places count too). A statement '..UptoSaid' is the law's where the arguments, and the package variables that the reading takes, are together of bulk at most 1048576: NARROWER than '..Said'. Prove '..Said' where nothing that the law and all that it calls make is longer than what came in: it says more and counts as full. Else prove '..UptoSaid'. A law counts once. -/
mutual
def uptoBulk {H : Type} : DataW H → Nat
  | .lit (.string bytes) => bytes.length + 1
  | .lit _ => 1
  | .nil => 1
  | .ptr d => uptoBulk d + 1
  | .slice elems spare => uptoBulkAll elems + uptoBulkAll spare + 1
  | .agg parts => uptoBulkAll parts + 1
  | .iface _ d => uptoBulk d + 1
  | .map entries => uptoBulkEntries entries + 1
  | .held _ => 1
def uptoBulkAll {H : Type} : List (DataW H) → Nat
  | [] => 0
  | d :: r => uptoBulk d + uptoBulkAll r
def uptoBulkEntries {H : Type} : List (Lit × DataW H) → Nat
  | [] => 0
  | x :: r => uptoBulkEntry x + uptoBulkEntries r
def uptoBulkEntry {H : Type} : Lit × DataW H → Nat
  | (.string bytes, d) => bytes.length + uptoBulk d + 1
  | (_, d) => uptoBulk d + 1
 end
def uptoSmall : (H : Type) → List (DataW H) → Bool := fun _ ds => decide (uptoBulkAll ds ≤ 1048576)
def OpenSpec.upto (s : _root_.Go.ChangeSpec) : _root_.Go.OpenSpec := { _root_.Go.OpenSpec.ofChange s with cond := some uptoSmall }

/-- 'plantwrightlaw.RetainRecord', WHERE WHAT IT READS IS OF BULK AT MOST 1048576: true; the input reads as it did. -/
def retainRecordUptoRow : OpenClaim := { program := "ytlbipcecdcmgdaadoor", sum := "740fbe481e5a4444f3bf4b2879c12923d736f82acb7ff92a22d7d63273e69ff5", func := "plantwright/plantwrightlaw.RetainRecord", spec := "retainRecord", unfollowed := true, recurses := true, named := ["plantwright/retain.begin"], apart := false, laid := [("plantwright/retain.begin", laid_plantwright_retain_begin)], narrowed := true }
def RetainRecordUptoSaid : Prop := retainRecordUptoRow.holds Tryd.pinned (OpenSpec.upto retainRecordSpec)

/-- 'plantwrightlaw.RetainRead', WHERE WHAT IT READS IS OF BULK AT MOST 1048576: true; the input reads as it did. -/
def retainReadUptoRow : OpenClaim := { program := "ytlbipcecdcmgdaadoor", sum := "740fbe481e5a4444f3bf4b2879c12923d736f82acb7ff92a22d7d63273e69ff5", func := "plantwright/plantwrightlaw.RetainRead", spec := "retainRead", named := ["plantwright/retain.begin"], apart := false, laid := [("plantwright/retain.begin", laid_plantwright_retain_begin)], narrowed := true }
def RetainReadUptoSaid : Prop := retainReadUptoRow.holds Tryd.pinned (OpenSpec.upto retainReadSpec)

/-- 'plantwrightlaw.RetainNewest', WHERE WHAT IT READS IS OF BULK AT MOST 1048576: true; the input reads as it did. -/
def retainNewestUptoRow : OpenClaim := { program := "ytlbipcecdcmgdaadoor", sum := "740fbe481e5a4444f3bf4b2879c12923d736f82acb7ff92a22d7d63273e69ff5", func := "plantwright/plantwrightlaw.RetainNewest", spec := "retainNewest", named := ["plantwright/retain.begin"], apart := false, laid := [("plantwright/retain.begin", laid_plantwright_retain_begin)], narrowed := true }
def RetainNewestUptoSaid : Prop := retainNewestUptoRow.holds Tryd.pinned (OpenSpec.upto retainNewestSpec)

/-- 'plantwrightlaw.RetainSave', WHERE WHAT IT READS IS OF BULK AT MOST 1048576: true; the input reads as it did. -/
def retainSaveUptoRow : OpenClaim := { program := "ytlbipcecdcmgdaadoor", sum := "740fbe481e5a4444f3bf4b2879c12923d736f82acb7ff92a22d7d63273e69ff5", func := "plantwright/plantwrightlaw.RetainSave", spec := "retainSave", unfollowed := true, recurses := true, named := ["plantwright/retain.begin"], apart := false, laid := [("plantwright/retain.begin", laid_plantwright_retain_begin)], narrowed := true }
def RetainSaveUptoSaid : Prop := retainSaveUptoRow.holds Tryd.pinned (OpenSpec.upto retainSaveSpec)

/-- 'plantwrightkeep.RetainTorn', WHERE WHAT IT READS IS OF BULK AT MOST 1048576: true; the input reads as it did. -/
def retainTornUptoRow : OpenClaim := { program := "ytlbipcecdcmgdaadoor", sum := "740fbe481e5a4444f3bf4b2879c12923d736f82acb7ff92a22d7d63273e69ff5", func := "plantwright/plantwrightkeep.RetainTorn", spec := "retainTorn", unfollowed := true, recurses := true, named := ["plantwright/retain.begin"], apart := false, laid := [("plantwright/retain.begin", laid_plantwright_retain_begin)], narrowed := true }
def RetainTornUptoSaid : Prop := retainTornUptoRow.holds Tryd.pinned (OpenSpec.upto retainTornSpec)

/-- 'plantwrightkeep.RetainFlip', WHERE WHAT IT READS IS OF BULK AT MOST 1048576: true; the input reads as it did. -/
def retainFlipUptoRow : OpenClaim := { program := "ytlbipcecdcmgdaadoor", sum := "740fbe481e5a4444f3bf4b2879c12923d736f82acb7ff92a22d7d63273e69ff5", func := "plantwright/plantwrightkeep.RetainFlip", spec := "retainFlip", unfollowed := true, recurses := true, named := ["plantwright/retain.begin"], apart := false, laid := [("plantwright/retain.begin", laid_plantwright_retain_begin)], narrowed := true }
def RetainFlipUptoSaid : Prop := retainFlipUptoRow.holds Tryd.pinned (OpenSpec.upto retainFlipSpec)

end Rows
end Go.Proofs.YtlbipcecdcmgdaaDoor
