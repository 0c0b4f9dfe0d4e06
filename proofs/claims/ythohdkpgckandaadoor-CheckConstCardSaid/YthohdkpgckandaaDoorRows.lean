/-
  NARROWER THAN 'FOR EVERY INPUT', by the rows' own cells (each row's printed sentence says how): CheckSums: laid · CheckSeals: laid · CheckWhole: laid · CheckTurned: laid · CheckSealTurned: laid · CheckParts: laid · CheckConst: laid.
  DERIVED. THE GIVEN ROWS OF THIS SEAT. 7 by the template 'for every input the law returns true; each argument reads behind the call as it read before'; 0 by the template 'total and deterministic' (their statements: YthohdkpgckandaaDoorTotals.lean).
  GIVEN WITH THE SEED: the statements are not yours to turn. If you find one false, say at which input.
  Laid BY PROGRAM, IN A SANDBOX (cutbox-rows.mjs): the forced cells as the released guide's own fill.sh prints them over the translation 9513212ef3434dee… (all of the seat's roots in one cut). By AI agents, Wed Nov 11 2026. No macro, syntax, notation, axiom, sorry.
-/
import Derived.Test.YthohdkpgckandaaDoorChecked
import GoSem.Claim
import GoSem.ClaimJoined
import GoSem.ClaimMapViews
import Derived.JoinedTies
import Derived.KernelRfl
namespace Go.Proofs.YthohdkpgckandaaDoor
/- THE CELL 'sum', in the pinned program and in every row, IS THE sha256 OF THE DUMP (.gsa) THAT YthohdkpgckandaaDoorProg.lean LOADS. Nothing in Lean hashes anything: it is a label: what it is worth is what the hold of that sum in a sandbox is worth. -/
noncomputable def Tryd.pinned : Pinned := { name := "ythohdkpgckandaadoor", sum := "9513212ef3434dee4c562c5ad923679ff46cf70920651b30946f98cf81053140", checked := Tryd.checked }
namespace Rows
def none {H : Type} : Left H := { results := [], args := [] }

/- WHAT THE LISTED PACKAGE-LEVEL VARIABLES READ AS WHEN THE CALL BEGINS. Each datum BY PROGRAM (the guide's laid-datum.mjs) off the statement by which the dump's own 'gosem.cut.vars' lays the variable. In a bare row this is a premise. The card (YthohdkpgckandaaDoorCards.lean) ties it to the program's text. -/
def laid_scrinium_check_fourSteps {H : Type} : DataW H := .agg [.lit (.int .u32 0), .lit (.int .u32 498536548), .lit (.int .u32 997073096), .lit (.int .u32 651767980), .lit (.int .u32 1994146192), .lit (.int .u32 1802195444), .lit (.int .u32 1303535960), .lit (.int .u32 1342533948), .lit (.int .u32 3988292384), .lit (.int .u32 4027552580), .lit (.int .u32 3604390888), .lit (.int .u32 3412177804), .lit (.int .u32 2607071920), .lit (.int .u32 2262029012), .lit (.int .u32 2685067896), .lit (.int .u32 3183342108)]

/-- 'scriniumlaw04.CheckSums': WHATEVER THE INPUT: true; the input reads as it did. -/
def checkSumsSpec : ChangeSpec := { name := "checkSums", fn := fun _ => fun
  | [d1, d2] => { results := [.lit (.bool true)], args := [d1, d2] }
  | _ => none }
def checkSumsRow : OpenClaim := { program := "ythohdkpgckandaadoor", sum := "9513212ef3434dee4c562c5ad923679ff46cf70920651b30946f98cf81053140", func := "scrinium/scriniumlaw04.CheckSums", spec := "checkSums", named := ["scrinium/check.fourSteps"], apart := false, laid := [("scrinium/check.fourSteps", laid_scrinium_check_fourSteps)] }
def CheckSumsSaid : Prop := checkSumsRow.holds Tryd.pinned (OpenSpec.ofChange checkSumsSpec)

/-- ITS FALSE NEIGHBOUR: 'it returns false'. Refute it at one input. -/
def checkSumsWrong : ChangeSpec := { name := "checkSums", fn := fun _ => fun
  | [d1, d2] => { results := [.lit (.bool false)], args := [d1, d2] }
  | _ => none }
def CheckSumsWrongFalsely : Prop := checkSumsRow.holds Tryd.pinned (OpenSpec.ofChange checkSumsWrong)

/-- 'scriniumlaw04.CheckSeals': WHATEVER THE INPUT: true; the input reads as it did. -/
def checkSealsSpec : ChangeSpec := { name := "checkSeals", fn := fun _ => fun
  | [d] => { results := [.lit (.bool true)], args := [d] }
  | _ => none }
def checkSealsRow : OpenClaim := { program := "ythohdkpgckandaadoor", sum := "9513212ef3434dee4c562c5ad923679ff46cf70920651b30946f98cf81053140", func := "scrinium/scriniumlaw04.CheckSeals", spec := "checkSeals", named := ["scrinium/check.fourSteps"], apart := false, laid := [("scrinium/check.fourSteps", laid_scrinium_check_fourSteps)] }
def CheckSealsSaid : Prop := checkSealsRow.holds Tryd.pinned (OpenSpec.ofChange checkSealsSpec)

/-- ITS FALSE NEIGHBOUR: 'it returns false'. Refute it at one input. -/
def checkSealsWrong : ChangeSpec := { name := "checkSeals", fn := fun _ => fun
  | [d] => { results := [.lit (.bool false)], args := [d] }
  | _ => none }
def CheckSealsWrongFalsely : Prop := checkSealsRow.holds Tryd.pinned (OpenSpec.ofChange checkSealsWrong)

/-- 'scriniumlaw04.CheckWhole': WHATEVER THE INPUT: true; the input reads as it did. -/
def checkWholeSpec : ChangeSpec := { name := "checkWhole", fn := fun _ => fun
  | [d] => { results := [.lit (.bool true)], args := [d] }
  | _ => none }
def checkWholeRow : OpenClaim := { program := "ythohdkpgckandaadoor", sum := "9513212ef3434dee4c562c5ad923679ff46cf70920651b30946f98cf81053140", func := "scrinium/scriniumlaw04.CheckWhole", spec := "checkWhole", named := ["scrinium/check.fourSteps"], apart := false, laid := [("scrinium/check.fourSteps", laid_scrinium_check_fourSteps)] }
def CheckWholeSaid : Prop := checkWholeRow.holds Tryd.pinned (OpenSpec.ofChange checkWholeSpec)

/-- ITS FALSE NEIGHBOUR: 'it returns false'. Refute it at one input. -/
def checkWholeWrong : ChangeSpec := { name := "checkWhole", fn := fun _ => fun
  | [d] => { results := [.lit (.bool false)], args := [d] }
  | _ => none }
def CheckWholeWrongFalsely : Prop := checkWholeRow.holds Tryd.pinned (OpenSpec.ofChange checkWholeWrong)

/-- 'scriniumlaw04.CheckTurned': WHATEVER THE INPUT: true; the input reads as it did. -/
def checkTurnedSpec : ChangeSpec := { name := "checkTurned", fn := fun _ => fun
  | [d1, d2, d3] => { results := [.lit (.bool true)], args := [d1, d2, d3] }
  | _ => none }
def checkTurnedRow : OpenClaim := { program := "ythohdkpgckandaadoor", sum := "9513212ef3434dee4c562c5ad923679ff46cf70920651b30946f98cf81053140", func := "scrinium/scriniumlaw04.CheckTurned", spec := "checkTurned", named := ["scrinium/check.fourSteps"], apart := false, laid := [("scrinium/check.fourSteps", laid_scrinium_check_fourSteps)] }
def CheckTurnedSaid : Prop := checkTurnedRow.holds Tryd.pinned (OpenSpec.ofChange checkTurnedSpec)

/-- ITS FALSE NEIGHBOUR: 'it returns false'. Refute it at one input. -/
def checkTurnedWrong : ChangeSpec := { name := "checkTurned", fn := fun _ => fun
  | [d1, d2, d3] => { results := [.lit (.bool false)], args := [d1, d2, d3] }
  | _ => none }
def CheckTurnedWrongFalsely : Prop := checkTurnedRow.holds Tryd.pinned (OpenSpec.ofChange checkTurnedWrong)

/-- 'scriniumlaw04.CheckSealTurned': WHATEVER THE INPUT: true; the input reads as it did. -/
def checkSealTurnedSpec : ChangeSpec := { name := "checkSealTurned", fn := fun _ => fun
  | [d1, d2, d3] => { results := [.lit (.bool true)], args := [d1, d2, d3] }
  | _ => none }
def checkSealTurnedRow : OpenClaim := { program := "ythohdkpgckandaadoor", sum := "9513212ef3434dee4c562c5ad923679ff46cf70920651b30946f98cf81053140", func := "scrinium/scriniumlaw04.CheckSealTurned", spec := "checkSealTurned", named := ["scrinium/check.fourSteps"], apart := false, laid := [("scrinium/check.fourSteps", laid_scrinium_check_fourSteps)] }
def CheckSealTurnedSaid : Prop := checkSealTurnedRow.holds Tryd.pinned (OpenSpec.ofChange checkSealTurnedSpec)

/-- ITS FALSE NEIGHBOUR: 'it returns false'. Refute it at one input. -/
def checkSealTurnedWrong : ChangeSpec := { name := "checkSealTurned", fn := fun _ => fun
  | [d1, d2, d3] => { results := [.lit (.bool false)], args := [d1, d2, d3] }
  | _ => none }
def CheckSealTurnedWrongFalsely : Prop := checkSealTurnedRow.holds Tryd.pinned (OpenSpec.ofChange checkSealTurnedWrong)

/-- 'scriniumlaw04.CheckParts': WHATEVER THE INPUT: true; the input reads as it did. -/
def checkPartsSpec : ChangeSpec := { name := "checkParts", fn := fun _ => fun
  | [d1, d2] => { results := [.lit (.bool true)], args := [d1, d2] }
  | _ => none }
def checkPartsRow : OpenClaim := { program := "ythohdkpgckandaadoor", sum := "9513212ef3434dee4c562c5ad923679ff46cf70920651b30946f98cf81053140", func := "scrinium/scriniumlaw04.CheckParts", spec := "checkParts", named := ["scrinium/check.fourSteps"], apart := false, laid := [("scrinium/check.fourSteps", laid_scrinium_check_fourSteps)] }
def CheckPartsSaid : Prop := checkPartsRow.holds Tryd.pinned (OpenSpec.ofChange checkPartsSpec)

/-- ITS FALSE NEIGHBOUR: 'it returns false'. Refute it at one input. -/
def checkPartsWrong : ChangeSpec := { name := "checkParts", fn := fun _ => fun
  | [d1, d2] => { results := [.lit (.bool false)], args := [d1, d2] }
  | _ => none }
def CheckPartsWrongFalsely : Prop := checkPartsRow.holds Tryd.pinned (OpenSpec.ofChange checkPartsWrong)

/-- 'scriniumlaw04.CheckConst': WHATEVER THE INPUT: true; the input reads as it did. -/
def checkConstSpec : ChangeSpec := { name := "checkConst", fn := fun _ => fun
  | [d] => { results := [.lit (.bool true)], args := [d] }
  | _ => none }
def checkConstRow : OpenClaim := { program := "ythohdkpgckandaadoor", sum := "9513212ef3434dee4c562c5ad923679ff46cf70920651b30946f98cf81053140", func := "scrinium/scriniumlaw04.CheckConst", spec := "checkConst", named := ["scrinium/check.fourSteps"], apart := false, laid := [("scrinium/check.fourSteps", laid_scrinium_check_fourSteps)] }
def CheckConstSaid : Prop := checkConstRow.holds Tryd.pinned (OpenSpec.ofChange checkConstSpec)

/-- ITS FALSE NEIGHBOUR: 'it returns false'. Refute it at one input. -/
def checkConstWrong : ChangeSpec := { name := "checkConst", fn := fun _ => fun
  | [d] => { results := [.lit (.bool false)], args := [d] }
  | _ => none }
def CheckConstWrongFalsely : Prop := checkConstRow.holds Tryd.pinned (OpenSpec.ofChange checkConstWrong)

/- THE SECOND FORM. 'bulk': how many values and letters a reading holds, each counted each time it is reached (what is shared counts as often as it is met; a slice's spare places count too). A statement '..UptoSaid' is the law's where the arguments, and the package variables that the reading takes, are together of bulk at most 1048576: NARROWER than '..Said'. Prove '..Said' where nothing that the law and all that it calls make is longer than what came in: it says more and counts as full. Else prove '..UptoSaid'. A law counts once. -/
mutual
def uptoBulk {H : Type} : DataW H → Nat
  | .lit (.string bytes) => bytes.length + 1
  | .lit _ => 1
  | .nil => 1
  | .ptr d => uptoBulk d + 1
  | .slice elems spare => uptoBulkAll elems + uptoBulkAll spare + 1
  | .agg parts => uptoBulkAll parts + 1
  | .iface _ d => uptoBulk d + 1
  | .map entries => uptoBulkEntries entries + 1
  | .held _ => 1
def uptoBulkAll {H : Type} : List (DataW H) → Nat
  | [] => 0
  | d :: r => uptoBulk d + uptoBulkAll r
def uptoBulkEntries {H : Type} : List (Lit × DataW H) → Nat
  | [] => 0
  | x :: r => uptoBulkEntry x + uptoBulkEntries r
def uptoBulkEntry {H : Type} : Lit × DataW H → Nat
  | (.string bytes, d) => bytes.length + uptoBulk d + 1
  | (_, d) => uptoBulk d + 1
 end
def uptoSmall : (H : Type) → List (DataW H) → Bool := fun _ ds => decide (uptoBulkAll ds ≤ 1048576)
def OpenSpec.upto (s : _root_.Go.ChangeSpec) : _root_.Go.OpenSpec := { _root_.Go.OpenSpec.ofChange s with cond := some uptoSmall }

/-- 'scriniumlaw04.CheckSums', WHERE WHAT IT READS IS OF BULK AT MOST 1048576: true; the input reads as it did. -/
def checkSumsUptoRow : OpenClaim := { program := "ythohdkpgckandaadoor", sum := "9513212ef3434dee4c562c5ad923679ff46cf70920651b30946f98cf81053140", func := "scrinium/scriniumlaw04.CheckSums", spec := "checkSums", named := ["scrinium/check.fourSteps"], apart := false, laid := [("scrinium/check.fourSteps", laid_scrinium_check_fourSteps)], narrowed := true }
def CheckSumsUptoSaid : Prop := checkSumsUptoRow.holds Tryd.pinned (OpenSpec.upto checkSumsSpec)

/-- 'scriniumlaw04.CheckSeals', WHERE WHAT IT READS IS OF BULK AT MOST 1048576: true; the input reads as it did. -/
def checkSealsUptoRow : OpenClaim := { program := "ythohdkpgckandaadoor", sum := "9513212ef3434dee4c562c5ad923679ff46cf70920651b30946f98cf81053140", func := "scrinium/scriniumlaw04.CheckSeals", spec := "checkSeals", named := ["scrinium/check.fourSteps"], apart := false, laid := [("scrinium/check.fourSteps", laid_scrinium_check_fourSteps)], narrowed := true }
def CheckSealsUptoSaid : Prop := checkSealsUptoRow.holds Tryd.pinned (OpenSpec.upto checkSealsSpec)

/-- 'scriniumlaw04.CheckWhole', WHERE WHAT IT READS IS OF BULK AT MOST 1048576: true; the input reads as it did. -/
def checkWholeUptoRow : OpenClaim := { program := "ythohdkpgckandaadoor", sum := "9513212ef3434dee4c562c5ad923679ff46cf70920651b30946f98cf81053140", func := "scrinium/scriniumlaw04.CheckWhole", spec := "checkWhole", named := ["scrinium/check.fourSteps"], apart := false, laid := [("scrinium/check.fourSteps", laid_scrinium_check_fourSteps)], narrowed := true }
def CheckWholeUptoSaid : Prop := checkWholeUptoRow.holds Tryd.pinned (OpenSpec.upto checkWholeSpec)

/-- 'scriniumlaw04.CheckTurned', WHERE WHAT IT READS IS OF BULK AT MOST 1048576: true; the input reads as it did. -/
def checkTurnedUptoRow : OpenClaim := { program := "ythohdkpgckandaadoor", sum := "9513212ef3434dee4c562c5ad923679ff46cf70920651b30946f98cf81053140", func := "scrinium/scriniumlaw04.CheckTurned", spec := "checkTurned", named := ["scrinium/check.fourSteps"], apart := false, laid := [("scrinium/check.fourSteps", laid_scrinium_check_fourSteps)], narrowed := true }
def CheckTurnedUptoSaid : Prop := checkTurnedUptoRow.holds Tryd.pinned (OpenSpec.upto checkTurnedSpec)

/-- 'scriniumlaw04.CheckSealTurned', WHERE WHAT IT READS IS OF BULK AT MOST 1048576: true; the input reads as it did. -/
def checkSealTurnedUptoRow : OpenClaim := { program := "ythohdkpgckandaadoor", sum := "9513212ef3434dee4c562c5ad923679ff46cf70920651b30946f98cf81053140", func := "scrinium/scriniumlaw04.CheckSealTurned", spec := "checkSealTurned", named := ["scrinium/check.fourSteps"], apart := false, laid := [("scrinium/check.fourSteps", laid_scrinium_check_fourSteps)], narrowed := true }
def CheckSealTurnedUptoSaid : Prop := checkSealTurnedUptoRow.holds Tryd.pinned (OpenSpec.upto checkSealTurnedSpec)

/-- 'scriniumlaw04.CheckParts', WHERE WHAT IT READS IS OF BULK AT MOST 1048576: true; the input reads as it did. -/
def checkPartsUptoRow : OpenClaim := { program := "ythohdkpgckandaadoor", sum := "9513212ef3434dee4c562c5ad923679ff46cf70920651b30946f98cf81053140", func := "scrinium/scriniumlaw04.CheckParts", spec := "checkParts", named := ["scrinium/check.fourSteps"], apart := false, laid := [("scrinium/check.fourSteps", laid_scrinium_check_fourSteps)], narrowed := true }
def CheckPartsUptoSaid : Prop := checkPartsUptoRow.holds Tryd.pinned (OpenSpec.upto checkPartsSpec)

/-- 'scriniumlaw04.CheckConst', WHERE WHAT IT READS IS OF BULK AT MOST 1048576: true; the input reads as it did. -/
def checkConstUptoRow : OpenClaim := { program := "ythohdkpgckandaadoor", sum := "9513212ef3434dee4c562c5ad923679ff46cf70920651b30946f98cf81053140", func := "scrinium/scriniumlaw04.CheckConst", spec := "checkConst", named := ["scrinium/check.fourSteps"], apart := false, laid := [("scrinium/check.fourSteps", laid_scrinium_check_fourSteps)], narrowed := true }
def CheckConstUptoSaid : Prop := checkConstUptoRow.holds Tryd.pinned (OpenSpec.upto checkConstSpec)

end Rows
end Go.Proofs.YthohdkpgckandaaDoor
