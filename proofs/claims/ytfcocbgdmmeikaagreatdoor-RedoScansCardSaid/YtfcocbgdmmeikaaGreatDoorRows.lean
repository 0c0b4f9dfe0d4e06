/-
  NARROWER THAN 'FOR EVERY INPUT', by the rows' own cells (each row's printed sentence says how): RedoLines: laid · RedoScans: laid · RedoWhole: laid.
  DERIVED. THE GIVEN ROWS OF THIS SEAT. 3 by the template 'for every input the law returns true; each argument reads behind the call as it read before'; 0 by the template 'total and deterministic' (their statements: YtfcocbgdmmeikaaGreatDoorTotals.lean).
  GIVEN WITH THE SEED: the statements are not yours to turn. If you find one false, say at which input.
  Laid BY PROGRAM, IN A SANDBOX (cutbox-rows.mjs): the forced cells as the released guide's own fill.sh prints them over the translation 9713420195db4999… (all of the seat's roots in one cut). By AI agents, Wed Nov 11 2026. No macro, syntax, notation, axiom, sorry.
-/
import Derived.Test.YtfcocbgdmmeikaaGreatDoorChecked
import GoSem.Claim
import GoSem.ClaimJoined
import GoSem.ClaimMapViews
import Derived.JoinedTies
import Derived.KernelRfl
namespace Go.Proofs.YtfcocbgdmmeikaaGreatDoor
/- THE CELL 'sum', in the pinned program and in every row, IS THE sha256 OF THE DUMP (.gsa) THAT YtfcocbgdmmeikaaGreatDoorProg.lean LOADS. Nothing in Lean hashes anything: it is a label: what it is worth is what the hold of that sum in a sandbox is worth. -/
noncomputable def Tryz.pinned : Pinned := { name := "ytfcocbgdmmeikaagreatdoor", sum := "9713420195db499978fd0b3c094f6498fe096aa25cb17a626980529fb326546a", checked := Tryz.checked }
namespace Rows
def none {H : Type} : Left H := { results := [], args := [] }

/- WHAT THE LISTED PACKAGE-LEVEL VARIABLES READ AS WHEN THE CALL BEGINS. Each datum BY PROGRAM (the guide's laid-datum.mjs) off the statement by which the dump's own 'gosem.cut.vars' lays the variable. In a bare row this is a premise. The card (YtfcocbgdmmeikaaGreatDoorCards.lean) ties it to the program's text. -/
def laid_scrinium_check_fourSteps {H : Type} : DataW H := .agg [.lit (.int .u32 0), .lit (.int .u32 498536548), .lit (.int .u32 997073096), .lit (.int .u32 651767980), .lit (.int .u32 1994146192), .lit (.int .u32 1802195444), .lit (.int .u32 1303535960), .lit (.int .u32 1342533948), .lit (.int .u32 3988292384), .lit (.int .u32 4027552580), .lit (.int .u32 3604390888), .lit (.int .u32 3412177804), .lit (.int .u32 2607071920), .lit (.int .u32 2262029012), .lit (.int .u32 2685067896), .lit (.int .u32 3183342108)]

/-- 'scriniumlaw07.RedoLines': WHATEVER THE INPUT: true; the input reads as it did. -/
def redoLinesSpec : ChangeSpec := { name := "redoLines", fn := fun _ => fun
  | [d1, d2] => { results := [.lit (.bool true)], args := [d1, d2] }
  | _ => none }
def redoLinesRow : OpenClaim := { program := "ytfcocbgdmmeikaagreatdoor", sum := "9713420195db499978fd0b3c094f6498fe096aa25cb17a626980529fb326546a", func := "scrinium/scriniumlaw07.RedoLines", spec := "redoLines", inPlace := ["internal/abi.NoEscape", "internal/bytealg.MakeNoZero"], unfollowed := true, recurses := true, named := ["scrinium/check.fourSteps"], apart := false, laid := [("scrinium/check.fourSteps", laid_scrinium_check_fourSteps)] }
def RedoLinesSaid : Prop := redoLinesRow.holds Tryz.pinned (OpenSpec.ofChange redoLinesSpec)

/-- ITS FALSE NEIGHBOUR: 'it returns false'. Refute it at one input. -/
def redoLinesWrong : ChangeSpec := { name := "redoLines", fn := fun _ => fun
  | [d1, d2] => { results := [.lit (.bool false)], args := [d1, d2] }
  | _ => none }
def RedoLinesWrongFalsely : Prop := redoLinesRow.holds Tryz.pinned (OpenSpec.ofChange redoLinesWrong)

/-- 'scriniumlaw07.RedoScans': WHATEVER THE INPUT: true; the input reads as it did. -/
def redoScansSpec : ChangeSpec := { name := "redoScans", fn := fun _ => fun
  | [d1, d2] => { results := [.lit (.bool true)], args := [d1, d2] }
  | _ => none }
def redoScansRow : OpenClaim := { program := "ytfcocbgdmmeikaagreatdoor", sum := "9713420195db499978fd0b3c094f6498fe096aa25cb17a626980529fb326546a", func := "scrinium/scriniumlaw07.RedoScans", spec := "redoScans", inPlace := ["internal/abi.NoEscape", "internal/bytealg.MakeNoZero"], unfollowed := true, recurses := true, named := ["scrinium/check.fourSteps"], apart := false, laid := [("scrinium/check.fourSteps", laid_scrinium_check_fourSteps)] }
def RedoScansSaid : Prop := redoScansRow.holds Tryz.pinned (OpenSpec.ofChange redoScansSpec)

/-- ITS FALSE NEIGHBOUR: 'it returns false'. Refute it at one input. -/
def redoScansWrong : ChangeSpec := { name := "redoScans", fn := fun _ => fun
  | [d1, d2] => { results := [.lit (.bool false)], args := [d1, d2] }
  | _ => none }
def RedoScansWrongFalsely : Prop := redoScansRow.holds Tryz.pinned (OpenSpec.ofChange redoScansWrong)

/-- 'scriniumlaw07.RedoWhole': WHATEVER THE INPUT: true; the input reads as it did. -/
def redoWholeSpec : ChangeSpec := { name := "redoWhole", fn := fun _ => fun
  | [d1, d2] => { results := [.lit (.bool true)], args := [d1, d2] }
  | _ => none }
def redoWholeRow : OpenClaim := { program := "ytfcocbgdmmeikaagreatdoor", sum := "9713420195db499978fd0b3c094f6498fe096aa25cb17a626980529fb326546a", func := "scrinium/scriniumlaw07.RedoWhole", spec := "redoWhole", inPlace := ["internal/abi.NoEscape", "internal/bytealg.MakeNoZero"], unfollowed := true, recurses := true, named := ["scrinium/check.fourSteps"], apart := false, laid := [("scrinium/check.fourSteps", laid_scrinium_check_fourSteps)] }
def RedoWholeSaid : Prop := redoWholeRow.holds Tryz.pinned (OpenSpec.ofChange redoWholeSpec)

/-- ITS FALSE NEIGHBOUR: 'it returns false'. Refute it at one input. -/
def redoWholeWrong : ChangeSpec := { name := "redoWhole", fn := fun _ => fun
  | [d1, d2] => { results := [.lit (.bool false)], args := [d1, d2] }
  | _ => none }
def RedoWholeWrongFalsely : Prop := redoWholeRow.holds Tryz.pinned (OpenSpec.ofChange redoWholeWrong)

/- THE SECOND FORM. 'bulk': how many values and letters a reading holds, each counted each time it is reached (what is shared counts as often as it is met; a slice's spare places count too). A statement '..UptoSaid' is the law's where the arguments, and the package variables that the reading takes, are together of bulk at most 1048576: NARROWER than '..Said'. Prove '..Said' where nothing that the law and all that it calls make is longer than what came in: it says more and counts as full. Else prove '..UptoSaid'. A law counts once. -/
mutual
def uptoBulk {H : Type} : DataW H → Nat
  | .lit (.string bytes) => bytes.length + 1
  | .lit _ => 1
  | .nil => 1
  | .ptr d => uptoBulk d + 1
  | .slice elems spare => uptoBulkAll elems + uptoBulkAll spare + 1
  | .agg parts => uptoBulkAll parts + 1
  | .iface _ d => uptoBulk d + 1
  | .map entries => uptoBulkEntries entries + 1
  | .held _ => 1
def uptoBulkAll {H : Type} : List (DataW H) → Nat
  | [] => 0
  | d :: r => uptoBulk d + uptoBulkAll r
def uptoBulkEntries {H : Type} : List (Lit × DataW H) → Nat
  | [] => 0
  | x :: r => uptoBulkEntry x + uptoBulkEntries r
def uptoBulkEntry {H : Type} : Lit × DataW H → Nat
  | (.string bytes, d) => bytes.length + uptoBulk d + 1
  | (_, d) => uptoBulk d + 1
 end
def uptoSmall : (H : Type) → List (DataW H) → Bool := fun _ ds => decide (uptoBulkAll ds ≤ 1048576)
def OpenSpec.upto (s : _root_.Go.ChangeSpec) : _root_.Go.OpenSpec := { _root_.Go.OpenSpec.ofChange s with cond := some uptoSmall }

/-- 'scriniumlaw07.RedoLines', WHERE WHAT IT READS IS OF BULK AT MOST 1048576: true; the input reads as it did. -/
def redoLinesUptoRow : OpenClaim := { program := "ytfcocbgdmmeikaagreatdoor", sum := "9713420195db499978fd0b3c094f6498fe096aa25cb17a626980529fb326546a", func := "scrinium/scriniumlaw07.RedoLines", spec := "redoLines", inPlace := ["internal/abi.NoEscape", "internal/bytealg.MakeNoZero"], unfollowed := true, recurses := true, named := ["scrinium/check.fourSteps"], apart := false, laid := [("scrinium/check.fourSteps", laid_scrinium_check_fourSteps)], narrowed := true }
def RedoLinesUptoSaid : Prop := redoLinesUptoRow.holds Tryz.pinned (OpenSpec.upto redoLinesSpec)

/-- 'scriniumlaw07.RedoScans', WHERE WHAT IT READS IS OF BULK AT MOST 1048576: true; the input reads as it did. -/
def redoScansUptoRow : OpenClaim := { program := "ytfcocbgdmmeikaagreatdoor", sum := "9713420195db499978fd0b3c094f6498fe096aa25cb17a626980529fb326546a", func := "scrinium/scriniumlaw07.RedoScans", spec := "redoScans", inPlace := ["internal/abi.NoEscape", "internal/bytealg.MakeNoZero"], unfollowed := true, recurses := true, named := ["scrinium/check.fourSteps"], apart := false, laid := [("scrinium/check.fourSteps", laid_scrinium_check_fourSteps)], narrowed := true }
def RedoScansUptoSaid : Prop := redoScansUptoRow.holds Tryz.pinned (OpenSpec.upto redoScansSpec)

/-- 'scriniumlaw07.RedoWhole', WHERE WHAT IT READS IS OF BULK AT MOST 1048576: true; the input reads as it did. -/
def redoWholeUptoRow : OpenClaim := { program := "ytfcocbgdmmeikaagreatdoor", sum := "9713420195db499978fd0b3c094f6498fe096aa25cb17a626980529fb326546a", func := "scrinium/scriniumlaw07.RedoWhole", spec := "redoWhole", inPlace := ["internal/abi.NoEscape", "internal/bytealg.MakeNoZero"], unfollowed := true, recurses := true, named := ["scrinium/check.fourSteps"], apart := false, laid := [("scrinium/check.fourSteps", laid_scrinium_check_fourSteps)], narrowed := true }
def RedoWholeUptoSaid : Prop := redoWholeUptoRow.holds Tryz.pinned (OpenSpec.upto redoWholeSpec)

end Rows
end Go.Proofs.YtfcocbgdmmeikaaGreatDoor
