/-
  No cell of these rows narrows 'for every input' (looked for: loops, veiled, ifaces, maps, wideKeys, modest, calm, conditions, laid).
  DERIVED. THE GIVEN ROWS OF THIS SEAT. 6 by the template 'for every input the law returns true; each argument reads behind the call as it read before'; 0 by the template 'total and deterministic' (their statements: YtlbnopfbfnobnaaTotals.lean).
  GIVEN WITH THE SEED: the statements are not yours to turn. If you find one false, say at which input.
  Laid BY PROGRAM, IN A SANDBOX (cutbox-rows.mjs): the forced cells as the released guide's own fill.sh prints them over the translation c65c86e69eb825aa… (all of the seat's roots in one cut). By AI agents, Wed Nov 11 2026. No macro, syntax, notation, axiom, sorry.
-/
import Derived.Test.YtlbnopfbfnobnaaChecked
import GoSem.Claim
import GoSem.ClaimJoined
import GoSem.ClaimMapViews
import Derived.JoinedTies
import Derived.KernelRfl
namespace Go.Proofs.Ytlbnopfbfnobnaa
/- THE CELL 'sum', in the pinned program and in every row, IS THE sha256 OF THE DUMP (.gsa) THAT YtlbnopfbfnobnaaProg.lean LOADS. Nothing in Lean hashes anything: it is a label: what it is worth is what the hold of that sum in a sandbox is worth. -/
noncomputable def Try.pinned : Pinned := { name := "ytlbnopfbfnobnaa", sum := "c65c86e69eb825aa6c7951d6c406d684114f350737e063f180f900e42f4b3738", checked := Try.checked }
namespace Rows
def none {H : Type} : Left H := { results := [], args := [] }

/-- 'scriniumlaw06.ExtentChanges': WHATEVER THE INPUT: true; the input reads as it did. -/
def extentChangesSpec : ChangeSpec := { name := "extentChanges", fn := fun _ => fun
  | [d1, d2, d3] => { results := [.lit (.bool true)], args := [d1, d2, d3] }
  | _ => none }
def extentChangesRow : OpenClaim := { program := "ytlbnopfbfnobnaa", sum := "c65c86e69eb825aa6c7951d6c406d684114f350737e063f180f900e42f4b3738", func := "scrinium/scriniumlaw06.ExtentChanges", spec := "extentChanges", apart := false }
def ExtentChangesSaid : Prop := extentChangesRow.holds Try.pinned (OpenSpec.ofChange extentChangesSpec)

/-- ITS FALSE NEIGHBOUR: 'it returns false'. Refute it at one input. -/
def extentChangesWrong : ChangeSpec := { name := "extentChanges", fn := fun _ => fun
  | [d1, d2, d3] => { results := [.lit (.bool false)], args := [d1, d2, d3] }
  | _ => none }
def ExtentChangesWrongFalsely : Prop := extentChangesRow.holds Try.pinned (OpenSpec.ofChange extentChangesWrong)

/-- 'scriniumlaw06.ExtentFiles': WHATEVER THE INPUT: true; the input reads as it did. -/
def extentFilesSpec : ChangeSpec := { name := "extentFiles", fn := fun _ => fun
  | [d1, d2, d3] => { results := [.lit (.bool true)], args := [d1, d2, d3] }
  | _ => none }
def extentFilesRow : OpenClaim := { program := "ytlbnopfbfnobnaa", sum := "c65c86e69eb825aa6c7951d6c406d684114f350737e063f180f900e42f4b3738", func := "scrinium/scriniumlaw06.ExtentFiles", spec := "extentFiles", unfollowed := true, recurses := true, apart := false }
def ExtentFilesSaid : Prop := extentFilesRow.holds Try.pinned (OpenSpec.ofChange extentFilesSpec)

/-- ITS FALSE NEIGHBOUR: 'it returns false'. Refute it at one input. -/
def extentFilesWrong : ChangeSpec := { name := "extentFiles", fn := fun _ => fun
  | [d1, d2, d3] => { results := [.lit (.bool false)], args := [d1, d2, d3] }
  | _ => none }
def ExtentFilesWrongFalsely : Prop := extentFilesRow.holds Try.pinned (OpenSpec.ofChange extentFilesWrong)

/-- 'scriniumlaw06.ExtentTurns': WHATEVER THE INPUT: true; the input reads as it did. -/
def extentTurnsSpec : ChangeSpec := { name := "extentTurns", fn := fun _ => fun
  | [d1, d2, d3] => { results := [.lit (.bool true)], args := [d1, d2, d3] }
  | _ => none }
def extentTurnsRow : OpenClaim := { program := "ytlbnopfbfnobnaa", sum := "c65c86e69eb825aa6c7951d6c406d684114f350737e063f180f900e42f4b3738", func := "scrinium/scriniumlaw06.ExtentTurns", spec := "extentTurns", unfollowed := true, recurses := true, apart := false }
def ExtentTurnsSaid : Prop := extentTurnsRow.holds Try.pinned (OpenSpec.ofChange extentTurnsSpec)

/-- ITS FALSE NEIGHBOUR: 'it returns false'. Refute it at one input. -/
def extentTurnsWrong : ChangeSpec := { name := "extentTurns", fn := fun _ => fun
  | [d1, d2, d3] => { results := [.lit (.bool false)], args := [d1, d2, d3] }
  | _ => none }
def ExtentTurnsWrongFalsely : Prop := extentTurnsRow.holds Try.pinned (OpenSpec.ofChange extentTurnsWrong)

/-- 'scriniumlaw06.ExtentCuts': WHATEVER THE INPUT: true; the input reads as it did. -/
def extentCutsSpec : ChangeSpec := { name := "extentCuts", fn := fun _ => fun
  | [d1, d2] => { results := [.lit (.bool true)], args := [d1, d2] }
  | _ => none }
def extentCutsRow : OpenClaim := { program := "ytlbnopfbfnobnaa", sum := "c65c86e69eb825aa6c7951d6c406d684114f350737e063f180f900e42f4b3738", func := "scrinium/scriniumlaw06.ExtentCuts", spec := "extentCuts", unfollowed := true, recurses := true, apart := false }
def ExtentCutsSaid : Prop := extentCutsRow.holds Try.pinned (OpenSpec.ofChange extentCutsSpec)

/-- ITS FALSE NEIGHBOUR: 'it returns false'. Refute it at one input. -/
def extentCutsWrong : ChangeSpec := { name := "extentCuts", fn := fun _ => fun
  | [d1, d2] => { results := [.lit (.bool false)], args := [d1, d2] }
  | _ => none }
def ExtentCutsWrongFalsely : Prop := extentCutsRow.holds Try.pinned (OpenSpec.ofChange extentCutsWrong)

/-- 'scriniumlaw06.ExtentApart': WHATEVER THE INPUT: true; the input reads as it did. -/
def extentApartSpec : ChangeSpec := { name := "extentApart", fn := fun _ => fun
  | [d1, d2] => { results := [.lit (.bool true)], args := [d1, d2] }
  | _ => none }
def extentApartRow : OpenClaim := { program := "ytlbnopfbfnobnaa", sum := "c65c86e69eb825aa6c7951d6c406d684114f350737e063f180f900e42f4b3738", func := "scrinium/scriniumlaw06.ExtentApart", spec := "extentApart", unfollowed := true, recurses := true, apart := false }
def ExtentApartSaid : Prop := extentApartRow.holds Try.pinned (OpenSpec.ofChange extentApartSpec)

/-- ITS FALSE NEIGHBOUR: 'it returns false'. Refute it at one input. -/
def extentApartWrong : ChangeSpec := { name := "extentApart", fn := fun _ => fun
  | [d1, d2] => { results := [.lit (.bool false)], args := [d1, d2] }
  | _ => none }
def ExtentApartWrongFalsely : Prop := extentApartRow.holds Try.pinned (OpenSpec.ofChange extentApartWrong)

/-- 'scriniumlaw06.ExtentPlaces': WHATEVER THE INPUT: true; the input reads as it did. -/
def extentPlacesSpec : ChangeSpec := { name := "extentPlaces", fn := fun _ => fun
  | [d1, d2, d3] => { results := [.lit (.bool true)], args := [d1, d2, d3] }
  | _ => none }
def extentPlacesRow : OpenClaim := { program := "ytlbnopfbfnobnaa", sum := "c65c86e69eb825aa6c7951d6c406d684114f350737e063f180f900e42f4b3738", func := "scrinium/scriniumlaw06.ExtentPlaces", spec := "extentPlaces", unfollowed := true, recurses := true, apart := false }
def ExtentPlacesSaid : Prop := extentPlacesRow.holds Try.pinned (OpenSpec.ofChange extentPlacesSpec)

/-- ITS FALSE NEIGHBOUR: 'it returns false'. Refute it at one input. -/
def extentPlacesWrong : ChangeSpec := { name := "extentPlaces", fn := fun _ => fun
  | [d1, d2, d3] => { results := [.lit (.bool false)], args := [d1, d2, d3] }
  | _ => none }
def ExtentPlacesWrongFalsely : Prop := extentPlacesRow.holds Try.pinned (OpenSpec.ofChange extentPlacesWrong)

/- THE SECOND FORM. 'bulk': how many values and letters a reading holds, each counted each time it is reached (what is shared counts as often as it is met; a slice's spare places count too). A statement '..UptoSaid' is the law's where the arguments, and the package variables that the reading takes, are together of bulk at most 1048576: NARROWER than '..Said'. Prove '..Said' where nothing that the law and all that it calls make is longer than what came in: it says more and counts as full. Else prove '..UptoSaid'. A law counts once. -/
mutual
def uptoBulk {H : Type} : DataW H → Nat
  | .lit (.string bytes) => bytes.length + 1
  | .lit _ => 1
  | .nil => 1
  | .ptr d => uptoBulk d + 1
  | .slice elems spare => uptoBulkAll elems + uptoBulkAll spare + 1
  | .agg parts => uptoBulkAll parts + 1
  | .iface _ d => uptoBulk d + 1
  | .map entries => uptoBulkEntries entries + 1
  | .held _ => 1
def uptoBulkAll {H : Type} : List (DataW H) → Nat
  | [] => 0
  | d :: r => uptoBulk d + uptoBulkAll r
def uptoBulkEntries {H : Type} : List (Lit × DataW H) → Nat
  | [] => 0
  | x :: r => uptoBulkEntry x + uptoBulkEntries r
def uptoBulkEntry {H : Type} : Lit × DataW H → Nat
  | (.string bytes, d) => bytes.length + uptoBulk d + 1
  | (_, d) => uptoBulk d + 1
 end
def uptoSmall : (H : Type) → List (DataW H) → Bool := fun _ ds => decide (uptoBulkAll ds ≤ 1048576)
def OpenSpec.upto (s : _root_.Go.ChangeSpec) : _root_.Go.OpenSpec := { _root_.Go.OpenSpec.ofChange s with cond := some uptoSmall }

/-- 'scriniumlaw06.ExtentChanges', WHERE WHAT IT READS IS OF BULK AT MOST 1048576: true; the input reads as it did. -/
def extentChangesUptoRow : OpenClaim := { program := "ytlbnopfbfnobnaa", sum := "c65c86e69eb825aa6c7951d6c406d684114f350737e063f180f900e42f4b3738", func := "scrinium/scriniumlaw06.ExtentChanges", spec := "extentChanges", apart := false, narrowed := true }
def ExtentChangesUptoSaid : Prop := extentChangesUptoRow.holds Try.pinned (OpenSpec.upto extentChangesSpec)

/-- 'scriniumlaw06.ExtentFiles', WHERE WHAT IT READS IS OF BULK AT MOST 1048576: true; the input reads as it did. -/
def extentFilesUptoRow : OpenClaim := { program := "ytlbnopfbfnobnaa", sum := "c65c86e69eb825aa6c7951d6c406d684114f350737e063f180f900e42f4b3738", func := "scrinium/scriniumlaw06.ExtentFiles", spec := "extentFiles", unfollowed := true, recurses := true, apart := false, narrowed := true }
def ExtentFilesUptoSaid : Prop := extentFilesUptoRow.holds Try.pinned (OpenSpec.upto extentFilesSpec)

/-- 'scriniumlaw06.ExtentTurns', WHERE WHAT IT READS IS OF BULK AT MOST 1048576: true; the input reads as it did. -/
def extentTurnsUptoRow : OpenClaim := { program := "ytlbnopfbfnobnaa", sum := "c65c86e69eb825aa6c7951d6c406d684114f350737e063f180f900e42f4b3738", func := "scrinium/scriniumlaw06.ExtentTurns", spec := "extentTurns", unfollowed := true, recurses := true, apart := false, narrowed := true }
def ExtentTurnsUptoSaid : Prop := extentTurnsUptoRow.holds Try.pinned (OpenSpec.upto extentTurnsSpec)

/-- 'scriniumlaw06.ExtentCuts', WHERE WHAT IT READS IS OF BULK AT MOST 1048576: true; the input reads as it did. -/
def extentCutsUptoRow : OpenClaim := { program := "ytlbnopfbfnobnaa", sum := "c65c86e69eb825aa6c7951d6c406d684114f350737e063f180f900e42f4b3738", func := "scrinium/scriniumlaw06.ExtentCuts", spec := "extentCuts", unfollowed := true, recurses := true, apart := false, narrowed := true }
def ExtentCutsUptoSaid : Prop := extentCutsUptoRow.holds Try.pinned (OpenSpec.upto extentCutsSpec)

/-- 'scriniumlaw06.ExtentApart', WHERE WHAT IT READS IS OF BULK AT MOST 1048576: true; the input reads as it did. -/
def extentApartUptoRow : OpenClaim := { program := "ytlbnopfbfnobnaa", sum := "c65c86e69eb825aa6c7951d6c406d684114f350737e063f180f900e42f4b3738", func := "scrinium/scriniumlaw06.ExtentApart", spec := "extentApart", unfollowed := true, recurses := true, apart := false, narrowed := true }
def ExtentApartUptoSaid : Prop := extentApartUptoRow.holds Try.pinned (OpenSpec.upto extentApartSpec)

/-- 'scriniumlaw06.ExtentPlaces', WHERE WHAT IT READS IS OF BULK AT MOST 1048576: true; the input reads as it did. -/
def extentPlacesUptoRow : OpenClaim := { program := "ytlbnopfbfnobnaa", sum := "c65c86e69eb825aa6c7951d6c406d684114f350737e063f180f900e42f4b3738", func := "scrinium/scriniumlaw06.ExtentPlaces", spec := "extentPlaces", unfollowed := true, recurses := true, apart := false, narrowed := true }
def ExtentPlacesUptoSaid : Prop := extentPlacesUptoRow.holds Try.pinned (OpenSpec.upto extentPlacesSpec)

end Rows
end Go.Proofs.Ytlbnopfbfnobnaa
