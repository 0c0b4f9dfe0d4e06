/-
  No cell of these rows narrows 'for every input' (looked for: loops, veiled, ifaces, maps, wideKeys, modest, calm, conditions, laid).
  DERIVED. THE GIVEN ROWS OF THIS SEAT. 4 by the template 'for every input the law returns true; each argument reads behind the call as it read before'; 0 by the template 'total and deterministic' (their statements: YthhmncmbnbkhaaaTotals.lean).
  GIVEN WITH THE SEED: the statements are not yours to turn. If you find one false, say at which input.
  Laid BY PROGRAM, IN A SANDBOX (cutbox-rows.mjs): the forced cells as the released guide's own fill.sh prints them over the translation 65b5f3636f7b29ae… (all of the seat's roots in one cut). By AI agents, Wed Nov 11 2026. No macro, syntax, notation, axiom, sorry.
-/
import Derived.Test.YthhmncmbnbkhaaaChecked
import GoSem.Claim
import GoSem.ClaimJoined
import GoSem.ClaimMapViews
import Derived.JoinedTies
import Derived.KernelRfl
namespace Go.Proofs.Ythhmncmbnbkhaaa
/- THE CELL 'sum', in the pinned program and in every row, IS THE sha256 OF THE DUMP (.gsa) THAT YthhmncmbnbkhaaaProg.lean LOADS. Nothing in Lean hashes anything: it is a label: what it is worth is what the hold of that sum in a sandbox is worth. -/
noncomputable def Try.pinned : Pinned := { name := "ythhmncmbnbkhaaa", sum := "65b5f3636f7b29ae182485b0c51b32d3b8b4d2eb99285388f9746c95c18cbee2", checked := Try.checked }
namespace Rows
def none {H : Type} : Left H := { results := [], args := [] }

/-- 'scriniumlaw14.WindowApart': WHATEVER THE INPUT: true; the input reads as it did. -/
def windowApartSpec : ChangeSpec := { name := "windowApart", fn := fun _ => fun
  | [d1, d2, d3] => { results := [.lit (.bool true)], args := [d1, d2, d3] }
  | _ => none }
def windowApartRow : OpenClaim := { program := "ythhmncmbnbkhaaa", sum := "65b5f3636f7b29ae182485b0c51b32d3b8b4d2eb99285388f9746c95c18cbee2", func := "scrinium/scriniumlaw14.WindowApart", spec := "windowApart", unfollowed := true, recurses := true, apart := false }
def WindowApartSaid : Prop := windowApartRow.holds Try.pinned (OpenSpec.ofChange windowApartSpec)

/-- ITS FALSE NEIGHBOUR: 'it returns false'. Refute it at one input. -/
def windowApartWrong : ChangeSpec := { name := "windowApart", fn := fun _ => fun
  | [d1, d2, d3] => { results := [.lit (.bool false)], args := [d1, d2, d3] }
  | _ => none }
def WindowApartWrongFalsely : Prop := windowApartRow.holds Try.pinned (OpenSpec.ofChange windowApartWrong)

/-- 'scriniumlaw14.WindowLasts': WHATEVER THE INPUT: true; the input reads as it did. -/
def windowLastsSpec : ChangeSpec := { name := "windowLasts", fn := fun _ => fun
  | [d1, d2, d3] => { results := [.lit (.bool true)], args := [d1, d2, d3] }
  | _ => none }
def windowLastsRow : OpenClaim := { program := "ythhmncmbnbkhaaa", sum := "65b5f3636f7b29ae182485b0c51b32d3b8b4d2eb99285388f9746c95c18cbee2", func := "scrinium/scriniumlaw14.WindowLasts", spec := "windowLasts", unfollowed := true, recurses := true, apart := false }
def WindowLastsSaid : Prop := windowLastsRow.holds Try.pinned (OpenSpec.ofChange windowLastsSpec)

/-- ITS FALSE NEIGHBOUR: 'it returns false'. Refute it at one input. -/
def windowLastsWrong : ChangeSpec := { name := "windowLasts", fn := fun _ => fun
  | [d1, d2, d3] => { results := [.lit (.bool false)], args := [d1, d2, d3] }
  | _ => none }
def WindowLastsWrongFalsely : Prop := windowLastsRow.holds Try.pinned (OpenSpec.ofChange windowLastsWrong)

/-- 'scriniumlaw14.WindowClock': WHATEVER THE INPUT: true; the input reads as it did. -/
def windowClockSpec : ChangeSpec := { name := "windowClock", fn := fun _ => fun
  | [d] => { results := [.lit (.bool true)], args := [d] }
  | _ => none }
def windowClockRow : OpenClaim := { program := "ythhmncmbnbkhaaa", sum := "65b5f3636f7b29ae182485b0c51b32d3b8b4d2eb99285388f9746c95c18cbee2", func := "scrinium/scriniumlaw14.WindowClock", spec := "windowClock", unfollowed := true, recurses := true, apart := false }
def WindowClockSaid : Prop := windowClockRow.holds Try.pinned (OpenSpec.ofChange windowClockSpec)

/-- ITS FALSE NEIGHBOUR: 'it returns false'. Refute it at one input. -/
def windowClockWrong : ChangeSpec := { name := "windowClock", fn := fun _ => fun
  | [d] => { results := [.lit (.bool false)], args := [d] }
  | _ => none }
def WindowClockWrongFalsely : Prop := windowClockRow.holds Try.pinned (OpenSpec.ofChange windowClockWrong)

/-- 'scriniumlaw14.WindowNext': WHATEVER THE INPUT: true; the input reads as it did. -/
def windowNextSpec : ChangeSpec := { name := "windowNext", fn := fun _ => fun
  | [d1, d2, d3] => { results := [.lit (.bool true)], args := [d1, d2, d3] }
  | _ => none }
def windowNextRow : OpenClaim := { program := "ythhmncmbnbkhaaa", sum := "65b5f3636f7b29ae182485b0c51b32d3b8b4d2eb99285388f9746c95c18cbee2", func := "scrinium/scriniumlaw14.WindowNext", spec := "windowNext", unfollowed := true, recurses := true, apart := false }
def WindowNextSaid : Prop := windowNextRow.holds Try.pinned (OpenSpec.ofChange windowNextSpec)

/-- ITS FALSE NEIGHBOUR: 'it returns false'. Refute it at one input. -/
def windowNextWrong : ChangeSpec := { name := "windowNext", fn := fun _ => fun
  | [d1, d2, d3] => { results := [.lit (.bool false)], args := [d1, d2, d3] }
  | _ => none }
def WindowNextWrongFalsely : Prop := windowNextRow.holds Try.pinned (OpenSpec.ofChange windowNextWrong)

/- THE SECOND FORM. 'bulk': how many values and letters a reading holds, each counted each time it is reached (what is shared counts as often as it is met; a slice's spare places count too). A statement '..UptoSaid' is the law's where the arguments, and the package variables that the reading takes, are together of bulk at most 1048576: NARROWER than '..Said'. Prove '..Said' where nothing that the law and all that it calls make is longer than what came in: it says more and counts as full. Else prove '..UptoSaid'. A law counts once. -/
mutual
def uptoBulk {H : Type} : DataW H → Nat
  | .lit (.string bytes) => bytes.length + 1
  | .lit _ => 1
  | .nil => 1
  | .ptr d => uptoBulk d + 1
  | .slice elems spare => uptoBulkAll elems + uptoBulkAll spare + 1
  | .agg parts => uptoBulkAll parts + 1
  | .iface _ d => uptoBulk d + 1
  | .map entries => uptoBulkEntries entries + 1
  | .held _ => 1
def uptoBulkAll {H : Type} : List (DataW H) → Nat
  | [] => 0
  | d :: r => uptoBulk d + uptoBulkAll r
def uptoBulkEntries {H : Type} : List (Lit × DataW H) → Nat
  | [] => 0
  | x :: r => uptoBulkEntry x + uptoBulkEntries r
def uptoBulkEntry {H : Type} : Lit × DataW H → Nat
  | (.string bytes, d) => bytes.length + uptoBulk d + 1
  | (_, d) => uptoBulk d + 1
 end
def uptoSmall : (H : Type) → List (DataW H) → Bool := fun _ ds => decide (uptoBulkAll ds ≤ 1048576)
def OpenSpec.upto (s : _root_.Go.ChangeSpec) : _root_.Go.OpenSpec := { _root_.Go.OpenSpec.ofChange s with cond := some uptoSmall }

/-- 'scriniumlaw14.WindowApart', WHERE WHAT IT READS IS OF BULK AT MOST 1048576: true; the input reads as it did. -/
def windowApartUptoRow : OpenClaim := { program := "ythhmncmbnbkhaaa", sum := "65b5f3636f7b29ae182485b0c51b32d3b8b4d2eb99285388f9746c95c18cbee2", func := "scrinium/scriniumlaw14.WindowApart", spec := "windowApart", unfollowed := true, recurses := true, apart := false, narrowed := true }
def WindowApartUptoSaid : Prop := windowApartUptoRow.holds Try.pinned (OpenSpec.upto windowApartSpec)

/-- 'scriniumlaw14.WindowLasts', WHERE WHAT IT READS IS OF BULK AT MOST 1048576: true; the input reads as it did. -/
def windowLastsUptoRow : OpenClaim := { program := "ythhmncmbnbkhaaa", sum := "65b5f3636f7b29ae182485b0c51b32d3b8b4d2eb99285388f9746c95c18cbee2", func := "scrinium/scriniumlaw14.WindowLasts", spec := "windowLasts", unfollowed := true, recurses := true, apart := false, narrowed := true }
def WindowLastsUptoSaid : Prop := windowLastsUptoRow.holds Try.pinned (OpenSpec.upto windowLastsSpec)

/-- 'scriniumlaw14.WindowClock', WHERE WHAT IT READS IS OF BULK AT MOST 1048576: true; the input reads as it did. -/
def windowClockUptoRow : OpenClaim := { program := "ythhmncmbnbkhaaa", sum := "65b5f3636f7b29ae182485b0c51b32d3b8b4d2eb99285388f9746c95c18cbee2", func := "scrinium/scriniumlaw14.WindowClock", spec := "windowClock", unfollowed := true, recurses := true, apart := false, narrowed := true }
def WindowClockUptoSaid : Prop := windowClockUptoRow.holds Try.pinned (OpenSpec.upto windowClockSpec)

/-- 'scriniumlaw14.WindowNext', WHERE WHAT IT READS IS OF BULK AT MOST 1048576: true; the input reads as it did. -/
def windowNextUptoRow : OpenClaim := { program := "ythhmncmbnbkhaaa", sum := "65b5f3636f7b29ae182485b0c51b32d3b8b4d2eb99285388f9746c95c18cbee2", func := "scrinium/scriniumlaw14.WindowNext", spec := "windowNext", unfollowed := true, recurses := true, apart := false, narrowed := true }
def WindowNextUptoSaid : Prop := windowNextUptoRow.holds Try.pinned (OpenSpec.upto windowNextSpec)

end Rows
end Go.Proofs.Ythhmncmbnbkhaaa
