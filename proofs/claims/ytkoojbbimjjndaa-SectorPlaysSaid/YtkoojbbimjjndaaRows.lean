/-
  No cell of these rows narrows 'for every input' (looked for: loops, veiled, ifaces, maps, wideKeys, modest, calm, conditions, laid).
  DERIVED. THE GIVEN ROWS OF THIS SEAT. 7 by the template 'for every input the law returns true; each argument reads behind the call as it read before'; 0 by the template 'total and deterministic' (their statements: YtkoojbbimjjndaaTotals.lean).
  GIVEN WITH THE SEED: the statements are not yours to turn. If you find one false, say at which input.
  Laid BY PROGRAM, IN A SANDBOX (cutbox-rows.mjs): the forced cells as the released guide's own fill.sh prints them over the translation d5319f9473f061ac… (all of the seat's roots in one cut). By AI agents, Wed Nov 11 2026. No macro, syntax, notation, axiom, sorry.
-/
import Derived.Test.YtkoojbbimjjndaaChecked
import GoSem.Claim
import GoSem.ClaimJoined
import GoSem.ClaimMapViews
import Derived.JoinedTies
import Derived.KernelRfl
namespace Go.Proofs.Ytkoojbbimjjndaa
/- THE CELL 'sum', in the pinned program and in every row, IS THE sha256 OF THE DUMP (.gsa) THAT YtkoojbbimjjndaaProg.lean LOADS. Nothing in Lean hashes anything: it is a label: what it is worth is what the hold of that sum in a sandbox is worth. -/
noncomputable def Try.pinned : Pinned := { name := "ytkoojbbimjjndaa", sum := "d5319f9473f061ac93f49b5836b17da908e5b73208593a0b2dc9f8ef1fa807f6", checked := Try.checked }
namespace Rows
def none {H : Type} : Left H := { results := [], args := [] }

/-- 'scriniumlaw05.SectorFills': WHATEVER THE INPUT: true; the input reads as it did. -/
def sectorFillsSpec : ChangeSpec := { name := "sectorFills", fn := fun _ => fun
  | [d1, d2] => { results := [.lit (.bool true)], args := [d1, d2] }
  | _ => none }
def sectorFillsRow : OpenClaim := { program := "ytkoojbbimjjndaa", sum := "d5319f9473f061ac93f49b5836b17da908e5b73208593a0b2dc9f8ef1fa807f6", func := "scrinium/scriniumlaw05.SectorFills", spec := "sectorFills", inPlace := ["internal/abi.NoEscape", "internal/bytealg.MakeNoZero"], unfollowed := true, recurses := true, apart := false }
def SectorFillsSaid : Prop := sectorFillsRow.holds Try.pinned (OpenSpec.ofChange sectorFillsSpec)

/-- ITS FALSE NEIGHBOUR: 'it returns false'. Refute it at one input. -/
def sectorFillsWrong : ChangeSpec := { name := "sectorFills", fn := fun _ => fun
  | [d1, d2] => { results := [.lit (.bool false)], args := [d1, d2] }
  | _ => none }
def SectorFillsWrongFalsely : Prop := sectorFillsRow.holds Try.pinned (OpenSpec.ofChange sectorFillsWrong)

/-- 'scriniumlaw05.SectorPlays': WHATEVER THE INPUT: true; the input reads as it did. -/
def sectorPlaysSpec : ChangeSpec := { name := "sectorPlays", fn := fun _ => fun
  | [d1, d2] => { results := [.lit (.bool true)], args := [d1, d2] }
  | _ => none }
def sectorPlaysRow : OpenClaim := { program := "ytkoojbbimjjndaa", sum := "d5319f9473f061ac93f49b5836b17da908e5b73208593a0b2dc9f8ef1fa807f6", func := "scrinium/scriniumlaw05.SectorPlays", spec := "sectorPlays", inPlace := ["internal/abi.NoEscape", "internal/bytealg.MakeNoZero"], unfollowed := true, recurses := true, apart := false }
def SectorPlaysSaid : Prop := sectorPlaysRow.holds Try.pinned (OpenSpec.ofChange sectorPlaysSpec)

/-- ITS FALSE NEIGHBOUR: 'it returns false'. Refute it at one input. -/
def sectorPlaysWrong : ChangeSpec := { name := "sectorPlays", fn := fun _ => fun
  | [d1, d2] => { results := [.lit (.bool false)], args := [d1, d2] }
  | _ => none }
def SectorPlaysWrongFalsely : Prop := sectorPlaysRow.holds Try.pinned (OpenSpec.ofChange sectorPlaysWrong)

/-- 'scriniumlaw05.SectorLasts': WHATEVER THE INPUT: true; the input reads as it did. -/
def sectorLastsSpec : ChangeSpec := { name := "sectorLasts", fn := fun _ => fun
  | [d1, d2, d3] => { results := [.lit (.bool true)], args := [d1, d2, d3] }
  | _ => none }
def sectorLastsRow : OpenClaim := { program := "ytkoojbbimjjndaa", sum := "d5319f9473f061ac93f49b5836b17da908e5b73208593a0b2dc9f8ef1fa807f6", func := "scrinium/scriniumlaw05.SectorLasts", spec := "sectorLasts", inPlace := ["internal/abi.NoEscape", "internal/bytealg.MakeNoZero"], unfollowed := true, recurses := true, apart := false }
def SectorLastsSaid : Prop := sectorLastsRow.holds Try.pinned (OpenSpec.ofChange sectorLastsSpec)

/-- ITS FALSE NEIGHBOUR: 'it returns false'. Refute it at one input. -/
def sectorLastsWrong : ChangeSpec := { name := "sectorLasts", fn := fun _ => fun
  | [d1, d2, d3] => { results := [.lit (.bool false)], args := [d1, d2, d3] }
  | _ => none }
def SectorLastsWrongFalsely : Prop := sectorLastsRow.holds Try.pinned (OpenSpec.ofChange sectorLastsWrong)

/-- 'scriniumlaw05.SectorArms': WHATEVER THE INPUT: true; the input reads as it did. -/
def sectorArmsSpec : ChangeSpec := { name := "sectorArms", fn := fun _ => fun
  | [d1, d2] => { results := [.lit (.bool true)], args := [d1, d2] }
  | _ => none }
def sectorArmsRow : OpenClaim := { program := "ytkoojbbimjjndaa", sum := "d5319f9473f061ac93f49b5836b17da908e5b73208593a0b2dc9f8ef1fa807f6", func := "scrinium/scriniumlaw05.SectorArms", spec := "sectorArms", inPlace := ["internal/abi.NoEscape", "internal/bytealg.MakeNoZero"], unfollowed := true, recurses := true, apart := false }
def SectorArmsSaid : Prop := sectorArmsRow.holds Try.pinned (OpenSpec.ofChange sectorArmsSpec)

/-- ITS FALSE NEIGHBOUR: 'it returns false'. Refute it at one input. -/
def sectorArmsWrong : ChangeSpec := { name := "sectorArms", fn := fun _ => fun
  | [d1, d2] => { results := [.lit (.bool false)], args := [d1, d2] }
  | _ => none }
def SectorArmsWrongFalsely : Prop := sectorArmsRow.holds Try.pinned (OpenSpec.ofChange sectorArmsWrong)

/-- 'scriniumlaw05.SectorOne': WHATEVER THE INPUT: true; the input reads as it did. -/
def sectorOneSpec : ChangeSpec := { name := "sectorOne", fn := fun _ => fun
  | [d1, d2, d3] => { results := [.lit (.bool true)], args := [d1, d2, d3] }
  | _ => none }
def sectorOneRow : OpenClaim := { program := "ytkoojbbimjjndaa", sum := "d5319f9473f061ac93f49b5836b17da908e5b73208593a0b2dc9f8ef1fa807f6", func := "scrinium/scriniumlaw05.SectorOne", spec := "sectorOne", inPlace := ["internal/abi.NoEscape", "internal/bytealg.MakeNoZero"], unfollowed := true, recurses := true, apart := false }
def SectorOneSaid : Prop := sectorOneRow.holds Try.pinned (OpenSpec.ofChange sectorOneSpec)

/-- ITS FALSE NEIGHBOUR: 'it returns false'. Refute it at one input. -/
def sectorOneWrong : ChangeSpec := { name := "sectorOne", fn := fun _ => fun
  | [d1, d2, d3] => { results := [.lit (.bool false)], args := [d1, d2, d3] }
  | _ => none }
def SectorOneWrongFalsely : Prop := sectorOneRow.holds Try.pinned (OpenSpec.ofChange sectorOneWrong)

/-- 'scriniumlaw05.SectorNil': WHATEVER THE INPUT: true; the input reads as it did. -/
def sectorNilSpec : ChangeSpec := { name := "sectorNil", fn := fun _ => fun
  | [d] => { results := [.lit (.bool true)], args := [d] }
  | _ => none }
def sectorNilRow : OpenClaim := { program := "ytkoojbbimjjndaa", sum := "d5319f9473f061ac93f49b5836b17da908e5b73208593a0b2dc9f8ef1fa807f6", func := "scrinium/scriniumlaw05.SectorNil", spec := "sectorNil", inPlace := ["internal/abi.NoEscape", "internal/bytealg.MakeNoZero"], unfollowed := true, recurses := true, apart := false }
def SectorNilSaid : Prop := sectorNilRow.holds Try.pinned (OpenSpec.ofChange sectorNilSpec)

/-- ITS FALSE NEIGHBOUR: 'it returns false'. Refute it at one input. -/
def sectorNilWrong : ChangeSpec := { name := "sectorNil", fn := fun _ => fun
  | [d] => { results := [.lit (.bool false)], args := [d] }
  | _ => none }
def SectorNilWrongFalsely : Prop := sectorNilRow.holds Try.pinned (OpenSpec.ofChange sectorNilWrong)

/-- 'scriniumlaw05.SectorApart': WHATEVER THE INPUT: true; the input reads as it did. -/
def sectorApartSpec : ChangeSpec := { name := "sectorApart", fn := fun _ => fun
  | [d1, d2] => { results := [.lit (.bool true)], args := [d1, d2] }
  | _ => none }
def sectorApartRow : OpenClaim := { program := "ytkoojbbimjjndaa", sum := "d5319f9473f061ac93f49b5836b17da908e5b73208593a0b2dc9f8ef1fa807f6", func := "scrinium/scriniumlaw05.SectorApart", spec := "sectorApart", inPlace := ["internal/abi.NoEscape", "internal/bytealg.MakeNoZero"], unfollowed := true, recurses := true, apart := false }
def SectorApartSaid : Prop := sectorApartRow.holds Try.pinned (OpenSpec.ofChange sectorApartSpec)

/-- ITS FALSE NEIGHBOUR: 'it returns false'. Refute it at one input. -/
def sectorApartWrong : ChangeSpec := { name := "sectorApart", fn := fun _ => fun
  | [d1, d2] => { results := [.lit (.bool false)], args := [d1, d2] }
  | _ => none }
def SectorApartWrongFalsely : Prop := sectorApartRow.holds Try.pinned (OpenSpec.ofChange sectorApartWrong)

/- THE SECOND FORM. 'bulk': how many values and letters a reading holds, each counted each time it is reached (what is shared counts as often as it is met; a slice's spare places count too). A statement '..UptoSaid' is the law's where the arguments, and the package variables that the reading takes, are together of bulk at most 1048576: NARROWER than '..Said'. Prove '..Said' where nothing that the law and all that it calls make is longer than what came in: it says more and counts as full. Else prove '..UptoSaid'. A law counts once. -/
mutual
def uptoBulk {H : Type} : DataW H → Nat
  | .lit (.string bytes) => bytes.length + 1
  | .lit _ => 1
  | .nil => 1
  | .ptr d => uptoBulk d + 1
  | .slice elems spare => uptoBulkAll elems + uptoBulkAll spare + 1
  | .agg parts => uptoBulkAll parts + 1
  | .iface _ d => uptoBulk d + 1
  | .map entries => uptoBulkEntries entries + 1
  | .held _ => 1
def uptoBulkAll {H : Type} : List (DataW H) → Nat
  | [] => 0
  | d :: r => uptoBulk d + uptoBulkAll r
def uptoBulkEntries {H : Type} : List (Lit × DataW H) → Nat
  | [] => 0
  | x :: r => uptoBulkEntry x + uptoBulkEntries r
def uptoBulkEntry {H : Type} : Lit × DataW H → Nat
  | (.string bytes, d) => bytes.length + uptoBulk d + 1
  | (_, d) => uptoBulk d + 1
 end
def uptoSmall : (H : Type) → List (DataW H) → Bool := fun _ ds => decide (uptoBulkAll ds ≤ 1048576)
def OpenSpec.upto (s : _root_.Go.ChangeSpec) : _root_.Go.OpenSpec := { _root_.Go.OpenSpec.ofChange s with cond := some uptoSmall }

/-- 'scriniumlaw05.SectorFills', WHERE WHAT IT READS IS OF BULK AT MOST 1048576: true; the input reads as it did. -/
def sectorFillsUptoRow : OpenClaim := { program := "ytkoojbbimjjndaa", sum := "d5319f9473f061ac93f49b5836b17da908e5b73208593a0b2dc9f8ef1fa807f6", func := "scrinium/scriniumlaw05.SectorFills", spec := "sectorFills", inPlace := ["internal/abi.NoEscape", "internal/bytealg.MakeNoZero"], unfollowed := true, recurses := true, apart := false, narrowed := true }
def SectorFillsUptoSaid : Prop := sectorFillsUptoRow.holds Try.pinned (OpenSpec.upto sectorFillsSpec)

/-- 'scriniumlaw05.SectorPlays', WHERE WHAT IT READS IS OF BULK AT MOST 1048576: true; the input reads as it did. -/
def sectorPlaysUptoRow : OpenClaim := { program := "ytkoojbbimjjndaa", sum := "d5319f9473f061ac93f49b5836b17da908e5b73208593a0b2dc9f8ef1fa807f6", func := "scrinium/scriniumlaw05.SectorPlays", spec := "sectorPlays", inPlace := ["internal/abi.NoEscape", "internal/bytealg.MakeNoZero"], unfollowed := true, recurses := true, apart := false, narrowed := true }
def SectorPlaysUptoSaid : Prop := sectorPlaysUptoRow.holds Try.pinned (OpenSpec.upto sectorPlaysSpec)

/-- 'scriniumlaw05.SectorLasts', WHERE WHAT IT READS IS OF BULK AT MOST 1048576: true; the input reads as it did. -/
def sectorLastsUptoRow : OpenClaim := { program := "ytkoojbbimjjndaa", sum := "d5319f9473f061ac93f49b5836b17da908e5b73208593a0b2dc9f8ef1fa807f6", func := "scrinium/scriniumlaw05.SectorLasts", spec := "sectorLasts", inPlace := ["internal/abi.NoEscape", "internal/bytealg.MakeNoZero"], unfollowed := true, recurses := true, apart := false, narrowed := true }
def SectorLastsUptoSaid : Prop := sectorLastsUptoRow.holds Try.pinned (OpenSpec.upto sectorLastsSpec)

/-- 'scriniumlaw05.SectorArms', WHERE WHAT IT READS IS OF BULK AT MOST 1048576: true; the input reads as it did. -/
def sectorArmsUptoRow : OpenClaim := { program := "ytkoojbbimjjndaa", sum := "d5319f9473f061ac93f49b5836b17da908e5b73208593a0b2dc9f8ef1fa807f6", func := "scrinium/scriniumlaw05.SectorArms", spec := "sectorArms", inPlace := ["internal/abi.NoEscape", "internal/bytealg.MakeNoZero"], unfollowed := true, recurses := true, apart := false, narrowed := true }
def SectorArmsUptoSaid : Prop := sectorArmsUptoRow.holds Try.pinned (OpenSpec.upto sectorArmsSpec)

/-- 'scriniumlaw05.SectorOne', WHERE WHAT IT READS IS OF BULK AT MOST 1048576: true; the input reads as it did. -/
def sectorOneUptoRow : OpenClaim := { program := "ytkoojbbimjjndaa", sum := "d5319f9473f061ac93f49b5836b17da908e5b73208593a0b2dc9f8ef1fa807f6", func := "scrinium/scriniumlaw05.SectorOne", spec := "sectorOne", inPlace := ["internal/abi.NoEscape", "internal/bytealg.MakeNoZero"], unfollowed := true, recurses := true, apart := false, narrowed := true }
def SectorOneUptoSaid : Prop := sectorOneUptoRow.holds Try.pinned (OpenSpec.upto sectorOneSpec)

/-- 'scriniumlaw05.SectorNil', WHERE WHAT IT READS IS OF BULK AT MOST 1048576: true; the input reads as it did. -/
def sectorNilUptoRow : OpenClaim := { program := "ytkoojbbimjjndaa", sum := "d5319f9473f061ac93f49b5836b17da908e5b73208593a0b2dc9f8ef1fa807f6", func := "scrinium/scriniumlaw05.SectorNil", spec := "sectorNil", inPlace := ["internal/abi.NoEscape", "internal/bytealg.MakeNoZero"], unfollowed := true, recurses := true, apart := false, narrowed := true }
def SectorNilUptoSaid : Prop := sectorNilUptoRow.holds Try.pinned (OpenSpec.upto sectorNilSpec)

/-- 'scriniumlaw05.SectorApart', WHERE WHAT IT READS IS OF BULK AT MOST 1048576: true; the input reads as it did. -/
def sectorApartUptoRow : OpenClaim := { program := "ytkoojbbimjjndaa", sum := "d5319f9473f061ac93f49b5836b17da908e5b73208593a0b2dc9f8ef1fa807f6", func := "scrinium/scriniumlaw05.SectorApart", spec := "sectorApart", inPlace := ["internal/abi.NoEscape", "internal/bytealg.MakeNoZero"], unfollowed := true, recurses := true, apart := false, narrowed := true }
def SectorApartUptoSaid : Prop := sectorApartUptoRow.holds Try.pinned (OpenSpec.upto sectorApartSpec)

end Rows
end Go.Proofs.Ytkoojbbimjjndaa
