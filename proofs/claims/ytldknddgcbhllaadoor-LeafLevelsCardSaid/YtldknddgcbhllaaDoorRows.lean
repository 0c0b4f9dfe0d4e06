/-
  NARROWER THAN 'FOR EVERY INPUT', by the rows' own cells (each row's printed sentence says how): LeafHashes: laid · LeafRoots: laid · LeafLevels: laid · LeafTops: laid · LeafSplits: laid · LeafCounts: laid · LeafApart: laid.
  DERIVED. THE GIVEN ROWS OF THIS SEAT. 7 by the template 'for every input the law returns true; each argument reads behind the call as it read before'; 0 by the template 'total and deterministic' (their statements: YtldknddgcbhllaaDoorTotals.lean).
  GIVEN WITH THE SEED: the statements are not yours to turn. If you find one false, say at which input.
  Laid BY PROGRAM, IN A SANDBOX (cutbox-rows.mjs): the forced cells as the released guide's own fill.sh prints them over the translation 3975803ce1a2bc53… (all of the seat's roots in one cut). By AI agents, Wed Nov 11 2026. No macro, syntax, notation, axiom, sorry.
-/
import Derived.Test.YtldknddgcbhllaaDoorChecked
import GoSem.Claim
import GoSem.ClaimJoined
import GoSem.ClaimMapViews
import Derived.JoinedTies
import Derived.KernelRfl
namespace Go.Proofs.YtldknddgcbhllaaDoor
/- THE CELL 'sum', in the pinned program and in every row, IS THE sha256 OF THE DUMP (.gsa) THAT YtldknddgcbhllaaDoorProg.lean LOADS. Nothing in Lean hashes anything: it is a label: what it is worth is what the hold of that sum in a sandbox is worth. -/
noncomputable def Tryd.pinned : Pinned := { name := "ytldknddgcbhllaadoor", sum := "3975803ce1a2bc537e448183a2a2f95bc071d5e29cb86ced40c86090555be366", checked := Tryd.checked }
namespace Rows
def none {H : Type} : Left H := { results := [], args := [] }

/- WHAT THE LISTED PACKAGE-LEVEL VARIABLES READ AS WHEN THE CALL BEGINS. Each datum BY PROGRAM (the guide's laid-datum.mjs) off the statement by which the dump's own 'gosem.cut.vars' lays the variable. In a bare row this is a premise. The card (YtldknddgcbhllaaDoorCards.lean) ties it to the program's text. -/
def laid_scrinium_sha_k {H : Type} : DataW H := .agg [.lit (.int .u32 1116352408), .lit (.int .u32 1899447441), .lit (.int .u32 3049323471), .lit (.int .u32 3921009573), .lit (.int .u32 961987163), .lit (.int .u32 1508970993), .lit (.int .u32 2453635748), .lit (.int .u32 2870763221), .lit (.int .u32 3624381080), .lit (.int .u32 310598401), .lit (.int .u32 607225278), .lit (.int .u32 1426881987), .lit (.int .u32 1925078388), .lit (.int .u32 2162078206), .lit (.int .u32 2614888103), .lit (.int .u32 3248222580), .lit (.int .u32 3835390401), .lit (.int .u32 4022224774), .lit (.int .u32 264347078), .lit (.int .u32 604807628), .lit (.int .u32 770255983), .lit (.int .u32 1249150122), .lit (.int .u32 1555081692), .lit (.int .u32 1996064986), .lit (.int .u32 2554220882), .lit (.int .u32 2821834349), .lit (.int .u32 2952996808), .lit (.int .u32 3210313671), .lit (.int .u32 3336571891), .lit (.int .u32 3584528711), .lit (.int .u32 113926993), .lit (.int .u32 338241895), .lit (.int .u32 666307205), .lit (.int .u32 773529912), .lit (.int .u32 1294757372), .lit (.int .u32 1396182291), .lit (.int .u32 1695183700), .lit (.int .u32 1986661051), .lit (.int .u32 2177026350), .lit (.int .u32 2456956037), .lit (.int .u32 2730485921), .lit (.int .u32 2820302411), .lit (.int .u32 3259730800), .lit (.int .u32 3345764771), .lit (.int .u32 3516065817), .lit (.int .u32 3600352804), .lit (.int .u32 4094571909), .lit (.int .u32 275423344), .lit (.int .u32 430227734), .lit (.int .u32 506948616), .lit (.int .u32 659060556), .lit (.int .u32 883997877), .lit (.int .u32 958139571), .lit (.int .u32 1322822218), .lit (.int .u32 1537002063), .lit (.int .u32 1747873779), .lit (.int .u32 1955562222), .lit (.int .u32 2024104815), .lit (.int .u32 2227730452), .lit (.int .u32 2361852424), .lit (.int .u32 2428436474), .lit (.int .u32 2756734187), .lit (.int .u32 3204031479), .lit (.int .u32 3329325298)]

/-- 'scriniumlaw09.LeafHashes': WHATEVER THE INPUT: true; the input reads as it did. -/
def leafHashesSpec : ChangeSpec := { name := "leafHashes", fn := fun _ => fun
  | [d1, d2, d3] => { results := [.lit (.bool true)], args := [d1, d2, d3] }
  | _ => none }
def leafHashesRow : OpenClaim := { program := "ytldknddgcbhllaadoor", sum := "3975803ce1a2bc537e448183a2a2f95bc071d5e29cb86ced40c86090555be366", func := "scrinium/scriniumlaw09.LeafHashes", spec := "leafHashes", unfollowed := true, recurses := true, named := ["scrinium/sha.k"], apart := false, laid := [("scrinium/sha.k", laid_scrinium_sha_k)] }
def LeafHashesSaid : Prop := leafHashesRow.holds Tryd.pinned (OpenSpec.ofChange leafHashesSpec)

/-- ITS FALSE NEIGHBOUR: 'it returns false'. Refute it at one input. -/
def leafHashesWrong : ChangeSpec := { name := "leafHashes", fn := fun _ => fun
  | [d1, d2, d3] => { results := [.lit (.bool false)], args := [d1, d2, d3] }
  | _ => none }
def LeafHashesWrongFalsely : Prop := leafHashesRow.holds Tryd.pinned (OpenSpec.ofChange leafHashesWrong)

/-- 'scriniumlaw09.LeafRoots': WHATEVER THE INPUT: true; the input reads as it did. -/
def leafRootsSpec : ChangeSpec := { name := "leafRoots", fn := fun _ => fun
  | [d1, d2] => { results := [.lit (.bool true)], args := [d1, d2] }
  | _ => none }
def leafRootsRow : OpenClaim := { program := "ytldknddgcbhllaadoor", sum := "3975803ce1a2bc537e448183a2a2f95bc071d5e29cb86ced40c86090555be366", func := "scrinium/scriniumlaw09.LeafRoots", spec := "leafRoots", unfollowed := true, recurses := true, named := ["scrinium/sha.k"], apart := false, laid := [("scrinium/sha.k", laid_scrinium_sha_k)] }
def LeafRootsSaid : Prop := leafRootsRow.holds Tryd.pinned (OpenSpec.ofChange leafRootsSpec)

/-- ITS FALSE NEIGHBOUR: 'it returns false'. Refute it at one input. -/
def leafRootsWrong : ChangeSpec := { name := "leafRoots", fn := fun _ => fun
  | [d1, d2] => { results := [.lit (.bool false)], args := [d1, d2] }
  | _ => none }
def LeafRootsWrongFalsely : Prop := leafRootsRow.holds Tryd.pinned (OpenSpec.ofChange leafRootsWrong)

/-- 'scriniumlaw09.LeafLevels': WHATEVER THE INPUT: true; the input reads as it did. -/
def leafLevelsSpec : ChangeSpec := { name := "leafLevels", fn := fun _ => fun
  | [d] => { results := [.lit (.bool true)], args := [d] }
  | _ => none }
def leafLevelsRow : OpenClaim := { program := "ytldknddgcbhllaadoor", sum := "3975803ce1a2bc537e448183a2a2f95bc071d5e29cb86ced40c86090555be366", func := "scrinium/scriniumlaw09.LeafLevels", spec := "leafLevels", unfollowed := true, recurses := true, named := ["scrinium/sha.k"], apart := false, laid := [("scrinium/sha.k", laid_scrinium_sha_k)] }
def LeafLevelsSaid : Prop := leafLevelsRow.holds Tryd.pinned (OpenSpec.ofChange leafLevelsSpec)

/-- ITS FALSE NEIGHBOUR: 'it returns false'. Refute it at one input. -/
def leafLevelsWrong : ChangeSpec := { name := "leafLevels", fn := fun _ => fun
  | [d] => { results := [.lit (.bool false)], args := [d] }
  | _ => none }
def LeafLevelsWrongFalsely : Prop := leafLevelsRow.holds Tryd.pinned (OpenSpec.ofChange leafLevelsWrong)

/-- 'scriniumlaw09.LeafTops': WHATEVER THE INPUT: true; the input reads as it did. -/
def leafTopsSpec : ChangeSpec := { name := "leafTops", fn := fun _ => fun
  | [d1, d2] => { results := [.lit (.bool true)], args := [d1, d2] }
  | _ => none }
def leafTopsRow : OpenClaim := { program := "ytldknddgcbhllaadoor", sum := "3975803ce1a2bc537e448183a2a2f95bc071d5e29cb86ced40c86090555be366", func := "scrinium/scriniumlaw09.LeafTops", spec := "leafTops", unfollowed := true, recurses := true, named := ["scrinium/sha.k"], apart := false, laid := [("scrinium/sha.k", laid_scrinium_sha_k)] }
def LeafTopsSaid : Prop := leafTopsRow.holds Tryd.pinned (OpenSpec.ofChange leafTopsSpec)

/-- ITS FALSE NEIGHBOUR: 'it returns false'. Refute it at one input. -/
def leafTopsWrong : ChangeSpec := { name := "leafTops", fn := fun _ => fun
  | [d1, d2] => { results := [.lit (.bool false)], args := [d1, d2] }
  | _ => none }
def LeafTopsWrongFalsely : Prop := leafTopsRow.holds Tryd.pinned (OpenSpec.ofChange leafTopsWrong)

/-- 'scriniumlaw09.LeafSplits': WHATEVER THE INPUT: true; the input reads as it did. -/
def leafSplitsSpec : ChangeSpec := { name := "leafSplits", fn := fun _ => fun
  | [d] => { results := [.lit (.bool true)], args := [d] }
  | _ => none }
def leafSplitsRow : OpenClaim := { program := "ytldknddgcbhllaadoor", sum := "3975803ce1a2bc537e448183a2a2f95bc071d5e29cb86ced40c86090555be366", func := "scrinium/scriniumlaw09.LeafSplits", spec := "leafSplits", unfollowed := true, recurses := true, named := ["scrinium/sha.k"], apart := false, laid := [("scrinium/sha.k", laid_scrinium_sha_k)] }
def LeafSplitsSaid : Prop := leafSplitsRow.holds Tryd.pinned (OpenSpec.ofChange leafSplitsSpec)

/-- ITS FALSE NEIGHBOUR: 'it returns false'. Refute it at one input. -/
def leafSplitsWrong : ChangeSpec := { name := "leafSplits", fn := fun _ => fun
  | [d] => { results := [.lit (.bool false)], args := [d] }
  | _ => none }
def LeafSplitsWrongFalsely : Prop := leafSplitsRow.holds Tryd.pinned (OpenSpec.ofChange leafSplitsWrong)

/-- 'scriniumlaw09.LeafCounts': WHATEVER THE INPUT: true; the input reads as it did. -/
def leafCountsSpec : ChangeSpec := { name := "leafCounts", fn := fun _ => fun
  | [d] => { results := [.lit (.bool true)], args := [d] }
  | _ => none }
def leafCountsRow : OpenClaim := { program := "ytldknddgcbhllaadoor", sum := "3975803ce1a2bc537e448183a2a2f95bc071d5e29cb86ced40c86090555be366", func := "scrinium/scriniumlaw09.LeafCounts", spec := "leafCounts", unfollowed := true, recurses := true, named := ["scrinium/sha.k"], apart := false, laid := [("scrinium/sha.k", laid_scrinium_sha_k)] }
def LeafCountsSaid : Prop := leafCountsRow.holds Tryd.pinned (OpenSpec.ofChange leafCountsSpec)

/-- ITS FALSE NEIGHBOUR: 'it returns false'. Refute it at one input. -/
def leafCountsWrong : ChangeSpec := { name := "leafCounts", fn := fun _ => fun
  | [d] => { results := [.lit (.bool false)], args := [d] }
  | _ => none }
def LeafCountsWrongFalsely : Prop := leafCountsRow.holds Tryd.pinned (OpenSpec.ofChange leafCountsWrong)

/-- 'scriniumlaw09.LeafApart': WHATEVER THE INPUT: true; the input reads as it did. -/
def leafApartSpec : ChangeSpec := { name := "leafApart", fn := fun _ => fun
  | [d1, d2] => { results := [.lit (.bool true)], args := [d1, d2] }
  | _ => none }
def leafApartRow : OpenClaim := { program := "ytldknddgcbhllaadoor", sum := "3975803ce1a2bc537e448183a2a2f95bc071d5e29cb86ced40c86090555be366", func := "scrinium/scriniumlaw09.LeafApart", spec := "leafApart", unfollowed := true, recurses := true, named := ["scrinium/sha.k"], apart := false, laid := [("scrinium/sha.k", laid_scrinium_sha_k)] }
def LeafApartSaid : Prop := leafApartRow.holds Tryd.pinned (OpenSpec.ofChange leafApartSpec)

/-- ITS FALSE NEIGHBOUR: 'it returns false'. Refute it at one input. -/
def leafApartWrong : ChangeSpec := { name := "leafApart", fn := fun _ => fun
  | [d1, d2] => { results := [.lit (.bool false)], args := [d1, d2] }
  | _ => none }
def LeafApartWrongFalsely : Prop := leafApartRow.holds Tryd.pinned (OpenSpec.ofChange leafApartWrong)

/- THE SECOND FORM. 'bulk': how many values and letters a reading holds, each counted each time it is reached (what is shared counts as often as it is met; a slice's spare places count too). A statement '..UptoSaid' is the law's where the arguments, and the package variables that the reading takes, are together of bulk at most 1048576: NARROWER than '..Said'. Prove '..Said' where nothing that the law and all that it calls make is longer than what came in: it says more and counts as full. Else prove '..UptoSaid'. A law counts once. -/
mutual
def uptoBulk {H : Type} : DataW H → Nat
  | .lit (.string bytes) => bytes.length + 1
  | .lit _ => 1
  | .nil => 1
  | .ptr d => uptoBulk d + 1
  | .slice elems spare => uptoBulkAll elems + uptoBulkAll spare + 1
  | .agg parts => uptoBulkAll parts + 1
  | .iface _ d => uptoBulk d + 1
  | .map entries => uptoBulkEntries entries + 1
  | .held _ => 1
def uptoBulkAll {H : Type} : List (DataW H) → Nat
  | [] => 0
  | d :: r => uptoBulk d + uptoBulkAll r
def uptoBulkEntries {H : Type} : List (Lit × DataW H) → Nat
  | [] => 0
  | x :: r => uptoBulkEntry x + uptoBulkEntries r
def uptoBulkEntry {H : Type} : Lit × DataW H → Nat
  | (.string bytes, d) => bytes.length + uptoBulk d + 1
  | (_, d) => uptoBulk d + 1
 end
def uptoSmall : (H : Type) → List (DataW H) → Bool := fun _ ds => decide (uptoBulkAll ds ≤ 1048576)
def OpenSpec.upto (s : _root_.Go.ChangeSpec) : _root_.Go.OpenSpec := { _root_.Go.OpenSpec.ofChange s with cond := some uptoSmall }

/-- 'scriniumlaw09.LeafHashes', WHERE WHAT IT READS IS OF BULK AT MOST 1048576: true; the input reads as it did. -/
def leafHashesUptoRow : OpenClaim := { program := "ytldknddgcbhllaadoor", sum := "3975803ce1a2bc537e448183a2a2f95bc071d5e29cb86ced40c86090555be366", func := "scrinium/scriniumlaw09.LeafHashes", spec := "leafHashes", unfollowed := true, recurses := true, named := ["scrinium/sha.k"], apart := false, laid := [("scrinium/sha.k", laid_scrinium_sha_k)], narrowed := true }
def LeafHashesUptoSaid : Prop := leafHashesUptoRow.holds Tryd.pinned (OpenSpec.upto leafHashesSpec)

/-- 'scriniumlaw09.LeafRoots', WHERE WHAT IT READS IS OF BULK AT MOST 1048576: true; the input reads as it did. -/
def leafRootsUptoRow : OpenClaim := { program := "ytldknddgcbhllaadoor", sum := "3975803ce1a2bc537e448183a2a2f95bc071d5e29cb86ced40c86090555be366", func := "scrinium/scriniumlaw09.LeafRoots", spec := "leafRoots", unfollowed := true, recurses := true, named := ["scrinium/sha.k"], apart := false, laid := [("scrinium/sha.k", laid_scrinium_sha_k)], narrowed := true }
def LeafRootsUptoSaid : Prop := leafRootsUptoRow.holds Tryd.pinned (OpenSpec.upto leafRootsSpec)

/-- 'scriniumlaw09.LeafLevels', WHERE WHAT IT READS IS OF BULK AT MOST 1048576: true; the input reads as it did. -/
def leafLevelsUptoRow : OpenClaim := { program := "ytldknddgcbhllaadoor", sum := "3975803ce1a2bc537e448183a2a2f95bc071d5e29cb86ced40c86090555be366", func := "scrinium/scriniumlaw09.LeafLevels", spec := "leafLevels", unfollowed := true, recurses := true, named := ["scrinium/sha.k"], apart := false, laid := [("scrinium/sha.k", laid_scrinium_sha_k)], narrowed := true }
def LeafLevelsUptoSaid : Prop := leafLevelsUptoRow.holds Tryd.pinned (OpenSpec.upto leafLevelsSpec)

/-- 'scriniumlaw09.LeafTops', WHERE WHAT IT READS IS OF BULK AT MOST 1048576: true; the input reads as it did. -/
def leafTopsUptoRow : OpenClaim := { program := "ytldknddgcbhllaadoor", sum := "3975803ce1a2bc537e448183a2a2f95bc071d5e29cb86ced40c86090555be366", func := "scrinium/scriniumlaw09.LeafTops", spec := "leafTops", unfollowed := true, recurses := true, named := ["scrinium/sha.k"], apart := false, laid := [("scrinium/sha.k", laid_scrinium_sha_k)], narrowed := true }
def LeafTopsUptoSaid : Prop := leafTopsUptoRow.holds Tryd.pinned (OpenSpec.upto leafTopsSpec)

/-- 'scriniumlaw09.LeafSplits', WHERE WHAT IT READS IS OF BULK AT MOST 1048576: true; the input reads as it did. -/
def leafSplitsUptoRow : OpenClaim := { program := "ytldknddgcbhllaadoor", sum := "3975803ce1a2bc537e448183a2a2f95bc071d5e29cb86ced40c86090555be366", func := "scrinium/scriniumlaw09.LeafSplits", spec := "leafSplits", unfollowed := true, recurses := true, named := ["scrinium/sha.k"], apart := false, laid := [("scrinium/sha.k", laid_scrinium_sha_k)], narrowed := true }
def LeafSplitsUptoSaid : Prop := leafSplitsUptoRow.holds Tryd.pinned (OpenSpec.upto leafSplitsSpec)

/-- 'scriniumlaw09.LeafCounts', WHERE WHAT IT READS IS OF BULK AT MOST 1048576: true; the input reads as it did. -/
def leafCountsUptoRow : OpenClaim := { program := "ytldknddgcbhllaadoor", sum := "3975803ce1a2bc537e448183a2a2f95bc071d5e29cb86ced40c86090555be366", func := "scrinium/scriniumlaw09.LeafCounts", spec := "leafCounts", unfollowed := true, recurses := true, named := ["scrinium/sha.k"], apart := false, laid := [("scrinium/sha.k", laid_scrinium_sha_k)], narrowed := true }
def LeafCountsUptoSaid : Prop := leafCountsUptoRow.holds Tryd.pinned (OpenSpec.upto leafCountsSpec)

/-- 'scriniumlaw09.LeafApart', WHERE WHAT IT READS IS OF BULK AT MOST 1048576: true; the input reads as it did. -/
def leafApartUptoRow : OpenClaim := { program := "ytldknddgcbhllaadoor", sum := "3975803ce1a2bc537e448183a2a2f95bc071d5e29cb86ced40c86090555be366", func := "scrinium/scriniumlaw09.LeafApart", spec := "leafApart", unfollowed := true, recurses := true, named := ["scrinium/sha.k"], apart := false, laid := [("scrinium/sha.k", laid_scrinium_sha_k)], narrowed := true }
def LeafApartUptoSaid : Prop := leafApartUptoRow.holds Tryd.pinned (OpenSpec.upto leafApartSpec)

end Rows
end Go.Proofs.YtldknddgcbhllaaDoor
