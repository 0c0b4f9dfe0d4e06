/-
  NARROWER THAN 'FOR EVERY INPUT', by the rows' own cells (each row's printed sentence says how): ProofFolds: laid · ProofTells: laid · ProofLeaves: laid · ProofTrees: laid · ProofOne: laid · ProofSizes: laid · ProofSame: laid.
  DERIVED. THE GIVEN ROWS OF THIS SEAT. 7 by the template 'for every input the law returns true; each argument reads behind the call as it read before'; 0 by the template 'total and deterministic' (their statements: YtjdhcncjcencbaaDoorTotals.lean).
  GIVEN WITH THE SEED: the statements are not yours to turn. If you find one false, say at which input.
  Laid BY PROGRAM, IN A SANDBOX (cutbox-rows.mjs): the forced cells as the released guide's own fill.sh prints them over the translation ac61cb09e8500aeb… (all of the seat's roots in one cut). By AI agents, Wed Nov 11 2026. No macro, syntax, notation, axiom, sorry.
-/
import Derived.Test.YtjdhcncjcencbaaDoorChecked
import GoSem.Claim
import GoSem.ClaimJoined
import GoSem.ClaimMapViews
import Derived.JoinedTies
import Derived.KernelRfl
namespace Go.Proofs.YtjdhcncjcencbaaDoor
/- THE CELL 'sum', in the pinned program and in every row, IS THE sha256 OF THE DUMP (.gsa) THAT YtjdhcncjcencbaaDoorProg.lean LOADS. Nothing in Lean hashes anything: it is a label: what it is worth is what the hold of that sum in a sandbox is worth. -/
noncomputable def Tryd.pinned : Pinned := { name := "ytjdhcncjcencbaadoor", sum := "ac61cb09e8500aeb406da5f69d32a1ed28ad5ca0fc60ca85d915cd674041a492", checked := Tryd.checked }
namespace Rows
def none {H : Type} : Left H := { results := [], args := [] }

/- WHAT THE LISTED PACKAGE-LEVEL VARIABLES READ AS WHEN THE CALL BEGINS. Each datum BY PROGRAM (the guide's laid-datum.mjs) off the statement by which the dump's own 'gosem.cut.vars' lays the variable. In a bare row this is a premise. The card (YtjdhcncjcencbaaDoorCards.lean) ties it to the program's text. -/
def laid_scrinium_sha_k {H : Type} : DataW H := .agg [.lit (.int .u32 1116352408), .lit (.int .u32 1899447441), .lit (.int .u32 3049323471), .lit (.int .u32 3921009573), .lit (.int .u32 961987163), .lit (.int .u32 1508970993), .lit (.int .u32 2453635748), .lit (.int .u32 2870763221), .lit (.int .u32 3624381080), .lit (.int .u32 310598401), .lit (.int .u32 607225278), .lit (.int .u32 1426881987), .lit (.int .u32 1925078388), .lit (.int .u32 2162078206), .lit (.int .u32 2614888103), .lit (.int .u32 3248222580), .lit (.int .u32 3835390401), .lit (.int .u32 4022224774), .lit (.int .u32 264347078), .lit (.int .u32 604807628), .lit (.int .u32 770255983), .lit (.int .u32 1249150122), .lit (.int .u32 1555081692), .lit (.int .u32 1996064986), .lit (.int .u32 2554220882), .lit (.int .u32 2821834349), .lit (.int .u32 2952996808), .lit (.int .u32 3210313671), .lit (.int .u32 3336571891), .lit (.int .u32 3584528711), .lit (.int .u32 113926993), .lit (.int .u32 338241895), .lit (.int .u32 666307205), .lit (.int .u32 773529912), .lit (.int .u32 1294757372), .lit (.int .u32 1396182291), .lit (.int .u32 1695183700), .lit (.int .u32 1986661051), .lit (.int .u32 2177026350), .lit (.int .u32 2456956037), .lit (.int .u32 2730485921), .lit (.int .u32 2820302411), .lit (.int .u32 3259730800), .lit (.int .u32 3345764771), .lit (.int .u32 3516065817), .lit (.int .u32 3600352804), .lit (.int .u32 4094571909), .lit (.int .u32 275423344), .lit (.int .u32 430227734), .lit (.int .u32 506948616), .lit (.int .u32 659060556), .lit (.int .u32 883997877), .lit (.int .u32 958139571), .lit (.int .u32 1322822218), .lit (.int .u32 1537002063), .lit (.int .u32 1747873779), .lit (.int .u32 1955562222), .lit (.int .u32 2024104815), .lit (.int .u32 2227730452), .lit (.int .u32 2361852424), .lit (.int .u32 2428436474), .lit (.int .u32 2756734187), .lit (.int .u32 3204031479), .lit (.int .u32 3329325298)]

/-- 'scriniumlaw12.ProofFolds': WHATEVER THE INPUT: true; the input reads as it did. -/
def proofFoldsSpec : ChangeSpec := { name := "proofFolds", fn := fun _ => fun
  | [d1, d2, d3] => { results := [.lit (.bool true)], args := [d1, d2, d3] }
  | _ => none }
def proofFoldsRow : OpenClaim := { program := "ytjdhcncjcencbaadoor", sum := "ac61cb09e8500aeb406da5f69d32a1ed28ad5ca0fc60ca85d915cd674041a492", func := "scrinium/scriniumlaw12.ProofFolds", spec := "proofFolds", unfollowed := true, recurses := true, named := ["scrinium/sha.k"], apart := false, laid := [("scrinium/sha.k", laid_scrinium_sha_k)] }
def ProofFoldsSaid : Prop := proofFoldsRow.holds Tryd.pinned (OpenSpec.ofChange proofFoldsSpec)

/-- ITS FALSE NEIGHBOUR: 'it returns false'. Refute it at one input. -/
def proofFoldsWrong : ChangeSpec := { name := "proofFolds", fn := fun _ => fun
  | [d1, d2, d3] => { results := [.lit (.bool false)], args := [d1, d2, d3] }
  | _ => none }
def ProofFoldsWrongFalsely : Prop := proofFoldsRow.holds Tryd.pinned (OpenSpec.ofChange proofFoldsWrong)

/-- 'scriniumlaw12.ProofTells': WHATEVER THE INPUT: true; the input reads as it did. -/
def proofTellsSpec : ChangeSpec := { name := "proofTells", fn := fun _ => fun
  | [d1, d2, d3] => { results := [.lit (.bool true)], args := [d1, d2, d3] }
  | _ => none }
def proofTellsRow : OpenClaim := { program := "ytjdhcncjcencbaadoor", sum := "ac61cb09e8500aeb406da5f69d32a1ed28ad5ca0fc60ca85d915cd674041a492", func := "scrinium/scriniumlaw12.ProofTells", spec := "proofTells", unfollowed := true, recurses := true, named := ["scrinium/sha.k"], apart := false, laid := [("scrinium/sha.k", laid_scrinium_sha_k)] }
def ProofTellsSaid : Prop := proofTellsRow.holds Tryd.pinned (OpenSpec.ofChange proofTellsSpec)

/-- ITS FALSE NEIGHBOUR: 'it returns false'. Refute it at one input. -/
def proofTellsWrong : ChangeSpec := { name := "proofTells", fn := fun _ => fun
  | [d1, d2, d3] => { results := [.lit (.bool false)], args := [d1, d2, d3] }
  | _ => none }
def ProofTellsWrongFalsely : Prop := proofTellsRow.holds Tryd.pinned (OpenSpec.ofChange proofTellsWrong)

/-- 'scriniumlaw12.ProofLeaves': WHATEVER THE INPUT: true; the input reads as it did. -/
def proofLeavesSpec : ChangeSpec := { name := "proofLeaves", fn := fun _ => fun
  | [d1, d2] => { results := [.lit (.bool true)], args := [d1, d2] }
  | _ => none }
def proofLeavesRow : OpenClaim := { program := "ytjdhcncjcencbaadoor", sum := "ac61cb09e8500aeb406da5f69d32a1ed28ad5ca0fc60ca85d915cd674041a492", func := "scrinium/scriniumlaw12.ProofLeaves", spec := "proofLeaves", unfollowed := true, recurses := true, named := ["scrinium/sha.k"], apart := false, laid := [("scrinium/sha.k", laid_scrinium_sha_k)] }
def ProofLeavesSaid : Prop := proofLeavesRow.holds Tryd.pinned (OpenSpec.ofChange proofLeavesSpec)

/-- ITS FALSE NEIGHBOUR: 'it returns false'. Refute it at one input. -/
def proofLeavesWrong : ChangeSpec := { name := "proofLeaves", fn := fun _ => fun
  | [d1, d2] => { results := [.lit (.bool false)], args := [d1, d2] }
  | _ => none }
def ProofLeavesWrongFalsely : Prop := proofLeavesRow.holds Tryd.pinned (OpenSpec.ofChange proofLeavesWrong)

/-- 'scriniumlaw12.ProofTrees': WHATEVER THE INPUT: true; the input reads as it did. -/
def proofTreesSpec : ChangeSpec := { name := "proofTrees", fn := fun _ => fun
  | [d1, d2] => { results := [.lit (.bool true)], args := [d1, d2] }
  | _ => none }
def proofTreesRow : OpenClaim := { program := "ytjdhcncjcencbaadoor", sum := "ac61cb09e8500aeb406da5f69d32a1ed28ad5ca0fc60ca85d915cd674041a492", func := "scrinium/scriniumlaw12.ProofTrees", spec := "proofTrees", unfollowed := true, recurses := true, named := ["scrinium/sha.k"], apart := false, laid := [("scrinium/sha.k", laid_scrinium_sha_k)] }
def ProofTreesSaid : Prop := proofTreesRow.holds Tryd.pinned (OpenSpec.ofChange proofTreesSpec)

/-- ITS FALSE NEIGHBOUR: 'it returns false'. Refute it at one input. -/
def proofTreesWrong : ChangeSpec := { name := "proofTrees", fn := fun _ => fun
  | [d1, d2] => { results := [.lit (.bool false)], args := [d1, d2] }
  | _ => none }
def ProofTreesWrongFalsely : Prop := proofTreesRow.holds Tryd.pinned (OpenSpec.ofChange proofTreesWrong)

/-- 'scriniumlaw12.ProofOne': WHATEVER THE INPUT: true; the input reads as it did. -/
def proofOneSpec : ChangeSpec := { name := "proofOne", fn := fun _ => fun
  | [d1, d2, d3] => { results := [.lit (.bool true)], args := [d1, d2, d3] }
  | _ => none }
def proofOneRow : OpenClaim := { program := "ytjdhcncjcencbaadoor", sum := "ac61cb09e8500aeb406da5f69d32a1ed28ad5ca0fc60ca85d915cd674041a492", func := "scrinium/scriniumlaw12.ProofOne", spec := "proofOne", unfollowed := true, recurses := true, named := ["scrinium/sha.k"], apart := false, laid := [("scrinium/sha.k", laid_scrinium_sha_k)] }
def ProofOneSaid : Prop := proofOneRow.holds Tryd.pinned (OpenSpec.ofChange proofOneSpec)

/-- ITS FALSE NEIGHBOUR: 'it returns false'. Refute it at one input. -/
def proofOneWrong : ChangeSpec := { name := "proofOne", fn := fun _ => fun
  | [d1, d2, d3] => { results := [.lit (.bool false)], args := [d1, d2, d3] }
  | _ => none }
def ProofOneWrongFalsely : Prop := proofOneRow.holds Tryd.pinned (OpenSpec.ofChange proofOneWrong)

/-- 'scriniumlaw12.ProofSizes': WHATEVER THE INPUT: true; the input reads as it did. -/
def proofSizesSpec : ChangeSpec := { name := "proofSizes", fn := fun _ => fun
  | [d1, d2, d3] => { results := [.lit (.bool true)], args := [d1, d2, d3] }
  | _ => none }
def proofSizesRow : OpenClaim := { program := "ytjdhcncjcencbaadoor", sum := "ac61cb09e8500aeb406da5f69d32a1ed28ad5ca0fc60ca85d915cd674041a492", func := "scrinium/scriniumlaw12.ProofSizes", spec := "proofSizes", unfollowed := true, recurses := true, named := ["scrinium/sha.k"], apart := false, laid := [("scrinium/sha.k", laid_scrinium_sha_k)] }
def ProofSizesSaid : Prop := proofSizesRow.holds Tryd.pinned (OpenSpec.ofChange proofSizesSpec)

/-- ITS FALSE NEIGHBOUR: 'it returns false'. Refute it at one input. -/
def proofSizesWrong : ChangeSpec := { name := "proofSizes", fn := fun _ => fun
  | [d1, d2, d3] => { results := [.lit (.bool false)], args := [d1, d2, d3] }
  | _ => none }
def ProofSizesWrongFalsely : Prop := proofSizesRow.holds Tryd.pinned (OpenSpec.ofChange proofSizesWrong)

/-- 'scriniumlaw12.ProofSame': WHATEVER THE INPUT: true; the input reads as it did. -/
def proofSameSpec : ChangeSpec := { name := "proofSame", fn := fun _ => fun
  | [d1, d2, d3] => { results := [.lit (.bool true)], args := [d1, d2, d3] }
  | _ => none }
def proofSameRow : OpenClaim := { program := "ytjdhcncjcencbaadoor", sum := "ac61cb09e8500aeb406da5f69d32a1ed28ad5ca0fc60ca85d915cd674041a492", func := "scrinium/scriniumlaw12.ProofSame", spec := "proofSame", unfollowed := true, recurses := true, named := ["scrinium/sha.k"], apart := false, laid := [("scrinium/sha.k", laid_scrinium_sha_k)] }
def ProofSameSaid : Prop := proofSameRow.holds Tryd.pinned (OpenSpec.ofChange proofSameSpec)

/-- ITS FALSE NEIGHBOUR: 'it returns false'. Refute it at one input. -/
def proofSameWrong : ChangeSpec := { name := "proofSame", fn := fun _ => fun
  | [d1, d2, d3] => { results := [.lit (.bool false)], args := [d1, d2, d3] }
  | _ => none }
def ProofSameWrongFalsely : Prop := proofSameRow.holds Tryd.pinned (OpenSpec.ofChange proofSameWrong)

/- THE SECOND FORM. 'bulk': how many values and letters a reading holds, each counted each time it is reached (what is shared counts as often as it is met; a slice's spare places count too). A statement '..UptoSaid' is the law's where the arguments, and the package variables that the reading takes, are together of bulk at most 1048576: NARROWER than '..Said'. Prove '..Said' where nothing that the law and all that it calls make is longer than what came in: it says more and counts as full. Else prove '..UptoSaid'. A law counts once. -/
mutual
def uptoBulk {H : Type} : DataW H → Nat
  | .lit (.string bytes) => bytes.length + 1
  | .lit _ => 1
  | .nil => 1
  | .ptr d => uptoBulk d + 1
  | .slice elems spare => uptoBulkAll elems + uptoBulkAll spare + 1
  | .agg parts => uptoBulkAll parts + 1
  | .iface _ d => uptoBulk d + 1
  | .map entries => uptoBulkEntries entries + 1
  | .held _ => 1
def uptoBulkAll {H : Type} : List (DataW H) → Nat
  | [] => 0
  | d :: r => uptoBulk d + uptoBulkAll r
def uptoBulkEntries {H : Type} : List (Lit × DataW H) → Nat
  | [] => 0
  | x :: r => uptoBulkEntry x + uptoBulkEntries r
def uptoBulkEntry {H : Type} : Lit × DataW H → Nat
  | (.string bytes, d) => bytes.length + uptoBulk d + 1
  | (_, d) => uptoBulk d + 1
 end
def uptoSmall : (H : Type) → List (DataW H) → Bool := fun _ ds => decide (uptoBulkAll ds ≤ 1048576)
def OpenSpec.upto (s : _root_.Go.ChangeSpec) : _root_.Go.OpenSpec := { _root_.Go.OpenSpec.ofChange s with cond := some uptoSmall }

/-- 'scriniumlaw12.ProofFolds', WHERE WHAT IT READS IS OF BULK AT MOST 1048576: true; the input reads as it did. -/
def proofFoldsUptoRow : OpenClaim := { program := "ytjdhcncjcencbaadoor", sum := "ac61cb09e8500aeb406da5f69d32a1ed28ad5ca0fc60ca85d915cd674041a492", func := "scrinium/scriniumlaw12.ProofFolds", spec := "proofFolds", unfollowed := true, recurses := true, named := ["scrinium/sha.k"], apart := false, laid := [("scrinium/sha.k", laid_scrinium_sha_k)], narrowed := true }
def ProofFoldsUptoSaid : Prop := proofFoldsUptoRow.holds Tryd.pinned (OpenSpec.upto proofFoldsSpec)

/-- 'scriniumlaw12.ProofTells', WHERE WHAT IT READS IS OF BULK AT MOST 1048576: true; the input reads as it did. -/
def proofTellsUptoRow : OpenClaim := { program := "ytjdhcncjcencbaadoor", sum := "ac61cb09e8500aeb406da5f69d32a1ed28ad5ca0fc60ca85d915cd674041a492", func := "scrinium/scriniumlaw12.ProofTells", spec := "proofTells", unfollowed := true, recurses := true, named := ["scrinium/sha.k"], apart := false, laid := [("scrinium/sha.k", laid_scrinium_sha_k)], narrowed := true }
def ProofTellsUptoSaid : Prop := proofTellsUptoRow.holds Tryd.pinned (OpenSpec.upto proofTellsSpec)

/-- 'scriniumlaw12.ProofLeaves', WHERE WHAT IT READS IS OF BULK AT MOST 1048576: true; the input reads as it did. -/
def proofLeavesUptoRow : OpenClaim := { program := "ytjdhcncjcencbaadoor", sum := "ac61cb09e8500aeb406da5f69d32a1ed28ad5ca0fc60ca85d915cd674041a492", func := "scrinium/scriniumlaw12.ProofLeaves", spec := "proofLeaves", unfollowed := true, recurses := true, named := ["scrinium/sha.k"], apart := false, laid := [("scrinium/sha.k", laid_scrinium_sha_k)], narrowed := true }
def ProofLeavesUptoSaid : Prop := proofLeavesUptoRow.holds Tryd.pinned (OpenSpec.upto proofLeavesSpec)

/-- 'scriniumlaw12.ProofTrees', WHERE WHAT IT READS IS OF BULK AT MOST 1048576: true; the input reads as it did. -/
def proofTreesUptoRow : OpenClaim := { program := "ytjdhcncjcencbaadoor", sum := "ac61cb09e8500aeb406da5f69d32a1ed28ad5ca0fc60ca85d915cd674041a492", func := "scrinium/scriniumlaw12.ProofTrees", spec := "proofTrees", unfollowed := true, recurses := true, named := ["scrinium/sha.k"], apart := false, laid := [("scrinium/sha.k", laid_scrinium_sha_k)], narrowed := true }
def ProofTreesUptoSaid : Prop := proofTreesUptoRow.holds Tryd.pinned (OpenSpec.upto proofTreesSpec)

/-- 'scriniumlaw12.ProofOne', WHERE WHAT IT READS IS OF BULK AT MOST 1048576: true; the input reads as it did. -/
def proofOneUptoRow : OpenClaim := { program := "ytjdhcncjcencbaadoor", sum := "ac61cb09e8500aeb406da5f69d32a1ed28ad5ca0fc60ca85d915cd674041a492", func := "scrinium/scriniumlaw12.ProofOne", spec := "proofOne", unfollowed := true, recurses := true, named := ["scrinium/sha.k"], apart := false, laid := [("scrinium/sha.k", laid_scrinium_sha_k)], narrowed := true }
def ProofOneUptoSaid : Prop := proofOneUptoRow.holds Tryd.pinned (OpenSpec.upto proofOneSpec)

/-- 'scriniumlaw12.ProofSizes', WHERE WHAT IT READS IS OF BULK AT MOST 1048576: true; the input reads as it did. -/
def proofSizesUptoRow : OpenClaim := { program := "ytjdhcncjcencbaadoor", sum := "ac61cb09e8500aeb406da5f69d32a1ed28ad5ca0fc60ca85d915cd674041a492", func := "scrinium/scriniumlaw12.ProofSizes", spec := "proofSizes", unfollowed := true, recurses := true, named := ["scrinium/sha.k"], apart := false, laid := [("scrinium/sha.k", laid_scrinium_sha_k)], narrowed := true }
def ProofSizesUptoSaid : Prop := proofSizesUptoRow.holds Tryd.pinned (OpenSpec.upto proofSizesSpec)

/-- 'scriniumlaw12.ProofSame', WHERE WHAT IT READS IS OF BULK AT MOST 1048576: true; the input reads as it did. -/
def proofSameUptoRow : OpenClaim := { program := "ytjdhcncjcencbaadoor", sum := "ac61cb09e8500aeb406da5f69d32a1ed28ad5ca0fc60ca85d915cd674041a492", func := "scrinium/scriniumlaw12.ProofSame", spec := "proofSame", unfollowed := true, recurses := true, named := ["scrinium/sha.k"], apart := false, laid := [("scrinium/sha.k", laid_scrinium_sha_k)], narrowed := true }
def ProofSameUptoSaid : Prop := proofSameUptoRow.holds Tryd.pinned (OpenSpec.upto proofSameSpec)

end Rows
end Go.Proofs.YtjdhcncjcencbaaDoor
