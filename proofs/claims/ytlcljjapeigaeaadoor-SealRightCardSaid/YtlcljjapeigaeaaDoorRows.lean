/-
  NARROWER THAN 'FOR EVERY INPUT', by the rows' own cells (each row's printed sentence says how): SealBytes: laid · SealReads: laid · SealSigns: laid · SealRight: laid · SealOne: laid · SealKinds: laid.
  DERIVED. THE GIVEN ROWS OF THIS SEAT. 6 by the template 'for every input the law returns true; each argument reads behind the call as it read before'; 0 by the template 'total and deterministic' (their statements: YtlcljjapeigaeaaDoorTotals.lean).
  GIVEN WITH THE SEED: the statements are not yours to turn. If you find one false, say at which input.
  Laid BY PROGRAM, IN A SANDBOX (cutbox-rows.mjs): the forced cells as the released guide's own fill.sh prints them over the translation afb32d350a4f8291… (all of the seat's roots in one cut). By AI agents, Wed Nov 11 2026. No macro, syntax, notation, axiom, sorry.
-/
import Derived.Test.YtlcljjapeigaeaaDoorChecked
import GoSem.Claim
import GoSem.ClaimJoined
import GoSem.ClaimMapViews
import Derived.JoinedTies
import Derived.KernelRfl
namespace Go.Proofs.YtlcljjapeigaeaaDoor
/- THE CELL 'sum', in the pinned program and in every row, IS THE sha256 OF THE DUMP (.gsa) THAT YtlcljjapeigaeaaDoorProg.lean LOADS. Nothing in Lean hashes anything: it is a label: what it is worth is what the hold of that sum in a sandbox is worth. -/
noncomputable def Tryd.pinned : Pinned := { name := "ytlcljjapeigaeaadoor", sum := "afb32d350a4f8291e5d74dc630fc7af0e0b4b280835f5484a20e0e58066e399d", checked := Tryd.checked }
namespace Rows
def none {H : Type} : Left H := { results := [], args := [] }

/- WHAT THE LISTED PACKAGE-LEVEL VARIABLES READ AS WHEN THE CALL BEGINS. Each datum BY PROGRAM (the guide's laid-datum.mjs) off the statement by which the dump's own 'gosem.cut.vars' lays the variable. In a bare row this is a premise. The card (YtlcljjapeigaeaaDoorCards.lean) ties it to the program's text. -/
def laid_scrinium_sha_k {H : Type} : DataW H := .agg [.lit (.int .u32 1116352408), .lit (.int .u32 1899447441), .lit (.int .u32 3049323471), .lit (.int .u32 3921009573), .lit (.int .u32 961987163), .lit (.int .u32 1508970993), .lit (.int .u32 2453635748), .lit (.int .u32 2870763221), .lit (.int .u32 3624381080), .lit (.int .u32 310598401), .lit (.int .u32 607225278), .lit (.int .u32 1426881987), .lit (.int .u32 1925078388), .lit (.int .u32 2162078206), .lit (.int .u32 2614888103), .lit (.int .u32 3248222580), .lit (.int .u32 3835390401), .lit (.int .u32 4022224774), .lit (.int .u32 264347078), .lit (.int .u32 604807628), .lit (.int .u32 770255983), .lit (.int .u32 1249150122), .lit (.int .u32 1555081692), .lit (.int .u32 1996064986), .lit (.int .u32 2554220882), .lit (.int .u32 2821834349), .lit (.int .u32 2952996808), .lit (.int .u32 3210313671), .lit (.int .u32 3336571891), .lit (.int .u32 3584528711), .lit (.int .u32 113926993), .lit (.int .u32 338241895), .lit (.int .u32 666307205), .lit (.int .u32 773529912), .lit (.int .u32 1294757372), .lit (.int .u32 1396182291), .lit (.int .u32 1695183700), .lit (.int .u32 1986661051), .lit (.int .u32 2177026350), .lit (.int .u32 2456956037), .lit (.int .u32 2730485921), .lit (.int .u32 2820302411), .lit (.int .u32 3259730800), .lit (.int .u32 3345764771), .lit (.int .u32 3516065817), .lit (.int .u32 3600352804), .lit (.int .u32 4094571909), .lit (.int .u32 275423344), .lit (.int .u32 430227734), .lit (.int .u32 506948616), .lit (.int .u32 659060556), .lit (.int .u32 883997877), .lit (.int .u32 958139571), .lit (.int .u32 1322822218), .lit (.int .u32 1537002063), .lit (.int .u32 1747873779), .lit (.int .u32 1955562222), .lit (.int .u32 2024104815), .lit (.int .u32 2227730452), .lit (.int .u32 2361852424), .lit (.int .u32 2428436474), .lit (.int .u32 2756734187), .lit (.int .u32 3204031479), .lit (.int .u32 3329325298)]

/-- 'scriniumlaw16.SealBytes': WHATEVER THE INPUT: true; the input reads as it did. -/
def sealBytesSpec : ChangeSpec := { name := "sealBytes", fn := fun _ => fun
  | [d1, d2, d3] => { results := [.lit (.bool true)], args := [d1, d2, d3] }
  | _ => none }
def sealBytesRow : OpenClaim := { program := "ytlcljjapeigaeaadoor", sum := "afb32d350a4f8291e5d74dc630fc7af0e0b4b280835f5484a20e0e58066e399d", func := "scrinium/scriniumlaw16.SealBytes", spec := "sealBytes", inPlace := ["internal/abi.NoEscape", "internal/bytealg.MakeNoZero"], unfollowed := true, recurses := true, named := ["scrinium/sha.k"], apart := false, laid := [("scrinium/sha.k", laid_scrinium_sha_k)] }
def SealBytesSaid : Prop := sealBytesRow.holds Tryd.pinned (OpenSpec.ofChange sealBytesSpec)

/-- ITS FALSE NEIGHBOUR: 'it returns false'. Refute it at one input. -/
def sealBytesWrong : ChangeSpec := { name := "sealBytes", fn := fun _ => fun
  | [d1, d2, d3] => { results := [.lit (.bool false)], args := [d1, d2, d3] }
  | _ => none }
def SealBytesWrongFalsely : Prop := sealBytesRow.holds Tryd.pinned (OpenSpec.ofChange sealBytesWrong)

/-- 'scriniumlaw16.SealReads': WHATEVER THE INPUT: true; the input reads as it did. -/
def sealReadsSpec : ChangeSpec := { name := "sealReads", fn := fun _ => fun
  | [d] => { results := [.lit (.bool true)], args := [d] }
  | _ => none }
def sealReadsRow : OpenClaim := { program := "ytlcljjapeigaeaadoor", sum := "afb32d350a4f8291e5d74dc630fc7af0e0b4b280835f5484a20e0e58066e399d", func := "scrinium/scriniumlaw16.SealReads", spec := "sealReads", inPlace := ["internal/abi.NoEscape", "internal/bytealg.MakeNoZero"], unfollowed := true, recurses := true, named := ["scrinium/sha.k"], apart := false, laid := [("scrinium/sha.k", laid_scrinium_sha_k)] }
def SealReadsSaid : Prop := sealReadsRow.holds Tryd.pinned (OpenSpec.ofChange sealReadsSpec)

/-- ITS FALSE NEIGHBOUR: 'it returns false'. Refute it at one input. -/
def sealReadsWrong : ChangeSpec := { name := "sealReads", fn := fun _ => fun
  | [d] => { results := [.lit (.bool false)], args := [d] }
  | _ => none }
def SealReadsWrongFalsely : Prop := sealReadsRow.holds Tryd.pinned (OpenSpec.ofChange sealReadsWrong)

/-- 'scriniumlaw16.SealSigns': WHATEVER THE INPUT: true; the input reads as it did. -/
def sealSignsSpec : ChangeSpec := { name := "sealSigns", fn := fun _ => fun
  | [d1, d2, d3] => { results := [.lit (.bool true)], args := [d1, d2, d3] }
  | _ => none }
def sealSignsRow : OpenClaim := { program := "ytlcljjapeigaeaadoor", sum := "afb32d350a4f8291e5d74dc630fc7af0e0b4b280835f5484a20e0e58066e399d", func := "scrinium/scriniumlaw16.SealSigns", spec := "sealSigns", inPlace := ["internal/abi.NoEscape", "internal/bytealg.MakeNoZero"], unfollowed := true, recurses := true, named := ["scrinium/sha.k"], apart := false, laid := [("scrinium/sha.k", laid_scrinium_sha_k)] }
def SealSignsSaid : Prop := sealSignsRow.holds Tryd.pinned (OpenSpec.ofChange sealSignsSpec)

/-- ITS FALSE NEIGHBOUR: 'it returns false'. Refute it at one input. -/
def sealSignsWrong : ChangeSpec := { name := "sealSigns", fn := fun _ => fun
  | [d1, d2, d3] => { results := [.lit (.bool false)], args := [d1, d2, d3] }
  | _ => none }
def SealSignsWrongFalsely : Prop := sealSignsRow.holds Tryd.pinned (OpenSpec.ofChange sealSignsWrong)

/-- 'scriniumlaw16.SealRight': WHATEVER THE INPUT: true; the input reads as it did. -/
def sealRightSpec : ChangeSpec := { name := "sealRight", fn := fun _ => fun
  | [d1, d2, d3] => { results := [.lit (.bool true)], args := [d1, d2, d3] }
  | _ => none }
def sealRightRow : OpenClaim := { program := "ytlcljjapeigaeaadoor", sum := "afb32d350a4f8291e5d74dc630fc7af0e0b4b280835f5484a20e0e58066e399d", func := "scrinium/scriniumlaw16.SealRight", spec := "sealRight", inPlace := ["internal/abi.NoEscape", "internal/bytealg.MakeNoZero"], unfollowed := true, recurses := true, named := ["scrinium/sha.k"], apart := false, laid := [("scrinium/sha.k", laid_scrinium_sha_k)] }
def SealRightSaid : Prop := sealRightRow.holds Tryd.pinned (OpenSpec.ofChange sealRightSpec)

/-- ITS FALSE NEIGHBOUR: 'it returns false'. Refute it at one input. -/
def sealRightWrong : ChangeSpec := { name := "sealRight", fn := fun _ => fun
  | [d1, d2, d3] => { results := [.lit (.bool false)], args := [d1, d2, d3] }
  | _ => none }
def SealRightWrongFalsely : Prop := sealRightRow.holds Tryd.pinned (OpenSpec.ofChange sealRightWrong)

/-- 'scriniumlaw16.SealOne': WHATEVER THE INPUT: true; the input reads as it did. -/
def sealOneSpec : ChangeSpec := { name := "sealOne", fn := fun _ => fun
  | [d1, d2, d3] => { results := [.lit (.bool true)], args := [d1, d2, d3] }
  | _ => none }
def sealOneRow : OpenClaim := { program := "ytlcljjapeigaeaadoor", sum := "afb32d350a4f8291e5d74dc630fc7af0e0b4b280835f5484a20e0e58066e399d", func := "scrinium/scriniumlaw16.SealOne", spec := "sealOne", inPlace := ["internal/abi.NoEscape", "internal/bytealg.MakeNoZero"], unfollowed := true, recurses := true, named := ["scrinium/sha.k"], apart := false, laid := [("scrinium/sha.k", laid_scrinium_sha_k)] }
def SealOneSaid : Prop := sealOneRow.holds Tryd.pinned (OpenSpec.ofChange sealOneSpec)

/-- ITS FALSE NEIGHBOUR: 'it returns false'. Refute it at one input. -/
def sealOneWrong : ChangeSpec := { name := "sealOne", fn := fun _ => fun
  | [d1, d2, d3] => { results := [.lit (.bool false)], args := [d1, d2, d3] }
  | _ => none }
def SealOneWrongFalsely : Prop := sealOneRow.holds Tryd.pinned (OpenSpec.ofChange sealOneWrong)

/-- 'scriniumlaw16.SealKinds': WHATEVER THE INPUT: true; the input reads as it did. -/
def sealKindsSpec : ChangeSpec := { name := "sealKinds", fn := fun _ => fun
  | [d1, d2, d3] => { results := [.lit (.bool true)], args := [d1, d2, d3] }
  | _ => none }
def sealKindsRow : OpenClaim := { program := "ytlcljjapeigaeaadoor", sum := "afb32d350a4f8291e5d74dc630fc7af0e0b4b280835f5484a20e0e58066e399d", func := "scrinium/scriniumlaw16.SealKinds", spec := "sealKinds", inPlace := ["internal/abi.NoEscape", "internal/bytealg.MakeNoZero"], unfollowed := true, recurses := true, named := ["scrinium/sha.k"], apart := false, laid := [("scrinium/sha.k", laid_scrinium_sha_k)] }
def SealKindsSaid : Prop := sealKindsRow.holds Tryd.pinned (OpenSpec.ofChange sealKindsSpec)

/-- ITS FALSE NEIGHBOUR: 'it returns false'. Refute it at one input. -/
def sealKindsWrong : ChangeSpec := { name := "sealKinds", fn := fun _ => fun
  | [d1, d2, d3] => { results := [.lit (.bool false)], args := [d1, d2, d3] }
  | _ => none }
def SealKindsWrongFalsely : Prop := sealKindsRow.holds Tryd.pinned (OpenSpec.ofChange sealKindsWrong)

/- THE SECOND FORM. 'bulk': how many values and letters a reading holds, each counted each time it is reached (what is shared counts as often as it is met; a slice's spare places count too). A statement '..UptoSaid' is the law's where the arguments, and the package variables that the reading takes, are together of bulk at most 1048576: NARROWER than '..Said'. Prove '..Said' where nothing that the law and all that it calls make is longer than what came in: it says more and counts as full. Else prove '..UptoSaid'. A law counts once. -/
mutual
def uptoBulk {H : Type} : DataW H → Nat
  | .lit (.string bytes) => bytes.length + 1
  | .lit _ => 1
  | .nil => 1
  | .ptr d => uptoBulk d + 1
  | .slice elems spare => uptoBulkAll elems + uptoBulkAll spare + 1
  | .agg parts => uptoBulkAll parts + 1
  | .iface _ d => uptoBulk d + 1
  | .map entries => uptoBulkEntries entries + 1
  | .held _ => 1
def uptoBulkAll {H : Type} : List (DataW H) → Nat
  | [] => 0
  | d :: r => uptoBulk d + uptoBulkAll r
def uptoBulkEntries {H : Type} : List (Lit × DataW H) → Nat
  | [] => 0
  | x :: r => uptoBulkEntry x + uptoBulkEntries r
def uptoBulkEntry {H : Type} : Lit × DataW H → Nat
  | (.string bytes, d) => bytes.length + uptoBulk d + 1
  | (_, d) => uptoBulk d + 1
 end
def uptoSmall : (H : Type) → List (DataW H) → Bool := fun _ ds => decide (uptoBulkAll ds ≤ 1048576)
def OpenSpec.upto (s : _root_.Go.ChangeSpec) : _root_.Go.OpenSpec := { _root_.Go.OpenSpec.ofChange s with cond := some uptoSmall }

/-- 'scriniumlaw16.SealBytes', WHERE WHAT IT READS IS OF BULK AT MOST 1048576: true; the input reads as it did. -/
def sealBytesUptoRow : OpenClaim := { program := "ytlcljjapeigaeaadoor", sum := "afb32d350a4f8291e5d74dc630fc7af0e0b4b280835f5484a20e0e58066e399d", func := "scrinium/scriniumlaw16.SealBytes", spec := "sealBytes", inPlace := ["internal/abi.NoEscape", "internal/bytealg.MakeNoZero"], unfollowed := true, recurses := true, named := ["scrinium/sha.k"], apart := false, laid := [("scrinium/sha.k", laid_scrinium_sha_k)], narrowed := true }
def SealBytesUptoSaid : Prop := sealBytesUptoRow.holds Tryd.pinned (OpenSpec.upto sealBytesSpec)

/-- 'scriniumlaw16.SealReads', WHERE WHAT IT READS IS OF BULK AT MOST 1048576: true; the input reads as it did. -/
def sealReadsUptoRow : OpenClaim := { program := "ytlcljjapeigaeaadoor", sum := "afb32d350a4f8291e5d74dc630fc7af0e0b4b280835f5484a20e0e58066e399d", func := "scrinium/scriniumlaw16.SealReads", spec := "sealReads", inPlace := ["internal/abi.NoEscape", "internal/bytealg.MakeNoZero"], unfollowed := true, recurses := true, named := ["scrinium/sha.k"], apart := false, laid := [("scrinium/sha.k", laid_scrinium_sha_k)], narrowed := true }
def SealReadsUptoSaid : Prop := sealReadsUptoRow.holds Tryd.pinned (OpenSpec.upto sealReadsSpec)

/-- 'scriniumlaw16.SealSigns', WHERE WHAT IT READS IS OF BULK AT MOST 1048576: true; the input reads as it did. -/
def sealSignsUptoRow : OpenClaim := { program := "ytlcljjapeigaeaadoor", sum := "afb32d350a4f8291e5d74dc630fc7af0e0b4b280835f5484a20e0e58066e399d", func := "scrinium/scriniumlaw16.SealSigns", spec := "sealSigns", inPlace := ["internal/abi.NoEscape", "internal/bytealg.MakeNoZero"], unfollowed := true, recurses := true, named := ["scrinium/sha.k"], apart := false, laid := [("scrinium/sha.k", laid_scrinium_sha_k)], narrowed := true }
def SealSignsUptoSaid : Prop := sealSignsUptoRow.holds Tryd.pinned (OpenSpec.upto sealSignsSpec)

/-- 'scriniumlaw16.SealRight', WHERE WHAT IT READS IS OF BULK AT MOST 1048576: true; the input reads as it did. -/
def sealRightUptoRow : OpenClaim := { program := "ytlcljjapeigaeaadoor", sum := "afb32d350a4f8291e5d74dc630fc7af0e0b4b280835f5484a20e0e58066e399d", func := "scrinium/scriniumlaw16.SealRight", spec := "sealRight", inPlace := ["internal/abi.NoEscape", "internal/bytealg.MakeNoZero"], unfollowed := true, recurses := true, named := ["scrinium/sha.k"], apart := false, laid := [("scrinium/sha.k", laid_scrinium_sha_k)], narrowed := true }
def SealRightUptoSaid : Prop := sealRightUptoRow.holds Tryd.pinned (OpenSpec.upto sealRightSpec)

/-- 'scriniumlaw16.SealOne', WHERE WHAT IT READS IS OF BULK AT MOST 1048576: true; the input reads as it did. -/
def sealOneUptoRow : OpenClaim := { program := "ytlcljjapeigaeaadoor", sum := "afb32d350a4f8291e5d74dc630fc7af0e0b4b280835f5484a20e0e58066e399d", func := "scrinium/scriniumlaw16.SealOne", spec := "sealOne", inPlace := ["internal/abi.NoEscape", "internal/bytealg.MakeNoZero"], unfollowed := true, recurses := true, named := ["scrinium/sha.k"], apart := false, laid := [("scrinium/sha.k", laid_scrinium_sha_k)], narrowed := true }
def SealOneUptoSaid : Prop := sealOneUptoRow.holds Tryd.pinned (OpenSpec.upto sealOneSpec)

/-- 'scriniumlaw16.SealKinds', WHERE WHAT IT READS IS OF BULK AT MOST 1048576: true; the input reads as it did. -/
def sealKindsUptoRow : OpenClaim := { program := "ytlcljjapeigaeaadoor", sum := "afb32d350a4f8291e5d74dc630fc7af0e0b4b280835f5484a20e0e58066e399d", func := "scrinium/scriniumlaw16.SealKinds", spec := "sealKinds", inPlace := ["internal/abi.NoEscape", "internal/bytealg.MakeNoZero"], unfollowed := true, recurses := true, named := ["scrinium/sha.k"], apart := false, laid := [("scrinium/sha.k", laid_scrinium_sha_k)], narrowed := true }
def SealKindsUptoSaid : Prop := sealKindsUptoRow.holds Tryd.pinned (OpenSpec.upto sealKindsSpec)

end Rows
end Go.Proofs.YtlcljjapeigaeaaDoor
