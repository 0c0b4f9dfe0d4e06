/-
  DERIVED. GIVEN WITH THE SEED: THE CARDS: each row of YtlcljjapeigaeaaDoorRows.lean that lists a variable, with what it lists TIED to the program's text (the seventh form; the later family's looks); each row that meets fmt, with fmt's text TOLD by the authors' own Lean function (tested against real Go, not proved from fmt's source: count such statements apart). THE CARD IS WHAT COUNTS. Prove the row's statement (the work); the ties are given (YtlcljjapeigaeaaDoorTie.lean); close each card by the builder's one call (the guide's Derived/Test/ToyasCard.lean, 'card_holds'). Laid BY PROGRAM, IN A SANDBOX (cutbox-door.mjs). By AI agents, Wed Nov 11 2026. No macro, syntax, notation, axiom, sorry.
-/
import Derived.Test.YtlcljjapeigaeaaDoorRows
import GoSem.ClaimSeven
namespace Go.Proofs.YtlcljjapeigaeaaDoor
namespace Rows

/-- THE TIED CARD OF 'scriniumlaw16.SealBytes'. -/
def sealBytesCard : Claim7 := { stood := { row := sealBytesRow, standIns := [], harness := (true, "557cb481884c36cedbdf5f06a85eb44c2eda31d2628a973895fcb6826fb7f0ed"), looks := false }, kinds := [], alts := [], laidByText := true, laidKinds := [.data], laidTests := true, laidLooks := .later }
def SealBytesCardSaid : Prop := Claim7.holds Tryd.pinned (.plain (OpenSpec.ofChange sealBytesSpec)) sealBytesCard

/-- THE TIED CARD OF 'scriniumlaw16.SealReads'. -/
def sealReadsCard : Claim7 := { stood := { row := sealReadsRow, standIns := [], harness := (true, "557cb481884c36cedbdf5f06a85eb44c2eda31d2628a973895fcb6826fb7f0ed"), looks := false }, kinds := [], alts := [], laidByText := true, laidKinds := [.data], laidTests := true, laidLooks := .later }
def SealReadsCardSaid : Prop := Claim7.holds Tryd.pinned (.plain (OpenSpec.ofChange sealReadsSpec)) sealReadsCard

/-- THE TIED CARD OF 'scriniumlaw16.SealSigns'. -/
def sealSignsCard : Claim7 := { stood := { row := sealSignsRow, standIns := [], harness := (true, "557cb481884c36cedbdf5f06a85eb44c2eda31d2628a973895fcb6826fb7f0ed"), looks := false }, kinds := [], alts := [], laidByText := true, laidKinds := [.data], laidTests := true, laidLooks := .later }
def SealSignsCardSaid : Prop := Claim7.holds Tryd.pinned (.plain (OpenSpec.ofChange sealSignsSpec)) sealSignsCard

/-- THE TIED CARD OF 'scriniumlaw16.SealRight'. -/
def sealRightCard : Claim7 := { stood := { row := sealRightRow, standIns := [], harness := (true, "557cb481884c36cedbdf5f06a85eb44c2eda31d2628a973895fcb6826fb7f0ed"), looks := false }, kinds := [], alts := [], laidByText := true, laidKinds := [.data], laidTests := true, laidLooks := .later }
def SealRightCardSaid : Prop := Claim7.holds Tryd.pinned (.plain (OpenSpec.ofChange sealRightSpec)) sealRightCard

/-- THE TIED CARD OF 'scriniumlaw16.SealOne'. -/
def sealOneCard : Claim7 := { stood := { row := sealOneRow, standIns := [], harness := (true, "557cb481884c36cedbdf5f06a85eb44c2eda31d2628a973895fcb6826fb7f0ed"), looks := false }, kinds := [], alts := [], laidByText := true, laidKinds := [.data], laidTests := true, laidLooks := .later }
def SealOneCardSaid : Prop := Claim7.holds Tryd.pinned (.plain (OpenSpec.ofChange sealOneSpec)) sealOneCard

/-- THE TIED CARD OF 'scriniumlaw16.SealKinds'. -/
def sealKindsCard : Claim7 := { stood := { row := sealKindsRow, standIns := [], harness := (true, "557cb481884c36cedbdf5f06a85eb44c2eda31d2628a973895fcb6826fb7f0ed"), looks := false }, kinds := [], alts := [], laidByText := true, laidKinds := [.data], laidTests := true, laidLooks := .later }
def SealKindsCardSaid : Prop := Claim7.holds Tryd.pinned (.plain (OpenSpec.ofChange sealKindsSpec)) sealKindsCard

/-- THE SECOND FORM's CARD OF 'scriniumlaw16.SealBytes'. -/
def sealBytesUptoCard : Claim7 := { stood := { row := sealBytesUptoRow, standIns := [], harness := (true, "557cb481884c36cedbdf5f06a85eb44c2eda31d2628a973895fcb6826fb7f0ed"), looks := false }, kinds := [], alts := [], laidByText := true, laidKinds := [.data], laidTests := true, laidLooks := .later }
def SealBytesUptoCardSaid : Prop := Claim7.holds Tryd.pinned (.plain (OpenSpec.upto sealBytesSpec)) sealBytesUptoCard

/-- THE SECOND FORM's CARD OF 'scriniumlaw16.SealReads'. -/
def sealReadsUptoCard : Claim7 := { stood := { row := sealReadsUptoRow, standIns := [], harness := (true, "557cb481884c36cedbdf5f06a85eb44c2eda31d2628a973895fcb6826fb7f0ed"), looks := false }, kinds := [], alts := [], laidByText := true, laidKinds := [.data], laidTests := true, laidLooks := .later }
def SealReadsUptoCardSaid : Prop := Claim7.holds Tryd.pinned (.plain (OpenSpec.upto sealReadsSpec)) sealReadsUptoCard

/-- THE SECOND FORM's CARD OF 'scriniumlaw16.SealSigns'. -/
def sealSignsUptoCard : Claim7 := { stood := { row := sealSignsUptoRow, standIns := [], harness := (true, "557cb481884c36cedbdf5f06a85eb44c2eda31d2628a973895fcb6826fb7f0ed"), looks := false }, kinds := [], alts := [], laidByText := true, laidKinds := [.data], laidTests := true, laidLooks := .later }
def SealSignsUptoCardSaid : Prop := Claim7.holds Tryd.pinned (.plain (OpenSpec.upto sealSignsSpec)) sealSignsUptoCard

/-- THE SECOND FORM's CARD OF 'scriniumlaw16.SealRight'. -/
def sealRightUptoCard : Claim7 := { stood := { row := sealRightUptoRow, standIns := [], harness := (true, "557cb481884c36cedbdf5f06a85eb44c2eda31d2628a973895fcb6826fb7f0ed"), looks := false }, kinds := [], alts := [], laidByText := true, laidKinds := [.data], laidTests := true, laidLooks := .later }
def SealRightUptoCardSaid : Prop := Claim7.holds Tryd.pinned (.plain (OpenSpec.upto sealRightSpec)) sealRightUptoCard

/-- THE SECOND FORM's CARD OF 'scriniumlaw16.SealOne'. -/
def sealOneUptoCard : Claim7 := { stood := { row := sealOneUptoRow, standIns := [], harness := (true, "557cb481884c36cedbdf5f06a85eb44c2eda31d2628a973895fcb6826fb7f0ed"), looks := false }, kinds := [], alts := [], laidByText := true, laidKinds := [.data], laidTests := true, laidLooks := .later }
def SealOneUptoCardSaid : Prop := Claim7.holds Tryd.pinned (.plain (OpenSpec.upto sealOneSpec)) sealOneUptoCard

/-- THE SECOND FORM's CARD OF 'scriniumlaw16.SealKinds'. -/
def sealKindsUptoCard : Claim7 := { stood := { row := sealKindsUptoRow, standIns := [], harness := (true, "557cb481884c36cedbdf5f06a85eb44c2eda31d2628a973895fcb6826fb7f0ed"), looks := false }, kinds := [], alts := [], laidByText := true, laidKinds := [.data], laidTests := true, laidLooks := .later }
def SealKindsUptoCardSaid : Prop := Claim7.holds Tryd.pinned (.plain (OpenSpec.upto sealKindsSpec)) sealKindsUptoCard
end Rows
end Go.Proofs.YtlcljjapeigaeaaDoor
