/-
  DERIVED. GIVEN WITH THE SEED: THE CARDS: each row of YtldknddgcbhllaaDoorRows.lean that lists a variable, with what it lists TIED to the program's text (the seventh form; the later family's looks); each row that meets fmt, with fmt's text TOLD by the authors' own Lean function (tested against real Go, not proved from fmt's source: count such statements apart). THE CARD IS WHAT COUNTS. Prove the row's statement (the work); the ties are given (YtldknddgcbhllaaDoorTie.lean); close each card by the builder's one call (the guide's Derived/Test/ToyasCard.lean, 'card_holds'). Laid BY PROGRAM, IN A SANDBOX (cutbox-door.mjs). By AI agents, Wed Nov 11 2026. No macro, syntax, notation, axiom, sorry.
-/
import Derived.Test.YtldknddgcbhllaaDoorRows
import GoSem.ClaimSeven
namespace Go.Proofs.YtldknddgcbhllaaDoor
namespace Rows

/-- THE TIED CARD OF 'scriniumlaw09.LeafHashes'. -/
def leafHashesCard : Claim7 := { stood := { row := leafHashesRow, standIns := [], harness := (true, "b3275caf0476850b2c7bb77f87472ac53f0e1728d30c45ed5baa6ba3a9484d02"), looks := false }, kinds := [], alts := [], laidByText := true, laidKinds := [.data], laidTests := true, laidLooks := .later }
def LeafHashesCardSaid : Prop := Claim7.holds Tryd.pinned (.plain (OpenSpec.ofChange leafHashesSpec)) leafHashesCard

/-- THE TIED CARD OF 'scriniumlaw09.LeafRoots'. -/
def leafRootsCard : Claim7 := { stood := { row := leafRootsRow, standIns := [], harness := (true, "b3275caf0476850b2c7bb77f87472ac53f0e1728d30c45ed5baa6ba3a9484d02"), looks := false }, kinds := [], alts := [], laidByText := true, laidKinds := [.data], laidTests := true, laidLooks := .later }
def LeafRootsCardSaid : Prop := Claim7.holds Tryd.pinned (.plain (OpenSpec.ofChange leafRootsSpec)) leafRootsCard

/-- THE TIED CARD OF 'scriniumlaw09.LeafLevels'. -/
def leafLevelsCard : Claim7 := { stood := { row := leafLevelsRow, standIns := [], harness := (true, "b3275caf0476850b2c7bb77f87472ac53f0e1728d30c45ed5baa6ba3a9484d02"), looks := false }, kinds := [], alts := [], laidByText := true, laidKinds := [.data], laidTests := true, laidLooks := .later }
def LeafLevelsCardSaid : Prop := Claim7.holds Tryd.pinned (.plain (OpenSpec.ofChange leafLevelsSpec)) leafLevelsCard

/-- THE TIED CARD OF 'scriniumlaw09.LeafTops'. -/
def leafTopsCard : Claim7 := { stood := { row := leafTopsRow, standIns := [], harness := (true, "b3275caf0476850b2c7bb77f87472ac53f0e1728d30c45ed5baa6ba3a9484d02"), looks := false }, kinds := [], alts := [], laidByText := true, laidKinds := [.data], laidTests := true, laidLooks := .later }
def LeafTopsCardSaid : Prop := Claim7.holds Tryd.pinned (.plain (OpenSpec.ofChange leafTopsSpec)) leafTopsCard

/-- THE TIED CARD OF 'scriniumlaw09.LeafSplits'. -/
def leafSplitsCard : Claim7 := { stood := { row := leafSplitsRow, standIns := [], harness := (true, "b3275caf0476850b2c7bb77f87472ac53f0e1728d30c45ed5baa6ba3a9484d02"), looks := false }, kinds := [], alts := [], laidByText := true, laidKinds := [.data], laidTests := true, laidLooks := .later }
def LeafSplitsCardSaid : Prop := Claim7.holds Tryd.pinned (.plain (OpenSpec.ofChange leafSplitsSpec)) leafSplitsCard

/-- THE TIED CARD OF 'scriniumlaw09.LeafCounts'. -/
def leafCountsCard : Claim7 := { stood := { row := leafCountsRow, standIns := [], harness := (true, "b3275caf0476850b2c7bb77f87472ac53f0e1728d30c45ed5baa6ba3a9484d02"), looks := false }, kinds := [], alts := [], laidByText := true, laidKinds := [.data], laidTests := true, laidLooks := .later }
def LeafCountsCardSaid : Prop := Claim7.holds Tryd.pinned (.plain (OpenSpec.ofChange leafCountsSpec)) leafCountsCard

/-- THE TIED CARD OF 'scriniumlaw09.LeafApart'. -/
def leafApartCard : Claim7 := { stood := { row := leafApartRow, standIns := [], harness := (true, "b3275caf0476850b2c7bb77f87472ac53f0e1728d30c45ed5baa6ba3a9484d02"), looks := false }, kinds := [], alts := [], laidByText := true, laidKinds := [.data], laidTests := true, laidLooks := .later }
def LeafApartCardSaid : Prop := Claim7.holds Tryd.pinned (.plain (OpenSpec.ofChange leafApartSpec)) leafApartCard

/-- THE SECOND FORM's CARD OF 'scriniumlaw09.LeafHashes'. -/
def leafHashesUptoCard : Claim7 := { stood := { row := leafHashesUptoRow, standIns := [], harness := (true, "b3275caf0476850b2c7bb77f87472ac53f0e1728d30c45ed5baa6ba3a9484d02"), looks := false }, kinds := [], alts := [], laidByText := true, laidKinds := [.data], laidTests := true, laidLooks := .later }
def LeafHashesUptoCardSaid : Prop := Claim7.holds Tryd.pinned (.plain (OpenSpec.upto leafHashesSpec)) leafHashesUptoCard

/-- THE SECOND FORM's CARD OF 'scriniumlaw09.LeafRoots'. -/
def leafRootsUptoCard : Claim7 := { stood := { row := leafRootsUptoRow, standIns := [], harness := (true, "b3275caf0476850b2c7bb77f87472ac53f0e1728d30c45ed5baa6ba3a9484d02"), looks := false }, kinds := [], alts := [], laidByText := true, laidKinds := [.data], laidTests := true, laidLooks := .later }
def LeafRootsUptoCardSaid : Prop := Claim7.holds Tryd.pinned (.plain (OpenSpec.upto leafRootsSpec)) leafRootsUptoCard

/-- THE SECOND FORM's CARD OF 'scriniumlaw09.LeafLevels'. -/
def leafLevelsUptoCard : Claim7 := { stood := { row := leafLevelsUptoRow, standIns := [], harness := (true, "b3275caf0476850b2c7bb77f87472ac53f0e1728d30c45ed5baa6ba3a9484d02"), looks := false }, kinds := [], alts := [], laidByText := true, laidKinds := [.data], laidTests := true, laidLooks := .later }
def LeafLevelsUptoCardSaid : Prop := Claim7.holds Tryd.pinned (.plain (OpenSpec.upto leafLevelsSpec)) leafLevelsUptoCard

/-- THE SECOND FORM's CARD OF 'scriniumlaw09.LeafTops'. -/
def leafTopsUptoCard : Claim7 := { stood := { row := leafTopsUptoRow, standIns := [], harness := (true, "b3275caf0476850b2c7bb77f87472ac53f0e1728d30c45ed5baa6ba3a9484d02"), looks := false }, kinds := [], alts := [], laidByText := true, laidKinds := [.data], laidTests := true, laidLooks := .later }
def LeafTopsUptoCardSaid : Prop := Claim7.holds Tryd.pinned (.plain (OpenSpec.upto leafTopsSpec)) leafTopsUptoCard

/-- THE SECOND FORM's CARD OF 'scriniumlaw09.LeafSplits'. -/
def leafSplitsUptoCard : Claim7 := { stood := { row := leafSplitsUptoRow, standIns := [], harness := (true, "b3275caf0476850b2c7bb77f87472ac53f0e1728d30c45ed5baa6ba3a9484d02"), looks := false }, kinds := [], alts := [], laidByText := true, laidKinds := [.data], laidTests := true, laidLooks := .later }
def LeafSplitsUptoCardSaid : Prop := Claim7.holds Tryd.pinned (.plain (OpenSpec.upto leafSplitsSpec)) leafSplitsUptoCard

/-- THE SECOND FORM's CARD OF 'scriniumlaw09.LeafCounts'. -/
def leafCountsUptoCard : Claim7 := { stood := { row := leafCountsUptoRow, standIns := [], harness := (true, "b3275caf0476850b2c7bb77f87472ac53f0e1728d30c45ed5baa6ba3a9484d02"), looks := false }, kinds := [], alts := [], laidByText := true, laidKinds := [.data], laidTests := true, laidLooks := .later }
def LeafCountsUptoCardSaid : Prop := Claim7.holds Tryd.pinned (.plain (OpenSpec.upto leafCountsSpec)) leafCountsUptoCard

/-- THE SECOND FORM's CARD OF 'scriniumlaw09.LeafApart'. -/
def leafApartUptoCard : Claim7 := { stood := { row := leafApartUptoRow, standIns := [], harness := (true, "b3275caf0476850b2c7bb77f87472ac53f0e1728d30c45ed5baa6ba3a9484d02"), looks := false }, kinds := [], alts := [], laidByText := true, laidKinds := [.data], laidTests := true, laidLooks := .later }
def LeafApartUptoCardSaid : Prop := Claim7.holds Tryd.pinned (.plain (OpenSpec.upto leafApartSpec)) leafApartUptoCard
end Rows
end Go.Proofs.YtldknddgcbhllaaDoor
