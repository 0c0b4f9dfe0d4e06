/-
  DERIVED. GIVEN WITH THE SEED: THE CARDS: each row of YtjdhcncjcencbaaDoorRows.lean that lists a variable, with what it lists TIED to the program's text (the seventh form; the later family's looks); each row that meets fmt, with fmt's text TOLD by the authors' own Lean function (tested against real Go, not proved from fmt's source: count such statements apart). THE CARD IS WHAT COUNTS. Prove the row's statement (the work); the ties are given (YtjdhcncjcencbaaDoorTie.lean); close each card by the builder's one call (the guide's Derived/Test/ToyasCard.lean, 'card_holds'). Laid BY PROGRAM, IN A SANDBOX (cutbox-door.mjs). By AI agents, Wed Nov 11 2026. No macro, syntax, notation, axiom, sorry.
-/
import Derived.Test.YtjdhcncjcencbaaDoorRows
import GoSem.ClaimSeven
namespace Go.Proofs.YtjdhcncjcencbaaDoor
namespace Rows

/-- THE TIED CARD OF 'scriniumlaw12.ProofFolds'. -/
def proofFoldsCard : Claim7 := { stood := { row := proofFoldsRow, standIns := [], harness := (true, "3870b2113fb06c4ea8c1212dc0f2ed8ddc49ef9f31cd8236a170d18c6309ee2d"), looks := false }, kinds := [], alts := [], laidByText := true, laidKinds := [.data], laidTests := true, laidLooks := .later }
def ProofFoldsCardSaid : Prop := Claim7.holds Tryd.pinned (.plain (OpenSpec.ofChange proofFoldsSpec)) proofFoldsCard

/-- THE TIED CARD OF 'scriniumlaw12.ProofTells'. -/
def proofTellsCard : Claim7 := { stood := { row := proofTellsRow, standIns := [], harness := (true, "3870b2113fb06c4ea8c1212dc0f2ed8ddc49ef9f31cd8236a170d18c6309ee2d"), looks := false }, kinds := [], alts := [], laidByText := true, laidKinds := [.data], laidTests := true, laidLooks := .later }
def ProofTellsCardSaid : Prop := Claim7.holds Tryd.pinned (.plain (OpenSpec.ofChange proofTellsSpec)) proofTellsCard

/-- THE TIED CARD OF 'scriniumlaw12.ProofLeaves'. -/
def proofLeavesCard : Claim7 := { stood := { row := proofLeavesRow, standIns := [], harness := (true, "3870b2113fb06c4ea8c1212dc0f2ed8ddc49ef9f31cd8236a170d18c6309ee2d"), looks := false }, kinds := [], alts := [], laidByText := true, laidKinds := [.data], laidTests := true, laidLooks := .later }
def ProofLeavesCardSaid : Prop := Claim7.holds Tryd.pinned (.plain (OpenSpec.ofChange proofLeavesSpec)) proofLeavesCard

/-- THE TIED CARD OF 'scriniumlaw12.ProofTrees'. -/
def proofTreesCard : Claim7 := { stood := { row := proofTreesRow, standIns := [], harness := (true, "3870b2113fb06c4ea8c1212dc0f2ed8ddc49ef9f31cd8236a170d18c6309ee2d"), looks := false }, kinds := [], alts := [], laidByText := true, laidKinds := [.data], laidTests := true, laidLooks := .later }
def ProofTreesCardSaid : Prop := Claim7.holds Tryd.pinned (.plain (OpenSpec.ofChange proofTreesSpec)) proofTreesCard

/-- THE TIED CARD OF 'scriniumlaw12.ProofOne'. -/
def proofOneCard : Claim7 := { stood := { row := proofOneRow, standIns := [], harness := (true, "3870b2113fb06c4ea8c1212dc0f2ed8ddc49ef9f31cd8236a170d18c6309ee2d"), looks := false }, kinds := [], alts := [], laidByText := true, laidKinds := [.data], laidTests := true, laidLooks := .later }
def ProofOneCardSaid : Prop := Claim7.holds Tryd.pinned (.plain (OpenSpec.ofChange proofOneSpec)) proofOneCard

/-- THE TIED CARD OF 'scriniumlaw12.ProofSizes'. -/
def proofSizesCard : Claim7 := { stood := { row := proofSizesRow, standIns := [], harness := (true, "3870b2113fb06c4ea8c1212dc0f2ed8ddc49ef9f31cd8236a170d18c6309ee2d"), looks := false }, kinds := [], alts := [], laidByText := true, laidKinds := [.data], laidTests := true, laidLooks := .later }
def ProofSizesCardSaid : Prop := Claim7.holds Tryd.pinned (.plain (OpenSpec.ofChange proofSizesSpec)) proofSizesCard

/-- THE TIED CARD OF 'scriniumlaw12.ProofSame'. -/
def proofSameCard : Claim7 := { stood := { row := proofSameRow, standIns := [], harness := (true, "3870b2113fb06c4ea8c1212dc0f2ed8ddc49ef9f31cd8236a170d18c6309ee2d"), looks := false }, kinds := [], alts := [], laidByText := true, laidKinds := [.data], laidTests := true, laidLooks := .later }
def ProofSameCardSaid : Prop := Claim7.holds Tryd.pinned (.plain (OpenSpec.ofChange proofSameSpec)) proofSameCard

/-- THE SECOND FORM's CARD OF 'scriniumlaw12.ProofFolds'. -/
def proofFoldsUptoCard : Claim7 := { stood := { row := proofFoldsUptoRow, standIns := [], harness := (true, "3870b2113fb06c4ea8c1212dc0f2ed8ddc49ef9f31cd8236a170d18c6309ee2d"), looks := false }, kinds := [], alts := [], laidByText := true, laidKinds := [.data], laidTests := true, laidLooks := .later }
def ProofFoldsUptoCardSaid : Prop := Claim7.holds Tryd.pinned (.plain (OpenSpec.upto proofFoldsSpec)) proofFoldsUptoCard

/-- THE SECOND FORM's CARD OF 'scriniumlaw12.ProofTells'. -/
def proofTellsUptoCard : Claim7 := { stood := { row := proofTellsUptoRow, standIns := [], harness := (true, "3870b2113fb06c4ea8c1212dc0f2ed8ddc49ef9f31cd8236a170d18c6309ee2d"), looks := false }, kinds := [], alts := [], laidByText := true, laidKinds := [.data], laidTests := true, laidLooks := .later }
def ProofTellsUptoCardSaid : Prop := Claim7.holds Tryd.pinned (.plain (OpenSpec.upto proofTellsSpec)) proofTellsUptoCard

/-- THE SECOND FORM's CARD OF 'scriniumlaw12.ProofLeaves'. -/
def proofLeavesUptoCard : Claim7 := { stood := { row := proofLeavesUptoRow, standIns := [], harness := (true, "3870b2113fb06c4ea8c1212dc0f2ed8ddc49ef9f31cd8236a170d18c6309ee2d"), looks := false }, kinds := [], alts := [], laidByText := true, laidKinds := [.data], laidTests := true, laidLooks := .later }
def ProofLeavesUptoCardSaid : Prop := Claim7.holds Tryd.pinned (.plain (OpenSpec.upto proofLeavesSpec)) proofLeavesUptoCard

/-- THE SECOND FORM's CARD OF 'scriniumlaw12.ProofTrees'. -/
def proofTreesUptoCard : Claim7 := { stood := { row := proofTreesUptoRow, standIns := [], harness := (true, "3870b2113fb06c4ea8c1212dc0f2ed8ddc49ef9f31cd8236a170d18c6309ee2d"), looks := false }, kinds := [], alts := [], laidByText := true, laidKinds := [.data], laidTests := true, laidLooks := .later }
def ProofTreesUptoCardSaid : Prop := Claim7.holds Tryd.pinned (.plain (OpenSpec.upto proofTreesSpec)) proofTreesUptoCard

/-- THE SECOND FORM's CARD OF 'scriniumlaw12.ProofOne'. -/
def proofOneUptoCard : Claim7 := { stood := { row := proofOneUptoRow, standIns := [], harness := (true, "3870b2113fb06c4ea8c1212dc0f2ed8ddc49ef9f31cd8236a170d18c6309ee2d"), looks := false }, kinds := [], alts := [], laidByText := true, laidKinds := [.data], laidTests := true, laidLooks := .later }
def ProofOneUptoCardSaid : Prop := Claim7.holds Tryd.pinned (.plain (OpenSpec.upto proofOneSpec)) proofOneUptoCard

/-- THE SECOND FORM's CARD OF 'scriniumlaw12.ProofSizes'. -/
def proofSizesUptoCard : Claim7 := { stood := { row := proofSizesUptoRow, standIns := [], harness := (true, "3870b2113fb06c4ea8c1212dc0f2ed8ddc49ef9f31cd8236a170d18c6309ee2d"), looks := false }, kinds := [], alts := [], laidByText := true, laidKinds := [.data], laidTests := true, laidLooks := .later }
def ProofSizesUptoCardSaid : Prop := Claim7.holds Tryd.pinned (.plain (OpenSpec.upto proofSizesSpec)) proofSizesUptoCard

/-- THE SECOND FORM's CARD OF 'scriniumlaw12.ProofSame'. -/
def proofSameUptoCard : Claim7 := { stood := { row := proofSameUptoRow, standIns := [], harness := (true, "3870b2113fb06c4ea8c1212dc0f2ed8ddc49ef9f31cd8236a170d18c6309ee2d"), looks := false }, kinds := [], alts := [], laidByText := true, laidKinds := [.data], laidTests := true, laidLooks := .later }
def ProofSameUptoCardSaid : Prop := Claim7.holds Tryd.pinned (.plain (OpenSpec.upto proofSameSpec)) proofSameUptoCard
end Rows
end Go.Proofs.YtjdhcncjcencbaaDoor
