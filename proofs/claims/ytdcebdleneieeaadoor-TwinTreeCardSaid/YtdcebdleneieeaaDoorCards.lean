/-
  DERIVED. GIVEN WITH THE SEED: THE CARDS: each row of YtdcebdleneieeaaDoorRows.lean that lists a variable, with what it lists TIED to the program's text (the seventh form; the later family's looks); each row that meets fmt, with fmt's text TOLD by the authors' own Lean function (tested against real Go, not proved from fmt's source: count such statements apart). THE CARD IS WHAT COUNTS. Prove the row's statement (the work); the ties are given (YtdcebdleneieeaaDoorTie.lean); close each card by the builder's one call (the guide's Derived/Test/ToyasCard.lean, 'card_holds'). Laid BY PROGRAM, IN A SANDBOX (cutbox-door.mjs). By AI agents, Wed Nov 11 2026. No macro, syntax, notation, axiom, sorry.
-/
import Derived.Test.YtdcebdleneieeaaDoorRows
import GoSem.ClaimSeven
namespace Go.Proofs.YtdcebdleneieeaaDoor
namespace Rows

/-- THE TIED CARD OF 'scriniumlaw13.TwinTells'. -/
def twinTellsCard : Claim7 := { stood := { row := twinTellsRow, standIns := [], harness := (true, "a7b3daaed092e3ff62889aa7a0f242c56f4771b757269101c7626505d3027ac7"), looks := false }, kinds := [], alts := [], laidByText := true, laidKinds := [.data], laidTests := true, laidLooks := .later }
def TwinTellsCardSaid : Prop := Claim7.holds Tryd.pinned (.plain (OpenSpec.ofChange twinTellsSpec)) twinTellsCard

/-- THE TIED CARD OF 'scriniumlaw13.TwinData'. -/
def twinDataCard : Claim7 := { stood := { row := twinDataRow, standIns := [], harness := (true, "a7b3daaed092e3ff62889aa7a0f242c56f4771b757269101c7626505d3027ac7"), looks := false }, kinds := [], alts := [], laidByText := true, laidKinds := [.data], laidTests := true, laidLooks := .later }
def TwinDataCardSaid : Prop := Claim7.holds Tryd.pinned (.plain (OpenSpec.ofChange twinDataSpec)) twinDataCard

/-- THE TIED CARD OF 'scriniumlaw13.TwinLeaves'. -/
def twinLeavesCard : Claim7 := { stood := { row := twinLeavesRow, standIns := [], harness := (true, "a7b3daaed092e3ff62889aa7a0f242c56f4771b757269101c7626505d3027ac7"), looks := false }, kinds := [], alts := [], laidByText := true, laidKinds := [.data], laidTests := true, laidLooks := .later }
def TwinLeavesCardSaid : Prop := Claim7.holds Tryd.pinned (.plain (OpenSpec.ofChange twinLeavesSpec)) twinLeavesCard

/-- THE TIED CARD OF 'scriniumlaw13.TwinTrees'. -/
def twinTreesCard : Claim7 := { stood := { row := twinTreesRow, standIns := [], harness := (true, "a7b3daaed092e3ff62889aa7a0f242c56f4771b757269101c7626505d3027ac7"), looks := false }, kinds := [], alts := [], laidByText := true, laidKinds := [.data], laidTests := true, laidLooks := .later }
def TwinTreesCardSaid : Prop := Claim7.holds Tryd.pinned (.plain (OpenSpec.ofChange twinTreesSpec)) twinTreesCard

/-- THE TIED CARD OF 'scriniumlaw13.TwinTree'. -/
def twinTreeCard : Claim7 := { stood := { row := twinTreeRow, standIns := [], harness := (true, "a7b3daaed092e3ff62889aa7a0f242c56f4771b757269101c7626505d3027ac7"), looks := false }, kinds := [], alts := [], laidByText := true, laidKinds := [.data], laidTests := true, laidLooks := .later }
def TwinTreeCardSaid : Prop := Claim7.holds Tryd.pinned (.plain (OpenSpec.ofChange twinTreeSpec)) twinTreeCard

/-- THE TIED CARD OF 'scriniumlaw13.TwinWays'. -/
def twinWaysCard : Claim7 := { stood := { row := twinWaysRow, standIns := [], harness := (true, "a7b3daaed092e3ff62889aa7a0f242c56f4771b757269101c7626505d3027ac7"), looks := false }, kinds := [], alts := [], laidByText := true, laidKinds := [.data], laidTests := true, laidLooks := .later }
def TwinWaysCardSaid : Prop := Claim7.holds Tryd.pinned (.plain (OpenSpec.ofChange twinWaysSpec)) twinWaysCard

/-- THE SECOND FORM's CARD OF 'scriniumlaw13.TwinTells'. -/
def twinTellsUptoCard : Claim7 := { stood := { row := twinTellsUptoRow, standIns := [], harness := (true, "a7b3daaed092e3ff62889aa7a0f242c56f4771b757269101c7626505d3027ac7"), looks := false }, kinds := [], alts := [], laidByText := true, laidKinds := [.data], laidTests := true, laidLooks := .later }
def TwinTellsUptoCardSaid : Prop := Claim7.holds Tryd.pinned (.plain (OpenSpec.upto twinTellsSpec)) twinTellsUptoCard

/-- THE SECOND FORM's CARD OF 'scriniumlaw13.TwinData'. -/
def twinDataUptoCard : Claim7 := { stood := { row := twinDataUptoRow, standIns := [], harness := (true, "a7b3daaed092e3ff62889aa7a0f242c56f4771b757269101c7626505d3027ac7"), looks := false }, kinds := [], alts := [], laidByText := true, laidKinds := [.data], laidTests := true, laidLooks := .later }
def TwinDataUptoCardSaid : Prop := Claim7.holds Tryd.pinned (.plain (OpenSpec.upto twinDataSpec)) twinDataUptoCard

/-- THE SECOND FORM's CARD OF 'scriniumlaw13.TwinLeaves'. -/
def twinLeavesUptoCard : Claim7 := { stood := { row := twinLeavesUptoRow, standIns := [], harness := (true, "a7b3daaed092e3ff62889aa7a0f242c56f4771b757269101c7626505d3027ac7"), looks := false }, kinds := [], alts := [], laidByText := true, laidKinds := [.data], laidTests := true, laidLooks := .later }
def TwinLeavesUptoCardSaid : Prop := Claim7.holds Tryd.pinned (.plain (OpenSpec.upto twinLeavesSpec)) twinLeavesUptoCard

/-- THE SECOND FORM's CARD OF 'scriniumlaw13.TwinTrees'. -/
def twinTreesUptoCard : Claim7 := { stood := { row := twinTreesUptoRow, standIns := [], harness := (true, "a7b3daaed092e3ff62889aa7a0f242c56f4771b757269101c7626505d3027ac7"), looks := false }, kinds := [], alts := [], laidByText := true, laidKinds := [.data], laidTests := true, laidLooks := .later }
def TwinTreesUptoCardSaid : Prop := Claim7.holds Tryd.pinned (.plain (OpenSpec.upto twinTreesSpec)) twinTreesUptoCard

/-- THE SECOND FORM's CARD OF 'scriniumlaw13.TwinTree'. -/
def twinTreeUptoCard : Claim7 := { stood := { row := twinTreeUptoRow, standIns := [], harness := (true, "a7b3daaed092e3ff62889aa7a0f242c56f4771b757269101c7626505d3027ac7"), looks := false }, kinds := [], alts := [], laidByText := true, laidKinds := [.data], laidTests := true, laidLooks := .later }
def TwinTreeUptoCardSaid : Prop := Claim7.holds Tryd.pinned (.plain (OpenSpec.upto twinTreeSpec)) twinTreeUptoCard

/-- THE SECOND FORM's CARD OF 'scriniumlaw13.TwinWays'. -/
def twinWaysUptoCard : Claim7 := { stood := { row := twinWaysUptoRow, standIns := [], harness := (true, "a7b3daaed092e3ff62889aa7a0f242c56f4771b757269101c7626505d3027ac7"), looks := false }, kinds := [], alts := [], laidByText := true, laidKinds := [.data], laidTests := true, laidLooks := .later }
def TwinWaysUptoCardSaid : Prop := Claim7.holds Tryd.pinned (.plain (OpenSpec.upto twinWaysSpec)) twinWaysUptoCard
end Rows
end Go.Proofs.YtdcebdleneieeaaDoor
