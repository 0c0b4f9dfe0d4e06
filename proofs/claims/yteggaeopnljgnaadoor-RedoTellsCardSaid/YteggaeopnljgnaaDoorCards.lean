/-
  DERIVED. GIVEN WITH THE SEED: THE CARDS: each row of YteggaeopnljgnaaDoorRows.lean that lists a variable, with what it lists TIED to the program's text (the seventh form; the later family's looks); each row that meets fmt, with fmt's text TOLD by the authors' own Lean function (tested against real Go, not proved from fmt's source: count such statements apart). THE CARD IS WHAT COUNTS. Prove the row's statement (the work); the ties are given (YteggaeopnljgnaaDoorTie.lean); close each card by the builder's one call (the guide's Derived/Test/ToyasCard.lean, 'card_holds'). Laid BY PROGRAM, IN A SANDBOX (cutbox-door.mjs). By AI agents, Wed Nov 11 2026. No macro, syntax, notation, axiom, sorry.
-/
import Derived.Test.YteggaeopnljgnaaDoorRows
import GoSem.ClaimSeven
namespace Go.Proofs.YteggaeopnljgnaaDoor
namespace Rows

/-- THE TIED CARD OF 'scriniumlaw07.RedoTells'. -/
def redoTellsCard : Claim7 := { stood := { row := redoTellsRow, standIns := [], harness := (true, "ae643147533aaf50e81293f3cfe5b8c657ec43f28aad1be5f0aafb2458b06bd4"), looks := false }, kinds := [], alts := [], laidByText := true, laidKinds := [.data], laidTests := true, laidLooks := .later }
def RedoTellsCardSaid : Prop := Claim7.holds Tryd.pinned (.plain (OpenSpec.ofChange redoTellsSpec)) redoTellsCard

/-- THE TIED CARD OF 'scriniumlaw07.RedoMakes'. -/
def redoMakesCard : Claim7 := { stood := { row := redoMakesRow, standIns := [], harness := (true, "ae643147533aaf50e81293f3cfe5b8c657ec43f28aad1be5f0aafb2458b06bd4"), looks := false }, kinds := [], alts := [], laidByText := true, laidKinds := [.data], laidTests := true, laidLooks := .later }
def RedoMakesCardSaid : Prop := Claim7.holds Tryd.pinned (.plain (OpenSpec.ofChange redoMakesSpec)) redoMakesCard

/-- THE TIED CARD OF 'scriniumlaw07.RedoNil'. -/
def redoNilCard : Claim7 := { stood := { row := redoNilRow, standIns := [], harness := (true, "ae643147533aaf50e81293f3cfe5b8c657ec43f28aad1be5f0aafb2458b06bd4"), looks := false }, kinds := [], alts := [], laidByText := true, laidKinds := [.data], laidTests := true, laidLooks := .later }
def RedoNilCardSaid : Prop := Claim7.holds Tryd.pinned (.plain (OpenSpec.ofChange redoNilSpec)) redoNilCard

/-- THE SECOND FORM's CARD OF 'scriniumlaw07.RedoTells'. -/
def redoTellsUptoCard : Claim7 := { stood := { row := redoTellsUptoRow, standIns := [], harness := (true, "ae643147533aaf50e81293f3cfe5b8c657ec43f28aad1be5f0aafb2458b06bd4"), looks := false }, kinds := [], alts := [], laidByText := true, laidKinds := [.data], laidTests := true, laidLooks := .later }
def RedoTellsUptoCardSaid : Prop := Claim7.holds Tryd.pinned (.plain (OpenSpec.upto redoTellsSpec)) redoTellsUptoCard

/-- THE SECOND FORM's CARD OF 'scriniumlaw07.RedoMakes'. -/
def redoMakesUptoCard : Claim7 := { stood := { row := redoMakesUptoRow, standIns := [], harness := (true, "ae643147533aaf50e81293f3cfe5b8c657ec43f28aad1be5f0aafb2458b06bd4"), looks := false }, kinds := [], alts := [], laidByText := true, laidKinds := [.data], laidTests := true, laidLooks := .later }
def RedoMakesUptoCardSaid : Prop := Claim7.holds Tryd.pinned (.plain (OpenSpec.upto redoMakesSpec)) redoMakesUptoCard

/-- THE SECOND FORM's CARD OF 'scriniumlaw07.RedoNil'. -/
def redoNilUptoCard : Claim7 := { stood := { row := redoNilUptoRow, standIns := [], harness := (true, "ae643147533aaf50e81293f3cfe5b8c657ec43f28aad1be5f0aafb2458b06bd4"), looks := false }, kinds := [], alts := [], laidByText := true, laidKinds := [.data], laidTests := true, laidLooks := .later }
def RedoNilUptoCardSaid : Prop := Claim7.holds Tryd.pinned (.plain (OpenSpec.upto redoNilSpec)) redoNilUptoCard
end Rows
end Go.Proofs.YteggaeopnljgnaaDoor
