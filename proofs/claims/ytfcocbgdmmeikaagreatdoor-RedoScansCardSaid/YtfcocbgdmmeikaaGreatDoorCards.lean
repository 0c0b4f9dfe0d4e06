/-
  DERIVED. GIVEN WITH THE SEED: THE CARDS: each row of YtfcocbgdmmeikaaGreatDoorRows.lean that lists a variable, with what it lists TIED to the program's text (the seventh form; the later family's looks); each row that meets fmt, with fmt's text TOLD by the authors' own Lean function (tested against real Go, not proved from fmt's source: count such statements apart). THE CARD IS WHAT COUNTS. Prove the row's statement (the work); the ties are given (YtfcocbgdmmeikaaGreatDoorTie.lean); close each card by the builder's one call (the guide's Derived/Test/ToyasCard.lean, 'card_holds'). Laid BY PROGRAM, IN A SANDBOX (cutbox-door.mjs). By AI agents, Wed Nov 11 2026. No macro, syntax, notation, axiom, sorry.
-/
import Derived.Test.YtfcocbgdmmeikaaGreatDoorRows
import GoSem.ClaimSeven
namespace Go.Proofs.YtfcocbgdmmeikaaGreatDoor
namespace Rows

/-- THE TIED CARD OF 'scriniumlaw07.RedoLines'. -/
def redoLinesCard : Claim7 := { stood := { row := redoLinesRow, standIns := [], harness := (true, "41be1ca9c4476a0d6723f7c432c5a1fb913f2b64fb35501eeaabe8c18b38630f"), looks := false }, kinds := [], alts := [], laidByText := true, laidKinds := [.data], laidTests := true, laidLooks := .later }
def RedoLinesCardSaid : Prop := Claim7.holds Tryz.pinned (.plain (OpenSpec.ofChange redoLinesSpec)) redoLinesCard

/-- THE TIED CARD OF 'scriniumlaw07.RedoScans'. -/
def redoScansCard : Claim7 := { stood := { row := redoScansRow, standIns := [], harness := (true, "41be1ca9c4476a0d6723f7c432c5a1fb913f2b64fb35501eeaabe8c18b38630f"), looks := false }, kinds := [], alts := [], laidByText := true, laidKinds := [.data], laidTests := true, laidLooks := .later }
def RedoScansCardSaid : Prop := Claim7.holds Tryz.pinned (.plain (OpenSpec.ofChange redoScansSpec)) redoScansCard

/-- THE TIED CARD OF 'scriniumlaw07.RedoWhole'. -/
def redoWholeCard : Claim7 := { stood := { row := redoWholeRow, standIns := [], harness := (true, "41be1ca9c4476a0d6723f7c432c5a1fb913f2b64fb35501eeaabe8c18b38630f"), looks := false }, kinds := [], alts := [], laidByText := true, laidKinds := [.data], laidTests := true, laidLooks := .later }
def RedoWholeCardSaid : Prop := Claim7.holds Tryz.pinned (.plain (OpenSpec.ofChange redoWholeSpec)) redoWholeCard

/-- THE SECOND FORM's CARD OF 'scriniumlaw07.RedoLines'. -/
def redoLinesUptoCard : Claim7 := { stood := { row := redoLinesUptoRow, standIns := [], harness := (true, "41be1ca9c4476a0d6723f7c432c5a1fb913f2b64fb35501eeaabe8c18b38630f"), looks := false }, kinds := [], alts := [], laidByText := true, laidKinds := [.data], laidTests := true, laidLooks := .later }
def RedoLinesUptoCardSaid : Prop := Claim7.holds Tryz.pinned (.plain (OpenSpec.upto redoLinesSpec)) redoLinesUptoCard

/-- THE SECOND FORM's CARD OF 'scriniumlaw07.RedoScans'. -/
def redoScansUptoCard : Claim7 := { stood := { row := redoScansUptoRow, standIns := [], harness := (true, "41be1ca9c4476a0d6723f7c432c5a1fb913f2b64fb35501eeaabe8c18b38630f"), looks := false }, kinds := [], alts := [], laidByText := true, laidKinds := [.data], laidTests := true, laidLooks := .later }
def RedoScansUptoCardSaid : Prop := Claim7.holds Tryz.pinned (.plain (OpenSpec.upto redoScansSpec)) redoScansUptoCard

/-- THE SECOND FORM's CARD OF 'scriniumlaw07.RedoWhole'. -/
def redoWholeUptoCard : Claim7 := { stood := { row := redoWholeUptoRow, standIns := [], harness := (true, "41be1ca9c4476a0d6723f7c432c5a1fb913f2b64fb35501eeaabe8c18b38630f"), looks := false }, kinds := [], alts := [], laidByText := true, laidKinds := [.data], laidTests := true, laidLooks := .later }
def RedoWholeUptoCardSaid : Prop := Claim7.holds Tryz.pinned (.plain (OpenSpec.upto redoWholeSpec)) redoWholeUptoCard
end Rows
end Go.Proofs.YtfcocbgdmmeikaaGreatDoor
