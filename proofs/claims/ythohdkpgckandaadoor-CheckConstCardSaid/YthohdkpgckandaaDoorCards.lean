/-
  DERIVED. GIVEN WITH THE SEED: THE CARDS: each row of YthohdkpgckandaaDoorRows.lean that lists a variable, with what it lists TIED to the program's text (the seventh form; the later family's looks); each row that meets fmt, with fmt's text TOLD by the authors' own Lean function (tested against real Go, not proved from fmt's source: count such statements apart). THE CARD IS WHAT COUNTS. Prove the row's statement (the work); the ties are given (YthohdkpgckandaaDoorTie.lean); close each card by the builder's one call (the guide's Derived/Test/ToyasCard.lean, 'card_holds'). Laid BY PROGRAM, IN A SANDBOX (cutbox-door.mjs). By AI agents, Wed Nov 11 2026. No macro, syntax, notation, axiom, sorry.
-/
import Derived.Test.YthohdkpgckandaaDoorRows
import GoSem.ClaimSeven
namespace Go.Proofs.YthohdkpgckandaaDoor
namespace Rows

/-- THE TIED CARD OF 'scriniumlaw04.CheckSums'. -/
def checkSumsCard : Claim7 := { stood := { row := checkSumsRow, standIns := [], harness := (true, "f6ce422fce2aa77665d6a17c4ec512ce08b18f0a427266d7d022d8ff46a26fbc"), looks := false }, kinds := [], alts := [], laidByText := true, laidKinds := [.data], laidTests := true, laidLooks := .later }
def CheckSumsCardSaid : Prop := Claim7.holds Tryd.pinned (.plain (OpenSpec.ofChange checkSumsSpec)) checkSumsCard

/-- THE TIED CARD OF 'scriniumlaw04.CheckSeals'. -/
def checkSealsCard : Claim7 := { stood := { row := checkSealsRow, standIns := [], harness := (true, "f6ce422fce2aa77665d6a17c4ec512ce08b18f0a427266d7d022d8ff46a26fbc"), looks := false }, kinds := [], alts := [], laidByText := true, laidKinds := [.data], laidTests := true, laidLooks := .later }
def CheckSealsCardSaid : Prop := Claim7.holds Tryd.pinned (.plain (OpenSpec.ofChange checkSealsSpec)) checkSealsCard

/-- THE TIED CARD OF 'scriniumlaw04.CheckWhole'. -/
def checkWholeCard : Claim7 := { stood := { row := checkWholeRow, standIns := [], harness := (true, "f6ce422fce2aa77665d6a17c4ec512ce08b18f0a427266d7d022d8ff46a26fbc"), looks := false }, kinds := [], alts := [], laidByText := true, laidKinds := [.data], laidTests := true, laidLooks := .later }
def CheckWholeCardSaid : Prop := Claim7.holds Tryd.pinned (.plain (OpenSpec.ofChange checkWholeSpec)) checkWholeCard

/-- THE TIED CARD OF 'scriniumlaw04.CheckTurned'. -/
def checkTurnedCard : Claim7 := { stood := { row := checkTurnedRow, standIns := [], harness := (true, "f6ce422fce2aa77665d6a17c4ec512ce08b18f0a427266d7d022d8ff46a26fbc"), looks := false }, kinds := [], alts := [], laidByText := true, laidKinds := [.data], laidTests := true, laidLooks := .later }
def CheckTurnedCardSaid : Prop := Claim7.holds Tryd.pinned (.plain (OpenSpec.ofChange checkTurnedSpec)) checkTurnedCard

/-- THE TIED CARD OF 'scriniumlaw04.CheckSealTurned'. -/
def checkSealTurnedCard : Claim7 := { stood := { row := checkSealTurnedRow, standIns := [], harness := (true, "f6ce422fce2aa77665d6a17c4ec512ce08b18f0a427266d7d022d8ff46a26fbc"), looks := false }, kinds := [], alts := [], laidByText := true, laidKinds := [.data], laidTests := true, laidLooks := .later }
def CheckSealTurnedCardSaid : Prop := Claim7.holds Tryd.pinned (.plain (OpenSpec.ofChange checkSealTurnedSpec)) checkSealTurnedCard

/-- THE TIED CARD OF 'scriniumlaw04.CheckParts'. -/
def checkPartsCard : Claim7 := { stood := { row := checkPartsRow, standIns := [], harness := (true, "f6ce422fce2aa77665d6a17c4ec512ce08b18f0a427266d7d022d8ff46a26fbc"), looks := false }, kinds := [], alts := [], laidByText := true, laidKinds := [.data], laidTests := true, laidLooks := .later }
def CheckPartsCardSaid : Prop := Claim7.holds Tryd.pinned (.plain (OpenSpec.ofChange checkPartsSpec)) checkPartsCard

/-- THE TIED CARD OF 'scriniumlaw04.CheckConst'. -/
def checkConstCard : Claim7 := { stood := { row := checkConstRow, standIns := [], harness := (true, "f6ce422fce2aa77665d6a17c4ec512ce08b18f0a427266d7d022d8ff46a26fbc"), looks := false }, kinds := [], alts := [], laidByText := true, laidKinds := [.data], laidTests := true, laidLooks := .later }
def CheckConstCardSaid : Prop := Claim7.holds Tryd.pinned (.plain (OpenSpec.ofChange checkConstSpec)) checkConstCard

/-- THE SECOND FORM's CARD OF 'scriniumlaw04.CheckSums'. -/
def checkSumsUptoCard : Claim7 := { stood := { row := checkSumsUptoRow, standIns := [], harness := (true, "f6ce422fce2aa77665d6a17c4ec512ce08b18f0a427266d7d022d8ff46a26fbc"), looks := false }, kinds := [], alts := [], laidByText := true, laidKinds := [.data], laidTests := true, laidLooks := .later }
def CheckSumsUptoCardSaid : Prop := Claim7.holds Tryd.pinned (.plain (OpenSpec.upto checkSumsSpec)) checkSumsUptoCard

/-- THE SECOND FORM's CARD OF 'scriniumlaw04.CheckSeals'. -/
def checkSealsUptoCard : Claim7 := { stood := { row := checkSealsUptoRow, standIns := [], harness := (true, "f6ce422fce2aa77665d6a17c4ec512ce08b18f0a427266d7d022d8ff46a26fbc"), looks := false }, kinds := [], alts := [], laidByText := true, laidKinds := [.data], laidTests := true, laidLooks := .later }
def CheckSealsUptoCardSaid : Prop := Claim7.holds Tryd.pinned (.plain (OpenSpec.upto checkSealsSpec)) checkSealsUptoCard

/-- THE SECOND FORM's CARD OF 'scriniumlaw04.CheckWhole'. -/
def checkWholeUptoCard : Claim7 := { stood := { row := checkWholeUptoRow, standIns := [], harness := (true, "f6ce422fce2aa77665d6a17c4ec512ce08b18f0a427266d7d022d8ff46a26fbc"), looks := false }, kinds := [], alts := [], laidByText := true, laidKinds := [.data], laidTests := true, laidLooks := .later }
def CheckWholeUptoCardSaid : Prop := Claim7.holds Tryd.pinned (.plain (OpenSpec.upto checkWholeSpec)) checkWholeUptoCard

/-- THE SECOND FORM's CARD OF 'scriniumlaw04.CheckTurned'. -/
def checkTurnedUptoCard : Claim7 := { stood := { row := checkTurnedUptoRow, standIns := [], harness := (true, "f6ce422fce2aa77665d6a17c4ec512ce08b18f0a427266d7d022d8ff46a26fbc"), looks := false }, kinds := [], alts := [], laidByText := true, laidKinds := [.data], laidTests := true, laidLooks := .later }
def CheckTurnedUptoCardSaid : Prop := Claim7.holds Tryd.pinned (.plain (OpenSpec.upto checkTurnedSpec)) checkTurnedUptoCard

/-- THE SECOND FORM's CARD OF 'scriniumlaw04.CheckSealTurned'. -/
def checkSealTurnedUptoCard : Claim7 := { stood := { row := checkSealTurnedUptoRow, standIns := [], harness := (true, "f6ce422fce2aa77665d6a17c4ec512ce08b18f0a427266d7d022d8ff46a26fbc"), looks := false }, kinds := [], alts := [], laidByText := true, laidKinds := [.data], laidTests := true, laidLooks := .later }
def CheckSealTurnedUptoCardSaid : Prop := Claim7.holds Tryd.pinned (.plain (OpenSpec.upto checkSealTurnedSpec)) checkSealTurnedUptoCard

/-- THE SECOND FORM's CARD OF 'scriniumlaw04.CheckParts'. -/
def checkPartsUptoCard : Claim7 := { stood := { row := checkPartsUptoRow, standIns := [], harness := (true, "f6ce422fce2aa77665d6a17c4ec512ce08b18f0a427266d7d022d8ff46a26fbc"), looks := false }, kinds := [], alts := [], laidByText := true, laidKinds := [.data], laidTests := true, laidLooks := .later }
def CheckPartsUptoCardSaid : Prop := Claim7.holds Tryd.pinned (.plain (OpenSpec.upto checkPartsSpec)) checkPartsUptoCard

/-- THE SECOND FORM's CARD OF 'scriniumlaw04.CheckConst'. -/
def checkConstUptoCard : Claim7 := { stood := { row := checkConstUptoRow, standIns := [], harness := (true, "f6ce422fce2aa77665d6a17c4ec512ce08b18f0a427266d7d022d8ff46a26fbc"), looks := false }, kinds := [], alts := [], laidByText := true, laidKinds := [.data], laidTests := true, laidLooks := .later }
def CheckConstUptoCardSaid : Prop := Claim7.holds Tryd.pinned (.plain (OpenSpec.upto checkConstSpec)) checkConstUptoCard
end Rows
end Go.Proofs.YthohdkpgckandaaDoor
