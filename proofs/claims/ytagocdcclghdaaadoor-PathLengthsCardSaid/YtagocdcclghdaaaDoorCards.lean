/-
  DERIVED. GIVEN WITH THE SEED: THE CARDS: each row of YtagocdcclghdaaaDoorRows.lean that lists a variable, with what it lists TIED to the program's text (the seventh form; the later family's looks); each row that meets fmt, with fmt's text TOLD by the authors' own Lean function (tested against real Go, not proved from fmt's source: count such statements apart). THE CARD IS WHAT COUNTS. Prove the row's statement (the work); the ties are given (YtagocdcclghdaaaDoorTie.lean); close each card by the builder's one call (the guide's Derived/Test/ToyasCard.lean, 'card_holds'). Laid BY PROGRAM, IN A SANDBOX (cutbox-door.mjs). By AI agents, Wed Nov 11 2026. No macro, syntax, notation, axiom, sorry.
-/
import Derived.Test.YtagocdcclghdaaaDoorRows
import GoSem.ClaimSeven
namespace Go.Proofs.YtagocdcclghdaaaDoor
namespace Rows

/-- THE TIED CARD OF 'scriniumlaw10.PathProofs'. -/
def pathProofsCard : Claim7 := { stood := { row := pathProofsRow, standIns := [], harness := (true, "cc28f77cfc89e21661c9b59b384621c6a2973a71f011727970328f8993d6872b"), looks := false }, kinds := [], alts := [], laidByText := true, laidKinds := [.data], laidTests := true, laidLooks := .later }
def PathProofsCardSaid : Prop := Claim7.holds Tryd.pinned (.plain (OpenSpec.ofChange pathProofsSpec)) pathProofsCard

/-- THE TIED CARD OF 'scriniumlaw10.PathLengths'. -/
def pathLengthsCard : Claim7 := { stood := { row := pathLengthsRow, standIns := [], harness := (true, "cc28f77cfc89e21661c9b59b384621c6a2973a71f011727970328f8993d6872b"), looks := false }, kinds := [], alts := [], laidByText := true, laidKinds := [.data], laidTests := true, laidLooks := .later }
def PathLengthsCardSaid : Prop := Claim7.holds Tryd.pinned (.plain (OpenSpec.ofChange pathLengthsSpec)) pathLengthsCard

/-- THE TIED CARD OF 'scriniumlaw10.PathCounts'. -/
def pathCountsCard : Claim7 := { stood := { row := pathCountsRow, standIns := [], harness := (true, "cc28f77cfc89e21661c9b59b384621c6a2973a71f011727970328f8993d6872b"), looks := false }, kinds := [], alts := [], laidByText := true, laidKinds := [.data], laidTests := true, laidLooks := .later }
def PathCountsCardSaid : Prop := Claim7.holds Tryd.pinned (.plain (OpenSpec.ofChange pathCountsSpec)) pathCountsCard

/-- THE TIED CARD OF 'scriniumlaw10.PathFolds'. -/
def pathFoldsCard : Claim7 := { stood := { row := pathFoldsRow, standIns := [], harness := (true, "cc28f77cfc89e21661c9b59b384621c6a2973a71f011727970328f8993d6872b"), looks := false }, kinds := [], alts := [], laidByText := true, laidKinds := [.data], laidTests := true, laidLooks := .later }
def PathFoldsCardSaid : Prop := Claim7.holds Tryd.pinned (.plain (OpenSpec.ofChange pathFoldsSpec)) pathFoldsCard

/-- THE TIED CARD OF 'scriniumlaw10.PathLast'. -/
def pathLastCard : Claim7 := { stood := { row := pathLastRow, standIns := [], harness := (true, "cc28f77cfc89e21661c9b59b384621c6a2973a71f011727970328f8993d6872b"), looks := false }, kinds := [], alts := [], laidByText := true, laidKinds := [.data], laidTests := true, laidLooks := .later }
def PathLastCardSaid : Prop := Claim7.holds Tryd.pinned (.plain (OpenSpec.ofChange pathLastSpec)) pathLastCard

/-- THE TIED CARD OF 'scriniumlaw10.PathBits'. -/
def pathBitsCard : Claim7 := { stood := { row := pathBitsRow, standIns := [], harness := (true, "cc28f77cfc89e21661c9b59b384621c6a2973a71f011727970328f8993d6872b"), looks := false }, kinds := [], alts := [], laidByText := true, laidKinds := [.data], laidTests := true, laidLooks := .later }
def PathBitsCardSaid : Prop := Claim7.holds Tryd.pinned (.plain (OpenSpec.ofChange pathBitsSpec)) pathBitsCard

/-- THE SECOND FORM's CARD OF 'scriniumlaw10.PathProofs'. -/
def pathProofsUptoCard : Claim7 := { stood := { row := pathProofsUptoRow, standIns := [], harness := (true, "cc28f77cfc89e21661c9b59b384621c6a2973a71f011727970328f8993d6872b"), looks := false }, kinds := [], alts := [], laidByText := true, laidKinds := [.data], laidTests := true, laidLooks := .later }
def PathProofsUptoCardSaid : Prop := Claim7.holds Tryd.pinned (.plain (OpenSpec.upto pathProofsSpec)) pathProofsUptoCard

/-- THE SECOND FORM's CARD OF 'scriniumlaw10.PathLengths'. -/
def pathLengthsUptoCard : Claim7 := { stood := { row := pathLengthsUptoRow, standIns := [], harness := (true, "cc28f77cfc89e21661c9b59b384621c6a2973a71f011727970328f8993d6872b"), looks := false }, kinds := [], alts := [], laidByText := true, laidKinds := [.data], laidTests := true, laidLooks := .later }
def PathLengthsUptoCardSaid : Prop := Claim7.holds Tryd.pinned (.plain (OpenSpec.upto pathLengthsSpec)) pathLengthsUptoCard

/-- THE SECOND FORM's CARD OF 'scriniumlaw10.PathCounts'. -/
def pathCountsUptoCard : Claim7 := { stood := { row := pathCountsUptoRow, standIns := [], harness := (true, "cc28f77cfc89e21661c9b59b384621c6a2973a71f011727970328f8993d6872b"), looks := false }, kinds := [], alts := [], laidByText := true, laidKinds := [.data], laidTests := true, laidLooks := .later }
def PathCountsUptoCardSaid : Prop := Claim7.holds Tryd.pinned (.plain (OpenSpec.upto pathCountsSpec)) pathCountsUptoCard

/-- THE SECOND FORM's CARD OF 'scriniumlaw10.PathFolds'. -/
def pathFoldsUptoCard : Claim7 := { stood := { row := pathFoldsUptoRow, standIns := [], harness := (true, "cc28f77cfc89e21661c9b59b384621c6a2973a71f011727970328f8993d6872b"), looks := false }, kinds := [], alts := [], laidByText := true, laidKinds := [.data], laidTests := true, laidLooks := .later }
def PathFoldsUptoCardSaid : Prop := Claim7.holds Tryd.pinned (.plain (OpenSpec.upto pathFoldsSpec)) pathFoldsUptoCard

/-- THE SECOND FORM's CARD OF 'scriniumlaw10.PathLast'. -/
def pathLastUptoCard : Claim7 := { stood := { row := pathLastUptoRow, standIns := [], harness := (true, "cc28f77cfc89e21661c9b59b384621c6a2973a71f011727970328f8993d6872b"), looks := false }, kinds := [], alts := [], laidByText := true, laidKinds := [.data], laidTests := true, laidLooks := .later }
def PathLastUptoCardSaid : Prop := Claim7.holds Tryd.pinned (.plain (OpenSpec.upto pathLastSpec)) pathLastUptoCard

/-- THE SECOND FORM's CARD OF 'scriniumlaw10.PathBits'. -/
def pathBitsUptoCard : Claim7 := { stood := { row := pathBitsUptoRow, standIns := [], harness := (true, "cc28f77cfc89e21661c9b59b384621c6a2973a71f011727970328f8993d6872b"), looks := false }, kinds := [], alts := [], laidByText := true, laidKinds := [.data], laidTests := true, laidLooks := .later }
def PathBitsUptoCardSaid : Prop := Claim7.holds Tryd.pinned (.plain (OpenSpec.upto pathBitsSpec)) pathBitsUptoCard
end Rows
end Go.Proofs.YtagocdcclghdaaaDoor
