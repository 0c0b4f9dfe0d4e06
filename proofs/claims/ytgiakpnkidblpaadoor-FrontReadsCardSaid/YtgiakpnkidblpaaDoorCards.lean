/-
  DERIVED. GIVEN WITH THE SEED: THE CARDS: each row of YtgiakpnkidblpaaDoorRows.lean that lists a variable, with what it lists TIED to the program's text (the seventh form; the later family's looks); each row that meets fmt, with fmt's text TOLD by the authors' own Lean function (tested against real Go, not proved from fmt's source: count such statements apart). THE CARD IS WHAT COUNTS. Prove the row's statement (the work); the ties are given (YtgiakpnkidblpaaDoorTie.lean); close each card by the builder's one call (the guide's Derived/Test/ToyasCard.lean, 'card_holds'). Laid BY PROGRAM, IN A SANDBOX (cutbox-door.mjs). By AI agents, Wed Nov 11 2026. No macro, syntax, notation, axiom, sorry.
-/
import Derived.Test.YtgiakpnkidblpaaDoorRows
import GoSem.ClaimSeven
namespace Go.Proofs.YtgiakpnkidblpaaDoor
namespace Rows

/-- THE TIED CARD OF 'scriniumlaw11.FrontGrows'. -/
def frontGrowsCard : Claim7 := { stood := { row := frontGrowsRow, standIns := [], harness := (true, "23b9173454616b622678f225b6e1a7d6248cf100c77050a743f2afa845778acf"), looks := false }, kinds := [], alts := [], laidByText := true, laidKinds := [.data], laidTests := true, laidLooks := .later }
def FrontGrowsCardSaid : Prop := Claim7.holds Tryd.pinned (.plain (OpenSpec.ofChange frontGrowsSpec)) frontGrowsCard

/-- THE TIED CARD OF 'scriniumlaw11.FrontReads'. -/
def frontReadsCard : Claim7 := { stood := { row := frontReadsRow, standIns := [], harness := (true, "23b9173454616b622678f225b6e1a7d6248cf100c77050a743f2afa845778acf"), looks := false }, kinds := [], alts := [], laidByText := true, laidKinds := [.data], laidTests := true, laidLooks := .later }
def FrontReadsCardSaid : Prop := Claim7.holds Tryd.pinned (.plain (OpenSpec.ofChange frontReadsSpec)) frontReadsCard

/-- THE TIED CARD OF 'scriniumlaw11.FrontBack'. -/
def frontBackCard : Claim7 := { stood := { row := frontBackRow, standIns := [], harness := (true, "23b9173454616b622678f225b6e1a7d6248cf100c77050a743f2afa845778acf"), looks := false }, kinds := [], alts := [], laidByText := true, laidKinds := [.data], laidTests := true, laidLooks := .later }
def FrontBackCardSaid : Prop := Claim7.holds Tryd.pinned (.plain (OpenSpec.ofChange frontBackSpec)) frontBackCard

/-- THE TIED CARD OF 'scriniumlaw11.FrontPeaks'. -/
def frontPeaksCard : Claim7 := { stood := { row := frontPeaksRow, standIns := [], harness := (true, "23b9173454616b622678f225b6e1a7d6248cf100c77050a743f2afa845778acf"), looks := false }, kinds := [], alts := [], laidByText := true, laidKinds := [.data], laidTests := true, laidLooks := .later }
def FrontPeaksCardSaid : Prop := Claim7.holds Tryd.pinned (.plain (OpenSpec.ofChange frontPeaksSpec)) frontPeaksCard

/-- THE TIED CARD OF 'scriniumlaw11.FrontFull'. -/
def frontFullCard : Claim7 := { stood := { row := frontFullRow, standIns := [], harness := (true, "23b9173454616b622678f225b6e1a7d6248cf100c77050a743f2afa845778acf"), looks := false }, kinds := [], alts := [], laidByText := true, laidKinds := [.data], laidTests := true, laidLooks := .later }
def FrontFullCardSaid : Prop := Claim7.holds Tryd.pinned (.plain (OpenSpec.ofChange frontFullSpec)) frontFullCard

/-- THE TIED CARD OF 'scriniumlaw11.FrontNil'. -/
def frontNilCard : Claim7 := { stood := { row := frontNilRow, standIns := [], harness := (true, "23b9173454616b622678f225b6e1a7d6248cf100c77050a743f2afa845778acf"), looks := false }, kinds := [], alts := [], laidByText := true, laidKinds := [.data], laidTests := true, laidLooks := .later }
def FrontNilCardSaid : Prop := Claim7.holds Tryd.pinned (.plain (OpenSpec.ofChange frontNilSpec)) frontNilCard

/-- THE SECOND FORM's CARD OF 'scriniumlaw11.FrontGrows'. -/
def frontGrowsUptoCard : Claim7 := { stood := { row := frontGrowsUptoRow, standIns := [], harness := (true, "23b9173454616b622678f225b6e1a7d6248cf100c77050a743f2afa845778acf"), looks := false }, kinds := [], alts := [], laidByText := true, laidKinds := [.data], laidTests := true, laidLooks := .later }
def FrontGrowsUptoCardSaid : Prop := Claim7.holds Tryd.pinned (.plain (OpenSpec.upto frontGrowsSpec)) frontGrowsUptoCard

/-- THE SECOND FORM's CARD OF 'scriniumlaw11.FrontReads'. -/
def frontReadsUptoCard : Claim7 := { stood := { row := frontReadsUptoRow, standIns := [], harness := (true, "23b9173454616b622678f225b6e1a7d6248cf100c77050a743f2afa845778acf"), looks := false }, kinds := [], alts := [], laidByText := true, laidKinds := [.data], laidTests := true, laidLooks := .later }
def FrontReadsUptoCardSaid : Prop := Claim7.holds Tryd.pinned (.plain (OpenSpec.upto frontReadsSpec)) frontReadsUptoCard

/-- THE SECOND FORM's CARD OF 'scriniumlaw11.FrontBack'. -/
def frontBackUptoCard : Claim7 := { stood := { row := frontBackUptoRow, standIns := [], harness := (true, "23b9173454616b622678f225b6e1a7d6248cf100c77050a743f2afa845778acf"), looks := false }, kinds := [], alts := [], laidByText := true, laidKinds := [.data], laidTests := true, laidLooks := .later }
def FrontBackUptoCardSaid : Prop := Claim7.holds Tryd.pinned (.plain (OpenSpec.upto frontBackSpec)) frontBackUptoCard

/-- THE SECOND FORM's CARD OF 'scriniumlaw11.FrontPeaks'. -/
def frontPeaksUptoCard : Claim7 := { stood := { row := frontPeaksUptoRow, standIns := [], harness := (true, "23b9173454616b622678f225b6e1a7d6248cf100c77050a743f2afa845778acf"), looks := false }, kinds := [], alts := [], laidByText := true, laidKinds := [.data], laidTests := true, laidLooks := .later }
def FrontPeaksUptoCardSaid : Prop := Claim7.holds Tryd.pinned (.plain (OpenSpec.upto frontPeaksSpec)) frontPeaksUptoCard

/-- THE SECOND FORM's CARD OF 'scriniumlaw11.FrontFull'. -/
def frontFullUptoCard : Claim7 := { stood := { row := frontFullUptoRow, standIns := [], harness := (true, "23b9173454616b622678f225b6e1a7d6248cf100c77050a743f2afa845778acf"), looks := false }, kinds := [], alts := [], laidByText := true, laidKinds := [.data], laidTests := true, laidLooks := .later }
def FrontFullUptoCardSaid : Prop := Claim7.holds Tryd.pinned (.plain (OpenSpec.upto frontFullSpec)) frontFullUptoCard

/-- THE SECOND FORM's CARD OF 'scriniumlaw11.FrontNil'. -/
def frontNilUptoCard : Claim7 := { stood := { row := frontNilUptoRow, standIns := [], harness := (true, "23b9173454616b622678f225b6e1a7d6248cf100c77050a743f2afa845778acf"), looks := false }, kinds := [], alts := [], laidByText := true, laidKinds := [.data], laidTests := true, laidLooks := .later }
def FrontNilUptoCardSaid : Prop := Claim7.holds Tryd.pinned (.plain (OpenSpec.upto frontNilSpec)) frontNilUptoCard
end Rows
end Go.Proofs.YtgiakpnkidblpaaDoor
