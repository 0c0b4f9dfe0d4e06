/-
  DERIVED. GIVEN WITH THE SEED: THE CARDS: each row of YtollcdalokhjaaaDoorRows.lean that lists a variable, with what it lists TIED to the program's text (the seventh form; the later family's looks); each row that meets fmt, with fmt's text TOLD by the authors' own Lean function (tested against real Go, not proved from fmt's source: count such statements apart). THE CARD IS WHAT COUNTS. Prove the row's statement (the work); the ties are given (YtollcdalokhjaaaDoorTie.lean); close each card by the builder's one call (the guide's Derived/Test/ToyasCard.lean, 'card_holds'). Laid BY PROGRAM, IN A SANDBOX (cutbox-door.mjs). By AI agents, Wed Nov 11 2026. No macro, syntax, notation, axiom, sorry.
-/
import Derived.Test.YtollcdalokhjaaaDoorRows
import GoSem.ClaimSeven
namespace Go.Proofs.YtollcdalokhjaaaDoor
namespace Rows

/-- THE TIED CARD OF 'scriniumlaw17.ShardLasts'. -/
def shardLastsCard : Claim7 := { stood := { row := shardLastsRow, standIns := [], harness := (true, "252863e36f2fad1df9ebf50e1bf55b8deadfcc1e4ea8d9695ee6ce739d7a6dea"), looks := false }, kinds := [], alts := [], laidByText := true, laidKinds := [.data], laidTests := true, laidLooks := .later }
def ShardLastsCardSaid : Prop := Claim7.holds Tryd.pinned (.plain (OpenSpec.ofChange shardLastsSpec)) shardLastsCard

/-- THE TIED CARD OF 'scriniumlaw17.ShardGives'. -/
def shardGivesCard : Claim7 := { stood := { row := shardGivesRow, standIns := [], harness := (true, "252863e36f2fad1df9ebf50e1bf55b8deadfcc1e4ea8d9695ee6ce739d7a6dea"), looks := false }, kinds := [], alts := [], laidByText := true, laidKinds := [.data], laidTests := true, laidLooks := .later }
def ShardGivesCardSaid : Prop := Claim7.holds Tryd.pinned (.plain (OpenSpec.ofChange shardGivesSpec)) shardGivesCard

/-- THE TIED CARD OF 'scriniumlaw17.ShardCopies'. -/
def shardCopiesCard : Claim7 := { stood := { row := shardCopiesRow, standIns := [], harness := (true, "252863e36f2fad1df9ebf50e1bf55b8deadfcc1e4ea8d9695ee6ce739d7a6dea"), looks := false }, kinds := [], alts := [], laidByText := true, laidKinds := [.data], laidTests := true, laidLooks := .later }
def ShardCopiesCardSaid : Prop := Claim7.holds Tryd.pinned (.plain (OpenSpec.ofChange shardCopiesSpec)) shardCopiesCard

/-- THE TIED CARD OF 'scriniumlaw17.ShardNil'. -/
def shardNilCard : Claim7 := { stood := { row := shardNilRow, standIns := [], harness := (true, "252863e36f2fad1df9ebf50e1bf55b8deadfcc1e4ea8d9695ee6ce739d7a6dea"), looks := false }, kinds := [], alts := [], laidByText := true, laidKinds := [.data], laidTests := true, laidLooks := .later }
def ShardNilCardSaid : Prop := Claim7.holds Tryd.pinned (.plain (OpenSpec.ofChange shardNilSpec)) shardNilCard

/-- THE TIED CARD OF 'scriniumlaw17.ShardProves'. -/
def shardProvesCard : Claim7 := { stood := { row := shardProvesRow, standIns := [], harness := (true, "252863e36f2fad1df9ebf50e1bf55b8deadfcc1e4ea8d9695ee6ce739d7a6dea"), looks := false }, kinds := [], alts := [], laidByText := true, laidKinds := [.data], laidTests := true, laidLooks := .later }
def ShardProvesCardSaid : Prop := Claim7.holds Tryd.pinned (.plain (OpenSpec.ofChange shardProvesSpec)) shardProvesCard

/-- THE SECOND FORM's CARD OF 'scriniumlaw17.ShardLasts'. -/
def shardLastsUptoCard : Claim7 := { stood := { row := shardLastsUptoRow, standIns := [], harness := (true, "252863e36f2fad1df9ebf50e1bf55b8deadfcc1e4ea8d9695ee6ce739d7a6dea"), looks := false }, kinds := [], alts := [], laidByText := true, laidKinds := [.data], laidTests := true, laidLooks := .later }
def ShardLastsUptoCardSaid : Prop := Claim7.holds Tryd.pinned (.plain (OpenSpec.upto shardLastsSpec)) shardLastsUptoCard

/-- THE SECOND FORM's CARD OF 'scriniumlaw17.ShardGives'. -/
def shardGivesUptoCard : Claim7 := { stood := { row := shardGivesUptoRow, standIns := [], harness := (true, "252863e36f2fad1df9ebf50e1bf55b8deadfcc1e4ea8d9695ee6ce739d7a6dea"), looks := false }, kinds := [], alts := [], laidByText := true, laidKinds := [.data], laidTests := true, laidLooks := .later }
def ShardGivesUptoCardSaid : Prop := Claim7.holds Tryd.pinned (.plain (OpenSpec.upto shardGivesSpec)) shardGivesUptoCard

/-- THE SECOND FORM's CARD OF 'scriniumlaw17.ShardCopies'. -/
def shardCopiesUptoCard : Claim7 := { stood := { row := shardCopiesUptoRow, standIns := [], harness := (true, "252863e36f2fad1df9ebf50e1bf55b8deadfcc1e4ea8d9695ee6ce739d7a6dea"), looks := false }, kinds := [], alts := [], laidByText := true, laidKinds := [.data], laidTests := true, laidLooks := .later }
def ShardCopiesUptoCardSaid : Prop := Claim7.holds Tryd.pinned (.plain (OpenSpec.upto shardCopiesSpec)) shardCopiesUptoCard

/-- THE SECOND FORM's CARD OF 'scriniumlaw17.ShardNil'. -/
def shardNilUptoCard : Claim7 := { stood := { row := shardNilUptoRow, standIns := [], harness := (true, "252863e36f2fad1df9ebf50e1bf55b8deadfcc1e4ea8d9695ee6ce739d7a6dea"), looks := false }, kinds := [], alts := [], laidByText := true, laidKinds := [.data], laidTests := true, laidLooks := .later }
def ShardNilUptoCardSaid : Prop := Claim7.holds Tryd.pinned (.plain (OpenSpec.upto shardNilSpec)) shardNilUptoCard

/-- THE SECOND FORM's CARD OF 'scriniumlaw17.ShardProves'. -/
def shardProvesUptoCard : Claim7 := { stood := { row := shardProvesUptoRow, standIns := [], harness := (true, "252863e36f2fad1df9ebf50e1bf55b8deadfcc1e4ea8d9695ee6ce739d7a6dea"), looks := false }, kinds := [], alts := [], laidByText := true, laidKinds := [.data], laidTests := true, laidLooks := .later }
def ShardProvesUptoCardSaid : Prop := Claim7.holds Tryd.pinned (.plain (OpenSpec.upto shardProvesSpec)) shardProvesUptoCard
end Rows
end Go.Proofs.YtollcdalokhjaaaDoor
