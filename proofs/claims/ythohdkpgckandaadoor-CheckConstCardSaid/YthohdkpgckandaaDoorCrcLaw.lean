/-
  The table of 16, out of the row's own condition; what a law's end needs.
-/
import Derived.Test.YthohdkpgckandaaDoorGenLaw
import Derived.Lib.LaidTab
import Derived.SevenTiedAt
import Derived.Test.YthohdkpgckandaaDoorTie
import Derived.Test.YthohdkpgckandaaDoorCards
import Derived.Test.YthohdkpgckandaaDoorCrcAdd
namespace Go.Proofs.YthohdkpgckandaaDoor
open Go.ChangeShapes Go.WideShapes Go.ChangeAt Go.RowKit

theorem gT : Tryd.prog.globalNamed "scrinium/check.fourSteps" = some 0 := by kernel_rfl
theorem gTt : (Tryd.prog.globals[0]?).map (·.type) = some 38 := by kernel_rfl
theorem laid_eq : (Rows.laid_scrinium_check_fourSteps : DataW Unit) = Lib.tabData .u32 (((List.range 16).map (Crc.steps 4)).map Int.ofNat) := by kernel_rfl
theorem KT_of_laid {W : World} (h : laidMetH Tryd.prog [("scrinium/check.fourSteps", Rows.laid_scrinium_check_fourSteps)] W) : TW W := by
  rw [MakeChecks.laidMetH_plain _ _ _ (by kernel_rfl), laid_eq] at h
  have hT := Lib.tabIs_of_head gT gTt Tryd.underlying38 Tryd.underlying22 (by kernel_rfl) (by kernel_rfl) h
  intro i hi
  have := hT.cell gT i (by simpa using hi)
  rw [this]
  congr 2
  simp [hi]
theorem door_met (os : Os) (args : Array Value) : laidMetH Tryd.prog [("scrinium/check.fourSteps", Rows.laid_scrinium_check_fourSteps)] ((World.doorLaid Tryd.prog 400 os).forCall (fun _ _ => 0) ⟨#[], args, []⟩).memory :=
  laidMetH_of_parts3 (fuel := 8) (laidMet_of_run' 8 (by kernel_rfl) (by kernel_rfl)) (by kernel_rfl) (by kernel_rfl)
end Go.Proofs.YthohdkpgckandaaDoor
