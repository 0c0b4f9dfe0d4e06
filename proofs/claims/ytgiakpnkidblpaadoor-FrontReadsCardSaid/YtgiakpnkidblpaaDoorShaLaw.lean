/-
  The last step of every law: the call answered true and turned nothing that was there: so each argument reads as it did. For any parameters.
-/
import Derived.Test.YtgiakpnkidblpaaDoorMArg
import Derived.Lib.LaidTab
import Derived.SevenTiedAt
import Derived.Test.YtgiakpnkidblpaaDoorTie
import Derived.Test.YtgiakpnkidblpaaDoorCards
import Derived.Test.YtgiakpnkidblpaaDoorShaAwake
namespace Go.Proofs.YtgiakpnkidblpaaDoor
open Go.ChangeShapes Go.WideShapes Go.ChangeAt Go.RowKit
/-! ### The numbers K, out of the row's own condition -/
theorem gK : Tryd.prog.globalNamed "scrinium/sha.k" = some 0 := by kernel_rfl
theorem gKt : (Tryd.prog.globals[0]?).map (·.type) = some 100 := by kernel_rfl
theorem laid_eq : (Rows.laid_scrinium_sha_k : DataW Unit) = Lib.tabData .u32 (Sha.K.map Int.ofNat) := by kernel_rfl
theorem KT_of_laid {W : World} (h : laidMetH Tryd.prog [("scrinium/sha.k", Rows.laid_scrinium_sha_k)] W) : KT W := by
  rw [MakeChecks.laidMetH_plain _ _ _ (by kernel_rfl), laid_eq] at h
  have hT := Lib.tabIs_of_head gK gKt Tryd.underlying100 Tryd.underlying75 (by kernel_rfl) (by kernel_rfl) h
  intro i hi
  have hl : Sha.K.length = 64 := by decide
  have := hT.cell gK i (by rw [List.length_map, hl]; exact hi)
  rw [this]
  congr 2
  simp [hl, hi]
theorem door_met (os : Os) (args : Array Value) : laidMetH Tryd.prog [("scrinium/sha.k", Rows.laid_scrinium_sha_k)] ((World.doorLaid Tryd.prog 400 os).forCall (fun _ _ => 0) ⟨#[], args, []⟩).memory :=
  laidMetH_of_parts3 (fuel := 8) (laidMet_of_run' 8 (by kernel_rfl) (by kernel_rfl)) (by kernel_rfl) (by kernel_rfl)

/-! ### Arguments that are arrays of numbers -/
section
variable {H : Type} {enc : TypeId × Value → H} {W : World} {r : Reach} {b0 : Nat} {v : Value} {d : DataW H} {ps : List MemPlace}
set_option maxRecDepth 100000 in
theorem open_sum (hv : Value.okWide Tryd.prog W r b0 31 v) (h : DataW.Trod enc Tryd.prog W 0 (fun _ => true) true 31 v d ps) : ∃ bs : List UInt8, v = sumV bs ∧ bs.length = 32 := by
  obtain ⟨l, rfl, hl, hw⟩ := int_array Tryd.underlying31 Tryd.underlying5 (by kernel_rfl) (by kernel_rfl) hv h
  obtain ⟨bs, h1, h2⟩ := u8_list l hw
  exact ⟨bs, by rw [h1]; rfl, h2.trans hl⟩
set_option maxRecDepth 100000 in
theorem open_64 (hv : Value.okWide Tryd.prog W r b0 96 v) (h : DataW.Trod enc Tryd.prog W 0 (fun _ => true) true 96 v d ps) : ∃ bs : List UInt8, v = .agg (bs.map u8V).toArray ∧ bs.length = 64 := by
  obtain ⟨l, rfl, hl, hw⟩ := int_array Tryd.underlying96 Tryd.underlying5 (by kernel_rfl) (by kernel_rfl) hv h
  obtain ⟨bs, h1, h2⟩ := u8_list l hw
  exact ⟨bs, by rw [h1], h2.trans hl⟩
set_option maxRecDepth 100000 in
theorem open_8 (hv : Value.okWide Tryd.prog W r b0 76 v) (h : DataW.Trod enc Tryd.prog W 0 (fun _ => true) true 76 v d ps) : ∃ V : Sha.V, v = .agg (vC V) ∧ V.ok := by
  obtain ⟨l, rfl, hl, hw⟩ := int_array Tryd.underlying76 Tryd.underlying75 (by kernel_rfl) (by kernel_rfl) hv h
  obtain ⟨bs, h1, h2, h3⟩ := u32_list l hw
  rw [h1]
  rw [hl] at h2
  match bs, h2 with
  | [a, b, c, d, e, f, g, k], _ =>
    refine ⟨⟨a, b, c, d, e, f, g, k⟩, rfl, ?_⟩
    simp only [List.mem_cons, List.not_mem_nil, or_false] at h3
    exact ⟨h3 a (by simp), h3 b (by simp), h3 c (by simp), h3 d (by simp), h3 e (by simp), h3 f (by simp), h3 g (by simp), h3 k (by simp)⟩
set_option maxRecDepth 100000 in
theorem open_16 (hv : Value.okWide Tryd.prog W r b0 78 v) (h : DataW.Trod enc Tryd.prog W 0 (fun _ => true) true 78 v d ps) : ∃ B : List Nat, v = .agg (bC B) ∧ B.length = 16 ∧ ∀ x ∈ B, x < 4294967296 := by
  obtain ⟨l, rfl, hl, hw⟩ := int_array Tryd.underlying78 Tryd.underlying75 (by kernel_rfl) (by kernel_rfl) hv h
  obtain ⟨bs, h1, h2, h3⟩ := u32_list l hw
  exact ⟨bs, by rw [h1]; rfl, h2.trans hl, h3⟩
end
end Go.Proofs.YtgiakpnkidblpaaDoor
