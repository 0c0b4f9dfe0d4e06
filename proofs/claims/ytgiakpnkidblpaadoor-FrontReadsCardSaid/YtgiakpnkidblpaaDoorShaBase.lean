/-
  Package sha: what numbers and hashes are in memory; worlds in which nothing but one block has turned.
-/
import Derived.Test.YtgiakpnkidblpaaDoorShaRot
namespace Go.Proofs.YtgiakpnkidblpaaDoor
open Go.RowKit
/-- The numbers K, where the package keeps them. -/
def KT (w : World) : Prop := ∀ i, i < 64 → w.cell? ⟨0, i, none⟩ = some (.int .u32 (Sha.K.getD i 0 : Nat))
def vC (v : Sha.V) : Array Value := #[.int .u32 v.a, .int .u32 v.b, .int .u32 v.c, .int .u32 v.d, .int .u32 v.e, .int .u32 v.f, .int .u32 v.g, .int .u32 v.h]
def zC : Array Value := #[.int .u32 0, .int .u32 0, .int .u32 0, .int .u32 0, .int .u32 0, .int .u32 0, .int .u32 0, .int .u32 0]
/-- The value of a hash (api.Sum): its bytes. -/
def sumV (l : List UInt8) : Value := .agg (l.map u8V).toArray

theorem KT.pos {w : World} (hK : KT w) : 0 < w.heap.size := by
  by_cases h : 0 < w.heap.size
  · exact h
  · have := hK 0 (by decide)
    unfold World.cell? at this
    rw [Array.getElem?_eq_none (by simp only at h ⊢; omega)] at this
    cases this
theorem KT.old {w w' : World} (hK : KT w) (h : Below w.heap.size w w') : KT w' := fun i hi => (h.cell (by exact hK.pos)).trans (hK i hi)

theorem index_8 (a b c d e f g h : Value) :
    (∀ w, (Instr.index 76 (.agg #[a, b, c, d, e, f, g, h]) (.int .i64 0)).run Tryd.prog w = .ok a w) ∧ (∀ w, (Instr.index 76 (.agg #[a, b, c, d, e, f, g, h]) (.int .i64 1)).run Tryd.prog w = .ok b w)
    ∧ (∀ w, (Instr.index 76 (.agg #[a, b, c, d, e, f, g, h]) (.int .i64 2)).run Tryd.prog w = .ok c w) ∧ (∀ w, (Instr.index 76 (.agg #[a, b, c, d, e, f, g, h]) (.int .i64 3)).run Tryd.prog w = .ok d w)
    ∧ (∀ w, (Instr.index 76 (.agg #[a, b, c, d, e, f, g, h]) (.int .i64 4)).run Tryd.prog w = .ok e w) ∧ (∀ w, (Instr.index 76 (.agg #[a, b, c, d, e, f, g, h]) (.int .i64 5)).run Tryd.prog w = .ok f w)
    ∧ (∀ w, (Instr.index 76 (.agg #[a, b, c, d, e, f, g, h]) (.int .i64 6)).run Tryd.prog w = .ok g w) ∧ (∀ w, (Instr.index 76 (.agg #[a, b, c, d, e, f, g, h]) (.int .i64 7)).run Tryd.prog w = .ok h w) := by
  refine ⟨fun w => ?_, fun w => ?_, fun w => ?_, fun w => ?_, fun w => ?_, fun w => ?_, fun w => ?_, fun w => ?_⟩
  · exact run_index_agg (i := 0) w Tryd.underlying76 (by kernel_rfl) (by kernel_rfl) (by kernel_rfl) (by decide) rfl
  · exact run_index_agg (i := 1) w Tryd.underlying76 (by kernel_rfl) (by kernel_rfl) (by kernel_rfl) (by decide) rfl
  · exact run_index_agg (i := 2) w Tryd.underlying76 (by kernel_rfl) (by kernel_rfl) (by kernel_rfl) (by decide) rfl
  · exact run_index_agg (i := 3) w Tryd.underlying76 (by kernel_rfl) (by kernel_rfl) (by kernel_rfl) (by decide) rfl
  · exact run_index_agg (i := 4) w Tryd.underlying76 (by kernel_rfl) (by kernel_rfl) (by kernel_rfl) (by decide) rfl
  · exact run_index_agg (i := 5) w Tryd.underlying76 (by kernel_rfl) (by kernel_rfl) (by kernel_rfl) (by decide) rfl
  · exact run_index_agg (i := 6) w Tryd.underlying76 (by kernel_rfl) (by kernel_rfl) (by kernel_rfl) (by decide) rfl
  · exact run_index_agg (i := 7) w Tryd.underlying76 (by kernel_rfl) (by kernel_rfl) (by kernel_rfl) (by decide) rfl

end Go.Proofs.YtgiakpnkidblpaaDoor
