/-
  A slice of numbers that is read.
-/
import Derived.Test.YtnhpebhmihagbaaOctArgs
namespace Go.Proofs.Ytnhpebhmihagbaa
open Go.ChangeShapes Go.WideShapes Go.ChangeAt Go.RowKit

/-- v is a slice that reads as the numbers zs. -/
def IntRow (w : World) (v : Value) (zs : List Int) : Prop :=
  ∃ a cap, v = .slice a zs.length cap ∧ zs.length ≤ 9223372036854775807 ∧ (∀ j, -9223372036854775808 ≤ zs.getD j 0 ∧ zs.getD j 0 ≤ 9223372036854775807) ∧
    (zs ≠ [] → ∃ b off, a = some ⟨b, off, none⟩ ∧ b < w.heap.size ∧ ∀ j, j < zs.length → w.cell? ⟨b, off + j, none⟩ = some (.int .i64 (zs.getD j 0)))

theorem cells_int : Try.prog.cellsOf 3 = 1 := by kernel_rfl

theorem getD_mem (l : List Int) (j : Nat) : l.getD j 0 = 0 ∨ l.getD j 0 ∈ l := by
  rw [List.getD_eq_getElem?_getD]
  cases h : l[j]? with
  | none => left; rfl
  | some z => right; exact List.mem_of_getElem? h

theorem intRow_of {H : Type} {enc : TypeId × Value → H} {W : World} {a : Option Addr} {len cap : Nat} {d : DataW H} {ps : List MemPlace}
    (h : DataW.Trod enc Try.prog W 0 (fun _ => true) true 33 (.slice a len cap) d ps) : ∃ zs, IntRow W (.slice a len cap) zs := by
  obtain ⟨fuel, hf⟩ := h
  rcases open_ints Try.underlying33 Try.underlying3 cells_int hf with ⟨hcs, _⟩ | ⟨x, l, c, zs, hcs, _, hl, hm, hz, _, hcell, hwz⟩
  · simp [Value.cells] at hcs
    obtain ⟨rfl, rfl, rfl⟩ := hcs
    exact ⟨[], none, 0, rfl, by decide, fun j => by simp, fun h => absurd rfl h⟩
  · simp [Value.cells] at hcs
    obtain ⟨rfl, rfl, rfl⟩ := hcs
    simp at hz
    have ht : (zs.take len).length = len := by rw [List.length_take]; omega
    refine ⟨zs.take len, some x, cap, by rw [ht], by rw [ht]; unfold maxLen at hm; omega, fun j => ?_, fun hn => ?_⟩
    · rcases getD_mem (zs.take len) j with e | e
      · rw [e]; decide
      · exact i64_bounds (hwz _ (List.mem_of_mem_take e))
    · have hpos : 0 < len := by rw [← ht]; exact List.length_pos_iff.2 hn
      obtain ⟨b, off, rfl, hb, hc⟩ := addr_plain (n := zs.length) (by omega) hcell
      refine ⟨b, off, rfl, hb, fun j hj => ?_⟩
      rw [hc j (by omega)]
      congr 2
      rw [ht] at hj
      simp [hj]
end Go.Proofs.Ytnhpebhmihagbaa
