/-
  Arguments of the statements of layer 14: two numbers by value, a slice of numbers.
-/
import Derived.Test.YthhmncmbnbkhaaaMArg
import Derived.ChangeSlices
namespace Go.Proofs.Ythhmncmbnbkhaaa
open Go.ChangeShapes Go.WideShapes Go.ChangeAt Go.RowKit

/-- Two numbers by value. -/
theorem ints2_arg {H : Type} {enc : TypeId × Value → H} {W : World} {r : Reach} {b0 : Nat} {v : Value} {d : DataW H} {ps : List MemPlace} (hv : Value.okWide Try.prog W r b0 27 v)
    (h : DataW.Trod enc Try.prog W 0 (fun _ => true) true 27 v d ps) : ∃ a n : Int, v = .agg #[.int .i64 a, .int .i64 n] ∧ (-9223372036854775808 ≤ a ∧ a ≤ 9223372036854775807) ∧ (-9223372036854775808 ≤ n ∧ n ≤ 9223372036854775807) := by
  obtain ⟨l, rfl, hl, hw⟩ := int_array Try.underlying27 Try.underlying3 (by kernel_rfl) (by kernel_rfl) hv h
  match l, hl with
  | [a, n], _ => exact ⟨a, n, rfl, i64_bounds (hw a (by simp)), i64_bounds (hw n (by simp))⟩
theorem cells_int : Try.prog.cellsOf 3 = 1 := by kernel_rfl
/-- v is a slice of the numbers ps, all of them in block b. -/
def Ints (w : World) (v : Value) (ps : List Int) (b : Nat) : Prop :=
  ∃ a cap, v = .slice a ps.length cap ∧ (ps.length ≤ cap ∧ cap ≤ 9223372036854775807) ∧ (ps ≠ [] → ∃ off, a = some ⟨b, off, none⟩ ∧ b < w.heap.size ∧ ∀ j, j < ps.length → w.cell? ⟨b, off + j, none⟩ = some (.int .i64 (ps.getD j 0)))
theorem Ints.nil (w : World) (b : Nat) : Ints w (.slice none 0 0) [] b := ⟨none, 0, rfl, by decide, fun h => absurd rfl h⟩
theorem Ints.old {w w' : World} {v : Value} {ps : List Int} {b : Nat} (h : Ints w v ps b) (hb : Below w.heap.size w w') : Ints w' v ps b := by
  obtain ⟨a, cap, rfl, hl, hc⟩ := h
  refine ⟨a, cap, rfl, hl, fun hn => ?_⟩
  obtain ⟨off, rfl, hlt, hj⟩ := hc hn
  exact ⟨off, rfl, Nat.lt_of_lt_of_le hlt hb.size, fun j h => (hb.cell (p := ⟨b, off + j, none⟩) hlt).trans (hj j h)⟩
theorem ints_of {H : Type} {enc : TypeId × Value → H} {W : World} {a : Option Addr} {len cap : Nat} {d : DataW H} {ps : List MemPlace}
    (h : DataW.Trod enc Try.prog W 0 (fun _ => true) true 30 (.slice a len cap) d ps) : ∃ zs b, Ints W (.slice a len cap) zs b ∧ (b < W.heap.size ∨ zs = []) := by
  obtain ⟨fuel, hf⟩ := h
  have hf' : DataW.trod enc Try.prog W 0 (fun _ => true) true fuel 30 [.slice a len cap] = some (d, ps) := by simpa [Value.cells] using hf
  rcases open_ints Try.underlying30 Try.underlying3 cells_int hf' with ⟨hcs, _⟩ | ⟨a', len', cap', zs, hcs, _, hl, hm, hz, _, hcell, hwz⟩
  · simp at hcs
    obtain ⟨rfl, rfl, rfl⟩ := hcs
    exact ⟨[], 0, Ints.nil _ _, .inr rfl⟩
  · simp at hcs
    obtain ⟨rfl, rfl, rfl⟩ := hcs
    simp at hz
    have ht : (zs.take len).length = len := by rw [List.length_take]; omega
    by_cases hlen : len = 0
    · subst hlen
      exact ⟨[], 0, ⟨some a', cap, rfl, by unfold maxLen at hm; simp; omega, fun h => absurd rfl h⟩, .inr rfl⟩
    · obtain ⟨b, off, rfl, hb, hc⟩ := addr_plain (n := zs.length) (by omega) hcell
      refine ⟨zs.take len, b, ⟨some ⟨b, off, none⟩, cap, by rw [ht], by rw [ht]; unfold maxLen at hm; omega, fun _ => ⟨off, rfl, hb, fun j hj => ?_⟩⟩, .inl hb⟩
      rw [hc j (by omega)]
      congr 2
      rw [ht] at hj
      simp [hj]
end Go.Proofs.Ythhmncmbnbkhaaa
