/-
  An argument that is a slice of texts.
-/
import Derived.Test.YtkoojbbimjjndaaGenLaw
import Derived.SliceStrings
namespace Go.Proofs.Ytkoojbbimjjndaa
open Go.ChangeShapes Go.WideShapes Go.ChangeAt Go.RowKit

theorem cells_str : Try.prog.cellsOf 9 = 1 := by kernel_rfl

/-- An address at which a cell lies has no spot. -/
theorem addr_plain {w : World} {a : Addr} {n : Nat} {f : Nat → Value} (hn : 0 < n) (h : ∀ i, i < n → w.cell? (a.add i) = some (f i)) :
    ∃ b off, a = ⟨b, off, none⟩ ∧ b < w.heap.size ∧ ∀ i, i < n → w.cell? ⟨b, off + i, none⟩ = some (f i) := by
  obtain ⟨b, off, spot⟩ := a
  have h0 := h 0 hn
  have e0 : Addr.add ⟨b, off, spot⟩ 0 = ⟨b, off, spot⟩ := by unfold Addr.add; simp
  rw [e0] at h0
  have hs : spot = none := by
    cases spot with
    | none => rfl
    | some x => unfold World.cell? at h0; split at h0 <;> simp_all
  subst hs
  refine ⟨b, off, rfl, ?_, fun i hi => ?_⟩
  · unfold World.cell? at h0
    split at h0
    · rename_i heq; exact (Array.getElem?_eq_some_iff.1 heq).1
    · cases h0
  · have := h i hi
    unfold Addr.add at this
    split at this
    · rename_i e; have e' : i = 0 := by simpa using e
      subst e'; simpa using this
    · exact this

/-- A cell that reads as a slice of texts. -/
theorem strRow_cell {H : Type} {enc : TypeId × Value → H} {W : World} {fuel : Nat} {c : Value} {x : DataW H × List MemPlace}
    (hf : DataW.trod enc Try.prog W 0 (fun _ => true) true fuel 46 [c] = some x) : ∃ ts, StrRow W c ts := by
  rcases open_strings Try.underlying46 Try.underlying9 cells_str hf with ⟨hcs, _⟩ | ⟨a, len, cap, ss, hcs, _, hl, hm, hz, _, hcell, _⟩
  · simp at hcs
    subst hcs
    exact ⟨[], StrRow.nil _⟩
  · simp at hcs
    subst hcs
    simp at hz
    have ht : (ss.take len).length = len := by rw [List.length_take]; omega
    refine ⟨ss.take len, some a, cap, by rw [ht], by rw [ht]; unfold maxLen at hm; omega, fun hn => ?_⟩
    have hpos : 0 < len := by
      rw [← ht]; exact List.length_pos_iff.2 hn
    obtain ⟨b, off, rfl, hb, hc⟩ := addr_plain (n := ss.length) (by omega) hcell
    refine ⟨b, off, rfl, hb, fun j hj => ?_⟩
    rw [hc j (by omega)]
    congr 2
    rw [ht] at hj
    simp [hj]

theorem strRow_of {H : Type} {enc : TypeId × Value → H} {W : World} {a : Option Addr} {len cap : Nat} {d : DataW H} {ps : List MemPlace}
    (h : DataW.Trod enc Try.prog W 0 (fun _ => true) true 46 (.slice a len cap) d ps) : ∃ ts, StrRow W (.slice a len cap) ts := by
  obtain ⟨fuel, hf⟩ := h
  exact strRow_cell (fuel := fuel) (by simpa [Value.cells] using hf)


end Go.Proofs.Ytkoojbbimjjndaa
