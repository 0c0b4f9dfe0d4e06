/-
  An argument that is a slice of texts.
-/
import Derived.Test.YthohdkpgckandaaDoorGenLaw
import Derived.SliceStrings
namespace Go.Proofs.YthohdkpgckandaaDoor
open Go.ChangeShapes Go.WideShapes Go.ChangeAt Go.RowKit

theorem cells_str : Tryd.prog.cellsOf 9 = 1 := by kernel_rfl

/-- An address at which a cell lies has no spot. -/
theorem addr_plain {w : World} {a : Addr} {n : Nat} {f : Nat → Value} (hn : 0 < n) (h : ∀ i, i < n → w.cell? (a.add i) = some (f i)) :
    ∃ b off, a = ⟨b, off, none⟩ ∧ b < w.heap.size ∧ ∀ i, i < n → w.cell? ⟨b, off + i, none⟩ = some (f i) := by
  obtain ⟨b, off, spot⟩ := a
  have h0 := h 0 hn
  have e0 : Addr.add ⟨b, off, spot⟩ 0 = ⟨b, off, spot⟩ := by unfold Addr.add; simp
  rw [e0] at h0
  have hs : spot = none := by
    cases spot with
    | none => rfl
    | some x => unfold World.cell? at h0; split at h0 <;> simp_all
  subst hs
  refine ⟨b, off, rfl, ?_, fun i hi => ?_⟩
  · unfold World.cell? at h0
    split at h0
    · rename_i heq; exact (Array.getElem?_eq_some_iff.1 heq).1
    · cases h0
  · have := h i hi
    unfold Addr.add at this
    split at this
    · rename_i e; have e' : i = 0 := by simpa using e
      subst e'; simpa using this
    · exact this

/-- A cell that reads as a slice of texts. -/
theorem strRow_cell {H : Type} {enc : TypeId × Value → H} {W : World} {fuel : Nat} {c : Value} {x : DataW H × List MemPlace}
    (hf : DataW.trod enc Tryd.prog W 0 (fun _ => true) true fuel 37 [c] = some x) : ∃ ts, StrRow W c ts := by
  rcases open_strings Tryd.underlying37 Tryd.underlying9 cells_str hf with ⟨hcs, _⟩ | ⟨a, len, cap, ss, hcs, _, hl, hm, hz, _, hcell, _⟩
  · simp at hcs
    subst hcs
    exact ⟨[], StrRow.nil _⟩
  · simp at hcs
    subst hcs
    simp at hz
    have ht : (ss.take len).length = len := by rw [List.length_take]; omega
    refine ⟨ss.take len, some a, cap, by rw [ht], by rw [ht]; unfold maxLen at hm; omega, fun hn => ?_⟩
    have hpos : 0 < len := by
      rw [← ht]; exact List.length_pos_iff.2 hn
    obtain ⟨b, off, rfl, hb, hc⟩ := addr_plain (n := ss.length) (by omega) hcell
    refine ⟨b, off, rfl, hb, fun j hj => ?_⟩
    rw [hc j (by omega)]
    congr 2
    rw [ht] at hj
    simp [hj]

theorem strRow_of {H : Type} {enc : TypeId × Value → H} {W : World} {a : Option Addr} {len cap : Nat} {d : DataW H} {ps : List MemPlace}
    (h : DataW.Trod enc Tryd.prog W 0 (fun _ => true) true 37 (.slice a len cap) d ps) : ∃ ts, StrRow W (.slice a len cap) ts := by
  obtain ⟨fuel, hf⟩ := h
  exact strRow_cell (fuel := fuel) (by simpa [Value.cells] using hf)


theorem open_3str {H : Type} {enc : TypeId × Value → H} {W : World} {r : Reach} {b0 : Nat} {v : Value} {d : DataW H} {ps : List MemPlace}
    (hv : Value.okWide Tryd.prog W r b0 35 v) (h : DataW.Trod enc Tryd.prog W 0 (fun _ => true) true 35 v d ps) : ∃ x y z : ByteArray, v = .agg #[.string x, .string y, .string z] ∧ x.size ≤ maxLen ∧ y.size ≤ maxLen ∧ z.size ≤ maxLen := by
  obtain ⟨cs, rfl, hsz⟩ : ∃ cs, v = .agg cs ∧ cs.size = 3 := by
    simp only [Value.okWide, Tryd.underlying35] at hv
    obtain ⟨cs, h1, h2, _⟩ := hv
    exact ⟨cs, h1, h2.trans (by kernel_rfl)⟩
  obtain ⟨l⟩ := cs
  match l, hsz with
  | [c0, c1, c2], _ =>
    obtain ⟨fuel, hf⟩ := h
    obtain ⟨xs, m, _, _, _, hl, hx⟩ := DataW.trod_array Tryd.underlying35 hf
    have h0 := hx 0 (by omega)
    have h1 := hx 1 (by omega)
    have h2 := hx 2 (by omega)
    rw [cells_str] at h0 h1 h2
    obtain ⟨y0, hy0⟩ : ∃ y, xs[0]? = some y := ⟨xs[0], List.getElem?_eq_getElem (by omega)⟩
    obtain ⟨y1, hy1⟩ : ∃ y, xs[1]? = some y := ⟨xs[1], List.getElem?_eq_getElem (by omega)⟩
    obtain ⟨y2, hy2⟩ : ∃ y, xs[2]? = some y := ⟨xs[2], List.getElem?_eq_getElem (by omega)⟩
    rw [hy0] at h0
    rw [hy1] at h1
    rw [hy2] at h2
    obtain ⟨x, e0, _, m0⟩ := DataW.trod_string Tryd.underlying9 h0
    obtain ⟨y, e1, _, m1⟩ := DataW.trod_string Tryd.underlying9 h1
    obtain ⟨z, e2, _, m2⟩ := DataW.trod_string Tryd.underlying9 h2
    simp [Value.cells] at e0 e1 e2
    subst e0
    subst e1
    subst e2
    exact ⟨x, y, z, rfl, m0, m1, m2⟩
end Go.Proofs.YthohdkpgckandaaDoor
