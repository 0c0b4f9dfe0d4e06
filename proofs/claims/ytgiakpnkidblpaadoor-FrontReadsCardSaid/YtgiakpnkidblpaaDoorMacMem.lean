/-
  Package mac: a hash that lies inside another block; what a maker is in memory; rows of bytes that the code makes of a text.
-/
import Derived.Test.YtgiakpnkidblpaaDoorShaOf
import Derived.Test.YtgiakpnkidblpaaDoorMacPure
import Derived.Laws.Tables
namespace Go.Proofs.YtgiakpnkidblpaaDoor
open Go.RowKit

/-- A state and a block to which the text s was written. -/
def HV (v : Sha.V) (b s : List UInt8) : Prop :=
  b.length = 64 ∧ v.ok ∧ b.take (s.length % 64) = s.drop (64 * (s.length / 64)) ∧ (64 ≤ s.length → v = Sha.run Sha.start (s.length / 64) s)
/-- At offset o of block p lies a hash to which the text s was written. -/
def HashAt (p o : Nat) (s : List UInt8) (w : World) : Prop := ∃ v b, HV v b s ∧ p < w.heap.size ∧ w.rangeAt p o (hL v b s.length)
theorem HV.isHash {v : Sha.V} {b s : List UInt8} (h : HV v b s) {p : Nat} {w : World} (hc : Cells p v b s.length w) : IsHash p s w := ⟨v, b, hc, h.2.2⟩
theorem IsHash.hv {p : Nat} {s : List UInt8} {w : World} (h : IsHash p s w) : ∃ v b, HV v b s ∧ Cells p v b s.length w := by
  obtain ⟨v, b, hc, h1, h2⟩ := h
  exact ⟨v, b, ⟨hc.1, hc.2.1, h1, h2⟩, hc⟩
theorem HashAt.old {p o B : Nat} {s : List UInt8} {w w' : World} (h : HashAt p o s w) (k : Below B w w') (hq : p < B) : HashAt p o s w' := by
  obtain ⟨v, b, h1, h2, h3⟩ := h
  exact ⟨v, b, h1, Nat.lt_of_lt_of_le h2 k.size, fun j x hx => (k.cell (p := ⟨p, o + j, none⟩) hq).trans (h3 j x hx)⟩
theorem HashAt.lt {p o : Nat} {s : List UInt8} {w : World} (h : HashAt p o s w) : p < w.heap.size := by obtain ⟨_, _, _, h, _⟩ := h; exact h
/-- Block p is a maker with the key k. -/
def IsMaker (p : Nat) (k : List UInt8) (w : World) : Prop := HashAt p 0 (Mac.inner k) w ∧ HashAt p 73 (Mac.outer k) w
/-- .. a zero one. -/
def ZeroMaker (p : Nat) (w : World) : Prop := HashAt p 0 [] w ∧ HashAt p 73 [] w
theorem IsMaker.old {p B : Nat} {k : List UInt8} {w w' : World} (h : IsMaker p k w) (b : Below B w w') (hq : p < B) : IsMaker p k w' := ⟨h.1.old b hq, h.2.old b hq⟩
theorem IsMaker.lt {p : Nat} {k : List UInt8} {w : World} (h : IsMaker p k w) : p < w.heap.size := h.1.lt
theorem ZeroMaker.old {p B : Nat} {w w' : World} (h : ZeroMaker p w) (b : Below B w w') (hq : p < B) : ZeroMaker p w' := ⟨h.1.old b hq, h.2.old b hq⟩
theorem ZeroMaker.lt {p : Nat} {w : World} (h : ZeroMaker p w) : p < w.heap.size := h.1.lt

theorem hv_zero : HV zV zB [] := ⟨by simp [zB], zero_ok, rfl, fun h => absurd h (by decide)⟩

/-! ### A struct that is built of two hashes -/
/-! ### A row of bytes -/
end Go.Proofs.YtgiakpnkidblpaaDoor
