/-
  Several texts in one (MacPure, MacMem).
-/
import Derived.Test.YtollcdalokhjaaaDoorMShaA
import Derived.Test.YtollcdalokhjaaaDoorMShaB
import Derived.Laws.Tables
/-! ## Plain mathematics of HMAC-SHA256: keys, sums. No walk, no program. -/
namespace Go.Proofs.YtollcdalokhjaaaDoor.Mac
open Go

/-- The key, or the hash of a long one. -/
def keyL (k : List UInt8) : List UInt8 := if 64 < k.length then Sha.digest k else k
theorem keyL_length (k : List UInt8) : (keyL k).length ≤ 64 := by
  unfold keyL
  split
  · rw [Sha.digest_length]; decide
  · omega
/-- The padded key. -/
def pad (k : List UInt8) : List UInt8 := keyL k ++ List.replicate (64 - (keyL k).length) 0
theorem pad_length (k : List UInt8) : (pad k).length = 64 := by
  have := keyL_length k
  unfold pad
  rw [List.length_append, List.length_replicate]; omega
def xorL (l : List UInt8) (m : UInt8) : List UInt8 := l.map fun x => x ^^^ m
theorem xorL_length (l : List UInt8) (m : UInt8) : (xorL l m).length = l.length := by simp [xorL]
def inner (k : List UInt8) : List UInt8 := xorL (pad k) 54
def outer (k : List UInt8) : List UInt8 := xorL (pad k) 92
theorem inner_length (k : List UInt8) : (inner k).length = 64 := (xorL_length _ _).trans (pad_length k)
theorem outer_length (k : List UInt8) : (outer k).length = 64 := (xorL_length _ _).trans (pad_length k)
/-- THE SUM OF A TEXT BY A KEY. -/
def mac (k t : List UInt8) : List UInt8 := Sha.digest (outer k ++ Sha.digest (inner k ++ t))
theorem mac_length (k t : List UInt8) : (mac k t).length = 32 := Sha.digest_length _

theorem pad_zeros (k : List UInt8) (n : Nat) (h : k.length + n ≤ 64) : pad (k ++ List.replicate n 0) = pad k := by
  have h1 : keyL (k ++ List.replicate n 0) = k ++ List.replicate n 0 := by unfold keyL; rw [if_neg (by simp; omega)]
  have h2 : keyL k = k := by unfold keyL; rw [if_neg (by omega)]
  unfold pad
  rw [h1, h2, List.append_assoc, List.replicate_append_replicate, List.length_append, List.length_replicate]
  congr 2
  omega
theorem pad_long (k : List UInt8) (h : 64 < k.length) : pad (Sha.digest k) = pad k := by
  have h1 : keyL (Sha.digest k) = Sha.digest k := by unfold keyL; rw [if_neg (by rw [Sha.digest_length]; decide)]
  have h2 : keyL k = Sha.digest k := by unfold keyL; rw [if_pos h]
  unfold pad
  rw [h1, h2]
theorem mac_zeros (k t : List UInt8) (n : Nat) (h : k.length + n ≤ 64) : mac (k ++ List.replicate n 0) t = mac k t := by unfold mac inner outer; rw [pad_zeros k n h]
theorem mac_long (k t : List UInt8) (h : 64 < k.length) : mac (Sha.digest k) t = mac k t := by unfold mac inner outer; rw [pad_long k h]

def fox : List UInt8 := [84, 104, 101, 32, 113, 117, 105, 99, 107, 32, 98, 114, 111, 119, 110, 32, 102, 111, 120, 32, 106, 117, 109, 112, 115, 32, 111, 118, 101, 114, 32, 116, 104, 101, 32, 108, 97, 122, 121, 32, 100, 111, 103]
theorem hex_fox : Sha.hexL (mac [107, 101, 121] fox) = [102, 55, 98, 99, 56, 51, 102, 52, 51, 48, 53, 51, 56, 52, 50, 52, 98, 49, 51, 50, 57, 56, 101, 54, 97, 97, 54, 102, 98, 49, 52, 51, 101, 102, 52, 100, 53, 57, 97, 49, 52, 57, 52, 54, 49, 55, 53, 57, 57, 55, 52, 55, 57, 100, 98, 99, 50, 100, 49, 97, 51, 99, 100, 56] := by kernel_rfl
theorem hex_none : Sha.hexL (mac [] []) = [98, 54, 49, 51, 54, 55, 57, 97, 48, 56, 49, 52, 100, 57, 101, 99, 55, 55, 50, 102, 57, 53, 100, 55, 55, 56, 99, 51, 53, 102, 99, 53, 102, 102, 49, 54, 57, 55, 99, 52, 57, 51, 55, 49, 53, 54, 53, 51, 99, 54, 99, 55, 49, 50, 49, 52, 52, 50, 57, 50, 99, 53, 97, 100] := by kernel_rfl
end Go.Proofs.YtollcdalokhjaaaDoor.Mac
/-! ## Package mac: a hash that lies inside another block; what a maker is in memory; rows of bytes that the code makes of a text. -/
namespace Go.Proofs.YtollcdalokhjaaaDoor
open Go.RowKit

/-- A state and a block to which the text s was written. -/
def HV (v : Sha.V) (b s : List UInt8) : Prop :=
  b.length = 64 ∧ v.ok ∧ b.take (s.length % 64) = s.drop (64 * (s.length / 64)) ∧ (64 ≤ s.length → v = Sha.run Sha.start (s.length / 64) s)
/-- At offset o of block p lies a hash to which the text s was written. -/
def HashAt (p o : Nat) (s : List UInt8) (w : World) : Prop := ∃ v b, HV v b s ∧ p < w.heap.size ∧ w.rangeAt p o (hL v b s.length)
theorem HV.isHash {v : Sha.V} {b s : List UInt8} (h : HV v b s) {p : Nat} {w : World} (hc : Cells p v b s.length w) : IsHash p s w := ⟨v, b, hc, h.2.2⟩
theorem IsHash.hv {p : Nat} {s : List UInt8} {w : World} (h : IsHash p s w) : ∃ v b, HV v b s ∧ Cells p v b s.length w := by
  obtain ⟨v, b, hc, h1, h2⟩ := h
  exact ⟨v, b, ⟨hc.1, hc.2.1, h1, h2⟩, hc⟩
theorem HashAt.old {p o B : Nat} {s : List UInt8} {w w' : World} (h : HashAt p o s w) (k : Below B w w') (hq : p < B) : HashAt p o s w' := by
  obtain ⟨v, b, h1, h2, h3⟩ := h
  exact ⟨v, b, h1, Nat.lt_of_lt_of_le h2 k.size, fun j x hx => (k.cell (p := ⟨p, o + j, none⟩) hq).trans (h3 j x hx)⟩
theorem HashAt.lt {p o : Nat} {s : List UInt8} {w : World} (h : HashAt p o s w) : p < w.heap.size := by obtain ⟨_, _, _, h, _⟩ := h; exact h
/-- Block p is a maker with the key k. -/
def IsMaker (p : Nat) (k : List UInt8) (w : World) : Prop := HashAt p 0 (Mac.inner k) w ∧ HashAt p 73 (Mac.outer k) w
/-- .. a zero one. -/
def ZeroMaker (p : Nat) (w : World) : Prop := HashAt p 0 [] w ∧ HashAt p 73 [] w
theorem IsMaker.old {p B : Nat} {k : List UInt8} {w w' : World} (h : IsMaker p k w) (b : Below B w w') (hq : p < B) : IsMaker p k w' := ⟨h.1.old b hq, h.2.old b hq⟩
theorem IsMaker.lt {p : Nat} {k : List UInt8} {w : World} (h : IsMaker p k w) : p < w.heap.size := h.1.lt
theorem ZeroMaker.old {p B : Nat} {w w' : World} (h : ZeroMaker p w) (b : Below B w w') (hq : p < B) : ZeroMaker p w' := ⟨h.1.old b hq, h.2.old b hq⟩
theorem ZeroMaker.lt {p : Nat} {w : World} (h : ZeroMaker p w) : p < w.heap.size := h.1.lt

theorem hv_zero : HV zV zB [] := ⟨by simp [zB], zero_ok, rfl, fun h => absurd h (by decide)⟩

/-! ### A struct that is built of two hashes -/
/-! ### A row of bytes -/
end Go.Proofs.YtollcdalokhjaaaDoor
