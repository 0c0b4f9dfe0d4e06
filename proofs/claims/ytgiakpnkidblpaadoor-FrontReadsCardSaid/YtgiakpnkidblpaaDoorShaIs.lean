/-
  Package sha: block p is a hash to which the text s was written; how that goes on.
-/
import Derived.Test.YtgiakpnkidblpaaDoorShaMem
namespace Go.Proofs.YtgiakpnkidblpaaDoor
open Go.RowKit

/-- Block p is a hash to which the text s was written. -/
def IsHash (p : Nat) (s : List UInt8) (w : World) : Prop :=
  ∃ v b, Cells p v b s.length w ∧ b.take (s.length % 64) = s.drop (64 * (s.length / 64)) ∧ (64 ≤ s.length → v = Sha.run Sha.start (s.length / 64) s)

theorem IsHash.lt {p : Nat} {s : List UInt8} {w : World} (h : IsHash p s w) : p < w.heap.size := by obtain ⟨v, b, h, _⟩ := h; exact h.lt
theorem IsHash.kept {p q : Nat} {s : List UInt8} {w w' : World} (h : IsHash p s w) (k : Only q w w') (hq : p ≠ q) : IsHash p s w' := by
  obtain ⟨v, b, h, r⟩ := h; exact ⟨v, b, h.kept k hq, r⟩
theorem IsHash.old {p B : Nat} {s : List UInt8} {w w' : World} (h : IsHash p s w) (k : Below B w w') (hq : p < B) : IsHash p s w' := by
  obtain ⟨v, b, h, r⟩ := h; exact ⟨v, b, h.old k hq, r⟩
theorem isHash_zero {p : Nat} {w : World} (h : Cells p zV zB 0 w) : IsHash p [] w := ⟨zV, zB, h, rfl, fun h => absurd h (by decide)⟩

/-- The block behind a copy. -/
def spl (b : List UInt8) (j : Nat) (r : List UInt8) : List UInt8 := b.take j ++ (r ++ b.drop (j + r.length))
theorem spl_length (b : List UInt8) (j : Nat) (r : List UInt8) (hb : b.length = 64) (h : j + r.length ≤ 64) : (spl b j r).length = 64 := by
  simp [spl, hb]; omega
theorem hL_splice (v : Sha.V) (b : List UInt8) (n j : Nat) (r : List UInt8) (hb : b.length = 64) (h : j + r.length ≤ 64) :
    (hL v b n).take (8 + j) ++ (r.map u8V ++ (hL v b n).drop (8 + j + (r.map u8V).length)) = hL v (spl b j r) n := by
  have h8 : (v.list.map u32V).length = 8 := by simp [Sha.V.list]
  unfold hL spl
  rw [List.take_append, List.drop_append, h8, List.take_of_length_le (by omega), List.drop_eq_nil_of_le (by omega), show 8 + j - 8 = j by omega, List.length_map, show 8 + j + r.length - 8 = j + r.length by omega,
    List.take_append_of_le_length (by rw [List.length_map]; omega), List.drop_append_of_le_length (by rw [List.length_map]; omega)]
  simp
theorem Cells.setSize {p : Nat} {v : Sha.V} {b : List UInt8} {n : Nat} {w : World} (h : Cells p v b n w) (m : Nat) : Cells p v b m (w.setCell ⟨p, 72, none⟩ (.int .i64 (m : Int))) := by
  refine ⟨h.1, h.2.1, ?_⟩
  have hb := h.1
  rw [heap_set h.2.2, List.setIfInBounds_toArray]
  congr 3
  unfold hL
  rw [List.set_append_right _ _ (by simp [Sha.V.list]), List.set_append_right _ _ (by simp [Sha.V.list, hb])]
  simp [Sha.V.list, hb]

/-- A text goes on by r, which is no more than what the block has left: the block is not full. -/
theorem isHash_more {p : Nat} {s r : List UInt8} {v : Sha.V} {b : List UInt8} {w : World} (hs : b.take (s.length % 64) = s.drop (64 * (s.length / 64))) (hv : 64 ≤ s.length → v = Sha.run Sha.start (s.length / 64) s)
    (hb : b.length = 64) (hj : s.length % 64 + r.length < 64) (hc : Cells p v (spl b (s.length % 64) r) (s.length + r.length) w) : IsHash p (s ++ r) w := by
  refine ⟨v, spl b (s.length % 64) r, by rw [List.length_append]; exact hc, ?_, ?_⟩
  · rw [List.length_append, show (s.length + r.length) % 64 = s.length % 64 + r.length by omega, show (s.length + r.length) / 64 = s.length / 64 by omega, List.drop_append_of_le_length (by omega), ← hs]
    unfold spl
    rw [← List.append_assoc, List.take_append_of_le_length (by simp [hb]; omega), List.take_of_length_le (by simp [hb]; omega)]
  · intro h
    rw [List.length_append] at h ⊢
    rw [show (s.length + r.length) / 64 = s.length / 64 by omega, Sha.run_prefix _ _ _ _ (by omega)]
    exact hv (by omega)

/-- .. the block is full: it goes into the state. -/
theorem isHash_full {p : Nat} {s r : List UInt8} {v : Sha.V} {b : List UInt8} {w : World} (hs : b.take (s.length % 64) = s.drop (64 * (s.length / 64))) (hv : 64 ≤ s.length → v = Sha.run Sha.start (s.length / 64) s)
    (hb : b.length = 64) (hj : s.length % 64 + r.length = 64)
    (hc : Cells p (Sha.step (if s.length + r.length = 64 then Sha.start else v) (Sha.words (spl b (s.length % 64) r))) (spl b (s.length % 64) r) (s.length + r.length) w) : IsHash p (s ++ r) w := by
  have hsp : spl b (s.length % 64) r = ((s ++ r).drop (64 * (s.length / 64))).take 64 := by
    unfold spl
    rw [List.drop_eq_nil_of_le (by omega), List.append_nil, List.drop_append_of_le_length (by omega), hs, List.take_of_length_le (by simp; omega)]
  refine ⟨_, _, by rw [List.length_append]; exact hc, ?_, ?_⟩
  · rw [List.length_append, show (s.length + r.length) % 64 = 0 by omega, List.take_zero, List.drop_eq_nil_of_le (by rw [List.length_append]; omega)]
  · intro _
    rw [List.length_append, show (s.length + r.length) / 64 = s.length / 64 + 1 by omega, Sha.run_snoc, ← hsp]
    congr 1
    by_cases e : s.length + r.length = 64
    · rw [if_pos e, show s.length / 64 = 0 by omega]; rfl
    · rw [if_neg e, Sha.run_prefix _ _ _ _ (by omega)]
      exact hv (by omega)
end Go.Proofs.YtgiakpnkidblpaaDoor
