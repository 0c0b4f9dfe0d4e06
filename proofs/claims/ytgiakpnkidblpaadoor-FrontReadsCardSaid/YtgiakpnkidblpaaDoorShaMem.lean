/-
  Package sha: what a hash is in memory; its small calls New, Len, Copy; Start.
-/
import Derived.Test.YtgiakpnkidblpaaDoorShaBase
import Derived.Test.YtgiakpnkidblpaaDoorShaText
namespace Go.Proofs.YtgiakpnkidblpaaDoor
open Go.RowKit

/-- The state and the block of a zero hash. -/
def zV : Sha.V := ⟨0, 0, 0, 0, 0, 0, 0, 0⟩
def zB : List UInt8 := List.replicate 64 0
/-- The cells of a hash: its state, its block, how many bytes. -/
def hL (v : Sha.V) (b : List UInt8) (n : Nat) : List Value := v.list.map u32V ++ (b.map u8V ++ [.int .i64 n])
theorem hL_length (v : Sha.V) (b : List UInt8) (n : Nat) (hb : b.length = 64) : (hL v b n).length = 73 := by simp [hL, Sha.V.list, hb]
/-- Block p is a hash with that state, block and number. -/
def Cells (p : Nat) (v : Sha.V) (b : List UInt8) (n : Nat) (w : World) : Prop := b.length = 64 ∧ v.ok ∧ w.heap[p]? = some (.cells (hL v b n).toArray 98 (0, 0))

theorem info_hash : (Tryd.prog.info? 98).map (·.size) = some 73 := by kernel_rfl
theorem info_hash0 : (Tryd.prog.info? 98).map (fun i => (i.zero, i.size)) = some (some (.agg (hL zV zB 0).toArray), 73) := by kernel_rfl

theorem Cells.at {p : Nat} {v : Sha.V} {b : List UInt8} {n : Nat} {w : World} (h : Cells p v b n w) (i : Nat) : w.cell? ⟨p, i, none⟩ = (hL v b n)[i]? := by
  rw [cell_of h.2.2]; simp
theorem Cells.size {p : Nat} {v : Sha.V} {b : List UInt8} {n : Nat} {w : World} (h : Cells p v b n w) : w.cell? ⟨p, 72, none⟩ = some (.int .i64 n) := by
  have hb := h.1
  rw [h.at]; simp [hL, Sha.V.list, hb]
theorem Cells.fz {p : Nat} {v : Sha.V} {b : List UInt8} {n : Nat} {w : World} (h : Cells p v b n w) (i : Nat) : w.frozen? ⟨p, i, none⟩ = false := fz_of h.2.2 i
theorem Cells.lt {p : Nat} {v : Sha.V} {b : List UInt8} {n : Nat} {w : World} (h : Cells p v b n w) : p < w.heap.size := (Array.getElem?_eq_some_iff.1 h.2.2).1
theorem Cells.kept {p q : Nat} {v : Sha.V} {b : List UInt8} {n : Nat} {w w' : World} (h : Cells p v b n w) (k : Only q w w') (hq : p ≠ q) : Cells p v b n w' := ⟨h.1, h.2.1, (k.block p h.lt hq).trans h.2.2⟩
theorem Cells.old {p B : Nat} {v : Sha.V} {b : List UInt8} {n : Nat} {w w' : World} (h : Cells p v b n w) (k : Below B w w') (hq : p < B) : Cells p v b n w' := ⟨h.1, h.2.1, (k.block p hq).trans h.2.2⟩

theorem zero_ok : zV.ok := by unfold Sha.V.ok zV; decide
theorem Cells.new (w : World) (v : Sha.V) (b : List UInt8) (n : Nat) (hb : b.length = 64) (hv : v.ok) : Cells w.heap.size v b n (w.alloc (.cells (hL v b n).toArray 98)) :=
  ⟨hb, hv, heap_alloc_last w _⟩

theorem start_any (w : World) : Calls Tryd.prog 80 #[] w fun e w' => e = .returned (.agg (vC Sha.start)) ∧ Below w.heap.size w w' := by
  go_enter Tryd.func80, Tryd.ntmps80
  go_wp2
  refine bodyPost_ret (v := .agg (vC Sha.start)) (by simp [results, Tryd.results80, go_sem, vC, Sha.start]) rfl ⟨rfl, ?_⟩
  exact (Below.refl _ _).alloc (Nat.le_refl _) _

theorem hL_one (v : Sha.V) (b : List UInt8) (n : Nat) : (hL v b n).toArray.all (·.oneCell') = true := by
  refine all_oneCell_toArray fun x hx => ?_
  simp only [hL, List.mem_append, List.mem_map, List.mem_singleton] at hx
  rcases hx with ⟨_, _, rfl⟩ | ⟨_, _, rfl⟩ | rfl <;> rfl
theorem Cells.range {p : Nat} {v : Sha.V} {b : List UInt8} {n : Nat} {w : World} (h : Cells p v b n w) : w.rangeAt p 0 (hL v b n) := fun j x hx => by
  rw [Nat.zero_add]; exact (h.at j).trans hx
theorem zL_length : (hL zV zB 0).length = 73 := hL_length _ _ _ (by simp [zB])

end Go.Proofs.YtgiakpnkidblpaaDoor
