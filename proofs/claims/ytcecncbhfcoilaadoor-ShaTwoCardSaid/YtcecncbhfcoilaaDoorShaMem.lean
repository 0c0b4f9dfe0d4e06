/-
  Package sha: what a hash is in memory; its small calls New, Len, Copy; Start.
-/
import Derived.Test.YtcecncbhfcoilaaDoorShaBase
import Derived.Test.YtcecncbhfcoilaaDoorShaText
namespace Go.Proofs.YtcecncbhfcoilaaDoor
open Go.RowKit

/-- The state and the block of a zero hash. -/
def zV : Sha.V := ⟨0, 0, 0, 0, 0, 0, 0, 0⟩
def zB : List UInt8 := List.replicate 64 0
/-- The cells of a hash: its state, its block, how many bytes. -/
def hL (v : Sha.V) (b : List UInt8) (n : Nat) : List Value := v.list.map u32V ++ (b.map u8V ++ [.int .i64 n])
theorem hL_length (v : Sha.V) (b : List UInt8) (n : Nat) (hb : b.length = 64) : (hL v b n).length = 73 := by simp [hL, Sha.V.list, hb]
/-- Block p is a hash with that state, block and number. -/
def Cells (p : Nat) (v : Sha.V) (b : List UInt8) (n : Nat) (w : World) : Prop := b.length = 64 ∧ v.ok ∧ w.heap[p]? = some (.cells (hL v b n).toArray 56 (0, 0))

theorem info_hash : (Tryd.prog.info? 56).map (·.size) = some 73 := by kernel_rfl
theorem info_hash0 : (Tryd.prog.info? 56).map (fun i => (i.zero, i.size)) = some (some (.agg (hL zV zB 0).toArray), 73) := by kernel_rfl

theorem Cells.at {p : Nat} {v : Sha.V} {b : List UInt8} {n : Nat} {w : World} (h : Cells p v b n w) (i : Nat) : w.cell? ⟨p, i, none⟩ = (hL v b n)[i]? := by
  rw [cell_of h.2.2]; simp
theorem Cells.size {p : Nat} {v : Sha.V} {b : List UInt8} {n : Nat} {w : World} (h : Cells p v b n w) : w.cell? ⟨p, 72, none⟩ = some (.int .i64 n) := by
  have hb := h.1
  rw [h.at]; simp [hL, Sha.V.list, hb]
theorem Cells.fz {p : Nat} {v : Sha.V} {b : List UInt8} {n : Nat} {w : World} (h : Cells p v b n w) (i : Nat) : w.frozen? ⟨p, i, none⟩ = false := fz_of h.2.2 i
theorem Cells.lt {p : Nat} {v : Sha.V} {b : List UInt8} {n : Nat} {w : World} (h : Cells p v b n w) : p < w.heap.size := (Array.getElem?_eq_some_iff.1 h.2.2).1
theorem Cells.kept {p q : Nat} {v : Sha.V} {b : List UInt8} {n : Nat} {w w' : World} (h : Cells p v b n w) (k : Only q w w') (hq : p ≠ q) : Cells p v b n w' := ⟨h.1, h.2.1, (k.block p h.lt hq).trans h.2.2⟩
theorem Cells.old {p B : Nat} {v : Sha.V} {b : List UInt8} {n : Nat} {w w' : World} (h : Cells p v b n w) (k : Below B w w') (hq : p < B) : Cells p v b n w' := ⟨h.1, h.2.1, (k.block p hq).trans h.2.2⟩

theorem len_any (p : Nat) (v : Sha.V) (b : List UInt8) (n : Nat) (w : World) (h : Cells p v b n w) :
    Calls Tryd.prog 43 #[.pointer (some ⟨p, 0, none⟩)] w fun e w' => e = .returned (.int .i64 n) ∧ w = w' := by
  have hc := h.size
  go_enter Tryd.func43, Tryd.ntmps43
  go_wp2
  go_ret
  exact ⟨rfl, rfl⟩
theorem len_nil (w : World) : Calls Tryd.prog 43 #[.pointer none] w fun e w' => e = .returned (.int .i64 0) ∧ w = w' := by
  go_enter Tryd.func43, Tryd.ntmps43
  go_wp2
  go_ret
  exact ⟨rfl, rfl⟩

theorem zero_ok : zV.ok := by unfold Sha.V.ok zV; decide
theorem Cells.new (w : World) (v : Sha.V) (b : List UInt8) (n : Nat) (hb : b.length = 64) (hv : v.ok) : Cells w.heap.size v b n (w.alloc (.cells (hL v b n).toArray 56)) :=
  ⟨hb, hv, heap_alloc_last w _⟩

theorem start_any (w : World) : Calls Tryd.prog 15 #[] w fun e w' => e = .returned (.agg (vC Sha.start)) ∧ Below w.heap.size w w' := by
  go_enter Tryd.func15, Tryd.ntmps15
  go_wp2
  refine bodyPost_ret (v := .agg (vC Sha.start)) (by simp [results, Tryd.results15, go_sem, vC, Sha.start]) rfl ⟨rfl, ?_⟩
  exact (Below.refl _ _).alloc (Nat.le_refl _) _

theorem hL_one (v : Sha.V) (b : List UInt8) (n : Nat) : (hL v b n).toArray.all (·.oneCell') = true := by
  refine all_oneCell_toArray fun x hx => ?_
  simp only [hL, List.mem_append, List.mem_map, List.mem_singleton] at hx
  rcases hx with ⟨_, _, rfl⟩ | ⟨_, _, rfl⟩ | rfl <;> rfl
theorem Cells.range {p : Nat} {v : Sha.V} {b : List UInt8} {n : Nat} {w : World} (h : Cells p v b n w) : w.rangeAt p 0 (hL v b n) := fun j x hx => by
  rw [Nat.zero_add]; exact (h.at j).trans hx
theorem zL_length : (hL zV zB 0).length = 73 := hL_length _ _ _ (by simp [zB])

theorem there_new (w : World) {l : List Value} {T : TypeId} {n : Nat} (h : l.length = n) : (w.alloc (.cells l.toArray T)).there w.heap.size 0 n := fun j hj => by
  have hh := heap_alloc_last w (.cells l.toArray T)
  refine ⟨?_, fz_of hh _⟩
  rw [cell_of hh]
  simp; omega
theorem heap_setCells (p : Nat) (T : TypeId) : ∀ (vs : List Value) (o : Nat) (l : List Value) (w : World), o + vs.length ≤ l.length → w.heap[p]? = some (.cells l.toArray T (0, 0)) →
    (w.setCells p o vs).heap[p]? = some (.cells (l.take o ++ (vs ++ l.drop (o + vs.length))).toArray T (0, 0))
  | [], o, l, w, _, h => by simpa [World.setCells] using h
  | v :: r, o, l, w, hl, h => by
    rw [World.setCells]
    have h1 := heap_set (i := o) h v
    rw [List.setIfInBounds_toArray] at h1
    have h2 := heap_setCells p T r (o + 1) (l.set o v) _ (by simp at hl ⊢; omega) h1
    rw [h2]
    simp only [List.length_cons] at hl
    congr 3
    rw [List.take_set, List.drop_set_of_lt (by omega), List.take_succ_eq_append_getElem (by omega), List.set_append_right _ _ (by rw [List.length_take]; omega)]
    simp only [List.length_take, Nat.min_eq_left (show o ≤ l.length by omega), Nat.sub_self, List.set_cons_zero, List.append_assoc, List.cons_append, List.nil_append, List.length_cons]
    rw [show o + 1 + r.length = o + (r.length + 1) by omega]
theorem heap_setCells_all (w : World) (l vs : List Value) {T : TypeId} (h : l.length = vs.length) : ((w.alloc (.cells l.toArray T)).setCells w.heap.size 0 vs).heap[w.heap.size]? = some (.cells vs.toArray T (0, 0)) := by
  rw [heap_setCells w.heap.size T vs 0 l _ (by omega) (heap_alloc_last w _)]
  simp [h]
theorem below_setCells {B b : Nat} {a : World} (hb : B ≤ b) : ∀ (vs : List Value) (o : Nat) (w : World), Below B a w → Below B a (w.setCells b o vs)
  | [], _, _, h => h
  | v :: r, o, _, h => below_setCells hb r (o + 1) _ (h.setCell (by exact hb) v)
theorem only_setCells {b : Nat} {a : World} : ∀ (vs : List Value) (o : Nat) (w : World), Only b a w → Only b a (w.setCells b o vs)
  | [], _, _, h => h
  | v :: r, o, _, h => only_setCells r (o + 1) _ (h.setCell o v)

set_option maxRecDepth 100000 in
theorem copy_any (p : Nat) (v : Sha.V) (b : List UInt8) (n : Nat) (w : World) (h : Cells p v b n w) :
    Calls Tryd.prog 44 #[.pointer (some ⟨p, 0, none⟩)] w fun e w' => e = .returned (.pointer (some ⟨w.heap.size, 0, none⟩)) ∧ Cells w.heap.size v b n w' ∧ Below w.heap.size w w' := by
  have hz := (zero_of_info info_hash0).1
  have hl := hL_length v b n h.1
  have hI : (Tryd.prog.info? 56).map (·.size) = some (hL v b n).length := by rw [hl]; exact info_hash
  have hI2 : (Tryd.prog.info? 56).map (·.size) = some (hL v b n).toArray.size := by rw [List.size_toArray]; exact hI
  have ht : (w.alloc (.cells (hL zV zB 0).toArray 56)).there w.heap.size 0 (hL v b n).toArray.size := by
    rw [show (hL v b n).toArray.size = 73 from (List.size_toArray).trans hl]; exact there_new w zL_length
  have HI := Lib.hid hI
  have HI2 := Lib.hid hI2
  have HT := Lib.hid ht
  have Hl := Lib.hid hl
  have HR := Lib.hid h.range
  clear hl hI hI2 ht
  go_enter Tryd.func44, Tryd.ntmps44
  go_wp2_with (first
    | refine wpList_load_mid rfl 56 (.tmp 7) rfl p 0 rfl (hL v b n) _ HR.out Tryd.underlying56 rfl HI.out ?_
    | refine wpList_store_mid rfl 56 (.tmp 3) (.tmp 8) rfl w.heap.size 0 (hL v b n).toArray rfl rfl HT.out HI2.out (hL_one v b n) ?_)
  go_ret
  refine ⟨rfl, ?_, below_setCells (Nat.le_refl _) _ _ _ ((Below.refl _ _).alloc (Nat.le_refl _) _)⟩
  refine ⟨h.1, h.2.1, ?_⟩
  rw [heap_setCells_all w _ _ (by rw [zL_length, Hl.out])]

theorem copy_nil (w : World) : Calls Tryd.prog 44 #[.pointer none] w fun e w' => e = .returned (.pointer none) ∧ w = w' := by
  go_enter Tryd.func44, Tryd.ntmps44
  go_wp2
  go_ret
  exact ⟨rfl, rfl⟩
end Go.Proofs.YtcecncbhfcoilaaDoor
