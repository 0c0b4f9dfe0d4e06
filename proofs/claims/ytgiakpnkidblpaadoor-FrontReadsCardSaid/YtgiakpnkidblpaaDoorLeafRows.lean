/-
  Rows of rows of hashes that are a call's own: each in a block of its own.
-/
import Derived.Test.YtgiakpnkidblpaaDoorSumBuild
import Derived.Test.YtgiakpnkidblpaaDoorLeafPure
namespace Go.Proofs.YtgiakpnkidblpaaDoor
open Go.RowKit

theorem info_sumsl : (Tryd.prog.info? 22).map (fun i => (i.zero, i.size, i.bytes)) = some (some (.slice none 0 0), 1, 24) := by kernel_rfl
/-- v is a slice that reads as the slices vs, each of which reads as one of ls; all in blocks of their own, from B on. -/
structure RowsAt (B : Nat) (w : World) (v : Value) (vs : List Value) (ls : List Hs) : Prop where
  own : w.ownsRow B 22 1 v vs.length vs
  len : vs.length = ls.length
  row : ∀ (j : Nat) (x : Value) (l : Hs), vs[j]? = some x → ls[j]? = some l → OwnS B w x l
  apart : ∀ (i j : Nat) (x y : Value) (g : Nat), vs[i]? = some x → vs[j]? = some y → x.ownBlock = some g → y.ownBlock = some g → i = j
  away : ∀ (i : Nat) (x : Value) (g : Nat), vs[i]? = some x → x.ownBlock = some g → v.ownBlock ≠ some g
theorem RowsAt.lt {B : Nat} {w : World} {v : Value} {vs : List Value} {ls : List Hs} (h : RowsAt B w v vs ls) (j : Nat) (x : Value) (g : Nat) (hx : vs[j]? = some x) (hg : x.ownBlock = some g) : B ≤ g ∧ g < w.heap.size := by
  have hj : j < vs.length := (List.getElem?_eq_some_iff.1 hx).1
  obtain ⟨l, hl⟩ : ∃ l, ls[j]? = some l := ⟨_, List.getElem?_eq_getElem (by rw [← h.len]; exact hj)⟩
  exact (h.row j x l hx hl).lt g hg
/-- A slice's value is one cell. -/
theorem OwnS.one {B : Nat} {w : World} {v : Value} {l : Hs} (h : OwnS B w v l) : v.oneCell' = true := by
  obtain ⟨a, cap, rfl, _⟩ := h.sums.slice
  rfl
theorem ownsRow_kept {B e n k : Nat} {w w' : World} {v : Value} {xs : List Value} (h : w.ownsRow B e k v n xs) (hk : ∀ g, v.ownBlock = some g → w'.heap[g]? = w.heap[g]?) : w'.ownsRow B e k v n xs := by
  obtain ⟨h1, h2⟩ := h
  refine ⟨h1, ?_⟩
  rcases h2 with e | ⟨g, cap, cur, e1, e2, hg, r⟩
  · exact .inl e
  · exact .inr ⟨g, cap, cur, e1, e2, (hk g (by rw [e1]; rfl)).trans hg, r⟩
/-- What is kept, if no block of it is turned. -/
theorem RowsAt.kept {B : Nat} {w w' : World} {v : Value} {vs : List Value} {ls : List Hs} (h : RowsAt B w v vs ls) (hk : ∀ g, g < w.heap.size → B ≤ g → w'.heap[g]? = w.heap[g]?) : RowsAt B w' v vs ls := by
  refine ⟨ownsRow_kept h.own fun g e => ?_, h.len, fun j x l hx hl => (h.row j x l hx hl).kept' fun g e => ?_, h.apart, h.away⟩
  · have := World.ownsRow.lt h.own g e; exact hk g this.2 this.1
  · have := h.lt j x g hx e; exact hk g this.2 this.1
theorem RowsAt.old {B : Nat} {w w' : World} {v : Value} {vs : List Value} {ls : List Hs} (h : RowsAt B w v vs ls) (hb : Below w.heap.size w w') : RowsAt B w' v vs ls := h.kept fun g hg _ => hb.block g hg
theorem RowsAt.lower {B B' : Nat} {w : World} {v : Value} {vs : List Value} {ls : List Hs} (h : RowsAt B w v vs ls) (hB : B' ≤ B) : RowsAt B' w v vs ls := by
  refine ⟨?_, h.len, fun j x l hx hl => (h.row j x l hx hl).lower hB, h.apart, h.away⟩
  obtain ⟨h1, h2⟩ := h.own
  refine ⟨h1, ?_⟩
  rcases h2 with e | ⟨g, cap, cur, e1, e2, r⟩
  · exact .inl e
  · exact .inr ⟨g, cap, cur, e1, by omega, r⟩
/-- The first row. -/
theorem RowsAt.one {B : Nat} {w : World} {x : Value} {l : Hs} (h : OwnS B w x l) (hB : B ≤ w.heap.size) : RowsAt B (w.alloc (.cells #[x] 22)) (.slice (some ⟨w.heap.size, 0, none⟩) 1 1) [x] [l] := by
  refine ⟨⟨rfl, .inr ⟨w.heap.size, 1, #[x], rfl, hB, heap_alloc_last w _, Nat.le_refl _, by decide, rfl, rfl⟩⟩, rfl, fun j y m hy hm => ?_, fun i j a b g ha hb _ _ => ?_, fun i y g hy hg e => ?_⟩
  · have hj : j < 1 := (List.getElem?_eq_some_iff.1 hy).1
    obtain rfl : j = 0 := by omega
    simp at hy hm
    subst hy hm
    exact h.kept ((Below.refl _ _).alloc (Nat.le_refl _) _)
  · have hi : i < 1 := (List.getElem?_eq_some_iff.1 ha).1
    have hj : j < 1 := (List.getElem?_eq_some_iff.1 hb).1
    omega
  · have hi : i < 1 := (List.getElem?_eq_some_iff.1 hy).1
    obtain rfl : i = 0 := by omega
    simp at hy
    subst hy
    have := (h.lt g hg).2
    simp [Value.ownBlock] at e
    omega
end Go.Proofs.YtgiakpnkidblpaaDoor
