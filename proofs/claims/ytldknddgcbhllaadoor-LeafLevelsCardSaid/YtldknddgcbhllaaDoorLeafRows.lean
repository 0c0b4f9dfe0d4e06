/-
  Rows of rows of hashes that are a call's own: each in a block of its own.
-/
import Derived.Test.YtldknddgcbhllaaDoorSumBuild
import Derived.Test.YtldknddgcbhllaaDoorLeafPure
namespace Go.Proofs.YtldknddgcbhllaaDoor
open Go.RowKit

theorem info_sumsl : (Tryd.prog.info? 29).map (fun i => (i.zero, i.size, i.bytes)) = some (some (.slice none 0 0), 1, 24) := by kernel_rfl
/-- v is a slice that reads as the slices vs, each of which reads as one of ls; all in blocks of their own, from B on. -/
structure RowsAt (B : Nat) (w : World) (v : Value) (vs : List Value) (ls : List Hs) : Prop where
  own : w.ownsRow B 29 1 v vs.length vs
  len : vs.length = ls.length
  row : ∀ (j : Nat) (x : Value) (l : Hs), vs[j]? = some x → ls[j]? = some l → OwnS B w x l
  apart : ∀ (i j : Nat) (x y : Value) (g : Nat), vs[i]? = some x → vs[j]? = some y → x.ownBlock = some g → y.ownBlock = some g → i = j
  away : ∀ (i : Nat) (x : Value) (g : Nat), vs[i]? = some x → x.ownBlock = some g → v.ownBlock ≠ some g
theorem RowsAt.lt {B : Nat} {w : World} {v : Value} {vs : List Value} {ls : List Hs} (h : RowsAt B w v vs ls) (j : Nat) (x : Value) (g : Nat) (hx : vs[j]? = some x) (hg : x.ownBlock = some g) : B ≤ g ∧ g < w.heap.size := by
  have hj : j < vs.length := (List.getElem?_eq_some_iff.1 hx).1
  obtain ⟨l, hl⟩ : ∃ l, ls[j]? = some l := ⟨_, List.getElem?_eq_getElem (by rw [← h.len]; exact hj)⟩
  exact (h.row j x l hx hl).lt g hg
/-- A slice's value is one cell. -/
theorem OwnS.one {B : Nat} {w : World} {v : Value} {l : Hs} (h : OwnS B w v l) : v.oneCell' = true := by
  obtain ⟨a, cap, rfl, _⟩ := h.sums.slice
  rfl
theorem ownsRow_kept {B e n k : Nat} {w w' : World} {v : Value} {xs : List Value} (h : w.ownsRow B e k v n xs) (hk : ∀ g, v.ownBlock = some g → w'.heap[g]? = w.heap[g]?) : w'.ownsRow B e k v n xs := by
  obtain ⟨h1, h2⟩ := h
  refine ⟨h1, ?_⟩
  rcases h2 with e | ⟨g, cap, cur, e1, e2, hg, r⟩
  · exact .inl e
  · exact .inr ⟨g, cap, cur, e1, e2, (hk g (by rw [e1]; rfl)).trans hg, r⟩
/-- What is kept, if no block of it is turned. -/
theorem RowsAt.kept {B : Nat} {w w' : World} {v : Value} {vs : List Value} {ls : List Hs} (h : RowsAt B w v vs ls) (hk : ∀ g, g < w.heap.size → B ≤ g → w'.heap[g]? = w.heap[g]?) : RowsAt B w' v vs ls := by
  refine ⟨ownsRow_kept h.own fun g e => ?_, h.len, fun j x l hx hl => (h.row j x l hx hl).kept' fun g e => ?_, h.apart, h.away⟩
  · have := World.ownsRow.lt h.own g e; exact hk g this.2 this.1
  · have := h.lt j x g hx e; exact hk g this.2 this.1
theorem RowsAt.old {B : Nat} {w w' : World} {v : Value} {vs : List Value} {ls : List Hs} (h : RowsAt B w v vs ls) (hb : Below w.heap.size w w') : RowsAt B w' v vs ls := h.kept fun g hg _ => hb.block g hg
theorem RowsAt.lower {B B' : Nat} {w : World} {v : Value} {vs : List Value} {ls : List Hs} (h : RowsAt B w v vs ls) (hB : B' ≤ B) : RowsAt B' w v vs ls := by
  refine ⟨?_, h.len, fun j x l hx hl => (h.row j x l hx hl).lower hB, h.apart, h.away⟩
  obtain ⟨h1, h2⟩ := h.own
  refine ⟨h1, ?_⟩
  rcases h2 with e | ⟨g, cap, cur, e1, e2, r⟩
  · exact .inl e
  · exact .inr ⟨g, cap, cur, e1, by omega, r⟩
/-- The first row. -/
theorem RowsAt.one {B : Nat} {w : World} {x : Value} {l : Hs} (h : OwnS B w x l) (hB : B ≤ w.heap.size) : RowsAt B (w.alloc (.cells #[x] 29)) (.slice (some ⟨w.heap.size, 0, none⟩) 1 1) [x] [l] := by
  refine ⟨⟨rfl, .inr ⟨w.heap.size, 1, #[x], rfl, hB, heap_alloc_last w _, Nat.le_refl _, by decide, rfl, rfl⟩⟩, rfl, fun j y m hy hm => ?_, fun i j a b g ha hb _ _ => ?_, fun i y g hy hg e => ?_⟩
  · have hj : j < 1 := (List.getElem?_eq_some_iff.1 hy).1
    obtain rfl : j = 0 := by omega
    simp at hy hm
    subst hy hm
    exact h.kept ((Below.refl _ _).alloc (Nat.le_refl _) _)
  · have hi : i < 1 := (List.getElem?_eq_some_iff.1 ha).1
    have hj : j < 1 := (List.getElem?_eq_some_iff.1 hb).1
    omega
  · have hi : i < 1 := (List.getElem?_eq_some_iff.1 hy).1
    obtain rfl : i = 0 := by omega
    simp at hy
    subst hy
    have := (h.lt g hg).2
    simp [Value.ownBlock] at e
    omega
/-- One more row, in a block that is new. -/
theorem RowsAt.add {B : Nat} {w w1 : World} {v x : Value} {vs : List Value} {ls : List Hs} {l : Hs} (ty : TypeId) (h : RowsAt B w v vs ls) (hb : Below w.heap.size w w1) (hx : OwnS w.heap.size w1 x l) (hB : B ≤ w.heap.size) (hn : vs.length < 1000000) :
    ∃ v' w', (Builtin.append_ #[34, 34] ty #[v, .slice (some ⟨w1.heap.size, 0, none⟩) 1 1]).run Tryd.prog (w1.alloc (.cells #[x] 29)) = .ok v' w' ∧ RowsAt B w' v' (vs ++ [x]) (ls ++ [l]) ∧ Below B w w' := by
  obtain ⟨i0, hi, hz0, hz1, hz2⟩ := info_parts info_sumsl
  have b2 : Below w1.heap.size w1 (w1.alloc (.cells #[x] 29)) := (Below.refl _ _).alloc (Nat.le_refl _) _
  have hvl := World.ownsRow.lt h.own
  have hown2 : (w1.alloc (.cells #[x] 29)).ownsRow B 29 1 v vs.length vs := ownsRow_kept h.own fun g e => by
    have := (hvl g e).2
    exact (b2.block g (by have := hb.size; omega)).trans (hb.block g this)
  obtain ⟨v', w', h1, h2, h3, _, h5⟩ := run_append_own_at (P := Tryd.prog) (w1.alloc (.cells #[x] 29)) B _ ty _ i0 _ 1 24 Tryd.underlying34 hi hz0 hz1 hz2 rfl (by decide) v vs.length vs hown2 ⟨w1.heap.size, 0, none⟩ 1 1 [x] rfl
    (fun j u hu => by
      have hj : j < 1 := (List.getElem?_eq_some_iff.1 hu).1
      obtain rfl : j = 0 := by omega
      simp at hu
      subst hu
      rw [Addr.add_mid]
      exact cell_of (heap_alloc_last w1 _) 0) (fun u hu => by simp at hu; subst hu; exact hx.one) (by unfold maxLen; omega) (by omega) (by simp; have := hb.size; omega)
  have hs2 : (w1.alloc (.cells #[x] 29)).heap.size = w1.heap.size + 1 := World.size_alloc ..
  have hold : ∀ g, g < w1.heap.size → v.ownBlock ≠ some g → w'.heap[g]? = w1.heap[g]? := fun g hg hne => (h3.block g (by omega) (fun e => hne e.symm)).trans (b2.block g hg)
  refine ⟨v', w', h1, ⟨by rw [List.length_append]; exact h2, by simp [h.len], fun j y m hy hm => ?_, fun i j a b g ha hb' ga gb => ?_, fun i y g hy hg e => ?_⟩, ⟨?_, ?_, ?_, ?_, ?_⟩⟩
  · by_cases hj : j < vs.length
    · rw [List.getElem?_append_left hj] at hy
      rw [List.getElem?_append_left (by rw [← h.len]; exact hj)] at hm
      refine (h.row j y m hy hm).kept' fun g e => ?_
      have hl := h.lt j y g hy e
      exact (hold g (by have := hb.size; omega) (h.away j y g hy e)).trans (hb.block g hl.2)
    · rw [List.getElem?_append_right (by omega)] at hy
      rw [List.getElem?_append_right (by rw [← h.len]; omega)] at hm
      have hj0 : j - vs.length < 1 := (List.getElem?_eq_some_iff.1 hy).1
      have hj1 : j - vs.length = 0 := by omega
      rw [← h.len, hj1] at hm
      rw [hj1] at hy
      simp at hy hm
      subst hy hm
      refine (hx.lower hB).kept' fun g e => ?_
      have hl := hx.lt g e
      exact hold g hl.2 fun e' => by have := (hvl g e').2; omega
  · have key : ∀ (i : Nat) (a : Value), (vs ++ [x])[i]? = some a → a.ownBlock = some g → (i < vs.length ∧ vs[i]? = some a ∧ g < w.heap.size) ∨ (i = vs.length ∧ w.heap.size ≤ g) := by
      intro i a ha ga
      by_cases hi : i < vs.length
      · rw [List.getElem?_append_left hi] at ha
        exact .inl ⟨hi, ha, (h.lt i a g ha ga).2⟩
      · have hil := (List.getElem?_eq_some_iff.1 ha).1
        simp at hil
        obtain rfl : i = vs.length := by omega
        simp at ha
        subst ha
        exact .inr ⟨rfl, (hx.lt g ga).1⟩
    rcases key i a ha ga with ⟨_, h1, h2⟩ | ⟨h1, h2⟩ <;> rcases key j b hb' gb with ⟨_, k1, k2⟩ | ⟨k1, k2⟩
    · exact h.apart i j a b g h1 k1 ga gb
    · omega
    · omega
    · omega
  · by_cases hi' : i < vs.length
    · rw [List.getElem?_append_left hi'] at hy
      have hl := h.lt i y g hy hg
      rcases h5 with e5 | e5
      · rw [e5] at e; exact h.away i y g hy hg e
      · rw [e5] at e; injection e with e; have := hb.size; omega
    · have hil := (List.getElem?_eq_some_iff.1 hy).1
      simp at hil
      obtain rfl : i = vs.length := by omega
      simp at hy
      subst hy
      have hl := hx.lt g hg
      rcases h5 with e5 | e5
      · rw [e5] at e; have := (hvl g e).2; omega
      · rw [e5] at e; injection e with e; omega
  · exact h3.os.trans (b2.os.trans hb.os)
  · exact h3.tape.trans (b2.tape.trans hb.tape)
  · exact h3.output.trans (b2.output.trans hb.output)
  · exact Nat.le_trans hb.size (Nat.le_trans b2.size h3.size)
  · intro g hg
    have hgw : g < w.heap.size := by omega
    exact (hold g (by have := hb.size; omega) fun e => by have := (hvl g e).1; omega).trans (hb.block g hgw)
end Go.Proofs.YtldknddgcbhllaaDoor
