/-
  A disk in memory: its head, the row of what lies, the row of the cache's writes. What is kept besides.
-/
import Derived.Test.YtkoojbbimjjndaaGenMem
import Derived.Test.YtkoojbbimjjndaaDiskPure
import Derived.Laws.AppendOwn
namespace Go.Proofs.Ytkoojbbimjjndaa
open Go.RowKit Dsk

/-- No block that was there has turned, but those of S. -/
structure Fr (S : Nat → Prop) (w w' : World) : Prop where
  os : w'.os = w.os
  tape : w'.tape = w.tape
  output : w'.output = w.output
  size : w.heap.size ≤ w'.heap.size
  block : ∀ k, k < w.heap.size → ¬ S k → w'.heap[k]? = w.heap[k]?
theorem Fr.refl (S : Nat → Prop) (w : World) : Fr S w w := ⟨rfl, rfl, rfl, Nat.le_refl _, fun _ _ _ => rfl⟩
theorem Fr.trans {S : Nat → Prop} {u v w : World} (h : Fr S u v) (k : Fr S v w) : Fr S u w :=
  ⟨k.os.trans h.os, k.tape.trans h.tape, k.output.trans h.output, Nat.le_trans h.size k.size, fun i hi hs => (k.block i (Nat.lt_of_lt_of_le hi h.size) hs).trans (h.block i hi hs)⟩
theorem Fr.mono {S S' : Nat → Prop} {u v : World} (h : Fr S u v) (hs : ∀ k, k < u.heap.size → S k → S' k) : Fr S' u v :=
  ⟨h.os, h.tape, h.output, h.size, fun i hi hn => h.block i hi fun e => hn (hs i hi e)⟩
/-- Goes on where the second step's own blocks are new, or the first one's. -/
theorem Fr.trans' {S S' : Nat → Prop} {u v w : World} (h : Fr S u v) (k : Fr S' v w) (hs : ∀ k, k < u.heap.size → S' k → S k) : Fr S u w :=
  ⟨k.os.trans h.os, k.tape.trans h.tape, k.output.trans h.output, Nat.le_trans h.size k.size, fun i hi hn => (k.block i (Nat.lt_of_lt_of_le hi h.size) fun e => hn (hs i hi e)).trans (h.block i hi hn)⟩
theorem Fr.of_below {S : Nat → Prop} {w w' : World} (h : Below w.heap.size w w') : Fr S w w' := ⟨h.os, h.tape, h.output, h.size, fun k hk _ => h.block k hk⟩
theorem Fr.below {S : Nat → Prop} {B : Nat} {w w' : World} (h : Fr S w w') (hB : B ≤ w.heap.size) (hs : ∀ k, k < B → ¬ S k) : Below B w w' :=
  ⟨h.os, h.tape, h.output, h.size, fun k hk => h.block k (by omega) (hs k hk)⟩
theorem Fr.setCell {S : Nat → Prop} {u w : World} (h : Fr S u w) {b : Nat} (o : Nat) (v : Value) (hb : b < u.heap.size → S b) : Fr S u (w.setCell ⟨b, o, none⟩ v) :=
  ⟨h.os, h.tape, h.output, by simpa [World.setCell] using h.size, fun k hk hn => (Below.heap_setCell _ _ _ _ (fun e => hn (by have e' : k = b := e; subst e'; exact hb hk))).trans (h.block k hk hn)⟩
theorem Fr.alloc {S : Nat → Prop} {u w : World} (h : Fr S u w) (o : Obj) : Fr S u (w.alloc o) :=
  h.trans' (S' := S) (Fr.of_below ((Below.refl _ _).alloc (Nat.le_refl _) o)) fun _ _ h => h
theorem Fr.grown {S : Nat → Prop} {u w w' : World} (h : Fr S u w) {row : Option Nat} (hg : w.grownBy w' row) (hr : ∀ k, row = some k → k < u.heap.size → S k) : Fr S u w' :=
  ⟨hg.os.trans h.os, hg.tape.trans h.tape, hg.output.trans h.output, Nat.le_trans h.size hg.size, fun i hi hn => (hg.block i (Nat.lt_of_lt_of_le hi h.size) fun e => hn (hr i e.symm hi)).trans (h.block i hi hn)⟩
theorem Fr.drew {S : Nat → Prop} {u w : World} (h : Fr S u w) : Fr S u w.drew := ⟨h.os, h.tape, h.output, h.size, h.block⟩
theorem Fr.cell {S : Nat → Prop} {u w : World} (h : Fr S u w) {k o : Nat} (hk : k < u.heap.size) (hn : ¬ S k) : w.cell? ⟨k, o, none⟩ = u.cell? ⟨k, o, none⟩ := by
  unfold World.cell?; rw [h.block k hk hn]

/-- The cells of the cache's writes. -/
def putCs (c : List (Nat × ByteArray)) : List Value := c.flatMap fun x => [.int .i64 x.1, .string x.2]
theorem putCs_length (c : List (Nat × ByteArray)) : (putCs c).length = c.length * 2 := by
  induction c with
  | nil => rfl
  | cons x c ih => simp only [putCs, List.flatMap_cons, List.length_append] at ih ⊢; rw [ih]; simp; omega
theorem putCs_snoc (c : List (Nat × ByteArray)) (x : Nat × ByteArray) : putCs (c ++ [x]) = putCs c ++ [.int .i64 x.1, .string x.2] := by simp [putCs]
theorem putCs_get : ∀ (c : List (Nat × ByteArray)) (k : Nat), k < c.length → (putCs c)[k * 2]? = some (.int .i64 (cAt c k).1) ∧ (putCs c)[k * 2 + 1]? = some (.string (cAt c k).2)
  | [], k, h => by simp at h
  | x :: c, 0, _ => ⟨rfl, rfl⟩
  | x :: c, k + 1, h => by
    obtain ⟨h1, h2⟩ := putCs_get c k (by simpa using h)
    have e : putCs (x :: c) = .int .i64 x.1 :: .string x.2 :: putCs c := rfl
    have e' : cAt (x :: c) (k + 1) = cAt c k := rfl
    rw [e, e', show (k + 1) * 2 = k * 2 + 1 + 1 by omega]
    exact ⟨by simpa using h1, by simpa using h2⟩

/-- The row of a disk's cache. -/
def CacheAt (cv : Value) (c : List (Nat × ByteArray)) (w : World) : Prop := w.ownsRow 0 73 2 cv c.length (putCs c)
theorem CacheAt.cells {cv : Value} {c : List (Nat × ByteArray)} {w : World} (h : CacheAt cv c w) (hc : c ≠ []) : ∃ g cap, cv = .slice (some ⟨g, 0, none⟩) c.length cap ∧ cv.ownBlock = some g ∧ g < w.heap.size ∧
    (∀ k, k < c.length → w.cell? ⟨g, k * 2, none⟩ = some (.int .i64 (cAt c k).1) ∧ w.cell? ⟨g, k * 2 + 1, none⟩ = some (.string (cAt c k).2)) := by
  have h0 := h
  rcases h.2 with ⟨_, h1⟩ | ⟨g, cap, cur, rfl, _, hg, _⟩
  · exact absurd (List.eq_nil_of_length_eq_zero h1) hc
  · refine ⟨g, cap, rfl, rfl, (Array.getElem?_eq_some_iff.1 hg).1, fun k hk => ?_⟩
    obtain ⟨e1, e2⟩ := putCs_get c k hk
    have c1 := World.ownsRow.cells h0 (g := g) rfl _ _ e1
    have c2 := World.ownsRow.cells h0 (g := g) rfl _ _ e2
    rw [Addr.add_mid, Nat.zero_add] at c1 c2
    exact ⟨c1, c2⟩
theorem CacheAt.slice {cv : Value} {c : List (Nat × ByteArray)} {w : World} (h : CacheAt cv c w) : ∃ a cap, cv = .slice a c.length cap := by
  rcases h.2 with ⟨rfl, h1⟩ | ⟨g, cap, cur, rfl, _⟩
  · exact ⟨none, 0, by rw [h1]⟩
  · exact ⟨_, cap, rfl⟩
theorem CacheAt.type {cv : Value} {c : List (Nat × ByteArray)} {w : World} (h : CacheAt cv c w) {k : Nat} (hk : cv.ownBlock = some k) : ∃ C, w.heap[k]? = some (.cells C 73 (0, 0)) := by
  rcases h.2 with ⟨rfl, _⟩ | ⟨g, cap, cur, rfl, _, hg, _⟩
  · simp [Value.ownBlock] at hk
  · simp [Value.ownBlock] at hk; subst hk; exact ⟨_, hg⟩
theorem CacheAt.kept {cv : Value} {c : List (Nat × ByteArray)} {w w' : World} (h : CacheAt cv c w) (hk : ∀ k, cv.ownBlock = some k → w'.heap[k]? = w.heap[k]?) : CacheAt cv c w' := by
  refine ⟨h.1, ?_⟩
  rcases h.2 with e | ⟨g, cap, cur, e1, e2, hg, r⟩
  · exact .inl e
  · exact .inr ⟨g, cap, cur, e1, e2, (hk g (by rw [e1]; rfl)).trans hg, r⟩
theorem CacheAt.nil (w : World) : CacheAt (.slice none 0 0) [] w := World.ownsRow_nil w 0 _ 2

/-- The head of a disk. -/
def headC (bl n : Nat) (cv : Value) (d : Dk) : Array Value := #[.slice (some ⟨bl, 0, none⟩) n n, cv, .bool d.on, .bool d.armed, .int .i64 d.left, .int .i64 d.steps]
/-- Block p is a disk, block bl the row of what lies, cv the cache. -/
structure DiskAt (p bl : Nat) (cv : Value) (d : Dk) (w : World) : Prop where
  head : w.heap[p]? = some (.cells (headC bl d.lies.length cv d) 58 (0, 0))
  rows : w.heap[bl]? = some (.cells (d.lies.map Value.string).toArray 9 (0, 0))
  cache : CacheAt cv d.cache w
  fit : fits d
  most : d.lies.length ≤ 65536
  left : d.left ≤ 9223372036854775807
  steps : d.steps ≤ 1000000
  writes : d.cache.length ≤ 1000000
/-- The blocks of a disk. -/
def fp (p bl : Nat) (cv : Value) (k : Nat) : Prop := k = p ∨ k = bl ∨ cv.ownBlock = some k

section
variable {p bl : Nat} {cv : Value} {d : Dk} {w w' : World}
theorem DiskAt.lt (h : DiskAt p bl cv d w) : p < w.heap.size := (Array.getElem?_eq_some_iff.1 h.head).1
theorem DiskAt.ltl (h : DiskAt p bl cv d w) : bl < w.heap.size := (Array.getElem?_eq_some_iff.1 h.rows).1
theorem DiskAt.ltc (h : DiskAt p bl cv d w) {k : Nat} (hk : cv.ownBlock = some k) : k < w.heap.size := (World.ownsRow.lt h.cache k hk).2
theorem DiskAt.pl (h : DiskAt p bl cv d w) : p ≠ bl := fun e => by
  have h1 := h.head; have h2 := h.rows
  rw [e, h2] at h1
  simp at h1
theorem DiskAt.pc (h : DiskAt p bl cv d w) : cv.ownBlock ≠ some p := fun e => by
  obtain ⟨C, hC⟩ := CacheAt.type h.cache e
  have h1 := h.head
  rw [hC] at h1
  simp at h1
theorem DiskAt.lc (h : DiskAt p bl cv d w) : cv.ownBlock ≠ some bl := fun e => by
  obtain ⟨C, hC⟩ := CacheAt.type h.cache e
  have h1 := h.rows
  rw [hC] at h1
  simp at h1
theorem DiskAt.c (h : DiskAt p bl cv d w) (i : Nat) : w.cell? ⟨p, i, none⟩ = (headC bl d.lies.length cv d)[i]? := cell_of h.head i
theorem DiskAt.fz (h : DiskAt p bl cv d w) (i : Nat) : w.frozen? ⟨p, i, none⟩ = false := fz_of h.head i
theorem DiskAt.row (h : DiskAt p bl cv d w) (i : Nat) (hi : i < d.lies.length) : w.cell? ⟨bl, i, none⟩ = some (.string (d.lies.getD i .empty)) := by
  rw [cell_of h.rows]
  simp [hi]
theorem DiskAt.fzl (h : DiskAt p bl cv d w) (i : Nat) : w.frozen? ⟨bl, i, none⟩ = false := fz_of h.rows i
/-- A disk is kept where its blocks are. -/
theorem DiskAt.kept (h : DiskAt p bl cv d w) (hk : ∀ k, k < w.heap.size → fp p bl cv k → w'.heap[k]? = w.heap[k]?) : DiskAt p bl cv d w' :=
  ⟨(hk p h.lt (.inl rfl)).trans h.head, (hk bl h.ltl (.inr (.inl rfl))).trans h.rows, h.cache.kept fun k e => hk k (h.ltc e) (.inr (.inr e)), h.fit, h.most, h.left, h.steps, h.writes⟩
theorem DiskAt.old (h : DiskAt p bl cv d w) (hb : Below w.heap.size w w') : DiskAt p bl cv d w' := h.kept fun k hk _ => hb.block k hk
theorem DiskAt.fr (h : DiskAt p bl cv d w) {S : Nat → Prop} (hf : Fr S w w') (hs : ∀ k, fp p bl cv k → ¬ S k) : DiskAt p bl cv d w' := h.kept fun k hk e => hf.block k hk (hs k e)
/-- A block of another type is none of a disk's. -/
theorem DiskAt.apart (h : DiskAt p bl cv d w) {k : Nat} {C : Array Value} {T : TypeId} {fr : Nat × Nat} (hk : w.heap[k]? = some (.cells C T fr)) (h1 : T ≠ 58) (h2 : T ≠ 9) (h3 : T ≠ 73) : ¬ fp p bl cv k := by
  rintro (rfl | rfl | e)
  · have := h.head; rw [hk] at this; simp at this; exact h1 this.2.1
  · have := h.rows; rw [hk] at this; simp at this; exact h2 this.2.1
  · obtain ⟨C', hC⟩ := CacheAt.type h.cache e
    rw [hk] at hC; simp at hC; exact h3 hC.2.1
end
theorem head_set {w : World} {p i : Nat} {c : Array Value} {T : TypeId} (h : w.heap[p]? = some (.cells c T (0, 0))) (v : Value) : (w.setCell ⟨p, i, none⟩ v).heap[p]? = some (.cells (c.setIfInBounds i v) T (0, 0)) := heap_set h v
end Go.Proofs.Ytkoojbbimjjndaa
