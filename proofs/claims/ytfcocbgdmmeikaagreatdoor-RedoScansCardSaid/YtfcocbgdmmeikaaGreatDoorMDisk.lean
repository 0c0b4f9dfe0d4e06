/-
  Several texts in one (DiskMem, DiskAsk, DiskBack, SecShelf, DiskNew, DiskWrite, DiskSettle, DiskLast, DiskIn, DiskZero, SecFill, SecOpen, RowOwn).
-/
import Derived.Test.YtfcocbgdmmeikaaGreatDoorMGen
import Derived.Test.YtfcocbgdmmeikaaGreatDoorDiskPure
import Derived.Laws.AppendOwn
import Derived.Lib.Hide
import Derived.RangeFuncNested
import Derived.RangeFuncBound
import Derived.RangeFuncCalls
import Derived.RangeFuncLeaves
import Derived.Shelf.Abstract
import Derived.Shelf.RegionOpen
import Derived.WalkKit
import Derived.OwnWalkIn
import Derived.TacticsInMore
import Derived.LoopNIn
import Derived.LoopIn
import Derived.Shelf.Strings.Repeat
import Derived.Test.YtfcocbgdmmeikaaGreatDoorProg
import Derived.Laws.CopyOwn
import Derived.Deep.Cut
import Derived.Test.YtfcocbgdmmeikaaGreatDoorMOct
/-! ## A disk in memory: its head, the row of what lies, the row of the cache's writes. What is kept besides. -/
namespace Go.Proofs.YtfcocbgdmmeikaaGreatDoor
open Go.RowKit Dsk

/-- No block that was there has turned, but those of S. -/
structure Fr (S : Nat → Prop) (w w' : World) : Prop where
  os : w'.os = w.os
  tape : w'.tape = w.tape
  output : w'.output = w.output
  size : w.heap.size ≤ w'.heap.size
  block : ∀ k, k < w.heap.size → ¬ S k → w'.heap[k]? = w.heap[k]?
theorem Fr.refl (S : Nat → Prop) (w : World) : Fr S w w := ⟨rfl, rfl, rfl, Nat.le_refl _, fun _ _ _ => rfl⟩
theorem Fr.trans {S : Nat → Prop} {u v w : World} (h : Fr S u v) (k : Fr S v w) : Fr S u w :=
  ⟨k.os.trans h.os, k.tape.trans h.tape, k.output.trans h.output, Nat.le_trans h.size k.size, fun i hi hs => (k.block i (Nat.lt_of_lt_of_le hi h.size) hs).trans (h.block i hi hs)⟩
theorem Fr.mono {S S' : Nat → Prop} {u v : World} (h : Fr S u v) (hs : ∀ k, k < u.heap.size → S k → S' k) : Fr S' u v :=
  ⟨h.os, h.tape, h.output, h.size, fun i hi hn => h.block i hi fun e => hn (hs i hi e)⟩
/-- Goes on where the second step's own blocks are new, or the first one's. -/
theorem Fr.trans' {S S' : Nat → Prop} {u v w : World} (h : Fr S u v) (k : Fr S' v w) (hs : ∀ k, k < u.heap.size → S' k → S k) : Fr S u w :=
  ⟨k.os.trans h.os, k.tape.trans h.tape, k.output.trans h.output, Nat.le_trans h.size k.size, fun i hi hn => (k.block i (Nat.lt_of_lt_of_le hi h.size) fun e => hn (hs i hi e)).trans (h.block i hi hn)⟩
theorem Fr.of_below {S : Nat → Prop} {w w' : World} (h : Below w.heap.size w w') : Fr S w w' := ⟨h.os, h.tape, h.output, h.size, fun k hk _ => h.block k hk⟩
theorem Fr.below {S : Nat → Prop} {B : Nat} {w w' : World} (h : Fr S w w') (hB : B ≤ w.heap.size) (hs : ∀ k, k < B → ¬ S k) : Below B w w' :=
  ⟨h.os, h.tape, h.output, h.size, fun k hk => h.block k (by omega) (hs k hk)⟩
theorem Fr.setCell {S : Nat → Prop} {u w : World} (h : Fr S u w) {b : Nat} (o : Nat) (v : Value) (hb : b < u.heap.size → S b) : Fr S u (w.setCell ⟨b, o, none⟩ v) :=
  ⟨h.os, h.tape, h.output, by simpa [World.setCell] using h.size, fun k hk hn => (Below.heap_setCell _ _ _ _ (fun e => hn (by have e' : k = b := e; subst e'; exact hb hk))).trans (h.block k hk hn)⟩
theorem Fr.alloc {S : Nat → Prop} {u w : World} (h : Fr S u w) (o : Obj) : Fr S u (w.alloc o) :=
  h.trans' (S' := S) (Fr.of_below ((Below.refl _ _).alloc (Nat.le_refl _) o)) fun _ _ h => h
theorem Fr.grown {S : Nat → Prop} {u w w' : World} (h : Fr S u w) {row : Option Nat} (hg : w.grownBy w' row) (hr : ∀ k, row = some k → k < u.heap.size → S k) : Fr S u w' :=
  ⟨hg.os.trans h.os, hg.tape.trans h.tape, hg.output.trans h.output, Nat.le_trans h.size hg.size, fun i hi hn => (hg.block i (Nat.lt_of_lt_of_le hi h.size) fun e => hn (hr i e.symm hi)).trans (h.block i hi hn)⟩
theorem Fr.drew {S : Nat → Prop} {u w : World} (h : Fr S u w) : Fr S u w.drew := ⟨h.os, h.tape, h.output, h.size, h.block⟩
theorem Fr.cell {S : Nat → Prop} {u w : World} (h : Fr S u w) {k o : Nat} (hk : k < u.heap.size) (hn : ¬ S k) : w.cell? ⟨k, o, none⟩ = u.cell? ⟨k, o, none⟩ := by
  unfold World.cell?; rw [h.block k hk hn]

/-- The cells of the cache's writes. -/
def putCs (c : List (Nat × ByteArray)) : List Value := c.flatMap fun x => [.int .i64 x.1, .string x.2]
theorem putCs_length (c : List (Nat × ByteArray)) : (putCs c).length = c.length * 2 := by
  induction c with
  | nil => rfl
  | cons x c ih => simp only [putCs, List.flatMap_cons, List.length_append] at ih ⊢; rw [ih]; simp; omega
theorem putCs_snoc (c : List (Nat × ByteArray)) (x : Nat × ByteArray) : putCs (c ++ [x]) = putCs c ++ [.int .i64 x.1, .string x.2] := by simp [putCs]
theorem putCs_get : ∀ (c : List (Nat × ByteArray)) (k : Nat), k < c.length → (putCs c)[k * 2]? = some (.int .i64 (cAt c k).1) ∧ (putCs c)[k * 2 + 1]? = some (.string (cAt c k).2)
  | [], k, h => by simp at h
  | x :: c, 0, _ => ⟨rfl, rfl⟩
  | x :: c, k + 1, h => by
    obtain ⟨h1, h2⟩ := putCs_get c k (by simpa using h)
    have e : putCs (x :: c) = .int .i64 x.1 :: .string x.2 :: putCs c := rfl
    have e' : cAt (x :: c) (k + 1) = cAt c k := rfl
    rw [e, e', show (k + 1) * 2 = k * 2 + 1 + 1 by omega]
    exact ⟨by simpa using h1, by simpa using h2⟩

/-- The row of a disk's cache. -/
def CacheAt (cv : Value) (c : List (Nat × ByteArray)) (w : World) : Prop := w.ownsRow 0 64 2 cv c.length (putCs c)
theorem CacheAt.cells {cv : Value} {c : List (Nat × ByteArray)} {w : World} (h : CacheAt cv c w) (hc : c ≠ []) : ∃ g cap, cv = .slice (some ⟨g, 0, none⟩) c.length cap ∧ cv.ownBlock = some g ∧ g < w.heap.size ∧
    (∀ k, k < c.length → w.cell? ⟨g, k * 2, none⟩ = some (.int .i64 (cAt c k).1) ∧ w.cell? ⟨g, k * 2 + 1, none⟩ = some (.string (cAt c k).2)) := by
  have h0 := h
  rcases h.2 with ⟨_, h1⟩ | ⟨g, cap, cur, rfl, _, hg, _⟩
  · exact absurd (List.eq_nil_of_length_eq_zero h1) hc
  · refine ⟨g, cap, rfl, rfl, (Array.getElem?_eq_some_iff.1 hg).1, fun k hk => ?_⟩
    obtain ⟨e1, e2⟩ := putCs_get c k hk
    have c1 := World.ownsRow.cells h0 (g := g) rfl _ _ e1
    have c2 := World.ownsRow.cells h0 (g := g) rfl _ _ e2
    rw [Addr.add_mid, Nat.zero_add] at c1 c2
    exact ⟨c1, c2⟩
theorem CacheAt.slice {cv : Value} {c : List (Nat × ByteArray)} {w : World} (h : CacheAt cv c w) : ∃ a cap, cv = .slice a c.length cap := by
  rcases h.2 with ⟨rfl, h1⟩ | ⟨g, cap, cur, rfl, _⟩
  · exact ⟨none, 0, by rw [h1]⟩
  · exact ⟨_, cap, rfl⟩
theorem CacheAt.type {cv : Value} {c : List (Nat × ByteArray)} {w : World} (h : CacheAt cv c w) {k : Nat} (hk : cv.ownBlock = some k) : ∃ C, w.heap[k]? = some (.cells C 64 (0, 0)) := by
  rcases h.2 with ⟨rfl, _⟩ | ⟨g, cap, cur, rfl, _, hg, _⟩
  · simp [Value.ownBlock] at hk
  · simp [Value.ownBlock] at hk; subst hk; exact ⟨_, hg⟩
theorem CacheAt.kept {cv : Value} {c : List (Nat × ByteArray)} {w w' : World} (h : CacheAt cv c w) (hk : ∀ k, cv.ownBlock = some k → w'.heap[k]? = w.heap[k]?) : CacheAt cv c w' := by
  refine ⟨h.1, ?_⟩
  rcases h.2 with e | ⟨g, cap, cur, e1, e2, hg, r⟩
  · exact .inl e
  · exact .inr ⟨g, cap, cur, e1, e2, (hk g (by rw [e1]; rfl)).trans hg, r⟩
theorem CacheAt.nil (w : World) : CacheAt (.slice none 0 0) [] w := World.ownsRow_nil w 0 _ 2

/-- The head of a disk. -/
def headC (bl n : Nat) (cv : Value) (d : Dk) : Array Value := #[.slice (some ⟨bl, 0, none⟩) n n, cv, .bool d.on, .bool d.armed, .int .i64 d.left, .int .i64 d.steps]
/-- Block p is a disk, block bl the row of what lies, cv the cache. -/
structure DiskAt (p bl : Nat) (cv : Value) (d : Dk) (w : World) : Prop where
  head : w.heap[p]? = some (.cells (headC bl d.lies.length cv d) 89 (0, 0))
  rows : w.heap[bl]? = some (.cells (d.lies.map Value.string).toArray 9 (0, 0))
  cache : CacheAt cv d.cache w
  fit : fits d
  most : d.lies.length ≤ 65536
  left : d.left ≤ 9223372036854775807
  steps : d.steps ≤ 1000000
  writes : d.cache.length ≤ 1000000
/-- The blocks of a disk. -/
def fp (p bl : Nat) (cv : Value) (k : Nat) : Prop := k = p ∨ k = bl ∨ cv.ownBlock = some k

section
variable {p bl : Nat} {cv : Value} {d : Dk} {w w' : World}
theorem DiskAt.lt (h : DiskAt p bl cv d w) : p < w.heap.size := (Array.getElem?_eq_some_iff.1 h.head).1
theorem DiskAt.ltl (h : DiskAt p bl cv d w) : bl < w.heap.size := (Array.getElem?_eq_some_iff.1 h.rows).1
theorem DiskAt.ltc (h : DiskAt p bl cv d w) {k : Nat} (hk : cv.ownBlock = some k) : k < w.heap.size := (World.ownsRow.lt h.cache k hk).2
theorem DiskAt.pl (h : DiskAt p bl cv d w) : p ≠ bl := fun e => by
  have h1 := h.head; have h2 := h.rows
  rw [e, h2] at h1
  simp at h1
theorem DiskAt.pc (h : DiskAt p bl cv d w) : cv.ownBlock ≠ some p := fun e => by
  obtain ⟨C, hC⟩ := CacheAt.type h.cache e
  have h1 := h.head
  rw [hC] at h1
  simp at h1
theorem DiskAt.lc (h : DiskAt p bl cv d w) : cv.ownBlock ≠ some bl := fun e => by
  obtain ⟨C, hC⟩ := CacheAt.type h.cache e
  have h1 := h.rows
  rw [hC] at h1
  simp at h1
theorem DiskAt.c (h : DiskAt p bl cv d w) (i : Nat) : w.cell? ⟨p, i, none⟩ = (headC bl d.lies.length cv d)[i]? := cell_of h.head i
theorem DiskAt.fz (h : DiskAt p bl cv d w) (i : Nat) : w.frozen? ⟨p, i, none⟩ = false := fz_of h.head i
theorem DiskAt.row (h : DiskAt p bl cv d w) (i : Nat) (hi : i < d.lies.length) : w.cell? ⟨bl, i, none⟩ = some (.string (d.lies.getD i .empty)) := by
  rw [cell_of h.rows]
  simp [hi]
theorem DiskAt.fzl (h : DiskAt p bl cv d w) (i : Nat) : w.frozen? ⟨bl, i, none⟩ = false := fz_of h.rows i
/-- A disk is kept where its blocks are. -/
theorem DiskAt.kept (h : DiskAt p bl cv d w) (hk : ∀ k, k < w.heap.size → fp p bl cv k → w'.heap[k]? = w.heap[k]?) : DiskAt p bl cv d w' :=
  ⟨(hk p h.lt (.inl rfl)).trans h.head, (hk bl h.ltl (.inr (.inl rfl))).trans h.rows, h.cache.kept fun k e => hk k (h.ltc e) (.inr (.inr e)), h.fit, h.most, h.left, h.steps, h.writes⟩
theorem DiskAt.old (h : DiskAt p bl cv d w) (hb : Below w.heap.size w w') : DiskAt p bl cv d w' := h.kept fun k hk _ => hb.block k hk
theorem DiskAt.fr (h : DiskAt p bl cv d w) {S : Nat → Prop} (hf : Fr S w w') (hs : ∀ k, fp p bl cv k → ¬ S k) : DiskAt p bl cv d w' := h.kept fun k hk e => hf.block k hk (hs k e)
/-- A block of another type is none of a disk's. -/
theorem DiskAt.apart (h : DiskAt p bl cv d w) {k : Nat} {C : Array Value} {T : TypeId} {fr : Nat × Nat} (hk : w.heap[k]? = some (.cells C T fr)) (h1 : T ≠ 89) (h2 : T ≠ 9) (h3 : T ≠ 64) : ¬ fp p bl cv k := by
  rintro (rfl | rfl | e)
  · have := h.head; rw [hk] at this; simp at this; exact h1 this.2.1
  · have := h.rows; rw [hk] at this; simp at this; exact h2 this.2.1
  · obtain ⟨C', hC⟩ := CacheAt.type h.cache e
    rw [hk] at hC; simp at hC; exact h3 hC.2.1
end
theorem head_set {w : World} {p i : Nat} {c : Array Value} {T : TypeId} (h : w.heap[p]? = some (.cells c T (0, 0))) (v : Value) : (w.setCell ⟨p, i, none⟩ v).heap[p]? = some (.cells (c.setIfInBounds i v) T (0, 0)) := heap_set h v
end Go.Proofs.YtfcocbgdmmeikaaGreatDoor
/-! ## Package sector: what a disk's small calls do: Sectors, has, On, Steps, Cached, Peek, step, Arm. -/
namespace Go.Proofs.YtfcocbgdmmeikaaGreatDoor
open Go.RowKit Dsk

section
variable {p bl : Nat} {cv : Value} {d : Dk} {w : World}
theorem DiskAt.c0 (h : DiskAt p bl cv d w) : w.cell? ⟨p, 0, none⟩ = some (.slice (some ⟨bl, 0, none⟩) d.lies.length d.lies.length) := h.c 0
theorem DiskAt.c1 (h : DiskAt p bl cv d w) : w.cell? ⟨p, 1, none⟩ = some cv := h.c 1
theorem DiskAt.c2 (h : DiskAt p bl cv d w) : w.cell? ⟨p, 2, none⟩ = some (.bool d.on) := h.c 2
theorem DiskAt.c3 (h : DiskAt p bl cv d w) : w.cell? ⟨p, 3, none⟩ = some (.bool d.armed) := h.c 3
theorem DiskAt.c4 (h : DiskAt p bl cv d w) : w.cell? ⟨p, 4, none⟩ = some (.int .i64 d.left) := h.c 4
theorem DiskAt.c5 (h : DiskAt p bl cv d w) : w.cell? ⟨p, 5, none⟩ = some (.int .i64 d.steps) := h.c 5
end

theorem sectors_any (p bl : Nat) (cv : Value) (d : Dk) (w : World) (h : DiskAt p bl cv d w) :
    Calls Tryz.prog 59 #[.pointer (some ⟨p, 0, none⟩)] w fun e w' => e = .returned (.int .i64 d.lies.length) ∧ w = w' := by
  have h0 := h.c0
  go_enter Tryz.func59, Tryz.ntmps59
  go_wp2
  go_ret
  exact ⟨rfl, rfl⟩
theorem sectors_nil (w : World) :
    Calls Tryz.prog 59 #[.pointer none] w fun e w' => e = .returned (.int .i64 0) ∧ w = w' := by
  go_enter Tryz.func59, Tryz.ntmps59
  go_wp2
  go_ret
  exact ⟨rfl, rfl⟩
/-- Is there such a sector? -/
def hasB (n : Nat) (at_ : Int) : Bool := decide (0 ≤ at_) && decide (at_ < n)
theorem has_any (p bl : Nat) (cv : Value) (d : Dk) (at_ : Int) (w : World) (h : DiskAt p bl cv d w) :
    Calls Tryz.prog 90 #[.pointer (some ⟨p, 0, none⟩), .int .i64 at_] w fun e w' => e = .returned (.bool (hasB d.lies.length at_)) ∧ w = w' := by
  have hm := h.most
  unfold hasB
  by_cases h0 : 0 ≤ at_
  · rw [decide_eq_true h0, Bool.true_and]
    go_enter Tryz.func90, Tryz.ntmps90
    go_wp2_with (go_at_call 59; refine (sectors_any _ _ _ _ _ h).mono ?_; rintro e w' ⟨rfl, rfl⟩)
    go_ret
    exact ⟨rfl, rfl⟩
  · rw [decide_eq_false h0, Bool.false_and]
    go_enter Tryz.func90, Tryz.ntmps90
    go_wp2
    go_ret
    exact ⟨rfl, rfl⟩
theorem has_nil (at_ : Int) (w : World) :
    Calls Tryz.prog 90 #[.pointer none, .int .i64 at_] w fun e w' => e = .returned (.bool false) ∧ w = w' := by
  by_cases h0 : 0 ≤ at_
  · have h1 : ¬ at_ < 0 := by omega
    go_enter Tryz.func90, Tryz.ntmps90
    go_wp2_with (go_at_call 59; refine (sectors_nil _).mono ?_; rintro e w' ⟨rfl, rfl⟩)
    go_ret
    exact ⟨by show Ending.returned (.bool (decide (at_ < 0))) = _; rw [decide_eq_false (by omega)], rfl⟩
  · go_enter Tryz.func90, Tryz.ntmps90
    go_wp2
    go_ret
    exact ⟨rfl, rfl⟩
theorem on_any (p bl : Nat) (cv : Value) (d : Dk) (w : World) (h : DiskAt p bl cv d w) :
    Calls Tryz.prog 30 #[.pointer (some ⟨p, 0, none⟩)] w fun e w' => e = .returned (.bool d.on) ∧ w = w' := by
  have h0 := h.c2
  go_enter Tryz.func30, Tryz.ntmps30
  go_wp2
  go_ret
  exact ⟨rfl, rfl⟩
theorem on_nil (w : World) :
    Calls Tryz.prog 30 #[.pointer none] w fun e w' => e = .returned (.bool false) ∧ w = w' := by
  go_enter Tryz.func30, Tryz.ntmps30
  go_wp2
  go_ret
  exact ⟨rfl, rfl⟩
/-- What Peek tells. -/
def peek (d : Dk) (at_ : Int) : ByteArray := if hasB d.lies.length at_ then d.lies.getD at_.toNat .empty else ⟨#[]⟩
theorem ends (d : Dk) : d = ⟨d.lies, d.cache, d.on, d.armed, d.left, d.steps⟩ := rfl
/-- The head alone is turned. -/
theorem DiskAt.rehead {p bl : Nat} {cv : Value} {d d' : Dk} {w w' : World} (h : DiskAt p bl cv d w) (ho : Only p w w') (hh : w'.heap[p]? = some (.cells (headC bl d.lies.length cv d') 89 (0, 0))) (h1 : d'.lies = d.lies) (h2 : d'.cache = d.cache)
    (hl : d'.left ≤ 9223372036854775807) (hs : d'.steps ≤ 1000000) : DiskAt p bl cv d' w' :=
  ⟨by rw [h1]; exact hh, by rw [h1]; exact (ho.block bl h.ltl (Ne.symm h.pl)).trans h.rows, by rw [h2]; exact h.cache.kept fun k e => ho.block k (h.ltc e) fun e' => h.pc (e' ▸ e), by intro x hx; rw [h2] at hx; rw [h1]; exact h.fit x hx, by rw [h1]; exact h.most, hl, hs, by rw [h2]; exact h.writes⟩
set_option maxHeartbeats 800000 in
theorem step_any (p bl : Nat) (cv : Value) (d : Dk) (w : World) (h : DiskAt p bl cv d w) (hs : d.steps < 1000000) :
    Calls Tryz.prog 110 #[.pointer (some ⟨p, 0, none⟩)] w fun e w' => e = .returned (.int .i64 (err d)) ∧ DiskAt p bl cv (Dsk.step d) w' ∧ Only p w w' := by
  have h2 := h.c2; have h3 := h.c3; have h4 := h.c4; have h5 := h.c5
  have f2 := h.fz 2; have f4 := h.fz 4; have f5 := h.fz 5
  have hh := h.head
  have hl := h.left
  have H := Lib.hid h
  clear h
  obtain ⟨L, C, on, armed, left, steps⟩ := d
  simp only at h2 h3 h4 h5 hs hl
  cases on with
  | false =>
    cases armed with
    | false =>
      go_enter Tryz.func110, Tryz.ntmps110
      go_wp2
      go_ret
      exact ⟨rfl, H.out, Only.refl _ _⟩
    | true =>
      by_cases hz : left = 0
      · subst hz
        go_enter Tryz.func110, Tryz.ntmps110
        go_wp2
        go_ret
        have ho : Only p w (w.setCell ⟨p, 2, none⟩ (.bool false)) := (Only.refl _ _).setCell _ _
        exact ⟨rfl, H.out.rehead ho (heap_set hh _) rfl rfl hl (show steps ≤ 1000000 by omega), ho⟩
      · have hz' : ¬ (left : Int) = 0 := by omega
        go_enter Tryz.func110, Tryz.ntmps110
        go_wp2
        go_ret
        exact ⟨rfl, H.out, Only.refl _ _⟩
  | true =>
    cases armed with
    | false =>
      go_enter Tryz.func110, Tryz.ntmps110
      go_wp2
      go_ret
      have ho : Only p w (w.setCell ⟨p, 5, none⟩ (.int .i64 ((steps : Int) + 1))) := (Only.refl _ _).setCell _ _
      exact ⟨rfl, H.out.rehead ho (heap_set hh _) rfl rfl hl (show steps + 1 ≤ 1000000 by omega), ho⟩
    | true =>
      by_cases hz : left = 0
      · subst hz
        go_enter Tryz.func110, Tryz.ntmps110
        go_wp2
        go_ret
        have ho : Only p w (w.setCell ⟨p, 2, none⟩ (.bool false)) := (Only.refl _ _).setCell _ _
        exact ⟨rfl, H.out.rehead ho (heap_set hh _) rfl rfl hl (show steps ≤ 1000000 by omega), ho⟩
      · have hz' : ¬ (left : Int) = 0 := by omega
        obtain ⟨l, rfl⟩ : ∃ l, left = l + 1 := ⟨left - 1, by omega⟩
        go_enter Tryz.func110, Tryz.ntmps110
        go_wp2
        go_ret
        have ho : Only p w ((w.setCell ⟨p, 4, none⟩ (.int .i64 l)).setCell ⟨p, 5, none⟩ (.int .i64 ((steps : Int) + 1))) := ((Only.refl _ _).setCell _ _).setCell _ _
        exact ⟨rfl, H.out.rehead ho (heap_set (heap_set hh _) _) rfl rfl (show l ≤ 9223372036854775807 by omega) (show steps + 1 ≤ 1000000 by omega), ho⟩
theorem arm_any (p bl : Nat) (cv : Value) (d : Dk) (n : Int) (w : World) (h : DiskAt p bl cv d w) (hn : n ≤ 9223372036854775807) :
    Calls Tryz.prog 22 #[.pointer (some ⟨p, 0, none⟩), .int .i64 n] w fun e w' => e = .returned (.tuple #[]) ∧ DiskAt p bl cv (arm d n.toNat) w' ∧ Only p w w' := by
  have h2 := h.c2; have h3 := h.c3; have h4 := h.c4
  have f3 := h.fz 3; have f4 := h.fz 4
  have hh := h.head
  have hs := h.steps
  have H := Lib.hid h
  obtain ⟨L, C, on, armed, left, steps⟩ := d
  simp only at h2 h3 h4
  cases on with
  | false =>
    go_enter Tryz.func22, Tryz.ntmps22
    go_wp2_with (go_at_call 30; refine (on_any _ _ _ _ _ h).mono ?_; rintro e w' ⟨rfl, rfl⟩)
    go_end0
    exact ⟨rfl, H.out, Only.refl _ _⟩
  | true =>
    rcases (show n < 0 ∨ ∃ k : Nat, n = k by by_cases hx : n < 0; exact .inl hx; exact .inr ⟨n.toNat, by omega⟩) with hneg | ⟨k, rfl⟩
    · rw [show n.toNat = 0 by omega]
      go_enter Tryz.func22, Tryz.ntmps22
      go_wp2_with (go_at_call 30; refine (on_any _ _ _ _ _ h).mono ?_; rintro e w' ⟨rfl, rfl⟩)
      go_end0
      try rw [show max n 0 = 0 by omega]
      have ho : Only p w ((w.setCell ⟨p, 3, none⟩ (.bool true)).setCell ⟨p, 4, none⟩ (.int .i64 (0 : Nat))) := ((Only.refl _ _).setCell _ _).setCell _ _
      exact ⟨rfl, H.out.rehead ho (heap_set (heap_set hh _) _) rfl rfl (show (0 : Nat) ≤ 9223372036854775807 by omega) hs, ho⟩
    · rw [Int.toNat_natCast]
      go_enter Tryz.func22, Tryz.ntmps22
      go_wp2_with (go_at_call 30; refine (on_any _ _ _ _ _ h).mono ?_; rintro e w' ⟨rfl, rfl⟩)
      go_end0
      try rw [show max (k : Int) 0 = (k : Int) by omega]
      have ho : Only p w ((w.setCell ⟨p, 3, none⟩ (.bool true)).setCell ⟨p, 4, none⟩ (.int .i64 k)) := ((Only.refl _ _).setCell _ _).setCell _ _
      exact ⟨rfl, H.out.rehead ho (heap_set (heap_set hh _) _) rfl rfl (show k ≤ 9223372036854775807 by omega) hs, ho⟩
theorem arm_nil (n : Int) (w : World) :
    Calls Tryz.prog 22 #[.pointer none, .int .i64 n] w fun e w' => e = .returned (.tuple #[]) ∧ w = w' := by
  go_enter Tryz.func22, Tryz.ntmps22
  go_wp2_with (go_at_call 30; refine (on_nil _).mono ?_; rintro e w' ⟨rfl, rfl⟩)
  go_end0
  exact ⟨rfl, rfl⟩
end Go.Proofs.YtfcocbgdmmeikaaGreatDoor
/-! ## The library's slices.Backward over the cache's writes: what it hands to the loop's body, one behind the other. -/
namespace Go.Proofs.YtfcocbgdmmeikaaGreatDoor
open Go.RowKit Go.Shelf Dsk

attribute [local go_sem] Oper.semAt_some

/-- What has come when j rounds are over: the last j writes, the last one first. -/
def dn (c : List (Nat × ByteArray)) (j : Nat) : List (Nat × (Nat × ByteArray)) := (List.range j).map fun i => (c.length - 1 - i, cAt c (c.length - 1 - i))
theorem dn_succ (c : List (Nat × ByteArray)) (j : Nat) : dn c (j + 1) = dn c j ++ [(c.length - 1 - j, cAt c (c.length - 1 - j))] := by simp [dn, List.range_succ]
theorem dn_length (c : List (Nat × ByteArray)) (j : Nat) : (dn c j).length = j := by simp [dn]
def encP (x : Nat × (Nat × ByteArray)) : Array Value := #[.int .i64 (x.1 : Int), .agg #[.int .i64 (x.2.1 : Int), .string x.2.2]]

set_option maxRecDepth 100000 in
set_option maxHeartbeats 2000000 in
theorem back1_in (F : Fence) (n : Nat) (h7 : F.fn 123) (hro : F.round = none) (hn : 1 ≤ n) (l Bs n₀ g cap : Nat) (c : List (Nat × ByteArray)) (hreach : c.length ≤ 1000000) (hb : g < n₀) (J Jx : List (Nat × (Nat × ByteArray)) → World → Prop)
    (hY : ∀ pre x W, J pre W → pre.length < c.length → YieldAt F (n - 1) Tryz.prog l #[.int .i64 (x.1 : Int), .agg #[.int .i64 (x.2.1 : Int), .string x.2.2]] W fun e W' =>
      (e = .returned (.bool true) ∧ J (pre ++ [x]) W' ∧ Below n₀ W W') ∨ (e = .returned (.bool false) ∧ Jx (pre ++ [x]) W'))
    (W : World) (hBs : W.cell? ⟨Bs, 0, none⟩ = some (.slice (some ⟨g, 0, none⟩) c.length cap)) (hBn : Bs < n₀) (hc : ∀ k, k < c.length → W.cell? ⟨g, k * 2, none⟩ = some (.int .i64 (cAt c k).1) ∧ W.cell? ⟨g, k * 2 + 1, none⟩ = some (.string (cAt c k).2)) (h0 : J [] W) :
    CallsIn F n Tryz.prog 123 #[.func (.yield l) #[] #[], .pointer (some ⟨Bs, 0, none⟩)] W fun e W' => (∃ v, e = .returned v) ∧
      ((∃ ys, ys = dn c c.length ∧ J ys W') ∨ (∃ pre, (∃ k, k ≤ c.length ∧ pre = dn c k) ∧ Jx pre W')) := by
  refine callsIn_of_wp Tryz.func123 rfl h7 ?_ hro
  simp only [Tryz.ntmps123, List.size_toArray, List.length_cons, List.length_nil, Nat.reduceAdd, Nat.reduceSub, Array.replicate_succ, Array.replicate_zero, List.push_toArray, List.append_toArray, List.nil_append, List.cons_append]
  gi_wp2
  gi_loopw [3] (fun i wr => ∃ k : Nat, k ≤ c.length ∧ ((k = 0 ∧ i = .int .i64 (-1)) ∨ ∃ m : Nat, k = m + 1 ∧ i = .int .i64 m) ∧ J (dn c (c.length - k)) wr ∧ Below n₀ W wr)
    (fun i _ => (intOf i + 1).toNat)
  case atStart =>
    refine ⟨c.length, Nat.le_refl _, ?_, by rw [Nat.sub_self]; exact h0, Below.refl _ _⟩
    by_cases h : c.length = 0
    · exact .inl ⟨h, by rw [h]; rfl⟩
    · exact .inr ⟨c.length - 1, by omega, by congr 1; omega⟩
  case round =>
    obtain ⟨k, hk, hi, hJs, hnx⟩ := hrel
    have hBs' : wr.cell? ⟨Bs, 0, none⟩ = some (.slice (some ⟨g, 0, none⟩) c.length cap) := (hnx.cell (p := ⟨Bs, 0, none⟩) hBn).trans hBs
    rcases hi with ⟨rfl, rfl⟩ | ⟨m, rfl, rfl⟩
    · gi_wp2
      go_end0
      exact ⟨⟨_, rfl⟩, .inl ⟨_, rfl, hJs⟩⟩
    · have hm : m < c.length := by omega
      obtain ⟨e1, e2⟩ := hc m hm
      have c1 : wr.cell? ⟨g, m * 2, none⟩ = some (.int .i64 (cAt c m).1) := (hnx.cell (p := ⟨g, m * 2, none⟩) hb).trans e1
      have c2 : wr.cell? ⟨g, m * 2 + 1, none⟩ = some (.string (cAt c m).2) := (hnx.cell (p := ⟨g, m * 2 + 1, none⟩) hb).trans e2
      obtain ⟨fn, tmps, assign, body, hy, hR⟩ := hY _ (m, cAt c m) wr hJs (by rw [dn_length]; omega)
      dsimp only at hy
      have hs : dn c (c.length - (m + 1)) ++ [(m, cAt c m)] = dn c (c.length - m) := by
        have := dn_succ c (c.length - (m + 1))
        rw [show c.length - (m + 1) + 1 = c.length - m by omega, show c.length - 1 - (c.length - (m + 1)) = m by omega] at this
        exact this.symm
      rw [hs] at hR
      clear hc e1 e2 hs hY
      gi_wp2
      refine hR.mono ?_
      rintro e W3 (⟨rfl, hJ3, hk3⟩ | ⟨rfl, hJx3⟩)
      · gi_wp2
        go_roundw
        case rel =>
          refine ⟨m, by omega, ?_, hJ3, hnx.trans hk3⟩
          by_cases h : m = 0
          · exact .inl ⟨h, by rw [h]; rfl⟩
          · exact .inr ⟨m - 1, by omega, by congr 1; omega⟩
        case measure => simp [intOf]
      · gi_wp2
        refine bodyPost_ret (results_none rfl _ _ _) rfl ?_
        exact ⟨⟨_, rfl⟩, .inr ⟨_, ⟨c.length - m, by omega, rfl⟩, hJx3⟩⟩

set_option maxRecDepth 100000 in
set_option maxHeartbeats 1000000 in
/-- .. of an empty cache: no round. -/
theorem back1_nil_in (F : Fence) (n : Nat) (h7 : F.fn 123) (hro : F.round = none) (l Bs : Nat) (a : Option Addr) (cap : Nat) (J : List (Nat × (Nat × ByteArray)) → World → Prop) (W : World) (hBs : W.cell? ⟨Bs, 0, none⟩ = some (.slice a 0 cap)) (h0 : J [] W) :
    CallsIn F n Tryz.prog 123 #[.func (.yield l) #[] #[], .pointer (some ⟨Bs, 0, none⟩)] W fun e W' => (∃ v, e = .returned v) ∧ J [] W' := by
  refine callsIn_of_wp Tryz.func123 rfl h7 ?_ hro
  simp only [Tryz.ntmps123, List.size_toArray, List.length_cons, List.length_nil, Nat.reduceAdd, Nat.reduceSub, Array.replicate_succ, Array.replicate_zero, List.push_toArray, List.append_toArray, List.nil_append, List.cons_append]
  gi_wp2
  gi_loopw [3] (fun i wr => i = .int .i64 (-1) ∧ J [] wr) (fun _ _ => 0)
  case atStart => exact ⟨rfl, h0⟩
  case round =>
    obtain ⟨rfl, hJs⟩ := hrel
    gi_wp2
    go_end0
    exact ⟨⟨_, rfl⟩, hJs⟩

set_option maxHeartbeats 1000000 in
theorem back_in (F : Fence) (n : Nat) (h5 : F.fn 112) (hro : F.round = none) (a : Option Addr) (len cap : Nat) (w : World) :
    CallsIn F n Tryz.prog 112 #[.slice a len cap] w fun e w' => e = .returned (.func (.func 123) #[] #[.pointer (some ⟨w.heap.size, 0, none⟩)]) ∧ w' = w.alloc (.cells #[.slice a len cap] 58) := by
  refine callsIn_of_wp Tryz.func112 rfl h5 ?_ hro
  simp only [Tryz.ntmps112, List.size_toArray, List.length_cons, List.length_nil, Nat.reduceAdd, Nat.reduceSub, Array.replicate_succ, Array.replicate_zero, List.push_toArray, List.append_toArray, List.nil_append, List.cons_append]
  gi_wp2
  go_ret
  exact ⟨rfl, rfl⟩

theorem back_stops (F : Fence) (n : Nat) (h7 : F.fn 123) (hro : F.round = none) (hn : 1 ≤ n) (Bs n₀ : Nat) (cv : Value) (c : List (Nat × ByteArray)) (hreach : c.length ≤ 1000000) (w : World) (hBs : Bs < n₀) (hn₀ : n₀ ≤ w.heap.size)
    (hc : w.cell? ⟨Bs, 0, none⟩ = some cv) (hI : CacheAt cv c w) (hg : ∀ k, cv.ownBlock = some k → k < n₀) :
    SeqStopsK F n Tryz.prog 123 #[.pointer (some ⟨Bs, 0, none⟩)] (fun x : Nat × (Nat × ByteArray) => #[Value.int .i64 (x.1 : Int), .agg #[.int .i64 (x.2.1 : Int), .string x.2.2]]) (Below n₀) (fun ys => ys = dn c c.length)
      (fun pre => ∃ k, k ≤ c.length ∧ pre = dn c k) c.length w := fun l J Jx W hW _ _ hY h0 => by
  have hc' := (hW.cell (p := ⟨Bs, 0, none⟩) (by show Bs < w.heap.size; omega)).trans hc
  by_cases hx : c = []
  · subst hx
    obtain ⟨a, cap, rfl⟩ := hI.slice
    exact (back1_nil_in F n h7 hro l Bs a cap J W hc' h0).mono fun e W' ⟨he, hj⟩ => ⟨he, .inl ⟨_, rfl, hj⟩⟩
  · obtain ⟨g, cap, rfl, hgg, hlt, hcs⟩ := hI.cells hx
    exact back1_in F n h7 hro hn l Bs n₀ g cap c hreach (hg g hgg) J Jx hY W hc' hBs (fun k hk => ⟨(hW.cell (p := ⟨g, k * 2, none⟩) hlt).trans (hcs k hk).1, (hW.cell (p := ⟨g, k * 2 + 1, none⟩) hlt).trans (hcs k hk).2⟩) h0
end Go.Proofs.YtfcocbgdmmeikaaGreatDoor
/-! ## strings.Repeat and math/bits.Mul of the library, laid at this program: no walk; the kernel compares each body with the one that the contract was proved of. -/
namespace Go.Proofs.YtfcocbgdmmeikaaGreatDoor
open Go.Shelf Go.RowKit
def lays105_ren : Go.Shelf.Ren := ⟨fun | 105 => 80 | 212 => 79 | 99 => 107 | 165 => 108 | 166 => 64 | 170 => 109 | 169 => 68 | 263 => 105 | 264 => 106 | 206 => 121 | 240 => 92 | 241 => 122 | 276 => 113 | 277 => 125 | n => n, fun | 9 => 9 | 3 => 3 | 4 => 4 | 20 => 20 | 0 => 0 | 46 => 121 | 109 => 122 | 5 => 5 | 72 => 109 | 76 => 112 | 51 => 130 | 146 => 139 | 53 => 71 | 148 => 141 | 70 => 107 | 37 => 48 | 75 => 111 | 127 => 133 | 164 => 147 | 80 => 94 | n => n, fun | n => n⟩
theorem lays105 : Go.Proofs.Lays.n105 Tryz.prog lays105_ren := {
  mixed := by kernel_rfl
  f99 := Tryz.func107.trans (congrArg some (by kernel_rfl))
  f105 := Tryz.func80.trans (congrArg some (by kernel_rfl))
  f165 := Tryz.func108.trans (congrArg some (by kernel_rfl))
  f166 := Tryz.func64.trans (congrArg some (by kernel_rfl))
  f169 := Tryz.func68.trans (congrArg some (by kernel_rfl))
  f170 := Tryz.func109.trans (congrArg some (by kernel_rfl))
  f206 := Tryz.func121.trans (congrArg some (by kernel_rfl))
  f212 := Tryz.func79.trans (congrArg some (by kernel_rfl))
  f240 := Tryz.func92.trans (congrArg some (by kernel_rfl))
  f241 := Tryz.func122.trans (congrArg some (by kernel_rfl))
  f263 := Tryz.func105.trans (congrArg some (by kernel_rfl))
  f264 := Tryz.func106.trans (congrArg some (by kernel_rfl))
  f276 := Tryz.func113.trans (congrArg some (by kernel_rfl))
  f277 := Tryz.func125.trans (congrArg some (by kernel_rfl))
  t0 := Tryz.underlying0
  a0 := Tryz.isAgg0
  z0 := Tryz.sizeOf0
  v0 := Tryz.zeroValue0
  t3 := Tryz.underlying3
  a3 := Tryz.isAgg3
  z3 := Tryz.sizeOf3
  v3 := Tryz.zeroValue3
  t4 := Tryz.underlying4
  a4 := Tryz.isAgg4
  z4 := Tryz.sizeOf4
  v4 := Tryz.zeroValue4
  t5 := Tryz.underlying5
  a5 := Tryz.isAgg5
  z5 := Tryz.sizeOf5
  v5 := Tryz.zeroValue5
  t9 := Tryz.underlying9
  a9 := Tryz.isAgg9
  z9 := Tryz.sizeOf9
  v9 := Tryz.zeroValue9
  t20 := Tryz.underlying20
  a20 := Tryz.isAgg20
  z20 := Tryz.sizeOf20
  v20 := Tryz.zeroValue20
  t37 := Tryz.underlying48
  a37 := Tryz.isAgg48
  z37 := Tryz.sizeOf48
  v37 := Tryz.zeroValue48
  t46 := Tryz.underlying121
  a46 := Tryz.isAgg121
  z46 := Tryz.sizeOf121
  v46 := Tryz.zeroValue121
  t51 := Tryz.underlying130
  a51 := Tryz.isAgg130
  z51 := Tryz.sizeOf130
  v51 := Tryz.zeroValue130
  t53 := Tryz.underlying71
  a53 := Tryz.isAgg71
  z53 := Tryz.sizeOf71
  v53 := Tryz.zeroValue71
  t70 := Tryz.underlying107
  a70 := Tryz.isAgg107
  z70 := Tryz.sizeOf107
  v70 := Tryz.zeroValue107
  t72 := Tryz.underlying109
  a72 := Tryz.isAgg109
  z72 := Tryz.sizeOf109
  v72 := Tryz.zeroValue109
  t75 := Tryz.underlying111
  a75 := Tryz.isAgg111
  z75 := Tryz.sizeOf111
  v75 := Tryz.zeroValue111
  t76 := Tryz.underlying112
  a76 := Tryz.isAgg112
  z76 := Tryz.sizeOf112
  v76 := Tryz.zeroValue112
  t109 := Tryz.underlying122
  a109 := Tryz.isAgg122
  z109 := Tryz.sizeOf122
  v109 := Tryz.zeroValue122
  t127 := Tryz.underlying133
  a127 := Tryz.isAgg133
  z127 := Tryz.sizeOf133
  v127 := Tryz.zeroValue133
  t146 := Tryz.underlying139
  a146 := Tryz.isAgg139
  z146 := Tryz.sizeOf139
  v146 := Tryz.zeroValue139
  t148 := Tryz.underlying141
  a148 := Tryz.isAgg141
  z148 := Tryz.sizeOf141
  v148 := Tryz.zeroValue141
  t164 := Tryz.underlying147
  a164 := Tryz.isAgg147
  z164 := Tryz.sizeOf147
  v164 := Tryz.zeroValue147 }
theorem extra105 : Builder.Extra Tryz.prog lays105_ren := {
  sizeBuilder := by kernel_rfl
  liesBuilder := by kernel_rfl
  t5 := Tryz.underlying5
  a5 := Tryz.isAgg5
  z5 := Tryz.sizeOf5
  v5 := Tryz.zeroValue5
  infoByte := by kernel_rfl
  cellsByte := by kernel_rfl
  sizeByte := by kernel_rfl
  neB5 := by decide }
theorem repeat_any (s : ByteArray) (c : Nat) (w : World) (hc : c ≤ 9223372036854775807) (hlen : s.size * c ≤ 140737488355328) :
    Calls Tryz.prog 80 #[.string s, .int .i64 c] w fun e w' => e = .returned (.string ⟨(Lib.repeatL s.data.toList c).toArray⟩) ∧ Below w.heap.size w w' := Any.strings_Repeat lays105 extra105 s c w hc hlen
theorem mul_any (x y : Nat) (hx : x < 18446744073709551616) (hy : y < 18446744073709551616) (w : World) :
    Calls Tryz.prog 79 #[.int .u64 x, .int .u64 y] w fun e w' => e = .returned (.tuple #[.int .u64 (x * y / 18446744073709551616 : Nat), .int .u64 (x * y % 18446744073709551616 : Nat)]) ∧ w = w' := (Any.bits_Mul { lays105 with } x y hx hy w).mono fun _ _ ⟨he, hw⟩ => ⟨he, hw.symm⟩
end Go.Proofs.YtfcocbgdmmeikaaGreatDoor
/-! ## Package sector: bytes 0, a row of sectors, a new disk. -/
namespace Go.Proofs.YtfcocbgdmmeikaaGreatDoor
open Go.RowKit Dsk

theorem repL (c : Nat) : Lib.repeatL [(0 : UInt8)] c = List.replicate c 0 := by
  induction c with
  | zero => rfl
  | succ c ih => rw [List.replicate_succ, ← ih]; rfl
theorem zeros_any (n : Nat) (w : World) (hn : n ≤ 1000000) :
    Calls Tryz.prog 46 #[.int .i64 (n : Int)] w fun e w' => e = .returned (.string (zs n)) ∧ Below w.heap.size w w' := by
  have hr := repeat_any ⟨#[0]⟩ n w (by omega) (by show 1 * n ≤ _; omega)
  have e : (⟨(Lib.repeatL (⟨#[0]⟩ : ByteArray).data.toList n).toArray⟩ : ByteArray) = zs n := by
    show (⟨(Lib.repeatL [(0 : UInt8)] n).toArray⟩ : ByteArray) = _
    rw [repL]; rfl
  rw [e] at hr
  go_enter Tryz.func46, Tryz.ntmps46
  go_wp2_with (go_at_call 80; refine hr.mono ?_; rintro e w' ⟨rfl, hb⟩)
  go_ret
  exact ⟨rfl, hb⟩

theorem info_str3 : (Tryz.prog.info? 9).map (fun i => (i.zero, i.size, i.bytes)) = some (some (.string ⟨#[]⟩), 1, 16) := by kernel_rfl
theorem size_str1 : (Tryz.prog.info? 9).map (·.size) = some 1 := by kernel_rfl
theorem made_str (c : Nat) : madeCells (Value.string ⟨#[]⟩).cells (c * 1) = (List.replicate c (Value.string ⟨#[]⟩)).toArray := by
  apply Array.ext_getElem?
  intro i
  by_cases hi : i < c
  · simp [madeCells, hi, Value.cells, Nat.mod_one]
  · simp [madeCells, hi, Value.cells]
theorem make_strs (n : Nat) (hc : n ≤ 1000000) (w : World) : (Instr.makeSlice 30 (.int .i64 (n : Int)) (.int .i64 (n : Int))).run Tryz.prog w = .ok (.slice (some ⟨w.heap.size, 0, none⟩) n n) (w.alloc (.cells (List.replicate n (Value.string ⟨#[]⟩)).toArray 9)) := by
  obtain ⟨i0, hi, hz0, hz1, hz2⟩ := info_parts info_str3
  have hr := run_make (P := Tryz.prog) w 30 9 i0 (.string ⟨#[]⟩) Tryz.underlying30 hi hz0 .i64 .i64 n n (by omega) (by omega) (by rw [hz2]; omega) (by omega)
  rw [hz1] at hr
  simp only [Int.toNat_natCast] at hr
  rw [made_str] at hr
  exact hr
/-- A row of N texts, of which m are z, the others empty. -/
def part (z : ByteArray) (m N : Nat) : List Value := List.replicate m (.string z) ++ List.replicate (N - m) (.string ⟨#[]⟩)
theorem part_length (z : ByteArray) (m N : Nat) (h : m ≤ N) : (part z m N).length = N := by simp [part]; omega
theorem part_splice (z : ByteArray) (m N k : Nat) (h : m + k ≤ N) : splice (part z m N) m (List.replicate k (.string z)) = part z (m + k) N := by
  unfold splice part
  rw [List.take_left' (by simp), List.length_replicate, List.drop_append, List.length_replicate, List.drop_eq_nil_of_le (by simp), List.nil_append, List.drop_replicate, ← List.append_assoc, List.replicate_append_replicate]
  congr 2
  omega
theorem part_cell {w : World} {g : Nat} {z : ByteArray} {m N : Nat} {T : TypeId} (h : w.heap[g]? = some (.cells (part z m N).toArray T (0, 0))) (k : Nat) (hk : k ≤ m) : ∀ j v, (List.replicate k (Value.string z))[j]? = some v → w.cell? ((⟨g, 0, none⟩ : Addr).add j) = some v := by
  intro j v hv
  rw [Addr.add_mid, Nat.zero_add, cell_of h]
  rw [List.getElem?_replicate] at hv
  split at hv
  · rename_i hj
    cases hv
    simp only [List.getElem?_toArray, part]
    rw [List.getElem?_append_left (by simp; omega), List.getElem?_replicate, if_pos (by omega)]
  · cases hv
theorem rep_one (z : ByteArray) (k : Nat) : ∀ v ∈ List.replicate k (Value.string z), v.oneCell' = true := fun v hv => by
  rw [List.eq_of_mem_replicate hv]; rfl

set_option maxHeartbeats 1600000 in
set_option maxRecDepth 100000 in
theorem rep_any (z : ByteArray) (N b : Nat) (w : World) (h1 : 1 ≤ N) (hN : N ≤ 65536) (hb : w.cell? ⟨b, 0, none⟩ = some (.string z)) (hlt : b < w.heap.size) :
    Calls Tryz.prog 45 #[.slice (some ⟨b, 0, none⟩) 1 1, .int .i64 (N : Int)] w fun e w' => e = .returned (.slice (some ⟨w.heap.size, 0, none⟩) N N) ∧ w'.heap[w.heap.size]? = some (.cells (List.replicate N (Value.string z)).toArray 9 (0, 0)) ∧ Below w.heap.size w w' := by
  have hmul := mul_any 1 N (by decide) (by omega) w
  rw [Nat.one_mul, Nat.div_eq_of_lt (by omega), Nat.mod_eq_of_lt (by omega)] at hmul
  have hmk := make_strs N (by omega) w
  obtain ⟨W0, hW0⟩ : ∃ W0, W0 = w.alloc (.cells (List.replicate N (Value.string ⟨#[]⟩)).toArray 9) := ⟨_, rfl⟩
  rw [← hW0] at hmk
  have hB0 : Below w.heap.size w W0 := by rw [hW0]; exact (Below.refl _ _).alloc (Nat.le_refl _) _
  have hg0 : W0.heap[w.heap.size]? = some (.cells (part z 0 N).toArray 9 (0, 0)) := by
    rw [hW0, heap_alloc_last]; rfl
  have hb0 : W0.cell? ⟨b, 0, none⟩ = some (.string z) := (hB0.cell (p := ⟨b, 0, none⟩) hlt).trans hb
  clear hW0
  have q1 : (List.replicate 1 (Value.string z)).length = Nat.min 1 N := (Nat.min_eq_left h1).symm
  have q2 : ∀ j v, (List.replicate 1 (Value.string z))[j]? = some v → W0.cell? ((⟨b, 0, none⟩ : Addr).add j) = some v := fun j v hv => by
    rw [Addr.add_mid, Nat.zero_add]
    match j, hv with
    | 0, hv => simp at hv; subst hv; exact hb0
  have q3 : 0 + (List.replicate 1 (Value.string z)).length ≤ (part z 0 N).length := by rw [part_length _ _ _ (Nat.zero_le _), List.length_replicate]; omega
  have hcp := run_copy_row (P := Tryz.prog) W0 30 30 3 9 w.heap.size 0 N N ⟨b, 0, none⟩ 1 1 (part z 0 N).toArray 9 (List.replicate 1 (.string z)) Tryz.underlying30 size_str1 hg0 q1 q2 (by simpa using q3) (rep_one z 1)
  have hs0 := part_splice z 0 N 1 (by omega)
  unfold splice at hs0
  rw [← List.append_assoc] at hs0
  simp only [hs0] at hcp
  obtain ⟨w1, hw1⟩ : ∃ w1, w1 = W0.setRow w.heap.size (part z (0 + 1) N).toArray := ⟨_, rfl⟩
  rw [← hw1] at hcp
  have hg1' : w1.heap[w.heap.size]? = some (.cells (part z 1 N).toArray 9 (0, 0)) := by
    rw [hw1]; exact setRow_heap W0 w.heap.size _ _ _ _ hg0
  have hb1 : Below w.heap.size w w1 := by rw [hw1]; exact below_setRow hB0 (Nat.le_refl _) _
  clear hw1 hs0 hB0 hg0 hb0
  go_enter Tryz.func45, Tryz.ntmps45
  go_wp2_with (go_at_call 79; refine hmul.mono ?_; rintro e w' ⟨rfl, rfl⟩)
  clear hcp hmk hmul hb q1 q2 q3
  go_loopw [8] (fun i wr => ∃ m : Nat, 1 ≤ m ∧ m ≤ N ∧ i = .int .i64 m ∧ wr.heap[w.heap.size]? = some (.cells (part z m N).toArray 9 (0, 0)) ∧ Below w.heap.size w wr) (fun i _ => N - (intOf i).toNat)
  case atStart => exact ⟨1, by omega, by omega, rfl, hg1', hb1⟩
  case round =>
    obtain ⟨m, h1m, hm, rfl, hg, hbl⟩ := hrel
    clear hg1' hb1
    by_cases hlt : m < N
    · obtain ⟨k, hk⟩ : ∃ k, k = Nat.min m (N - m) := ⟨_, rfl⟩
      have hk1 : 1 ≤ k := by rw [hk]; exact Nat.le_min.2 ⟨h1m, by omega⟩
      have hk2 : k ≤ m := by rw [hk]; exact Nat.min_le_left _ _
      have hk3 : m + k ≤ N := by have : k ≤ N - m := by rw [hk]; exact Nat.min_le_right _ _
                                 omega
      have HK := Lib.hid hk
      clear hk
      have hcp := run_copy_row (P := Tryz.prog) wr.drew 30 30 3 9 w.heap.size m (N - m) (N - m) ⟨w.heap.size, 0, none⟩ m N (part z m N).toArray 9 (List.replicate k (.string z)) Tryz.underlying30 size_str1 hg (by rw [List.length_replicate]; exact HK.out) (part_cell (w := wr.drew) hg k hk2) (by simpa [part_length _ _ _ hm] using hk3) (rep_one z k)
      have hs0 := part_splice z m N k hk3
      unfold splice at hs0
      rw [← List.append_assoc] at hs0
      simp only [hs0] at hcp
      obtain ⟨w2, hw2⟩ : ∃ w2, w2 = wr.drew.setRow w.heap.size (part z (m + k) N).toArray := ⟨_, rfl⟩
      rw [← hw2, List.length_replicate] at hcp
      have hg2 : w2.heap[w.heap.size]? = some (.cells (part z (m + k) N).toArray 9 (0, 0)) := by
        rw [hw2]; exact setRow_heap wr.drew w.heap.size _ _ _ _ hg
      have hb2 : Below w.heap.size w w2 := by rw [hw2]; exact below_setRow (below_drew hbl) (Nat.le_refl _) _
      clear hw2 hs0
      go_wp2
      go_region
      go_wp2
      go_roundw
      case rel => exact ⟨m + k, by omega, hk3, by go_num, hg2, hb2⟩
      case measure => simp [intOf]; omega
    · obtain rfl : m = N := by omega
      go_wp2
      go_ret
      refine ⟨rfl, ?_, hbl⟩
      rw [hg]
      unfold part
      simp
set_option maxHeartbeats 800000 in
theorem new_disk (n : Nat) (w : World) (h1 : 1 ≤ n) (hn : n ≤ 65536) :
    Calls Tryz.prog 18 #[.int .i64 (n : Int)] w fun e w' => ∃ p bl, e = .returned (.pointer (some ⟨p, 0, none⟩)) ∧ w.heap.size ≤ p ∧ w.heap.size ≤ bl ∧ DiskAt p bl (.slice none 0 0) (Dsk.new n) w' ∧ Below w.heap.size w w' := by
  have hz := zeros_any 256 w (by decide)
  obtain ⟨Z, hZ⟩ : ∃ Z, Z = zs 256 := ⟨_, rfl⟩
  rw [← hZ, show ((256 : Nat) : Int) = 256 from rfl] at hz
  have hmx : min (max (n : Int) 1) 65536 = n := by omega
  have HZ := Lib.hid hZ
  clear hZ
  go_enter Tryz.func18, Tryz.ntmps18
  go_upto_region 2 with fail
  clear hmx
  go_wp2_with (first
    | (go_at_call 46; refine hz.mono ?_; rintro e w1 ⟨rfl, hb1⟩)
    | (go_at_call 45; refine (rep_any Z n w1.heap.size _ h1 hn (cell_of (heap_alloc_last w1 _) 0) (by simp)).mono ?_; rintro e w2 ⟨rfl, hg2, hb2⟩))
  go_ret
  have hb : Below w.heap.size w w2 := below_step (hb1.alloc hb1.size _) (Nat.le_refl _) hb2
  rw [World.size_alloc] at hg2
  have hlt : w1.heap.size + 1 < w2.heap.size := (Array.getElem?_eq_some_iff.1 hg2).1
  refine ⟨w2.heap.size, w1.heap.size + 1, rfl, hb.size, by have := hb1.size; omega, ?_, hb.alloc hb.size _⟩
  have hl : (Dsk.new n).lies.length = n := by simp [Dsk.new]
  refine ⟨?_, ?_, CacheAt.nil _, (fun x hx => by cases hx), by rw [hl]; exact hn, by simp [Dsk.new], by simp [Dsk.new], by simp [Dsk.new]⟩
  · rw [hl]; exact heap_alloc_last w2 _
  · refine (Below.heap_alloc _ _ _ hlt).trans ?_
    rw [hg2, HZ.out]
    simp [Dsk.new, zeroB]
end Go.Proofs.YtfcocbgdmmeikaaGreatDoor
/-! ## Package sector: Write: a write is put at the cache's end. -/
namespace Go.Proofs.YtfcocbgdmmeikaaGreatDoor
open Go.RowKit Dsk

theorem info_put : (Tryz.prog.info? 64).map (fun i => (i.zero, i.size, i.bytes)) = some (some (.agg #[.int .i64 0, .string ⟨#[]⟩]), 2, 24) := by kernel_rfl

theorem append_where {w : World} {ty e : TypeId} {t : TypeId} {i : TypeInfo} {z : Value} (ht : Tryz.prog.underlying t = some (.slice e)) (hi : Tryz.prog.info? e = some i) (hz : i.zero = some z) (hzs : z.cells.size = i.size) (hsz : 0 < i.size)
    (v : Value) (n : Nat) (xs : List Value) (hown : w.ownsRow 0 e i.size v n xs) (a : Addr) (m c : Nat) (news : List Value) (hl : news.length = m * i.size) (hnews : ∀ j u, news[j]? = some u → w.cell? (a.add j) = some u) (h1 : ∀ u ∈ news, u.oneCell' = true)
    (h63 : n + m ≤ maxLen) (hbytes : (n + m) * i.bytes ≤ 140737488355328) (hm : 0 < m) :
    ∃ v' w', (Builtin.append_ #[t, t] ty #[v, .slice (some a) m c]).run Tryz.prog w = .ok v' w' ∧ w'.ownsRow 0 e i.size v' (n + m) (xs ++ news) ∧ w.grownBy w' v.ownBlock ∧ ∀ k, v'.ownBlock = some k → v.ownBlock = some k ∨ w.heap.size ≤ k := by
  obtain ⟨v', w', hr, h2, h3, h4⟩ := run_append_own (P := Tryz.prog) w 0 t ty e i z i.size i.bytes ht hi hz rfl rfl hzs hsz v n xs hown a m c news hl hnews h1 h63 hbytes (Nat.zero_le _)
  have hsmall : n + m ≤ 9223372036854775807 := by simp only [maxLen] at h63; omega
  refine ⟨v', w', hr, h2, h3, fun k hk => ?_⟩
  rcases hown.2 with ⟨rfl, rfl⟩ | ⟨g, cap, cur, rfl, hbg, hg, hnc, hcm, hcs, htake⟩
  · have hr2 := run_append_nil (P := Tryz.prog) w t ty e i z ht hi hz a m c news hl hnews (by omega) (by omega) (by have hb := hbytes; simp only [Nat.zero_add] at hb; omega)
    rw [hr2] at hr
    injection hr with e1 e2
    subst e1
    simp [Value.ownBlock] at hk
    exact .inr (by omega)
  · by_cases hroom : n + m ≤ cap
    · have hfit : n * i.size + news.length ≤ cur.size := by rw [hl, hcs, ← Nat.add_mul]; exact Nat.mul_le_mul_right _ hroom
      have hr2 := run_append_room (P := Tryz.prog) w t ty e i ht hi g n cap cur hg a m c news hl hnews h1 hroom hfit
      rw [hr2] at hr
      injection hr with e1 e2
      subst e1
      simp [Value.ownBlock] at hk
      exact .inl (by simp [Value.ownBlock, hk])
    · have holds : ∀ j u, xs[j]? = some u → w.cell? ((⟨g, 0, none⟩ : Addr).add j) = some u := hown.cells (g := g) rfl
      have hr2 := run_append_grow (P := Tryz.prog) w t ty e i z ht hi hz ⟨g, 0, none⟩ n cap xs hown.1 holds a m c news hl hnews (by omega) (by omega) (growslice_fits (by omega) hbytes)
      rw [hr2] at hr
      injection hr with e1 e2
      subst e1
      simp [Value.ownBlock] at hk
      exact .inr (by omega)

theorem wpList_append_put {ops : Array Oper} {rest : List Oper} {o : Oper} {a : Act} {w : World} {Q : Exit → Act → World → Prop} (hg : o.guard = none) (s x : Operand)
    (hop : o.op = Op.call { callee := Callee.builtin Builtin.append, args := #[s, x], argTypes := #[58, 58] }) (cv : Value) (c : List (Nat × ByteArray)) (hs : a.eval s = cv) (hc : CacheAt cv c w)
    (b : Nat) (hx : a.eval x = .slice (some ⟨b, 0, none⟩) 1 1) (y : Nat × ByteArray) (h0 : w.cell? ⟨b, 0, none⟩ = some (.int .i64 (y.1 : Int))) (h1 : w.cell? ⟨b, 1, none⟩ = some (.string y.2)) (hlen : c.length < 1000000)
    (hK : ∀ cv' w', CacheAt cv' (c ++ [y]) w' → w.grownBy w' cv.ownBlock → (∀ k, cv'.ownBlock = some k → cv.ownBlock = some k ∨ w.heap.size ≤ k) → wpList Tryz.prog ops Q rest (a.put o.dst cv') w') : wpList Tryz.prog ops Q (o :: rest) a w := by
  refine wpList_plain hg fun K hK' => ?_
  obtain ⟨i0, hi, hz0, hz1, hz2⟩ := info_parts info_put
  have hc' := hc
  unfold CacheAt at hc'
  rw [← hz1] at hc'
  obtain ⟨v', w', hr, h2, h3, h4⟩ := append_where (ty := o.type) Tryz.underlying58 hi hz0 (by rw [hz1]; rfl) (by rw [hz1]; decide) cv c.length (putCs c) hc' ⟨b, 0, none⟩ 1 1 [.int .i64 (y.1 : Int), .string y.2] (by rw [hz1]; rfl)
    (fun j u hu => by
      rw [Addr.add_mid, Nat.zero_add]
      match j, hu with
      | 0, hu => simp at hu; subst hu; exact h0
      | 1, hu => simp at hu; subst hu; exact h1) (by intro u hu; simp at hu; rcases hu with rfl | rfl <;> rfl) (by unfold maxLen; omega) (by rw [hz2]; omega) (by decide)
  unfold Oper.wp
  simp [execOp, hop, resolve, invoke, builtin, hs, hx, hr, Result.andThen]
  refine hK' _ _ (hK v' w' ?_ h3 h4)
  unfold CacheAt
  rw [List.length_append, List.length_singleton, putCs_snoc, ← hz1]
  exact h2

def writeOk (d : Dk) (at_ : Int) (s : ByteArray) : Bool := hasB d.lies.length at_ && decide (s.size = 256)
def writeD (d : Dk) (at_ : Int) (s : ByteArray) : Dk := if writeOk d at_ s then Dsk.write d at_.toNat s else d
def writeE (d : Dk) (at_ : Int) (s : ByteArray) : Int := if writeOk d at_ s then err d else 1
/-- The blocks of a disk, as it goes on: those that it had, or new ones. -/
def Goes (cv cv' : Value) (w : World) : Prop := ∀ k, cv'.ownBlock = some k → cv.ownBlock = some k ∨ w.heap.size ≤ k
theorem Goes.refl (cv : Value) (w : World) : Goes cv cv w := fun _ h => .inl h
theorem Goes.nil (cv : Value) (w : World) : Goes cv (.slice none 0 0) w := fun k h => by simp [Value.ownBlock] at h
theorem Only.fr {p : Nat} {w w' : World} (h : Only p w w') {S : Nat → Prop} (hp : S p) : Fr S w w' := ⟨h.os, h.tape, h.output, h.size, fun k hk hn => h.block k hk fun e => hn (e ▸ hp)⟩

set_option maxHeartbeats 1600000 in
set_option maxRecDepth 100000 in
theorem write_disk (p bl : Nat) (cv : Value) (d : Dk) (at_ : Int) (s : ByteArray) (w : World) (h : DiskAt p bl cv d w) (hs : d.steps < 1000000) (hc : d.cache.length < 1000000) (_hz : s.size ≤ 9223372036854775807) :
    Calls Tryz.prog 81 #[.pointer (some ⟨p, 0, none⟩), .int .i64 at_, .string s] w fun e w' => ∃ cv', e = .returned (.int .i64 (writeE d at_ s)) ∧ DiskAt p bl cv' (writeD d at_ s) w' ∧ Fr (fp p bl cv) w w' ∧ Goes cv cv' w := by
  unfold writeD writeE writeOk
  cases hh : hasB d.lies.length at_ with
  | false =>
    rw [Bool.false_and, if_neg (by decide), if_neg (by decide)]
    go_enter Tryz.func81, Tryz.ntmps81
    go_wp2_with (go_at_call 90; refine (has_any _ _ _ _ _ _ h).mono ?_; rintro e w' ⟨rfl, rfl⟩; rw [hh])
    go_ret
    exact ⟨cv, rfl, h, Fr.refl _ _, Goes.refl _ _⟩
  | true =>
    rw [Bool.true_and]
    have hh' := hh
    simp only [hasB, Bool.and_eq_true, decide_eq_true_eq] at hh'
    obtain ⟨k, rfl⟩ : ∃ k : Nat, at_ = k := ⟨at_.toNat, by omega⟩
    have hk : k < d.lies.length := by omega
    rw [Int.toNat_natCast]
    by_cases h256 : s.size = 256
    · rw [decide_eq_true h256, if_pos rfl, if_pos rfl]
      have h256' : (s.size : Int) = 256 := by omega
      have hst := step_any p bl cv d w h hs
      cases hm : may d with
      | false =>
        have he : err d = 14 := by unfold err; rw [hm]; rfl
        have hd : Dsk.write d k s = Dsk.step d := by unfold Dsk.write; rw [hm]; rfl
        rw [he, hd]
        rw [he] at hst
        go_enter Tryz.func81, Tryz.ntmps81
        go_wp2_with (first
          | (go_at_call 90; refine (has_any _ _ _ _ _ _ h).mono ?_; rintro e w' ⟨rfl, rfl⟩; rw [hh])
          | (go_at_call 110; refine hst.mono ?_; rintro e w' ⟨rfl, h1, ho⟩))
        go_ret
        exact ⟨cv, rfl, h1, ho.fr (.inl rfl), Goes.refl _ _⟩
      | true =>
        have he : err d = 0 := by unfold err; rw [hm]; rfl
        have hd : Dsk.write d k s = put (Dsk.step d) k s := by unfold Dsk.write; rw [hm]; rfl
        rw [he, hd]
        rw [he] at hst
        go_enter Tryz.func81, Tryz.ntmps81
        go_upto_region 6 with (first
          | (go_at_call 90; refine (has_any _ _ _ _ _ _ h).mono ?_; rintro e w' ⟨rfl, rfl⟩; rw [hh])
          | (go_at_call 110; refine hst.mono ?_; rintro e w' ⟨rfl, h1, ho⟩))
        clear hst
        have c1 := h1.c1
        have f1 := h1.fz 1
        have hh1 := h1.head
        have hcl : (Dsk.step d).cache.length < 1000000 := by rw [step_cache]; exact hc
        have H1 := Lib.hid h1
        have HO := Lib.hid ho
        obtain ⟨ca, ccap, hcv⟩ := h1.cache.slice
        rw [hcv] at c1
        have hal : DiskAt p bl cv (Dsk.step d) (w'.alloc (.cells #[.int .i64 (k : Int), .string s] 64)) := h1.old ((Below.refl _ _).alloc (Nat.le_refl _) _)
        have hca := hal.cache
        rw [hcv] at hca
        have HA := Lib.hid hal
        clear h ho h1 hal hh hh'
        go_wp2_with (at_builtin; refine wpList_append_put rfl (.tmp 26) (.tmp 30) rfl (.slice ca (Dsk.step d).cache.length ccap) _ rfl hca w'.heap.size rfl (k, s) (cell_of (heap_alloc_last w' _) 0) (cell_of (heap_alloc_last w' _) 1) hcl ?_; intro cv' w2 hc2 hg2 hgo; obtain ⟨ca', ccap', rfl⟩ := hc2.slice; have hp2 : w2.heap[p]? = some (.cells (headC bl (Dsk.step d).lies.length cv (Dsk.step d)) 89 (0, 0)) := (hg2.block p HA.out.lt (fun e => HA.out.pc (by rw [hcv]; exact e.symm))).trans HA.out.head; have c12 : w2.cell? ⟨p, 1, none⟩ = some cv := cell_of hp2 1; have f12 := fz_of hp2 1)
        go_ret
        clear c12 f12 f1 c1
        rw [List.length_append, List.length_singleton] at hc2 hgo
        have h1 := H1.out
        have hA := HA.out
        have hnp : (Value.slice ca' ((Dsk.step d).cache.length + 1) ccap').ownBlock ≠ some p := fun e => by
          rcases hgo p e with e' | e'
          · exact h1.pc (by rw [hcv]; exact e')
          · have := h1.lt
            simp at e'
            omega
        refine ⟨_, rfl, ⟨heap_set hp2 _, ?_, ?_, ?_, h1.most, h1.left, h1.steps, ?_⟩, (((HO.out.fr (.inl rfl)).alloc _).grown hg2 (fun j e _ => .inr (.inr (by rw [hcv]; exact e)))).setCell 1 _ (fun _ => .inl rfl), fun j e => ?_⟩
        · exact (heap_far (Ne.symm h1.pl) _).trans ((hg2.block bl hA.ltl (fun e => hA.lc (by rw [hcv]; exact e.symm))).trans hA.rows)
        · exact CacheAt.kept (w := w2) hc2 fun j e => heap_far (fun e' : j = p => hnp (by rw [← e']; exact e)) _
        · intro x hx
          simp only [put, List.mem_append, List.mem_singleton] at hx
          simp only [put, step_lies]
          rcases hx with hx | rfl
          · have := h1.fit x hx; rw [step_lies] at this; exact this
          · exact hk
        · simp only [put, List.length_append, List.length_singleton]
          omega
        · rcases hgo j e with e' | e'
          · exact .inl (by rw [hcv]; exact e')
          · have := HO.out.size
            simp at e'
            exact .inr (by omega)
    · rw [decide_eq_false h256, if_neg (by decide), if_neg (by decide)]
      have h256' : ¬ (s.size : Int) = 256 := by omega
      go_enter Tryz.func81, Tryz.ntmps81
      go_wp2_with (go_at_call 90; refine (has_any _ _ _ _ _ _ h).mono ?_; rintro e w' ⟨rfl, rfl⟩; rw [hh])
      go_ret
      exact ⟨cv, rfl, h, Fr.refl _ _, Goes.refl _ _⟩
end Go.Proofs.YtfcocbgdmmeikaaGreatDoor
/-! ## Package sector: writes are settled: Flush, Crash. -/
namespace Go.Proofs.YtfcocbgdmmeikaaGreatDoor
open Go.RowKit Dsk

/-- v is a slice that reads as the numbers ps; they lie in block b. -/
def Ints (w : World) (v : Value) (ps : List Int) (b : Nat) : Prop :=
  ∃ a cap, v = .slice a ps.length cap ∧ (ps.length ≤ cap ∧ cap ≤ 9223372036854775807) ∧ (ps ≠ [] → ∃ off, a = some ⟨b, off, none⟩ ∧ b < w.heap.size ∧ ∀ j, j < ps.length → w.cell? ⟨b, off + j, none⟩ = some (.int .i64 (ps.getD j 0)))
theorem Ints.kept {w w' : World} {v : Value} {ps : List Int} {b : Nat} (h : Ints w v ps b) (hk : b < w.heap.size → b < w'.heap.size ∧ w'.heap[b]? = w.heap[b]?) : Ints w' v ps b := by
  obtain ⟨a, cap, rfl, hl, hc⟩ := h
  refine ⟨a, cap, rfl, hl, fun hn => ?_⟩
  obtain ⟨off, rfl, hb, hj⟩ := hc hn
  obtain ⟨h1, h2⟩ := hk hb
  refine ⟨off, rfl, h1, fun j h => ?_⟩
  rw [← hj j h]
  unfold World.cell?
  rw [h2]
theorem Ints.nil (w : World) (b : Nat) : Ints w (.slice none 0 0) [] b := ⟨none, 0, rfl, by decide, fun h => absurd rfl h⟩

theorem Ints.take {w : World} {a : Option Addr} {cap b : Nat} {ps : List Int} (h : Ints w (.slice a ps.length cap) ps b) (n : Nat) : Ints w (.slice a (ps.take n).length cap) (ps.take n) b := by
  obtain ⟨a', cap', e, hl, hc⟩ := h
  injection e with e1 _ e3
  subst e1
  subst e3
  have hle : (ps.take n).length ≤ ps.length := by rw [List.length_take]; omega
  refine ⟨a, cap, rfl, by omega, fun hn => ?_⟩
  obtain ⟨off, rfl, hb, hj⟩ := hc (fun e => hn (by rw [e, List.take_nil]))
  refine ⟨off, rfl, hb, fun j h => ?_⟩
  rw [hj j (by omega)]
  congr 2
  rw [List.length_take] at h
  rw [List.getD_eq_getElem?_getD, List.getD_eq_getElem?_getD, List.getElem?_take, if_pos (by omega)]
theorem picked_all (i : Int) (w : World) : Calls Tryz.prog 111 #[.int .i64 i] w fun e w' => e = .returned (.bool true) ∧ w = w' := by
  go_enter Tryz.func111, Tryz.ntmps111
  go_wp2
  go_ret
  exact ⟨rfl, rfl⟩
theorem picked_odd (i : Nat) (bx : Nat) (v : Value) (ps : List Int) (b : Nat) (w : World) (hb : w.cell? ⟨bx, 0, none⟩ = some v) (h : Ints w v ps b) :
    Calls Tryz.prog 58 #[.int .i64 (i : Int), .pointer (some ⟨bx, 0, none⟩)] w fun e w' => e = .returned (.bool (odd ps i)) ∧ w = w' := by
  obtain ⟨a, cap, rfl, hl, hc⟩ := h
  unfold odd
  by_cases hi : i < ps.length
  · rw [decide_eq_true hi, Bool.true_and]
    obtain ⟨off, rfl, hlt, hj⟩ := hc (fun e => by rw [e] at hi; simp at hi)
    have c := hj i hi
    obtain ⟨x, hx⟩ : ∃ x, x = ps.getD i 0 := ⟨_, rfl⟩
    rw [← hx] at c ⊢
    clear hx hj hc
    go_enter Tryz.func58, Tryz.ntmps58
    go_wp2
    go_ret
    refine ⟨?_, rfl⟩
    show Ending.returned (.bool _) = _
    congr 2
    by_cases hz : x.tmod 2 = 0 <;> simp [hz]
  · rw [decide_eq_false hi, Bool.false_and]
    go_enter Tryz.func58, Tryz.ntmps58
    go_wp2
    go_ret
    exact ⟨rfl, rfl⟩
theorem strs_set (l : List ByteArray) (i : Nat) (s : ByteArray) : ((l.map Value.string).toArray).setIfInBounds i (.string s) = ((l.set i s).map Value.string).toArray := by
  rw [List.setIfInBounds_toArray, List.map_set]
/-- A disk, of whose cache the first k writes are settled. -/
def mid (d : Dk) (pick : Nat → Bool) (k : Nat) : Dk := ⟨stK pick d.lies d.cache k, d.cache, d.on, d.armed, d.left, d.steps⟩
theorem mid_at {p bl : Nat} {cv : Value} {d : Dk} {pick : Nat → Bool} {k : Nat} {w w' : World} (h : DiskAt p bl cv (mid d pick k) w) (hw : w'.heap = w.heap) : DiskAt p bl cv (mid d pick k) w' := h.kept fun j _ _ => by rw [hw]
theorem mid_step {p bl : Nat} {cv : Value} {d : Dk} {pick : Nat → Bool} {k : Nat} {w w' : World} (h : DiskAt p bl cv (mid d pick k) w) (hp : pick k = true)
    (hw : w'.heap = (w.setCell ⟨bl, (cAt d.cache k).1, none⟩ (.string (cAt d.cache k).2)).heap) : DiskAt p bl cv (mid d pick (k + 1)) w' := by
  have e : stK pick d.lies d.cache (k + 1) = (stK pick d.lies d.cache k).set (cAt d.cache k).1 (cAt d.cache k).2 := by
    rw [stK, if_pos hp]
  have hn : (mid d pick (k + 1)).lies.length = (mid d pick k).lies.length := by simp only [mid, stK_length]
  refine ⟨?_, ?_, ?_, ?_, ?_, h.left, h.steps, h.writes⟩
  · rw [hw, hn]; exact (heap_far h.pl _).trans h.head
  · rw [hw]
    have := heap_set (i := (cAt d.cache k).1) h.rows (.string (cAt d.cache k).2)
    rw [strs_set] at this
    show _ = some (Obj.cells (List.map Value.string (stK pick d.lies d.cache (k + 1))).toArray _ _)
    rw [e]
    exact this
  · refine h.cache.kept fun j hj => ?_
    rw [hw]
    exact heap_far (fun e' : j = bl => h.lc (by rw [← e']; exact hj)) _
  · intro x hx; rw [hn]; exact h.fit x hx
  · rw [hn]; exact h.most
theorem mid_skip {p bl : Nat} {cv : Value} {d : Dk} {pick : Nat → Bool} {k : Nat} {w : World} (h : DiskAt p bl cv (mid d pick k) w) (hp : pick k = false) : DiskAt p bl cv (mid d pick (k + 1)) w := by
  have : mid d pick (k + 1) = mid d pick k := by
    unfold mid
    rw [stK, if_neg (by rw [hp]; decide)]
  rw [this]; exact h
/-- The cache is given up. -/
theorem mid_end {p bl : Nat} {cv : Value} {d : Dk} {pick : Nat → Bool} {w : World} (h : DiskAt p bl cv (mid d pick d.cache.length) w) : DiskAt p bl (.slice none 0 0) (Dsk.settle d pick) (w.setCell ⟨p, 1, none⟩ (.slice none 0 0)) :=
  ⟨heap_set h.head _, (heap_far (Ne.symm h.pl) _).trans h.rows, CacheAt.nil _, (fun x hx => by cases hx), h.most, h.left, h.steps, by simp [Dsk.settle]⟩

set_option maxHeartbeats 1600000 in
set_option maxRecDepth 100000 in
theorem settle_all (p bl : Nat) (cv : Value) (d : Dk) (w : World) (h : DiskAt p bl cv d w) :
    Calls Tryz.prog 57 #[.pointer (some ⟨p, 0, none⟩), .func (.func 111) #[] #[]] w fun e w' => e = .returned (.tuple #[]) ∧ DiskAt p bl (.slice none 0 0) (Dsk.settle d Dsk.all) w' ∧ Fr (fp p bl cv) w w' := by
  have c1 := h.c1
  obtain ⟨ca, ccap, hcv⟩ := h.cache.slice
  rw [hcv] at c1
  have hwr := h.writes
  have H := Lib.hid h
  clear h
  go_enter Tryz.func57, Tryz.ntmps57
  go_wp2
  go_loopw [11] (fun i wr => ∃ k : Nat, k ≤ d.cache.length ∧ i = .int .i64 k ∧ DiskAt p bl cv (mid d Dsk.all k) wr ∧ Fr (fun j => j = bl) w wr) (fun i _ => d.cache.length - (intOf i).toNat)
  case atStart => exact ⟨0, Nat.zero_le _, rfl, H.out, Fr.refl _ _⟩
  case round =>
    obtain ⟨k, hk, rfl, hd, hf⟩ := hrel
    by_cases hlt : k < d.cache.length
    · obtain ⟨g, cap, hcv', hgb, hglt, hcs⟩ := hd.cache.cells (fun e => by have e' : d.cache = [] := e; rw [e'] at hlt; simp at hlt)
      rw [hcv] at hcv'
      injection hcv' with e1 e2 e3
      subst e1
      subst e3
      clear e2
      obtain ⟨x0, x1⟩ := hcs k hlt
      have hfit := hd.fit _ (cAt_lt d.cache k hlt)
      have hpl := hd.pl
      obtain ⟨y, hy⟩ : ∃ y, y = cAt d.cache k := ⟨_, rfl⟩
      rw [show cAt (mid d Dsk.all k).cache k = y from hy.symm] at x0 x1
      rw [← hy] at hfit
      obtain ⟨ya, ys⟩ := y
      simp only at x0 x1 hfit
      have hlen : (mid d Dsk.all k).lies.length = d.lies.length := by simp only [mid, stK_length]
      have hB : Below wr.heap.size wr (wr.alloc (.cells #[.int .i64 (ya : Int), .string ys] 64)) := (Below.refl _ _).alloc (Nat.le_refl _) _
      have hd' := hd.old hB
      have hf' : Fr (fun j => j = bl) w (wr.alloc (.cells #[.int .i64 (ya : Int), .string ys] 64)) := hf.alloc _
      have hnew := heap_alloc_last wr (.cells #[.int .i64 (ya : Int), .string ys] 64)
      have hHY := Lib.hid hy
      clear hcs hgb hglt hy hB
      obtain ⟨wa, hwa⟩ : ∃ wa, wa = wr.alloc (.cells #[.int .i64 (ya : Int), .string ys] 64) := ⟨_, rfl⟩
      rw [← hwa] at hd' hf' hnew
      have hwsz : wr.heap.size < wa.heap.size := by rw [hwa]; simp
      go_upto_region 3 with fail
      rw [← hwa]
      clear hwa x0 x1
      have a0 := hd'.c0
      have n0 : wa.cell? ⟨wr.heap.size, 0, none⟩ = some (.int .i64 (ya : Int)) := cell_of hnew 0
      have n1 : wa.cell? ⟨wr.heap.size, 1, none⟩ = some (.string ys) := cell_of hnew 1
      have r0 := hd'.row ya hfit
      have fr := hd'.fzl ya
      rw [hlen] at a0
      rw [hlen] at hfit
      have HD := Lib.hid hd'
      have HF := Lib.hid hf'
      have HD0 := Lib.hid hd
      clear hd' hf' hd hf hnew
      go_wp2_with (go_at_call 111; refine (picked_all _ _).mono ?_; rintro e w' ⟨rfl, rfl⟩)
      go_region
      go_wp2
      go_roundw
      case rel =>
        have hy : (ya, ys) = cAt d.cache k := hHY.out
        exact ⟨k + 1, by omega, by go_num, mid_step HD.out rfl (by rw [← hy]; rfl), (HF.out.setCell ya (.string ys) (fun _ => rfl)).drew⟩
      case measure => simp [intOf]; omega
    · obtain rfl : k = d.cache.length := by omega
      have d1 := hd.c1
      have f1 := hd.fz 1
      rw [hcv] at d1
      go_wp2
      go_end0
      exact ⟨rfl, mid_end hd, (hf.mono fun j _ e => .inr (.inl e)).setCell 1 _ fun _ => .inl rfl⟩

set_option maxHeartbeats 1600000 in
set_option maxRecDepth 100000 in
theorem settle_odd (p bl : Nat) (cv : Value) (d : Dk) (w : World) (h : DiskAt p bl cv d w) (bx : Nat) (v : Value) (ps : List Int) (b : Nat) (hbx : w.cell? ⟨bx, 0, none⟩ = some v) (hbx1 : bx < w.heap.size) (hbx2 : bx ≠ bl) (hps : Ints w v ps b) (hb : b < w.heap.size → b ≠ bl) :
    Calls Tryz.prog 57 #[.pointer (some ⟨p, 0, none⟩), .func (.func 58) #[] #[.pointer (some ⟨bx, 0, none⟩)]] w fun e w' => e = .returned (.tuple #[]) ∧ DiskAt p bl (.slice none 0 0) (Dsk.settle d (odd ps)) w' ∧ Fr (fp p bl cv) w w' := by
  have c1 := h.c1
  obtain ⟨ca, ccap, hcv⟩ := h.cache.slice
  rw [hcv] at c1
  have hwr := h.writes
  have H := Lib.hid h
  clear h
  go_enter Tryz.func57, Tryz.ntmps57
  go_wp2
  go_loopw [11] (fun i wr => ∃ k : Nat, k ≤ d.cache.length ∧ i = .int .i64 k ∧ DiskAt p bl cv (mid d (odd ps) k) wr ∧ Fr (fun j => j = bl) w wr) (fun i _ => d.cache.length - (intOf i).toNat)
  case atStart => exact ⟨0, Nat.zero_le _, rfl, H.out, Fr.refl _ _⟩
  case round =>
    obtain ⟨k, hk, rfl, hd, hf⟩ := hrel
    by_cases hlt : k < d.cache.length
    · obtain ⟨g, cap, hcv', hgb, hglt, hcs⟩ := hd.cache.cells (fun e => by have e' : d.cache = [] := e; rw [e'] at hlt; simp at hlt)
      rw [hcv] at hcv'
      injection hcv' with e1 e2 e3
      subst e1
      subst e3
      clear e2
      obtain ⟨x0, x1⟩ := hcs k hlt
      have hfit := hd.fit _ (cAt_lt d.cache k hlt)
      have hpl := hd.pl
      obtain ⟨y, hy⟩ : ∃ y, y = cAt d.cache k := ⟨_, rfl⟩
      rw [show cAt (mid d (odd ps) k).cache k = y from hy.symm] at x0 x1
      rw [← hy] at hfit
      obtain ⟨ya, ys⟩ := y
      simp only at x0 x1 hfit
      have hlen : (mid d (odd ps) k).lies.length = d.lies.length := by simp only [mid, stK_length]
      have hB : Below wr.heap.size wr (wr.alloc (.cells #[.int .i64 (ya : Int), .string ys] 64)) := (Below.refl _ _).alloc (Nat.le_refl _) _
      have hd' := hd.old hB
      have hf' : Fr (fun j => j = bl) w (wr.alloc (.cells #[.int .i64 (ya : Int), .string ys] 64)) := hf.alloc _
      have hnew := heap_alloc_last wr (.cells #[.int .i64 (ya : Int), .string ys] 64)
      have hHY := Lib.hid hy
      clear hcs hgb hglt hy hB
      have hpick : Calls Tryz.prog 58 #[.int .i64 (k : Int), .pointer (some ⟨bx, 0, none⟩)] (wr.alloc (.cells #[.int .i64 (ya : Int), .string ys] 64)) fun e w' => e = .returned (.bool (odd ps k)) ∧ (wr.alloc (.cells #[.int .i64 (ya : Int), .string ys] 64)) = w' := by
        refine picked_odd k bx v ps b _ ((hf'.cell hbx1 hbx2).trans hbx) (hps.kept fun hlt => ⟨Nat.lt_of_lt_of_le hlt hf'.size, hf'.block b hlt (hb hlt)⟩)
      obtain ⟨wa, hwa⟩ : ∃ wa, wa = wr.alloc (.cells #[.int .i64 (ya : Int), .string ys] 64) := ⟨_, rfl⟩
      rw [← hwa] at hd' hf' hnew hpick
      have hwsz : wr.heap.size < wa.heap.size := by rw [hwa]; simp
      go_upto_region 3 with fail
      rw [← hwa]
      clear hwa x0 x1
      have a0 := hd'.c0
      have n0 : wa.cell? ⟨wr.heap.size, 0, none⟩ = some (.int .i64 (ya : Int)) := cell_of hnew 0
      have n1 : wa.cell? ⟨wr.heap.size, 1, none⟩ = some (.string ys) := cell_of hnew 1
      have r0 := hd'.row ya hfit
      have fr := hd'.fzl ya
      rw [hlen] at a0
      rw [hlen] at hfit
      have HD := Lib.hid hd'
      have HF := Lib.hid hf'
      have HD0 := Lib.hid hd
      clear hd' hf' hd hf hnew
      cases hp : odd ps k with
      | true =>
        go_wp2_with (go_at_call 58; refine hpick.mono ?_; rintro e w' ⟨rfl, rfl⟩; rw [hp])
        go_region
        go_wp2
        go_roundw
        case rel =>
          have hy : (ya, ys) = cAt d.cache k := hHY.out
          exact ⟨k + 1, by omega, by go_num, mid_step HD.out hp (by rw [← hy]; rfl), (HF.out.setCell ya (.string ys) (fun _ => rfl)).drew⟩
        case measure => simp [intOf]; omega
      | false =>
        go_wp2_with (go_at_call 58; refine hpick.mono ?_; rintro e w' ⟨rfl, rfl⟩; rw [hp])
        go_roundw
        case rel => exact ⟨k + 1, by omega, by go_num, mid_skip HD.out hp, HF.out⟩
        case measure => simp [intOf]; omega
    · obtain rfl : k = d.cache.length := by omega
      have d1 := hd.c1
      have f1 := hd.fz 1
      rw [hcv] at d1
      go_wp2
      go_end0
      exact ⟨rfl, mid_end hd, (hf.mono fun j _ e => .inr (.inl e)).setCell 1 _ fun _ => .inl rfl⟩

theorem flush_disk (p bl : Nat) (cv : Value) (d : Dk) (w : World) (h : DiskAt p bl cv d w) (hs : d.steps < 1000000) :
    Calls Tryz.prog 82 #[.pointer (some ⟨p, 0, none⟩)] w fun e w' => ∃ cv', e = .returned (.int .i64 (err d)) ∧ DiskAt p bl cv' (Dsk.flush d) w' ∧ Fr (fp p bl cv) w w' ∧ Goes cv cv' w := by
  have hst := step_any p bl cv d w h hs
  cases hm : may d with
  | false =>
    have he : err d = 14 := by unfold err; rw [hm]; rfl
    have hd : Dsk.flush d = Dsk.step d := by unfold Dsk.flush; rw [hm]; rfl
    rw [he, hd]
    rw [he] at hst
    go_enter Tryz.func82, Tryz.ntmps82
    go_wp2_with (go_at_call 110; refine hst.mono ?_; rintro e w' ⟨rfl, h1, ho⟩)
    go_ret
    exact ⟨cv, rfl, h1, ho.fr (.inl rfl), Goes.refl _ _⟩
  | true =>
    have he : err d = 0 := by unfold err; rw [hm]; rfl
    have hd : Dsk.flush d = Dsk.settle (Dsk.step d) Dsk.all := by unfold Dsk.flush; rw [hm]; rfl
    rw [he, hd]
    rw [he] at hst
    go_enter Tryz.func82, Tryz.ntmps82
    go_wp2_with (first
      | (go_at_call 110; refine hst.mono ?_; rintro e w' ⟨rfl, h1, ho⟩)
      | (go_at_call 57; refine (settle_all _ _ _ _ _ h1).mono ?_; rintro e w2 ⟨rfl, h2, hf⟩))
    go_ret
    exact ⟨_, rfl, h2, (ho.fr (.inl rfl)).trans hf, Goes.nil _ _⟩
set_option maxHeartbeats 800000 in
theorem crash_disk (p bl : Nat) (cv : Value) (d : Dk) (w : World) (h : DiskAt p bl cv d w) (v : Value) (ps : List Int) (b : Nat) (hps : Ints w v ps b) (hb : b < w.heap.size → b ≠ bl) :
    Calls Tryz.prog 23 #[.pointer (some ⟨p, 0, none⟩), v] w fun e w' => e = .returned (.tuple #[]) ∧ DiskAt p bl (.slice none 0 0) (Dsk.crash d (odd ps)) w' ∧ Fr (fp p bl cv) w w' := by
  have hps' := hps
  obtain ⟨a, cap, rfl, hl, hc⟩ := hps'
  have hB : Below w.heap.size w (w.alloc (.cells #[.slice a ps.length cap] 23)) := (Below.refl _ _).alloc (Nat.le_refl _) _
  have hset := settle_odd p bl cv d _ (h.old hB) w.heap.size (.slice a ps.length cap) ps b (cell_of (heap_alloc_last w _) 0) (by simp) (by have := h.ltl; omega) (hps.kept fun hlt => ⟨by simp; omega, hB.block b hlt⟩) (fun hlt => by
    by_cases e : b < w.heap.size
    · exact hb e
    · have := h.ltl
      omega)
  clear hc hps
  go_enter Tryz.func23, Tryz.ntmps23
  go_upto_region 3 with (go_at_call 57; refine hset.mono ?_; rintro e w2 ⟨rfl, h2, hf⟩)
  have c2 := h2.c2
  have c3 := h2.c3
  have f2 := h2.fz 2
  have f3 := h2.fz 3
  have hm2 := h2.most
  have hh2 := h2.head
  have H2 := Lib.hid h2
  have hn : (Dsk.settle d (odd ps)).lies.length = d.lies.length := by simp only [Dsk.settle, stK_length]
  go_wp2_with (go_at_call 59; refine (sectors_any _ _ _ _ _ h2).mono ?_; rintro e w' ⟨rfl, rfl⟩)
  go_end0
  have ho : Only p w2 ((w2.setCell ⟨p, 2, none⟩ (.bool (decide (0 < d.lies.length)))).setCell ⟨p, 3, none⟩ (.bool false)) := ((Only.refl _ _).setCell _ _).setCell _ _
  exact ⟨rfl, DiskAt.rehead (d' := Dsk.crash d (odd ps)) H2.out ho (heap_set (heap_set hh2 _) _) rfl rfl H2.out.left H2.out.steps, ((Fr.of_below hB).trans hf).trans (ho.fr (.inl rfl))⟩
end Go.Proofs.YtfcocbgdmmeikaaGreatDoor
/-! ## Package sector: what the last write of a sector is, and Read. -/
namespace Go.Proofs.YtfcocbgdmmeikaaGreatDoor
open Go.RowKit Go.Shelf Dsk

attribute [local go_sem] Oper.semAt_some

theorem cells_own {β : Type} (B b : Nat) (C : Array Value) (T : TypeId) (fr : Nat × Nat) : OwnFrom B (fun (_ : β) W => W.heap[b]? = some (.cells C T fr)) := by
  intro s W W' row hs hg hr
  refine (hg.block b (Array.getElem?_eq_some_iff.1 hs).1 fun e => ?_).trans hs
  obtain ⟨_, o, ho, hc⟩ := hr b e.symm
  rw [hs] at ho
  cases ho
  cases hc
theorem rd_dn (L : List ByteArray) (c : List (Nat × ByteArray)) (a : Nat) : ∀ j, j ≤ c.length → (∀ y ∈ dn c j, y.2.1 ≠ a) → rdK L c a c.length = rdK L c a (c.length - j)
  | 0, _, _ => rfl
  | j + 1, hj, h => by
    rw [rd_dn L c a j (by omega) (fun y hy => h y (by rw [dn_succ]; exact List.mem_append_left _ hy))]
    have hne := h (c.length - 1 - j, cAt c (c.length - 1 - j)) (by rw [dn_succ]; simp)
    rw [show c.length - j = (c.length - 1 - j) + 1 by omega, show c.length - (j + 1) = c.length - 1 - j by omega]
    conv => lhs; unfold rdK
    rw [if_neg hne]
theorem rd_hit (L : List ByteArray) (c : List (Nat × ByteArray)) (a k : Nat) (hk : k ≤ c.length) (ini : List (Nat × (Nat × ByteArray))) (x : Nat × (Nat × ByteArray)) (e : dn c k = ini ++ [x]) (h : ∀ y ∈ ini, y.2.1 ≠ a) (hx : x.2.1 = a) : rdK L c a c.length = x.2.2 := by
  cases k with
  | zero => simp [dn] at e
  | succ j =>
    rw [dn_succ] at e
    obtain ⟨rfl, e2⟩ := List.append_inj' e rfl
    have e3 : (c.length - 1 - j, cAt c (c.length - 1 - j)) = x := by simpa using e2
    subst e3
    rw [rd_dn L c a j (by omega) h, show c.length - j = (c.length - 1 - j) + 1 by omega]
    conv => lhs; unfold rdK
    rw [if_pos hx]
theorem ownFrom_pure' {β : Type} {B : Nat} (p : β → Prop) : OwnFrom B (fun s (_ : World) => p s) := fun _ _ _ _ hs _ _ => hs

set_option maxRecDepth 100000 in
set_option maxHeartbeats 2000000 in
theorem last_any (p bl : Nat) (cv : Value) (d : Dk) (a : Nat) (w : World) (h : DiskAt p bl cv d w) (ha : a < d.lies.length) :
    Calls Tryz.prog 91 #[.pointer (some ⟨p, 0, none⟩), .int .i64 (a : Int)] w fun e w' => e = .returned (.string (Dsk.read d a)) ∧ Below w.heap.size w w' := by
  have h1 := h.c1
  obtain ⟨ca, ccap, hcv⟩ := h.cache.slice
  have H := Lib.hid h
  refine (callsIn_wide (n := 3)).1 ?_
  refine callsIn_of_wp_marks Tryz.func91 rfl trivial ?_ rfl
  simp only [Tryz.ntmps91, List.size_toArray, List.length_cons, List.length_nil, Nat.reduceAdd, Nat.reduceSub, Array.replicate_succ, Array.replicate_zero, List.push_toArray, List.append_toArray, List.nil_append, List.cons_append]
  refine wpIn_wide.2 ?_
  go_wp2
  go_step3
  have h1' : ((w.alloc (.cells #[.int .i64 (a : Int)] 3)).alloc (.cells #[.string ⟨#[]⟩] 9)).cell? ⟨p, 1, none⟩ = some (.slice ca d.cache.length ccap) := by
    rw [← hcv, ← h1]
    exact (((Below.refl w.heap.size w).alloc (Nat.le_refl _) _).alloc (by simp) _).cell (p := ⟨p, 1, none⟩) h.lt
  go_wp2
  go_step3
  go_wp2_with (go_at_call 112; refine ((callsIn_wide (n := 3)).1 (back_in Fence.wide 3 trivial rfl _ _ _ _)).mono ?_; rintro e w' ⟨rfl, rfl⟩)
  obtain ⟨W0, hW0⟩ : ∃ W0, W0 = ((w.alloc (.cells #[.int .i64 (a : Int)] 3)).alloc (.cells #[.string ⟨#[]⟩] 9)).alloc (.cells #[.slice ca d.cache.length ccap] 58) := ⟨_, rfl⟩
  have hsz : W0.heap.size = w.heap.size + 3 := by rw [hW0]; simp
  have hB0 : Below w.heap.size w W0 := by
    rw [hW0]; exact (((Below.refl _ w).alloc (Nat.le_refl _) _).alloc (by simp) _).alloc (by simp; omega) _
  have b3 : W0.heap[w.heap.size]? = some (.cells #[.int .i64 (a : Int)] 3 (0, 0)) := by
    rw [hW0]; exact (Below.heap_alloc _ _ _ (by simp; omega)).trans ((Below.heap_alloc _ _ _ (by simp)).trans (World.alloc_heap_new w _))
  have b4 : W0.heap[w.heap.size + 1]? = some (.cells #[.string ⟨#[]⟩] 9 (0, 0)) := by
    rw [hW0]; refine (Below.heap_alloc _ _ _ (by simp)).trans ?_
    have := World.alloc_heap_new (w.alloc (.cells #[.int .i64 (a : Int)] 3)) (.cells #[.string ⟨#[]⟩] 9)
    rwa [World.size_alloc] at this
  have b5 : W0.heap[w.heap.size + 1 + 1]? = some (.cells #[.slice ca d.cache.length ccap] 58 (0, 0)) := by
    rw [hW0]
    have := World.alloc_heap_new ((w.alloc (.cells #[.int .i64 (a : Int)] 3)).alloc (.cells #[.string ⟨#[]⟩] 9)) (.cells #[.slice ca d.cache.length ccap] 58)
    rwa [World.size_alloc, World.size_alloc] at this
  rw [← hW0]
  clear hW0 h1'
  have hca : CacheAt (.slice ca d.cache.length ccap) d.cache W0 := by
    have := h.cache
    rw [hcv] at this
    exact this.kept fun k hk => hB0.block k (by have := World.ownsRow.lt this k hk; exact this.2)
  have hcg : ∀ k, (Value.slice ca d.cache.length ccap).ownBlock = some k → k < W0.heap.size := fun k hk => (World.ownsRow.lt hca k hk).2
  refine (wpIn_wide (n := 3)).1 ?_
  refine wpIn_rangeFunc_ownH rfl (by omega) (gf := 123) (lb := #[.pointer (some ⟨w.heap.size + 1 + 1, 0, none⟩)]) rfl trivial (enters_of Tryz.func123 (by kernel_rfl) rfl)
    (back_stops Fence.wide 2 trivial rfl (by omega) (w.heap.size + 1 + 1) W0.heap.size _ d.cache h.writes W0 (by omega) (Nat.le_refl _) (cell_of b5 0) hca hcg) belowK_t (belowK_b (Nat.le_refl _)) (Below.refl _ _) (fun _ => rfl)
    (fun pre W => ((∀ y ∈ pre, y.2.1 ≠ a) ∧ W.heap[w.heap.size]? = some (.cells #[.int .i64 (a : Int)] 3 (0, 0)) ∧ W.heap[w.heap.size + 1]? = some (.cells #[.string ⟨#[]⟩] 9 (0, 0))) ∧ Below w.heap.size w W ∧ W0.heap.size ≤ W.heap.size)
    (fun c pre W => (c = .ret ∧ (∃ ini last, pre = ini ++ [last] ∧ (∀ y ∈ ini, y.2.1 ≠ a) ∧ last.2.1 = a ∧ W.heap[w.heap.size + 1]? = some (.cells #[.string last.2.2] 9 (0, 0)))) ∧ Below w.heap.size w W)
    (OwnFrom.and (OwnFrom.and (ownFrom_pure' _) (OwnFrom.and (cells_own _ _ _ _ _) (cells_own _ _ _ _ _))) (OwnFrom.and (ownFrom_below (Nat.le_refl _) (by omega)) (fun s A B row hs hg hr => Nat.le_trans hs hg.size)))
    (fun c => OwnFrom.and (fun s A B row hs hg hr => by obtain ⟨hc, ini, last, e1, e2, e3, e4⟩ := hs; exact ⟨hc, ini, last, e1, e2, e3, cells_own (β := Unit) _ _ _ _ _ () A B row e4 hg hr⟩) (ownFrom_below (Nat.le_refl _) (by omega)))
    ⟨⟨by simp, b3, b4⟩, hB0, Nat.le_refl _⟩
    (fun x a' W => ∃ Bx, w.heap.size + 1 < Bx ∧ W.heap[Bx]? = some (.cells #[.int .i64 (x.2.1 : Int), .string x.2.2] 64 (0, 0)) ∧ a' = { tmps := #[.pointer (some ⟨p, 0, none⟩), .int .i64 (a : Int), undef, .pointer (some ⟨w.heap.size, 0, none⟩), .pointer (some ⟨w.heap.size + 1, 0, none⟩), undef, .pointer (some ⟨Bx, 0, none⟩), .pointer (some ⟨p, 0, none⟩), .pointer (some ⟨p, 0, none⟩), .pointer (some ⟨p, 1, none⟩), .slice ca d.cache.length ccap, .func (.func 123) #[] #[.pointer (some ⟨w.heap.size + 1 + 1, 0, none⟩)], .int .i64 (x.1 : Int), .agg #[.int .i64 (x.2.1 : Int), .string x.2.2], undef, undef, undef, undef, undef, undef, undef, undef, undef, undef, undef, undef, undef], defers := [] })
    (fun x a' s A B row hs hg hr => by obtain ⟨Bx, e1, e2, e3⟩ := hs; exact ⟨Bx, e1, cells_own (β := Unit) _ _ _ _ _ () A B row e2 hg hr, e3⟩) ?assign ?body ?done ?stop
  case assign =>
    rintro l pre x W K ⟨⟨hp, hb3, hb4⟩, hB, hS⟩ hK
    have hlt : w.heap.size + 1 < W.heap.size := (Array.getElem?_eq_some_iff.1 hb4).1
    gi_wp2
    exact hK _ _ ((KeepsOthers.alloc _ _).from _) ((Below.refl _ W).alloc hS _) ⟨⟨hp, (Below.heap_alloc _ _ _ (by omega)).trans hb3, (Below.heap_alloc _ _ _ hlt).trans hb4⟩, hB.alloc hB.size _, by simp; omega⟩ ⟨W.heap.size, hlt, World.alloc_heap_new W _, rfl⟩
  case body =>
    rintro l pre x a' W hl ⟨r, hr⟩ ⟨⟨hp, hb3, hb4⟩, hB, hS⟩ ⟨Bx, hBx, bX, rfl⟩ hlt
    have c3 : W.cell? ⟨w.heap.size, 0, none⟩ = some (.int .i64 (a : Int)) := cell_of hb3 0
    have c4 : W.cell? ⟨w.heap.size + 1, 0, none⟩ = some (.string ⟨#[]⟩) := cell_of hb4 0
    have f4 : W.frozen? ⟨w.heap.size + 1, 0, none⟩ = false := fz_of hb4 0
    have x0 : W.cell? ⟨Bx, 0, none⟩ = some (.int .i64 (x.2.1 : Int)) := cell_of bX 0
    have x1 : W.cell? ⟨Bx, 1, none⟩ = some (.string x.2.2) := cell_of bX 1
    gi_wp2
    · rename_i hx
      have hx' : x.2.1 ≠ a := fun e => by rw [e] at hx; simp at hx
      exact ⟨KeepsFrom.refl _ _, Below.refl _ _, ⟨fun y hy => (List.mem_append.1 hy).elim (hp y) (fun e => by simp at e; subst e; exact hx'), hb3, hb4⟩, hB, hS⟩
    · rename_i hx
      have hx' : x.2.1 = a := by
        have h' : ((x.2.1 : Nat) : Int) = (a : Int) := by simpa using hx
        omega
      exact ⟨(KeepsOthers.setCell _ _ _).from _, ⟨rfl, pre, x, rfl, hp, hx', heap_set hb4 _⟩, hB.setCell (p := ⟨w.heap.size + 1, 0, none⟩) (by simp) _⟩
  case stop =>
    rintro D c pre W hD ⟨k, hk, rfl⟩ ⟨⟨rfl, ini, last, e1, e2, e3, hb4⟩, hB⟩ hK
    gi_wp2
    rw [Exit.noGoto_ret]
    refine ⟨by simp, .inl ⟨_, _, rfl, run_takeDeferred hK, ?_⟩⟩
    have hc5 := cell_kept (cell_of hb4 0) (grownBy_putObj' _ D (.deferred none)) (fun r e => by cases e; exact ⟨_, hK, rfl⟩)
    refine ⟨.string last.2.2, ?_, by rw [← rd_hit d.lies d.cache a k hk ini last e1 e2 e3]; rfl, hB.trans (belowK_b (w := w) (Nat.le_refl _) W D _ _ (by omega) hK rfl rfl)⟩
    simp [results, Tryz.f91, go_sem, hc5]
  case done =>
    rintro D ys W hD rfl ⟨⟨hne, hb3, hb4⟩, hB, hS⟩ hK
    have hrd : Dsk.read d a = d.lies.getD a .empty := by
      unfold Dsk.read
      rw [rd_dn d.lies d.cache a _ (Nat.le_refl _) hne, Nat.sub_self]
      rfl
    have hd : DiskAt p bl cv d W := h.old hB
    have c0 := hd.c0
    have cr := hd.row a ha
    have c3 : W.cell? ⟨w.heap.size, 0, none⟩ = some (.int .i64 (a : Int)) := cell_of hb3 0
    have c4 : W.cell? ⟨w.heap.size + 1, 0, none⟩ = some (.string ⟨#[]⟩) := cell_of hb4 0
    have f4 : W.frozen? ⟨w.heap.size + 1, 0, none⟩ = false := fz_of hb4 0
    obtain ⟨S, hS'⟩ : ∃ S, S = d.lies.getD a .empty := ⟨_, rfl⟩
    rw [← hS'] at cr hrd
    clear hS' hne hd
    gi_wp2
    go_wp2
    go_region
    go_wp2
    rw [Exit.noGoto_ret]
    have hK' : (W.setCell ⟨w.heap.size + 1, 0, none⟩ (.string S)).drew.heap[D]? = some (.deferred (some [])) := (KeepsOthers.setCell W ⟨w.heap.size + 1, 0, none⟩ (.string S)).same D _ hK rfl
    refine ⟨by simp, .inl ⟨_, _, rfl, run_takeDeferred hK', ?_⟩⟩
    have hb5 : (W.setCell ⟨w.heap.size + 1, 0, none⟩ (.string S)).drew.heap[w.heap.size + 1]? = some (.cells #[.string S] 9 (0, 0)) := heap_set hb4 _
    have hc5 := cell_kept (cell_of hb5 0) (grownBy_putObj' _ D (.deferred none)) (fun r e => by cases e; exact ⟨_, hK', rfl⟩)
    refine ⟨.string S, ?_, by rw [hrd], (below_drew (hB.setCell (p := ⟨w.heap.size + 1, 0, none⟩) (by simp) (.string S))).trans (belowK_b (w := w) (Nat.le_refl _) _ D _ _ (by omega) hK' rfl rfl)⟩
    simp [results, Tryz.f91, go_sem, hc5]

/-- What Read tells: the text, and the error. -/
def readS (d : Dk) (at_ : Int) : ByteArray := if hasB d.lies.length at_ && d.on then Dsk.read d at_.toNat else ⟨#[]⟩
def readE (d : Dk) (at_ : Int) : Int := if hasB d.lies.length at_ then (if d.on then 0 else 14) else 1
theorem read_disk (p bl : Nat) (cv : Value) (d : Dk) (at_ : Int) (w : World) (h : DiskAt p bl cv d w) :
    Calls Tryz.prog 63 #[.pointer (some ⟨p, 0, none⟩), .int .i64 at_] w fun e w' => e = .returned (.tuple #[.string (readS d at_), .int .i64 (readE d at_)]) ∧ Below w.heap.size w w' := by
  have h2 := h.c2
  unfold readS readE
  by_cases hh : hasB d.lies.length at_ = true
  · have hh' := hh
    simp only [hasB, Bool.and_eq_true, decide_eq_true_eq] at hh'
    obtain ⟨k, rfl⟩ : ∃ k : Nat, at_ = k := ⟨at_.toNat, by omega⟩
    have hk : k < d.lies.length := by omega
    rw [hh, Bool.true_and, if_pos rfl, Int.toNat_natCast]
    cases hon : d.on with
    | false =>
      rw [hon] at h2
      go_enter Tryz.func63, Tryz.ntmps63
      go_wp2_with (go_at_call 90; refine (has_any _ _ _ _ _ _ h).mono ?_; rintro e w' ⟨rfl, rfl⟩; rw [hh])
      go_ret2
      exact ⟨rfl, Below.refl _ _⟩
    | true =>
      rw [hon] at h2
      obtain ⟨S, hS⟩ : ∃ S, S = Dsk.read d k := ⟨_, rfl⟩
      have hl := last_any p bl cv d k w h hk
      rw [← hS] at hl ⊢
      clear hS
      go_enter Tryz.func63, Tryz.ntmps63
      go_wp2_with (first
        | (go_at_call 90; refine (has_any _ _ _ _ _ _ h).mono ?_; rintro e w' ⟨rfl, rfl⟩; rw [hh])
        | (go_at_call 91; refine hl.mono ?_; rintro e w' ⟨rfl, hb⟩))
      go_ret2
      exact ⟨rfl, hb⟩
  · have hh' : hasB d.lies.length at_ = false := by simpa using hh
    rw [hh', Bool.false_and]
    go_enter Tryz.func63, Tryz.ntmps63
    go_wp2_with (go_at_call 90; refine (has_any _ _ _ _ _ _ h).mono ?_; rintro e w' ⟨rfl, rfl⟩; rw [hh'])
    go_ret2
    exact ⟨rfl, Below.refl _ _⟩
end Go.Proofs.YtfcocbgdmmeikaaGreatDoor
/-! ## One disk whose blocks lie from B on: what each call does to it, and what it keeps. -/
namespace Go.Proofs.YtfcocbgdmmeikaaGreatDoor
open Go.RowKit Dsk

/-- Block p is a disk whose blocks lie from B on. -/
def DiskIn (B p : Nat) (d : Dk) (w : World) : Prop := B ≤ p ∧ ∃ bl cv, B ≤ bl ∧ (∀ k, cv.ownBlock = some k → B ≤ k) ∧ DiskAt p bl cv d w
/-- Nothing below B has turned, nor any block that is of no disk. -/
structure FrT (B : Nat) (w w' : World) : Prop where
  below : Below B w w'
  other : ∀ (k : Nat) (C : Array Value) (T : TypeId) (fr : Nat × Nat), w.heap[k]? = some (Obj.cells C T fr) → T ≠ 89 → T ≠ 9 → T ≠ 64 → w'.heap[k]? = w.heap[k]?
theorem FrT.refl (B : Nat) (w : World) : FrT B w w := ⟨Below.refl _ _, fun _ _ _ _ _ _ _ _ => rfl⟩
theorem FrT.trans {B : Nat} {u v w : World} (h : FrT B u v) (k : FrT B v w) : FrT B u w :=
  ⟨h.below.trans k.below, fun i C T fr hi h1 h2 h3 => (k.other i C T fr ((h.other i C T fr hi h1 h2 h3).trans hi) h1 h2 h3).trans (h.other i C T fr hi h1 h2 h3)⟩
theorem FrT.of_below {B : Nat} {w w' : World} (h : Below w.heap.size w w') (hB : B ≤ w.heap.size) : FrT B w w' :=
  ⟨h.mono hB, fun i _ _ _ hi _ _ _ => h.block i (Array.getElem?_eq_some_iff.1 hi).1⟩
theorem FrT.of_fr {B p bl : Nat} {cv : Value} {d : Dk} {w w' : World} (h : DiskAt p bl cv d w) (hp : B ≤ p) (hl : B ≤ bl) (hc : ∀ k, cv.ownBlock = some k → B ≤ k) (hf : Fr (fp p bl cv) w w') : FrT B w w' :=
  ⟨hf.below (by have := h.lt; omega) (fun k hk e => by
    rcases e with rfl | rfl | e
    · omega
    · omega
    · have := hc k e; omega), fun i C T fr hi h1 h2 h3 => hf.block i (Array.getElem?_eq_some_iff.1 hi).1 (h.apart hi h1 h2 h3)⟩
theorem FrT.cellT {B : Nat} {w w' : World} (h : FrT B w w') {k : Nat} {C : Array Value} {T : TypeId} {fr : Nat × Nat} (hk : w.heap[k]? = some (.cells C T fr)) (h1 : T ≠ 89) (h2 : T ≠ 9) (h3 : T ≠ 64) : w'.heap[k]? = some (.cells C T fr) := (h.other k C T fr hk h1 h2 h3).trans hk
theorem DiskIn.old {B p : Nat} {d : Dk} {w w' : World} (h : DiskIn B p d w) (hb : Below w.heap.size w w') : DiskIn B p d w' := by
  obtain ⟨h1, bl, cv, h2, h3, h4⟩ := h
  exact ⟨h1, bl, cv, h2, h3, h4.old hb⟩
theorem DiskIn.size {B p : Nat} {d : Dk} {w : World} (h : DiskIn B p d w) : B ≤ w.heap.size := by
  obtain ⟨h1, bl, cv, h2, h3, h4⟩ := h
  have := h4.lt; omega
/-- A block of another type is turned, or made: a disk stays. -/
theorem DiskIn.other {B p : Nat} {d : Dk} {w w' : World} (h : DiskIn B p d w) {k : Nat} {C : Array Value} {T : TypeId} {fr : Nat × Nat} (hk : w.heap[k]? = some (.cells C T fr)) (h1 : T ≠ 89) (h2 : T ≠ 9) (h3 : T ≠ 64) (ho : Only k w w') : DiskIn B p d w' := by
  obtain ⟨e1, bl, cv, e2, e3, e4⟩ := h
  exact ⟨e1, bl, cv, e2, e3, e4.kept fun j hj hf => ho.block j hj fun e => e4.apart hk h1 h2 h3 (e ▸ hf)⟩

theorem newIn (n : Nat) (w : World) (B : Nat) (h1 : 1 ≤ n) (hn : n ≤ 65536) (hB : B ≤ w.heap.size) :
    Calls Tryz.prog 18 #[.int .i64 (n : Int)] w fun e w' => ∃ p, e = .returned (.pointer (some ⟨p, 0, none⟩)) ∧ DiskIn B p (Dsk.new n) w' ∧ Below w.heap.size w w' :=
  (new_disk n w h1 hn).mono fun _ _ ⟨p, bl, he, hp, hl, hd, hb⟩ => ⟨p, he, ⟨by omega, bl, _, by omega, (fun k e => by simp [Value.ownBlock] at e), hd⟩, hb⟩
theorem writeIn (B p : Nat) (d : Dk) (at_ : Int) (s : ByteArray) (w : World) (h : DiskIn B p d w) (hs : d.steps < 1000000) (hc : d.cache.length < 1000000) (hz : s.size ≤ 9223372036854775807) :
    Calls Tryz.prog 81 #[.pointer (some ⟨p, 0, none⟩), .int .i64 at_, .string s] w fun e w' => e = .returned (.int .i64 (writeE d at_ s)) ∧ DiskIn B p (writeD d at_ s) w' ∧ FrT B w w' := by
  obtain ⟨h1, bl, cv, h2, h3, h4⟩ := h
  refine (write_disk p bl cv d at_ s w h4 hs hc hz).mono fun e w' ⟨cv', he, hd, hf, hg⟩ => ⟨he, ⟨h1, bl, cv', h2, fun k e => ?_, hd⟩, FrT.of_fr h4 h1 h2 h3 hf⟩
  rcases hg k e with e' | e'
  · exact h3 k e'
  · have := h4.lt; omega
theorem flushIn (B p : Nat) (d : Dk) (w : World) (h : DiskIn B p d w) (hs : d.steps < 1000000) :
    Calls Tryz.prog 82 #[.pointer (some ⟨p, 0, none⟩)] w fun e w' => e = .returned (.int .i64 (err d)) ∧ DiskIn B p (Dsk.flush d) w' ∧ FrT B w w' := by
  obtain ⟨h1, bl, cv, h2, h3, h4⟩ := h
  refine (flush_disk p bl cv d w h4 hs).mono fun e w' ⟨cv', he, hd, hf, hg⟩ => ⟨he, ⟨h1, bl, cv', h2, fun k e => ?_, hd⟩, FrT.of_fr h4 h1 h2 h3 hf⟩
  rcases hg k e with e' | e'
  · exact h3 k e'
  · have := h4.lt; omega
theorem crashIn (B p : Nat) (d : Dk) (w : World) (h : DiskIn B p d w) (v : Value) (ps : List Int) (b : Nat) (hps : Ints w v ps b) (hb : b < B ∨ w.heap.size ≤ b ∨ ∃ C fr, w.heap[b]? = some (.cells C 3 fr)) :
    Calls Tryz.prog 23 #[.pointer (some ⟨p, 0, none⟩), v] w fun e w' => e = .returned (.tuple #[]) ∧ DiskIn B p (Dsk.crash d (odd ps)) w' ∧ FrT B w w' := by
  obtain ⟨h1, bl, cv, h2, h3, h4⟩ := h
  refine (crash_disk p bl cv d w h4 v ps b hps fun hlt e => ?_).mono fun e w' ⟨he, hd, hf⟩ => ⟨he, ⟨h1, bl, _, h2, (fun k e => by simp [Value.ownBlock] at e), hd⟩, FrT.of_fr h4 h1 h2 h3 hf⟩
  subst e
  rcases hb with hb | hb | ⟨C, fr, hb⟩
  · omega
  · omega
  · have := h4.rows
    rw [hb] at this
    simp at this
theorem armIn (B p : Nat) (d : Dk) (n : Int) (w : World) (h : DiskIn B p d w) (hn : n ≤ 9223372036854775807) :
    Calls Tryz.prog 22 #[.pointer (some ⟨p, 0, none⟩), .int .i64 n] w fun e w' => e = .returned (.tuple #[]) ∧ DiskIn B p (Dsk.arm d n.toNat) w' ∧ FrT B w w' := by
  obtain ⟨h1, bl, cv, h2, h3, h4⟩ := h
  exact (arm_any p bl cv d n w h4 hn).mono fun e w' ⟨he, hd, ho⟩ => ⟨he, ⟨h1, bl, cv, h2, h3, hd⟩, FrT.of_fr h4 h1 h2 h3 (ho.fr (.inl rfl))⟩
theorem readIn (B p : Nat) (d : Dk) (at_ : Int) (w : World) (h : DiskIn B p d w) :
    Calls Tryz.prog 63 #[.pointer (some ⟨p, 0, none⟩), .int .i64 at_] w fun e w' => e = .returned (.tuple #[.string (readS d at_), .int .i64 (readE d at_)]) ∧ Below w.heap.size w w' := by
  obtain ⟨h1, bl, cv, h2, h3, h4⟩ := h
  exact read_disk p bl cv d at_ w h4
theorem onIn (B p : Nat) (d : Dk) (w : World) (h : DiskIn B p d w) :
    Calls Tryz.prog 30 #[.pointer (some ⟨p, 0, none⟩)] w fun e w' => e = .returned (.bool d.on) ∧ w = w' := by
  obtain ⟨h1, bl, cv, h2, h3, h4⟩ := h
  exact on_any p bl cv d w h4
end Go.Proofs.YtfcocbgdmmeikaaGreatDoor
/-! ## The zero disk: no sectors, no power. -/
namespace Go.Proofs.YtfcocbgdmmeikaaGreatDoor
open Go.RowKit Dsk

/-- Block p is a zero disk. -/
def ZeroAt (p : Nat) (w : World) : Prop := w.heap[p]? = some (.cells #[.slice none 0 0, .slice none 0 0, .bool false, .bool false, .int .i64 0, .int .i64 0] 89 (0, 0))
section
variable {p : Nat} {w w' : World}
theorem ZeroAt.old (h : ZeroAt p w) (hb : Below w.heap.size w w') : ZeroAt p w' := (hb.block p (Array.getElem?_eq_some_iff.1 h).1).trans h
theorem ZeroAt.c0 (h : ZeroAt p w) : w.cell? ⟨p, 0, none⟩ = some (.slice none 0 0) := cell_of h 0
theorem ZeroAt.c1 (h : ZeroAt p w) : w.cell? ⟨p, 1, none⟩ = some (.slice none 0 0) := cell_of h 1
theorem ZeroAt.c2 (h : ZeroAt p w) : w.cell? ⟨p, 2, none⟩ = some (.bool false) := cell_of h 2
theorem ZeroAt.c3 (h : ZeroAt p w) : w.cell? ⟨p, 3, none⟩ = some (.bool false) := cell_of h 3
theorem ZeroAt.fz (h : ZeroAt p w) (i : Nat) : w.frozen? ⟨p, i, none⟩ = false := fz_of h i
end
theorem sectors_z (p : Nat) (w : World) (h : ZeroAt p w) :
    Calls Tryz.prog 59 #[.pointer (some ⟨p, 0, none⟩)] w fun e w' => e = .returned (.int .i64 0) ∧ w = w' := by
  have h0 := h.c0
  go_enter Tryz.func59, Tryz.ntmps59
  go_wp2
  go_ret
  exact ⟨rfl, rfl⟩
theorem has_z (p : Nat) (at_ : Int) (w : World) (h : ZeroAt p w) :
    Calls Tryz.prog 90 #[.pointer (some ⟨p, 0, none⟩), .int .i64 at_] w fun e w' => e = .returned (.bool false) ∧ w = w' := by
  by_cases h0 : 0 ≤ at_
  · go_enter Tryz.func90, Tryz.ntmps90
    go_wp2_with (go_at_call 59; refine (sectors_z _ _ h).mono ?_; rintro e w' ⟨rfl, rfl⟩)
    go_ret
    exact ⟨by show Ending.returned (.bool (decide (at_ < 0))) = _; rw [decide_eq_false (by omega)], rfl⟩
  · go_enter Tryz.func90, Tryz.ntmps90
    go_wp2
    go_ret
    exact ⟨rfl, rfl⟩
theorem on_z (p : Nat) (w : World) (h : ZeroAt p w) :
    Calls Tryz.prog 30 #[.pointer (some ⟨p, 0, none⟩)] w fun e w' => e = .returned (.bool false) ∧ w = w' := by
  have h0 := h.c2
  go_enter Tryz.func30, Tryz.ntmps30
  go_wp2
  go_ret
  exact ⟨rfl, rfl⟩
theorem read_z (p : Nat) (at_ : Int) (w : World) (h : ZeroAt p w) :
    Calls Tryz.prog 63 #[.pointer (some ⟨p, 0, none⟩), .int .i64 at_] w fun e w' => e = .returned (.tuple #[.string ⟨#[]⟩, .int .i64 1]) ∧ w = w' := by
  go_enter Tryz.func63, Tryz.ntmps63
  go_wp2_with (go_at_call 90; refine (has_z _ _ _ h).mono ?_; rintro e w' ⟨rfl, rfl⟩)
  go_ret2
  exact ⟨rfl, rfl⟩
theorem write_z (p : Nat) (at_ : Int) (s : ByteArray) (w : World) (h : ZeroAt p w) :
    Calls Tryz.prog 81 #[.pointer (some ⟨p, 0, none⟩), .int .i64 at_, .string s] w fun e w' => e = .returned (.int .i64 1) ∧ w = w' := by
  go_enter Tryz.func81, Tryz.ntmps81
  go_wp2_with (go_at_call 90; refine (has_z _ _ _ h).mono ?_; rintro e w' ⟨rfl, rfl⟩)
  go_ret
  exact ⟨rfl, rfl⟩
set_option maxRecDepth 100000 in
theorem settle_z (p bx : Nat) (w : World) (h : ZeroAt p w) :
    Calls Tryz.prog 57 #[.pointer (some ⟨p, 0, none⟩), .func (.func 58) #[] #[.pointer (some ⟨bx, 0, none⟩)]] w fun e w' => e = .returned (.tuple #[]) ∧ ZeroAt p w' ∧ Only p w w' := by
  have c1 := h.c1
  have f1 := h.fz 1
  go_enter Tryz.func57, Tryz.ntmps57
  go_wp2
  go_loopw [11] (fun i wr => i = .int .i64 0 ∧ w = wr) (fun _ _ => 0)
  case atStart => exact ⟨rfl, rfl⟩
  case round =>
    obtain ⟨rfl, rfl⟩ := hrel
    go_wp2
    go_end0
    exact ⟨rfl, heap_set h _, (Only.refl _ _).setCell _ _⟩
theorem crash_z (p : Nat) (a : Option Addr) (len cap : Nat) (w : World) (h : ZeroAt p w) :
    Calls Tryz.prog 23 #[.pointer (some ⟨p, 0, none⟩), .slice a len cap] w fun e w' => e = .returned (.tuple #[]) ∧ ZeroAt p w' ∧ Only p w w' := by
  have hB : Below w.heap.size w (w.alloc (.cells #[.slice a len cap] 23)) := (Below.refl _ _).alloc (Nat.le_refl _) _
  have hset := settle_z p w.heap.size _ (h.old hB)
  go_enter Tryz.func23, Tryz.ntmps23
  go_upto_region 3 with (go_at_call 57; refine hset.mono ?_; rintro e w2 ⟨rfl, h2, hf⟩)
  have c2 := h2.c2
  have c3 := h2.c3
  have f2 := h2.fz 2
  have f3 := h2.fz 3
  go_wp2_with (go_at_call 59; refine (sectors_z _ _ h2).mono ?_; rintro e w' ⟨rfl, rfl⟩)
  go_end0
  exact ⟨rfl, heap_set (heap_set h2 _) _, (((Only.of_below hB).trans hf).setCell _ _).setCell _ _⟩
end Go.Proofs.YtfcocbgdmmeikaaGreatDoor
/-! ## The document's own Fill, and the statements' with: the bytes of a sector that begin with a byte. -/
namespace Go.Proofs.YtfcocbgdmmeikaaGreatDoor
open Go.RowKit Dsk

/-- octet.Text(s). -/
def textB (s : ByteArray) : ByteArray := Oct.putB s.size ++ s
theorem textB_size (s : ByteArray) : (textB s).size = 1 + Oct.need s.size + s.size := by
  unfold textB; rw [ByteArray.size_append, Oct.putB_size]
/-- What Fill tells. -/
def fillS (s : ByteArray) : ByteArray := if (textB s).size ≤ 256 then textB s ++ zs (256 - (textB s).size) else ⟨#[]⟩
def fillE (s : ByteArray) : Int := if (textB s).size ≤ 256 then 0 else 11
theorem conv_zeros (n : Nat) (w : World) : (convert 48 9 (.slice (some ⟨w.heap.size, 0, none⟩) n n)).run Tryz.prog (w.alloc (.cells ((List.replicate n (0 : UInt8)).map u8V).toArray 5)) = .ok (.string (zs n)) (w.alloc (.cells ((List.replicate n (0 : UInt8)).map u8V).toArray 5)) :=
  convert_bytes _ w.heap.size n n (List.replicate n 0) (by simp) (cell_u8 (heap_alloc_last w _))
/-- 'string(make([]byte, k))': the block that is made, under one name. -/
theorem zeros_obj (k : Nat) (hk : k ≤ 1000) : ∃ X : Obj, (∀ u : World, (Instr.makeSlice 48 (.int .i64 (k : Int)) (.int .i64 (k : Int))).run Tryz.prog u = .ok (.slice (some ⟨u.heap.size, 0, none⟩) k k) (u.alloc X)) ∧ ∀ u : World, (convert 48 9 (.slice (some ⟨u.heap.size, 0, none⟩) k k)).run Tryz.prog (u.alloc X) = .ok (.string (zs k)) (u.alloc X) :=
  ⟨_, fun u => make_bytes k k (Nat.le_refl _) hk u, fun u => conv_zeros k u⟩
set_option maxRecDepth 100000 in
theorem refFill_any (s : ByteArray) (w : World) (hs : s.size ≤ 1000000) :
    Calls Tryz.prog 38 #[.string s] w fun e w' => e = .returned (.tuple #[.string (fillS s), .int .i64 (fillE s)]) ∧ Below w.heap.size w w' := by
  have ht := refText_any s w (by omega)
  rw [show Oct.putB s.size ++ s = textB s from rfl] at ht
  have hsz : (textB s).size ≤ 1000100 := by rw [textB_size]; have := Oct.need_le s.size (by omega); omega
  unfold fillS fillE
  obtain ⟨T, hT⟩ : ∃ T, T = textB s := ⟨_, rfl⟩
  rw [← hT] at ht hsz ⊢
  clear hT
  by_cases h : T.size ≤ 256
  · rw [if_pos h, if_pos h]
    have hk : (256 : Int) - (T.size : Int) = ((256 - T.size : Nat) : Int) := by omega
    obtain ⟨k, hk'⟩ : ∃ k, k = 256 - T.size := ⟨_, rfl⟩
    rw [← hk'] at hk ⊢
    have hkl : k ≤ 256 := by omega
    have hzs := zs_size k
    obtain ⟨X, hmk, hcv⟩ := zeros_obj k (by omega)
    obtain ⟨Z, hZ⟩ : ∃ Z, Z = zs k := ⟨_, rfl⟩
    rw [← hZ] at hzs hcv ⊢
    clear hZ hk'
    go_enter Tryz.func38, Tryz.ntmps38
    go_wp2_with (go_at_call 70; refine ht.mono ?_; rintro e w1 ⟨rfl, hb1⟩)
    go_ret2
    exact ⟨rfl, hb1.alloc hb1.size _⟩
  · rw [if_neg h, if_neg h]
    go_enter Tryz.func38, Tryz.ntmps38
    go_wp2_with (go_at_call 70; refine ht.mono ?_; rintro e w1 ⟨rfl, hb1⟩)
    go_ret2
    exact ⟨rfl, hb1⟩
theorem fillS_size (s : ByteArray) (h : (textB s).size ≤ 256) : (fillS s).size = 256 := by
  unfold fillS
  rw [if_pos h, ByteArray.size_append, zs_size]
  omega
/-- The bytes of a sector that begin with a byte. -/
def withB (c : UInt8) : ByteArray := fillS ⟨#[c]⟩
theorem one_len (c : UInt8) : (⟨#[c]⟩ : ByteArray).size = 1 := rfl
theorem one_size (c : UInt8) : (textB ⟨#[c]⟩).size = 3 := by rw [textB_size, one_len]; decide
theorem withB_size (c : UInt8) : (withB c).size = 256 := fillS_size _ (by rw [one_size]; decide)
end Go.Proofs.YtfcocbgdmmeikaaGreatDoor
/-! ## Package sector's Fill and Open, and the document's own Open: what they tell, for every text; what was made is opened again, and no two texts make one sector. -/
namespace Go.Proofs.YtfcocbgdmmeikaaGreatDoor
open Go.RowKit Dsk

theorem text_parts (t : ByteArray) (r : List UInt8) (most : Int) (h : (t.size : Int) ≤ most) (hs : t.size < 18446744073709551616) :
    textV (some (txtL t ++ r)) most = t.data.toList ∧ textS (some (txtL t ++ r)) most = some r := by
  have hm : ¬ (most < 0 ∨ most < t.size) := by omega
  have e : txtL t ++ r = Oct.putL t.size ++ (t.data.toList ++ r) := by rw [txtL, List.append_assoc]
  have e1 := numV_put t.size hs (t.data.toList ++ r) most hm
  have e2 := numS_put t.size hs (t.data.toList ++ r) most hm
  have hl : t.data.toList.length = t.size := (Lib.size_eq t).symm
  have hn : ¬ (t.data.toList ++ r).length < t.size := by rw [List.length_append, hl]; omega
  unfold textV textS
  rw [e, e1, e2, Option.getD_some, Option.bind_some, if_neg hn, if_neg hn, ← hl]
  simp
theorem read_str (s : ByteArray) (w : World) (hs : s.size ≤ maxLen) :
    Calls Tryz.prog 100 #[.string s] w fun e w' => e = .returned (.pointer (some ⟨w.heap.size, 0, none⟩)) ∧ Scn w.heap.size (some s.data.toList) w' ∧ Below w.heap.size w w' := by
  have := read_any s.data.toList w (by rw [← Lib.size_eq]; exact hs)
  rw [Lib.mk_data] at this
  exact this
/-- The text that stands at the beginning of raw. -/
def headB (raw : ByteArray) : ByteArray := ⟨(textV (some raw.data.toList) 256).toArray⟩
/-- Is raw the Fill of it? -/
def openB (raw : ByteArray) : Bool := decide (fillE (headB raw) = 0) && decide (fillS (headB raw) = raw)
def openS (raw : ByteArray) : ByteArray := if openB raw then headB raw else ⟨#[]⟩

theorem textB_data (s : ByteArray) : (textB s).data.toList = txtL s := by
  unfold textB
  rw [txt_eq]
theorem fill_data (s : ByteArray) (h : (textB s).size ≤ 256) : (fillS s).data.toList = txtL s ++ List.replicate (256 - (textB s).size) 0 := by
  unfold fillS
  rw [if_pos h, app_data, textB_data]
  rfl
theorem fits_small (s : ByteArray) (h : (textB s).size ≤ 256) : s.size ≤ 256 := by rw [textB_size] at h; omega
/-- What was made is opened again. -/
theorem head_fill (s : ByteArray) (h : (textB s).size ≤ 256) : headB (fillS s) = s := by
  have hs := fits_small s h
  unfold headB
  rw [fill_data s h, (text_parts s _ 256 (by omega) (by omega)).1]
theorem open_fill (s : ByteArray) (h : (textB s).size ≤ 256) : openB (fillS s) = true ∧ openS (fillS s) = s := by
  have hb : openB (fillS s) = true := by
    unfold openB
    rw [head_fill s h]
    have : fillE s = 0 := if_pos h
    simp [this]
  exact ⟨hb, by unfold openS; rw [if_pos hb, head_fill s h]⟩
/-- What is opened is not spoilt. -/
theorem open_sound (raw : ByteArray) (h : openB raw = true) : (textS (some raw.data.toList) 256).isNone = false := by
  unfold openB at h
  simp only [Bool.and_eq_true, decide_eq_true_eq] at h
  have hf : (textB (headB raw)).size ≤ 256 := by
    have h1 := h.1
    unfold fillE at h1
    split at h1
    · assumption
    · cases h1
  have hs := fits_small _ hf
  rw [← h.2, fill_data _ hf, (text_parts (headB raw) _ 256 (by omega) (by omega)).2]
  rfl
theorem open_size (raw : ByteArray) (h : openB raw = true) : raw.size = 256 ∧ fillE (openS raw) = 0 ∧ fillS (openS raw) = raw := by
  have hh := h
  unfold openB at h
  simp only [Bool.and_eq_true, decide_eq_true_eq] at h
  have hf : (textB (headB raw)).size ≤ 256 := by
    have h1 := h.1
    unfold fillE at h1
    split at h1
    · assumption
    · cases h1
  have e : openS raw = headB raw := by unfold openS; rw [if_pos hh]
  rw [e]
  refine ⟨?_, h⟩
  have := fillS_size _ hf
  rw [h.2] at this
  exact this
theorem fill_inj (a b : ByteArray) (ha : (textB a).size ≤ 256) (hb : (textB b).size ≤ 256) (h : fillS a = fillS b) : a = b := by
  rw [← head_fill a ha, ← head_fill b hb, h]
/-- Nothing is opened as nothing. -/
theorem open_none : openB ⟨#[]⟩ = false := by
  cases h : openB ⟨#[]⟩ with
  | false => rfl
  | true => exact absurd (open_size _ h).1 (by decide)

theorem fill_any (s : ByteArray) (w : World) (hs : s.size ≤ 1000000) :
    Calls Tryz.prog 66 #[.string s] w fun e w' => e = .returned (.tuple #[.string (fillS s), .int .i64 (fillE s)]) ∧ Below w.heap.size w w' := by
  have hn := Oct.need_le s.size (by omega)
  have hsz := size_any s.size w (by omega)
  have ht := fun u => textPut_any s u (by omega)
  simp only [show Oct.putB s.size ++ s = textB s from rfl] at ht
  have hT := textB_size s
  unfold fillS fillE
  obtain ⟨T, hT'⟩ : ∃ T, T = textB s := ⟨_, rfl⟩
  rw [← hT'] at hT ⊢
  simp only [← hT'] at ht
  clear hT'
  obtain ⟨nd, hnd⟩ : ∃ nd, nd = Oct.need s.size := ⟨_, rfl⟩
  rw [← hnd] at hT hn hsz
  clear hnd
  by_cases h : T.size ≤ 256
  · rw [if_pos h, if_pos h]
    obtain ⟨k, hk⟩ : ∃ k, k = 256 - T.size := ⟨_, rfl⟩
    rw [← hk]
    have hki : (256 : Int) - ((nd : Int) + 1 + (s.size : Int)) = (k : Int) := by omega
    have hz := fun u => zeros_any k u (by omega)
    have hzs := zs_size k
    have hle : ¬ (256 : Int) < (nd : Int) + 1 + (s.size : Int) := by omega
    obtain ⟨Z, hZ⟩ : ∃ Z, Z = zs k := ⟨_, rfl⟩
    rw [← hZ] at hzs ⊢
    simp only [← hZ] at hz
    have hkl : k ≤ 256 := by omega
    clear hZ hk
    go_enter Tryz.func66, Tryz.ntmps66
    go_wp2_with (first
      | (go_at_call 93; refine hsz.mono ?_; rintro e w' ⟨rfl, rfl⟩)
      | (go_at_call 94; refine (ht _).mono ?_; rintro e w1 ⟨rfl, b1⟩)
      | (go_at_call 46; refine (hz _).mono ?_; rintro e w2 ⟨rfl, b2⟩))
    go_ret2
    exact ⟨rfl, below_step b1 (Nat.le_refl _) b2⟩
  · rw [if_neg h, if_neg h]
    have hgt : (256 : Int) < (nd : Int) + 1 + (s.size : Int) := by omega
    go_enter Tryz.func66, Tryz.ntmps66
    go_wp2_with (go_at_call 93; refine hsz.mono ?_; rintro e w' ⟨rfl, rfl⟩)
    go_ret2
    exact ⟨rfl, Below.refl _ _⟩
theorem head_size (raw : ByteArray) : (headB raw).size ≤ raw.size := by
  have h1 : (textV (some raw.data.toList) 256).length ≤ raw.data.toList.length := by
    unfold textV
    split
    · simp
    · rw [List.length_take]
      have := numS_len (some raw.data.toList) 256
      simp only [Option.getD_some] at this
      omega
  rw [← Lib.size_eq] at h1
  show (textV (some raw.data.toList) 256).toArray.size ≤ _
  rw [List.size_toArray]
  exact h1
theorem open_any (raw : ByteArray) (w : World) (hs : raw.size ≤ 1000000) :
    Calls Tryz.prog 97 #[.string raw] w fun e w' => e = .returned (.tuple #[.string (openS raw), .bool (openB raw)]) ∧ Below w.heap.size w w' := by
  have hr := read_str raw w (by unfold maxLen; omega)
  have ht := fun u h => text_any w.heap.size (some raw.data.toList) 256 u h (by decide) (by decide)
  have hh := head_size raw
  have hb : openB raw = (decide (fillE (headB raw) = 0) && decide (fillS (headB raw) = raw)) := rfl
  unfold openS
  rw [hb]
  obtain ⟨S, hS⟩ : ∃ S, S = headB raw := ⟨_, rfl⟩
  have hS' : S = ⟨(textV (some raw.data.toList) 256).toArray⟩ := hS
  rw [← hS] at hh ⊢
  simp only [← hS'] at ht
  have hf := fun u => fill_any S u (by omega)
  clear hS hS' hb
  obtain ⟨F, hF⟩ : ∃ F, F = fillS S := ⟨_, rfl⟩
  obtain ⟨E, hE⟩ : ∃ E, E = fillE S := ⟨_, rfl⟩
  rw [← hF, ← hE]
  simp only [← hF, ← hE] at hf
  clear hF hE
  by_cases h1 : E = 0
  · by_cases h2 : F = raw
    · have h3 : (F.toList == raw.toList) = true := by rw [h2]; simp
      rw [decide_eq_true h1, decide_eq_true h2, Bool.and_self, if_pos rfl]
      subst h1
      clear h2
      go_enter Tryz.func97, Tryz.ntmps97
      go_wp2_with (first
        | (go_at_call 100; refine hr.mono ?_; rintro e w1 ⟨rfl, hs1, b1⟩)
        | (go_at_call 117; refine (ht _ hs1).mono ?_; rintro e w2 ⟨rfl, hs2, o2⟩)
        | (go_at_call 66; refine (hf _).mono ?_; rintro e w3 ⟨rfl, b3⟩))
      go_ret2
      exact ⟨rfl, below_step (b1.trans (o2.below (Nat.le_refl _) b1.size)) (Nat.le_refl _) b3⟩
    · have h3' : (F.toList == raw.toList) = false := by
        have : F.toList ≠ raw.toList := fun e => h2 (by rw [Lib.toList_data, Lib.toList_data] at e; exact ByteArray.ext (Array.toList_inj.1 e))
        simpa using this
      rw [decide_eq_false h2, Bool.and_false, if_neg Bool.false_ne_true]
      subst h1
      clear h2
      go_enter Tryz.func97, Tryz.ntmps97
      go_wp2_with (first
        | (go_at_call 100; refine hr.mono ?_; rintro e w1 ⟨rfl, hs1, b1⟩)
        | (go_at_call 117; refine (ht _ hs1).mono ?_; rintro e w2 ⟨rfl, hs2, o2⟩)
        | (go_at_call 66; refine (hf _).mono ?_; rintro e w3 ⟨rfl, b3⟩))
      go_ret2
      exact ⟨rfl, below_step (b1.trans (o2.below (Nat.le_refl _) b1.size)) (Nat.le_refl _) b3⟩
  · rw [decide_eq_false h1, Bool.false_and, if_neg Bool.false_ne_true]
    go_enter Tryz.func97, Tryz.ntmps97
    go_wp2_with (first
      | (go_at_call 100; refine hr.mono ?_; rintro e w1 ⟨rfl, hs1, b1⟩)
      | (go_at_call 117; refine (ht _ hs1).mono ?_; rintro e w2 ⟨rfl, hs2, o2⟩)
      | (go_at_call 66; refine (hf _).mono ?_; rintro e w3 ⟨rfl, b3⟩))
    go_ret2
    exact ⟨rfl, below_step (b1.trans (o2.below (Nat.le_refl _) b1.size)) (Nat.le_refl _) b3⟩
theorem refOpen_any (raw : ByteArray) (w : World) (hs : raw.size ≤ 1000000) :
    Calls Tryz.prog 76 #[.string raw] w fun e w' => e = .returned (.tuple #[.string (openS raw), .bool (openB raw)]) ∧ Below w.heap.size w w' := by
  have hal : Below w.heap.size w (w.alloc (.cells #[.string raw, .int .i64 0, .bool false] 84)) := (Below.refl _ _).alloc (Nat.le_refl _) _
  have ht := fun u h => rtext_any w.heap.size raw (some raw.data.toList) 256 u (by omega) h (by decide) (by decide)
  have hh := head_size raw
  have hsound := open_sound raw
  have hb : openB raw = (decide (fillE (headB raw) = 0) && decide (fillS (headB raw) = raw)) := rfl
  unfold openS
  cases hbad : (textS (some raw.data.toList) 256).isNone with
  | true =>
    have ho : openB raw = false := by
      cases h : openB raw with
      | false => rfl
      | true => have := hsound h; rw [hbad] at this; cases this
    rw [ho, if_neg Bool.false_ne_true]
    obtain ⟨S, hS⟩ : ∃ S, S = headB raw := ⟨_, rfl⟩
    have hS' : S = ⟨(textV (some raw.data.toList) 256).toArray⟩ := hS
    rw [← hS] at hh
    simp only [← hS'] at ht
    have hf := fun u => refFill_any S u (by omega)
    clear hS hS' hb ho hsound
    go_enter Tryz.func76, Tryz.ntmps76
    go_wp2_with (first
      | (go_at_call 104; refine (ht _ (RScn.alloc raw w)).mono ?_; rintro e w2 ⟨rfl, hs2, o2⟩; have c2 := hs2.c2; rw [hbad] at c2)
      | (go_at_call 38; refine (hf _).mono ?_; rintro e w3 ⟨rfl, b3⟩; have c3 := (b3.cell (p := ⟨w.heap.size, 2, none⟩) hs2.lt).trans c2))
    go_ret2
    exact ⟨rfl, below_step (hal.trans (o2.below (Nat.le_refl _) hal.size)) (Nat.le_refl _) b3⟩
  | false =>
    rw [hb]
    obtain ⟨S, hS⟩ : ∃ S, S = headB raw := ⟨_, rfl⟩
    have hS' : S = ⟨(textV (some raw.data.toList) 256).toArray⟩ := hS
    rw [← hS] at hh ⊢
    simp only [← hS'] at ht
    have hf := fun u => refFill_any S u (by omega)
    clear hS hS' hb hsound
    obtain ⟨F, hF⟩ : ∃ F, F = fillS S := ⟨_, rfl⟩
    obtain ⟨E, hE⟩ : ∃ E, E = fillE S := ⟨_, rfl⟩
    rw [← hF, ← hE]
    simp only [← hF, ← hE] at hf
    clear hF hE
    by_cases h1 : E = 0
    · by_cases h2 : F = raw
      · have h3' : (F.toList == raw.toList) = true := by rw [h2]; simp
        rw [decide_eq_true h1, decide_eq_true h2, Bool.and_self, if_pos rfl]
        subst h1
        clear h2
        go_enter Tryz.func76, Tryz.ntmps76
        go_wp2_with (first
          | (go_at_call 104; refine (ht _ (RScn.alloc raw w)).mono ?_; rintro e w2 ⟨rfl, hs2, o2⟩; have c2 := hs2.c2; rw [hbad] at c2)
          | (go_at_call 38; refine (hf _).mono ?_; rintro e w3 ⟨rfl, b3⟩; have c3 := (b3.cell (p := ⟨w.heap.size, 2, none⟩) hs2.lt).trans c2))
        go_ret2
        exact ⟨rfl, below_step (hal.trans (o2.below (Nat.le_refl _) hal.size)) (Nat.le_refl _) b3⟩
      · have h3' : (F.toList == raw.toList) = false := by
          have : F.toList ≠ raw.toList := fun e => h2 (by rw [Lib.toList_data, Lib.toList_data] at e; exact ByteArray.ext (Array.toList_inj.1 e))
          simpa using this
        rw [decide_eq_false h2, Bool.and_false, if_neg Bool.false_ne_true]
        subst h1
        clear h2
        go_enter Tryz.func76, Tryz.ntmps76
        go_wp2_with (first
          | (go_at_call 104; refine (ht _ (RScn.alloc raw w)).mono ?_; rintro e w2 ⟨rfl, hs2, o2⟩; have c2 := hs2.c2; rw [hbad] at c2)
          | (go_at_call 38; refine (hf _).mono ?_; rintro e w3 ⟨rfl, b3⟩; have c3 := (b3.cell (p := ⟨w.heap.size, 2, none⟩) hs2.lt).trans c2))
        go_ret2
        exact ⟨rfl, below_step (hal.trans (o2.below (Nat.le_refl _) hal.size)) (Nat.le_refl _) b3⟩
    · rw [decide_eq_false h1, Bool.false_and, if_neg Bool.false_ne_true]
      go_enter Tryz.func76, Tryz.ntmps76
      go_wp2_with (first
        | (go_at_call 104; refine (ht _ (RScn.alloc raw w)).mono ?_; rintro e w2 ⟨rfl, hs2, o2⟩; have c2 := hs2.c2; rw [hbad] at c2)
        | (go_at_call 38; refine (hf _).mono ?_; rintro e w3 ⟨rfl, b3⟩; have c3 := (b3.cell (p := ⟨w.heap.size, 2, none⟩) hs2.lt).trans c2))
      go_ret2
      exact ⟨rfl, below_step (hal.trans (o2.below (Nat.le_refl _) hal.size)) (Nat.le_refl _) b3⟩
end Go.Proofs.YtfcocbgdmmeikaaGreatDoor
/-! ## A row that a function makes by append, one element at a time: the law of one append, whatever the element. -/
namespace Go.Proofs.YtfcocbgdmmeikaaGreatDoor
open Go.RowKit

theorem below_grown {B : Nat} {u w w' : World} {row : Option Nat} (h : Below B u w) (hg : w.grownBy w' row) (hB : B ≤ w.heap.size) (hr : ∀ k, row = some k → B ≤ k) : Below B u w' :=
  ⟨hg.os.trans h.os, hg.tape.trans h.tape, hg.output.trans h.output, Nat.le_trans h.size hg.size, fun i hi => (hg.block i (by omega) fun e => by have := hr i e.symm; omega).trans (h.block i hi)⟩

theorem wpList_append_one {t e : TypeId} {sz bytes : Nat} {z : Value} (ht : Tryz.prog.underlying t = some (.slice e)) (hinfo : (Tryz.prog.info? e).map (fun i => (i.zero, i.size, i.bytes)) = some (some z, sz, bytes)) (hzs : z.cells.size = sz) (hsz : 0 < sz) (hby : bytes ≤ 100)
    {ops : Array Oper} {rest : List Oper} {o : Oper} {a : Act} {w : World} {Q : Exit → Act → World → Prop} (hg : o.guard = none) (s x : Operand)
    (hop : o.op = Op.call { callee := Callee.builtin Builtin.append, args := #[s, x], argTypes := #[t, t] }) (v : Value) (n : Nat) (xs : List Value) (hs : a.eval s = v) (hown : w.ownsRow 0 e sz v n xs)
    (b : Nat) (hx : a.eval x = .slice (some ⟨b, 0, none⟩) 1 1) (cs : List Value) (hcs : cs.length = sz) (hone : ∀ u ∈ cs, u.oneCell' = true) (hcell : ∀ j u, cs[j]? = some u → w.cell? ⟨b, j, none⟩ = some u) (hn : n < 1000000)
    (hK : ∀ v' w', w'.ownsRow 0 e sz v' (n + 1) (xs ++ cs) → w.grownBy w' v.ownBlock → (∀ k, v'.ownBlock = some k → v.ownBlock = some k ∨ w.heap.size ≤ k) → wpList Tryz.prog ops Q rest (a.put o.dst v') w') : wpList Tryz.prog ops Q (o :: rest) a w := by
  refine wpList_plain hg fun K hK' => ?_
  obtain ⟨i0, hi, hz0, hz1, hz2⟩ := info_parts hinfo
  have hc' := hown
  rw [← hz1] at hc'
  obtain ⟨v', w', hr, h2, h3, h4⟩ := append_where (ty := o.type) ht hi hz0 (by rw [hz1]; exact hzs) (by rw [hz1]; exact hsz) v n xs hc' ⟨b, 0, none⟩ 1 1 cs (by rw [hz1, hcs, Nat.one_mul])
    (fun j u hu => by
      rw [Addr.add_mid, Nat.zero_add]
      exact hcell j u hu) hone (by unfold maxLen; omega) (by
      rw [hz2]
      have : (n + 1) * bytes ≤ 1000000 * 100 := Nat.mul_le_mul (by omega) hby
      omega) (by decide)
  unfold Oper.wp
  simp [execOp, hop, resolve, invoke, builtin, hs, hx, hr, Result.andThen]
  refine hK' _ _ (hK v' w' ?_ h3 h4)
  rw [← hz1]
  exact h2

theorem info_int : (Tryz.prog.info? 3).map (fun i => (i.zero, i.size, i.bytes)) = some (some (.int .i64 0), 1, 8) := by kernel_rfl
/-- A row of numbers that is owned. -/
def OwnI (v : Value) (l : List Int) (w : World) : Prop := w.ownsRow 0 3 1 v l.length (l.map fun z => Value.int .i64 z)
theorem OwnI.nil (w : World) : OwnI (.slice none 0 0) [] w := World.ownsRow_nil w 0 _ 1
theorem OwnI.lt {v : Value} {l : List Int} {w : World} (h : OwnI v l w) {k : Nat} (e : v.ownBlock = some k) : k < w.heap.size := (World.ownsRow.lt h k e).2
theorem OwnI.kept {v : Value} {l : List Int} {w w' : World} (h : OwnI v l w) (hk : ∀ k, v.ownBlock = some k → w'.heap[k]? = w.heap[k]?) : OwnI v l w' := by
  refine ⟨h.1, ?_⟩
  rcases h.2 with e | ⟨g, cap, cur, e1, e2, hg, r⟩
  · exact .inl e
  · exact .inr ⟨g, cap, cur, e1, e2, (hk g (by rw [e1]; rfl)).trans hg, r⟩
theorem OwnI.old {v : Value} {l : List Int} {w w' : World} (h : OwnI v l w) (hb : Below w.heap.size w w') : OwnI v l w' := h.kept fun k e => hb.block k (h.lt e)
theorem OwnI.ints {v : Value} {l : List Int} {w : World} (h : OwnI v l w) : ∃ b, Ints w v l b ∧ ∀ k, v.ownBlock = some k → k = b := by
  have h0 := h
  rcases h.2 with ⟨rfl, h1⟩ | ⟨g, cap, cur, rfl, _, hg, hc, hm, _⟩
  · obtain rfl : l = [] := List.eq_nil_of_length_eq_zero h1
    exact ⟨0, Ints.nil _ _, fun k e => by simp [Value.ownBlock] at e⟩
  · refine ⟨g, ⟨some ⟨g, 0, none⟩, cap, rfl, ⟨hc, by unfold maxLen at hm; omega⟩, fun _ => ⟨0, rfl, (Array.getElem?_eq_some_iff.1 hg).1, fun j hj => ?_⟩⟩, fun k e => ?_⟩
    · have := World.ownsRow.cells h0 (g := g) rfl j (.int .i64 (l.getD j 0)) (by rw [List.getElem?_map, List.getD_eq_getElem?_getD, List.getElem?_eq_getElem hj]; rfl)
      rw [Addr.add_mid, Nat.zero_add] at this
      rw [Nat.zero_add]; exact this
    · simp [Value.ownBlock] at e; exact e.symm
theorem OwnI.slice {v : Value} {l : List Int} {w : World} (h : OwnI v l w) : ∃ a cap, v = .slice a l.length cap := by
  rcases h.2 with ⟨rfl, h1⟩ | ⟨g, cap, cur, rfl, _⟩
  · exact ⟨none, 0, by rw [h1]⟩
  · exact ⟨_, cap, rfl⟩
theorem OwnI.two (w : World) (a b : Int) : OwnI (.slice (some ⟨w.heap.size, 0, none⟩) 2 2) [a, b] (w.alloc (.cells #[.int .i64 a, .int .i64 b] 3)) :=
  ⟨rfl, .inr ⟨w.heap.size, 2, _, rfl, Nat.zero_le _, heap_alloc_last w _, Nat.le_refl 2, by decide, rfl, rfl⟩⟩
end Go.Proofs.YtfcocbgdmmeikaaGreatDoor
