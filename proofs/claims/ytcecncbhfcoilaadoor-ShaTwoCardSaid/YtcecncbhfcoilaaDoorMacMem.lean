/-
  Package mac: a hash that lies inside another block; what a maker is in memory; rows of bytes that the code makes of a text.
-/
import Derived.Test.YtcecncbhfcoilaaDoorShaOf
import Derived.Test.YtcecncbhfcoilaaDoorMacPure
import Derived.Laws.Tables
namespace Go.Proofs.YtcecncbhfcoilaaDoor
open Go.RowKit

/-- A state and a block to which the text s was written. -/
def HV (v : Sha.V) (b s : List UInt8) : Prop :=
  b.length = 64 ∧ v.ok ∧ b.take (s.length % 64) = s.drop (64 * (s.length / 64)) ∧ (64 ≤ s.length → v = Sha.run Sha.start (s.length / 64) s)
/-- At offset o of block p lies a hash to which the text s was written. -/
def HashAt (p o : Nat) (s : List UInt8) (w : World) : Prop := ∃ v b, HV v b s ∧ p < w.heap.size ∧ w.rangeAt p o (hL v b s.length)
theorem HV.isHash {v : Sha.V} {b s : List UInt8} (h : HV v b s) {p : Nat} {w : World} (hc : Cells p v b s.length w) : IsHash p s w := ⟨v, b, hc, h.2.2⟩
theorem IsHash.hv {p : Nat} {s : List UInt8} {w : World} (h : IsHash p s w) : ∃ v b, HV v b s ∧ Cells p v b s.length w := by
  obtain ⟨v, b, hc, h1, h2⟩ := h
  exact ⟨v, b, ⟨hc.1, hc.2.1, h1, h2⟩, hc⟩
theorem HashAt.old {p o B : Nat} {s : List UInt8} {w w' : World} (h : HashAt p o s w) (k : Below B w w') (hq : p < B) : HashAt p o s w' := by
  obtain ⟨v, b, h1, h2, h3⟩ := h
  exact ⟨v, b, h1, Nat.lt_of_lt_of_le h2 k.size, fun j x hx => (k.cell (p := ⟨p, o + j, none⟩) hq).trans (h3 j x hx)⟩
theorem HashAt.lt {p o : Nat} {s : List UInt8} {w : World} (h : HashAt p o s w) : p < w.heap.size := by obtain ⟨_, _, _, h, _⟩ := h; exact h
/-- Block p is a maker with the key k. -/
def IsMaker (p : Nat) (k : List UInt8) (w : World) : Prop := HashAt p 0 (Mac.inner k) w ∧ HashAt p 73 (Mac.outer k) w
/-- .. a zero one. -/
def ZeroMaker (p : Nat) (w : World) : Prop := HashAt p 0 [] w ∧ HashAt p 73 [] w
theorem IsMaker.old {p B : Nat} {k : List UInt8} {w w' : World} (h : IsMaker p k w) (b : Below B w w') (hq : p < B) : IsMaker p k w' := ⟨h.1.old b hq, h.2.old b hq⟩
theorem IsMaker.lt {p : Nat} {k : List UInt8} {w : World} (h : IsMaker p k w) : p < w.heap.size := h.1.lt
theorem ZeroMaker.old {p B : Nat} {w w' : World} (h : ZeroMaker p w) (b : Below B w w') (hq : p < B) : ZeroMaker p w' := ⟨h.1.old b hq, h.2.old b hq⟩
theorem ZeroMaker.lt {p : Nat} {w : World} (h : ZeroMaker p w) : p < w.heap.size := h.1.lt

theorem hv_zero : HV zV zB [] := ⟨by simp [zB], zero_ok, rfl, fun h => absurd h (by decide)⟩

theorem lenAt_any (p o : Nat) (s : List UInt8) (w : World) (h : HashAt p o s w) :
    Calls Tryd.prog 43 #[.pointer (some ⟨p, o, none⟩)] w fun e w' => e = .returned (.int .i64 s.length) ∧ w = w' := by
  obtain ⟨v, b, ⟨hb, _⟩, _, hr⟩ := h
  have hc : w.cell? ⟨p, o + 72, none⟩ = some (.int .i64 s.length) := hr 72 _ (by simp [hL, Sha.V.list, hb])
  go_enter Tryd.func43, Tryd.ntmps43
  go_wp2
  go_ret
  exact ⟨rfl, rfl⟩

set_option maxRecDepth 100000 in
theorem copyAt_any (p o : Nat) (s : List UInt8) (w : World) (h : HashAt p o s w) :
    Calls Tryd.prog 44 #[.pointer (some ⟨p, o, none⟩)] w fun e w' => e = .returned (.pointer (some ⟨w.heap.size, 0, none⟩)) ∧ IsHash w.heap.size s w' ∧ Below w.heap.size w w' := by
  obtain ⟨v, b, hv, hlt, hr⟩ := h
  obtain ⟨n, hn⟩ : ∃ n, n = s.length := ⟨_, rfl⟩
  rw [← hn] at hr
  have hz := (zero_of_info info_hash0).1
  have hl := hL_length v b n hv.1
  have hI : (Tryd.prog.info? 56).map (·.size) = some (hL v b n).length := by rw [hl]; exact info_hash
  have hI2 : (Tryd.prog.info? 56).map (·.size) = some (hL v b n).toArray.size := by rw [List.size_toArray]; exact hI
  have ht : (w.alloc (.cells (hL zV zB 0).toArray 56)).there w.heap.size 0 (hL v b n).toArray.size := by
    rw [show (hL v b n).toArray.size = 73 from (List.size_toArray).trans hl]; exact there_new w zL_length
  have hra : (w.alloc (.cells (hL zV zB 0).toArray 56)).rangeAt p o (hL v b n) := World.rangeAt_alloc hr _
  have HI := Lib.hid hI
  have HI2 := Lib.hid hI2
  have HT := Lib.hid ht
  have Hl := Lib.hid hl
  have HR := Lib.hid hr
  have HRA := Lib.hid hra
  have HN := Lib.hid hn
  clear hl hI hI2 ht hr hra hn
  go_enter Tryd.func44, Tryd.ntmps44
  go_wp2_with (first
    | refine wpList_load_mid rfl 56 (.tmp 7) rfl p o rfl (hL v b n) _ HR.out Tryd.underlying56 rfl HI.out ?_
    | refine wpList_load_mid rfl 56 (.tmp 7) rfl p o rfl (hL v b n) _ HRA.out Tryd.underlying56 rfl HI.out ?_
    | refine wpList_store_mid rfl 56 (.tmp 3) (.tmp 8) rfl w.heap.size 0 (hL v b n).toArray rfl rfl HT.out HI2.out (hL_one v b n) ?_)
  go_ret
  refine ⟨rfl, ?_, below_setCells (Nat.le_refl _) _ _ _ ((Below.refl _ _).alloc (Nat.le_refl _) _)⟩
  refine hv.isHash ⟨hv.1, hv.2.1, ?_⟩
  rw [← HN.out, heap_setCells_all w _ _ (by rw [zL_length, Hl.out])]

/-! ### A struct that is built of two hashes -/
theorem foldl_splice : ∀ (vs : List Value) (n off : Nat) (l : List Value), off + n + vs.length ≤ l.length →
    (vs.zipIdx n).foldl (fun (cs : Array Value) x => cs.setIfInBounds (off + x.2) x.1) l.toArray = (l.take (off + n) ++ (vs ++ l.drop (off + n + vs.length))).toArray
  | [], n, off, l, _ => by simp
  | v :: r, n, off, l, hl => by
    simp only [List.length_cons] at hl
    rw [List.zipIdx_cons, List.foldl_cons, List.setIfInBounds_toArray, foldl_splice r (n + 1) off (l.set (off + n) v) (by simp; omega)]
    congr 1
    rw [← Nat.add_assoc, List.take_set, List.drop_set_of_lt (by omega), List.take_succ_eq_append_getElem (by omega), List.set_append_right _ _ (by rw [List.length_take]; omega)]
    simp only [List.length_take, Nat.min_eq_left (show off + n ≤ l.length by omega), Nat.sub_self, List.set_cons_zero, List.append_assoc, List.cons_append, List.nil_append, List.length_cons]
    rw [show off + n + 1 + r.length = off + n + (r.length + 1) by omega]
theorem fill_one (place : Nat → Option (Nat × Nat)) (l : List Value) (i off : Nat) (vs : List Value) (rest : List (Nat × Value)) (hp : place i = some (off, vs.length)) (h : off + vs.length ≤ l.length) :
    Instr.fill place l.toArray ((i, .agg vs.toArray) :: rest) = Instr.fill place (l.take off ++ (vs ++ l.drop (off + vs.length))).toArray rest := by
  rw [Instr.fill, hp]
  simp only [Value.cells, List.size_toArray, ne_eq, not_true, decide_false, Bool.false_or]
  rw [if_neg (by simpa using h)]
  congr 1
  have := foldl_splice vs 0 off l (by omega)
  rw [Nat.add_zero] at this
  rw [← this, ← Array.foldl_toList]
  simp

theorem wpList_build_at {P : Program} {ops : Array Oper} {rest : List Oper} {o : Oper} {a : Act} {w : World} {Q : Exit → Act → World → Prop} (hg : o.guard = none) (t : TypeId) (parts : Array (Nat × Operand)) (ho : o.op = .build t parts) (cells : Array Value)
    (L : List (Nat × Value)) (hL : (parts.map fun (i, x) => (i, a.eval x)).toList = L) (hb : P.built t L = some cells) (h : wpList P ops Q rest (a.put o.dst (.agg cells)) w) : wpList P ops Q (o :: rest) a w :=
  wpList_build hg t parts ho (by rw [hL, hb]; rfl) (by rw [hL, hb]; exact h)
theorem built_maker (x y : List Value) (hx : x.length = 73) (hy : y.length = 73) :
    Tryd.prog.built 58 [(0, .agg x.toArray), (1, .agg y.toArray)] = some (x ++ y).toArray := by
  have h0 : Tryd.prog.built 58 [(0, .agg x.toArray), (1, .agg y.toArray)] = Instr.fill (fun i => (#[(0, 73), (73, 73)] : Array (Nat × Nat))[i]?) (hL zV zB 0 ++ hL zV zB 0).toArray [(0, .agg x.toArray), (1, .agg y.toArray)] := by kernel_rfl
  refine h0.trans ?_
  have hz := zL_length
  rw [fill_one _ _ 0 0 x _ (by rw [hx]; rfl) (by rw [List.length_append, hx, hz]; omega), fill_one _ _ 1 73 y _ (by rw [hy]; rfl) (by simp [hx, hy, hz]), Instr.fill]
  congr 2
  rw [List.take_zero, List.nil_append, hx, hy, List.take_append_of_le_length (by omega), List.take_of_length_le (by omega), List.drop_eq_nil_of_le (by simp [hx, hz]), List.append_nil]
theorem build_maker0 (w : World) : (Instr.build 58 #[]).run Tryd.prog w = .ok (.agg (hL zV zB 0 ++ hL zV zB 0).toArray) w := run_build w _ _ _ (by kernel_rfl)

theorem range_split {w : World} {p : Nat} {x y : List Value} {T : TypeId} {fr : Nat × Nat} (h : w.heap[p]? = some (.cells (x ++ y).toArray T fr)) : w.rangeAt p 0 x ∧ w.rangeAt p x.length y := by
  refine ⟨fun j v hv => ?_, fun j v hv => ?_⟩
  · unfold World.cell?
    rw [h]
    have : j < x.length := (List.getElem?_eq_some_iff.1 hv).1
    simp [List.getElem?_append_left this, hv]
  · unfold World.cell?
    rw [h]
    simp [List.getElem?_append_right, hv]

/-! ### A row of bytes -/
/-- The first cells of block q are the bytes l; they may be written. -/
def Row8 (q : Nat) (l : List UInt8) (w : World) : Prop :=
  ∃ (C : Array Value) (T : TypeId) (fr : Nat × Nat), w.heap[q]? = some (.cells C T fr) ∧ (∀ j : Nat, ∀ x, l[j]? = some x → C[j]? = some (u8V x)) ∧ (∀ j, j < l.length → (decide (fr.1 ≤ j) && decide (j < fr.2)) = false)
theorem Row8.cell {q : Nat} {l : List UInt8} {w : World} (h : Row8 q l w) (j : Nat) (x : UInt8) (hx : l[j]? = some x) : w.cell? ⟨q, j, none⟩ = some (u8V x) := by
  obtain ⟨C, T, fr, h1, h2, _⟩ := h
  unfold World.cell?
  rw [h1]
  exact h2 j x hx
theorem Row8.fz {q : Nat} {l : List UInt8} {w : World} (h : Row8 q l w) (j : Nat) (hj : j < l.length) : w.frozen? ⟨q, j, none⟩ = false := by
  obtain ⟨C, T, fr, h1, _, h3⟩ := h
  unfold World.frozen?
  rw [h1]
  exact h3 j hj
theorem Row8.lt {q : Nat} {l : List UInt8} {w : World} (h : Row8 q l w) : q < w.heap.size := by
  obtain ⟨C, T, fr, h1, _⟩ := h
  exact (Array.getElem?_eq_some_iff.1 h1).1
theorem Row8.set {q : Nat} {l : List UInt8} {w : World} (h : Row8 q l w) (i : Nat) (y : UInt8) : Row8 q (l.set i y) (w.setCell ⟨q, i, none⟩ (.int .u8 (y.toNat : Int))) := by
  obtain ⟨C, T, fr, h1, h2, h3⟩ := h
  refine ⟨C.setIfInBounds i (.int .u8 (y.toNat : Int)), T, fr, by simp [World.setCell, Array.getElem?_modify, h1], ?_, by simpa using h3⟩
  intro j x hx
  rw [List.getElem?_set] at hx
  by_cases e : i = j
  · subst e
    rw [if_pos rfl] at hx
    by_cases hi : i < l.length
    · rw [if_pos hi] at hx
      obtain rfl := Option.some.inj hx
      have := h2 i l[i] (List.getElem?_eq_getElem hi)
      rw [Array.getElem?_setIfInBounds_self_of_lt (Array.getElem?_eq_some_iff.1 this).1]
      rfl
    · rw [if_neg hi] at hx; cases hx
  · rw [if_neg e] at hx
    rw [Array.getElem?_setIfInBounds_ne e]
    exact h2 j x hx
theorem Row8.old {q B : Nat} {l : List UInt8} {w w' : World} (h : Row8 q l w) (k : Below B w w') (hq : q < B) : Row8 q l w' := by
  obtain ⟨C, T, fr, h1, h2⟩ := h
  exact ⟨C, T, fr, (k.block q hq).trans h1, h2⟩
theorem row8_new (w : World) (s : ByteArray) (c : Nat) (T : TypeId) : Row8 w.heap.size s.data.toList (w.drew.alloc (.cells (bytesRow s c) T ((bytesRow s c).size, (bytesRow s c).size + 1))) := by
  refine ⟨_, _, _, heap_alloc_last w.drew _, ?_, ?_⟩
  · intro j x hx
    have hj : j < s.data.size := by simpa using (List.getElem?_eq_some_iff.1 hx).1
    unfold bytesRow
    rw [Array.getElem?_append_left (by simpa using hj)]
    simp only [Array.getElem?_toList] at hx
    simp [hx, u8V]
  · intro j hj
    have hs : s.data.toList.length ≤ (bytesRow s c).size := by simp [bytesRow]
    simp only [Bool.and_eq_false_iff, decide_eq_false_iff_not]
    left
    omega
end Go.Proofs.YtcecncbhfcoilaaDoor
