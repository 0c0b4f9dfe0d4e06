/-
  Several texts in one (GenMem, RegInv, RegOps, RegEff, RegPh, RegPh0, GenEq, RegG, RegLe).
-/
import Derived.Test.YtollcdalokhjaaaDoorProg
import Derived.WalkKit
import Derived.WalkLawsBesides
import Derived.WalkSpells
import Derived.Lib.Hide
import Derived.Laws.BitsAll
import Derived.Deep.QuietTactic
import Derived.BigQuiet
import Derived.Below
import Derived.RegionTactic
import Derived.BigRegion
import Derived.IntWalk
import Derived.ChangeKeysEq
import Derived.Deep.MidRow
import Derived.Deep.WholeRow
import Derived.Laws.BitsAllLaws
import Derived.Lib.Strings
import Derived.KernelRfl
import Derived.Maps.AppendAt
import Derived.WalkSmall
import Derived.Laws.IdiomStrings
import Derived.Lib.UnsafeStr
import Derived.Deep.RegionLaw
import Derived.Laws.MakeOwn
import Derived.Laws.Tables
import Derived.Great.BuildSlice
import Derived.DeepKeys
import Derived.Laws.StructEq
/-! ## Memory, rows of bytes, texts: laws of no package. -/
namespace Go.Proofs.YtollcdalokhjaaaDoor
open Go.RowKit


theorem ret_int {k : IntKind} {a b : Int} (h : a = b) : Ending.returned (.int k a) = .returned (.int k b) := by rw [h]

def u32V (n : Nat) : Value := .int .u32 n
def u8V (n : UInt8) : Value := .int .u8 n.toNat
def bC (l : List Nat) : Array Value := (l.map u32V).toArray
theorem cell_bC {w : World} {n : Nat} {l : List Nat} {T : TypeId} (h : w.heap[n]? = some (.cells (bC l) T (0, 0))) (i : Nat) (hi : i < l.length) : w.cell? ⟨n, i, none⟩ = some (.int .u32 (l.getD i 0 : Nat)) := by
  unfold World.cell?
  rw [h]
  simp [bC, u32V, hi]
theorem fz_of {w : World} {n : Nat} {c : Array Value} {T : TypeId} (h : w.heap[n]? = some (.cells c T (0, 0))) (i : Nat) : w.frozen? ⟨n, i, none⟩ = false := by
  unfold World.frozen?; rw [h]; simp
theorem cell_of {w : World} {n : Nat} {c : Array Value} {T : TypeId} (h : w.heap[n]? = some (.cells c T (0, 0))) (i : Nat) : w.cell? ⟨n, i, none⟩ = c[i]? := by
  unfold World.cell?; rw [h]; rfl
/-- No block that was there has turned, but b. -/
structure Only (b : Nat) (w w' : World) : Prop where
  os : w'.os = w.os
  tape : w'.tape = w.tape
  output : w'.output = w.output
  size : w.heap.size ≤ w'.heap.size
  block : ∀ k, k < w.heap.size → k ≠ b → w'.heap[k]? = w.heap[k]?
theorem Only.refl (b : Nat) (w : World) : Only b w w := ⟨rfl, rfl, rfl, Nat.le_refl _, fun _ _ _ => rfl⟩
theorem Only.trans {b : Nat} {u v w : World} (h : Only b u v) (k : Only b v w) : Only b u w :=
  ⟨k.os.trans h.os, k.tape.trans h.tape, k.output.trans h.output, Nat.le_trans h.size k.size, fun i hi hb => (k.block i (Nat.lt_of_lt_of_le hi h.size) hb).trans (h.block i hi hb)⟩
theorem Only.below {b B : Nat} {w w' : World} (h : Only b w w') (hb : B ≤ b) (hB : B ≤ w.heap.size) : Below B w w' :=
  ⟨h.os, h.tape, h.output, h.size, fun k hk => h.block k (by omega) (by omega)⟩
theorem Only.of_below {b : Nat} {w w' : World} (h : Below w.heap.size w w') : Only b w w' :=
  ⟨h.os, h.tape, h.output, h.size, fun k hk _ => h.block k hk⟩
theorem Only.setCell {b : Nat} {u w : World} (h : Only b u w) (o : Nat) (v : Value) : Only b u (w.setCell ⟨b, o, none⟩ v) :=
  h.trans ⟨rfl, rfl, rfl, by simp [World.setCell], fun k _ hb => Below.heap_setCell _ _ _ _ hb⟩
theorem Only.cell {b : Nat} {u w : World} (h : Only b u w) {k o : Nat} (hk : k < u.heap.size) (hb : k ≠ b) : w.cell? ⟨k, o, none⟩ = u.cell? ⟨k, o, none⟩ := by
  unfold World.cell?; rw [h.block k hk hb]
theorem below_drewN {B : Nat} {a w : World} (h : Below B a w) (n : Nat) : Below B a (w.drewN n) := ⟨h.os, h.tape, h.output, h.size, h.block⟩
theorem below_step {B : Nat} {w u v : World} (h : Below B w u) (hB : B ≤ w.heap.size) (k : Below u.heap.size u v) : Below B w v := h.trans (k.mono (Nat.le_trans hB h.size))
/-- Block n holds the cells c; then they are turned, one by one. -/
theorem heap_set {w : World} {n i : Nat} {c : Array Value} {T : TypeId} (h : w.heap[n]? = some (.cells c T (0, 0))) (v : Value) : (w.setCell ⟨n, i, none⟩ v).heap[n]? = some (.cells (c.setIfInBounds i v) T (0, 0)) := by
  simp [World.setCell, Array.getElem?_modify, h]
theorem heap_far {w : World} {n k i : Nat} (h : k ≠ n) (v : Value) : (w.setCell ⟨n, i, none⟩ v).heap[k]? = w.heap[k]? := Below.heap_setCell _ _ _ _ h
theorem bC_set (l : List Nat) (i x : Nat) : (bC l).setIfInBounds i (.int .u32 (x : Nat)) = bC (l.set i x) := by
  unfold bC
  simp [List.map_set, u32V]
theorem bC_size (l : List Nat) : (bC l).size = l.length := by simp [bC]
/-- An array's element, by value. -/
theorem run_index_agg {P : Program} (w : World) {t e : TypeId} {n i : Nat} {cs : Array Value} {k : IntKind} {v : Value} (h : P.underlying t = some (.array n e)) (hp : P.plainKey e = true) (hi : (P.info? e).isSome = true) (hc : P.cellsOf e = 1) (hn : i < n) (hv : cs[i]? = some v) :
    (Instr.index t (.agg cs) (.int k (i : Int))).run P w = .ok v w := by
  obtain ⟨i0, hi⟩ := Option.isSome_iff_exists.1 hi
  have hb : (0 : Int) ≤ (i : Int) ∧ (i : Int) < (n : Int) := by omega
  simp [Instr.index, run_underlying h, asIntOf, hb, run_sizeOf w hi, hc, run_part_plain w hp hv]
  intro hx; omega
/-- A quiet call, whose contract says 'w = w'', in a region that only reads. -/
theorem quiet_left {P : Program} {f : FuncId} {args : Array Value} {w : World} {n : Nat} {v : Value}
    (h : Calls P f args (w.drewN n) fun e w' => e = .returned v ∧ w.drewN n = w') : Calls P f args (w.drewN n) fun e w'' => e = .returned v ∧ ∃ m, w'' = w.drewN m :=
  h.mono fun _ _ ⟨he, hm⟩ => ⟨he, n, hm.symm⟩
theorem there_new (w : World) {l : List Value} {T : TypeId} {n : Nat} (h : l.length = n) : (w.alloc (.cells l.toArray T)).there w.heap.size 0 n := fun j hj => by
  have hh := heap_alloc_last w (.cells l.toArray T)
  refine ⟨?_, fz_of hh _⟩
  rw [cell_of hh]
  simp; omega
theorem heap_setCells (p : Nat) (T : TypeId) : ∀ (vs : List Value) (o : Nat) (l : List Value) (w : World), o + vs.length ≤ l.length → w.heap[p]? = some (.cells l.toArray T (0, 0)) →
    (w.setCells p o vs).heap[p]? = some (.cells (l.take o ++ (vs ++ l.drop (o + vs.length))).toArray T (0, 0))
  | [], o, l, w, _, h => by simpa [World.setCells] using h
  | v :: r, o, l, w, hl, h => by
    rw [World.setCells]
    have h1 := heap_set (i := o) h v
    rw [List.setIfInBounds_toArray] at h1
    have h2 := heap_setCells p T r (o + 1) (l.set o v) _ (by simp at hl ⊢; omega) h1
    rw [h2]
    simp only [List.length_cons] at hl
    congr 3
    rw [List.take_set, List.drop_set_of_lt (by omega), List.take_succ_eq_append_getElem (by omega), List.set_append_right _ _ (by rw [List.length_take]; omega)]
    simp only [List.length_take, Nat.min_eq_left (show o ≤ l.length by omega), Nat.sub_self, List.set_cons_zero, List.append_assoc, List.cons_append, List.nil_append, List.length_cons]
    rw [show o + 1 + r.length = o + (r.length + 1) by omega]
theorem heap_setCells_all (w : World) (l vs : List Value) {T : TypeId} (h : l.length = vs.length) : ((w.alloc (.cells l.toArray T)).setCells w.heap.size 0 vs).heap[w.heap.size]? = some (.cells vs.toArray T (0, 0)) := by
  rw [heap_setCells w.heap.size T vs 0 l _ (by omega) (heap_alloc_last w _)]
  simp [h]
theorem below_setCells {B b : Nat} {a : World} (hb : B ≤ b) : ∀ (vs : List Value) (o : Nat) (w : World), Below B a w → Below B a (w.setCells b o vs)
  | [], _, _, h => h
  | v :: r, o, _, h => below_setCells hb r (o + 1) _ (h.setCell (by exact hb) v)
theorem only_setCells {b : Nat} {a : World} : ∀ (vs : List Value) (o : Nat) (w : World), Only b a w → Only b a (w.setCells b o vs)
  | [], _, _, h => h
  | v :: r, o, _, h => only_setCells r (o + 1) _ (h.setCell o v)

theorem info_u8 : (Tryd.prog.info? 5).map (fun i => (i.zero, i.size, i.bytes)) = some (some (.int .u8 0), 1, 1) := by kernel_rfl
theorem convert_bytes (w : World) (b n m : Nat) (l : List UInt8) (hn : l.length = n) (hc : ∀ j x, l[j]? = some x → w.cell? ⟨b, j, none⟩ = some (u8V x)) :
    (convert 110 9 (.slice (some ⟨b, 0, none⟩) n m)).run Tryd.prog w = .ok (.string ⟨l.toArray⟩) w := by
  subst hn
  refine run_convert_bytes_back w _ _ 5 _ _ l Tryd.underlying110 Tryd.underlying5 Tryd.underlying9 fun j hj => ?_
  rw [Addr.add_mid, Nat.zero_add]
  exact hc j _ (List.getElem?_eq_getElem hj)
theorem cell_u8 {w : World} {n : Nat} {l : List UInt8} {T : TypeId} (h : w.heap[n]? = some (.cells (l.map u8V).toArray T (0, 0))) (j : Nat) (x : UInt8) (hx : l[j]? = some x) : w.cell? ⟨n, j, none⟩ = some (u8V x) := by
  rw [cell_of h]; simp [hx]
theorem made_u8 (c : Nat) : madeCells (Value.int .u8 0).cells (c * 1) = ((List.replicate c (0 : UInt8)).map u8V).toArray := by
  apply Array.ext_getElem?
  intro i
  by_cases hi : i < c
  · simp [madeCells, hi, u8V, Value.cells, Nat.mod_one]
  · simp [madeCells, hi, u8V, Value.cells]
theorem make_bytes (n c : Nat) (h : n ≤ c) (hc : c ≤ 1000) (w : World) : (Instr.makeSlice 110 (.int .i64 (n : Int)) (.int .i64 (c : Int))).run Tryd.prog w = .ok (.slice (some ⟨w.heap.size, 0, none⟩) n c) (w.alloc (.cells ((List.replicate c (0 : UInt8)).map u8V).toArray 5)) := by
  obtain ⟨i0, hi, hz0, hz1, hz2⟩ := info_parts info_u8
  have hr := run_make (P := Tryd.prog) w 110 5 i0 (.int .u8 0) Tryd.underlying110 hi hz0 .i64 .i64 n c (by omega) (by omega) (by rw [hz2]; omega) (by omega)
  rw [hz1] at hr
  simp only [Int.toNat_natCast] at hr
  rw [made_u8] at hr
  exact hr
theorem there_of {w : World} {b o n : Nat} {l : List Value} {T : TypeId} (h : w.heap[b]? = some (.cells l.toArray T (0, 0))) (hn : o + n ≤ l.length) : w.there b o n := fun j hj => by
  refine ⟨?_, fz_of h _⟩
  rw [cell_of h]
  simp; omega
/-- 'copy(dst, s)' of a text, as much as fits, as one step of a region that draws. -/
theorem step_copy_str {P : Program} {ops : Array Oper} {o : Oper} {a : Act} {w : World} {K : Act → World → Prop} {Q : Exit → Act → World → Prop} {E : Prop}
    (hg : o.guard = none) (d x : Operand) (dT sT : TypeId) (hop : o.op = Op.call { callee := Callee.builtin Builtin.copy, args := #[d, x], argTypes := #[dT, sT] })
    (elem : TypeId) (hu : P.underlying dT = some (.slice elem)) (hz : ∀ w, (Go.sizeOf elem).run P w = .ok 1 w)
    (b off dLen dCap : Nat) (hd : a.eval d = .slice (some ⟨b, off, none⟩) dLen dCap) (t : ByteArray) (hx : a.eval x = .string t) (m : Nat) (hm : Nat.min t.size dLen = m)
    (l : List Value) (T : TypeId) (hh : w.heap[b]? = some (.cells l.toArray T (0, 0))) (hfit : off + m ≤ l.length)
    (hK : ∀ w', w'.heap[b]? = some (.cells (l.take off ++ ((t.data.toList.take m).map u8V ++ l.drop (off + ((t.data.toList.take m).map u8V).length))).toArray T (0, 0)) → Only b w w' → K (a.put o.dst (goInt m)) w') :
    if Region.wanted o (yielded ops a.tmps) = true then Oper.wp P o a w K Q else E := by
  have hw : Region.wanted o (yielded ops a.tmps) = true := by simp [Region.wanted, hg]
  rw [if_pos hw]
  have hml : m ≤ t.size := by rw [← hm]; exact Nat.min_le_left _ _
  obtain ⟨N, hN⟩ : ∃ N, N = (t.data.toList.take m).map u8V := ⟨_, rfl⟩
  rw [← hN] at hK
  have hl : N.length = m := by rw [hN, List.length_map, List.length_take, ← Lib.size_eq]; exact Nat.min_eq_left hml
  have hth := there_of (b := b) (o := off) (n := m) hh hfit
  have hst := run_storeCells_cells (P := P) b off N 0 w (by rw [hl]; intro j hj; simpa using (hth j hj).1) (by rw [hl]; intro j hj; simpa using (hth j hj).2) (by
    intro v hv
    rw [hN] at hv
    obtain ⟨x, _, rfl⟩ := List.mem_map.1 hv
    rfl)
  rw [Nat.add_zero] at hst
  have hrun : (Builtin.copy_ #[dT, sT] o.type #[.slice (some ⟨b, off, none⟩) dLen dCap, .string t]).run P w = .ok (goInt m) (w.setCells b off N) := by
    simp [Builtin.copy_, run_underlying hu, Builtin.lenOf, Builtin.firstCells, hz, hm]
    rw [show List.take m (List.map (fun b : UInt8 => Value.int .u8 (b.toNat : Int)) t.data.toList) = N by rw [hN, List.map_take]; rfl, hst]
    rfl
  unfold Oper.wp
  simp [execOp, hop, resolve, invoke, builtin, hd, hx, hrun, Result.andThen]
  refine hK _ ?_ (only_setCells _ _ _ (Only.refl _ _))
  exact heap_setCells b T N off l w (by rw [hl]; exact hfit) hh
theorem toList_ne {s : ByteArray} (h : 0 < s.size) : ¬ s.toList = [] ∧ s.toList.isEmpty = false := by
  have : s.toList.length = s.size := by rw [Lib.toList_data, ← Lib.size_eq]
  refine ⟨fun e => by rw [e] at this; simp at this; omega, ?_⟩
  cases hl : s.toList with
  | nil => rw [hl] at this; simp at this; omega
  | cons b r => rfl
theorem toList_nil {s : ByteArray} (h : s.size = 0) : s.toList = [] := by
  have : s.toList.length = s.size := by rw [Lib.toList_data, ← Lib.size_eq]
  exact List.eq_nil_of_length_eq_zero (by omega)
theorem size_u8 (w : World) : (Go.sizeOf 5).run Tryd.prog w = .ok 1 w := by
  obtain ⟨i0, hi, _, _, _⟩ := info_parts (show (Tryd.prog.info? 5).map (fun i => (i.zero, i.size, i.bytes)) = some (some (.int .u8 0), 1, 1) by kernel_rfl)
  have hc : Tryd.prog.cellsOf 5 = 1 := by kernel_rfl
  rw [run_sizeOf w hi, hc]
/-- A result that lies in memory: an array, or a struct. -/
theorem results_cell {fn : Func} {t : Tmp} {ty : TypeId} (h : fn.results = #[.cell t ty]) (tmps : Array Value) (P : Program) (w : World) {b : Nat} {cs : List Value} {d : TypeDesc} (ht : tmps.getD t undef = .pointer (some ⟨b, 0, none⟩)) (hc : w.rangeAt b 0 cs)
    (hu : P.underlying ty = some d) (hd : d.isRow = true) (hi : (P.info? ty).map (·.size) = some cs.length) : (results fn tmps).run P w = .ok (.agg cs.toArray) w := by
  have := run_loadVar_mid w b 0 ty cs d hc hu hd hi
  rw [Array.getD_eq_getD_getElem?] at ht
  simp [results, h, ht, asAddr, this]
/-- v is a slice that reads as the texts ts. -/
def StrRow (w : World) (v : Value) (ts : List ByteArray) : Prop :=
  ∃ a cap, v = .slice a ts.length cap ∧ ts.length ≤ 9223372036854775807 ∧ (ts ≠ [] → ∃ b off, a = some ⟨b, off, none⟩ ∧ b < w.heap.size ∧ ∀ j, j < ts.length → w.cell? ⟨b, off + j, none⟩ = some (.string (ts.getD j ByteArray.empty)))
theorem StrRow.old {w w' : World} {v : Value} {ts : List ByteArray} (h : StrRow w v ts) (k : Below w.heap.size w w') : StrRow w' v ts := by
  obtain ⟨a, cap, rfl, hl, hc⟩ := h
  refine ⟨a, cap, rfl, hl, fun hn => ?_⟩
  obtain ⟨b, off, rfl, hb, hj⟩ := hc hn
  exact ⟨b, off, rfl, Nat.lt_of_lt_of_le hb k.size, fun j h => (k.cell (by exact hb)).trans (hj j h)⟩
theorem StrRow.nil (w : World) : StrRow w (.slice none 0 0) [] := ⟨none, 0, rfl, by decide, fun h => absurd rfl h⟩
/-- The bytes of texts, one behind the other. -/
def flat (ts : List ByteArray) : List UInt8 := ts.flatMap fun t => t.data.toList
theorem flat_take (ts : List ByteArray) (k : Nat) (h : k < ts.length) : flat (ts.take (k + 1)) = flat (ts.take k) ++ (ts.getD k ByteArray.empty).data.toList := by
  unfold flat
  rw [List.take_succ_eq_append_getElem h, List.flatMap_append]
  have e : ts.getD k ByteArray.empty = ts[k] := by rw [List.getD_eq_getElem?_getD, List.getElem?_eq_getElem h]; rfl
  rw [e]
  simp
theorem flat_le (ts : List ByteArray) (k : Nat) : (flat (ts.take k)).length ≤ (flat ts).length := by
  have : flat ts = flat (ts.take k) ++ flat (ts.drop k) := by unfold flat; rw [← List.flatMap_append, List.take_append_drop]
  rw [this, List.length_append]; omega

theorem StrRow.one (w : World) (s : ByteArray) : StrRow (w.alloc (.cells #[.string s] 9)) (.slice (some ⟨w.heap.size, 0, none⟩) 1 1) [s] := by
  refine ⟨_, 1, rfl, by simp, fun _ => ⟨w.heap.size, 0, rfl, by simp, fun j hj => ?_⟩⟩
  rw [cell_of (heap_alloc_last w _)]
  have : j = 0 := by simpa using hj
  subst this; rfl
theorem StrRow.two (w : World) (s t : ByteArray) : StrRow (w.alloc (.cells #[.string s, .string t] 9)) (.slice (some ⟨w.heap.size, 0, none⟩) 2 2) [s, t] := by
  refine ⟨_, 2, rfl, by simp, fun _ => ⟨w.heap.size, 0, rfl, by simp, fun j hj => ?_⟩⟩
  rw [cell_of (heap_alloc_last w _)]
  have : j = 0 ∨ j = 1 := by simp at hj; omega
  rcases this with rfl | rfl <;> rfl
theorem flat_one (s : ByteArray) : flat [s] = s.data.toList := by simp [flat]
theorem flat_two (s t : ByteArray) : flat [s, t] = s.data.toList ++ t.data.toList := by simp [flat]
/-- The statements' short: a text of at most n bytes. -/
def shortB (s : ByteArray) (n : Nat) : ByteArray := if n < s.size then s.extract 0 n else s
theorem shortB_size (s : ByteArray) (n : Nat) : (shortB s n).size ≤ n := by
  unfold shortB
  split
  · rw [ByteArray.size_extract]; omega
  · omega
theorem u8_set (l : List UInt8) (i : Nat) (x : UInt8) : ((l.map u8V).toArray).setIfInBounds i (.int .u8 (x.toNat : Int)) = ((l.set i x).map u8V).toArray := by
  rw [List.setIfInBounds_toArray, List.map_set]; rfl
theorem cell_u8D {w : World} {n : Nat} {l : List UInt8} {T : TypeId} (h : w.heap[n]? = some (.cells (l.map u8V).toArray T (0, 0))) (i : Nat) (hi : i < l.length) : w.cell? ⟨n, i, none⟩ = some (.int .u8 ((l.getD i 0).toNat : Int)) := by
  rw [cell_of h]; simp [u8V, hi]
theorem fill_step (T : List UInt8) (k n : Nat) (hk : k < T.length) (hn : T.length ≤ n) : ((T.take k ++ List.replicate (n - k) 0).set k (T.getD k 0)) = T.take (k + 1) ++ List.replicate (n - (k + 1)) 0 := by
  rw [List.set_append_right _ _ (by rw [List.length_take]; omega), List.length_take, Nat.min_eq_left (by omega), Nat.sub_self, List.take_succ_eq_append_getElem hk, show n - k = (n - (k + 1)) + 1 by omega, List.replicate_succ, List.set_cons_zero, List.append_assoc]
  have e : T.getD k 0 = T[k] := by rw [List.getD_eq_getElem?_getD, List.getElem?_eq_getElem hk]; rfl
  rw [e]
  rfl
theorem bcell {W w1 : World} (hb : Below W.heap.size W w1) : (∀ b o, b < W.heap.size → w1.cell? ⟨b, o, none⟩ = W.cell? ⟨b, o, none⟩) ∧ (∀ b o, b < W.heap.size → w1.frozen? ⟨b, o, none⟩ = W.frozen? ⟨b, o, none⟩) :=
  ⟨fun b o h => hb.cell (p := ⟨b, o, none⟩) h, fun b o h => hb.frozen (p := ⟨b, o, none⟩) h⟩
theorem range_set {w : World} {b o q i : Nat} {cs : List Value} {v : Value} (h : w.rangeAt b o cs) (hne : b ≠ q) : (w.setCell ⟨q, i, none⟩ v).rangeAt b o cs := fun j x hx => by
  rw [World.cell?_setCell_other _ _ _ _ (fun e => hne (by injection e with e1 _ _; exact e1.symm))]
  exact h j x hx
theorem range_alloc_drew {w : World} {b o : Nat} {cs : List Value} {ob : Obj} (h : w.rangeAt b o cs) : (w.alloc ob).drew.rangeAt b o cs := (World.rangeAt_drew _ _ _ _).2 (World.rangeAt_alloc h ob)
theorem below_drew {B : Nat} {a w : World} (h : Below B a w) : Below B a w.drew := ⟨h.os, h.tape, h.output, h.size, h.block⟩
theorem foldl_splice : ∀ (vs : List Value) (n off : Nat) (l : List Value), off + n + vs.length ≤ l.length →
    (vs.zipIdx n).foldl (fun (cs : Array Value) x => cs.setIfInBounds (off + x.2) x.1) l.toArray = (l.take (off + n) ++ (vs ++ l.drop (off + n + vs.length))).toArray
  | [], n, off, l, _ => by simp
  | v :: r, n, off, l, hl => by
    simp only [List.length_cons] at hl
    rw [List.zipIdx_cons, List.foldl_cons, List.setIfInBounds_toArray, foldl_splice r (n + 1) off (l.set (off + n) v) (by simp; omega)]
    congr 1
    rw [← Nat.add_assoc, List.take_set, List.drop_set_of_lt (by omega), List.take_succ_eq_append_getElem (by omega), List.set_append_right _ _ (by rw [List.length_take]; omega)]
    simp only [List.length_take, Nat.min_eq_left (show off + n ≤ l.length by omega), Nat.sub_self, List.set_cons_zero, List.append_assoc, List.cons_append, List.nil_append, List.length_cons]
    rw [show off + n + 1 + r.length = off + n + (r.length + 1) by omega]
theorem fill_one (place : Nat → Option (Nat × Nat)) (l : List Value) (i off : Nat) (vs : List Value) (rest : List (Nat × Value)) (hp : place i = some (off, vs.length)) (h : off + vs.length ≤ l.length) :
    Instr.fill place l.toArray ((i, .agg vs.toArray) :: rest) = Instr.fill place (l.take off ++ (vs ++ l.drop (off + vs.length))).toArray rest := by
  rw [Instr.fill, hp]
  simp only [Value.cells, List.size_toArray, ne_eq, not_true, decide_false, Bool.false_or]
  rw [if_neg (by simpa using h)]
  congr 1
  have := foldl_splice vs 0 off l (by omega)
  rw [Nat.add_zero] at this
  rw [← this, ← Array.foldl_toList]
  simp
theorem wpList_build_at {P : Program} {ops : Array Oper} {rest : List Oper} {o : Oper} {a : Act} {w : World} {Q : Exit → Act → World → Prop} (hg : o.guard = none) (t : TypeId) (parts : Array (Nat × Operand)) (ho : o.op = .build t parts) (cells : Array Value)
    (L : List (Nat × Value)) (hL : (parts.map fun (i, x) => (i, a.eval x)).toList = L) (hb : P.built t L = some cells) (h : wpList P ops Q rest (a.put o.dst (.agg cells)) w) : wpList P ops Q (o :: rest) a w :=
  wpList_build hg t parts ho (by rw [hL, hb]; rfl) (by rw [hL, hb]; exact h)
theorem range_split {w : World} {p : Nat} {x y : List Value} {T : TypeId} {fr : Nat × Nat} (h : w.heap[p]? = some (.cells (x ++ y).toArray T fr)) : w.rangeAt p 0 x ∧ w.rangeAt p x.length y := by
  refine ⟨fun j v hv => ?_, fun j v hv => ?_⟩
  · unfold World.cell?
    rw [h]
    have : j < x.length := (List.getElem?_eq_some_iff.1 hv).1
    simp [List.getElem?_append_left this, hv]
  · unfold World.cell?
    rw [h]
    simp [List.getElem?_append_right, hv]
/-- The first cells of block q are the bytes l; they may be written. -/
def Row8 (q : Nat) (l : List UInt8) (w : World) : Prop :=
  ∃ (C : Array Value) (T : TypeId) (fr : Nat × Nat), w.heap[q]? = some (.cells C T fr) ∧ (∀ j : Nat, ∀ x, l[j]? = some x → C[j]? = some (u8V x)) ∧ (∀ j, j < l.length → (decide (fr.1 ≤ j) && decide (j < fr.2)) = false)
theorem Row8.cell {q : Nat} {l : List UInt8} {w : World} (h : Row8 q l w) (j : Nat) (x : UInt8) (hx : l[j]? = some x) : w.cell? ⟨q, j, none⟩ = some (u8V x) := by
  obtain ⟨C, T, fr, h1, h2, _⟩ := h
  unfold World.cell?
  rw [h1]
  exact h2 j x hx
theorem Row8.fz {q : Nat} {l : List UInt8} {w : World} (h : Row8 q l w) (j : Nat) (hj : j < l.length) : w.frozen? ⟨q, j, none⟩ = false := by
  obtain ⟨C, T, fr, h1, _, h3⟩ := h
  unfold World.frozen?
  rw [h1]
  exact h3 j hj
theorem Row8.lt {q : Nat} {l : List UInt8} {w : World} (h : Row8 q l w) : q < w.heap.size := by
  obtain ⟨C, T, fr, h1, _⟩ := h
  exact (Array.getElem?_eq_some_iff.1 h1).1
theorem Row8.set {q : Nat} {l : List UInt8} {w : World} (h : Row8 q l w) (i : Nat) (y : UInt8) : Row8 q (l.set i y) (w.setCell ⟨q, i, none⟩ (.int .u8 (y.toNat : Int))) := by
  obtain ⟨C, T, fr, h1, h2, h3⟩ := h
  refine ⟨C.setIfInBounds i (.int .u8 (y.toNat : Int)), T, fr, by simp [World.setCell, Array.getElem?_modify, h1], ?_, by simpa using h3⟩
  intro j x hx
  rw [List.getElem?_set] at hx
  by_cases e : i = j
  · subst e
    rw [if_pos rfl] at hx
    by_cases hi : i < l.length
    · rw [if_pos hi] at hx
      obtain rfl := Option.some.inj hx
      have := h2 i l[i] (List.getElem?_eq_getElem hi)
      rw [Array.getElem?_setIfInBounds_self_of_lt (Array.getElem?_eq_some_iff.1 this).1]
      rfl
    · rw [if_neg hi] at hx; cases hx
  · rw [if_neg e] at hx
    rw [Array.getElem?_setIfInBounds_ne e]
    exact h2 j x hx
theorem Row8.old {q B : Nat} {l : List UInt8} {w w' : World} (h : Row8 q l w) (k : Below B w w') (hq : q < B) : Row8 q l w' := by
  obtain ⟨C, T, fr, h1, h2⟩ := h
  exact ⟨C, T, fr, (k.block q hq).trans h1, h2⟩
theorem row8_new (w : World) (s : ByteArray) (c : Nat) (T : TypeId) : Row8 w.heap.size s.data.toList (w.drew.alloc (.cells (bytesRow s c) T ((bytesRow s c).size, (bytesRow s c).size + 1))) := by
  refine ⟨_, _, _, heap_alloc_last w.drew _, ?_, ?_⟩
  · intro j x hx
    have hj : j < s.data.size := by simpa using (List.getElem?_eq_some_iff.1 hx).1
    unfold bytesRow
    rw [Array.getElem?_append_left (by simpa using hj)]
    simp only [Array.getElem?_toList] at hx
    simp [hx, u8V]
  · intro j hj
    have hs : s.data.toList.length ≤ (bytesRow s c).size := by simp [bytesRow]
    simp only [Bool.and_eq_false_iff, decide_eq_false_iff_not]
    left
    omega
/-- 'copy(dst, s)' of a text, as much as fits: what it does. -/
theorem run_copy_str (w : World) (ty : TypeId) (b off dLen dCap : Nat) (t : ByteArray) (m : Nat) (hm : Nat.min t.size dLen = m) (l : List Value) (T : TypeId) (hh : w.heap[b]? = some (.cells l.toArray T (0, 0))) (hfit : off + m ≤ l.length) :
    (Builtin.copy_ #[110, 9] ty #[.slice (some ⟨b, off, none⟩) dLen dCap, .string t]).run Tryd.prog w = .ok (goInt m) (w.setCells b off ((t.data.toList.take m).map u8V)) := by
  have hml : m ≤ t.size := by rw [← hm]; exact Nat.min_le_left _ _
  obtain ⟨N, hN⟩ : ∃ N, N = (t.data.toList.take m).map u8V := ⟨_, rfl⟩
  rw [← hN]
  have hl : N.length = m := by rw [hN, List.length_map, List.length_take, ← Lib.size_eq]; exact Nat.min_eq_left hml
  have hth := there_of (b := b) (o := off) (n := m) hh hfit
  have hst := run_storeCells_cells (P := Tryd.prog) b off N 0 w (by rw [hl]; intro j hj; simpa using (hth j hj).1) (by rw [hl]; intro j hj; simpa using (hth j hj).2) (by
    intro v hv
    rw [hN] at hv
    obtain ⟨x, _, rfl⟩ := List.mem_map.1 hv
    rfl)
  rw [Nat.add_zero] at hst
  simp [Builtin.copy_, run_underlying Tryd.underlying110, Builtin.lenOf, Builtin.firstCells, hm]
  rw [show List.take m (List.map (fun b : UInt8 => Value.int .u8 (b.toNat : Int)) t.data.toList) = N by rw [hN, List.map_take]; rfl, hst]
  rfl
theorem xor_u8 (x m : UInt8) : bits .xor .u8 (x.toNat : Int) (m.toNat : Int) = ((x ^^^ m).toNat : Int) := by
  rw [u8_xor_nat _ _ x.toNat_lt m.toNat_lt, UInt8.toNat_xor]
theorem range_box (w : World) (l : List Value) (T : TypeId) : (w.alloc (.cells l.toArray T)).rangeAt w.heap.size 0 l := fun j x hx => by
  rw [Nat.zero_add, cell_of (heap_alloc_last w _)]; simpa using hx
theorem app_data (a b : ByteArray) : (a ++ b).data.toList = a.data.toList ++ b.data.toList := by
  rw [ByteArray.data_append]; simp
theorem convert_one (w : World) (z : Int) (b : UInt8) (hz : z = (b.toNat : Int)) : (convert 110 9 (.slice (some ⟨w.heap.size, 0, none⟩) 1 1)).run Tryd.prog (w.alloc (.cells #[.int .u8 z] 5)) = .ok (.string ⟨#[b]⟩) (w.alloc (.cells #[.int .u8 z] 5)) := by
  subst hz
  exact convert_bytes _ w.heap.size 1 1 [b] rfl (cell_u8 (l := [b]) (heap_alloc_last w _))
theorem index_str (S : ByteArray) (k : Nat) (z : Int) (hz : z = (k : Int)) (h : k < S.size) (x : UInt8) (hx : S[k] = x) (w : World) : (Instr.index 9 (.string S) (.int .i64 z)).run Tryd.prog w = .ok (.int .u8 (x.toNat : Int)) w := by
  subst hz
  rw [run_index_string w _ _ _ _ Tryd.underlying9, dif_pos ⟨by omega, by omega⟩]
  simp only [Int.toNat_natCast, hx]
theorem sub_nat (t d : Nat) (D : Int) (hD : D = (d : Int)) (h : d ≤ t) (ht : t < 64) : ∃ u : Nat, (t : Int) - D = (u : Int) ∧ IntKind.i64.wrap ((t : Int) - D) = (u : Int) ∧ u = t - d := by
  subst hD
  refine ⟨t - d, by omega, ?_, rfl⟩
  rw [IntWalk.i64_in _ (by omega)]; omega
theorem cell_drewN (w : World) (n : Nat) (p : Addr) : (w.drewN n).cell? p = w.cell? p := rfl
theorem frozen_drewN (w : World) (n : Nat) (p : Addr) : (w.drewN n).frozen? p = w.frozen? p := rfl

theorem wpList_append_room {P : Program} {ops : Array Oper} {rest : List Oper} {o : Oper} {a : Act} {w : World} {Q : Exit → Act → World → Prop}
    (hg : o.guard = none) (s x : Operand) (t : TypeId) (hop : o.op = Op.call { callee := Callee.builtin Builtin.append, args := #[s, x], argTypes := #[t, t] })
    (e : TypeId) (i : TypeInfo) (size : Nat) (h1 : P.underlying t = some (.slice e)) (h2 : P.info? e = some i) (h4 : i.size = size)
    (b off n cap : Nat) (hs : a.eval s = .slice (some ⟨b, off, none⟩) n cap)
    (ad : Addr) (m c : Nat) (news : List Value) (hx : a.eval x = .slice (some ad) m c) (hn : news.length = m * size) (hc : ∀ j u, news[j]? = some u → w.cell? (ad.add j) = some u) (h1c : ∀ u ∈ news, u.oneCell' = true)
    (hroom : n + m ≤ cap) (hspare : ∀ j, j < news.length → (w.cell? ⟨b, off + n * size + j, none⟩).isSome = true ∧ w.frozen? ⟨b, off + n * size + j, none⟩ = false)
    (hK : wpList P ops Q rest (a.put o.dst (.slice (some ⟨b, off, none⟩) (n + m) cap)) (w.setCells b (off + n * size) news)) : wpList P ops Q (o :: rest) a w := by
  refine wpList_plain hg fun K hK' => ?_
  subst h4
  have hrun := run_append_room_cells (P := P) w t o.type e i h1 h2 b off n cap ad m c news hn hc h1c hroom (fun j hj => (hspare j hj).1) (fun j hj => (hspare j hj).2)
  unfold Oper.wp
  simp [execOp, hop, resolve, invoke, builtin, hs, hx, hrun, Result.andThen]
  exact hK' _ _ hK
end Go.Proofs.YtollcdalokhjaaaDoor
/-! ## A region that draws its order of evaluation: ONE obligation for each of its operations, whatever the order. What is known of an operation's value (T) lasts as the world goes on (Le). -/
namespace Go.Proofs.YtollcdalokhjaaaDoor
open Go

/-- The slots that a region writes. -/
def rdsts (ops : Array Oper) : List Tmp := ops.toList.filterMap (·.dst)
/-- What operation j has left in its slot. -/
def rgot (ops : Array Oper) (a : Act) (j : Nat) : Value := match (ops[j]?).bind (·.dst) with
  | some d => a.tmps.getD d undef
  | none => undef
/-- Does j wait for i? -/
def rwaits (ops : Array Oper) (j i : Nat) : Bool := match ops[j]? with
  | some o => o.after.any fun e => Region.binds .any e && e.on == i
  | none => false
/-- No operation waits for one behind it. -/
def rback (ops : Array Oper) : Bool := (List.range ops.size).all fun i => match ops[i]? with
  | some o => o.after.all fun e => !Region.binds .any e || decide (e.on < i)
  | none => true
/-- No two operations write one slot. -/
def rapart (ops : Array Oper) : Bool := (List.range ops.size).all fun i => (List.range ops.size).all fun j => i == j || match (ops[i]?).bind (·.dst), (ops[j]?).bind (·.dst) with
  | some d, some e => d != e
  | _, _ => true
def rval (o : Oper) (v : Value) : Value := match o.dst with
  | some _ => v
  | none => undef

structure RFrame (ops : Array Oper) (a0 a : Act) : Prop where
  size : a.tmps.size = a0.tmps.size
  defers : a.defers = a0.defers
  out : ∀ t, t ∉ rdsts ops → a.tmps[t]? = a0.tmps[t]?

theorem rback_spec {ops : Array Oper} (h : rback ops = true) {i : Nat} {o : Oper} (ho : ops[i]? = some o) {e : Edge} (he : e ∈ o.after) (hb : Region.binds .any e = true) : e.on < i := by
  unfold rback at h
  have h1 := List.all_eq_true.1 h i (List.mem_range.2 (Array.getElem?_eq_some_iff.1 ho).1)
  simp only [ho] at h1
  have h2 := Array.all_eq_true_iff_forall_mem.1 h1 e he
  simpa [hb] using h2
theorem rapart_spec {ops : Array Oper} (h : rapart ops = true) {i j : Nat} {oi oj : Oper} (hi : ops[i]? = some oi) (hj : ops[j]? = some oj) (hne : i ≠ j) {d e : Tmp} (hd : oi.dst = some d) (he : oj.dst = some e) : d ≠ e := by
  unfold rapart at h
  have h1 := List.all_eq_true.1 h i (List.mem_range.2 (Array.getElem?_eq_some_iff.1 hi).1)
  have h2 := List.all_eq_true.1 h1 j (List.mem_range.2 (Array.getElem?_eq_some_iff.1 hj).1)
  simpa [hi, hj, hd, he, hne] using h2
theorem mem_rdsts {ops : Array Oper} {i : Nat} {o : Oper} (ho : ops[i]? = some o) {d : Tmp} (hd : o.dst = some d) : d ∈ rdsts ops := by
  unfold rdsts
  exact List.mem_filterMap.2 ⟨o, by simpa using Array.mem_of_getElem? ho, hd⟩
theorem count_set_true (l : List Bool) (i : Nat) (h : l[i]? = some false) : (l.set i true).count false + 1 = l.count false := by
  induction l generalizing i with
  | nil => simp at h
  | cons x l ih =>
    cases i with
    | zero => simp at h; subst h; simp
    | succ i =>
      simp only [List.getElem?_cons_succ] at h
      have := ih i h
      simp only [List.set_cons_succ, List.count_cons]
      omega
theorem least_false (l : List Bool) (h : 0 < l.count false) : ∃ i : Nat, l[i]? = some false ∧ ∀ j : Nat, j < i → l[j]? = some true := by
  induction l with
  | nil => simp at h
  | cons x l ih =>
    cases x with
    | false => exact ⟨0, rfl, fun j hj => absurd hj (by omega)⟩
    | true =>
      obtain ⟨i, h1, h2⟩ := ih (by simpa using h)
      refine ⟨i + 1, h1, fun j hj => ?_⟩
      cases j with
      | zero => rfl
      | succ j => exact h2 j (by omega)

section
variable {P : Program} {ops : Array Oper} {Q : Exit → Act → World → Prop} {a0 : Act} {w0 : World} {T : Nat → Value → World → Prop} {Le : World → World → Prop}

/-- What an operation must do, whenever it comes up. -/
def ROp (P : Program) (ops : Array Oper) (Q : Exit → Act → World → Prop) (a0 : Act) (w0 : World) (T : Nat → Value → World → Prop) (Le : World → World → Prop) (i : Nat) (o : Oper) : Prop :=
  ∀ a w, RFrame ops a0 a → Le w0 w → (∀ j, rwaits ops i j = true → T j (rgot ops a j) w) → (∀ (j : Nat) (d : Tmp), rwaits ops j i = true → (ops[j]?).bind (·.dst) = some d → a.tmps[d]? = a0.tmps[d]?) →
    ∀ K : Act → World → Prop, (∀ v w', Le w w' → T i (rval o v) w' → K (a.put o.dst v) w') → if Region.wanted o (yielded ops a.tmps) = true then Oper.wp P o a w K Q else K (a.put o.dst undef) w

structure RInv (ops : Array Oper) (a0 : Act) (w0 : World) (T : Nat → Value → World → Prop) (Le : World → World → Prop) (fuel : Nat) (listed : Array Bool) (a : Act) (w : World) : Prop where
  size : listed.size = ops.size
  count : listed.toList.count false = fuel
  closed : ∀ (j : Nat) (o : Oper), ops[j]? = some o → listed[j]? = some true → ∀ e ∈ o.after, Region.binds .any e = true → listed[e.on]? = some true
  frame : RFrame ops a0 a
  le : Le w0 w
  known : ∀ j : Nat, listed[j]? = some true → T j (rgot ops a j) w
  old : ∀ (j : Nat) (d : Tmp), listed[j]? = some false → (ops[j]?).bind (·.dst) = some d → a.tmps[d]? = a0.tmps[d]?

theorem rgot_put_other (hap : rapart ops = true) {i j : Nat} {o : Oper} (ho : ops[i]? = some o) (hne : j ≠ i) (a : Act) (v : Value) : rgot ops (a.put o.dst v) j = rgot ops a j := by
  unfold rgot
  cases hj : (ops[j]?).bind (·.dst) with
  | none => rfl
  | some d =>
    obtain ⟨oj, hoj, hd⟩ := Option.bind_eq_some_iff.1 hj
    cases hdo : o.dst with
    | none => rfl
    | some e =>
      have := rapart_spec hap hoj ho hne hd hdo
      simp [Act.put, Array.getElem?_setIfInBounds_ne (Ne.symm this)]
theorem rgot_put_self {i : Nat} {o : Oper} (ho : ops[i]? = some o) (a : Act) (v : Value) (hlt : ∀ d, o.dst = some d → d < a.tmps.size) : rgot ops (a.put o.dst v) i = rval o v := by
  unfold rgot rval
  simp only [ho, Option.bind_some]
  cases hd : o.dst with
  | none => rfl
  | some d => simp [Act.put, hlt d hd]

theorem rinv_any (hback : rback ops = true) (hap : rapart ops = true) (hlt : ∀ d ∈ rdsts ops, d < a0.tmps.size)
    (htr : ∀ u v w, Le u v → Le v w → Le u w) (hst : ∀ i v w w', T i v w → Le w w' → T i v w')
    (hop : ∀ (i : Nat) (o : Oper), ops[i]? = some o → ROp P ops Q a0 w0 T Le i o)
    (hfin : ∀ a w, RFrame ops a0 a → Le w0 w → (∀ j, j < ops.size → T j (rgot ops a j) w) → Q .normal a w) :
    ∀ fuel listed a w, RInv ops a0 w0 T Le fuel listed a w → wpAny P .any ops Q fuel listed a w := by
  intro fuel
  induction fuel with
  | zero =>
    intro listed a w I
    have hall : ∀ j, j < ops.size → listed[j]? = some true := by
      intro j hj
      have hjl : j < listed.size := by rw [I.size]; exact hj
      have h0 := I.count
      cases hb : listed[j] with
      | true => rw [Array.getElem?_eq_getElem hjl, hb]
      | false =>
        have hm : false ∈ listed.toList := by rw [← hb]; simp
        have := List.count_pos_iff.2 hm
        omega
    refine ⟨?_, hfin a w I.frame I.le fun j hj => I.known j (hall j hj)⟩
    rw [List.eq_nil_iff_forall_not_mem]
    intro j hj
    obtain ⟨h1, o, ho, _⟩ := mem_ready.1 hj
    have := hall j (Array.getElem?_eq_some_iff.1 ho).1
    simp [this] at h1
  | succ fuel ih =>
    intro listed a w I
    refine ⟨fun h0 => ?_, fun i hi => ?_⟩
    · exfalso
      obtain ⟨i, h1, h2⟩ := least_false listed.toList (by rw [I.count]; omega)
      have h1' : listed[i]? = some false := by simpa using h1
      have hil : i < ops.size := by rw [← I.size]; exact (Array.getElem?_eq_some_iff.1 h1').1
      have : i ∈ Region.ready .any ops listed := by
        refine mem_ready.2 ⟨by simp [h1'], ops[i], Array.getElem?_eq_getElem hil, fun e he hb => ?_⟩
        have hlt' := rback_spec hback (Array.getElem?_eq_getElem hil) he hb
        have := h2 e.on hlt'
        have : listed[e.on]? = some true := by simpa using this
        simp [this]
      rw [h0] at this
      cases this
    · obtain ⟨h1, o, ho, hall⟩ := mem_ready.1 hi
      have hil : i < listed.size := by rw [I.size]; exact (Array.getElem?_eq_some_iff.1 ho).1
      have h1' : listed[i]? = some false := by
        rw [Array.getElem?_eq_getElem hil]
        simpa [hil] using h1
      have hpre : ∀ e ∈ o.after, Region.binds .any e = true → listed[e.on]? = some true := fun e he hb => by
        have := hall e he hb
        cases hx : listed[e.on]? with
        | none => simp [hx] at this
        | some b => simp [hx] at this; rw [this]
      refine wpOp_step ho fun K hK => hop i o ho a w I.frame I.le (fun j hj => ?_) (fun j d hj hd => ?_) K (fun v w' hle hT => hK _ _ (ih _ _ _ ?_))
      · unfold rwaits at hj
        simp only [ho] at hj
        obtain ⟨e, he, hb⟩ := Array.any_eq_true'.1 hj
        simp only [Bool.and_eq_true, beq_iff_eq] at hb
        rw [← hb.2]
        exact I.known _ (hpre e he hb.1)
      · unfold rwaits at hj
        cases hoj : ops[j]? with
        | none => simp [hoj] at hj
        | some oj =>
          simp only [hoj] at hj
          obtain ⟨e, he, hb⟩ := Array.any_eq_true'.1 hj
          simp only [Bool.and_eq_true, beq_iff_eq] at hb
          have hjl : j < listed.size := by rw [I.size]; exact (Array.getElem?_eq_some_iff.1 hoj).1
          refine I.old j d ?_ (by rw [hoj] at hd; rw [hoj]; exact hd)
          cases hx : listed[j] with
          | false => rw [Array.getElem?_eq_getElem hjl, hx]
          | true =>
            have := I.closed j oj hoj (by rw [Array.getElem?_eq_getElem hjl, hx]) e he hb.1
            rw [hb.2, h1'] at this
            cases this
      · have hlto : ∀ d, o.dst = some d → d < a.tmps.size := fun d hd => by rw [I.frame.size]; exact hlt d (mem_rdsts ho hd)
        refine ⟨by simpa using I.size, ?_, ?_, ⟨?_, ?_, ?_⟩, htr _ _ _ I.le hle, ?_, ?_⟩
        · have := count_set_true listed.toList i (by simpa using h1')
          have h0 := I.count
          rw [Array.toList_setIfInBounds]
          omega
        · intro j oj hoj hl e he hb
          by_cases hji : j = i
          · subst hji
            rw [ho] at hoj
            obtain rfl := Option.some.inj hoj
            have hon := hpre e he hb
            by_cases hei : e.on = j
            · rw [hei] at hon; rw [h1'] at hon; cases hon
            · rw [Array.getElem?_setIfInBounds_ne (Ne.symm hei)]; exact hon
          · rw [Array.getElem?_setIfInBounds_ne (Ne.symm hji)] at hl
            have hon := I.closed j oj hoj hl e he hb
            by_cases hei : e.on = i
            · rw [hei, h1'] at hon; cases hon
            · rw [Array.getElem?_setIfInBounds_ne (Ne.symm hei)]; exact hon
        · cases hd : o.dst <;> simp [Act.put, I.frame.size]
        · cases hd : o.dst <;> simp [Act.put, I.frame.defers]
        · intro t ht
          cases hd : o.dst with
          | none => exact I.frame.out t ht
          | some d =>
            have : d ≠ t := fun e => ht (e ▸ mem_rdsts ho hd)
            simp only [Act.put]
            rw [Array.getElem?_setIfInBounds_ne this]
            exact I.frame.out t ht
        · intro j hl
          by_cases hji : j = i
          · subst hji; rw [rgot_put_self ho a v hlto]; exact hT
          · rw [Array.getElem?_setIfInBounds_ne (Ne.symm hji)] at hl
            rw [rgot_put_other hap ho hji]
            exact hst _ _ _ _ (I.known j hl) hle
        · intro j d hl hd
          by_cases hji : j = i
          · subst hji
            rw [Array.getElem?_setIfInBounds_self_of_lt hil] at hl
            cases hl
          · rw [Array.getElem?_setIfInBounds_ne (Ne.symm hji)] at hl
            obtain ⟨oj, hoj, hdj⟩ := Option.bind_eq_some_iff.1 hd
            cases hdo : o.dst with
            | none => exact I.old j d hl hd
            | some e =>
              have := rapart_spec hap hoj ho hji hdj hdo
              simp only [Act.put]
              rw [Array.getElem?_setIfInBounds_ne (Ne.symm this)]
              exact I.old j d hl hd

/-- **A REGION THAT DRAWS ITS ORDER, BY WHAT EACH OPERATION DOES WHENEVER IT COMES UP.** -/
theorem wp_region_inv {id : Nat} {w : World} (T : Nat → Value → World → Prop) (Le : World → World → Prop) (hm : P.follows .mixedOrders = true) (hback : rback ops = true) (hap : rapart ops = true) (hlt : (rdsts ops).all (fun d => decide (d < a0.tmps.size)) = true)
    (hrf : Le w.drew w.drew) (htr : ∀ u v w, Le u v → Le v w → Le u w) (hst : ∀ i v w w', T i v w → Le w w' → T i v w')
    (hop : ∀ (i : Nat) (o : Oper), ops[i]? = some o → ROp P ops Q a0 w.drew T Le i o)
    (hfin : ∀ a w', RFrame ops a0 a → Le w.drew w' → (∀ j, j < ops.size → T j (rgot ops a j) w') → Q .normal a w') : (Code.region id ops true).wp P Q a0 w := by
  refine wp_region_any hm (rinv_any (w0 := w.drew) hback hap (fun d hd => of_decide_eq_true (List.all_eq_true.1 hlt d hd)) htr hst hop hfin _ _ _ _ ?_)
  refine ⟨by simp, by simp, fun j o _ h => ?_, ⟨rfl, rfl, fun _ _ => rfl⟩, hrf, fun j h => ?_, fun _ _ _ _ => rfl⟩
  · rw [Array.getElem?_replicate] at h; split at h <;> simp at h
  · rw [Array.getElem?_replicate] at h; split at h <;> simp at h
/-- The same of a region that goes in its own order. -/
theorem rlist_any (hback : rback ops = true) (hap : rapart ops = true) (hlt : ∀ d ∈ rdsts ops, d < a0.tmps.size)
    (htr : ∀ u v w, Le u v → Le v w → Le u w) (hst : ∀ i v w w', T i v w → Le w w' → T i v w')
    (hop : ∀ (i : Nat) (o : Oper), ops[i]? = some o → ROp P ops Q a0 w0 T Le i o)
    (hfin : ∀ a w, RFrame ops a0 a → Le w0 w → (∀ j, j < ops.size → T j (rgot ops a j) w) → Q .normal a w) :
    ∀ (rest : List Oper) (k : Nat) (a : Act) (w : World), (∀ j : Nat, rest[j]? = ops[k + j]?) → RFrame ops a0 a → Le w0 w → (∀ j, j < k → T j (rgot ops a j) w) →
      (∀ (j : Nat) (d : Tmp), k ≤ j → (ops[j]?).bind (·.dst) = some d → a.tmps[d]? = a0.tmps[d]?) → wpList P ops Q rest a w := by
  intro rest
  induction rest with
  | nil =>
    intro k a w hr hF hL hT _
    have hk : ops.size ≤ k := by
      have := hr 0
      simp only [List.getElem?_nil, Nat.add_zero] at this
      exact Array.getElem?_eq_none_iff.1 this.symm
    exact hfin a w hF hL fun j hj => hT j (by omega)
  | cons o rest ih =>
    intro k a w hr hF hL hT hU
    have ho : ops[k]? = some o := by simpa using (hr 0).symm
    have hlto : ∀ d, o.dst = some d → d < a.tmps.size := fun d hd => by rw [hF.size]; exact hlt d (mem_rdsts ho hd)
    have key := hop k o ho a w hF hL (fun j hj => ?_) (fun j d hj hd => ?_) (wpList P ops Q rest) (fun v w' hle hTv => ih (k + 1) _ _ (fun j => ?_) ⟨?_, ?_, ?_⟩ (htr _ _ _ hL hle) (fun j hj => ?_) (fun j d hj hd => ?_))
    · unfold wpList
      by_cases hw : Region.wanted o (yielded ops a.tmps) = true
      · rw [if_pos hw] at key ⊢
        exact .inl key
      · rw [if_neg hw] at key ⊢
        exact key
    · unfold rwaits at hj
      simp only [ho] at hj
      obtain ⟨e, he, hb⟩ := Array.any_eq_true'.1 hj
      simp only [Bool.and_eq_true, beq_iff_eq] at hb
      rw [← hb.2]
      exact hT _ (rback_spec hback ho he hb.1)
    · unfold rwaits at hj
      cases hoj : ops[j]? with
      | none => simp [hoj] at hj
      | some oj =>
        simp only [hoj] at hj
        obtain ⟨e, he, hb⟩ := Array.any_eq_true'.1 hj
        simp only [Bool.and_eq_true, beq_iff_eq] at hb
        have := rback_spec hback hoj he hb.1
        exact hU j d (by omega) hd
    · have := hr (j + 1)
      rw [show k + 1 + j = k + (j + 1) by omega, ← this]
      simp
    · cases hd : o.dst <;> simp [Act.put, hF.size]
    · cases hd : o.dst <;> simp [Act.put, hF.defers]
    · intro t ht
      cases hd : o.dst with
      | none => exact hF.out t ht
      | some d =>
        have : d ≠ t := fun e => ht (e ▸ mem_rdsts ho hd)
        simp only [Act.put]
        rw [Array.getElem?_setIfInBounds_ne this]
        exact hF.out t ht
    · by_cases hji : j = k
      · subst hji; rw [rgot_put_self ho a v hlto]; exact hTv
      · rw [rgot_put_other hap ho hji]
        exact hst _ _ _ _ (hT j (by omega)) hle
    · obtain ⟨oj, hoj, hdj⟩ := Option.bind_eq_some_iff.1 hd
      cases hdo : o.dst with
      | none => exact hU j d (by omega) hd
      | some e =>
        have := rapart_spec hap hoj ho (by omega) hdj hdo
        simp only [Act.put]
        rw [Array.getElem?_setIfInBounds_ne (Ne.symm this)]
        exact hU j d (by omega) hd
theorem wp_region_inv0 {id : Nat} {w : World} (T : Nat → Value → World → Prop) (Le : World → World → Prop) (hback : rback ops = true) (hap : rapart ops = true) (hlt : (rdsts ops).all (fun d => decide (d < a0.tmps.size)) = true)
    (hrf : Le w w) (htr : ∀ u v w, Le u v → Le v w → Le u w) (hst : ∀ i v w w', T i v w → Le w w' → T i v w')
    (hop : ∀ (i : Nat) (o : Oper), ops[i]? = some o → ROp P ops Q a0 w T Le i o)
    (hfin : ∀ a w', RFrame ops a0 a → Le w w' → (∀ j, j < ops.size → T j (rgot ops a j) w') → Q .normal a w') : (Code.region id ops false).wp P Q a0 w :=
  wp_region_list (rlist_any (w0 := w) hback hap (fun d hd => of_decide_eq_true (List.all_eq_true.1 hlt d hd)) htr hst hop hfin ops.toList 0 a0 w (fun j => by simp) ⟨rfl, rfl, fun _ _ => rfl⟩ hrf (fun j hj => absurd hj (by omega)) (fun _ _ _ _ => rfl))
end
end Go.Proofs.YtollcdalokhjaaaDoor
/-! ## A region that draws its order, by a table: of each operation what is known of its value. One short law for each kind of operation. -/
namespace Go.Proofs.YtollcdalokhjaaaDoor
open Go.RowKit

/-- What is known of a value, as long as nothing that was there turns. -/
structure RT where
  p : Value → World → Prop
  st : ∀ v w w', p v w → Below w.heap.size w w' → p v w'
def RT.is (u : Value) : RT := ⟨fun v _ => v = u, fun _ _ _ h _ => h⟩
def RT.any : RT := ⟨fun _ _ => True, fun _ _ _ h _ => h⟩
def RT.row (ts : List ByteArray) : RT := ⟨fun v w => StrRow w v ts, fun _ _ _ h k => h.old k⟩

/-- The obligations, one behind the other. -/
def RAll (P : Program) (ops : Array Oper) (Q : Exit → Act → World → Prop) (a0 : Act) (w0 : World) (T : Nat → Value → World → Prop) (Le : World → World → Prop) : Nat → List Oper → Prop
  | _, [] => True
  | i, o :: l => ROp P ops Q a0 w0 T Le i o ∧ RAll P ops Q a0 w0 T Le (i + 1) l
theorem rall_at {P : Program} {ops : Array Oper} {Q : Exit → Act → World → Prop} {a0 : Act} {w0 : World} {T : Nat → Value → World → Prop} {Le : World → World → Prop} :
    ∀ (l : List Oper) (k : Nat), RAll P ops Q a0 w0 T Le k l → ∀ (i : Nat) (o : Oper), l[i]? = some o → ROp P ops Q a0 w0 T Le (k + i) o
  | [], _, _, i, o, h => by simp at h
  | x :: l, k, ⟨h0, h1⟩, i, o, h => by
    cases i with
    | zero => simp at h; subst h; exact h0
    | succ i =>
      have := rall_at l (k + 1) h1 i o (by simpa using h)
      rwa [show k + (i + 1) = k + 1 + i by omega]

def Le8 (w w' : World) : Prop := Below w.heap.size w w'
def tabT (Ts : List RT) (i : Nat) : Value → World → Prop := (Ts.getD i RT.any).p

theorem wp_region_tab {P : Program} {Q : Exit → Act → World → Prop} {a0 : Act} {id : Nat} {w : World} {l : List Oper} (Ts : List RT) (hm : P.follows .mixedOrders = true) (hback : rback l.toArray = true) (hap : rapart l.toArray = true) (hlt : (rdsts l.toArray).all (fun d => decide (d < a0.tmps.size)) = true)
    (hop : RAll P l.toArray Q a0 w.drew (tabT Ts) Le8 0 l)
    (hfin : ∀ a w', RFrame l.toArray a0 a → Below w.heap.size w w' → (∀ j, j < l.toArray.size → tabT Ts j (rgot l.toArray a j) w') → Q .normal a w') : (Code.region id l.toArray true).wp P Q a0 w := by
  refine wp_region_inv (tabT Ts) Le8 hm hback hap hlt (Below.refl _ _) (fun u v w h k => below_step h (Nat.le_refl _) k) (fun i v w w' h k => (Ts.getD i RT.any).st v w w' h k) (fun i o ho => ?_) (fun a w' hF hL hT => hfin a w' hF ⟨hL.os, hL.tape, hL.output, hL.size, hL.block⟩ hT)
  have := rall_at l 0 hop i o (by simpa using ho)
  rwa [Nat.zero_add] at this

/-- The same of a region that goes in its own order. -/
theorem wp_region_tab0 {P : Program} {Q : Exit → Act → World → Prop} {a0 : Act} {id : Nat} {w : World} {l : List Oper} (Ts : List RT) (hback : rback l.toArray = true) (hap : rapart l.toArray = true) (hlt : (rdsts l.toArray).all (fun d => decide (d < a0.tmps.size)) = true)
    (hop : RAll P l.toArray Q a0 w (tabT Ts) Le8 0 l)
    (hfin : ∀ a w', RFrame l.toArray a0 a → Below w.heap.size w w' → (∀ j, j < l.toArray.size → tabT Ts j (rgot l.toArray a j) w') → Q .normal a w') : (Code.region id l.toArray false).wp P Q a0 w := by
  refine wp_region_inv0 (tabT Ts) Le8 hback hap hlt (Below.refl _ _) (fun u v w h k => below_step h (Nat.le_refl _) k) (fun i v w w' h k => (Ts.getD i RT.any).st v w w' h k) (fun i o ho => ?_) (fun a w' hF hL hT => hfin a w' hF hL hT)
  have := rall_at l 0 hop i o (by simpa using ho)
  rwa [Nat.zero_add] at this

section
variable {P : Program} {ops : Array Oper} {Q : Exit → Act → World → Prop} {a0 a : Act} {w : World} {K : Act → World → Prop} {o : Oper}

/-- A slot that the region does not write. -/
theorem RFrame.at (hF : RFrame ops a0 a) (t : Tmp) (h : (rdsts ops).contains t = false) : a.eval (.tmp t) = a0.eval (.tmp t) := by
  have := hF.out t (by simpa using h)
  simp [Act.eval, this]
theorem RFrame.lit (hF : RFrame ops a0 a) (n : Nat) (h : a0.tmps.size = n) : a = ⟨((List.range n).map fun k => a.eval (.tmp k)).toArray, a0.defers⟩ := by
  have hs := hF.size
  have hd := hF.defers
  obtain ⟨t, d⟩ := a
  simp only at hs hd
  subst hd
  congr 1
  apply Array.ext_getElem?
  intro i
  by_cases hi : i < n
  · simp [hi, Act.eval, show i < t.size by omega]
  · rw [Array.getElem?_eq_none (by omega), Array.getElem?_eq_none (by simp; omega)]

theorem wanted_none (h : o.guard = none) : Region.wanted o (yielded ops a.tmps) = true := by simp [Region.wanted, h]
theorem wanted_of {j : Nat} {b : Bool} {d : Tmp} (hg : o.guard = some (j, b)) (hd : (ops[j]?).bind (·.dst) = some d) (hv : a.eval (.tmp d) = .bool b) : Region.wanted o (yielded ops a.tmps) = true := by
  have : a.tmps[d]? = some (.bool b) := by
    cases h : a.tmps[d]? with
    | none => simp [Act.eval, h, undef] at hv
    | some x => simp [Act.eval, h] at hv; rw [hv]
  simp [Region.wanted, hg, yielded, hd, this]

theorem rop_v {v : Value} {w' : World} (hw : Region.wanted o (yielded ops a.tmps) = true) (hrun : (execOp a.eval o).run P w = .ok (.value v) w') (h : K (a.put o.dst v) w') :
    if Region.wanted o (yielded ops a.tmps) = true then Oper.wp P o a w K Q else K (a.put o.dst undef) w := by
  rw [if_pos hw]
  unfold Oper.wp
  rw [hrun]
  exact h
/-- The call enters the function. -/
def enters (P : Program) (f : FuncId) : Bool := match P.funcs[f]? with
  | some fn => !(fn.name == "runtime.NumGoroutine") && !fn.body.isNone
  | none => false
theorem run_enters {f : FuncId} (h : enters P f = true) (args : Array Value) (w : World) : (callFunc f args).run P w = .ok (.enter f args) w := by
  unfold enters at h
  cases hf : P.funcs[f]? with
  | none => simp [hf] at h
  | some fn =>
    simp only [hf, Bool.and_eq_true, Bool.not_eq_true'] at h
    have h1 : ¬ fn.name = "runtime.NumGoroutine" := by simpa using h.1
    have h2 : ¬ fn.body = none := fun e => by
      have := h.2
      rw [e] at this
      cases this
    simp [callFunc, hf, h1, h2]
theorem rop_call (f : FuncId) (xs : Array Operand) (ts : Array TypeId) (hop : o.op = .call { callee := .value (.func f), args := xs, argTypes := ts }) (args : Array Value) (ha : xs.map a.eval = args) (he : enters P f = true)
    (hw : Region.wanted o (yielded ops a.tmps) = true) (h : Calls P f args w fun e w' => ∃ v, e = .returned v ∧ K (a.put o.dst v) w') :
    if Region.wanted o (yielded ops a.tmps) = true then Oper.wp P o a w K Q else K (a.put o.dst undef) w := by
  rw [if_pos hw]
  unfold Oper.wp
  have hrun : (execOp a.eval o).run P w = .ok (.enter f args) w := by
    have hx := run_enters he args w
    simp [execOp, hop, resolve, invoke, ha, Act.eval, Deferred.ofValue, hx]
  rw [hrun, Oper.upon_enter]
  exact h.mono fun e w' ⟨v, he, hk⟩ => by subst he; exact hk
theorem rop_move (x : Operand) (hop : o.op = .move x) {v : Value} (hx : a.eval x = v) (hw : Region.wanted o (yielded ops a.tmps) = true) (h : K (a.put o.dst v) w) :
    if Region.wanted o (yielded ops a.tmps) = true then Oper.wp P o a w K Q else K (a.put o.dst undef) w :=
  rop_v hw (by simp [execOp, hop, hx]) h
theorem rop_assign (x : Operand) (hop : o.op = .assign x) {v : Value} (hx : a.eval x = v) (hw : Region.wanted o (yielded ops a.tmps) = true) (h : K (a.put o.dst v) w) :
    if Region.wanted o (yielded ops a.tmps) = true then Oper.wp P o a w K Q else K (a.put o.dst undef) w :=
  rop_v hw (by simp [execOp, hop, hx]) h
theorem rop_pick (c x y : Operand) (hop : o.op = .pick c x y) (b : Bool) (hc : a.eval c = .bool b) {v : Value} (hx : (if b = true then a.eval x else a.eval y) = v) (hw : Region.wanted o (yielded ops a.tmps) = true) (h : K (a.put o.dst v) w) :
    if Region.wanted o (yielded ops a.tmps) = true then Oper.wp P o a w K Q else K (a.put o.dst undef) w :=
  rop_v hw (by simp [execOp, hop, hc, asBool, hx]) h
theorem rop_not (t : TypeId) (x : Operand) (hop : o.op = .unOp .not t x) (b : Bool) (hx : a.eval x = .bool b) (hw : Region.wanted o (yielded ops a.tmps) = true) (h : K (a.put o.dst (.bool (!b))) w) :
    if Region.wanted o (yielded ops a.tmps) = true then Oper.wp P o a w K Q else K (a.put o.dst undef) w :=
  rop_v hw (by simp [execOp, hop, hx, Op.unary]) h
theorem rop_load (ty : TypeId) (x : Operand) (hop : o.op = .load ty x) (b off : Nat) (hx : a.eval x = .pointer (some ⟨b, off, none⟩)) (cs : List Value) (d : TypeDesc) (hc : w.rangeAt b off cs) (hu : P.underlying ty = some d) (hd : d.isRow = true) (hi : (P.info? ty).map (·.size) = some cs.length)
    (hw : Region.wanted o (yielded ops a.tmps) = true) (h : K (a.put o.dst (.agg cs.toArray)) w) :
    if Region.wanted o (yielded ops a.tmps) = true then Oper.wp P o a w K Q else K (a.put o.dst undef) w :=
  rop_v hw (by simp [execOp, hop, hx, run_loadAt_mid w b off ty cs d hc hu hd hi]) h
theorem rop_bin (op : BinOp) (ty rt : TypeId) (x y : Operand) (hop : o.op = .binOp op ty x y rt) {u v r : Value} (hx : a.eval x = u) (hy : a.eval y = v) (hg : (eqGuard op ty x y u v).run P w = .ok () w) (hr : (binOp op ty u v).run P w = .ok r w)
    (hw : Region.wanted o (yielded ops a.tmps) = true) (h : K (a.put o.dst r) w) :
    if Region.wanted o (yielded ops a.tmps) = true then Oper.wp P o a w K Q else K (a.put o.dst undef) w :=
  rop_v hw (by simp [execOp, hop, hx, hy, hg, hr]) h
end
theorem eval_const (a : Act) (v : Value) : a.eval (.const v) = v := rfl
theorem le8_refl (w : World) : Le8 w w := Below.refl _ _

theorem info_str : (Tryd.prog.info? 9).map (fun i => (i.zero, i.size)) = some (some (.string ⟨#[]⟩), 1) := by kernel_rfl
/-- A slice that is built of texts. -/
theorem fill_texts (n : Nat) (ss : List ByteArray) (hn : ss.length = n) : Instr.fill (fun i => some (i * 1, 1)) (((List.replicate n (Value.string ⟨#[]⟩))).toArray) ((List.range n).zipWith (fun i s => (i, Value.string s)) ss) = some (ss.map Value.string).toArray := by
  subst hn
  suffices h : ∀ (ss pre : List ByteArray), Instr.fill (fun i => some (i * 1, 1)) ((pre.map Value.string ++ List.replicate ss.length (Value.string ⟨#[]⟩))).toArray ((List.range' pre.length ss.length).zipWith (fun i s => (i, Value.string s)) ss) = some ((pre ++ ss).map Value.string).toArray by
    have := h ss []
    simpa [List.range_eq_range'] using this
  intro ss
  induction ss with
  | nil => intro pre; simp [Instr.fill]
  | cons s ss ih =>
    intro pre
    rw [List.length_cons, List.range'_succ, List.zipWith_cons_cons, Instr.fill]
    simp only [Value.cells, List.size_toArray, List.length_append, List.length_map, List.length_replicate]
    rw [if_neg (by simp)]
    have := ih (pre ++ [s])
    simp only [List.length_append, List.length_singleton] at this
    rw [List.append_assoc, List.singleton_append] at this
    rw [← this]
    congr 1
    rw [← Array.foldl_toList]
    simp [List.replicate_succ]
set_option maxRecDepth 100000 in
theorem run_texts (w : World) (n : Nat) (ss : List ByteArray) (hn : ss.length = n) (h0 : 0 < n) (h9 : n ≤ 1000) :
    (Instr.buildSlice 124 n ((List.range n).zipWith (fun i s => (i, Value.string s)) ss).toArray).run Tryd.prog w = .ok (.slice (some ⟨w.heap.size, 0, none⟩) n n) (w.alloc (.cells (ss.map Value.string).toArray 9)) := by
  obtain ⟨i0, hi, hq⟩ : ∃ i0, Tryd.prog.info? 9 = some i0 ∧ (i0.zero, i0.size) = (some (.string ⟨#[]⟩), 1) := by
    have := info_str
    cases hx : Tryd.prog.info? 9 with
    | none => rw [hx] at this; cases this
    | some i0 => rw [hx] at this; exact ⟨i0, rfl, by simpa using this⟩
  have hz : i0.zero = some (.string ⟨#[]⟩) := congrArg Prod.fst hq
  have hs : i0.size = 1 := congrArg Prod.snd hq
  refine run_buildSlice w _ _ n _ _ i0 _ Tryd.underlying124 hi hz (by rw [hs]; omega) (by rw [hs]; omega) ?_
  rw [hs]
  have := fill_texts n ss hn
  rw [← this]
  congr 1
  apply Array.ext_getElem?
  intro i
  by_cases hin : i < n
  · simp [hin, Value.cells, Nat.mod_one]
  · rw [Array.getElem?_eq_none (by simp; omega), Array.getElem?_eq_none (by simp; omega)]
theorem strRow_texts (w : World) (n : Nat) (ss : List ByteArray) (hn : ss.length = n) (h9 : n ≤ 1000) : StrRow (w.alloc (.cells (ss.map Value.string).toArray 9)) (.slice (some ⟨w.heap.size, 0, none⟩) n n) ss := by
  subst hn
  refine ⟨_, ss.length, rfl, by omega, fun _ => ⟨w.heap.size, 0, rfl, by simp, fun j hj => ?_⟩⟩
  rw [cell_of (heap_alloc_last w _)]
  simp [hj]
theorem rop_texts {ops : Array Oper} {Q : Exit → Act → World → Prop} {a : Act} {w : World} {K : Act → World → Prop} {o : Oper} (n : Nat) (xs : Array (Nat × Operand)) (hop : o.op = .buildSlice 124 n xs) (ss : List ByteArray)
    (hx : (xs.map fun (i, x) => (i, a.eval x)) = ((List.range n).zipWith (fun i s => (i, Value.string s)) ss).toArray) (hn : ss.length = n) (h0 : 0 < n) (h9 : n ≤ 1000)
    (hw : Region.wanted o (yielded ops a.tmps) = true) (h : ∀ v w', Below w.heap.size w w' → StrRow w' v ss → K (a.put o.dst v) w') :
    if Region.wanted o (yielded ops a.tmps) = true then Oper.wp Tryd.prog o a w K Q else K (a.put o.dst undef) w :=
  rop_v (v := .slice (some ⟨w.heap.size, 0, none⟩) n n) (w' := w.alloc (.cells (ss.map Value.string).toArray 9)) hw (by
    have := run_texts w n ss hn h0 h9
    rw [← hx] at this
    simp [execOp, hop, this]) (h _ _ ((Below.refl _ _).alloc (Nat.le_refl _) _) (strRow_texts w n ss hn h9))

theorem rop_len_str {ops : Array Oper} {Q : Exit → Act → World → Prop} {a : Act} {w : World} {K : Act → World → Prop} {o : Oper} (x : Operand) (hop : o.op = .call { callee := .builtin .len, args := #[x], argTypes := #[9] }) (S : ByteArray) (hx : a.eval x = .string S)
    (hw : Region.wanted o (yielded ops a.tmps) = true) (h : K (a.put o.dst (.int .i64 S.size)) w) :
    if Region.wanted o (yielded ops a.tmps) = true then Oper.wp Tryd.prog o a w K Q else K (a.put o.dst undef) w :=
  rop_v hw (by simp [execOp, hop, resolve, invoke, builtin, hx]; go_simp) h
/-- A new slice of bytes 0. -/
def RT.zeros (n : Nat) : RT := ⟨fun v w => ∃ b, v = .slice (some ⟨b, 0, none⟩) n n ∧ w.heap[b]? = some (.cells ((List.replicate n (0 : UInt8)).map u8V).toArray 5 (0, 0)), fun _ _ _ ⟨b, h1, h2⟩ k => ⟨b, h1, (k.block b (Array.getElem?_eq_some_iff.1 h2).1).trans h2⟩⟩
theorem rop_make {ops : Array Oper} {Q : Exit → Act → World → Prop} {a : Act} {w : World} {K : Act → World → Prop} {o : Oper} (x y : Operand) (hop : o.op = .makeSlice 110 x y) (n : Nat) (hn : n ≤ 1000) (hx : a.eval x = .int .i64 n) (hy : a.eval y = .int .i64 n)
    (hw : Region.wanted o (yielded ops a.tmps) = true) (h : ∀ v w', Below w.heap.size w w' → (RT.zeros n).p v w' → K (a.put o.dst v) w') :
    if Region.wanted o (yielded ops a.tmps) = true then Oper.wp Tryd.prog o a w K Q else K (a.put o.dst undef) w :=
  rop_v hw (by simp [execOp, hop, hx, hy, make_bytes n n (Nat.le_refl _) hn w]) (h _ _ ((Below.refl _ _).alloc (Nat.le_refl _) _) ⟨w.heap.size, rfl, heap_alloc_last w _⟩)
theorem rop_zeros_str {ops : Array Oper} {Q : Exit → Act → World → Prop} {a : Act} {w : World} {K : Act → World → Prop} {o : Oper} (x : Operand) (hop : o.op = .convert 110 9 x) (n : Nat) (hx : (RT.zeros n).p (a.eval x) w)
    (hw : Region.wanted o (yielded ops a.tmps) = true) (h : K (a.put o.dst (.string ⟨(List.replicate n (0 : UInt8)).toArray⟩)) w) :
    if Region.wanted o (yielded ops a.tmps) = true then Oper.wp Tryd.prog o a w K Q else K (a.put o.dst undef) w := by
  obtain ⟨b, h1, h2⟩ := hx
  have hc := convert_bytes w b n n (List.replicate n 0) (by simp) (cell_u8 h2)
  exact rop_v hw (by simp [execOp, hop, h1, hc]) h

/-! ### Tests and sums, with their answers -/
theorem below_undrew {w w' : World} (h : Le8 w.drew w') : Below w.heap.size w w' := ⟨h.os, h.tape, h.output, h.size, h.block⟩
theorem eql_str_t (a b : ByteArray) (h : a = b) (w : World) : (binOp .eql 9 (.string a) (.string b)).run Tryd.prog w = .ok (.bool true) w := by
  subst h
  go_simp
theorem eql_str (a b : ByteArray) (w : World) : (binOp .eql 9 (.string a) (.string b)).run Tryd.prog w = .ok (.bool (decide (a = b))) w := by
  by_cases h : a = b
  · rw [decide_eq_true h]; exact eql_str_t a b h w
  · have hl : (a.toList == b.toList) = false := by
      have : a.toList ≠ b.toList := fun e => h (by rw [Lib.toList_data, Lib.toList_data] at e; exact ByteArray.ext (Array.toList_inj.1 e))
      simpa using this
    rw [decide_eq_false h]
    go_simp
theorem eql_bool_t (a b : Bool) (h : a = b) (w : World) : (binOp .eql 4 (.bool a) (.bool b)).run Tryd.prog w = .ok (.bool true) w := by
  subst h
  cases a <;> go_simp
theorem eql_int_t (a b : Int) (h : a = b) (w : World) : (binOp .eql 3 (.int .i64 a) (.int .i64 b)).run Tryd.prog w = .ok (.bool true) w := by
  subst h
  go_simp
theorem add_str (a b : ByteArray) (h : a.size + b.size ≤ 9223372036854775807) (w : World) : (binOp .add 9 (.string a) (.string b)).run Tryd.prog w = .ok (.string (a ++ b)) w := by
  go_simp
theorem guard_str (op : BinOp) (t : TypeId) (x y : Operand) (a b : ByteArray) (w : World) : (eqGuard op t x y (.string a) (.string b)).run Tryd.prog w = .ok () w := by
  unfold eqGuard; cases op <;> simp
theorem guard_bool (op : BinOp) (t : TypeId) (x y : Operand) (a b : Bool) (w : World) : (eqGuard op t x y (.bool a) (.bool b)).run Tryd.prog w = .ok () w := by
  unfold eqGuard; cases op <;> simp
theorem guard_int (op : BinOp) (t : TypeId) (x y : Operand) (k : IntKind) (a b : Int) (w : World) : (eqGuard op t x y (.int k a) (.int k b)).run Tryd.prog w = .ok () w := by
  unfold eqGuard; cases op <;> simp
theorem sub_int (a b c : Int) (h : a - b = c) (hb : -9223372036854775808 ≤ c ∧ c ≤ 9223372036854775807) (w : World) : (binOp .sub 3 (.int .i64 a) (.int .i64 b)).run Tryd.prog w = .ok (.int .i64 c) w := by
  subst h
  have := IntWalk.i64_in (a - b) (by omega)
  go_simp
theorem add_int (a b c : Int) (h : a + b = c) (hb : -9223372036854775808 ≤ c ∧ c ≤ 9223372036854775807) (w : World) : (binOp .add 3 (.int .i64 a) (.int .i64 b)).run Tryd.prog w = .ok (.int .i64 c) w := by
  subst h
  have := IntWalk.i64_in (a + b) (by omega)
  go_simp
/-- The first n bytes of a text: 's[:n]'. -/
theorem rop_cut {ops : Array Oper} {Q : Exit → Act → World → Prop} {a : Act} {w : World} {K : Act → World → Prop} {o : Oper} (x y : Operand) (hop : o.op = .slice 9 x none (some y) none) (S : ByteArray) (n : Nat) (hx : a.eval x = .string S) (hy : a.eval y = .int .i64 n) (hn : n ≤ S.size)
    (hw : Region.wanted o (yielded ops a.tmps) = true) (h : K (a.put o.dst (.string (S.extract 0 n))) w) :
    if Region.wanted o (yielded ops a.tmps) = true then Oper.wp Tryd.prog o a w K Q else K (a.put o.dst undef) w :=
  rop_v hw (by simp [execOp, hop, hx, hy]; go_simp) h
end Go.Proofs.YtollcdalokhjaaaDoor
/-! ## A region that draws its order and holds effects (stores, calls that turn memory) that come in one order: ONE obligation for each operation. The world goes through phases: Ph k, where k effects are over. -/
namespace Go.Proofs.YtollcdalokhjaaaDoor
open Go

section
variable {P : Program} {ops : Array Oper} {Q : Exit → Act → World → Prop} {a0 : Act} {T : Nat → Value → World → Prop} {Lx : World → World → Prop} {E : List Nat} {Ph : Nat → World → Prop}

/-- What an operation must do, whenever it comes up: d: how many effects it is (0 or 1). -/
def ROE (P : Program) (ops : Array Oper) (Q : Exit → Act → World → Prop) (a0 : Act) (T : Nat → Value → World → Prop) (Lx : World → World → Prop) (E : List Nat) (Ph : Nat → World → Prop) (i : Nat) (o : Oper) : Prop :=
  ∀ a w k, RFrame ops a0 a → Ph k w → (∀ j m, E[j]? = some m → (m = i → k = j) ∧ (rwaits ops m i = true → k ≤ j)) → (∀ j, rwaits ops i j = true → T j (rgot ops a j) w) → (∀ (j : Nat) (d : Tmp), rwaits ops j i = true → (ops[j]?).bind (·.dst) = some d → a.tmps[d]? = a0.tmps[d]?) →
    ∀ K : Act → World → Prop, (∀ v w', Lx w w' → Ph (k + if E.contains i then 1 else 0) w' → T i (rval o v) w' → K (a.put o.dst v) w') → if Region.wanted o (yielded ops a.tmps) = true then Oper.wp P o a w K Q else K (a.put o.dst undef) w

structure RInvE (ops : Array Oper) (a0 : Act) (T : Nat → Value → World → Prop) (E : List Nat) (Ph : Nat → World → Prop) (fuel : Nat) (listed : Array Bool) (a : Act) (w : World) (k : Nat) : Prop where
  size : listed.size = ops.size
  count : listed.toList.count false = fuel
  closed : ∀ (j : Nat) (o : Oper), ops[j]? = some o → listed[j]? = some true → ∀ e ∈ o.after, Region.binds .any e = true → listed[e.on]? = some true
  frame : RFrame ops a0 a
  ph : Ph k w
  at_ : ∀ (j m : Nat), E[j]? = some m → (listed[m]? = some true ↔ j < k)
  le : k ≤ E.length
  known : ∀ j : Nat, listed[j]? = some true → T j (rgot ops a j) w
  old : ∀ (j : Nat) (d : Tmp), listed[j]? = some false → (ops[j]?).bind (·.dst) = some d → a.tmps[d]? = a0.tmps[d]?

/-- The effects wait for each other, one behind the other; none comes twice. -/
def rchain (ops : Array Oper) (E : List Nat) : Bool := (E.all fun m => decide (m < ops.size)) && decide E.Nodup && (List.range E.length).all fun j => match E[j]?, E[j + 1]? with
  | some m, some m' => rwaits ops m' m
  | _, _ => true

theorem rinvE_any (hback : rback ops = true) (hap : rapart ops = true) (hlt : ∀ d ∈ rdsts ops, d < a0.tmps.size) (hch : rchain ops E = true)
    (hst : ∀ i v w w', T i v w → Lx w w' → T i v w')
    (hop : ∀ (i : Nat) (o : Oper), ops[i]? = some o → ROE P ops Q a0 T Lx E Ph i o)
    (hfin : ∀ a w, RFrame ops a0 a → Ph E.length w → (∀ j, j < ops.size → T j (rgot ops a j) w) → Q .normal a w) :
    ∀ fuel listed a w k, RInvE ops a0 T E Ph fuel listed a w k → wpAny P .any ops Q fuel listed a w := by
  simp only [rchain, Bool.and_eq_true, decide_eq_true_eq, List.all_eq_true] at hch
  obtain ⟨⟨hEs, hEn⟩, hEc⟩ := hch
  have hchain : ∀ (j m m' : Nat), E[j]? = some m → E[j + 1]? = some m' → rwaits ops m' m = true := by
    intro j m m' h1 h2
    have := hEc j (List.mem_range.2 (List.getElem?_eq_some_iff.1 h1).1)
    rw [h1, h2] at this
    exact this
  have hinj : ∀ (j j' m : Nat), E[j]? = some m → E[j']? = some m → j = j' := by
    intro j j' m h1 h2
    obtain ⟨l1, e1⟩ := List.getElem?_eq_some_iff.1 h1
    obtain ⟨l2, e2⟩ := List.getElem?_eq_some_iff.1 h2
    exact (List.getElem_inj hEn).1 (e1.trans e2.symm)
  intro fuel
  induction fuel with
  | zero =>
    intro listed a w k I
    have hall : ∀ j, j < ops.size → listed[j]? = some true := by
      intro j hj
      have hjl : j < listed.size := by rw [I.size]; exact hj
      have h0 := I.count
      cases hb : listed[j] with
      | true => rw [Array.getElem?_eq_getElem hjl, hb]
      | false =>
        have hm : false ∈ listed.toList := by rw [← hb]; simp
        have := List.count_pos_iff.2 hm
        omega
    have hk : k = E.length := by
      apply Nat.le_antisymm I.le
      apply Nat.le_of_not_lt
      intro hlt'
      have hm := List.getElem?_eq_getElem hlt'
      have hml := hEs _ (List.getElem_mem hlt')
      have := (I.at_ k _ hm).1 (hall _ hml)
      omega
    refine ⟨?_, hfin a w I.frame (hk ▸ I.ph) fun j hj => I.known j (hall j hj)⟩
    rw [List.eq_nil_iff_forall_not_mem]
    intro j hj
    obtain ⟨h1, o, ho, _⟩ := mem_ready.1 hj
    have := hall j (Array.getElem?_eq_some_iff.1 ho).1
    simp [this] at h1
  | succ fuel ih =>
    intro listed a w k I
    refine ⟨fun h0 => ?_, fun i hi => ?_⟩
    · exfalso
      obtain ⟨i, h1, h2⟩ := least_false listed.toList (by rw [I.count]; omega)
      have h1' : listed[i]? = some false := by simpa using h1
      have hil : i < ops.size := by rw [← I.size]; exact (Array.getElem?_eq_some_iff.1 h1').1
      have : i ∈ Region.ready .any ops listed := by
        refine mem_ready.2 ⟨by simp [h1'], ops[i], Array.getElem?_eq_getElem hil, fun e he hb => ?_⟩
        have hlt' := rback_spec hback (Array.getElem?_eq_getElem hil) he hb
        have := h2 e.on hlt'
        have : listed[e.on]? = some true := by simpa using this
        simp [this]
      rw [h0] at this
      cases this
    · obtain ⟨h1, o, ho, hall⟩ := mem_ready.1 hi
      have hil : i < listed.size := by rw [I.size]; exact (Array.getElem?_eq_some_iff.1 ho).1
      have h1' : listed[i]? = some false := by
        rw [Array.getElem?_eq_getElem hil]
        simpa [hil] using h1
      have hpre : ∀ e ∈ o.after, Region.binds .any e = true → listed[e.on]? = some true := fun e he hb => by
        have := hall e he hb
        cases hx : listed[e.on]? with
        | none => simp [hx] at this
        | some b => simp [hx] at this; rw [this]
      have hprew : ∀ m, rwaits ops i m = true → listed[m]? = some true := by
        intro m hm
        unfold rwaits at hm
        simp only [ho] at hm
        obtain ⟨e, he, hb⟩ := Array.any_eq_true'.1 hm
        simp only [Bool.and_eq_true, beq_iff_eq] at hb
        rw [← hb.2]
        exact hpre e he hb.1
      have hpost : ∀ m, rwaits ops m i = true → listed[m]? ≠ some true := by
        intro m hm hl
        unfold rwaits at hm
        cases hom : ops[m]? with
        | none => simp [hom] at hm
        | some om =>
          simp only [hom] at hm
          obtain ⟨e, he, hb⟩ := Array.any_eq_true'.1 hm
          simp only [Bool.and_eq_true, beq_iff_eq] at hb
          have := I.closed m om hom hl e he hb.1
          rw [hb.2, h1'] at this
          cases this
      have hbound : ∀ j m, E[j]? = some m → (m = i → k = j) ∧ (rwaits ops m i = true → k ≤ j) := by
        intro j m hm
        refine ⟨fun e => ?_, fun hw => ?_⟩
        · subst e
          have hnk : ¬ j < k := fun h => by have := (I.at_ j m hm).2 h; rw [h1'] at this; cases this
          cases j with
          | zero => omega
          | succ j =>
            have hlj : j < E.length := by have := (List.getElem?_eq_some_iff.1 hm).1; omega
            have hw := hchain j _ m (List.getElem?_eq_getElem hlj) hm
            have := (I.at_ j _ (List.getElem?_eq_getElem hlj)).1 (hprew _ hw)
            omega
        · have : ¬ j < k := fun h => hpost m hw ((I.at_ j m hm).2 h)
          omega
      refine wpOp_step ho fun K hK => hop i o ho a w k I.frame I.ph hbound (fun j hj => I.known _ (hprew j hj)) (fun j d hj hd => ?_) K (fun v w' hle hph hT => hK _ _ (ih _ _ _ (k + if E.contains i then 1 else 0) ?_))
      · have hne := hpost j hj
        have hoj : j < ops.size := by
          obtain ⟨oj, hoj, _⟩ := Option.bind_eq_some_iff.1 hd
          exact (Array.getElem?_eq_some_iff.1 hoj).1
        have hjl : j < listed.size := by rw [I.size]; exact hoj
        refine I.old j d ?_ hd
        cases hx : listed[j] with
        | false => rw [Array.getElem?_eq_getElem hjl, hx]
        | true => exact absurd (by rw [Array.getElem?_eq_getElem hjl, hx]) hne
      · have hlto : ∀ d, o.dst = some d → d < a.tmps.size := fun d hd => by rw [I.frame.size]; exact hlt d (mem_rdsts ho hd)
        refine ⟨by simpa using I.size, ?_, ?_, ⟨?_, ?_, ?_⟩, hph, ?_, ?_, ?_, ?_⟩
        · have := count_set_true listed.toList i (by simpa using h1')
          have h0 := I.count
          rw [Array.toList_setIfInBounds]
          omega
        · intro j oj hoj hl e he hb
          by_cases hji : j = i
          · subst hji
            rw [ho] at hoj
            obtain rfl := Option.some.inj hoj
            have hon := hpre e he hb
            by_cases hei : e.on = j
            · rw [hei] at hon; rw [h1'] at hon; cases hon
            · rw [Array.getElem?_setIfInBounds_ne (Ne.symm hei)]; exact hon
          · rw [Array.getElem?_setIfInBounds_ne (Ne.symm hji)] at hl
            have hon := I.closed j oj hoj hl e he hb
            by_cases hei : e.on = i
            · rw [hei, h1'] at hon; cases hon
            · rw [Array.getElem?_setIfInBounds_ne (Ne.symm hei)]; exact hon
        · cases hd : o.dst <;> simp [Act.put, I.frame.size]
        · cases hd : o.dst <;> simp [Act.put, I.frame.defers]
        · intro t ht
          cases hd : o.dst with
          | none => exact I.frame.out t ht
          | some d =>
            have : d ≠ t := fun e => ht (e ▸ mem_rdsts ho hd)
            simp only [Act.put]
            rw [Array.getElem?_setIfInBounds_ne this]
            exact I.frame.out t ht
        · intro j m hm
          by_cases hmi : m = i
          · subst hmi
            rw [Array.getElem?_setIfInBounds_self_of_lt hil]
            have hkj := (hbound j m hm).1 rfl
            have hc : E.contains m = true := by simpa using List.mem_of_getElem? hm
            rw [if_pos hc]
            simp; omega
          · rw [Array.getElem?_setIfInBounds_ne (Ne.symm hmi), I.at_ j m hm]
            by_cases hc : E.contains i = true
            · rw [if_pos hc]
              obtain ⟨j', hj'⟩ := List.getElem?_of_mem (List.contains_iff_mem.1 hc)
              have hk' := (hbound j' i hj').1 rfl
              have : j ≠ j' := fun e => hmi (by subst e; rw [hm] at hj'; exact Option.some.inj hj')
              omega
            · rw [if_neg hc]
              exact Iff.rfl
        · by_cases hc : E.contains i = true
          · rw [if_pos hc]
            obtain ⟨j', hj'⟩ := List.getElem?_of_mem (List.contains_iff_mem.1 hc)
            have hk' := (hbound j' i hj').1 rfl
            have := (List.getElem?_eq_some_iff.1 hj').1
            omega
          · rw [if_neg hc]
            exact I.le
        · intro j hl
          by_cases hji : j = i
          · subst hji; rw [rgot_put_self ho a v hlto]; exact hT
          · rw [Array.getElem?_setIfInBounds_ne (Ne.symm hji)] at hl
            rw [rgot_put_other hap ho hji]
            exact hst _ _ _ _ (I.known j hl) hle
        · intro j d hl hd
          by_cases hji : j = i
          · subst hji
            rw [Array.getElem?_setIfInBounds_self_of_lt hil] at hl
            cases hl
          · rw [Array.getElem?_setIfInBounds_ne (Ne.symm hji)] at hl
            obtain ⟨oj, hoj, hdj⟩ := Option.bind_eq_some_iff.1 hd
            cases hdo : o.dst with
            | none => exact I.old j d hl hd
            | some e =>
              have := rapart_spec hap hoj ho hji hdj hdo
              simp only [Act.put]
              rw [Array.getElem?_setIfInBounds_ne (Ne.symm this)]
              exact I.old j d hl hd
end

/-- What is known of a value, as long as the world goes on by Lx. -/
structure RX (Lx : World → World → Prop) where
  p : Value → World → Prop
  st : ∀ v w w', p v w → Lx w w' → p v w'
def RX.is {Lx : World → World → Prop} (u : Value) : RX Lx := ⟨fun v _ => v = u, fun _ _ _ h _ => h⟩
def RX.any {Lx : World → World → Prop} : RX Lx := ⟨fun _ _ => True, fun _ _ _ h _ => h⟩
def tabX {Lx : World → World → Prop} (Ts : List (RX Lx)) (i : Nat) : Value → World → Prop := (Ts.getD i RX.any).p
/-- The obligations, one behind the other. -/
def RAllE (P : Program) (ops : Array Oper) (Q : Exit → Act → World → Prop) (a0 : Act) (T : Nat → Value → World → Prop) (Lx : World → World → Prop) (E : List Nat) (Ph : Nat → World → Prop) : Nat → List Oper → Prop
  | _, [] => True
  | i, o :: l => ROE P ops Q a0 T Lx E Ph i o ∧ RAllE P ops Q a0 T Lx E Ph (i + 1) l
theorem ralle_at {P : Program} {ops : Array Oper} {Q : Exit → Act → World → Prop} {a0 : Act} {T : Nat → Value → World → Prop} {Lx : World → World → Prop} {E : List Nat} {Ph : Nat → World → Prop} :
    ∀ (l : List Oper) (k : Nat), RAllE P ops Q a0 T Lx E Ph k l → ∀ (i : Nat) (o : Oper), l[i]? = some o → ROE P ops Q a0 T Lx E Ph (k + i) o
  | [], _, _, i, o, h => by simp at h
  | x :: l, k, ⟨h0, h1⟩, i, o, h => by
    cases i with
    | zero => simp at h; subst h; exact h0
    | succ i =>
      have := ralle_at l (k + 1) h1 i o (by simpa using h)
      rwa [show k + (i + 1) = k + 1 + i by omega]
/-- **A REGION THAT DRAWS ITS ORDER AND HOLDS EFFECTS.** E: the effects' places; Ph k: the world where k of them are over. -/
theorem wp_region_eff {P : Program} {Q : Exit → Act → World → Prop} {a0 : Act} {id : Nat} {w : World} {l : List Oper} {Lx : World → World → Prop} (Ts : List (RX Lx)) (E : List Nat) (Ph : Nat → World → Prop) (hm : P.follows .mixedOrders = true) (hback : rback l.toArray = true) (hap : rapart l.toArray = true) (hlt : (rdsts l.toArray).all (fun d => decide (d < a0.tmps.size)) = true) (hch : rchain l.toArray E = true)
    (h0 : Ph 0 w.drew)
    (hop : RAllE P l.toArray Q a0 (tabX Ts) Lx E Ph 0 l)
    (hfin : ∀ a w', RFrame l.toArray a0 a → Ph E.length w' → (∀ j, j < l.toArray.size → tabX Ts j (rgot l.toArray a j) w') → Q .normal a w') : (Code.region id l.toArray true).wp P Q a0 w := by
  refine wp_region_any hm (rinvE_any (T := tabX Ts) (Lx := Lx) (E := E) (Ph := Ph) hback hap (fun d hd => of_decide_eq_true (List.all_eq_true.1 hlt d hd)) hch (fun i v w w' h k => (Ts.getD i RX.any).st v w w' h k) (fun i o ho => ?_) hfin _ _ _ _ 0 ?_)
  · have := ralle_at l 0 hop i o (by simpa using ho)
    rwa [Nat.zero_add] at this
  · have hEs : ∀ m ∈ E, m < l.toArray.size := by
      simp only [rchain, Bool.and_eq_true, decide_eq_true_eq, List.all_eq_true] at hch
      exact fun m hm => hch.1.1 m hm
    refine ⟨by simp, by simp, fun j o _ h => ?_, ⟨rfl, rfl, fun _ _ => rfl⟩, h0, fun j m hm => ⟨fun h => ?_, fun h => absurd h (by omega)⟩, Nat.zero_le _, fun j h => ?_, fun _ _ _ _ => rfl⟩
    · rw [Array.getElem?_replicate] at h; split at h <;> simp at h
    · rw [Array.getElem?_replicate] at h; split at h <;> simp at h
    · rw [Array.getElem?_replicate] at h; split at h <;> simp at h
section
variable {P : Program} {ops : Array Oper} {Q : Exit → Act → World → Prop} {a : Act} {w : World} {K : Act → World → Prop} {o : Oper}
theorem rop_idx (t : TypeId) (x y : Operand) (hop : o.op = .indexAddr t x y) {u v r : Value} (hx : a.eval x = u) (hy : a.eval y = v) (hr : (Instr.indexAt t u v).run P w = .ok r w) (hw : Region.wanted o (yielded ops a.tmps) = true) (h : K (a.put o.dst r) w) :
    if Region.wanted o (yielded ops a.tmps) = true then Oper.wp P o a w K Q else K (a.put o.dst undef) w :=
  rop_v hw (by simp [execOp, hop, hx, hy, hr]) h
theorem rop_fld (t : TypeId) (x : Operand) (f : Nat) (hop : o.op = .fieldAddr t x f) {u r : Value} (hx : a.eval x = u) (hr : (Instr.fieldAt t u f).run P w = .ok r w) (hw : Region.wanted o (yielded ops a.tmps) = true) (h : K (a.put o.dst r) w) :
    if Region.wanted o (yielded ops a.tmps) = true then Oper.wp P o a w K Q else K (a.put o.dst undef) w :=
  rop_v hw (by simp [execOp, hop, hx, hr]) h
theorem rop_ld (t : TypeId) (x : Operand) (hop : o.op = .load t x) {u r : Value} (hx : a.eval x = u) (hr : (Instr.loadAt t u).run P w = .ok r w) (hw : Region.wanted o (yielded ops a.tmps) = true) (h : K (a.put o.dst r) w) :
    if Region.wanted o (yielded ops a.tmps) = true then Oper.wp P o a w K Q else K (a.put o.dst undef) w :=
  rop_v hw (by simp [execOp, hop, hx, hr]) h
end
end Go.Proofs.YtollcdalokhjaaaDoor
/-! ## As RegEff, where what is known of a value may depend on how many effects are over. -/
namespace Go.Proofs.YtollcdalokhjaaaDoor
open Go

section
variable {P : Program} {ops : Array Oper} {Q : Exit → Act → World → Prop} {a0 : Act} {T : Nat → Nat → Value → World → Prop} {Lx : Nat → Nat → World → World → Prop} {E : List Nat} {Ph : Nat → World → Prop}

/-- What an operation must do, whenever it comes up: d: how many effects it is (0 or 1). -/
def ROP (P : Program) (ops : Array Oper) (Q : Exit → Act → World → Prop) (a0 : Act) (T : Nat → Nat → Value → World → Prop) (Lx : Nat → Nat → World → World → Prop) (E : List Nat) (Ph : Nat → World → Prop) (i : Nat) (o : Oper) : Prop :=
  ∀ a w k, RFrame ops a0 a → Ph k w → (∀ j m, E[j]? = some m → (m = i → k = j) ∧ (rwaits ops m i = true → k ≤ j)) → (∀ j, rwaits ops i j = true → T j k (rgot ops a j) w) → (∀ (j : Nat) (d : Tmp), rwaits ops j i = true → (ops[j]?).bind (·.dst) = some d → a.tmps[d]? = a0.tmps[d]?) →
    ∀ K : Act → World → Prop, (∀ v w', Lx k (k + if E.contains i then 1 else 0) w w' → Ph (k + if E.contains i then 1 else 0) w' → T i (k + if E.contains i then 1 else 0) (rval o v) w' → K (a.put o.dst v) w') → if Region.wanted o (yielded ops a.tmps) = true then Oper.wp P o a w K Q else K (a.put o.dst undef) w

structure RInvP (ops : Array Oper) (a0 : Act) (T : Nat → Nat → Value → World → Prop) (E : List Nat) (Ph : Nat → World → Prop) (fuel : Nat) (listed : Array Bool) (a : Act) (w : World) (k : Nat) : Prop where
  size : listed.size = ops.size
  count : listed.toList.count false = fuel
  closed : ∀ (j : Nat) (o : Oper), ops[j]? = some o → listed[j]? = some true → ∀ e ∈ o.after, Region.binds .any e = true → listed[e.on]? = some true
  frame : RFrame ops a0 a
  ph : Ph k w
  at_ : ∀ (j m : Nat), E[j]? = some m → (listed[m]? = some true ↔ j < k)
  le : k ≤ E.length
  known : ∀ j : Nat, listed[j]? = some true → T j k (rgot ops a j) w
  old : ∀ (j : Nat) (d : Tmp), listed[j]? = some false → (ops[j]?).bind (·.dst) = some d → a.tmps[d]? = a0.tmps[d]?

/-- The effects wait for each other, one behind the other; none comes twice. -/
def rchainP (ops : Array Oper) (E : List Nat) : Bool := (E.all fun m => decide (m < ops.size)) && decide E.Nodup && (List.range E.length).all fun j => match E[j]?, E[j + 1]? with
  | some m, some m' => rwaits ops m' m
  | _, _ => true

theorem rinvP_any (hback : rback ops = true) (hap : rapart ops = true) (hlt : ∀ d ∈ rdsts ops, d < a0.tmps.size) (hch : rchainP ops E = true)
    (hst : ∀ i v w w' k k', T i k v w → Lx k k' w w' → T i k' v w')
    (hop : ∀ (i : Nat) (o : Oper), ops[i]? = some o → ROP P ops Q a0 T Lx E Ph i o)
    (hfin : ∀ a w, RFrame ops a0 a → Ph E.length w → (∀ j, j < ops.size → T j E.length (rgot ops a j) w) → Q .normal a w) :
    ∀ fuel listed a w k, RInvP ops a0 T E Ph fuel listed a w k → wpAny P .any ops Q fuel listed a w := by
  simp only [rchainP, Bool.and_eq_true, decide_eq_true_eq, List.all_eq_true] at hch
  obtain ⟨⟨hEs, hEn⟩, hEc⟩ := hch
  have hchain : ∀ (j m m' : Nat), E[j]? = some m → E[j + 1]? = some m' → rwaits ops m' m = true := by
    intro j m m' h1 h2
    have := hEc j (List.mem_range.2 (List.getElem?_eq_some_iff.1 h1).1)
    rw [h1, h2] at this
    exact this
  have hinj : ∀ (j j' m : Nat), E[j]? = some m → E[j']? = some m → j = j' := by
    intro j j' m h1 h2
    obtain ⟨l1, e1⟩ := List.getElem?_eq_some_iff.1 h1
    obtain ⟨l2, e2⟩ := List.getElem?_eq_some_iff.1 h2
    exact (List.getElem_inj hEn).1 (e1.trans e2.symm)
  intro fuel
  induction fuel with
  | zero =>
    intro listed a w k I
    have hall : ∀ j, j < ops.size → listed[j]? = some true := by
      intro j hj
      have hjl : j < listed.size := by rw [I.size]; exact hj
      have h0 := I.count
      cases hb : listed[j] with
      | true => rw [Array.getElem?_eq_getElem hjl, hb]
      | false =>
        have hm : false ∈ listed.toList := by rw [← hb]; simp
        have := List.count_pos_iff.2 hm
        omega
    have hk : k = E.length := by
      apply Nat.le_antisymm I.le
      apply Nat.le_of_not_lt
      intro hlt'
      have hm := List.getElem?_eq_getElem hlt'
      have hml := hEs _ (List.getElem_mem hlt')
      have := (I.at_ k _ hm).1 (hall _ hml)
      omega
    refine ⟨?_, hfin a w I.frame (hk ▸ I.ph) fun j hj => hk ▸ I.known j (hall j hj)⟩
    rw [List.eq_nil_iff_forall_not_mem]
    intro j hj
    obtain ⟨h1, o, ho, _⟩ := mem_ready.1 hj
    have := hall j (Array.getElem?_eq_some_iff.1 ho).1
    simp [this] at h1
  | succ fuel ih =>
    intro listed a w k I
    refine ⟨fun h0 => ?_, fun i hi => ?_⟩
    · exfalso
      obtain ⟨i, h1, h2⟩ := least_false listed.toList (by rw [I.count]; omega)
      have h1' : listed[i]? = some false := by simpa using h1
      have hil : i < ops.size := by rw [← I.size]; exact (Array.getElem?_eq_some_iff.1 h1').1
      have : i ∈ Region.ready .any ops listed := by
        refine mem_ready.2 ⟨by simp [h1'], ops[i], Array.getElem?_eq_getElem hil, fun e he hb => ?_⟩
        have hlt' := rback_spec hback (Array.getElem?_eq_getElem hil) he hb
        have := h2 e.on hlt'
        have : listed[e.on]? = some true := by simpa using this
        simp [this]
      rw [h0] at this
      cases this
    · obtain ⟨h1, o, ho, hall⟩ := mem_ready.1 hi
      have hil : i < listed.size := by rw [I.size]; exact (Array.getElem?_eq_some_iff.1 ho).1
      have h1' : listed[i]? = some false := by
        rw [Array.getElem?_eq_getElem hil]
        simpa [hil] using h1
      have hpre : ∀ e ∈ o.after, Region.binds .any e = true → listed[e.on]? = some true := fun e he hb => by
        have := hall e he hb
        cases hx : listed[e.on]? with
        | none => simp [hx] at this
        | some b => simp [hx] at this; rw [this]
      have hprew : ∀ m, rwaits ops i m = true → listed[m]? = some true := by
        intro m hm
        unfold rwaits at hm
        simp only [ho] at hm
        obtain ⟨e, he, hb⟩ := Array.any_eq_true'.1 hm
        simp only [Bool.and_eq_true, beq_iff_eq] at hb
        rw [← hb.2]
        exact hpre e he hb.1
      have hpost : ∀ m, rwaits ops m i = true → listed[m]? ≠ some true := by
        intro m hm hl
        unfold rwaits at hm
        cases hom : ops[m]? with
        | none => simp [hom] at hm
        | some om =>
          simp only [hom] at hm
          obtain ⟨e, he, hb⟩ := Array.any_eq_true'.1 hm
          simp only [Bool.and_eq_true, beq_iff_eq] at hb
          have := I.closed m om hom hl e he hb.1
          rw [hb.2, h1'] at this
          cases this
      have hbound : ∀ j m, E[j]? = some m → (m = i → k = j) ∧ (rwaits ops m i = true → k ≤ j) := by
        intro j m hm
        refine ⟨fun e => ?_, fun hw => ?_⟩
        · subst e
          have hnk : ¬ j < k := fun h => by have := (I.at_ j m hm).2 h; rw [h1'] at this; cases this
          cases j with
          | zero => omega
          | succ j =>
            have hlj : j < E.length := by have := (List.getElem?_eq_some_iff.1 hm).1; omega
            have hw := hchain j _ m (List.getElem?_eq_getElem hlj) hm
            have := (I.at_ j _ (List.getElem?_eq_getElem hlj)).1 (hprew _ hw)
            omega
        · have : ¬ j < k := fun h => hpost m hw ((I.at_ j m hm).2 h)
          omega
      refine wpOp_step ho fun K hK => hop i o ho a w k I.frame I.ph hbound (fun j hj => I.known _ (hprew j hj)) (fun j d hj hd => ?_) K (fun v w' hle hph hT => hK _ _ (ih _ _ _ (k + if E.contains i then 1 else 0) ?_))
      · have hne := hpost j hj
        have hoj : j < ops.size := by
          obtain ⟨oj, hoj, _⟩ := Option.bind_eq_some_iff.1 hd
          exact (Array.getElem?_eq_some_iff.1 hoj).1
        have hjl : j < listed.size := by rw [I.size]; exact hoj
        refine I.old j d ?_ hd
        cases hx : listed[j] with
        | false => rw [Array.getElem?_eq_getElem hjl, hx]
        | true => exact absurd (by rw [Array.getElem?_eq_getElem hjl, hx]) hne
      · have hlto : ∀ d, o.dst = some d → d < a.tmps.size := fun d hd => by rw [I.frame.size]; exact hlt d (mem_rdsts ho hd)
        refine ⟨by simpa using I.size, ?_, ?_, ⟨?_, ?_, ?_⟩, hph, ?_, ?_, ?_, ?_⟩
        · have := count_set_true listed.toList i (by simpa using h1')
          have h0 := I.count
          rw [Array.toList_setIfInBounds]
          omega
        · intro j oj hoj hl e he hb
          by_cases hji : j = i
          · subst hji
            rw [ho] at hoj
            obtain rfl := Option.some.inj hoj
            have hon := hpre e he hb
            by_cases hei : e.on = j
            · rw [hei] at hon; rw [h1'] at hon; cases hon
            · rw [Array.getElem?_setIfInBounds_ne (Ne.symm hei)]; exact hon
          · rw [Array.getElem?_setIfInBounds_ne (Ne.symm hji)] at hl
            have hon := I.closed j oj hoj hl e he hb
            by_cases hei : e.on = i
            · rw [hei, h1'] at hon; cases hon
            · rw [Array.getElem?_setIfInBounds_ne (Ne.symm hei)]; exact hon
        · cases hd : o.dst <;> simp [Act.put, I.frame.size]
        · cases hd : o.dst <;> simp [Act.put, I.frame.defers]
        · intro t ht
          cases hd : o.dst with
          | none => exact I.frame.out t ht
          | some d =>
            have : d ≠ t := fun e => ht (e ▸ mem_rdsts ho hd)
            simp only [Act.put]
            rw [Array.getElem?_setIfInBounds_ne this]
            exact I.frame.out t ht
        · intro j m hm
          by_cases hmi : m = i
          · subst hmi
            rw [Array.getElem?_setIfInBounds_self_of_lt hil]
            have hkj := (hbound j m hm).1 rfl
            have hc : E.contains m = true := by simpa using List.mem_of_getElem? hm
            rw [if_pos hc]
            simp; omega
          · rw [Array.getElem?_setIfInBounds_ne (Ne.symm hmi), I.at_ j m hm]
            by_cases hc : E.contains i = true
            · rw [if_pos hc]
              obtain ⟨j', hj'⟩ := List.getElem?_of_mem (List.contains_iff_mem.1 hc)
              have hk' := (hbound j' i hj').1 rfl
              have : j ≠ j' := fun e => hmi (by subst e; rw [hm] at hj'; exact Option.some.inj hj')
              omega
            · rw [if_neg hc]
              exact Iff.rfl
        · by_cases hc : E.contains i = true
          · rw [if_pos hc]
            obtain ⟨j', hj'⟩ := List.getElem?_of_mem (List.contains_iff_mem.1 hc)
            have hk' := (hbound j' i hj').1 rfl
            have := (List.getElem?_eq_some_iff.1 hj').1
            omega
          · rw [if_neg hc]
            exact I.le
        · intro j hl
          by_cases hji : j = i
          · subst hji; rw [rgot_put_self ho a v hlto]; exact hT
          · rw [Array.getElem?_setIfInBounds_ne (Ne.symm hji)] at hl
            rw [rgot_put_other hap ho hji]
            exact hst _ _ _ _ _ _ (I.known j hl) hle
        · intro j d hl hd
          by_cases hji : j = i
          · subst hji
            rw [Array.getElem?_setIfInBounds_self_of_lt hil] at hl
            cases hl
          · rw [Array.getElem?_setIfInBounds_ne (Ne.symm hji)] at hl
            obtain ⟨oj, hoj, hdj⟩ := Option.bind_eq_some_iff.1 hd
            cases hdo : o.dst with
            | none => exact I.old j d hl hd
            | some e =>
              have := rapart_spec hap hoj ho hji hdj hdo
              simp only [Act.put]
              rw [Array.getElem?_setIfInBounds_ne (Ne.symm this)]
              exact I.old j d hl hd
end

/-- What is known of a value, as long as the world goes on by Lx. -/
structure RXP (Lx : Nat → Nat → World → World → Prop) where
  p : Nat → Value → World → Prop
  st : ∀ v w w' k k', p k v w → Lx k k' w w' → p k' v w'
def RXP.is {Lx : Nat → Nat → World → World → Prop} (u : Value) : RXP Lx := ⟨fun _ v _ => v = u, fun _ _ _ _ _ h _ => h⟩
def RXP.any {Lx : Nat → Nat → World → World → Prop} : RXP Lx := ⟨fun _ _ _ => True, fun _ _ _ _ _ h _ => h⟩
def tabXP {Lx : Nat → Nat → World → World → Prop} (Ts : List (RXP Lx)) (i : Nat) : Nat → Value → World → Prop := (Ts.getD i RXP.any).p
/-- The obligations, one behind the other. -/
def RAllP (P : Program) (ops : Array Oper) (Q : Exit → Act → World → Prop) (a0 : Act) (T : Nat → Nat → Value → World → Prop) (Lx : Nat → Nat → World → World → Prop) (E : List Nat) (Ph : Nat → World → Prop) : Nat → List Oper → Prop
  | _, [] => True
  | i, o :: l => ROP P ops Q a0 T Lx E Ph i o ∧ RAllP P ops Q a0 T Lx E Ph (i + 1) l
theorem rallp_at {P : Program} {ops : Array Oper} {Q : Exit → Act → World → Prop} {a0 : Act} {T : Nat → Nat → Value → World → Prop} {Lx : Nat → Nat → World → World → Prop} {E : List Nat} {Ph : Nat → World → Prop} :
    ∀ (l : List Oper) (k : Nat), RAllP P ops Q a0 T Lx E Ph k l → ∀ (i : Nat) (o : Oper), l[i]? = some o → ROP P ops Q a0 T Lx E Ph (k + i) o
  | [], _, _, i, o, h => by simp at h
  | x :: l, k, ⟨h0, h1⟩, i, o, h => by
    cases i with
    | zero => simp at h; subst h; exact h0
    | succ i =>
      have := rallp_at l (k + 1) h1 i o (by simpa using h)
      rwa [show k + (i + 1) = k + 1 + i by omega]
/-- **A REGION THAT DRAWS ITS ORDER AND HOLDS EFFECTS.** E: the effects' places; Ph k: the world where k of them are over. -/
theorem wp_region_ph {P : Program} {Q : Exit → Act → World → Prop} {a0 : Act} {id : Nat} {w : World} {l : List Oper} {Lx : Nat → Nat → World → World → Prop} (Ts : List (RXP Lx)) (E : List Nat) (Ph : Nat → World → Prop) (hm : P.follows .mixedOrders = true) (hback : rback l.toArray = true) (hap : rapart l.toArray = true) (hlt : (rdsts l.toArray).all (fun d => decide (d < a0.tmps.size)) = true) (hch : rchainP l.toArray E = true)
    (h0 : Ph 0 w.drew)
    (hop : RAllP P l.toArray Q a0 (tabXP Ts) Lx E Ph 0 l)
    (hfin : ∀ a w', RFrame l.toArray a0 a → Ph E.length w' → (∀ j, j < l.toArray.size → tabXP Ts j E.length (rgot l.toArray a j) w') → Q .normal a w') : (Code.region id l.toArray true).wp P Q a0 w := by
  refine wp_region_any hm (rinvP_any (T := tabXP Ts) (Lx := Lx) (E := E) (Ph := Ph) hback hap (fun d hd => of_decide_eq_true (List.all_eq_true.1 hlt d hd)) hch (fun i v w w' k k' h hx => (Ts.getD i RXP.any).st v w w' k k' h hx) (fun i o ho => ?_) hfin _ _ _ _ 0 ?_)
  · have := rallp_at l 0 hop i o (by simpa using ho)
    rwa [Nat.zero_add] at this
  · have hEs : ∀ m ∈ E, m < l.toArray.size := by
      simp only [rchainP, Bool.and_eq_true, decide_eq_true_eq, List.all_eq_true] at hch
      exact fun m hm => hch.1.1 m hm
    refine ⟨by simp, by simp, fun j o _ h => ?_, ⟨rfl, rfl, fun _ _ => rfl⟩, h0, fun j m hm => ⟨fun h => ?_, fun h => absurd h (by omega)⟩, Nat.zero_le _, fun j h => ?_, fun _ _ _ _ => rfl⟩
    · rw [Array.getElem?_replicate] at h; split at h <;> simp at h
    · rw [Array.getElem?_replicate] at h; split at h <;> simp at h
    · rw [Array.getElem?_replicate] at h; split at h <;> simp at h
end Go.Proofs.YtollcdalokhjaaaDoor
/-! ## A region that goes in its own order and holds effects, by phases: as RegPh, but nothing is drawn. -/
namespace Go.Proofs.YtollcdalokhjaaaDoor
open Go

section
variable {P : Program} {ops : Array Oper} {Q : Exit → Act → World → Prop} {a0 : Act} {T : Nat → Nat → Value → World → Prop} {Lx : Nat → Nat → World → World → Prop} {E : List Nat} {Ph : Nat → World → Prop}

/-- How many of the effects lie ahead of place k. -/
def rcount (E : List Nat) (k : Nat) : Nat := (E.filter (fun m => decide (m < k))).length
theorem rcount_cons (e : Nat) (E : List Nat) (k : Nat) : rcount (e :: E) k = (if e < k then 1 else 0) + rcount E k := by
  unfold rcount
  by_cases h : e < k
  · rw [List.filter_cons_of_pos (by simpa using h), if_pos h, List.length_cons, Nat.add_comm]
  · rw [List.filter_cons_of_neg (by simpa using h), if_neg h, Nat.zero_add]
theorem rcount_low : ∀ (E : List Nat) (k : Nat), (∀ m ∈ E, k ≤ m) → rcount E k = 0
  | [], _, _ => rfl
  | e :: E, k, h => by
    rw [rcount_cons, rcount_low E k fun m hm => h m (List.mem_cons_of_mem _ hm), if_neg (by have := h e (by simp); omega)]
theorem rcount_at : ∀ (E : List Nat) (k j m : Nat), E.Pairwise (· < ·) → E[j]? = some m → (m < k ↔ j < rcount E k)
  | [], _, _, _, _, h => by simp at h
  | e :: E, k, j, m, hs, h => by
    obtain ⟨he, hs'⟩ := List.pairwise_cons.1 hs
    rw [rcount_cons]
    by_cases hk : e < k
    · rw [if_pos hk]
      cases j with
      | zero => simp at h; subst h; omega
      | succ j =>
        have := rcount_at E k j m hs' (by simpa using h)
        omega
    · rw [if_neg hk, rcount_low E k fun m hm => by have := he m hm; omega]
      cases j with
      | zero => simp at h; subst h; omega
      | succ j =>
        have := he m (List.mem_of_getElem? (by simpa using h))
        omega
theorem rcount_succ : ∀ (E : List Nat) (k : Nat), E.Pairwise (· < ·) → rcount E (k + 1) = rcount E k + if E.contains k then 1 else 0
  | [], _, _ => rfl
  | e :: E, k, hs => by
    obtain ⟨he, hs'⟩ := List.pairwise_cons.1 hs
    rw [rcount_cons, rcount_cons]
    by_cases hk : e = k
    · subst hk
      rw [rcount_low E (e + 1) fun m hm => he m hm, rcount_low E e fun m hm => Nat.le_of_lt (he m hm)]
      simp
    · rw [rcount_succ E k hs', List.contains_cons]
      have hb : (k == e) = false := by simp; omega
      rw [hb, Bool.false_or]
      by_cases h2 : e < k
      · rw [if_pos h2, if_pos (by omega), Nat.add_assoc]
      · rw [if_neg h2, if_neg (by omega), Nat.add_assoc]
theorem rcount_all (E : List Nat) (k : Nat) (h : ∀ m ∈ E, m < k) : rcount E k = E.length := by
  unfold rcount
  rw [List.filter_eq_self.2 (fun m hm => by simpa using h m hm)]

theorem rlistP_any (hback : rback ops = true) (hap : rapart ops = true) (hlt : ∀ d ∈ rdsts ops, d < a0.tmps.size) (hEs : ∀ m ∈ E, m < ops.size) (hEo : E.Pairwise (· < ·))
    (hst : ∀ i v w w' k k', T i k v w → Lx k k' w w' → T i k' v w')
    (hop : ∀ (i : Nat) (o : Oper), ops[i]? = some o → ROP P ops Q a0 T Lx E Ph i o)
    (hfin : ∀ a w, RFrame ops a0 a → Ph E.length w → (∀ j, j < ops.size → T j E.length (rgot ops a j) w) → Q .normal a w) :
    ∀ (rest : List Oper) (k : Nat) (a : Act) (w : World), (∀ j : Nat, rest[j]? = ops[k + j]?) → RFrame ops a0 a → Ph (rcount E k) w → (∀ j, j < k → T j (rcount E k) (rgot ops a j) w) →
      (∀ (j : Nat) (d : Tmp), k ≤ j → (ops[j]?).bind (·.dst) = some d → a.tmps[d]? = a0.tmps[d]?) → wpList P ops Q rest a w := by
  intro rest
  induction rest with
  | nil =>
    intro k a w hr hF hL hT _
    have hk : ops.size ≤ k := by
      have := hr 0
      simp only [List.getElem?_nil, Nat.add_zero] at this
      exact Array.getElem?_eq_none_iff.1 this.symm
    rw [rcount_all E k fun m hm => Nat.lt_of_lt_of_le (hEs m hm) hk] at hL hT
    exact hfin a w hF hL fun j hj => hT j (by omega)
  | cons o rest ih =>
    intro k a w hr hF hL hT hU
    have ho : ops[k]? = some o := by simpa using (hr 0).symm
    have hlto : ∀ d, o.dst = some d → d < a.tmps.size := fun d hd => by rw [hF.size]; exact hlt d (mem_rdsts ho hd)
    have hbound : ∀ j m, E[j]? = some m → (m = k → rcount E k = j) ∧ (rwaits ops m k = true → rcount E k ≤ j) := by
      intro j m hm
      have h1 := rcount_at E k j m hEo hm
      have h2 := rcount_at E (k + 1) j m hEo hm
      have h3 := rcount_succ E k hEo
      refine ⟨fun e => ?_, fun hw => ?_⟩
      · subst e
        have hc : E.contains m = true := by simpa using List.mem_of_getElem? hm
        rw [if_pos hc] at h3
        omega
      · have : ¬ m < k := fun h => by
          unfold rwaits at hw
          cases hom : ops[m]? with
          | none => simp [hom] at hw
          | some om =>
            simp only [hom] at hw
            obtain ⟨e, he, hb⟩ := Array.any_eq_true'.1 hw
            simp only [Bool.and_eq_true, beq_iff_eq] at hb
            have := rback_spec hback hom he hb.1
            omega
        omega
    have key := hop k o ho a w (rcount E k) hF hL hbound (fun j hj => ?_) (fun j d hj hd => ?_) (wpList P ops Q rest) (fun v w' hle hph hTv => ih (k + 1) _ _ (fun j => ?_) ⟨?_, ?_, ?_⟩ (by rw [rcount_succ E k hEo]; exact hph) (fun j hj => ?_) (fun j d hj hd => ?_))
    · unfold wpList
      by_cases hw : Region.wanted o (yielded ops a.tmps) = true
      · rw [if_pos hw] at key ⊢
        exact .inl key
      · rw [if_neg hw] at key ⊢
        exact key
    · unfold rwaits at hj
      simp only [ho] at hj
      obtain ⟨e, he, hb⟩ := Array.any_eq_true'.1 hj
      simp only [Bool.and_eq_true, beq_iff_eq] at hb
      rw [← hb.2]
      exact hT _ (rback_spec hback ho he hb.1)
    · unfold rwaits at hj
      cases hoj : ops[j]? with
      | none => simp [hoj] at hj
      | some oj =>
        simp only [hoj] at hj
        obtain ⟨e, he, hb⟩ := Array.any_eq_true'.1 hj
        simp only [Bool.and_eq_true, beq_iff_eq] at hb
        have := rback_spec hback hoj he hb.1
        exact hU j d (by omega) hd
    · have := hr (j + 1)
      rw [show k + 1 + j = k + (j + 1) by omega, ← this]
      simp
    · cases hd : o.dst <;> simp [Act.put, hF.size]
    · cases hd : o.dst <;> simp [Act.put, hF.defers]
    · intro t ht
      cases hd : o.dst with
      | none => exact hF.out t ht
      | some d =>
        have : d ≠ t := fun e => ht (e ▸ mem_rdsts ho hd)
        simp only [Act.put]
        rw [Array.getElem?_setIfInBounds_ne this]
        exact hF.out t ht
    · rw [rcount_succ E k hEo]
      by_cases hji : j = k
      · subst hji; rw [rgot_put_self ho a v hlto]; exact hTv
      · rw [rgot_put_other hap ho hji]
        exact hst _ _ _ _ _ _ (hT j (by omega)) hle
    · obtain ⟨oj, hoj, hdj⟩ := Option.bind_eq_some_iff.1 hd
      cases hdo : o.dst with
      | none => exact hU j d (by omega) hd
      | some e =>
        have := rapart_spec hap hoj ho (by omega) hdj hdo
        simp only [Act.put]
        rw [Array.getElem?_setIfInBounds_ne (Ne.symm this)]
        exact hU j d (by omega) hd
end
/-- **A REGION THAT GOES IN ITS OWN ORDER AND HOLDS EFFECTS.** E: the effects' places, rising; Ph k: the world where k of them are over. -/
theorem wp_region_ph0 {P : Program} {Q : Exit → Act → World → Prop} {a0 : Act} {id : Nat} {w : World} {l : List Oper} {Lx : Nat → Nat → World → World → Prop} (Ts : List (RXP Lx)) (E : List Nat) (Ph : Nat → World → Prop) (hback : rback l.toArray = true) (hap : rapart l.toArray = true) (hlt : (rdsts l.toArray).all (fun d => decide (d < a0.tmps.size)) = true) (hEs : (E.all fun m => decide (m < l.toArray.size)) = true) (hEo : decide (E.Pairwise (· < ·)) = true)
    (h0 : Ph 0 w)
    (hop : RAllP P l.toArray Q a0 (tabXP Ts) Lx E Ph 0 l)
    (hfin : ∀ a w', RFrame l.toArray a0 a → Ph E.length w' → (∀ j, j < l.toArray.size → tabXP Ts j E.length (rgot l.toArray a j) w') → Q .normal a w') : (Code.region id l.toArray false).wp P Q a0 w := by
  refine wp_region_list (rlistP_any (T := tabXP Ts) (Lx := Lx) (E := E) (Ph := Ph) hback hap (fun d hd => of_decide_eq_true (List.all_eq_true.1 hlt d hd)) (fun m hm => of_decide_eq_true (List.all_eq_true.1 hEs m hm)) (of_decide_eq_true hEo) (fun i v w w' k k' h hx => (Ts.getD i RXP.any).st v w w' k k' h hx) (fun i o ho => ?_) hfin l 0 a0 w (fun j => by simp) ⟨rfl, rfl, fun _ _ => rfl⟩ ?_ (fun j hj => absurd hj (by omega)) (fun _ _ _ _ => rfl))
  · have := rallp_at l 0 hop i o (by simpa using ho)
    rwa [Nat.zero_add] at this
  · rw [rcount_low E 0 fun m _ => Nat.zero_le m]
    exact h0
end Go.Proofs.YtollcdalokhjaaaDoor
/-! ## Arrays of numbers are compared. -/
namespace Go.Proofs.YtollcdalokhjaaaDoor
open Go.RowKit


theorem mapM_of {α β : Type} {f : α → Option β} {g : α → β} : ∀ l : List α, (∀ x ∈ l, f x = some (g x)) → l.mapM f = some (l.map g)
  | [], _ => rfl
  | x :: l, h => by
    rw [List.mapM_cons, h x List.mem_cons_self, mapM_of l fun y hy => h y (List.mem_cons_of_mem _ hy)]
    rfl
theorem range_getD {α : Type} (l : List α) (d : α) : (List.range l.length).map (fun i => l.getD i d) = l := by
  apply List.ext_getElem?
  intro i
  by_cases hi : i < l.length
  · simp [hi]
  · rw [List.getElem?_eq_none (by simp; omega), List.getElem?_eq_none (by omega)]
theorem keyLits_ints {P : Program} {t e : TypeId} {n : Nat} {k : IntKind} (ht : P.underlying t = some (.array n e)) (he : P.underlying e = some (.int k)) (hce : P.cellsOf e = 1) (hct : P.cellsOf t = n) (l : List Int) (hl : l.length = n) (hw : ∀ z ∈ l, (Lit.int k z).wf = true) :
    P.keyLits 2 t (l.map (Value.int k)) = some (l.map (Lit.int k)) := by
  subst hl
  unfold Program.keyLits
  simp only [ht, hct, hce, List.length_map, if_true, Nat.mul_one]
  rw [mapM_of (g := fun i => [Lit.int k (l.getD i 0)])]
  · have e1 : ((List.range l.length).map fun i => [Lit.int k (l.getD i 0)]).flatten = ((List.range l.length).map fun i => l.getD i 0).map (Lit.int k) := by
      rw [List.map_map]
      induction (List.range l.length) with
      | nil => rfl
      | cons x r ih => simp only [List.map_cons, List.flatten_cons, ih]; rfl
    simp only [Option.map_some, e1, range_getD]
  · intro i hi
    have hi' : i < l.length := List.mem_range.1 hi
    have ed : ((l.map (Value.int k)).drop i).take 1 = [Value.int k (l.getD i 0)] := by
      rw [List.drop_eq_getElem_cons (by simpa using hi')]
      simp [hi']
    rw [ed]
    unfold Program.keyLits
    have hz : (Lit.int k (l.getD i 0)).wf = true := hw _ (by rw [List.getD_eq_getElem?_getD, List.getElem?_eq_getElem hi']; exact List.getElem_mem hi')
    simp only [he]
    rw [if_pos ⟨trivial, hz⟩]
theorem map_int_inj {k : IntKind} {a b : List Int} (h : a.map (Lit.int k) = b.map (Lit.int k)) : a = b :=
  List.map_inj_right (f := Lit.int k) (fun x y e => by injection e) |>.1 h
/-- Two arrays of numbers. -/
theorem eql_ints {P : Program} {t e : TypeId} {n : Nat} {k : IntKind} (ht : P.underlying t = some (.array n e)) (he : P.underlying e = some (.int k)) (hce : P.cellsOf e = 1) (hct : P.cellsOf t = n) (a b : List Int) (ha : a.length = n) (hb : b.length = n) (wa : ∀ z ∈ a, (Lit.int k z).wf = true) (wb : ∀ z ∈ b, (Lit.int k z).wf = true)
    (hk : P.keyTypeAt 2 t = true) (w : World) :
    (Op.equalIn 10000 t (.agg (a.map (Value.int k)).toArray) (.agg (b.map (Value.int k)).toArray)).run P w = .ok (decide (a = b)) w := by
  have hf : ∀ c : List Int, c.length = n → (Value.agg (c.map (Value.int k)).toArray).formed P t = true := fun c hc => by simp [Value.formed, ht, hct, hc]
  obtain ⟨r, hr, hiff⟩ := run_equalIn_deep (P := P) 9998 2 t hk w 2 2 _ _ _ _ (hf a ha) (hf b hb) (keyLits_ints ht he hce hct a ha wa) (keyLits_ints ht he hce hct b hb wb)
  rw [hr]
  congr 1
  by_cases e : a = b
  · rw [decide_eq_true e]; exact hiff.2 (by rw [e])
  · rw [decide_eq_false e]
    cases r with
    | false => rfl
    | true => exact absurd (map_int_inj (hiff.1 rfl)) e
def toInts (l : List UInt8) : List Int := l.map fun x => (x.toNat : Int)
theorem toInts_inj {a b : List UInt8} (h : toInts a = toInts b) : a = b :=
  List.map_inj_right (f := fun x : UInt8 => (x.toNat : Int)) (fun x y e => UInt8.toNat_inj.1 (by omega)) |>.1 h
theorem wf_u8 (l : List UInt8) : ∀ z ∈ toInts l, (Lit.int .u8 z).wf = true := by
  intro z hz
  obtain ⟨x, _, rfl⟩ := List.mem_map.1 hz
  have := x.toNat_lt
  simp [Lit.wf, IntKind.min, IntKind.max, IntKind.signed, IntKind.bits]
  omega
end Go.Proofs.YtollcdalokhjaaaDoor
/-! ## More operations of regions that go by a table (any slice's type), frames of many slots, effects of which the last one may turn a block of the call's own. -/
namespace Go.Proofs.YtollcdalokhjaaaDoor
open Go.RowKit

section
variable {ops : Array Oper} {Q : Exit → Act → World → Prop} {a : Act} {w w' : World} {K : Act → World → Prop} {o : Oper}
theorem rop_nilG (x : Operand) (hop : o.op = .nilCheck x) {b : Addr} (hx : a.eval x = .pointer (some b)) (hw : Region.wanted o (yielded ops a.tmps) = true) (h : K (a.put o.dst (.pointer (some b))) w) :
    if Region.wanted o (yielded ops a.tmps) = true then Oper.wp Tryd.prog o a w K Q else K (a.put o.dst undef) w :=
  rop_v hw (by simp [execOp, hop, hx]) h
theorem rop_sliceG (t : TypeId) (x : Operand) (lo hi mx : Option Operand) (hop : o.op = .slice t x lo hi mx) {u r : Value} {lo' hi' mx' : Option Value} (hx : a.eval x = u) (h1 : lo.map a.eval = lo') (h2 : hi.map a.eval = hi') (h3 : mx.map a.eval = mx') (hr : (Instr.sliceAt t u lo' hi' mx').run Tryd.prog w = .ok r w)
    (hw : Region.wanted o (yielded ops a.tmps) = true) (h : K (a.put o.dst r) w) : if Region.wanted o (yielded ops a.tmps) = true then Oper.wp Tryd.prog o a w K Q else K (a.put o.dst undef) w :=
  rop_v hw (by simp [execOp, hop, hx, h1, h2, h3, hr]) h
theorem rop_lenG (x : Operand) {t e : TypeId} (hu : Tryd.prog.underlying t = some (.slice e)) (hop : o.op = .call { callee := .builtin .len, args := #[x], argTypes := #[t] }) {va : Option Addr} {n cap : Nat} (hx : a.eval x = .slice va n cap) (hw : Region.wanted o (yielded ops a.tmps) = true) (h : K (a.put o.dst (.int .i64 n)) w) :
    if Region.wanted o (yielded ops a.tmps) = true then Oper.wp Tryd.prog o a w K Q else K (a.put o.dst undef) w :=
  rop_v hw (by simp [execOp, hop, resolve, invoke, builtin, hx, Builtin.len_, run_underlying hu, goInt]) h
theorem rop_offG {j : Nat} {b c : Bool} {d : Tmp} (hg : o.guard = some (j, b)) (hd : (ops[j]?).bind (·.dst) = some d) (hv : a.eval (.tmp d) = .bool c) (hne : c ≠ b) (h : K (a.put o.dst undef) w) :
    if Region.wanted o (yielded ops a.tmps) = true then Oper.wp Tryd.prog o a w K Q else K (a.put o.dst undef) w := by
  have hw : ¬ Region.wanted o (yielded ops a.tmps) = true := by
    have : a.tmps[d]? = some (.bool c) := by
      cases h : a.tmps[d]? with
      | none => simp [Act.eval, h, undef] at hv
      | some x => simp [Act.eval, h] at hv; rw [hv]
    simp [Region.wanted, hg, yielded, hd, this]
    exact hne
  rw [if_neg hw]
  exact h
/-- append whose run is known. -/
theorem rop_appendG (s x : Operand) (t : TypeId) (hop : o.op = .call { callee := .builtin .append, args := #[s, x], argTypes := #[t, t] }) {v u v' : Value} (hs : a.eval s = v) (hx : a.eval x = u) (hr : (Builtin.append_ #[t, t] o.type #[v, u]).run Tryd.prog w = .ok v' w') (hw : Region.wanted o (yielded ops a.tmps) = true) (h : K (a.put o.dst v') w') :
    if Region.wanted o (yielded ops a.tmps) = true then Oper.wp Tryd.prog o a w K Q else K (a.put o.dst undef) w := by
  rw [if_pos hw]
  unfold Oper.wp execOp
  simp only [hop, resolve, invoke, builtin, Sem.run_bind, Sem.run_pure, Result.andThen_ok, List.map_toArray, List.map_cons, List.map_nil, hs, hx, hr]
  exact h
/-- A slice that is built, whose run is known. -/
theorem rop_bslG (t : TypeId) (n : Nat) (parts : Array (Nat × Operand)) (hop : o.op = .buildSlice t n parts) (L : Array (Nat × Value)) (hL : (parts.map fun (i, x) => (i, a.eval x)) = L) {v : Value} (hr : (Instr.buildSlice t n L).run Tryd.prog w = .ok v w') (hw : Region.wanted o (yielded ops a.tmps) = true) (h : K (a.put o.dst v) w') :
    if Region.wanted o (yielded ops a.tmps) = true then Oper.wp Tryd.prog o a w K Q else K (a.put o.dst undef) w :=
  rop_v hw (by simp [execOp, hop, hL, hr]) h
theorem rop_storeG (t : TypeId) (x y : Operand) (hop : o.op = .store t x y) {u v : Value} (hx : a.eval x = u) (hy : a.eval y = v) (hr : (Instr.storeAt t u v).run Tryd.prog w = .ok () w') (hw : Region.wanted o (yielded ops a.tmps) = true) (h : K (a.put o.dst undef) w') :
    if Region.wanted o (yielded ops a.tmps) = true then Oper.wp Tryd.prog o a w K Q else K (a.put o.dst undef) w := by
  rw [if_pos hw]
  unfold Oper.wp
  simp [execOp, hop, hx, hy, hr]
  exact h
end
theorem foldl_setsG (a : Act) : ∀ (D : List Nat) (arr : Array Value), arr.size = a.tmps.size → (D.foldl (fun r d => r.setIfInBounds d (a.eval (.tmp d))) arr).size = arr.size ∧ ∀ t : Nat, (D.foldl (fun r d => r.setIfInBounds d (a.eval (.tmp d))) arr)[t]? = if t ∈ D then a.tmps[t]? else arr[t]?
  | [], arr, _ => ⟨rfl, fun t => by simp⟩
  | d :: D, arr, h => by
    have hs : (arr.setIfInBounds d (a.eval (.tmp d))).size = arr.size := by simp
    obtain ⟨h1, h2⟩ := foldl_setsG a D (arr.setIfInBounds d (a.eval (.tmp d))) (hs.trans h)
    refine ⟨h1.trans hs, fun t => ?_⟩
    rw [List.foldl_cons, h2 t]
    by_cases hD : t ∈ D
    · rw [if_pos hD, if_pos (List.mem_cons_of_mem _ hD)]
    · rw [if_neg hD]
      by_cases e : t = d
      · subst e
        rw [if_pos List.mem_cons_self]
        by_cases hl : t < a.tmps.size
        · rw [Array.getElem?_setIfInBounds_self_of_lt (by omega)]
          simp [Act.eval, hl]
        · rw [Array.getElem?_eq_none (by simp; omega), Array.getElem?_eq_none (by omega)]
      · rw [Array.getElem?_setIfInBounds_ne (Ne.symm e), if_neg (by simp [e, hD])]
theorem RFrame.setsG {ops : Array Oper} {a0 a : Act} (hF : RFrame ops a0 a) (D : List Nat) (hD : ((rdsts ops).all fun d => D.contains d) = true) : a = ⟨D.foldl (fun r d => r.setIfInBounds d (a.eval (.tmp d))) a0.tmps, a0.defers⟩ := by
  obtain ⟨h1, h2⟩ := foldl_setsG a D a0.tmps hF.size.symm
  have ht : a.tmps = D.foldl (fun r d => r.setIfInBounds d (a.eval (.tmp d))) a0.tmps := by
    apply Array.ext_getElem?
    intro t
    rw [h2 t]
    by_cases e : t ∈ D
    · rw [if_pos e]
    · rw [if_neg e]
      refine hF.out t fun hm => e ?_
      have := List.all_eq_true.1 hD t hm
      simpa using this
  have hd := hF.defers
  obtain ⟨at_, ad⟩ := a
  simp only at ht hd
  rw [← hd, ← ht]
theorem lss_iG (a b : Int) (p : Bool) (h : decide (a < b) = p) (w : World) : (binOp .lss 3 (.int .i64 a) (.int .i64 b)).run Tryd.prog w = .ok (.bool p) w := by
  subst h; go_simp
theorem gtr_iG (a b : Int) (p : Bool) (h : decide (b < a) = p) (w : World) : (binOp .gtr 3 (.int .i64 a) (.int .i64 b)).run Tryd.prog w = .ok (.bool p) w := by
  subst h; go_simp
theorem leq_iG (a b : Int) (p : Bool) (h : decide (a ≤ b) = p) (w : World) : (binOp .leq 3 (.int .i64 a) (.int .i64 b)).run Tryd.prog w = .ok (.bool p) w := by
  subst h; go_simp
theorem geq_iG (a b : Int) (p : Bool) (h : decide (b ≤ a) = p) (w : World) : (binOp .geq 3 (.int .i64 a) (.int .i64 b)).run Tryd.prog w = .ok (.bool p) w := by
  subst h; go_simp
theorem eql_iG (a b : Int) (p : Bool) (h : decide (a = b) = p) (w : World) : (binOp .eql 3 (.int .i64 a) (.int .i64 b)).run Tryd.prog w = .ok (.bool p) w := by
  subst h
  by_cases e : a = b
  · subst e; go_simp
  · have : (a == b) = false := by simpa using e
    go_simp
theorem neq_iG (a b : Int) (p : Bool) (h : decide (a ≠ b) = p) (w : World) : (binOp .neq 3 (.int .i64 a) (.int .i64 b)).run Tryd.prog w = .ok (.bool p) w := by
  subst h
  by_cases e : a = b
  · subst e; go_simp
  · have : (a == b) = false := by simpa using e
    go_simp
/-- How the world goes on in a region of N effects, of which the last one may turn what is the call's own. -/
def GLx (N : Nat) (k k' : Nat) (w w' : World) : Prop := (k = k' ∧ w = w') ∨ (k' = k + 1 ∧ k' < N ∧ Below w.heap.size w w') ∨ (k + 1 = N ∧ k' = N)
theorem GLx.same {N k : Nat} {w : World} : GLx N k k w w := .inl ⟨rfl, rfl⟩
theorem GLx.old {N k : Nat} {w w' : World} (h : k + 1 < N) (hb : Below w.heap.size w w') : GLx N k (k + 1) w w' := .inr (.inl ⟨rfl, h, hb⟩)
theorem GLx.last {N k : Nat} {w w' : World} (h : k + 1 = N) : GLx N k (k + 1) w w' := .inr (.inr ⟨h, h⟩)
/-- What lasts till the last effect. -/
def RXP.till {N : Nat} (p : Value → World → Prop) (hp : ∀ v w w', p v w → Below w.heap.size w w' → p v w') : RXP (GLx N) := ⟨fun k v w => k < N → p v w, fun v w w' k k' h hx hk => by
  rcases hx with ⟨rfl, rfl⟩ | ⟨rfl, h2, hb⟩ | ⟨h2, rfl⟩
  · exact h hk
  · exact hp v w w' (h (by omega)) hb
  · omega⟩
/-- What is so behind the last effect. -/
def RXP.behind {N : Nat} (p : Value → World → Prop) : RXP (GLx N) := ⟨fun k v w => k = N ∧ p v w, fun v w w' k k' h hx => by
  obtain ⟨rfl, h⟩ := h
  rcases hx with ⟨rfl, rfl⟩ | ⟨rfl, h2, hb⟩ | ⟨h2, rfl⟩
  · exact ⟨rfl, h⟩
  · omega
  · omega⟩
end Go.Proofs.YtollcdalokhjaaaDoor
/-! ## A region that goes in its own order, by a table, over any relation of worlds. -/
namespace Go.Proofs.YtollcdalokhjaaaDoor
open Go.RowKit

/-- A region that goes in its own order, over any relation of worlds. -/
theorem wp_region_le0 {P : Program} {Q : Exit → Act → World → Prop} {a0 : Act} {id : Nat} {w : World} {l : List Oper} {Lx : World → World → Prop} (hrf : ∀ {u}, Lx u u) (htr : ∀ {u v x}, Lx u v → Lx v x → Lx u x) (Ts : List (RX Lx)) (hback : rback l.toArray = true) (hap : rapart l.toArray = true) (hlt : (rdsts l.toArray).all (fun d => decide (d < a0.tmps.size)) = true)
    (hop : RAll P l.toArray Q a0 w (tabX Ts) Lx 0 l)
    (hfin : ∀ a w', RFrame l.toArray a0 a → Lx w w' → (∀ j, j < l.toArray.size → tabX Ts j (rgot l.toArray a j) w') → Q .normal a w') : (Code.region id l.toArray false).wp P Q a0 w := by
  refine wp_region_inv0 (tabX Ts) Lx hback hap hlt hrf (fun u v w h k => htr h k) (fun i v w w' h k => (Ts.getD i RX.any).st v w w' h k) (fun i o ho => ?_) (fun a w' hF hL hT => hfin a w' hF hL hT)
  have := rall_at l 0 hop i o (by simpa using ho)
  rwa [Nat.zero_add] at this
end Go.Proofs.YtollcdalokhjaaaDoor
