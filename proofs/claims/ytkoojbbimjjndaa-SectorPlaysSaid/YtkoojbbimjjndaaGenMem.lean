/-
  Memory, rows of bytes, texts: laws of no package.
-/
import Derived.Test.YtkoojbbimjjndaaProg
import Derived.WalkKit
import Derived.WalkLawsBesides
import Derived.WalkSpells
import Derived.Lib.Hide
import Derived.Laws.BitsAll
import Derived.Deep.QuietTactic
import Derived.BigQuiet
import Derived.Below
import Derived.RegionTactic
import Derived.BigRegion
import Derived.IntWalk
import Derived.ChangeKeysEq
import Derived.Deep.MidRow
import Derived.Deep.WholeRow
import Derived.Laws.BitsAllLaws
import Derived.Lib.Strings
import Derived.KernelRfl
import Derived.Maps.AppendAt
import Derived.WalkSmall
import Derived.Laws.IdiomStrings
import Derived.Lib.UnsafeStr
import Derived.Deep.RegionLaw
import Derived.Laws.MakeOwn
import Derived.Laws.Tables
namespace Go.Proofs.Ytkoojbbimjjndaa
open Go.RowKit


theorem ret_int {k : IntKind} {a b : Int} (h : a = b) : Ending.returned (.int k a) = .returned (.int k b) := by rw [h]

def u32V (n : Nat) : Value := .int .u32 n
def u8V (n : UInt8) : Value := .int .u8 n.toNat
def bC (l : List Nat) : Array Value := (l.map u32V).toArray
theorem cell_bC {w : World} {n : Nat} {l : List Nat} {T : TypeId} (h : w.heap[n]? = some (.cells (bC l) T (0, 0))) (i : Nat) (hi : i < l.length) : w.cell? ⟨n, i, none⟩ = some (.int .u32 (l.getD i 0 : Nat)) := by
  unfold World.cell?
  rw [h]
  simp [bC, u32V, hi]
theorem fz_of {w : World} {n : Nat} {c : Array Value} {T : TypeId} (h : w.heap[n]? = some (.cells c T (0, 0))) (i : Nat) : w.frozen? ⟨n, i, none⟩ = false := by
  unfold World.frozen?; rw [h]; simp
theorem cell_of {w : World} {n : Nat} {c : Array Value} {T : TypeId} (h : w.heap[n]? = some (.cells c T (0, 0))) (i : Nat) : w.cell? ⟨n, i, none⟩ = c[i]? := by
  unfold World.cell?; rw [h]; rfl
/-- No block that was there has turned, but b. -/
structure Only (b : Nat) (w w' : World) : Prop where
  os : w'.os = w.os
  tape : w'.tape = w.tape
  output : w'.output = w.output
  size : w.heap.size ≤ w'.heap.size
  block : ∀ k, k < w.heap.size → k ≠ b → w'.heap[k]? = w.heap[k]?
theorem Only.refl (b : Nat) (w : World) : Only b w w := ⟨rfl, rfl, rfl, Nat.le_refl _, fun _ _ _ => rfl⟩
theorem Only.trans {b : Nat} {u v w : World} (h : Only b u v) (k : Only b v w) : Only b u w :=
  ⟨k.os.trans h.os, k.tape.trans h.tape, k.output.trans h.output, Nat.le_trans h.size k.size, fun i hi hb => (k.block i (Nat.lt_of_lt_of_le hi h.size) hb).trans (h.block i hi hb)⟩
theorem Only.below {b B : Nat} {w w' : World} (h : Only b w w') (hb : B ≤ b) (hB : B ≤ w.heap.size) : Below B w w' :=
  ⟨h.os, h.tape, h.output, h.size, fun k hk => h.block k (by omega) (by omega)⟩
theorem Only.of_below {b : Nat} {w w' : World} (h : Below w.heap.size w w') : Only b w w' :=
  ⟨h.os, h.tape, h.output, h.size, fun k hk _ => h.block k hk⟩
theorem Only.setCell {b : Nat} {u w : World} (h : Only b u w) (o : Nat) (v : Value) : Only b u (w.setCell ⟨b, o, none⟩ v) :=
  h.trans ⟨rfl, rfl, rfl, by simp [World.setCell], fun k _ hb => Below.heap_setCell _ _ _ _ hb⟩
theorem Only.cell {b : Nat} {u w : World} (h : Only b u w) {k o : Nat} (hk : k < u.heap.size) (hb : k ≠ b) : w.cell? ⟨k, o, none⟩ = u.cell? ⟨k, o, none⟩ := by
  unfold World.cell?; rw [h.block k hk hb]
theorem below_drewN {B : Nat} {a w : World} (h : Below B a w) (n : Nat) : Below B a (w.drewN n) := ⟨h.os, h.tape, h.output, h.size, h.block⟩
theorem below_step {B : Nat} {w u v : World} (h : Below B w u) (hB : B ≤ w.heap.size) (k : Below u.heap.size u v) : Below B w v := h.trans (k.mono (Nat.le_trans hB h.size))
/-- Block n holds the cells c; then they are turned, one by one. -/
theorem heap_set {w : World} {n i : Nat} {c : Array Value} {T : TypeId} (h : w.heap[n]? = some (.cells c T (0, 0))) (v : Value) : (w.setCell ⟨n, i, none⟩ v).heap[n]? = some (.cells (c.setIfInBounds i v) T (0, 0)) := by
  simp [World.setCell, Array.getElem?_modify, h]
theorem heap_far {w : World} {n k i : Nat} (h : k ≠ n) (v : Value) : (w.setCell ⟨n, i, none⟩ v).heap[k]? = w.heap[k]? := Below.heap_setCell _ _ _ _ h
theorem bC_set (l : List Nat) (i x : Nat) : (bC l).setIfInBounds i (.int .u32 (x : Nat)) = bC (l.set i x) := by
  unfold bC
  simp [List.map_set, u32V]
theorem bC_size (l : List Nat) : (bC l).size = l.length := by simp [bC]
/-- An array's element, by value. -/
theorem run_index_agg {P : Program} (w : World) {t e : TypeId} {n i : Nat} {cs : Array Value} {k : IntKind} {v : Value} (h : P.underlying t = some (.array n e)) (hp : P.plainKey e = true) (hi : (P.info? e).isSome = true) (hc : P.cellsOf e = 1) (hn : i < n) (hv : cs[i]? = some v) :
    (Instr.index t (.agg cs) (.int k (i : Int))).run P w = .ok v w := by
  obtain ⟨i0, hi⟩ := Option.isSome_iff_exists.1 hi
  have hb : (0 : Int) ≤ (i : Int) ∧ (i : Int) < (n : Int) := by omega
  simp [Instr.index, run_underlying h, asIntOf, hb, run_sizeOf w hi, hc, run_part_plain w hp hv]
  intro hx; omega
/-- A quiet call, whose contract says 'w = w'', in a region that only reads. -/
theorem quiet_left {P : Program} {f : FuncId} {args : Array Value} {w : World} {n : Nat} {v : Value}
    (h : Calls P f args (w.drewN n) fun e w' => e = .returned v ∧ w.drewN n = w') : Calls P f args (w.drewN n) fun e w'' => e = .returned v ∧ ∃ m, w'' = w.drewN m :=
  h.mono fun _ _ ⟨he, hm⟩ => ⟨he, n, hm.symm⟩
theorem there_new (w : World) {l : List Value} {T : TypeId} {n : Nat} (h : l.length = n) : (w.alloc (.cells l.toArray T)).there w.heap.size 0 n := fun j hj => by
  have hh := heap_alloc_last w (.cells l.toArray T)
  refine ⟨?_, fz_of hh _⟩
  rw [cell_of hh]
  simp; omega
theorem heap_setCells (p : Nat) (T : TypeId) : ∀ (vs : List Value) (o : Nat) (l : List Value) (w : World), o + vs.length ≤ l.length → w.heap[p]? = some (.cells l.toArray T (0, 0)) →
    (w.setCells p o vs).heap[p]? = some (.cells (l.take o ++ (vs ++ l.drop (o + vs.length))).toArray T (0, 0))
  | [], o, l, w, _, h => by simpa [World.setCells] using h
  | v :: r, o, l, w, hl, h => by
    rw [World.setCells]
    have h1 := heap_set (i := o) h v
    rw [List.setIfInBounds_toArray] at h1
    have h2 := heap_setCells p T r (o + 1) (l.set o v) _ (by simp at hl ⊢; omega) h1
    rw [h2]
    simp only [List.length_cons] at hl
    congr 3
    rw [List.take_set, List.drop_set_of_lt (by omega), List.take_succ_eq_append_getElem (by omega), List.set_append_right _ _ (by rw [List.length_take]; omega)]
    simp only [List.length_take, Nat.min_eq_left (show o ≤ l.length by omega), Nat.sub_self, List.set_cons_zero, List.append_assoc, List.cons_append, List.nil_append, List.length_cons]
    rw [show o + 1 + r.length = o + (r.length + 1) by omega]
theorem heap_setCells_all (w : World) (l vs : List Value) {T : TypeId} (h : l.length = vs.length) : ((w.alloc (.cells l.toArray T)).setCells w.heap.size 0 vs).heap[w.heap.size]? = some (.cells vs.toArray T (0, 0)) := by
  rw [heap_setCells w.heap.size T vs 0 l _ (by omega) (heap_alloc_last w _)]
  simp [h]
theorem below_setCells {B b : Nat} {a : World} (hb : B ≤ b) : ∀ (vs : List Value) (o : Nat) (w : World), Below B a w → Below B a (w.setCells b o vs)
  | [], _, _, h => h
  | v :: r, o, _, h => below_setCells hb r (o + 1) _ (h.setCell (by exact hb) v)
theorem only_setCells {b : Nat} {a : World} : ∀ (vs : List Value) (o : Nat) (w : World), Only b a w → Only b a (w.setCells b o vs)
  | [], _, _, h => h
  | v :: r, o, _, h => only_setCells r (o + 1) _ (h.setCell o v)

theorem info_u8 : (Try.prog.info? 5).map (fun i => (i.zero, i.size, i.bytes)) = some (some (.int .u8 0), 1, 1) := by kernel_rfl
theorem convert_bytes (w : World) (b n m : Nat) (l : List UInt8) (hn : l.length = n) (hc : ∀ j x, l[j]? = some x → w.cell? ⟨b, j, none⟩ = some (u8V x)) :
    (convert 53 9 (.slice (some ⟨b, 0, none⟩) n m)).run Try.prog w = .ok (.string ⟨l.toArray⟩) w := by
  subst hn
  refine run_convert_bytes_back w _ _ 5 _ _ l Try.underlying53 Try.underlying5 Try.underlying9 fun j hj => ?_
  rw [Addr.add_mid, Nat.zero_add]
  exact hc j _ (List.getElem?_eq_getElem hj)
theorem cell_u8 {w : World} {n : Nat} {l : List UInt8} {T : TypeId} (h : w.heap[n]? = some (.cells (l.map u8V).toArray T (0, 0))) (j : Nat) (x : UInt8) (hx : l[j]? = some x) : w.cell? ⟨n, j, none⟩ = some (u8V x) := by
  rw [cell_of h]; simp [hx]
theorem made_u8 (c : Nat) : madeCells (Value.int .u8 0).cells (c * 1) = ((List.replicate c (0 : UInt8)).map u8V).toArray := by
  apply Array.ext_getElem?
  intro i
  by_cases hi : i < c
  · simp [madeCells, hi, u8V, Value.cells, Nat.mod_one]
  · simp [madeCells, hi, u8V, Value.cells]
theorem make_bytes (n c : Nat) (h : n ≤ c) (hc : c ≤ 1000) (w : World) : (Instr.makeSlice 53 (.int .i64 (n : Int)) (.int .i64 (c : Int))).run Try.prog w = .ok (.slice (some ⟨w.heap.size, 0, none⟩) n c) (w.alloc (.cells ((List.replicate c (0 : UInt8)).map u8V).toArray 5)) := by
  obtain ⟨i0, hi, hz0, hz1, hz2⟩ := info_parts info_u8
  have hr := run_make (P := Try.prog) w 53 5 i0 (.int .u8 0) Try.underlying53 hi hz0 .i64 .i64 n c (by omega) (by omega) (by rw [hz2]; omega) (by omega)
  rw [hz1] at hr
  simp only [Int.toNat_natCast] at hr
  rw [made_u8] at hr
  exact hr
theorem there_of {w : World} {b o n : Nat} {l : List Value} {T : TypeId} (h : w.heap[b]? = some (.cells l.toArray T (0, 0))) (hn : o + n ≤ l.length) : w.there b o n := fun j hj => by
  refine ⟨?_, fz_of h _⟩
  rw [cell_of h]
  simp; omega
/-- 'copy(dst, s)' of a text, as much as fits, as one step of a region that draws. -/
theorem step_copy_str {P : Program} {ops : Array Oper} {o : Oper} {a : Act} {w : World} {K : Act → World → Prop} {Q : Exit → Act → World → Prop} {E : Prop}
    (hg : o.guard = none) (d x : Operand) (dT sT : TypeId) (hop : o.op = Op.call { callee := Callee.builtin Builtin.copy, args := #[d, x], argTypes := #[dT, sT] })
    (elem : TypeId) (hu : P.underlying dT = some (.slice elem)) (hz : ∀ w, (Go.sizeOf elem).run P w = .ok 1 w)
    (b off dLen dCap : Nat) (hd : a.eval d = .slice (some ⟨b, off, none⟩) dLen dCap) (t : ByteArray) (hx : a.eval x = .string t) (m : Nat) (hm : Nat.min t.size dLen = m)
    (l : List Value) (T : TypeId) (hh : w.heap[b]? = some (.cells l.toArray T (0, 0))) (hfit : off + m ≤ l.length)
    (hK : ∀ w', w'.heap[b]? = some (.cells (l.take off ++ ((t.data.toList.take m).map u8V ++ l.drop (off + ((t.data.toList.take m).map u8V).length))).toArray T (0, 0)) → Only b w w' → K (a.put o.dst (goInt m)) w') :
    if Region.wanted o (yielded ops a.tmps) = true then Oper.wp P o a w K Q else E := by
  have hw : Region.wanted o (yielded ops a.tmps) = true := by simp [Region.wanted, hg]
  rw [if_pos hw]
  have hml : m ≤ t.size := by rw [← hm]; exact Nat.min_le_left _ _
  obtain ⟨N, hN⟩ : ∃ N, N = (t.data.toList.take m).map u8V := ⟨_, rfl⟩
  rw [← hN] at hK
  have hl : N.length = m := by rw [hN, List.length_map, List.length_take, ← Lib.size_eq]; exact Nat.min_eq_left hml
  have hth := there_of (b := b) (o := off) (n := m) hh hfit
  have hst := run_storeCells_cells (P := P) b off N 0 w (by rw [hl]; intro j hj; simpa using (hth j hj).1) (by rw [hl]; intro j hj; simpa using (hth j hj).2) (by
    intro v hv
    rw [hN] at hv
    obtain ⟨x, _, rfl⟩ := List.mem_map.1 hv
    rfl)
  rw [Nat.add_zero] at hst
  have hrun : (Builtin.copy_ #[dT, sT] o.type #[.slice (some ⟨b, off, none⟩) dLen dCap, .string t]).run P w = .ok (goInt m) (w.setCells b off N) := by
    simp [Builtin.copy_, run_underlying hu, Builtin.lenOf, Builtin.firstCells, hz, hm]
    rw [show List.take m (List.map (fun b : UInt8 => Value.int .u8 (b.toNat : Int)) t.data.toList) = N by rw [hN, List.map_take]; rfl, hst]
    rfl
  unfold Oper.wp
  simp [execOp, hop, resolve, invoke, builtin, hd, hx, hrun, Result.andThen]
  refine hK _ ?_ (only_setCells _ _ _ (Only.refl _ _))
  exact heap_setCells b T N off l w (by rw [hl]; exact hfit) hh
theorem toList_ne {s : ByteArray} (h : 0 < s.size) : ¬ s.toList = [] ∧ s.toList.isEmpty = false := by
  have : s.toList.length = s.size := by rw [Lib.toList_data, ← Lib.size_eq]
  refine ⟨fun e => by rw [e] at this; simp at this; omega, ?_⟩
  cases hl : s.toList with
  | nil => rw [hl] at this; simp at this; omega
  | cons b r => rfl
theorem toList_nil {s : ByteArray} (h : s.size = 0) : s.toList = [] := by
  have : s.toList.length = s.size := by rw [Lib.toList_data, ← Lib.size_eq]
  exact List.eq_nil_of_length_eq_zero (by omega)
theorem size_u8 (w : World) : (Go.sizeOf 5).run Try.prog w = .ok 1 w := by
  obtain ⟨i0, hi, _, hz1, _⟩ := info_parts (show (Try.prog.info? 5).map (fun i => (i.zero, i.size, i.bytes)) = some (some (.int .u8 0), 1, 1) by kernel_rfl)
  rw [run_sizeOf w hi]
  rfl
/-- A result that lies in memory: an array, or a struct. -/
theorem results_cell {fn : Func} {t : Tmp} {ty : TypeId} (h : fn.results = #[.cell t ty]) (tmps : Array Value) (P : Program) (w : World) {b : Nat} {cs : List Value} {d : TypeDesc} (ht : tmps.getD t undef = .pointer (some ⟨b, 0, none⟩)) (hc : w.rangeAt b 0 cs)
    (hu : P.underlying ty = some d) (hd : d.isRow = true) (hi : (P.info? ty).map (·.size) = some cs.length) : (results fn tmps).run P w = .ok (.agg cs.toArray) w := by
  have := run_loadVar_mid w b 0 ty cs d hc hu hd hi
  rw [Array.getD_eq_getD_getElem?] at ht
  simp [results, h, ht, asAddr, this]
/-- v is a slice that reads as the texts ts. -/
def StrRow (w : World) (v : Value) (ts : List ByteArray) : Prop :=
  ∃ a cap, v = .slice a ts.length cap ∧ ts.length ≤ 9223372036854775807 ∧ (ts ≠ [] → ∃ b off, a = some ⟨b, off, none⟩ ∧ b < w.heap.size ∧ ∀ j, j < ts.length → w.cell? ⟨b, off + j, none⟩ = some (.string (ts.getD j ByteArray.empty)))
theorem StrRow.old {w w' : World} {v : Value} {ts : List ByteArray} (h : StrRow w v ts) (k : Below w.heap.size w w') : StrRow w' v ts := by
  obtain ⟨a, cap, rfl, hl, hc⟩ := h
  refine ⟨a, cap, rfl, hl, fun hn => ?_⟩
  obtain ⟨b, off, rfl, hb, hj⟩ := hc hn
  exact ⟨b, off, rfl, Nat.lt_of_lt_of_le hb k.size, fun j h => (k.cell (by exact hb)).trans (hj j h)⟩
theorem StrRow.nil (w : World) : StrRow w (.slice none 0 0) [] := ⟨none, 0, rfl, by decide, fun h => absurd rfl h⟩
/-- The bytes of texts, one behind the other. -/
def flat (ts : List ByteArray) : List UInt8 := ts.flatMap fun t => t.data.toList
theorem flat_take (ts : List ByteArray) (k : Nat) (h : k < ts.length) : flat (ts.take (k + 1)) = flat (ts.take k) ++ (ts.getD k ByteArray.empty).data.toList := by
  unfold flat
  rw [List.take_succ_eq_append_getElem h, List.flatMap_append]
  have e : ts.getD k ByteArray.empty = ts[k] := by rw [List.getD_eq_getElem?_getD, List.getElem?_eq_getElem h]; rfl
  rw [e]
  simp
theorem flat_le (ts : List ByteArray) (k : Nat) : (flat (ts.take k)).length ≤ (flat ts).length := by
  have : flat ts = flat (ts.take k) ++ flat (ts.drop k) := by unfold flat; rw [← List.flatMap_append, List.take_append_drop]
  rw [this, List.length_append]; omega

theorem StrRow.one (w : World) (s : ByteArray) : StrRow (w.alloc (.cells #[.string s] 9)) (.slice (some ⟨w.heap.size, 0, none⟩) 1 1) [s] := by
  refine ⟨_, 1, rfl, by simp, fun _ => ⟨w.heap.size, 0, rfl, by simp, fun j hj => ?_⟩⟩
  rw [cell_of (heap_alloc_last w _)]
  have : j = 0 := by simpa using hj
  subst this; rfl
theorem StrRow.two (w : World) (s t : ByteArray) : StrRow (w.alloc (.cells #[.string s, .string t] 9)) (.slice (some ⟨w.heap.size, 0, none⟩) 2 2) [s, t] := by
  refine ⟨_, 2, rfl, by simp, fun _ => ⟨w.heap.size, 0, rfl, by simp, fun j hj => ?_⟩⟩
  rw [cell_of (heap_alloc_last w _)]
  have : j = 0 ∨ j = 1 := by simp at hj; omega
  rcases this with rfl | rfl <;> rfl
theorem flat_one (s : ByteArray) : flat [s] = s.data.toList := by simp [flat]
theorem flat_two (s t : ByteArray) : flat [s, t] = s.data.toList ++ t.data.toList := by simp [flat]
/-- The statements' short: a text of at most n bytes. -/
def shortB (s : ByteArray) (n : Nat) : ByteArray := if n < s.size then s.extract 0 n else s
theorem shortB_size (s : ByteArray) (n : Nat) : (shortB s n).size ≤ n := by
  unfold shortB
  split
  · rw [ByteArray.size_extract]; omega
  · omega
theorem u8_set (l : List UInt8) (i : Nat) (x : UInt8) : ((l.map u8V).toArray).setIfInBounds i (.int .u8 (x.toNat : Int)) = ((l.set i x).map u8V).toArray := by
  rw [List.setIfInBounds_toArray, List.map_set]; rfl
theorem cell_u8D {w : World} {n : Nat} {l : List UInt8} {T : TypeId} (h : w.heap[n]? = some (.cells (l.map u8V).toArray T (0, 0))) (i : Nat) (hi : i < l.length) : w.cell? ⟨n, i, none⟩ = some (.int .u8 ((l.getD i 0).toNat : Int)) := by
  rw [cell_of h]; simp [u8V, hi]
theorem fill_step (T : List UInt8) (k n : Nat) (hk : k < T.length) (hn : T.length ≤ n) : ((T.take k ++ List.replicate (n - k) 0).set k (T.getD k 0)) = T.take (k + 1) ++ List.replicate (n - (k + 1)) 0 := by
  rw [List.set_append_right _ _ (by rw [List.length_take]; omega), List.length_take, Nat.min_eq_left (by omega), Nat.sub_self, List.take_succ_eq_append_getElem hk, show n - k = (n - (k + 1)) + 1 by omega, List.replicate_succ, List.set_cons_zero, List.append_assoc]
  have e : T.getD k 0 = T[k] := by rw [List.getD_eq_getElem?_getD, List.getElem?_eq_getElem hk]; rfl
  rw [e]
  rfl
theorem bcell {W w1 : World} (hb : Below W.heap.size W w1) : (∀ b o, b < W.heap.size → w1.cell? ⟨b, o, none⟩ = W.cell? ⟨b, o, none⟩) ∧ (∀ b o, b < W.heap.size → w1.frozen? ⟨b, o, none⟩ = W.frozen? ⟨b, o, none⟩) :=
  ⟨fun b o h => hb.cell (p := ⟨b, o, none⟩) h, fun b o h => hb.frozen (p := ⟨b, o, none⟩) h⟩
theorem range_set {w : World} {b o q i : Nat} {cs : List Value} {v : Value} (h : w.rangeAt b o cs) (hne : b ≠ q) : (w.setCell ⟨q, i, none⟩ v).rangeAt b o cs := fun j x hx => by
  rw [World.cell?_setCell_other _ _ _ _ (fun e => hne (by injection e with e1 _ _; exact e1.symm))]
  exact h j x hx
theorem range_alloc_drew {w : World} {b o : Nat} {cs : List Value} {ob : Obj} (h : w.rangeAt b o cs) : (w.alloc ob).drew.rangeAt b o cs := (World.rangeAt_drew _ _ _ _).2 (World.rangeAt_alloc h ob)
theorem below_drew {B : Nat} {a w : World} (h : Below B a w) : Below B a w.drew := ⟨h.os, h.tape, h.output, h.size, h.block⟩
theorem foldl_splice : ∀ (vs : List Value) (n off : Nat) (l : List Value), off + n + vs.length ≤ l.length →
    (vs.zipIdx n).foldl (fun (cs : Array Value) x => cs.setIfInBounds (off + x.2) x.1) l.toArray = (l.take (off + n) ++ (vs ++ l.drop (off + n + vs.length))).toArray
  | [], n, off, l, _ => by simp
  | v :: r, n, off, l, hl => by
    simp only [List.length_cons] at hl
    rw [List.zipIdx_cons, List.foldl_cons, List.setIfInBounds_toArray, foldl_splice r (n + 1) off (l.set (off + n) v) (by simp; omega)]
    congr 1
    rw [← Nat.add_assoc, List.take_set, List.drop_set_of_lt (by omega), List.take_succ_eq_append_getElem (by omega), List.set_append_right _ _ (by rw [List.length_take]; omega)]
    simp only [List.length_take, Nat.min_eq_left (show off + n ≤ l.length by omega), Nat.sub_self, List.set_cons_zero, List.append_assoc, List.cons_append, List.nil_append, List.length_cons]
    rw [show off + n + 1 + r.length = off + n + (r.length + 1) by omega]
theorem fill_one (place : Nat → Option (Nat × Nat)) (l : List Value) (i off : Nat) (vs : List Value) (rest : List (Nat × Value)) (hp : place i = some (off, vs.length)) (h : off + vs.length ≤ l.length) :
    Instr.fill place l.toArray ((i, .agg vs.toArray) :: rest) = Instr.fill place (l.take off ++ (vs ++ l.drop (off + vs.length))).toArray rest := by
  rw [Instr.fill, hp]
  simp only [Value.cells, List.size_toArray, ne_eq, not_true, decide_false, Bool.false_or]
  rw [if_neg (by simpa using h)]
  congr 1
  have := foldl_splice vs 0 off l (by omega)
  rw [Nat.add_zero] at this
  rw [← this, ← Array.foldl_toList]
  simp
theorem wpList_build_at {P : Program} {ops : Array Oper} {rest : List Oper} {o : Oper} {a : Act} {w : World} {Q : Exit → Act → World → Prop} (hg : o.guard = none) (t : TypeId) (parts : Array (Nat × Operand)) (ho : o.op = .build t parts) (cells : Array Value)
    (L : List (Nat × Value)) (hL : (parts.map fun (i, x) => (i, a.eval x)).toList = L) (hb : P.built t L = some cells) (h : wpList P ops Q rest (a.put o.dst (.agg cells)) w) : wpList P ops Q (o :: rest) a w :=
  wpList_build hg t parts ho (by rw [hL, hb]; rfl) (by rw [hL, hb]; exact h)
theorem range_split {w : World} {p : Nat} {x y : List Value} {T : TypeId} {fr : Nat × Nat} (h : w.heap[p]? = some (.cells (x ++ y).toArray T fr)) : w.rangeAt p 0 x ∧ w.rangeAt p x.length y := by
  refine ⟨fun j v hv => ?_, fun j v hv => ?_⟩
  · unfold World.cell?
    rw [h]
    have : j < x.length := (List.getElem?_eq_some_iff.1 hv).1
    simp [List.getElem?_append_left this, hv]
  · unfold World.cell?
    rw [h]
    simp [List.getElem?_append_right, hv]
/-- The first cells of block q are the bytes l; they may be written. -/
def Row8 (q : Nat) (l : List UInt8) (w : World) : Prop :=
  ∃ (C : Array Value) (T : TypeId) (fr : Nat × Nat), w.heap[q]? = some (.cells C T fr) ∧ (∀ j : Nat, ∀ x, l[j]? = some x → C[j]? = some (u8V x)) ∧ (∀ j, j < l.length → (decide (fr.1 ≤ j) && decide (j < fr.2)) = false)
theorem Row8.cell {q : Nat} {l : List UInt8} {w : World} (h : Row8 q l w) (j : Nat) (x : UInt8) (hx : l[j]? = some x) : w.cell? ⟨q, j, none⟩ = some (u8V x) := by
  obtain ⟨C, T, fr, h1, h2, _⟩ := h
  unfold World.cell?
  rw [h1]
  exact h2 j x hx
theorem Row8.fz {q : Nat} {l : List UInt8} {w : World} (h : Row8 q l w) (j : Nat) (hj : j < l.length) : w.frozen? ⟨q, j, none⟩ = false := by
  obtain ⟨C, T, fr, h1, _, h3⟩ := h
  unfold World.frozen?
  rw [h1]
  exact h3 j hj
theorem Row8.lt {q : Nat} {l : List UInt8} {w : World} (h : Row8 q l w) : q < w.heap.size := by
  obtain ⟨C, T, fr, h1, _⟩ := h
  exact (Array.getElem?_eq_some_iff.1 h1).1
theorem Row8.set {q : Nat} {l : List UInt8} {w : World} (h : Row8 q l w) (i : Nat) (y : UInt8) : Row8 q (l.set i y) (w.setCell ⟨q, i, none⟩ (.int .u8 (y.toNat : Int))) := by
  obtain ⟨C, T, fr, h1, h2, h3⟩ := h
  refine ⟨C.setIfInBounds i (.int .u8 (y.toNat : Int)), T, fr, by simp [World.setCell, Array.getElem?_modify, h1], ?_, by simpa using h3⟩
  intro j x hx
  rw [List.getElem?_set] at hx
  by_cases e : i = j
  · subst e
    rw [if_pos rfl] at hx
    by_cases hi : i < l.length
    · rw [if_pos hi] at hx
      obtain rfl := Option.some.inj hx
      have := h2 i l[i] (List.getElem?_eq_getElem hi)
      rw [Array.getElem?_setIfInBounds_self_of_lt (Array.getElem?_eq_some_iff.1 this).1]
      rfl
    · rw [if_neg hi] at hx; cases hx
  · rw [if_neg e] at hx
    rw [Array.getElem?_setIfInBounds_ne e]
    exact h2 j x hx
theorem Row8.old {q B : Nat} {l : List UInt8} {w w' : World} (h : Row8 q l w) (k : Below B w w') (hq : q < B) : Row8 q l w' := by
  obtain ⟨C, T, fr, h1, h2⟩ := h
  exact ⟨C, T, fr, (k.block q hq).trans h1, h2⟩
theorem row8_new (w : World) (s : ByteArray) (c : Nat) (T : TypeId) : Row8 w.heap.size s.data.toList (w.drew.alloc (.cells (bytesRow s c) T ((bytesRow s c).size, (bytesRow s c).size + 1))) := by
  refine ⟨_, _, _, heap_alloc_last w.drew _, ?_, ?_⟩
  · intro j x hx
    have hj : j < s.data.size := by simpa using (List.getElem?_eq_some_iff.1 hx).1
    unfold bytesRow
    rw [Array.getElem?_append_left (by simpa using hj)]
    simp only [Array.getElem?_toList] at hx
    simp [hx, u8V]
  · intro j hj
    have hs : s.data.toList.length ≤ (bytesRow s c).size := by simp [bytesRow]
    simp only [Bool.and_eq_false_iff, decide_eq_false_iff_not]
    left
    omega
/-- 'copy(dst, s)' of a text, as much as fits: what it does. -/
theorem run_copy_str (w : World) (ty : TypeId) (b off dLen dCap : Nat) (t : ByteArray) (m : Nat) (hm : Nat.min t.size dLen = m) (l : List Value) (T : TypeId) (hh : w.heap[b]? = some (.cells l.toArray T (0, 0))) (hfit : off + m ≤ l.length) :
    (Builtin.copy_ #[53, 9] ty #[.slice (some ⟨b, off, none⟩) dLen dCap, .string t]).run Try.prog w = .ok (goInt m) (w.setCells b off ((t.data.toList.take m).map u8V)) := by
  have hml : m ≤ t.size := by rw [← hm]; exact Nat.min_le_left _ _
  obtain ⟨N, hN⟩ : ∃ N, N = (t.data.toList.take m).map u8V := ⟨_, rfl⟩
  rw [← hN]
  have hl : N.length = m := by rw [hN, List.length_map, List.length_take, ← Lib.size_eq]; exact Nat.min_eq_left hml
  have hth := there_of (b := b) (o := off) (n := m) hh hfit
  have hst := run_storeCells_cells (P := Try.prog) b off N 0 w (by rw [hl]; intro j hj; simpa using (hth j hj).1) (by rw [hl]; intro j hj; simpa using (hth j hj).2) (by
    intro v hv
    rw [hN] at hv
    obtain ⟨x, _, rfl⟩ := List.mem_map.1 hv
    rfl)
  rw [Nat.add_zero] at hst
  simp [Builtin.copy_, run_underlying Try.underlying53, Builtin.lenOf, Builtin.firstCells, hm]
  rw [show List.take m (List.map (fun b : UInt8 => Value.int .u8 (b.toNat : Int)) t.data.toList) = N by rw [hN, List.map_take]; rfl, hst]
  rfl
theorem xor_u8 (x m : UInt8) : bits .xor .u8 (x.toNat : Int) (m.toNat : Int) = ((x ^^^ m).toNat : Int) := by
  rw [u8_xor_nat _ _ x.toNat_lt m.toNat_lt, UInt8.toNat_xor]
theorem range_box (w : World) (l : List Value) (T : TypeId) : (w.alloc (.cells l.toArray T)).rangeAt w.heap.size 0 l := fun j x hx => by
  rw [Nat.zero_add, cell_of (heap_alloc_last w _)]; simpa using hx
theorem app_data (a b : ByteArray) : (a ++ b).data.toList = a.data.toList ++ b.data.toList := by
  rw [ByteArray.data_append]; simp
theorem convert_one (w : World) (z : Int) (b : UInt8) (hz : z = (b.toNat : Int)) : (convert 53 9 (.slice (some ⟨w.heap.size, 0, none⟩) 1 1)).run Try.prog (w.alloc (.cells #[.int .u8 z] 5)) = .ok (.string ⟨#[b]⟩) (w.alloc (.cells #[.int .u8 z] 5)) := by
  subst hz
  exact convert_bytes _ w.heap.size 1 1 [b] rfl (cell_u8 (l := [b]) (heap_alloc_last w _))
theorem index_str (S : ByteArray) (k : Nat) (z : Int) (hz : z = (k : Int)) (h : k < S.size) (x : UInt8) (hx : S[k] = x) (w : World) : (Instr.index 9 (.string S) (.int .i64 z)).run Try.prog w = .ok (.int .u8 (x.toNat : Int)) w := by
  subst hz
  rw [run_index_string w _ _ _ _ Try.underlying9, dif_pos ⟨by omega, by omega⟩]
  simp only [Int.toNat_natCast, hx]
theorem sub_nat (t d : Nat) (D : Int) (hD : D = (d : Int)) (h : d ≤ t) (ht : t < 64) : ∃ u : Nat, (t : Int) - D = (u : Int) ∧ IntKind.i64.wrap ((t : Int) - D) = (u : Int) ∧ u = t - d := by
  subst hD
  refine ⟨t - d, by omega, ?_, rfl⟩
  rw [IntWalk.i64_in _ (by omega)]; omega
theorem cell_drewN (w : World) (n : Nat) (p : Addr) : (w.drewN n).cell? p = w.cell? p := rfl
theorem frozen_drewN (w : World) (n : Nat) (p : Addr) : (w.drewN n).frozen? p = w.frozen? p := rfl

theorem wpList_append_room {P : Program} {ops : Array Oper} {rest : List Oper} {o : Oper} {a : Act} {w : World} {Q : Exit → Act → World → Prop}
    (hg : o.guard = none) (s x : Operand) (t : TypeId) (hop : o.op = Op.call { callee := Callee.builtin Builtin.append, args := #[s, x], argTypes := #[t, t] })
    (e : TypeId) (i : TypeInfo) (size : Nat) (h1 : P.underlying t = some (.slice e)) (h2 : P.info? e = some i) (h4 : i.size = size)
    (b off n cap : Nat) (hs : a.eval s = .slice (some ⟨b, off, none⟩) n cap)
    (ad : Addr) (m c : Nat) (news : List Value) (hx : a.eval x = .slice (some ad) m c) (hn : news.length = m * size) (hc : ∀ j u, news[j]? = some u → w.cell? (ad.add j) = some u) (h1c : ∀ u ∈ news, u.oneCell' = true)
    (hroom : n + m ≤ cap) (hspare : ∀ j, j < news.length → (w.cell? ⟨b, off + n * size + j, none⟩).isSome = true ∧ w.frozen? ⟨b, off + n * size + j, none⟩ = false)
    (hK : wpList P ops Q rest (a.put o.dst (.slice (some ⟨b, off, none⟩) (n + m) cap)) (w.setCells b (off + n * size) news)) : wpList P ops Q (o :: rest) a w := by
  refine wpList_plain hg fun K hK' => ?_
  subst h4
  have hrun := run_append_room_cells (P := P) w t o.type e i h1 h2 b off n cap ad m c news hn hc h1c hroom (fun j hj => (hspare j hj).1) (fun j hj => (hspare j hj).2)
  unfold Oper.wp
  simp [execOp, hop, resolve, invoke, builtin, hs, hx, hrun, Result.andThen]
  exact hK' _ _ hK
end Go.Proofs.Ytkoojbbimjjndaa
