/-
  Package sha: what numbers and hashes are in memory; worlds in which nothing but one block has turned.
-/
import Derived.Test.YtcecncbhfcoilaaDoorShaRot
import Derived.Deep.QuietTactic
import Derived.BigQuiet
import Derived.Below
import Derived.RegionTactic
import Derived.BigRegion
import Derived.IntWalk
import Derived.ChangeKeysEq
import Derived.Deep.MidRow
import Derived.Deep.WholeRow
namespace Go.Proofs.YtcecncbhfcoilaaDoor
open Go.RowKit

def u32V (n : Nat) : Value := .int .u32 n
def u8V (n : UInt8) : Value := .int .u8 n.toNat
/-- The numbers K, where the package keeps them. -/
def KT (w : World) : Prop := ∀ i, i < 64 → w.cell? ⟨0, i, none⟩ = some (.int .u32 (Sha.K.getD i 0 : Nat))
def vC (v : Sha.V) : Array Value := #[.int .u32 v.a, .int .u32 v.b, .int .u32 v.c, .int .u32 v.d, .int .u32 v.e, .int .u32 v.f, .int .u32 v.g, .int .u32 v.h]
def bC (l : List Nat) : Array Value := (l.map u32V).toArray
def zC : Array Value := #[.int .u32 0, .int .u32 0, .int .u32 0, .int .u32 0, .int .u32 0, .int .u32 0, .int .u32 0, .int .u32 0]
/-- The value of a hash (api.Sum): its bytes. -/
def sumV (l : List UInt8) : Value := .agg (l.map u8V).toArray

theorem KT.pos {w : World} (hK : KT w) : 0 < w.heap.size := by
  by_cases h : 0 < w.heap.size
  · exact h
  · have := hK 0 (by decide)
    unfold World.cell? at this
    rw [Array.getElem?_eq_none (by simp only at h ⊢; omega)] at this
    cases this
theorem KT.old {w w' : World} (hK : KT w) (h : Below w.heap.size w w') : KT w' := fun i hi => (h.cell (by exact hK.pos)).trans (hK i hi)

theorem cell_bC {w : World} {n : Nat} {l : List Nat} {T : TypeId} (h : w.heap[n]? = some (.cells (bC l) T (0, 0))) (i : Nat) (hi : i < l.length) : w.cell? ⟨n, i, none⟩ = some (.int .u32 (l.getD i 0 : Nat)) := by
  unfold World.cell?
  rw [h]
  simp [bC, u32V, hi]
theorem fz_of {w : World} {n : Nat} {c : Array Value} {T : TypeId} (h : w.heap[n]? = some (.cells c T (0, 0))) (i : Nat) : w.frozen? ⟨n, i, none⟩ = false := by
  unfold World.frozen?; rw [h]; simp
theorem cell_of {w : World} {n : Nat} {c : Array Value} {T : TypeId} (h : w.heap[n]? = some (.cells c T (0, 0))) (i : Nat) : w.cell? ⟨n, i, none⟩ = c[i]? := by
  unfold World.cell?; rw [h]; rfl

/-- No block that was there has turned, but b. -/
structure Only (b : Nat) (w w' : World) : Prop where
  os : w'.os = w.os
  tape : w'.tape = w.tape
  output : w'.output = w.output
  size : w.heap.size ≤ w'.heap.size
  block : ∀ k, k < w.heap.size → k ≠ b → w'.heap[k]? = w.heap[k]?

theorem Only.refl (b : Nat) (w : World) : Only b w w := ⟨rfl, rfl, rfl, Nat.le_refl _, fun _ _ _ => rfl⟩
theorem Only.trans {b : Nat} {u v w : World} (h : Only b u v) (k : Only b v w) : Only b u w :=
  ⟨k.os.trans h.os, k.tape.trans h.tape, k.output.trans h.output, Nat.le_trans h.size k.size, fun i hi hb => (k.block i (Nat.lt_of_lt_of_le hi h.size) hb).trans (h.block i hi hb)⟩
theorem Only.below {b B : Nat} {w w' : World} (h : Only b w w') (hb : B ≤ b) (hB : B ≤ w.heap.size) : Below B w w' :=
  ⟨h.os, h.tape, h.output, h.size, fun k hk => h.block k (by omega) (by omega)⟩
theorem Only.of_below {b : Nat} {w w' : World} (h : Below w.heap.size w w') : Only b w w' :=
  ⟨h.os, h.tape, h.output, h.size, fun k hk _ => h.block k hk⟩
theorem Only.setCell {b : Nat} {u w : World} (h : Only b u w) (o : Nat) (v : Value) : Only b u (w.setCell ⟨b, o, none⟩ v) :=
  h.trans ⟨rfl, rfl, rfl, by simp [World.setCell], fun k _ hb => Below.heap_setCell _ _ _ _ hb⟩
theorem Only.cell {b : Nat} {u w : World} (h : Only b u w) {k o : Nat} (hk : k < u.heap.size) (hb : k ≠ b) : w.cell? ⟨k, o, none⟩ = u.cell? ⟨k, o, none⟩ := by
  unfold World.cell?; rw [h.block k hk hb]
theorem below_drewN {B : Nat} {a w : World} (h : Below B a w) (n : Nat) : Below B a (w.drewN n) := ⟨h.os, h.tape, h.output, h.size, h.block⟩
theorem below_step {B : Nat} {w u v : World} (h : Below B w u) (hB : B ≤ w.heap.size) (k : Below u.heap.size u v) : Below B w v := h.trans (k.mono (Nat.le_trans hB h.size))

/-- Block n holds the cells c; then they are turned, one by one. -/
theorem heap_set {w : World} {n i : Nat} {c : Array Value} {T : TypeId} (h : w.heap[n]? = some (.cells c T (0, 0))) (v : Value) : (w.setCell ⟨n, i, none⟩ v).heap[n]? = some (.cells (c.setIfInBounds i v) T (0, 0)) := by
  simp [World.setCell, Array.getElem?_modify, h]
theorem heap_far {w : World} {n k i : Nat} (h : k ≠ n) (v : Value) : (w.setCell ⟨n, i, none⟩ v).heap[k]? = w.heap[k]? := Below.heap_setCell _ _ _ _ h
theorem bC_set (l : List Nat) (i x : Nat) : (bC l).setIfInBounds i (.int .u32 (x : Nat)) = bC (l.set i x) := by
  unfold bC
  simp [List.map_set, u32V]
theorem bC_size (l : List Nat) : (bC l).size = l.length := by simp [bC]

/-- An array's element, by value. -/
theorem run_index_agg {P : Program} (w : World) {t e : TypeId} {n i : Nat} {cs : Array Value} {k : IntKind} {v : Value} (h : P.underlying t = some (.array n e)) (hp : P.plainKey e = true) (hi : (P.info? e).isSome = true) (hc : P.cellsOf e = 1) (hn : i < n) (hv : cs[i]? = some v) :
    (Instr.index t (.agg cs) (.int k (i : Int))).run P w = .ok v w := by
  obtain ⟨i0, hi⟩ := Option.isSome_iff_exists.1 hi
  have hb : (0 : Int) ≤ (i : Int) ∧ (i : Int) < (n : Int) := by omega
  simp [Instr.index, run_underlying h, asIntOf, hb, run_sizeOf w hi, hc, run_part_plain w hp hv]
  intro hx; omega
theorem index_8 (a b c d e f g h : Value) :
    (∀ w, (Instr.index 23 (.agg #[a, b, c, d, e, f, g, h]) (.int .i64 0)).run Tryd.prog w = .ok a w) ∧ (∀ w, (Instr.index 23 (.agg #[a, b, c, d, e, f, g, h]) (.int .i64 1)).run Tryd.prog w = .ok b w)
    ∧ (∀ w, (Instr.index 23 (.agg #[a, b, c, d, e, f, g, h]) (.int .i64 2)).run Tryd.prog w = .ok c w) ∧ (∀ w, (Instr.index 23 (.agg #[a, b, c, d, e, f, g, h]) (.int .i64 3)).run Tryd.prog w = .ok d w)
    ∧ (∀ w, (Instr.index 23 (.agg #[a, b, c, d, e, f, g, h]) (.int .i64 4)).run Tryd.prog w = .ok e w) ∧ (∀ w, (Instr.index 23 (.agg #[a, b, c, d, e, f, g, h]) (.int .i64 5)).run Tryd.prog w = .ok f w)
    ∧ (∀ w, (Instr.index 23 (.agg #[a, b, c, d, e, f, g, h]) (.int .i64 6)).run Tryd.prog w = .ok g w) ∧ (∀ w, (Instr.index 23 (.agg #[a, b, c, d, e, f, g, h]) (.int .i64 7)).run Tryd.prog w = .ok h w) := by
  refine ⟨fun w => ?_, fun w => ?_, fun w => ?_, fun w => ?_, fun w => ?_, fun w => ?_, fun w => ?_, fun w => ?_⟩
  · exact run_index_agg (i := 0) w Tryd.underlying23 (by kernel_rfl) (by kernel_rfl) (by kernel_rfl) (by decide) rfl
  · exact run_index_agg (i := 1) w Tryd.underlying23 (by kernel_rfl) (by kernel_rfl) (by kernel_rfl) (by decide) rfl
  · exact run_index_agg (i := 2) w Tryd.underlying23 (by kernel_rfl) (by kernel_rfl) (by kernel_rfl) (by decide) rfl
  · exact run_index_agg (i := 3) w Tryd.underlying23 (by kernel_rfl) (by kernel_rfl) (by kernel_rfl) (by decide) rfl
  · exact run_index_agg (i := 4) w Tryd.underlying23 (by kernel_rfl) (by kernel_rfl) (by kernel_rfl) (by decide) rfl
  · exact run_index_agg (i := 5) w Tryd.underlying23 (by kernel_rfl) (by kernel_rfl) (by kernel_rfl) (by decide) rfl
  · exact run_index_agg (i := 6) w Tryd.underlying23 (by kernel_rfl) (by kernel_rfl) (by kernel_rfl) (by decide) rfl
  · exact run_index_agg (i := 7) w Tryd.underlying23 (by kernel_rfl) (by kernel_rfl) (by kernel_rfl) (by decide) rfl

/-- A quiet call, whose contract says 'w = w'', in a region that only reads. -/
theorem quiet_left {P : Program} {f : FuncId} {args : Array Value} {w : World} {n : Nat} {v : Value}
    (h : Calls P f args (w.drewN n) fun e w' => e = .returned v ∧ w.drewN n = w') : Calls P f args (w.drewN n) fun e w'' => e = .returned v ∧ ∃ m, w'' = w.drewN m :=
  h.mono fun _ _ ⟨he, hm⟩ => ⟨he, n, hm.symm⟩
end Go.Proofs.YtcecncbhfcoilaaDoor
