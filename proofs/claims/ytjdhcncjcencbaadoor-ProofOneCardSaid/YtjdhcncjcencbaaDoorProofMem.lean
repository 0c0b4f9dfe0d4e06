/-
  Package proof: hashes in variables, results in memory beside others, rows of booleans.
-/
import Derived.Test.YtjdhcncjcencbaaDoorProofUp
import Derived.Test.YtjdhcncjcencbaaDoorProofParts
import Derived.Great.BuildSlice
import Derived.Lib.Hide
namespace Go.Proofs.YtjdhcncjcencbaaDoor
open Go.RowKit

theorem sum_thereP {w : World} {q : Nat} {x y : List UInt8} (h : w.heap[q]? = some (.cells (x.map u8V).toArray 23 (0, 0))) (hx : x.length = 32) (hy : y.length = 32) : w.there q 0 (y.map u8V).toArray.size := by
  rw [show (y.map u8V).toArray.size = 32 from (List.size_toArray).trans (by rw [List.length_map, hy])]; exact there_of h (by simp [hx])
theorem set_sumP (w : World) (q : Nat) (x y : List UInt8) (hx : x.length = 32) (hy : y.length = 32) (h : w.heap[q]? = some (.cells (x.map u8V).toArray 23 (0, 0))) : (w.setCells q 0 (y.map u8V)).heap[q]? = some (.cells (y.map u8V).toArray 23 (0, 0)) := by
  have := heap_setCells q 23 (y.map u8V) 0 (x.map u8V) w (by simp [hx, hy]) h
  rw [this, List.take_zero, List.nil_append, List.drop_eq_nil_of_le (by simp [hx, hy]), List.append_nil]
theorem load_sumP {w : World} {g o : Nat} {x : List UInt8} (hx : x.length = 32) (h : w.rangeAt g o (x.map u8V)) : (Instr.loadAt 23 (.pointer (some ⟨g, o, none⟩))).run Tryd.prog w = .ok (sumV x) w :=
  run_loadAt_mid _ _ _ _ _ _ h Tryd.underlying23 rfl (sum_info' hx)
theorem sum_oneP (x : List UInt8) : ((x.map u8V).toArray : Array Value).all (·.oneCell') = true := sum_one x
/-- Results: a hash that lies in memory, and a slot. -/
theorem results_ct {fn : Func} {t u : Tmp} {ty : TypeId} (h : fn.results = #[.cell t ty, .tmp u]) (tmps : Array Value) (P : Program) (w : World) {b : Nat} {cs : List Value} {d : TypeDesc} (ht : tmps.getD t undef = .pointer (some ⟨b, 0, none⟩)) (hc : w.rangeAt b 0 cs)
    (hu : P.underlying ty = some d) (hd : d.isRow = true) (hi : (P.info? ty).map (·.size) = some cs.length) : (results fn tmps).run P w = .ok (.tuple #[.agg cs.toArray, tmps.getD u undef]) w := by
  have := run_loadVar_mid w b 0 ty cs d hc hu hd hi
  rw [Array.getD_eq_getD_getElem?] at ht
  simp [results, h, ht, asAddr, this, Result.andThen]
/-- Results: two hashes that lie in memory, and a slot. -/
theorem results_cct {fn : Func} {t t' u : Tmp} {ty : TypeId} (h : fn.results = #[.cell t ty, .cell t' ty, .tmp u]) (tmps : Array Value) (P : Program) (w : World) {b b' : Nat} {cs cs' : List Value} {d : TypeDesc} (ht : tmps.getD t undef = .pointer (some ⟨b, 0, none⟩)) (ht' : tmps.getD t' undef = .pointer (some ⟨b', 0, none⟩)) (hc : w.rangeAt b 0 cs) (hc' : w.rangeAt b' 0 cs')
    (hu : P.underlying ty = some d) (hd : d.isRow = true) (hi : (P.info? ty).map (·.size) = some cs.length) (hi' : (P.info? ty).map (·.size) = some cs'.length) : (results fn tmps).run P w = .ok (.tuple #[.agg cs.toArray, .agg cs'.toArray, tmps.getD u undef]) w := by
  have := run_loadVar_mid w b 0 ty cs d hc hu hd hi
  have h2 := run_loadVar_mid w b' 0 ty cs' d hc' hu hd hi'
  rw [Array.getD_eq_getD_getElem?] at ht ht'
  simp [results, h, ht, ht', asAddr, this, h2, Result.andThen]
theorem OwnB.get {B : Nat} {w : World} {v : Value} {l : List Bool} (h : OwnB B w v l) {k : Nat} {x : Bool} (hx : l[k]? = some x) : ∃ g cap, v = .slice (some ⟨g, 0, none⟩) l.length cap ∧ B ≤ g ∧ g < w.heap.size ∧ w.cell? ⟨g, k, none⟩ = some (.bool x) := by
  have h' := h
  obtain ⟨_, h | ⟨g, cap, cur, rfl, hbg, hg, hnc, hcm, hcs, htake⟩⟩ := h
  · obtain ⟨-, h0⟩ := h
    have := (List.getElem?_eq_some_iff.1 hx).1
    omega
  · refine ⟨g, cap, rfl, hbg, (Array.getElem?_eq_some_iff.1 hg).1, ?_⟩
    have := World.ownsRow.cells h' (g := g) rfl _ _ (bvs_get hx)
    rw [Addr.add_mid, Nat.zero_add] at this
    exact this
theorem OwnB.at0 {B : Nat} {w : World} {a : Option Addr} {n cap : Nat} {l : List Bool} (h : OwnB B w (.slice a n cap) l) {k : Nat} {x : Bool} (hx : l[k]? = some x) : ∃ g, a = some ⟨g, 0, none⟩ ∧ B ≤ g ∧ g < w.heap.size ∧ n = l.length ∧ w.cell? ⟨g, k, none⟩ = some (.bool x) := by
  obtain ⟨g, cap', e, h1, h2, h3⟩ := h.get hx
  injection e with e1 e2 e3
  exact ⟨g, e1, h1, h2, e2, h3⟩
theorem Sums.at0 {w : World} {a : Option Addr} {n cap : Nat} {l : Hs} (h : Sums w (.slice a n cap) l) {k : Nat} {x : List UInt8} (hx : l[k]? = some x) : ∃ b off, a = some ⟨b, off, none⟩ ∧ b < w.heap.size ∧ n = l.length ∧ w.rangeAt b (off + k * 32) (x.map u8V) := by
  obtain ⟨hk, rfl⟩ := List.getElem?_eq_some_iff.1 hx
  exact h.at k hk
end Go.Proofs.YtjdhcncjcencbaaDoor
