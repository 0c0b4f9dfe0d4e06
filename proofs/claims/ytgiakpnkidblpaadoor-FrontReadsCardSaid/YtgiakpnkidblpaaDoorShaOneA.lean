/-
  The blocks that the statements on short texts lay out by hand are those of the document.
-/
import Derived.Test.YtgiakpnkidblpaaDoorShaAwake
namespace Go.Proofs.YtgiakpnkidblpaaDoor
open Go.RowKit

/-- The last block of a text of n bytes, n of which (modulo 64) are T, no more than 55: as it is laid out by hand. -/
theorem last_block (T : List UInt8) (n : Nat) (hT : T.length ≤ 55) (hn : n % 64 = T.length) (hn' : n < 8192) :
    (((T ++ List.replicate (64 - T.length) 0).set T.length 128).set 62 (UInt8.ofNat (8 * n / 256))).set 63 (UInt8.ofNat (8 * n)) = T ++ Sha.endL n := by
  have hz : Sha.zeros n = 55 - T.length := by unfold Sha.zeros; omega
  have hb : Sha.be8 (8 * n) = [0, 0, 0, 0, 0, 0, UInt8.ofNat (8 * n / 256), UInt8.ofNat (8 * n)] := by
    have e : ∀ k, 65536 ≤ k → 8 * n / k = 0 := fun k hk => Nat.div_eq_of_lt (by omega)
    simp only [Sha.be8, List.range, List.range.loop, List.map_cons, List.map_nil]
    rw [e _ (by decide), e _ (by decide), e _ (by decide), e _ (by decide), e _ (by decide), e _ (by decide)]
    simp
  rw [Sha.endL, hz, hb, show 64 - T.length = (55 - T.length + 8) + 1 by omega, List.replicate_succ, List.set_append_right _ _ (by omega), Nat.sub_self, List.set_cons_zero, List.set_append_right _ _ (by omega), List.set_append_right _ _ (by omega),
    show 62 - T.length = (55 - T.length + 6) + 1 by omega, show 63 - T.length = (55 - T.length + 7) + 1 by omega, List.set_cons_succ, List.set_cons_succ, ← List.replicate_append_replicate, List.set_append_right _ _ (by simp), List.set_append_right _ _ (by simp)]
  simp
theorem full_one (T : List UInt8) (hT : T.length ≤ 55) : (Sha.full T).length = 64 := by
  unfold Sha.full
  rw [List.length_append, Sha.endL_length]
  unfold Sha.zeros
  omega
theorem digest_one (T : List UInt8) (hT : T.length ≤ 55) : Sha.digest T = (Sha.step Sha.start (Sha.words (Sha.full T))).bytes := by
  unfold Sha.digest
  rw [full_one T hT]
  show (Sha.run Sha.start 1 (Sha.full T)).bytes = _
  rw [Sha.run, Sha.run, List.take_of_length_le (by rw [full_one T hT]; exact Nat.le_refl _)]

theorem or_form2 (a : Nat) (x : UInt8) (ha : a < 16777216) : bits .or .u32 ((a : Int) * 256) (x.toNat : Int) = ((a * 256 + x.toNat : Nat) : Int) := by
  have hx : x.toNat < 256 := x.toNat_lt
  rw [← or_form a x ha]
  congr 1
  omega
/-- The eight cells of a state, one by one, in a block of eight cells. -/
theorem put8 {q : Nat} {w : World} (u : Sha.V) (h : w.heap[q]? = some (.cells zC 76 (0, 0))) : ((((((((w.setCell ⟨q, 0, none⟩ (.int .u32 u.a)).setCell ⟨q, 1, none⟩ (.int .u32 u.b)).setCell ⟨q, 2, none⟩ (.int .u32 u.c)).setCell ⟨q, 3, none⟩ (.int .u32 u.d)).setCell ⟨q, 4, none⟩ (.int .u32 u.e)).setCell ⟨q, 5, none⟩ (.int .u32 u.f)).setCell ⟨q, 6, none⟩ (.int .u32 u.g)).setCell ⟨q, 7, none⟩ (.int .u32 u.h)).heap[q]? = some (.cells (vC u) 76 (0, 0)) := by
  have := heap_setCells q 76 (vC u).toList 0 zC.toList w (by simp [vC, zC]) h
  refine Eq.trans ?_ this |>.trans ?_
  · rfl
  · simp [vC, zC]
theorem z8 {q : Nat} {w : World} (h : w.heap[q]? = some (.cells zC 76 (0, 0))) : w.cell? ⟨q, 0, none⟩ = some (.int .u32 0) ∧ w.cell? ⟨q, 1, none⟩ = some (.int .u32 0) ∧ w.cell? ⟨q, 2, none⟩ = some (.int .u32 0) ∧ w.cell? ⟨q, 3, none⟩ = some (.int .u32 0) ∧ w.cell? ⟨q, 4, none⟩ = some (.int .u32 0) ∧ w.cell? ⟨q, 5, none⟩ = some (.int .u32 0) ∧ w.cell? ⟨q, 6, none⟩ = some (.int .u32 0) ∧ w.cell? ⟨q, 7, none⟩ = some (.int .u32 0) ∧ w.frozen? ⟨q, 0, none⟩ = false ∧ w.frozen? ⟨q, 1, none⟩ = false ∧ w.frozen? ⟨q, 2, none⟩ = false ∧ w.frozen? ⟨q, 3, none⟩ = false ∧ w.frozen? ⟨q, 4, none⟩ = false ∧ w.frozen? ⟨q, 5, none⟩ = false ∧ w.frozen? ⟨q, 6, none⟩ = false ∧ w.frozen? ⟨q, 7, none⟩ = false :=
  ⟨cell_of h 0, cell_of h 1, cell_of h 2, cell_of h 3, cell_of h 4, cell_of h 5, cell_of h 6, cell_of h 7, fz_of h 0, fz_of h 1, fz_of h 2, fz_of h 3, fz_of h 4, fz_of h 5, fz_of h 6, fz_of h 7⟩
theorem info_24 : (Tryd.prog.info? 78).map (·.size) = some 16 := by kernel_rfl
theorem vC_at (u : Sha.V) (q : Nat) (h : q < 8) : (vC u)[q]? = some (.int .u32 (u.list.getD q 0 : Nat)) := by
  match q, h with
  | 0, _ | 1, _ | 2, _ | 3, _ | 4, _ | 5, _ | 6, _ | 7, _ => rfl
  | _ + 8, h => exact absurd h (by omega)
theorem range_put8 {w : World} {b o q : Nat} {cs : List Value} {v0 v1 v2 v3 v4 v5 v6 v7 : Value} (h : w.rangeAt b o cs) (hne : b ≠ q) : ((((((((w.setCell ⟨q, 0, none⟩ v0).setCell ⟨q, 1, none⟩ v1).setCell ⟨q, 2, none⟩ v2).setCell ⟨q, 3, none⟩ v3).setCell ⟨q, 4, none⟩ v4).setCell ⟨q, 5, none⟩ v5).setCell ⟨q, 6, none⟩ v6).setCell ⟨q, 7, none⟩ v7).rangeAt b o cs :=
  range_set (range_set (range_set (range_set (range_set (range_set (range_set (range_set h hne) hne) hne) hne) hne) hne) hne) hne
/-- Block q holds the state u. -/
def StateAt (u : Sha.V) (w : World) (x : Value) (wx : World) : Prop := ∃ q, x = .pointer (some ⟨q, 0, none⟩) ∧ wx.heap[q]? = some (.cells (vC u) 76 (0, 0)) ∧ Below w.heap.size w wx
theorem stateAt_new (u : Sha.V) {w w6 : World} (h : Below w.heap.size w w6) : StateAt u w (.pointer (some ⟨w6.heap.size, 0, none⟩)) (w6.alloc (.cells #[.int .u32 u.a, .int .u32 u.b, .int .u32 u.c, .int .u32 u.d, .int .u32 u.e, .int .u32 u.f, .int .u32 u.g, .int .u32 u.h] 76)) :=
  ⟨_, rfl, heap_alloc_last w6 _, h.alloc h.size _⟩
theorem stateAt_put (u : Sha.V) {w w6 : World} {q : Nat} (h : Below w.heap.size w w6) (hq : w.heap.size ≤ q) (hh : w6.heap[q]? = some (.cells zC 76 (0, 0))) : StateAt u w (.pointer (some ⟨q, 0, none⟩)) ((((((((w6.setCell ⟨q, 0, none⟩ (.int .u32 u.a)).setCell ⟨q, 1, none⟩ (.int .u32 u.b)).setCell ⟨q, 2, none⟩ (.int .u32 u.c)).setCell ⟨q, 3, none⟩ (.int .u32 u.d)).setCell ⟨q, 4, none⟩ (.int .u32 u.e)).setCell ⟨q, 5, none⟩ (.int .u32 u.f)).setCell ⟨q, 6, none⟩ (.int .u32 u.g)).setCell ⟨q, 7, none⟩ (.int .u32 u.h)) :=
  ⟨q, rfl, put8 u hh, (((((((h.setCell hq _).setCell hq _).setCell hq _).setCell hq _).setCell hq _).setCell hq _).setCell hq _).setCell hq _⟩
/-- Ahead of byte k of the text that is laid into block B. -/
def FillRel (B : Nat) (T : List UInt8) (w : World) (si : Value) (wr : World) : Prop :=
  ∃ k : Nat, k ≤ T.length ∧ si = .int .i64 k ∧ wr.heap[B]? = some (.cells ((T.take k ++ List.replicate (64 - k) 0).map u8V).toArray 96 (0, 0)) ∧ Below w.heap.size w wr
/-- Ahead of byte i of block B, whose numbers are laid into block C. -/
def NumRel (B C : Nat) (P : List UInt8) (w : World) (si : Value) (wr : World) : Prop :=
  ∃ i : Nat, i ≤ 64 ∧ si = .int .i64 i ∧ wr.heap[B]? = some (.cells (P.map u8V).toArray 96 (0, 0)) ∧ wr.heap[C]? = some (.cells (bC (Sha.parts P i)) 78 (0, 0)) ∧ Below w.heap.size w wr
/-- Ahead of byte i: block p holds the hash D, block q the state u. -/
def CmpRel (p q : Nat) (D : List UInt8) (u : Sha.V) (w : World) (si : Value) (wr : World) : Prop :=
  ∃ i : Nat, i ≤ 32 ∧ si = .int .i64 i ∧ wr.heap[p]? = some (.cells (D.map u8V).toArray 31 (0, 0)) ∧ wr.heap[q]? = some (.cells (vC u) 76 (0, 0)) ∧ Below w.heap.size w wr
end Go.Proofs.YtgiakpnkidblpaaDoor
