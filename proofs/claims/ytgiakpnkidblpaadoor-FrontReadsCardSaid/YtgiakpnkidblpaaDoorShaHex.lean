/-
  Package sha: what Hex and Bytes tell of every hash; ending.
-/
import Derived.Test.YtgiakpnkidblpaaDoorShaMem
import Derived.Maps.AppendAt
import Derived.WalkSmall
import Derived.Laws.IdiomStrings
import Derived.Lib.UnsafeStr
import Derived.Deep.RegionLaw
import Derived.Laws.MakeOwn
namespace Go.Proofs.YtgiakpnkidblpaaDoor
open Go.RowKit
/-- The digits. -/
def digitsB : ByteArray := ⟨#[48, 49, 50, 51, 52, 53, 54, 55, 56, 57, 97, 98, 99, 100, 101, 102]⟩

theorem index_sum (l : List UInt8) (hl : l.length = 32) (i : Nat) (hi : i < 32) (w : World) : (Instr.index 31 (.agg (l.map u8V).toArray) (.int .i64 (i : Int))).run Tryd.prog w = .ok (.int .u8 ((l.getD i 0).toNat : Int)) w :=
  run_index_agg w Tryd.underlying31 (by kernel_rfl) (by kernel_rfl) (by kernel_rfl) hi (by simp [u8V, hl, hi])
theorem info_sum : (Tryd.prog.info? 31).map (·.size) = some 32 := by kernel_rfl

theorem box_cells (l : List UInt8) : (Value.agg (l.map u8V).toArray).cells = (l.map u8V).toArray := rfl

set_option maxHeartbeats 1000000 in
set_option maxRecDepth 100000 in
theorem bytes_any (l : List UInt8) (w : World) (hl : l.length = 32) :
    Calls Tryd.prog 34 #[sumV l] w fun e w' => e = .returned (.string ⟨l.toArray⟩) ∧ Below w.heap.size w w' := by
  unfold sumV
  have hcv := convert_bytes (w.alloc (.cells (l.map u8V).toArray 31)) w.heap.size 32 32 l hl (cell_u8 (heap_alloc_last w _))
  clear hl
  go_enter Tryd.func34, Tryd.ntmps34
  go_wp2
  go_ret
  exact ⟨rfl, (Below.refl _ _).alloc (Nat.le_refl _) _⟩

/-- Ahead of byte k. -/
def HexRel (nb : Nat) (l : List UInt8) (w : World) (sv si : Value) (wr : World) : Prop :=
  ∃ k : Nat, ∃ cur : List Value, k ≤ 32 ∧ si = .int .i64 k ∧ sv = .slice (some ⟨nb, 0, none⟩) (2 * k) 64 ∧ cur.length = 64 ∧ cur.take (2 * k) = (Sha.hexL (l.take k)).map u8V ∧ wr.heap[nb]? = some (.cells cur.toArray 5 (0, 0)) ∧ Below w.heap.size w wr

theorem hex_step (l : List UInt8) (k : Nat) (h : k < l.length) : Sha.hexL (l.take (k + 1)) = Sha.hexL (l.take k) ++ [Sha.hexD ((l.getD k 0).toNat / 16), Sha.hexD ((l.getD k 0).toNat % 16)] := by
  unfold Sha.hexL
  rw [List.take_succ_eq_append_getElem h, List.flatMap_append]
  simp [h]
theorem hex_length (l : List UInt8) : (Sha.hexL l).length = 2 * l.length := by
  induction l with
  | nil => rfl
  | cons x l ih => simp only [Sha.hexL, List.flatMap_cons, List.length_append, List.length_cons, List.length_nil] at ih ⊢; omega
theorem hexRel_step {w : World} (l : List UInt8) (hl : l.length = 32) (wr : World) (k : Nat) (cur : List Value) (x : UInt8) (q r : Nat) (o : Obj) (hk : k < 32) (hx : l.getD k 0 = x) (hq : q = x.toNat / 16) (hr : r = x.toNat % 16)
    (hcl : cur.length = 64) (hct : cur.take (2 * k) = (Sha.hexL (l.take k)).map u8V) (hch : wr.heap[w.heap.size + 1]? = some (.cells cur.toArray 5 (0, 0))) (hbl : Below w.heap.size w wr) :
    HexRel (w.heap.size + 1) l w (.slice (some ⟨w.heap.size + 1, 0, none⟩) (2 * k + 2) 64) (.int .i64 ((k : Int) + 1)) ((wr.alloc o).drew.setCells (w.heap.size + 1) (2 * k) [u8V (Sha.hexD q), u8V (Sha.hexD r)]) := by
  have hlt : w.heap.size + 1 < wr.heap.size := (Array.getElem?_eq_some_iff.1 hch).1
  refine ⟨k + 1, cur.take (2 * k) ++ ([u8V (Sha.hexD q), u8V (Sha.hexD r)] ++ cur.drop (2 * k + 2)), by omega, rfl, rfl, ?_, ?_, ?_, ?_⟩
  · simp [hcl]; omega
  · rw [show 2 * (k + 1) = 2 * k + 2 by omega, List.take_append, List.take_of_length_le (by rw [List.length_take]; omega), List.length_take, Nat.min_eq_left (by omega), show 2 * k + 2 - 2 * k = 2 by omega, hct, hex_step l k (by omega), hx, hq, hr]
    simp
  · exact heap_setCells (w.heap.size + 1) 5 [u8V (Sha.hexD q), u8V (Sha.hexD r)] (2 * k) cur (wr.alloc o).drew (by simp [hcl]; omega) ((Below.heap_alloc wr o _ hlt).trans hch)
  · refine below_setCells (by omega) _ _ _ ?_
    have := hbl.alloc hbl.size o
    exact ⟨this.os, this.tape, this.output, this.size, this.block⟩
theorem digit_at (x : Nat) (h : x < 16) (w : World) (k : IntKind) : (Instr.index 9 (.string ⟨#[48, 49, 50, 51, 52, 53, 54, 55, 56, 57, 97, 98, 99, 100, 101, 102]⟩) (.int k (x : Int))).run Tryd.prog w = .ok (.int .u8 ((Sha.hexD x).toNat : Int)) w := by
  rw [run_index_string w _ _ _ _ Tryd.underlying9, dif_pos ⟨by omega, by show (x : Int) < 16; omega⟩]
  have : ∀ x : Fin 16, (⟨#[48, 49, 50, 51, 52, 53, 54, 55, 56, 57, 97, 98, 99, 100, 101, 102]⟩ : ByteArray)[x.val]'(by have := x.2; show _ < 16; exact this) = Sha.hexD x.val := by decide
  have e := this ⟨x, h⟩
  simp only [Int.toNat_natCast]
  rw [e]
theorem and15 (x : UInt8) : bits .and .u8 (x.toNat : Int) 15 = ((x.toNat % 16 : Nat) : Int) := by
  have := u8_and_nat x.toNat 15 x.toNat_lt (by decide)
  rw [show x.toNat &&& 15 = x.toNat % 16 from Nat.and_two_pow_sub_one_eq_mod _ 4] at this
  exact this

end Go.Proofs.YtgiakpnkidblpaaDoor
