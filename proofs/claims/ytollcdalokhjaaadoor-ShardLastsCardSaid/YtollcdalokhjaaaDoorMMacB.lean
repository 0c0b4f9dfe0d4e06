/-
  Several texts in one (MacNew, MacMaker, MacTell, MacOf).
-/
import Derived.Test.YtollcdalokhjaaaDoorMMac
import Derived.Test.YtollcdalokhjaaaDoorMShaB
import Derived.Test.YtollcdalokhjaaaDoorMGen
import Derived.Test.YtollcdalokhjaaaDoorMShaA
import Derived.Deep.CutRange
import Derived.Deep.RegionWith
import Derived.Deep.RegionHeld3
/-! ## Package mac: what Pad tells; the closure of New; New. -/
namespace Go.Proofs.YtollcdalokhjaaaDoor
open Go.RowKit

theorem slice_all64 (p : Nat) (w : World) : (Instr.sliceAt 125 (.pointer (some ⟨p, 0, none⟩)) none none none).run Tryd.prog w = .ok (.slice (some ⟨p, 0, none⟩) 64 64) w := by
  rw [run_sliceAt_array_all w 125 _ (by rw [len_44, elem_44]; exact Tryd.underlying125), elem_44, size_u8, len_44]
  simp only [Result.andThen, slicedAt, Nat.zero_mul, Nat.sub_zero]
  rw [if_neg (by decide), Addr.add_mid]
theorem info_64 : (Tryd.prog.info? 125).map (fun i => (i.zero, i.size)) = some (some (.agg (zB.map u8V).toArray), 64) := by kernel_rfl

/-- The end of Pad: the key, or its hash, lies in an array. -/
theorem pad_end (w3 : World) (B : Nat) (k : List UInt8) (X : ByteArray) (hX : X.data.toList = Mac.keyL k) (h3 : w3.heap[B]? = some (.cells (zB.map u8V).toArray 125 (0, 0))) :
    (∀ ty, (Builtin.copy_ #[110, 9] ty #[.slice (some ⟨B, 0, none⟩) 64 64, .string X]).run Tryd.prog w3 = .ok (goInt X.size) (w3.setCells B 0 (X.data.toList.map u8V))) ∧
    (convert 110 9 (.slice (some ⟨B, 0, none⟩) 64 64)).run Tryd.prog (w3.setCells B 0 (X.data.toList.map u8V)) = .ok (.string ⟨(Mac.pad k).toArray⟩) (w3.setCells B 0 (X.data.toList.map u8V)) := by
  have hl := Mac.keyL_length k
  have hs : X.size = (Mac.keyL k).length := by rw [Lib.size_eq, hX]
  refine ⟨fun ty => ?_, ?_⟩
  · have := run_copy_str w3 ty B 0 64 64 X X.size (Nat.min_eq_left (by omega)) _ _ h3 (by simp [zB]; omega)
    rw [List.take_of_length_le (by rw [← Lib.size_eq]; exact Nat.le_refl _)] at this
    exact this
  · refine convert_bytes _ B 64 64 (Mac.pad k) (Mac.pad_length k) (cell_u8 (T := 125) ?_)
    rw [heap_setCells B 125 _ 0 _ w3 (by simp [zB, hX]; omega) h3]
    congr 3
    unfold Mac.pad zB
    rw [hX, List.take_zero, List.nil_append, List.map_append, List.map_replicate, List.map_replicate, Nat.zero_add, List.length_map, List.drop_replicate]

/-- Ahead of byte i of the padded key. -/
def XorRel (q : Nat) (l : List UInt8) (m : UInt8) (w : World) (si : Value) (wr : World) : Prop :=
  ∃ i : Nat, i ≤ 64 ∧ si = .int .i64 i ∧ Row8 q (Mac.xorL (l.take i) m ++ l.drop i) wr ∧ Below q w wr

theorem xor_step (l : List UInt8) (m : UInt8) (i : Nat) (h : i < l.length) : (Mac.xorL (l.take i) m ++ l.drop i).set i (l.getD i 0 ^^^ m) = Mac.xorL (l.take (i + 1)) m ++ l.drop (i + 1) := by
  have e : l.getD i 0 = l[i] := by rw [List.getD_eq_getElem?_getD, List.getElem?_eq_getElem h]; rfl
  rw [List.set_append_right _ _ (by rw [Mac.xorL_length, List.length_take]; omega), Mac.xorL_length, List.length_take, Nat.min_eq_left (by omega), Nat.sub_self, List.drop_eq_getElem_cons h, List.set_cons_zero, List.take_succ_eq_append_getElem h, e]
  unfold Mac.xorL
  rw [List.map_append, List.append_assoc]
  rfl
theorem xor_at (l : List UInt8) (m : UInt8) (i : Nat) (h : i < l.length) : (Mac.xorL (l.take i) m ++ l.drop i)[i]? = some (l.getD i 0) := by
  rw [List.getElem?_append_right (by rw [Mac.xorL_length, List.length_take]; omega), Mac.xorL_length, List.length_take, Nat.min_eq_left (by omega), Nat.sub_self, List.getElem?_drop, Nat.add_zero, List.getElem?_eq_getElem h]
  simp [h]

end Go.Proofs.YtollcdalokhjaaaDoor
/-! ## Package mac: New; a maker's Sum, Right, Name; Of, Right. -/
namespace Go.Proofs.YtollcdalokhjaaaDoor
open Go.RowKit

/-- Slot 0 points to a maker with the key k; block z is the result's. -/
def MakerRel (k : List UInt8) (w : World) (s0 : Value) (wc : World) : Prop :=
  ∃ p, s0 = .pointer (some ⟨p, 0, none⟩) ∧ IsMaker p k wc ∧ wc.heap[w.heap.size]? = some (.cells ((List.replicate 32 (0 : UInt8)).map u8V).toArray 33 (0, 0)) ∧ Below w.heap.size w wc
/-- Ahead of part j. -/
def PartRel (q : Nat) (I : List UInt8) (ts : List ByteArray) (w1 : World) (si : Value) (wr : World) : Prop :=
  ∃ j : Nat, j ≤ ts.length ∧ si = .int .i64 j ∧ IsHash q (I ++ flat (ts.take j)) wr ∧ Only q w1 wr

end Go.Proofs.YtollcdalokhjaaaDoor
/-! ## Package mac: Sum of no maker; a maker's Right, Name; Of, Right. -/
namespace Go.Proofs.YtollcdalokhjaaaDoor
open Go.RowKit

def zS : List UInt8 := List.replicate 32 0
theorem zS_length : zS.length = 32 := by simp [zS]

end Go.Proofs.YtollcdalokhjaaaDoor
/-! ## Package mac: Name of a maker; Of; Right; the statements' own helpers awake and short. -/
namespace Go.Proofs.YtollcdalokhjaaaDoor
open Go.RowKit

def nameL : List UInt8 := [110, 97, 109, 101]
end Go.Proofs.YtollcdalokhjaaaDoor
