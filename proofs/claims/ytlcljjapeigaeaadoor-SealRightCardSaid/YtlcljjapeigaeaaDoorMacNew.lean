/-
  Package mac: what Pad tells; the closure of New; New.
-/
import Derived.Test.YtlcljjapeigaeaaDoorMMac
import Derived.Test.YtlcljjapeigaeaaDoorMShaB
namespace Go.Proofs.YtlcljjapeigaeaaDoor
open Go.RowKit

theorem slice_all64 (p : Nat) (w : World) : (Instr.sliceAt 113 (.pointer (some ⟨p, 0, none⟩)) none none none).run Tryd.prog w = .ok (.slice (some ⟨p, 0, none⟩) 64 64) w := by
  rw [run_sliceAt_array_all w 113 _ (by rw [len_44, elem_44]; exact Tryd.underlying113), elem_44, size_u8, len_44]
  simp only [Result.andThen, slicedAt, Nat.zero_mul, Nat.sub_zero]
  rw [if_neg (by decide), Addr.add_mid]
theorem info_64 : (Tryd.prog.info? 113).map (fun i => (i.zero, i.size)) = some (some (.agg (zB.map u8V).toArray), 64) := by kernel_rfl

/-- The end of Pad: the key, or its hash, lies in an array. -/
theorem pad_end (w3 : World) (B : Nat) (k : List UInt8) (X : ByteArray) (hX : X.data.toList = Mac.keyL k) (h3 : w3.heap[B]? = some (.cells (zB.map u8V).toArray 113 (0, 0))) :
    (∀ ty, (Builtin.copy_ #[58, 9] ty #[.slice (some ⟨B, 0, none⟩) 64 64, .string X]).run Tryd.prog w3 = .ok (goInt X.size) (w3.setCells B 0 (X.data.toList.map u8V))) ∧
    (convert 58 9 (.slice (some ⟨B, 0, none⟩) 64 64)).run Tryd.prog (w3.setCells B 0 (X.data.toList.map u8V)) = .ok (.string ⟨(Mac.pad k).toArray⟩) (w3.setCells B 0 (X.data.toList.map u8V)) := by
  have hl := Mac.keyL_length k
  have hs : X.size = (Mac.keyL k).length := by rw [Lib.size_eq, hX]
  refine ⟨fun ty => ?_, ?_⟩
  · have := run_copy_str w3 ty B 0 64 64 X X.size (Nat.min_eq_left (by omega)) _ _ h3 (by simp [zB]; omega)
    rw [List.take_of_length_le (by rw [← Lib.size_eq]; exact Nat.le_refl _)] at this
    exact this
  · refine convert_bytes _ B 64 64 (Mac.pad k) (Mac.pad_length k) (cell_u8 (T := 113) ?_)
    rw [heap_setCells B 113 _ 0 _ w3 (by simp [zB, hX]; omega) h3]
    congr 3
    unfold Mac.pad zB
    rw [hX, List.take_zero, List.nil_append, List.map_append, List.map_replicate, List.map_replicate, Nat.zero_add, List.length_map, List.drop_replicate]

set_option maxHeartbeats 1000000 in
set_option maxRecDepth 100000 in
theorem pad_any (s : ByteArray) (k : List UInt8) (hs : s.data.toList = k) (w : World) (hK : KT w) (hlen : k.length < 576460752303423488) :
    Calls Tryd.prog 100 #[.string s] w fun e w' => e = .returned (.string ⟨(Mac.pad k).toArray⟩) ∧ Below w.heap.size w w' := by
  have hsz : s.size = k.length := by rw [← hs]; exact Lib.size_eq s
  have HS := Lib.hid hs
  have hz := (zero_of_info info_64).1
  have hsl := slice_all64
  clear hs
  by_cases hlt : 64 < s.size
  · have HK1 : Hid (Mac.keyL k = Sha.digest k) := Lib.hid (by unfold Mac.keyL; rw [if_pos (by omega)])
    go_enter Tryd.func100, Tryd.ntmps100
    go_upto_region 3 with (first
      | (go_at_call 69; refine (of_one s k HS.out w hK hlen).mono ?_; rintro e w1 ⟨rfl, b1⟩)
      | (go_at_call 66; refine (bytes_any _ _ (Sha.digest_length k)).mono ?_; rintro e w2 ⟨rfl, b2⟩))
    obtain ⟨X, hX⟩ : ∃ X : ByteArray, X = ⟨(Sha.digest k).toArray⟩ := ⟨_, rfl⟩
    rw [← hX]
    have HX : Hid (X.data.toList = Mac.keyL k) := Lib.hid (by rw [hX, HK1.out])
    clear hX
    go_upto_region 4 with (fail)
    obtain ⟨w3, hw3⟩ : ∃ w3, w3 = w2.alloc (.cells (zB.map u8V).toArray 113) := ⟨_, rfl⟩
    have b3 : Below w.heap.size w w3 := by rw [hw3]; exact below_step (below_step b1 (Nat.le_refl _) b2) (Nat.le_refl _) ((Below.refl _ _).alloc (Nat.le_refl _) _)
    have h3 : w3.heap[w2.heap.size]? = some (.cells (zB.map u8V).toArray 113 (0, 0)) := by rw [hw3]; exact heap_alloc_last w2 _
    have hle : w.heap.size ≤ w2.heap.size := (below_step b1 (Nat.le_refl _) b2).size
    rw [← hw3]
    obtain ⟨hcp, hcv⟩ := pad_end w3 w2.heap.size k X HX.out h3
    clear hw3 h3 hz
    go_wp2
    go_ret
    exact ⟨rfl, below_setCells hle _ _ _ b3⟩
  · have HK1 : Hid (Mac.keyL k = k) := Lib.hid (by unfold Mac.keyL; rw [if_neg (by omega)])
    have HX : Hid (s.data.toList = Mac.keyL k) := Lib.hid (by rw [HS.out, HK1.out])
    go_enter Tryd.func100, Tryd.ntmps100
    go_upto_region 4 with (fail)
    obtain ⟨w3, hw3⟩ : ∃ w3, w3 = w.alloc (.cells (zB.map u8V).toArray 113) := ⟨_, rfl⟩
    have b3 : Below w.heap.size w w3 := by rw [hw3]; exact (Below.refl _ _).alloc (Nat.le_refl _) _
    have h3 : w3.heap[w.heap.size]? = some (.cells (zB.map u8V).toArray 113 (0, 0)) := by rw [hw3]; exact heap_alloc_last w _
    rw [← hw3]
    obtain ⟨hcp, hcv⟩ := pad_end w3 w.heap.size k s HX.out h3
    clear hw3 h3 hz
    go_wp2
    go_ret
    exact ⟨rfl, below_setCells (Nat.le_refl _) _ _ _ b3⟩

/-- Ahead of byte i of the padded key. -/
def XorRel (q : Nat) (l : List UInt8) (m : UInt8) (w : World) (si : Value) (wr : World) : Prop :=
  ∃ i : Nat, i ≤ 64 ∧ si = .int .i64 i ∧ Row8 q (Mac.xorL (l.take i) m ++ l.drop i) wr ∧ Below q w wr

theorem xor_step (l : List UInt8) (m : UInt8) (i : Nat) (h : i < l.length) : (Mac.xorL (l.take i) m ++ l.drop i).set i (l.getD i 0 ^^^ m) = Mac.xorL (l.take (i + 1)) m ++ l.drop (i + 1) := by
  have e : l.getD i 0 = l[i] := by rw [List.getD_eq_getElem?_getD, List.getElem?_eq_getElem h]; rfl
  rw [List.set_append_right _ _ (by rw [Mac.xorL_length, List.length_take]; omega), Mac.xorL_length, List.length_take, Nat.min_eq_left (by omega), Nat.sub_self, List.drop_eq_getElem_cons h, List.set_cons_zero, List.take_succ_eq_append_getElem h, e]
  unfold Mac.xorL
  rw [List.map_append, List.append_assoc]
  rfl
theorem xor_at (l : List UInt8) (m : UInt8) (i : Nat) (h : i < l.length) : (Mac.xorL (l.take i) m ++ l.drop i)[i]? = some (l.getD i 0) := by
  rw [List.getElem?_append_right (by rw [Mac.xorL_length, List.length_take]; omega), Mac.xorL_length, List.length_take, Nat.min_eq_left (by omega), Nat.sub_self, List.getElem?_drop, Nat.add_zero, List.getElem?_eq_getElem h]
  simp [h]

set_option maxHeartbeats 1000000 in
set_option maxRecDepth 100000 in
theorem begun_any (q : Nat) (S : ByteArray) (l : List UInt8) (hS : S.data.toList = l) (hl : l.length = 64) (m : UInt8) (M : Int) (hM : M = (m.toNat : Int)) (w : World) (hq : w.cell? ⟨q, 0, none⟩ = some (.string S)) (hK : KT w) :
    Calls Tryd.prog 101 #[.int .u8 M, .pointer (some ⟨q, 0, none⟩)] w fun e w' => (∃ v b, HV v b (Mac.xorL l m) ∧ e = .returned (.agg (hL v b 64).toArray)) ∧ Below w.heap.size w w' := by
  subst hM
  have hsz : S.size = 64 := by rw [Lib.size_eq, hS, hl]
  have hz := (zero_of_info info_hash0).1
  have hcv := fun W => run_bytes_of_string (P := Tryd.prog) W 9 58 5 S Tryd.underlying9 Tryd.underlying58 Tryd.underlying5
  have HS := Lib.hid hS
  have Hl := Lib.hid hl
  clear hS hl
  have hql : q < w.heap.size := World.block_lt_of_cell? w ⟨q, 0, none⟩ hq
  go_enter Tryd.func101, Tryd.ntmps101
  go_upto_region 1 with (fail)
  obtain ⟨w0, hw0⟩ : ∃ w0, w0 = w.alloc (.cells (hL zV zB 0).toArray 115) := ⟨_, rfl⟩
  have b0 : Below w.heap.size w w0 := by rw [hw0]; exact (Below.refl _ _).alloc (Nat.le_refl _) _
  have z0 : w0.heap[w.heap.size]? = some (.cells (hL zV zB 0).toArray 115 (0, 0)) := by rw [hw0]; exact heap_alloc_last w _
  have q0 : w0.cell? ⟨q, 0, none⟩ = some (.string S) := (b0.cell (p := ⟨q, 0, none⟩) hql).trans hq
  have s0 : w0.heap.size = w.heap.size + 1 := by rw [hw0]; exact World.size_alloc ..
  rw [← hw0]
  have Hz0 := Lib.hid z0
  have Hs0 := Lib.hid s0
  clear hw0 z0 s0
  go_upto_region 2 with (fail)
  obtain ⟨c, hc⟩ : ∃ c, c = grownCap w0 64 0 5 := ⟨_, rfl⟩
  rw [← hc]
  obtain ⟨w1, hw1⟩ : ∃ w1, w1 = (w0.alloc (.cells (bytesRow S c) 5 ((bytesRow S c).size, (bytesRow S c).size + 1))).drew := ⟨_, rfl⟩
  have r1 : Row8 w0.heap.size l w1 := by rw [hw1, ← HS.out]; exact row8_new w0 S c _
  have b1 : Below w0.heap.size w0 w1 := by rw [hw1]; exact ((Below.refl _ _).alloc (Nat.le_refl _) _).drew
  rw [← hw1]
  have hlw : w.heap.size < w0.heap.size := by have := Hs0.out; omega
  clear hw1 hc hcv q0 hsz
  go_wp2
  go_loopw [11] (XorRel w0.heap.size l m w0) (fun i _ => 64 - (intOf i).toNat)
  case atStart => exact ⟨0, by omega, rfl, r1, b1⟩
  case round =>
    obtain ⟨i, hi, rfl, hr, hbl⟩ := hrel
    by_cases hlt : i < 64
    · have hi64 : (i : Int) < 64 := by omega
      have hx := hr.cell i _ (xor_at l m i (by rw [Hl.out]; exact hlt))
      have hf := hr.fz i (by rw [List.length_append, Mac.xorL_length, List.length_take, List.length_drop, Hl.out]; omega)
      have hst := xor_step l m i (by rw [Hl.out]; exact hlt)
      have hset := hr.set i (l.getD i 0 ^^^ m)
      rw [hst] at hset
      unfold u8V at hx
      generalize l.getD i 0 = x at *
      have ex := xor_u8 x m
      have HSET := Lib.hid hset
      have HR := Lib.hid hr
      clear hset hst hr
      go_wp2
      refine ⟨⟨i + 1, by omega, by go_num, HSET.out, hbl.setCell (Nat.le_refl _) _⟩, by simp [intOf]; omega⟩
    · obtain rfl : 64 = i := by omega
      rw [List.take_of_length_le (by rw [Hl.out]; exact Nat.le_refl _), List.drop_eq_nil_of_le (by rw [Hl.out]; exact Nat.le_refl _), List.append_nil] at hr
      obtain ⟨X, hX⟩ : ∃ X, X = Mac.xorL l m := ⟨_, rfl⟩
      rw [← hX] at hr
      have HX := Lib.hid hX
      have hXl : X.length = 64 := by rw [hX, Mac.xorL_length, Hl.out]
      have HXl := Lib.hid hXl
      have zr : wr.heap[w.heap.size]? = some (.cells (hL zV zB 0).toArray 115 (0, 0)) := (hbl.block _ hlw).trans Hz0.out
      have br : Below w.heap.size w wr := below_step b0 (Nat.le_refl _) hbl
      have hKr := hK.old br
      have HR := Lib.hid hr
      have ZR := Lib.hid zr
      clear hr zr hX hXl Hz0 r1
      go_upto_region 8 with (fail)
      obtain ⟨w2, hw2⟩ : ∃ w2, w2 = wr.alloc (.cells (hL zV zB 0).toArray 115) := ⟨_, rfl⟩
      have b2 : Below wr.heap.size wr w2 := by rw [hw2]; exact (Below.refl _ _).alloc (Nat.le_refl _) _
      have i2 : IsHash wr.heap.size [] w2 := by rw [hw2]; exact isHash_zero (Cells.new wr _ _ 0 (by simp [zB]) zero_ok)
      have r2 := HR.out.old b2 HR.out.lt
      have z2 := (b2.block _ (Array.getElem?_eq_some_iff.1 ZR.out).1).trans ZR.out
      have bb2 := below_step br (Nat.le_refl _) b2
      have hK2 := hK.old bb2
      have hcb := convert_bytes w2 w0.heap.size 64 c X HXl.out r2.cell
      have hlt2 : w.heap.size < wr.heap.size := (Array.getElem?_eq_some_iff.1 ZR.out).1
      rw [← hw2]
      have Z2 := Lib.hid z2
      clear hw2 z2 hz
      go_upto_region 9 with (first
        | (go_at_call 85; refine (write_any wr.heap.size [] ⟨X.toArray⟩ X rfl _ i2 hK2 (by rw [HXl.out]; decide)).mono ?_; rintro e w3 ⟨rfl, i3, o3⟩))
      rw [List.nil_append] at i3
      obtain ⟨v, b, hv, hc3⟩ := i3.hv
      rw [HXl.out] at hc3
      have z3 := (o3.block _ (Nat.lt_of_lt_of_le hlt2 b2.size) (by omega)).trans Z2.out
      have bb3 : Below w.heap.size w w3 := bb2.trans (o3.below (by omega) (bb2.size))
      have Hl3 := hL_length v b 64 hv.1
      have hI : (Tryd.prog.info? 115).map (·.size) = some (hL v b 64).length := by rw [Hl3]; exact info_hash
      have hI2 : (Tryd.prog.info? 115).map (·.size) = some (hL v b 64).toArray.size := by rw [List.size_toArray]; exact hI
      have ht : w3.there w.heap.size 0 (hL v b 64).toArray.size := by
        rw [show (hL v b 64).toArray.size = 73 from (List.size_toArray).trans Hl3]; exact there_of z3 (by rw [zL_length]; decide)
      have HI := Lib.hid hI
      have HI2 := Lib.hid hI2
      have HT := Lib.hid ht
      have HR3 := Lib.hid hc3.range
      clear hI hI2 ht Hl3
      go_wp2_with (first
        | refine wpList_load_mid rfl 115 (.tmp 6) rfl wr.heap.size 0 rfl (hL v b 64) _ HR3.out Tryd.underlying115 rfl HI.out ?_
        | refine wpList_store_mid rfl 115 (.tmp 3) (.tmp 25) rfl w.heap.size 0 (hL v b 64).toArray rfl rfl HT.out HI2.out (hL_one v b 64) ?_)
      have hfin : (w3.setCells w.heap.size 0 (hL v b 64)).rangeAt w.heap.size 0 (hL v b 64) := World.rangeAt_setCells_same w3 w.heap.size 0 _ (by have := HT.out; rwa [List.size_toArray] at this)
      refine bodyPost_ret (v := .agg (hL v b 64).toArray) (results_cell (t := 3) (ty := 115) (b := w.heap.size) (cs := hL v b 64) rfl _ _ _ rfl hfin Tryd.underlying115 rfl HI.out) rfl ⟨⟨v, b, HX.out ▸ hv, rfl⟩, below_setCells (Nat.le_refl _) _ _ _ bb3⟩
end Go.Proofs.YtlcljjapeigaeaaDoor
