/-
  Package sha: what Sum of a hash tells; Of, of any parts.
-/
import Derived.Test.YtgiakpnkidblpaaDoorShaWrite
import Derived.Test.YtgiakpnkidblpaaDoorShaEnd
namespace Go.Proofs.YtgiakpnkidblpaaDoor
open Go.RowKit

theorem bytes_at (v : Sha.V) (i : Nat) (h : i < 32) : v.bytes.getD i 0 = UInt8.ofNat (v.list.getD (i / 4) 0 / 2 ^ (24 - 8 * (i % 4))) := by
  match i, h with
  | 0, _ | 1, _ | 2, _ | 4, _ | 5, _ | 6, _ | 8, _ | 9, _ | 10, _ | 12, _ | 13, _ | 14, _ | 16, _ | 17, _ | 18, _ | 20, _ | 21, _ | 22, _ | 24, _ | 25, _ | 26, _ | 28, _ | 29, _ | 30, _ => rfl
  | 3, _ => exact congrArg UInt8.ofNat (Nat.div_one v.a).symm
  | 7, _ => exact congrArg UInt8.ofNat (Nat.div_one v.b).symm
  | 11, _ => exact congrArg UInt8.ofNat (Nat.div_one v.c).symm
  | 15, _ => exact congrArg UInt8.ofNat (Nat.div_one v.d).symm
  | 19, _ => exact congrArg UInt8.ofNat (Nat.div_one v.e).symm
  | 23, _ => exact congrArg UInt8.ofNat (Nat.div_one v.f).symm
  | 27, _ => exact congrArg UInt8.ofNat (Nat.div_one v.g).symm
  | 31, _ => exact congrArg UInt8.ofNat (Nat.div_one v.h).symm
  | _ + 32, h => exact absurd h (by omega)
theorem Cells.word {p : Nat} {v : Sha.V} {b : List UInt8} {n : Nat} {w : World} (h : Cells p v b n w) (i : Nat) (hi : i < 8) : w.cell? ⟨p, i, none⟩ = some (.int .u32 (v.list.getD i 0 : Nat)) := by
  rw [h.at, hL, List.getElem?_append_left (by simpa [Sha.V.list] using hi)]
  have : i < v.list.length := hi
  simp [u32V, this]
theorem list_lt (v : Sha.V) (h : v.ok) (i : Nat) : v.list.getD i 0 < 4294967296 := by
  refine Sha.getD_lt _ ?_ i
  obtain ⟨h1, h2, h3, h4, h5, h6, h7, h8⟩ := h
  simp only [Sha.V.list, List.mem_cons, List.not_mem_nil, or_false]
  rintro x (rfl | rfl | rfl | rfl | rfl | rfl | rfl | rfl) <;> assumption

theorem sum_step (v : Sha.V) (i : Nat) (h : i < 32) : (((v.bytes.take i ++ List.replicate (32 - i) 0).map u8V).toArray).setIfInBounds i (.int .u8 ((v.bytes.getD i 0).toNat : Int)) = ((v.bytes.take (i + 1) ++ List.replicate (32 - (i + 1)) 0).map u8V).toArray := by
  have hl := Sha.bytes_length v
  rw [List.setIfInBounds_toArray]
  congr 1
  rw [show (Value.int .u8 ((v.bytes.getD i 0).toNat : Int)) = u8V (v.bytes.getD i 0) from rfl, ← List.map_set, List.set_append_right _ _ (by rw [List.length_take]; omega), List.length_take, Nat.min_eq_left (by omega), Nat.sub_self, List.take_succ_eq_append_getElem (by omega), show 32 - i = (32 - (i + 1)) + 1 by omega, List.replicate_succ, List.set_cons_zero]
  congr 1
  rw [List.append_assoc]
  have e : v.bytes.getD i 0 = v.bytes[i] := by rw [List.getD_eq_getElem?_getD, List.getElem?_eq_getElem (by omega)]; rfl
  rw [e]
  rfl
/-- Ahead of byte i of the hash. -/
def SumRel (z q q2 : Nat) (v : Sha.V) (b : List UInt8) (n : Nat) (w : World) (si : Value) (wr : World) : Prop :=
  ∃ i : Nat, i ≤ 32 ∧ si = .int .i64 i ∧ wr.heap[q2]? = some (.cells ((v.bytes.take i ++ List.replicate (32 - i) 0).map u8V).toArray 31 (0, 0)) ∧ Cells q v b n wr
    ∧ wr.heap[z]? = some (.cells ((List.replicate 32 (0 : UInt8)).map u8V).toArray 31 (0, 0)) ∧ Below w.heap.size w wr

set_option maxHeartbeats 1000000 in
set_option maxRecDepth 100000 in
theorem sum_any (p : Nat) (s : List UInt8) (w : World) (h : IsHash p s w) (hK : KT w) (hlen : s.length < 576460752303423488) :
    Calls Tryd.prog 70 #[.pointer (some ⟨p, 0, none⟩)] w fun e w' => e = .returned (sumV (Sha.digest s)) ∧ Below w.heap.size w w' := by
  go_enter Tryd.func70, Tryd.ntmps70
  go_upto_region 1 with (fail)
  obtain ⟨w0, hw0⟩ : ∃ w0, w0 = w.alloc (.cells #[.int .u8 0, .int .u8 0, .int .u8 0, .int .u8 0, .int .u8 0, .int .u8 0, .int .u8 0, .int .u8 0, .int .u8 0, .int .u8 0, .int .u8 0, .int .u8 0, .int .u8 0, .int .u8 0, .int .u8 0, .int .u8 0, .int .u8 0, .int .u8 0, .int .u8 0, .int .u8 0, .int .u8 0, .int .u8 0, .int .u8 0, .int .u8 0, .int .u8 0, .int .u8 0, .int .u8 0, .int .u8 0, .int .u8 0, .int .u8 0, .int .u8 0, .int .u8 0] 31) := ⟨_, rfl⟩
  have b0 : Below w.heap.size w w0 := by rw [hw0]; exact (Below.refl _ _).alloc (Nat.le_refl _) _
  have z0 : w0.heap[w.heap.size]? = some (.cells ((List.replicate 32 (0 : UInt8)).map u8V).toArray 31 (0, 0)) := by rw [hw0]; exact heap_alloc_last w _
  have s0 : w0.heap.size = w.heap.size + 1 := by rw [hw0]; exact World.size_alloc ..
  rw [← hw0]
  have h0 := h.old b0 h.lt
  have hK0 := hK.old b0
  obtain ⟨v, b, hc, hs, hv⟩ := h0
  have hz := (zero_of_info info_hash0).1
  have hl := hL_length v b s.length hc.1
  have hI : (Tryd.prog.info? 98).map (·.size) = some (hL v b s.length).length := by rw [hl]; exact info_hash
  have hI2 : (Tryd.prog.info? 98).map (·.size) = some (hL v b s.length).toArray.size := by rw [List.size_toArray]; exact hI
  have HR := Lib.hid hc.range
  have ht : (w0.alloc (.cells (hL zV zB 0).toArray 98)).there w0.heap.size 0 (hL v b s.length).toArray.size := by
    rw [show (hL v b s.length).toArray.size = 73 from (List.size_toArray).trans hl]; exact there_new _ zL_length
  have HI := Lib.hid hI
  have HI2 := Lib.hid hI2
  have HT := Lib.hid ht
  have Hs := Lib.hid hs
  have Hv := Lib.hid hv
  have Hl := Lib.hid hl
  have Hz0 := Lib.hid z0
  have Hs0 := Lib.hid s0
  clear hI hI2 ht hs hv hl hw0 z0 s0
  go_upto_region 4 with (first
    | refine wpList_load_mid rfl 98 (.tmp 10) rfl p 0 rfl (hL v b s.length) _ HR.out Tryd.underlying98 rfl HI.out ?_
    | refine wpList_store_mid rfl 98 (.tmp 3) (.tmp 11) rfl w0.heap.size 0 (hL v b s.length).toArray rfl rfl HT.out HI2.out (hL_one v b s.length) ?_)
  obtain ⟨w1, hw1⟩ : ∃ w1, w1 = (w0.alloc (.cells (hL zV zB 0).toArray 98)).setCells w0.heap.size 0 (hL v b s.length) := ⟨_, rfl⟩
  have b1 : Below w0.heap.size w0 w1 := by rw [hw1]; exact below_setCells (Nat.le_refl _) _ _ _ ((Below.refl _ _).alloc (Nat.le_refl _) _)
  have c1 : Cells w0.heap.size v b s.length w1 := by
    refine ⟨hc.1, hc.2.1, ?_⟩
    rw [hw1, heap_setCells_all w0 _ _ (by rw [zL_length, Hl.out])]
  have i1 : IsHash w0.heap.size s w1 := ⟨v, b, c1, Hs.out, Hv.out⟩
  have k72 := (hc.old b1 hc.lt).size
  have hK1 := hK0.old b1
  rw [← hw1]
  clear hw1 hz
  have hlE : s.length + (Sha.endL s.length).length < 1152921504606846976 := by rw [Sha.endL_length]; unfold Sha.zeros; omega
  have HlE := Lib.hid hlE
  clear hlE
  go_upto_region 5 with (first
    | (go_at_call 78; refine (ending_any s.length _ (by omega)).mono ?_; rintro e w2 ⟨rfl, b2⟩; have i2 := i1.old b2 i1.lt; have hK2 := hK1.old b2)
    | (go_at_call 69; refine (write_any w0.heap.size s ⟨(Sha.endL s.length).toArray⟩ (Sha.endL s.length) rfl _ i2 hK2 HlE.out).mono ?_; rintro e w3 ⟨rfl, i3, o3⟩))
  obtain ⟨V, B, c3, _, hV3⟩ := i3
  have hdig : V.bytes = Sha.digest s := by
    have hp := Sha.full_pos s
    unfold Sha.digest
    rw [hV3 hp]
    rfl
  have b3 : Below w.heap.size w w3 := by
    have q1 := below_step b0 (Nat.le_refl _) b1
    have q2 := below_step q1 (Nat.le_refl _) b2
    exact q2.trans (o3.below (by have := Hs0.out; omega) q2.size)
  have z3 : w3.heap[w.heap.size]? = some (.cells ((List.replicate 32 (0 : UInt8)).map u8V).toArray 31 (0, 0)) := by
    have hlt : w.heap.size < w0.heap.size := by have := Hs0.out; omega
    have q1 := (b1.block _ hlt).trans Hz0.out
    have q2 := (b2.block _ (Nat.lt_of_lt_of_le hlt b1.size)).trans q1
    exact (o3.block _ (Nat.lt_of_lt_of_le hlt (Nat.le_trans b1.size b2.size)) (by omega)).trans q2
  have HDIG := Lib.hid hdig
  have Z3 := Lib.hid z3
  have hq3 : w0.heap.size < w3.heap.size := c3.lt
  have Vok := c3.2.1
  clear hdig z3 hV3 HR HI HI2 HT Hs Hv Hl Hz0 k72 b1 b2 i1 i2 c1
  generalize (s ++ Sha.endL s.length).length = N3 at c3
  go_wp2
  go_loopw [18] (SumRel w.heap.size w0.heap.size w3.heap.size V B N3 w) (fun i _ => 32 - (intOf i).toNat)
  case atStart =>
    have hba : Below w3.heap.size w3 (w3.alloc (.cells ((List.replicate 32 (0 : UInt8)).map u8V).toArray 31)) := (Below.refl _ _).alloc (Nat.le_refl _) _
    exact ⟨0, by omega, rfl, heap_alloc_last w3 _, c3.old hba hq3, (hba.block _ (by have := Hs0.out; omega)).trans Z3.out, below_step b3 (Nat.le_refl _) hba⟩
  case round =>
    obtain ⟨i, hi, rfl, hh, hci, hzi, hbi⟩ := hrel
    by_cases hlt : i < 32
    · obtain ⟨q, hq⟩ : ∃ q, q = i / 4 := ⟨_, rfl⟩
      obtain ⟨r, hr⟩ : ∃ r, r = i % 4 := ⟨_, rfl⟩
      have e4 : (i : Int) / 4 = (q : Int) := by omega
      have er : (i : Int) % 4 = (r : Int) := by omega
      have bq : q < 8 := by omega
      have br : r < 4 := by omega
      have cw := hci.word q bq
      have lw := list_lt V Vok q
      have ey := bytes_at V i hlt
      rw [← hq, ← hr] at ey
      generalize V.list.getD q 0 = x at *
      have hst := sum_step V i hlt
      generalize V.bytes.getD i 0 = y at *
      have ev : (x : Int) / 2 ^ (24 - 8 * r) % 256 = (y.toNat : Int) := by
        rw [ey, UInt8.toNat_ofNat']
        simp
      have ci : wr.cell? ⟨w3.heap.size, i, none⟩ = some (.int .u8 0) := by
        have hbl := Sha.bytes_length V
        rw [cell_of hh, List.getElem?_toArray, List.getElem?_map, List.getElem?_append_right (by rw [List.length_take]; omega), List.length_take, Nat.min_eq_left (by omega), Nat.sub_self, List.getElem?_replicate, if_pos (by omega)]
        rfl
      have fi := fz_of hh i
      have HST := Lib.hid hst
      have HH := Lib.hid hh
      have HZI := Lib.hid hzi
      have hq' := Lib.hid hq
      have hr' := Lib.hid hr
      have hey' := Lib.hid ey
      clear hst hh hq hr ey hzi
      go_wp2
      have hlt0 : w.heap.size < w0.heap.size := by have := Hs0.out; omega
      refine ⟨⟨i + 1, by omega, by go_num, (heap_set HH.out _).trans (by rw [HST.out]), hci.kept ((Only.refl w3.heap.size wr).setCell i _) (by omega), (heap_far (by omega) _).trans HZI.out, hbi.setCell (by show w.heap.size ≤ w3.heap.size; omega) _⟩, by simp [intOf]; omega⟩
    · obtain rfl : 32 = i := by omega
      have hbl := Sha.bytes_length V
      rw [List.take_of_length_le (by omega), Nat.sub_self, List.replicate_zero, List.append_nil, HDIG.out] at hh
      rw [HDIG.out] at hbl
      obtain ⟨D, hD⟩ : ∃ D, D = Sha.digest s := ⟨_, rfl⟩
      rw [← hD] at hh hbl
      have HD := Lib.hid hD
      clear hD
      have hI : (Tryd.prog.info? 31).map (·.size) = some (D.map u8V).length := by rw [List.length_map, hbl]; exact info_sum
      have hI2 : (Tryd.prog.info? 31).map (·.size) = some (D.map u8V).toArray.size := by rw [List.size_toArray]; exact hI
      have hR : wr.rangeAt w3.heap.size 0 (D.map u8V) := fun j x hx => by rw [Nat.zero_add, cell_of hh]; simpa using hx
      have hT : wr.there w.heap.size 0 (D.map u8V).toArray.size := by rw [show (D.map u8V).toArray.size = 32 from (List.size_toArray).trans (by rw [List.length_map, hbl])]; exact there_of hzi (by simp)
      have hO : (D.map u8V).toArray.all (·.oneCell') = true := all_oneCell_toArray (fun x hx => by obtain ⟨_, _, rfl⟩ := List.mem_map.1 hx; rfl)
      have HI := Lib.hid hI
      have HI2 := Lib.hid hI2
      have HR := Lib.hid hR
      have HT := Lib.hid hT
      have HO := Lib.hid hO
      have HBL := Lib.hid hbl
      have HZI := Lib.hid hzi
      clear hI hI2 hR hT hO hbl hh hzi HDIG
      go_wp2_with (first
        | refine wpList_load_mid rfl 31 (.tmp 4) rfl w3.heap.size 0 rfl (D.map u8V) _ HR.out Tryd.underlying31 rfl HI.out ?_
        | refine wpList_store_mid rfl 31 (.tmp 2) (.tmp 35) rfl w.heap.size 0 (D.map u8V).toArray rfl rfl HT.out HI2.out HO.out ?_)
      have hfin : (wr.setCells w.heap.size 0 (D.map u8V)).rangeAt w.heap.size 0 (D.map u8V) := World.rangeAt_setCells_same wr w.heap.size 0 _ (by have := HT.out; rwa [List.size_toArray] at this)
      refine bodyPost_ret (v := sumV D) (results_cell (t := 2) (ty := 31) (b := w.heap.size) (cs := D.map u8V) rfl _ _ _ rfl hfin Tryd.underlying31 rfl HI.out) rfl ⟨by rw [HD.out], below_setCells (Nat.le_refl _) _ _ _ hbi⟩
end Go.Proofs.YtgiakpnkidblpaaDoor
