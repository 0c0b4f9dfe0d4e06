/-
  Package sha: what Of tells of any parts; Sum of no hash.
-/
import Derived.Test.YtgiakpnkidblpaaDoorShaSum
namespace Go.Proofs.YtgiakpnkidblpaaDoor
open Go.RowKit

theorem sum_info' {D : List UInt8} (h : D.length = 32) : (Tryd.prog.info? 31).map (·.size) = some (D.map u8V).length := by rw [List.length_map, h]; exact info_sum
theorem sum_info {D : List UInt8} (h : D.length = 32) : (Tryd.prog.info? 31).map (·.size) = some (D.map u8V).toArray.size := by rw [List.size_toArray]; exact sum_info' h
theorem sum_one (D : List UInt8) : (D.map u8V).toArray.all (·.oneCell') = true := all_oneCell_toArray (fun x hx => by obtain ⟨_, _, rfl⟩ := List.mem_map.1 hx; rfl)
theorem sum_there {D : List UInt8} {w : World} {p : Nat} (hz : w.heap[p]? = some (.cells ((List.replicate 32 (0 : UInt8)).map u8V).toArray 31 (0, 0))) (h : D.length = 32) : w.there p 0 (D.map u8V).toArray.size := by
  rw [show (D.map u8V).toArray.size = 32 from (List.size_toArray).trans (by rw [List.length_map, h])]; exact there_of hz (by simp)
theorem sum_range {D : List UInt8} {w : World} {p : Nat} (hz : w.heap[p]? = some (.cells ((List.replicate 32 (0 : UInt8)).map u8V).toArray 31 (0, 0))) (h : D.length = 32) : (w.setCells p 0 (D.map u8V)).rangeAt p 0 (D.map u8V) :=
  World.rangeAt_setCells_same w p 0 _ (by have := sum_there hz h; rwa [List.size_toArray] at this)

/-- Ahead of part k. -/
def OfRel (q : Nat) (ts : List ByteArray) (w1 : World) (si : Value) (wr : World) : Prop :=
  ∃ k : Nat, k ≤ ts.length ∧ si = .int .i64 k ∧ IsHash q (flat (ts.take k)) wr ∧ Only q w1 wr

set_option maxHeartbeats 1000000 in
set_option maxRecDepth 100000 in
theorem of_any (v : Value) (ts : List ByteArray) (w : World) (h : StrRow w v ts) (hK : KT w) (hlen : (flat ts).length < 576460752303423488) :
    Calls Tryd.prog 50 #[v] w fun e w' => e = .returned (sumV (Sha.digest (flat ts))) ∧ Below w.heap.size w w' := by
  obtain ⟨a, cap, rfl, hl, hc⟩ := h
  have hz := (zero_of_info info_hash0).1
  go_enter Tryd.func50, Tryd.ntmps50
  go_upto_region 1 with (fail)
  obtain ⟨w0, hw0⟩ : ∃ w0, w0 = w.alloc (.cells #[.int .u8 0, .int .u8 0, .int .u8 0, .int .u8 0, .int .u8 0, .int .u8 0, .int .u8 0, .int .u8 0, .int .u8 0, .int .u8 0, .int .u8 0, .int .u8 0, .int .u8 0, .int .u8 0, .int .u8 0, .int .u8 0, .int .u8 0, .int .u8 0, .int .u8 0, .int .u8 0, .int .u8 0, .int .u8 0, .int .u8 0, .int .u8 0, .int .u8 0, .int .u8 0, .int .u8 0, .int .u8 0, .int .u8 0, .int .u8 0, .int .u8 0, .int .u8 0] 31) := ⟨_, rfl⟩
  have b0 : Below w.heap.size w w0 := by rw [hw0]; exact (Below.refl _ _).alloc (Nat.le_refl _) _
  have z0 : w0.heap[w.heap.size]? = some (.cells ((List.replicate 32 (0 : UInt8)).map u8V).toArray 31 (0, 0)) := by rw [hw0]; exact heap_alloc_last w _
  have s0 : w0.heap.size = w.heap.size + 1 := by rw [hw0]; exact World.size_alloc ..
  rw [← hw0]
  have Hz0 := Lib.hid z0
  have Hs0 := Lib.hid s0
  have HC := Lib.hid hc
  clear hw0 z0 s0 hc
  go_upto_region 2 with (fail)
  obtain ⟨w1, hw1⟩ : ∃ w1, w1 = w0.alloc (.cells (hL zV zB 0).toArray 98) := ⟨_, rfl⟩
  have b1 : Below w0.heap.size w0 w1 := by rw [hw1]; exact (Below.refl _ _).alloc (Nat.le_refl _) _
  have i1 : IsHash w0.heap.size [] w1 := by rw [hw1]; exact isHash_zero (Cells.new w0 _ _ 0 (by simp [zB]) zero_ok)
  have bb : Below w.heap.size w w1 := below_step b0 (Nat.le_refl _) b1
  have z1 : w1.heap[w.heap.size]? = some (.cells ((List.replicate 32 (0 : UInt8)).map u8V).toArray 31 (0, 0)) := (b1.block _ (by have := Hs0.out; omega)).trans Hz0.out
  have hK1 := hK.old bb
  rw [← hw1]
  have Hz1 := Lib.hid z1
  clear hw1 hz z1 Hz0 b1
  go_wp2
  go_loopw [8] (OfRel w0.heap.size ts w1) (fun i _ => ts.length - (intOf i).toNat)
  case atStart => exact ⟨0, by omega, rfl, i1, Only.refl _ _⟩
  case round =>
    obtain ⟨k, hk, rfl, ik, ok⟩ := hrel
    have hKr := hK1.only ok (by have := Hs0.out; omega)
    by_cases hlt : k < ts.length
    · obtain ⟨b, off, rfl, hb, hj⟩ := HC.out (by intro e; rw [e] at hlt; simp at hlt)
      have hcx := hj k hlt
      have hft := flat_take ts k hlt
      have hfl := flat_le ts (k + 1)
      rw [hft, List.length_append] at hfl
      generalize ts.getD k ByteArray.empty = X at *
      have hcx1 : wr.cell? ⟨b, off + k, none⟩ = some (.string X) := (ok.cell (Nat.lt_of_lt_of_le hb bb.size) (by have := Hs0.out; omega)).trans ((bb.cell (by exact hb)).trans hcx)
      have HFT := Lib.hid hft
      have HJ := Lib.hid hj
      clear hft hj hcx
      go_wp2_with (first
        | (go_at_call 69; refine (write_any w0.heap.size _ X X.data.toList rfl _ ik hKr (by omega)).mono ?_; rintro e w3 ⟨rfl, i3, o3⟩))
      refine ⟨⟨k + 1, by omega, by go_num, by rw [HFT.out]; exact i3, ok.trans o3⟩, by simp [intOf]; omega⟩
    · obtain rfl : ts.length = k := by omega
      rw [List.take_length] at ik
      have zr := (ok.block _ (by have := i1.lt; have := Hs0.out; omega) (by have := Hs0.out; omega)).trans Hz1.out
      have br : Below w.heap.size w wr := bb.trans (ok.below (by have := Hs0.out; omega) (by have := i1.lt; have := Hs0.out; omega))
      have HZR := Lib.hid zr
      clear zr
      obtain ⟨D, hD⟩ : ∃ D, D = Sha.digest (flat ts) := ⟨_, rfl⟩
      have hDl : D.length = 32 := by rw [hD]; exact Sha.digest_length _
      have HD := Lib.hid hD
      have HDl := Lib.hid hDl
      clear hD hDl
      go_wp2_with (first
        | (go_at_call 70; refine (sum_any w0.heap.size (flat ts) _ ik hKr hlen).mono ?_; rintro e w5 ⟨rfl, b5⟩; rw [← HD.out]; have z5 := Lib.hid ((b5.block _ (Nat.lt_of_lt_of_le (by have := i1.lt; have := Hs0.out; omega) ok.size)).trans HZR.out))
        | refine wpList_store_mid rfl 31 (.tmp 2) (.tmp 15) rfl w.heap.size 0 (D.map u8V).toArray rfl rfl (sum_there z5.out HDl.out) (sum_info HDl.out) (sum_one D) ?_)
      exact bodyPost_ret (v := sumV D) (results_cell (t := 2) (ty := 31) (b := w.heap.size) (cs := D.map u8V) rfl _ _ _ rfl (sum_range z5.out HDl.out) Tryd.underlying31 rfl (sum_info' HDl.out)) rfl ⟨by rw [HD.out], below_setCells (Nat.le_refl _) _ _ _ (below_step br (Nat.le_refl _) b5)⟩

theorem of_nothing (w : World) (hK : KT w) : Calls Tryd.prog 50 #[.slice none 0 0] w fun e w' => e = .returned (sumV (Sha.digest [])) ∧ Below w.heap.size w w' :=
  of_any _ [] w (StrRow.nil w) hK (by decide)

set_option maxHeartbeats 1000000 in
set_option maxRecDepth 100000 in
theorem sum_nil (w : World) (hK : KT w) :
    Calls Tryd.prog 70 #[.pointer none] w fun e w' => e = .returned (sumV (Sha.digest [])) ∧ Below w.heap.size w w' := by
  obtain ⟨D, hD⟩ : ∃ D, D = Sha.digest [] := ⟨_, rfl⟩
  have hDl : D.length = 32 := by rw [hD]; exact Sha.digest_length _
  have HD := Lib.hid hD
  have HDl := Lib.hid hDl
  rw [← hD]
  clear hD hDl
  go_enter Tryd.func70, Tryd.ntmps70
  go_upto_region 1 with (fail)
  obtain ⟨w0, hw0⟩ : ∃ w0, w0 = w.alloc (.cells #[.int .u8 0, .int .u8 0, .int .u8 0, .int .u8 0, .int .u8 0, .int .u8 0, .int .u8 0, .int .u8 0, .int .u8 0, .int .u8 0, .int .u8 0, .int .u8 0, .int .u8 0, .int .u8 0, .int .u8 0, .int .u8 0, .int .u8 0, .int .u8 0, .int .u8 0, .int .u8 0, .int .u8 0, .int .u8 0, .int .u8 0, .int .u8 0, .int .u8 0, .int .u8 0, .int .u8 0, .int .u8 0, .int .u8 0, .int .u8 0, .int .u8 0, .int .u8 0] 31) := ⟨_, rfl⟩
  have b0 : Below w.heap.size w w0 := by rw [hw0]; exact (Below.refl _ _).alloc (Nat.le_refl _) _
  have z0 : w0.heap[w.heap.size]? = some (.cells ((List.replicate 32 (0 : UInt8)).map u8V).toArray 31 (0, 0)) := by rw [hw0]; exact heap_alloc_last w _
  have s0 : w0.heap.size = w.heap.size + 1 := by rw [hw0]; exact World.size_alloc ..
  rw [← hw0]
  have hK0 := hK.old b0
  have Hz0 := Lib.hid z0
  have Hs0 := Lib.hid s0
  clear hw0 z0 s0
  go_wp2_with (first
    | (go_at_call 50; refine (of_nothing _ hK0).mono ?_; rintro e w5 ⟨rfl, b5⟩; rw [← HD.out]; have z5 := Lib.hid ((b5.block _ (by have := Hs0.out; omega)).trans Hz0.out))
    | refine wpList_store_mid rfl 31 (.tmp 2) (.tmp 8) rfl w.heap.size 0 (D.map u8V).toArray rfl rfl (sum_there z5.out HDl.out) (sum_info HDl.out) (sum_one D) ?_)
  exact bodyPost_ret (v := sumV D) (results_cell (t := 2) (ty := 31) (b := w.heap.size) (cs := D.map u8V) rfl _ _ _ rfl (sum_range z5.out HDl.out) Tryd.underlying31 rfl (sum_info' HDl.out)) rfl ⟨rfl, below_setCells (Nat.le_refl _) _ _ _ (below_step b0 (Nat.le_refl _) b5)⟩
end Go.Proofs.YtgiakpnkidblpaaDoor
