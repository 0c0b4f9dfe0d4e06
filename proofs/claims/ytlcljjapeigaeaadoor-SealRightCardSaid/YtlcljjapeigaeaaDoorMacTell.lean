/-
  Package mac: Sum of no maker; a maker's Right, Name; Of, Right.
-/
import Derived.Test.YtlcljjapeigaeaaDoorMacMaker
import Derived.Deep.RegionHeld3
namespace Go.Proofs.YtlcljjapeigaeaaDoor
open Go.RowKit

def zS : List UInt8 := List.replicate 32 0
theorem zS_length : zS.length = 32 := by simp [zS]

set_option maxHeartbeats 1000000 in
set_option maxRecDepth 100000 in
theorem macSum_nil (v : Value) (w : World) :
    Calls Tryd.prog 91 #[.pointer none, v] w fun e w' => e = .returned (sumV zS) ∧ Below w.heap.size w w' := by
  go_enter Tryd.func91, Tryd.ntmps91
  go_upto_region 1 with (fail)
  obtain ⟨w0, hw0⟩ : ∃ w0, w0 = w.alloc (.cells #[.int .u8 0, .int .u8 0, .int .u8 0, .int .u8 0, .int .u8 0, .int .u8 0, .int .u8 0, .int .u8 0, .int .u8 0, .int .u8 0, .int .u8 0, .int .u8 0, .int .u8 0, .int .u8 0, .int .u8 0, .int .u8 0, .int .u8 0, .int .u8 0, .int .u8 0, .int .u8 0, .int .u8 0, .int .u8 0, .int .u8 0, .int .u8 0, .int .u8 0, .int .u8 0, .int .u8 0, .int .u8 0, .int .u8 0, .int .u8 0, .int .u8 0, .int .u8 0] 23) := ⟨_, rfl⟩
  have b0 : Below w.heap.size w w0 := by rw [hw0]; exact (Below.refl _ _).alloc (Nat.le_refl _) _
  have z0 : w0.heap[w.heap.size]? = some (.cells ((List.replicate 32 (0 : UInt8)).map u8V).toArray 23 (0, 0)) := by rw [hw0]; exact heap_alloc_last w _
  rw [← hw0]
  have Hz0 := Lib.hid z0
  clear hw0 z0
  go_wp2_with (first
    | refine wpList_store_mid rfl 23 (.tmp 4) (.tmp 11) rfl w.heap.size 0 (zS.map u8V).toArray rfl rfl (sum_there Hz0.out zS_length) (sum_info zS_length) (sum_one zS) ?_)
  exact bodyPost_ret (v := sumV zS) (results_cell (t := 4) (ty := 23) (b := w.heap.size) (cs := zS.map u8V) rfl _ _ _ rfl (sum_range Hz0.out zS_length) Tryd.underlying23 rfl (sum_info' zS_length)) rfl ⟨rfl, below_setCells (Nat.le_refl _) _ _ _ b0⟩

set_option maxHeartbeats 1000000 in
set_option maxRecDepth 100000 in
theorem macRight_nil (x : List UInt8) (v : Value) (w : World) :
    Calls Tryd.prog 92 #[.pointer none, sumV x, v] w fun e w' => e = .returned (.bool false) ∧ Below w.heap.size w w' := by
  unfold sumV
  go_enter Tryd.func92, Tryd.ntmps92
  go_wp2
  go_quiet (fail)
  go_wp2
  go_ret
  exact ⟨rfl, below_drewN ((Below.refl _ _).alloc (Nat.le_refl _) _) _⟩

set_option maxHeartbeats 1000000 in
set_option maxRecDepth 100000 in
theorem macRight_any (p : Nat) (k x : List UInt8) (hx : x.length = 32) (v : Value) (ts : List ByteArray) (w : World) (h : IsMaker p k w ∨ ZeroMaker p w ∧ k = []) (hr : StrRow w v ts) (hK : KT w) (hlen : (flat ts).length < 288230376151711744) :
    Calls Tryd.prog 92 #[.pointer (some ⟨p, 0, none⟩), sumV x, v] w fun e w' => e = .returned (.bool (decide (Mac.mac k (flat ts) = x))) ∧ Below w.heap.size w w' := by
  unfold sumV
  obtain ⟨D, hD⟩ : ∃ D, D = Mac.mac k (flat ts) := ⟨_, rfl⟩
  have hDl : D.length = 32 := by rw [hD]; exact Mac.mac_length _ _
  rw [← hD]
  have HD := Lib.hid hD
  obtain ⟨w0, hw0⟩ : ∃ w0, w0 = w.alloc (.cells (x.map u8V).toArray 23) := ⟨_, rfl⟩
  have b0 : Below w.heap.size w w0 := by rw [hw0]; exact (Below.refl _ _).alloc (Nat.le_refl _) _
  have r0 : w0.rangeAt w.heap.size 0 (x.map u8V) := by rw [hw0]; exact range_box _ _ _
  have l0 : w.heap.size < w0.heap.size := by rw [hw0]; simp
  have h0 : IsMaker p k w0.drew ∨ ZeroMaker p w0.drew ∧ k = [] := h.imp (fun y => y.old b0.drew y.lt) (fun y => ⟨y.1.old b0.drew y.1.lt, y.2⟩)
  have hr0 : StrRow w0.drew v ts := hr.old b0.drew
  have hK0 : KT w0.drew := hK.old b0.drew
  have hsum := macSum_any p k v ts w0.drew h0 hr0 hK0 hlen
  rw [← hD] at hsum
  have HSUM := Lib.hid hsum
  have hu := Tryd.underlying23
  have hi := sum_info' hx
  have heq : ∀ W, (binOp .eql 23 (sumV D) (.agg (x.map u8V).toArray)).run Tryd.prog W = .ok (.bool (decide (D = x))) W := fun W => eql_sum D x hDl hx W
  have hgd : ∀ o1 o2 W, (eqGuard .eql 23 o1 o2 (sumV D) (.agg (x.map u8V).toArray)).run Tryd.prog W = .ok () W := fun o1 o2 W => guard_run .eql o1 o2 D x W
  clear hD hDl hx hsum h hr h0 hr0
  go_enter Tryd.func92, Tryd.ntmps92
  go_upto_region 1 with (fail)
  rw [← hw0]
  clear hw0
  go_region_held3 (fun w' => w'.rangeAt w.heap.size 0 (x.map u8V)) (first | assumption | exact (World.rangeAt_drew _ _ _ _).2 r0)
    (first
      | (go_at_call 91; ((with_reducible refine HSUM.out.mono ?_); rintro e w1 ⟨rfl, b1⟩; have r1 : w1.rangeAt w.heap.size 0 (x.map u8V) := fun j y hy => (b1.cell (p := ⟨w.heap.size, 0 + j, none⟩) l0).trans (r0 j y hy))))
  all_goals (
    go_wp2
    go_ret
    exact ⟨rfl, below_step b0.drew (Nat.le_refl _) b1⟩)
end Go.Proofs.YtlcljjapeigaeaaDoor
