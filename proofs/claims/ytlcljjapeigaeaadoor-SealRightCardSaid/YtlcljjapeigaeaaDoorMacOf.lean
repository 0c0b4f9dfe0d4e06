/-
  Package mac: Name of a maker; Of; Right; the statements' own helpers awake and short.
-/
import Derived.Test.YtlcljjapeigaeaaDoorMacTell
import Derived.Test.YtlcljjapeigaeaaDoorMShaB
namespace Go.Proofs.YtlcljjapeigaeaaDoor
open Go.RowKit

theorem macOf_any (s : ByteArray) (k : List UInt8) (hs : s.data.toList = k) (v : Value) (ts : List ByteArray) (T : List UInt8) (hT : flat ts = T) (w : World) (hr : StrRow w v ts) (hK : KT w) (hkl : k.length < 288230376151711744) (hlen : T.length < 288230376151711744) :
    Calls Tryd.prog 77 #[.string s, v] w fun e w' => e = .returned (sumV (Mac.mac k T)) ∧ Below w.heap.size w w' := by
  subst hT
  obtain ⟨D, hD⟩ : ∃ D, D = Mac.mac k (flat ts) := ⟨_, rfl⟩
  have hDl : D.length = 32 := by rw [hD]; exact Mac.mac_length _ _
  rw [← hD]
  have HD := Lib.hid hD
  have HDl := Lib.hid hDl
  obtain ⟨w0, hw0⟩ : ∃ w0, w0 = w.alloc (.cells ((List.replicate 32 (0 : UInt8)).map u8V).toArray 23) := ⟨_, rfl⟩
  have b0 : Below w.heap.size w w0 := by rw [hw0]; exact (Below.refl _ _).alloc (Nat.le_refl _) _
  have z0 : w0.heap[w.heap.size]? = some (.cells ((List.replicate 32 (0 : UInt8)).map u8V).toArray 23 (0, 0)) := by rw [hw0]; exact heap_alloc_last w _
  have Hz0 := Lib.hid z0
  have l0 : w.heap.size < w0.heap.size := by rw [hw0]; simp
  have hr0 := hr.old b0
  have hnew := macNew_any s k hs w0 (hK.old b0) (by omega)
  have HN := Lib.hid hnew
  have HR := Lib.hid hr0
  clear hD hDl z0 hnew hr hr0
  go_enter Tryd.func77, Tryd.ntmps77
  go_upto_region 1 with (fail)
  change Code.wp _ _ _ _ (w.alloc (.cells ((List.replicate 32 (0 : UInt8)).map u8V).toArray 23))
  rw [← hw0]
  clear hw0
  go_wp2_with (first
    | (go_at_call 90; refine HN.out.mono ?_; rintro e w1 ⟨⟨p1, rfl, hp1, hm1⟩, b1⟩; have hr1 := HR.out.old b1; have hK1 := (hK.old b0).old b1; have z1 := Lib.hid ((b1.block _ l0).trans Hz0.out))
    | (go_at_call 91; refine (macSum_any p1 k v ts w1 (.inl hm1) hr1 hK1 hlen).mono ?_; rintro e w2 ⟨rfl, b2⟩; rw [← HD.out]; have z2 := Lib.hid ((b2.block _ (Array.getElem?_eq_some_iff.1 z1.out).1).trans z1.out))
    | refine wpList_store_mid rfl 23 (.tmp 4) (.tmp 8) rfl w.heap.size 0 (D.map u8V).toArray rfl rfl (sum_there z2.out HDl.out) (sum_info HDl.out) (sum_one D) ?_)
  exact bodyPost_ret (v := sumV D) (results_cell (t := 4) (ty := 23) (b := w.heap.size) (cs := D.map u8V) rfl _ _ _ rfl (sum_range z2.out HDl.out) Tryd.underlying23 rfl (sum_info' HDl.out)) rfl ⟨rfl, below_setCells (Nat.le_refl _) _ _ _ (below_step (below_step b0 (Nat.le_refl _) b1) (Nat.le_refl _) b2)⟩

def nameL : List UInt8 := [110, 97, 109, 101]
set_option maxHeartbeats 1000000 in
set_option maxRecDepth 100000 in
theorem macRightF_any (s : ByteArray) (k : List UInt8) (hs : s.data.toList = k) (x : List UInt8) (hx : x.length = 32) (v : Value) (ts : List ByteArray) (T : List UInt8) (hT : flat ts = T) (w : World) (hr : StrRow w v ts) (hK : KT w) (hkl : k.length < 288230376151711744) (hlen : T.length < 288230376151711744) :
    Calls Tryd.prog 80 #[.string s, sumV x, v] w fun e w' => e = .returned (.bool (decide (Mac.mac k T = x))) ∧ Below w.heap.size w w' := by
  subst hT
  unfold sumV
  obtain ⟨w0, hw0⟩ : ∃ w0, w0 = w.alloc (.cells (x.map u8V).toArray 23) := ⟨_, rfl⟩
  have b0 : Below w.heap.size w w0 := by rw [hw0]; exact (Below.refl _ _).alloc (Nat.le_refl _) _
  have r0 : w0.rangeAt w.heap.size 0 (x.map u8V) := by rw [hw0]; exact range_box _ _ _
  have l0 : w.heap.size < w0.heap.size := by rw [hw0]; simp
  have hr0 : StrRow w0.drew v ts := hr.old b0.drew
  have hK0 : KT w0.drew := hK.old b0.drew
  have HN := Lib.hid (macNew_any s k hs w0.drew hK0 (by omega))
  have HR := Lib.hid hr0
  have hu := Tryd.underlying23
  have hi := sum_info' hx
  have HRI := Lib.hid (fun p (W : World) hm hrw hkw => macRight_any p k x hx v ts W hm hrw hkw hlen)
  unfold sumV at HRI
  clear hx hr hr0
  go_enter Tryd.func80, Tryd.ntmps80
  go_upto_region 1 with (fail)
  rw [← hw0]
  clear hw0
  go_region_held3 (fun w' => w'.rangeAt w.heap.size 0 (x.map u8V)) (first | assumption | exact (World.rangeAt_drew _ _ _ _).2 r0)
    (first
      | (go_at_call 90; ((with_reducible refine HN.out.mono ?_); rintro e w1 ⟨⟨p1, rfl, hp1, hm1⟩, b1⟩; have r1 : w1.rangeAt w.heap.size 0 (x.map u8V) := (fun j y hy => (b1.cell (p := ⟨w.heap.size, 0 + j, none⟩) l0).trans (r0 j y hy)); have hr1 := HR.out.old b1; have hK1 := hK0.old b1; have lw1 : w.heap.size < w1.heap.size := Nat.lt_of_lt_of_le l0 b1.size))
      | (go_at_call 92; ((with_reducible refine (HRI.out p1 w1 (.inl hm1) hr1 hK1).mono ?_); rintro e w2 ⟨rfl, b2⟩; have r2 : w2.rangeAt w.heap.size 0 (x.map u8V) := (fun j y hy => (b2.cell (p := ⟨w.heap.size, 0 + j, none⟩) lw1).trans (r1 j y hy)))))
  all_goals (
    go_wp2
    go_ret
    exact ⟨rfl, below_step (below_step b0.drew (Nat.le_refl _) b1) (Nat.le_refl _) b2⟩)

end Go.Proofs.YtlcljjapeigaeaaDoor
