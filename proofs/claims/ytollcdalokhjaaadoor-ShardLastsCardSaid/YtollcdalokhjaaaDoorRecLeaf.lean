/-
  Package record: Leaf; the document's own Bytes and Leaf (scriniumref15).
-/
import Derived.Test.YtollcdalokhjaaaDoorMRec
import Derived.Test.YtollcdalokhjaaaDoorMLeafB
namespace Go.Proofs.YtollcdalokhjaaaDoor
open Go.RowKit

theorem bytV_size (win idx tim : Int) (pay : ByteArray) (hs : pay.size ≤ 1000000000) : (bytV win idx tim pay).size ≤ pay.size + 100 := by
  have l1 := putB_le (u64N win) (u64N_lt win)
  have l2 := putB_le (u64N idx) (u64N_lt idx)
  have l3 := rowB_size tim pay (by omega)
  unfold bytV
  split
  · simp only [bytB, ByteArray.size_append]; omega
  · show (0 : Nat) ≤ _; omega
/-- The leaf of a record. -/
def recLf (win idx tim : Int) (pay : ByteArray) : List UInt8 := Tree.leafH (bytV win idx tim pay).data.toList
set_option maxHeartbeats 3200000 in
set_option maxRecDepth 100000 in
theorem recLeaf_any (win idx tim : Int) (pay : ByteArray) (w : World) (hK : KT w) (hs : pay.size ≤ 1000000000) :
    Calls Tryd.prog 40 #[.agg #[.int .i64 win, .int .i64 idx, .int .i64 tim, .string pay]] w fun e w' => e = .returned (sumV (recLf win idx tim pay)) ∧ Below w.heap.size w w' := by
  obtain ⟨S, hS⟩ : ∃ S, S = bytV win idx tim pay := ⟨_, rfl⟩
  obtain ⟨z, hz⟩ : ∃ z, z = chkZ win idx tim pay := ⟨_, rfl⟩
  obtain ⟨D, hD⟩ : ∃ D, D = recLf win idx tim pay := ⟨_, rfl⟩
  have hDl : D.length = 32 := by rw [hD]; exact Tree.leafH_length _
  have hSz := bytV_size win idx tim pay hs
  rw [← hS] at hSz
  have qb := fun u => recBytes_any win idx tim pay u hs
  rw [← hS, ← hz] at qb
  have ql : ∀ u, KT u → Calls Tryd.prog 62 #[.string S] u fun e w' => e = .returned (sumV D) ∧ Below u.heap.size u w' := fun u hk => by rw [hD, recLf, ← hS]; exact leafLeaf_any S S.data.toList rfl u hk (by rw [← Lib.size_eq]; omega)
  have QL := Lib.hid ql
  rw [← hD]
  have HDl := Lib.hid hDl
  obtain ⟨p, hp⟩ : ∃ p, p = w.heap.size := ⟨_, rfl⟩
  obtain ⟨q, hq⟩ : ∃ q, q = p + 1 := ⟨_, rfl⟩
  obtain ⟨W, hW⟩ : ∃ W, W = w.alloc (.cells #[.int .i64 win, .int .i64 idx, .int .i64 tim, .string pay] 55) := ⟨_, rfl⟩
  obtain ⟨V, hV⟩ : ∃ V, V = W.alloc zSum := ⟨_, rfl⟩
  have b1 : Below w.heap.size w W := by rw [hW]; exact below_box' _ _
  have b2 : Below W.heap.size W V := by rw [hV]; exact below_box' _ _
  have hWs : W.heap.size = q := by rw [hW, hq, hp]; simp
  have g1 : RecAt p win idx tim pay W := by rw [hW, hp]; exact RecAt.alloc _ _ _ _ _
  have h1 := g1.old b2 g1.lt
  have z0 : V.heap[q]? = some (.cells ((List.replicate 32 (0 : UInt8)).map u8V).toArray 33 (0, 0)) := by rw [hV, ← hWs]; exact heap_alloc_last _ _
  have hb := below_step b1 (Nat.le_refl _) b2
  have hqw : w.heap.size ≤ q := by omega
  have l0 : q < V.heap.size := (Array.getElem?_eq_some_iff.1 z0).1
  have Hz0 := Lib.hid z0
  have HW := Lib.hid hW
  have HV := Lib.hid hV
  have HP := Lib.hid hp
  have HQ := Lib.hid hq
  have c0 := h1.c0
  have c1 := h1.c1
  have c2 := h1.c2
  have c3 := h1.c3
  clear hD hDl hS hz hSz ql hp hq hW hV b1 b2 hWs g1 z0 h1
  go_enter Tryd.func40, Tryd.ntmps40
  go_upto_region 1 with (fail)
  rw [← HW.out, ← HP.out]
  change Code.wp _ _ _ _ (W.alloc zSum)
  rw [← HV.out, ← HQ.out]
  clear HW HV
  go_wp2_with (first
    | (go_at_call 61; ((with_reducible refine (qb _).mono ?_); rintro e w4 ⟨rfl, b4⟩))
    | (go_at_call 62; ((with_reducible refine (QL.out _ ((hK.old hb).old b4)).mono ?_); rintro e w5 ⟨rfl, b5⟩; have b45 := below_step b4 (Nat.le_refl _) b5; have z2 := Lib.hid ((b45.block _ l0).trans Hz0.out)))
    | refine wpList_store_mid rfl 33 (.tmp 2) (.tmp 11) rfl q 0 (D.map u8V).toArray rfl rfl (sum_there z2.out HDl.out) (sum_info HDl.out) (sum_one D) ?_)
  exact bodyPost_ret (v := sumV D) (results_cell (t := 2) (ty := 33) (b := q) (cs := D.map u8V) rfl _ _ _ rfl (sum_range z2.out HDl.out) Tryd.underlying33 rfl (sum_info' HDl.out)) rfl ⟨rfl, below_setCells hqw _ _ _ (below_step hb (Nat.le_refl _) b45)⟩
end Go.Proofs.YtollcdalokhjaaaDoor
