/-
  Package sha: what stands behind a text (ending).
-/
import Derived.Test.YtgiakpnkidblpaaDoorShaHex
namespace Go.Proofs.YtgiakpnkidblpaaDoor
open Go.RowKit
/-- Ahead of byte k of the number. -/
def EndRel (nb z n : Nat) (w : World) (sv si : Value) (wr : World) : Prop :=
  ∃ k : Nat, ∃ cur : List UInt8, k ≤ 8 ∧ si = .int .i64 k ∧ sv = .slice (some ⟨nb, 0, none⟩) (z + 1 + k) (z + 9) ∧ cur.length = z + 9 ∧ cur.take (z + 1 + k) = (Sha.endL n).take (z + 1 + k) ∧ wr.heap[nb]? = some (.cells (cur.map u8V).toArray 5 (0, 0)) ∧ Below w.heap.size w wr

theorem endRel_step {w : World} {z n : Nat} (wr : World) (k : Nat) (cur : List UInt8) (y : UInt8) (o : Obj) (hk : k < 8) (hy : y = UInt8.ofNat (8 * n / 2 ^ (56 - 8 * k))) (hz : z = Sha.zeros n)
    (hcl : cur.length = z + 9) (hct : cur.take (z + 1 + k) = (Sha.endL n).take (z + 1 + k)) (hch : wr.heap[w.heap.size]? = some (.cells (cur.map u8V).toArray 5 (0, 0))) (hbl : Below w.heap.size w wr) :
    EndRel w.heap.size z n w (.slice (some ⟨w.heap.size, 0, none⟩) (z + 1 + k + 1) (z + 9)) (.int .i64 ((k : Int) + 1)) ((wr.alloc o).setCells w.heap.size (z + 1 + k) [u8V y]) := by
  have hlt : w.heap.size < wr.heap.size := (Array.getElem?_eq_some_iff.1 hch).1
  refine ⟨k + 1, cur.take (z + 1 + k) ++ ([y] ++ cur.drop (z + 1 + k + 1)), by omega, rfl, rfl, ?_, ?_, ?_, ?_⟩
  · simp [hcl]; omega
  · have hel := Sha.endL_length n
    rw [show z + 1 + (k + 1) = z + 1 + k + 1 by omega, List.take_append, List.take_of_length_le (by rw [List.length_take]; omega), List.length_take, Nat.min_eq_left (by omega), show z + 1 + k + 1 - (z + 1 + k) = 1 by omega, hct, List.take_succ_eq_append_getElem (l := Sha.endL n) (by omega)]
    congr 1
    have : (Sha.endL n)[z + 1 + k]? = some y := by
      unfold Sha.endL
      rw [show z + 1 + k = (z + k) + 1 by omega, List.getElem?_cons_succ, ← hz, List.getElem?_append_right (by simp), hy]
      simp [Sha.be8, hk]
    rw [List.getElem?_eq_some_iff] at this
    obtain ⟨_, h2⟩ := this
    rw [h2]
    rfl
  · have := heap_setCells w.heap.size 5 [u8V y] (z + 1 + k) (cur.map u8V) (wr.alloc o) (by simp [hcl]; omega) ((Below.heap_alloc wr o _ hlt).trans hch)
    rw [this]
    simp
  · exact below_setCells (by omega) _ _ _ (hbl.alloc hbl.size o)

set_option maxHeartbeats 1000000 in
set_option maxRecDepth 100000 in
theorem ending_any (n : Nat) (w : World) (hn : n < 1152921504606846976) :
    Calls Tryd.prog 78 #[.int .i64 n] w fun e w' => e = .returned (.string ⟨(Sha.endL n).toArray⟩) ∧ Below w.heap.size w w' := by
  obtain ⟨i0, hi, hz0, hz1, hz2⟩ := info_parts info_u8
  obtain ⟨m, hm⟩ : ∃ m, m = n % 64 := ⟨_, rfl⟩
  obtain ⟨z, hz⟩ : ∃ z, z = Sha.zeros n := ⟨_, rfl⟩
  have hm64 : m < 64 := by omega
  have hz64 : z < 64 := by rw [hz]; unfold Sha.zeros; omega
  have e1 : (n : Int) % 64 = (m : Int) := by omega
  have e2 : (55 - (m : Int) + 64) % 64 = (z : Int) := by rw [hz]; unfold Sha.zeros; omega
  have hmk : ∀ W : World, (Instr.makeSlice 66 (.int .i64 (1 + (z : Int))) (.int .i64 (1 + (z : Int) + 8))).run Tryd.prog W = .ok (.slice (some ⟨W.heap.size, 0, none⟩) (z + 1) (z + 9)) (W.alloc (.cells ((List.replicate (z + 9) (0 : UInt8)).map u8V).toArray 5)) := by
    intro W
    rw [show (1 + (z : Int)) = ((z + 1 : Nat) : Int) by omega, show (((z + 1 : Nat) : Int) + 8) = ((z + 9 : Nat) : Int) by omega]
    exact make_bytes (z + 1) (z + 9) (by omega) (by omega) W
  have c0 : (w.alloc (.cells ((List.replicate (z + 9) (0 : UInt8)).map u8V).toArray 5)).cell? ⟨w.heap.size, 0, none⟩ = some (.int .u8 0) := by rw [cell_of (heap_alloc_last w _)]; simp [u8V]
  have f0 : (w.alloc (.cells ((List.replicate (z + 9) (0 : UInt8)).map u8V).toArray 5)).frozen? ⟨w.heap.size, 0, none⟩ = false := fz_of (heap_alloc_last w _) 0
  have HM := Lib.hid hm
  have HZ := Lib.hid hz
  clear hm hz
  go_enter Tryd.func78, Tryd.ntmps78
  go_wp2
  clear hmk c0 f0
  rw [e2, e1]
  clear e2
  go_loopw [4, 19] (EndRel w.heap.size z n w) (fun _ i _ => 8 - (intOf i).toNat)
  case atStart =>
    refine ⟨0, (128 : UInt8) :: List.replicate (z + 8) 0, by omega, rfl, rfl, by simp, ?_, ?_, (Below.refl _ _).alloc (Nat.le_refl _) _⟩
    · unfold Sha.endL
      rw [← HZ.out, Nat.add_zero, List.take_succ_cons, List.take_succ_cons, List.take_append_of_le_length (by simp)]
      simp
    · have := heap_alloc_last w (.cells ((Array.replicate (z + 9) (u8V 0)).setIfInBounds 0 (.int .u8 128)) 5)
      rw [this]
      congr 3
      apply Array.ext_getElem?
      intro j
      cases j with
      | zero => simp [u8V]
      | succ j => simp [List.getElem?_replicate, Array.getElem?_replicate]
  case round =>
    obtain ⟨k, cur, hk, rfl, rfl, hcl, hct, hch, hbl⟩ := hrel
    have HCL := Lib.hid hcl
    have HCT := Lib.hid hct
    have HCH := Lib.hid hch
    clear hcl hct hch
    by_cases hlt : k < 8
    · obtain ⟨y, hy⟩ : ∃ y, y = UInt8.ofNat (8 * n / 2 ^ (56 - 8 * k)) := ⟨_, rfl⟩
      have ey : (n : Int) * 8 / 2 ^ (56 - 8 * k) % 256 = (y.toNat : Int) := by
        rw [hy, UInt8.toNat_ofNat', Nat.mul_comm 8 n]
        simp
      have hth : wr.there w.heap.size (0 + (z + 1 + k) * 1) [u8V y].length := there_of (l := cur.map u8V) HCH.out (by rw [List.length_map, HCL.out]; simp; omega)
      have HTH := Lib.hid hth
      have HY := Lib.hid hy
      clear hth hy
      go_wp2_with (first
        | (at_builtin; refine wpList_append_room rfl (.tmp 22) (.tmp 31) 66 rfl 5 i0 1 Tryd.underlying66 hi hz1 w.heap.size 0 (z + 1 + k) (z + 9) rfl ⟨wr.heap.size, 0, none⟩ 1 1 [u8V y] rfl rfl (cell_one_new wr _ _) (by intro u hu; simp at hu; subst hu; rfl) (by omega) (World.there_alloc HTH.out _) ?_))
      go_roundw
      case rel => exact endRel_step wr k cur y _ hlt HY.out HZ.out HCL.out HCT.out HCH.out hbl
      case measure => simp [intOf]; omega
    · obtain rfl : 8 = k := by omega
      have hcv := convert_bytes wr w.heap.size (z + 9) (z + 9) (Sha.endL n) (by rw [Sha.endL_length, HZ.out]) (by
        intro j x hx
        have ht := HCT.out
        rw [List.take_of_length_le (by have := HCL.out; omega), List.take_of_length_le (by rw [Sha.endL_length, ← HZ.out]; omega)] at ht
        rw [ht] at HCH
        exact cell_u8 HCH.out j x hx)
      go_wp2
      go_ret
      exact ⟨rfl, hbl⟩
end Go.Proofs.YtgiakpnkidblpaaDoor
