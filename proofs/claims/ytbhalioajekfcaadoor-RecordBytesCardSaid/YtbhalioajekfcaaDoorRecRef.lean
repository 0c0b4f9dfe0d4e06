/-
  The document's own Check, Row, Same (scriniumref15).
-/
import Derived.Test.YtbhalioajekfcaaDoorRecRow
namespace Go.Proofs.YtbhalioajekfcaaDoor
open Go.RowKit

set_option maxHeartbeats 3200000 in
theorem rcheck_any (win idx tim : Int) (pay : ByteArray) (w : World) (hs : pay.size ≤ 9223372036854775807) :
    Calls Tryd.prog 9 #[.agg #[.int .i64 win, .int .i64 idx, .int .i64 tim, .string pay]] w fun e w' => e = .returned (.int .i64 (chkZ win idx tim pay)) ∧ Below w.heap.size w w' := by
  obtain ⟨p, hp⟩ : ∃ p, p = w.heap.size := ⟨_, rfl⟩
  obtain ⟨W, hW⟩ : ∃ W, W = w.alloc (.cells #[.int .i64 win, .int .i64 idx, .int .i64 tim, .string pay] 23) := ⟨_, rfl⟩
  have hb1 : Below w.heap.size w W := by rw [hW]; exact (Below.refl _ _).alloc (Nat.le_refl _) _
  have hr : RecAt p win idx tim pay W := by rw [hW, hp]; exact RecAt.alloc _ _ _ _ _
  have c0 := hr.c0
  have c1 := hr.c1
  have c2 := hr.c2
  have c3 := hr.c3
  have HW1 := Lib.hid hW
  have HP := Lib.hid hp
  clear hW hp hr
  by_cases t0 : win < 0
  · have e : chkZ win idx tim pay = 1 := by unfold chkZ; rw [if_neg (by simp only [chkB, mayB, Bool.and_eq_true, decide_eq_true_eq]; omega)]
    rw [e]
    clear e
    go_enter Tryd.func9, Tryd.ntmps9
    go_upto_region 1 with fail
    rw [← HW1.out, ← HP.out]
    clear HW1
    go_wp2
    go_ret
    exact ⟨rfl, hb1⟩
  by_cases t1 : 1125899906842624 < win
  · have e : chkZ win idx tim pay = 1 := by unfold chkZ; rw [if_neg (by simp only [chkB, mayB, Bool.and_eq_true, decide_eq_true_eq]; omega)]
    rw [e]
    clear e
    go_enter Tryd.func9, Tryd.ntmps9
    go_upto_region 1 with fail
    rw [← HW1.out, ← HP.out]
    clear HW1
    go_wp2
    go_ret
    exact ⟨rfl, hb1⟩
  by_cases t2 : tim < 0
  · have e : chkZ win idx tim pay = 1 := by unfold chkZ; rw [if_neg (by simp only [chkB, mayB, Bool.and_eq_true, decide_eq_true_eq]; omega)]
    rw [e]
    clear e
    go_enter Tryd.func9, Tryd.ntmps9
    go_upto_region 1 with fail
    rw [← HW1.out, ← HP.out]
    clear HW1
    go_wp2
    go_ret
    exact ⟨rfl, hb1⟩
  by_cases t3 : 1125899906842624 < tim
  · have e : chkZ win idx tim pay = 1 := by unfold chkZ; rw [if_neg (by simp only [chkB, mayB, Bool.and_eq_true, decide_eq_true_eq]; omega)]
    rw [e]
    clear e
    go_enter Tryd.func9, Tryd.ntmps9
    go_upto_region 1 with fail
    rw [← HW1.out, ← HP.out]
    clear HW1
    go_wp2
    go_ret
    exact ⟨rfl, hb1⟩
  by_cases t4 : idx < 0
  · have e : chkZ win idx tim pay = 1 := by unfold chkZ; rw [if_neg (by simp only [chkB, mayB, Bool.and_eq_true, decide_eq_true_eq]; omega)]
    rw [e]
    clear e
    go_enter Tryd.func9, Tryd.ntmps9
    go_upto_region 1 with fail
    rw [← HW1.out, ← HP.out]
    clear HW1
    go_wp2
    go_ret
    exact ⟨rfl, hb1⟩
  by_cases t5 : 3999 < idx
  · have e : chkZ win idx tim pay = 1 := by unfold chkZ; rw [if_neg (by simp only [chkB, mayB, Bool.and_eq_true, decide_eq_true_eq]; omega)]
    rw [e]
    clear e
    go_enter Tryd.func9, Tryd.ntmps9
    go_upto_region 1 with fail
    rw [← HW1.out, ← HP.out]
    clear HW1
    go_wp2
    go_ret
    exact ⟨rfl, hb1⟩
  have hc : chkB win idx tim = true := by simp only [chkB, mayB, Bool.and_eq_true, decide_eq_true_eq]; omega
  unfold chkZ
  rw [if_pos hc]
  clear hc
  by_cases hz : 2000 < pay.size
  · rw [if_pos hz]
    go_enter Tryd.func9, Tryd.ntmps9
    go_upto_region 1 with fail
    rw [← HW1.out, ← HP.out]
    clear HW1
    go_wp2
    go_ret
    exact ⟨rfl, hb1⟩
  · rw [if_neg hz]
    go_enter Tryd.func9, Tryd.ntmps9
    go_upto_region 1 with fail
    rw [← HW1.out, ← HP.out]
    clear HW1
    go_wp2
    go_ret
    exact ⟨rfl, hb1⟩
theorem neq_rec_f (win idx tim : Int) (pay : ByteArray) (w : World) : (binOp .neq 23 (.agg #[.int .i64 win, .int .i64 idx, .int .i64 tim, .string pay]) (.agg #[.int .i64 win, .int .i64 idx, .int .i64 tim, .string pay])).run Tryd.prog w = .ok (.bool false) w := by
  go_simp
theorem guard_rec (op : BinOp) (x y : Operand) (u v : Array Value) (w : World) : (eqGuard op 23 x y (.agg u) (.agg v)).run Tryd.prog w = .ok () w := run_eqGuard_agg w op 23 x y _ _ (by kernel_rfl)
end Go.Proofs.YtbhalioajekfcaaDoor
