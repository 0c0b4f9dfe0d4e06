/-
  Hashes, and states, are compared as arrays.
-/
import Derived.Test.YtgiakpnkidblpaaDoorShaBase
import Derived.Test.YtgiakpnkidblpaaDoorMGen
namespace Go.Proofs.YtgiakpnkidblpaaDoor
open Go.RowKit
theorem equal_sum (a b : List UInt8) (ha : a.length = 32) (hb : b.length = 32) (w : World) : (Op.equalIn 10000 31 (sumV a) (sumV b)).run Tryd.prog w = .ok (decide (a = b)) w := by
  have ea : sumV a = .agg ((toInts a).map (Value.int .u8)).toArray := by unfold sumV toInts; rw [List.map_map]; rfl
  have eb : sumV b = .agg ((toInts b).map (Value.int .u8)).toArray := by unfold sumV toInts; rw [List.map_map]; rfl
  rw [ea, eb, eql_ints Tryd.underlying31 Tryd.underlying5 (by kernel_rfl) (by kernel_rfl) _ _ (by simpa [toInts] using ha) (by simpa [toInts] using hb) (wf_u8 a) (wf_u8 b) (by kernel_rfl)]
  congr 1
  by_cases e : a = b
  · subst e; simp
  · rw [decide_eq_false e, decide_eq_false (fun h => e (toInts_inj h))]
/-- 'a == b' of two hashes. -/
theorem eql_sum (a b : List UInt8) (ha : a.length = 32) (hb : b.length = 32) (w : World) : (binOp .eql 31 (sumV a) (sumV b)).run Tryd.prog w = .ok (.bool (decide (a = b))) w := by
  unfold sumV
  rw [run_eql_struct]
  have := equal_sum a b ha hb w
  unfold sumV at this
  rw [this]
  rfl
theorem neq_sum (a b : List UInt8) (ha : a.length = 32) (hb : b.length = 32) (w : World) : (binOp .neq 31 (sumV a) (sumV b)).run Tryd.prog w = .ok (.bool (!decide (a = b))) w := by
  have := equal_sum a b ha hb w
  unfold sumV at this ⊢
  simp [binOp, Op.equal, Op.maxDepth, this]
theorem guard_sum : Tryd.prog.eqGuardType Tryd.prog.depth 31 = false := by kernel_rfl
theorem guard_run (op : BinOp) (x y : Operand) (a b : List UInt8) (w : World) : (eqGuard op 31 x y (sumV a) (sumV b)).run Tryd.prog w = .ok () w := run_eqGuard_agg w op 31 x y _ _ guard_sum
end Go.Proofs.YtgiakpnkidblpaaDoor
