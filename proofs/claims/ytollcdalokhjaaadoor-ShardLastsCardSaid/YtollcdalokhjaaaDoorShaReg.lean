/-
  Sums and states in regions that draw their order.
-/
import Derived.Test.YtollcdalokhjaaaDoorMGen
import Derived.Test.YtollcdalokhjaaaDoorMShaA
namespace Go.Proofs.YtollcdalokhjaaaDoor
open Go.RowKit
theorem eql_sum_t (a b : List UInt8) (ha : a.length = 32) (hb : b.length = 32) (h : a = b) (w : World) : (binOp .eql 33 (sumV a) (sumV b)).run Tryd.prog w = .ok (.bool true) w := by
  rw [eql_sum a b ha hb w, decide_eq_true h]
theorem neq_sum_f (a b : List UInt8) (ha : a.length = 32) (hb : b.length = 32) (h : a = b) (w : World) : (binOp .neq 33 (sumV a) (sumV b)).run Tryd.prog w = .ok (.bool false) w := by
  rw [neq_sum a b ha hb w, decide_eq_true h]; rfl
def vI (u : Sha.V) : List Int := [(u.a : Int), u.b, u.c, u.d, u.e, u.f, u.g, u.h]
theorem wf_vI (u : Sha.V) (hu : u.ok) : ∀ z ∈ vI u, (Lit.int .u32 z).wf = true := by
  obtain ⟨h1, h2, h3, h4, h5, h6, h7, h8⟩ := hu
  intro z hz
  simp only [vI, List.mem_cons, List.not_mem_nil, or_false] at hz
  rcases hz with rfl | rfl | rfl | rfl | rfl | rfl | rfl | rfl <;> (simp [Lit.wf, IntKind.min, IntKind.max, IntKind.signed, IntKind.bits]; omega)
theorem eql_v8_t (u v : Sha.V) (hu : u.ok) (h : u = v) (w : World) : (binOp .eql 112 (.agg (vC u)) (.agg (vC v))).run Tryd.prog w = .ok (.bool true) w := by
  subst h
  rw [run_eql_struct]
  have := eql_ints (P := Tryd.prog) Tryd.underlying112 Tryd.underlying111 (by kernel_rfl) (by kernel_rfl) (vI u) (vI u) rfl rfl (wf_vI u hu) (wf_vI u hu) (by kernel_rfl) w
  rw [decide_eq_true rfl] at this
  rw [show vC u = ((vI u).map (Value.int .u32)).toArray from rfl, this]
  rfl
theorem guard_v8 (op : BinOp) (x y : Operand) (a b : Array Value) (w : World) : (eqGuard op 112 x y (.agg a) (.agg b)).run Tryd.prog w = .ok () w := run_eqGuard_agg w op 112 x y _ _ (by kernel_rfl)
end Go.Proofs.YtollcdalokhjaaaDoor
