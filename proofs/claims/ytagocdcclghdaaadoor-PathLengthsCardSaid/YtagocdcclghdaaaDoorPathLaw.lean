/-
  What the laws of layer path want besides: a place taken from any number, booleans read and compared, hashes' rows at a place.
-/
import Derived.Test.YtagocdcclghdaaaDoorPathAwake
import Derived.Test.YtagocdcclghdaaaDoorTurns
namespace Go.Proofs.YtagocdcclghdaaaDoor
open Go.RowKit

/-- The place that a law takes from any number: the rest's amount. -/
theorem place_of (a : Int) (n : Nat) (h : 0 < n) : ∃ r : Int, a.tmod (n : Int) = r ∧ ∃ m : Nat, m < n ∧ ((r < 0 ∧ r = -(m : Int)) ∨ (¬ r < 0 ∧ r = (m : Int))) := by
  have h1 := Int.lt_tmod_of_pos a (show (0 : Int) < (n : Int) by omega)
  have h2 := Int.tmod_lt_of_pos a (show (0 : Int) < (n : Int) by omega)
  refine ⟨_, rfl, (a.tmod (n : Int)).natAbs, by omega, ?_⟩
  by_cases hr : a.tmod (n : Int) < 0
  · exact .inl ⟨hr, by omega⟩
  · exact .inr ⟨hr, by omega⟩
theorem load_boolP {b o : Nat} {x : Bool} {w : World} (h0 : w.cell? ⟨b, o, none⟩ = some (.bool x)) : (Instr.loadAt 4 (.pointer (some ⟨b, o, none⟩))).run Tryd.prog w = .ok (.bool x) w := by
  go_simp
theorem neq_bool_same (x : Bool) (w : World) : (binOp .neq 4 (.bool x) (.bool x)).run Tryd.prog w = .ok (.bool false) w := by cases x <;> go_simp
theorem add_iG (a b : Int) (h : IntKind.i64.wrap (a + b) = a + b) (w : World) : (binOp .add 3 (.int .i64 a) (.int .i64 b)).run Tryd.prog w = .ok (.int .i64 (a + b)) w := by
  go_simp
/-- A slice of so many, wherever it lies. -/
def RT.slen (n : Nat) : RT := ⟨fun v _ => ∃ a c, v = .slice a n c, fun _ _ _ h _ => h⟩
section
variable {ops : Array Oper} {Q : Exit → Act → World → Prop} {a : Act} {w w' : World} {K : Act → World → Prop} {o : Oper}
theorem rop_convP (t u : TypeId) (x : Operand) (hop : o.op = .convert t u x) {v r : Value} (hx : a.eval x = v) (hr : (convert t u v).run Tryd.prog w = .ok r w) (hw : Region.wanted o (yielded ops a.tmps) = true) (h : K (a.put o.dst r) w) :
    if Region.wanted o (yielded ops a.tmps) = true then Oper.wp Tryd.prog o a w K Q else K (a.put o.dst undef) w :=
  rop_v hw (by simp [execOp, hop, hx, hr]) h
end
theorem conv_u64 (i : Nat) (h : i < 64) (w : World) : (convert 3 33 (.int .i64 (i : Int))).run Tryd.prog w = .ok (.int .u64 (i : Int)) w := by
  have hw := IntWalk.u64_in (i : Int) (by omega)
  go_simp
theorem shr_nat (m i : Nat) (hm : m < 4611686018427387904) (hi : i < 64) (w : World) : (binOp .shr 3 (.int .i64 (m : Int)) (.int .u64 (i : Int))).run Tryd.prog w = .ok (.int .i64 ((m / 2 ^ i : Nat) : Int)) w := by
  have h1 : ((m / 2 ^ i : Nat) : Int) = (m : Int) / 2 ^ i := by simp
  have h2 : m / 2 ^ i ≤ m := Nat.div_le_self _ _
  generalize m / 2 ^ i = q at h1 h2 ⊢
  have hw := IntWalk.i64_in ((m : Int) / 2 ^ i) (by rw [← h1]; omega)
  rw [h1]
  go_simp
theorem and_one (m : Nat) (w : World) : (binOp .and 3 (.int .i64 (m : Int)) (.int .i64 1)).run Tryd.prog w = .ok (.int .i64 ((m % 2 : Nat) : Int)) w := by
  have hb : bits .and .i64 (m : Int) 1 = ((m % 2 : Nat) : Int) := by rw [and_maskL (m : Int) 1 1 (by decide) rfl]; rfl
  go_simp
theorem eql_one (m : Nat) (w : World) : (binOp .eql 3 (.int .i64 (m : Int)) (.int .i64 1)).run Tryd.prog w = .ok (.bool (decide (m = 1))) w := by
  have h : decide ((m : Int) = 1) = decide (m = 1) := decide_eq_decide.2 (by omega)
  exact eql_iG (m : Int) 1 _ h w
theorem guard_shr (t : TypeId) (x y : Operand) (a b : Int) (k : IntKind) (w : World) : (eqGuard .shr t x y (.int .i64 a) (.int k b)).run Tryd.prog w = .ok () w := by
  unfold eqGuard; simp
theorem long_lt (m n : Nat) (h : n ≤ 20) : Tree.long m n ≤ 5 := Tree.long_le 5 m n (Nat.le_trans h (by decide))
end Go.Proofs.YtagocdcclghdaaaDoor
