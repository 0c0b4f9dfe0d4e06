/-
  What the Seal laws share: what was read is well formed; comparisons with their answers.
-/
import Derived.Test.YtlcljjapeigaeaaDoorSelArg
import Derived.Test.YtlcljjapeigaeaaDoorSelAwake
import Derived.Test.YtlcljjapeigaeaaDoorSelRRd
import Derived.Test.YtlcljjapeigaeaaDoorSelRMake
namespace Go.Proofs.YtlcljjapeigaeaaDoor
open Go.RowKit

theorem z32_ok : FzOk fz0 := ⟨by unfold i64R fz0; decide, by unfold i64R fz0; decide, z32_length⟩
theorem hd0_ok : HdOk hd0 := ⟨by unfold i64R hd0; decide, z32_length, by unfold i64R hd0; decide, z32_length⟩
theorem st0_ok : StOk st0 := ⟨z32_ok, by unfold i64R st0; decide, z32_length⟩
theorem fzB_ok {f : FzR} (h : fzB f = true) (hr : f.root.length = 32) : FzOk f := by
  obtain ⟨⟨h1, h2⟩, h3, h4⟩ := (fzB_iff f).1 h
  exact ⟨by unfold i64R; omega, by unfold i64R; omega, hr⟩
theorem fzRd_ok (s : List UInt8) : FzOk ((fzRd s).getD fz0) := by
  cases h : fzRd s with
  | none => exact z32_ok
  | some f => obtain ⟨h1, h2, -⟩ := (fzRd_iff _ _).1 h; exact fzB_ok h1 h2
theorem hdRd_ok (s : List UInt8) : HdOk ((hdRd s).getD hd0) := by
  cases h : hdRd s with
  | none => exact hd0_ok
  | some f =>
    obtain ⟨h1, h2, h3, -⟩ := (hdRd_iff _ _).1 h
    obtain ⟨⟨a1, a2⟩, a3, a4⟩ := (hdB_iff f).1 h1
    show HdOk f
    exact ⟨by unfold i64R; omega, h2, by unfold i64R; omega, h3⟩
theorem stRd_ok (s : List UInt8) : StOk ((stRd s).getD st0) := by
  cases h : stRd s with
  | none => exact st0_ok
  | some f =>
    obtain ⟨h1, h2, h3, -⟩ := (stRd_iff _ _).1 h
    obtain ⟨a0, a3, a4⟩ := (stB_iff f).1 h1
    show StOk f
    exact ⟨fzB_ok a0 h2, by unfold i64R; omega, h3⟩
theorem eql_fz_t (a : FzR) (h : FzOk a) (w : World) : (binOp .eql 25 (fzV a) (fzV a)).run Tryd.prog w = .ok (.bool true) w := (eql_fz a a h h w).trans (by rw [decide_eq_true rfl])
theorem eql_hd_t (a : HdR) (h : HdOk a) (w : World) : (binOp .eql 27 (hdV a) (hdV a)).run Tryd.prog w = .ok (.bool true) w := (eql_hd a a h h w).trans (by rw [decide_eq_true rfl])
theorem eql_st_t (a : StR) (h : StOk a) (w : World) : (binOp .eql 29 (stV a) (stV a)).run Tryd.prog w = .ok (.bool true) w := (eql_st a a h h w).trans (by rw [decide_eq_true rfl])
theorem eql_err_t (a : Int) (w : World) : (binOp .eql 31 (.int .i64 a) (.int .i64 a)).run Tryd.prog w = .ok (.bool true) w := by go_simp
theorem neq_err_f (a : Int) (w : World) : (binOp .neq 31 (.int .i64 a) (.int .i64 a)).run Tryd.prog w = .ok (.bool false) w := by go_simp
theorem neq_str_f (a : ByteArray) (w : World) : (binOp .neq 9 (.string a) (.string a)).run Tryd.prog w = .ok (.bool false) w := by go_simp
theorem eql_err_d (a b : Int) (w : World) : (binOp .eql 31 (.int .i64 a) (.int .i64 b)).run Tryd.prog w = .ok (.bool (a == b)) w := by go_simp
theorem neq_err_d (a b : Int) (w : World) : (binOp .neq 31 (.int .i64 a) (.int .i64 b)).run Tryd.prog w = .ok (.bool (!(a == b))) w := by go_simp; rfl
theorem eql_bool_d (a b : Bool) (w : World) : (binOp .eql 4 (.bool a) (.bool b)).run Tryd.prog w = .ok (.bool (a == b)) w := by
  cases a <;> cases b <;> go_simp
theorem guard_boolS (op : BinOp) (t : TypeId) (x y : Operand) (a b : Bool) (w : World) : (eqGuard op t x y (.bool a) (.bool b)).run Tryd.prog w = .ok () w := by
  unfold eqGuard; cases op <;> simp
/-- What a read tells, in the form that a law's walk meets. -/
theorem fzRead_l (S : ByteArray) (l : List UInt8) (hl : S.data.toList = l) (hs : S.size ≤ 1000000000) (u : World) : Calls Tryd.prog 18 #[.string S] u fun e w' => e = .returned (.tuple #[.agg (fzCs ((fzRd l).getD fz0)).toArray, .int .i64 (rdZ (fzRd l))]) ∧ Below u.heap.size u w' := by
  subst hl; exact fzRead_any S u hs
theorem hdRead_l (S : ByteArray) (l : List UInt8) (hl : S.data.toList = l) (hs : S.size ≤ 1000000000) (u : World) : Calls Tryd.prog 19 #[.string S] u fun e w' => e = .returned (.tuple #[.agg (hdCs ((hdRd l).getD hd0)).toArray, .int .i64 (rdZ (hdRd l))]) ∧ Below u.heap.size u w' := by
  subst hl; exact hdRead_any S u hs
theorem stRead_l (S : ByteArray) (l : List UInt8) (hl : S.data.toList = l) (hs : S.size ≤ 1000000000) (u : World) : Calls Tryd.prog 20 #[.string S] u fun e w' => e = .returned (.tuple #[.agg (stCs ((stRd l).getD st0)).toArray, .int .i64 (rdZ (stRd l))]) ∧ Below u.heap.size u w' := by
  subst hl; exact stRead_any S u hs
section
variable {ops : Array Oper} {Q : Exit → Act → World → Prop} {a : Act} {w w' : World} {K : Act → World → Prop} {o : Oper}
theorem rop_offU {j : Nat} {b : Bool} {d : Tmp} (hg : o.guard = some (j, b)) (hd : (ops[j]?).bind (·.dst) = some d) (hv : a.eval (.tmp d) = undef) (h : K (a.put o.dst undef) w) :
    if Region.wanted o (yielded ops a.tmps) = true then Oper.wp Tryd.prog o a w K Q else K (a.put o.dst undef) w := by
  have hw : ¬ Region.wanted o (yielded ops a.tmps) = true := by
    cases h : a.tmps[d]? with
    | none => simp [Region.wanted, hg, yielded, hd, h]
    | some x =>
      have hx : x = undef := by simpa [Act.eval, h] using hv
      simp [Region.wanted, hg, yielded, hd, h, hx, undef]
  rw [if_neg hw]
  exact h
end
end Go.Proofs.YtlcljjapeigaeaaDoor
