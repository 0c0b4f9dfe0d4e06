/-
  Regions by a table: operations on slices of runs, tests of numbers.
-/
import Derived.Test.YtlbnopfbfnobnaaRegEff
import Derived.Test.YtlbnopfbfnobnaaExtClone
import Derived.Deep.DeepCutAuto
namespace Go.Proofs.Ytlbnopfbfnobnaa
open Go.RowKit Ext

def RT.runs (l : List Rn) : RT := ⟨fun v w => Runs w v l, fun _ _ _ h k => h.old k⟩
theorem size_run (w : World) : (Go.sizeOf 24).run Try.prog w = .ok 2 w := by
  obtain ⟨i0, hi, _, _, _⟩ := info_parts info_run
  rw [run_sizeOf w hi, show Try.prog.cellsOf 24 = 2 by kernel_rfl]
theorem add_zero_opt (a : Option Addr) : a.map (·.add (0 * 2)) = a := by
  cases a with
  | none => rfl
  | some a => simp [Addr.add]
theorem slice_hm (va : Option Addr) (n cap k : Nat) (h : k ≤ cap) (w : World) : (Instr.slice 22 (.slice va n cap) none (some (.int .i64 (k : Int))) (some (.int .i64 (k : Int)))).run Try.prog w = .ok (.slice va k k) w := by
  rw [run_slice_hm (P := Try.prog) w _ va n cap Try.underlying22 _ _ _ _ (by omega) (by omega) (by omega)]
  have e : Try.prog.elem 22 = 24 := by kernel_rfl
  rw [e, size_run]
  simp only [Result.andThen, sliced, Int.toNat_natCast, Nat.sub_zero]
  split
  · rfl
  · rw [add_zero_opt]
theorem slice_h (va : Option Addr) (n cap k : Nat) (h : k ≤ cap) (w : World) : (Instr.slice 22 (.slice va n cap) none (some (.int .i64 (k : Int))) none).run Try.prog w = .ok (.slice va k cap) w := by
  rw [run_slice_h (P := Try.prog) w _ va n cap Try.underlying22 _ _ (by omega) (by omega)]
  have e : Try.prog.elem 22 = 24 := by kernel_rfl
  rw [e, size_run]
  simp only [Result.andThen, sliced, Int.toNat_natCast, Nat.sub_zero]
  split
  · rfl
  · rw [add_zero_opt]
theorem slice_l (va : Option Addr) (n cap k : Nat) (h : k ≤ n) (w : World) : (Instr.slice 22 (.slice va n cap) (some (.int .i64 (k : Int))) none none).run Try.prog w = .ok (.slice (cutA va k cap) (n - k) (cap - k)) w := by
  rw [run_slice_l (P := Try.prog) w _ va n cap Try.underlying22 _ _ (by omega) (by omega)]
  have e : Try.prog.elem 22 = 24 := by kernel_rfl
  rw [e, size_run]
  simp only [Result.andThen, sliced, Int.toNat_natCast, cutA]
theorem sliceAt_run (x : Value) (lo hi mx : Option Value) (w : World) : (Instr.sliceAt 22 x lo hi mx).run Try.prog w = (Instr.slice 22 x lo hi mx).run Try.prog w := run_sliceAt_slice w _ _ _ _ _ Try.underlying22
theorem build_run1 (a n : Int) (w : World) : (Instr.buildSlice 22 1 #[(0, .agg #[.int .i64 a, .int .i64 n])]).run Try.prog w = .ok (.slice (some ⟨w.heap.size, 0, none⟩) 1 1) (w.alloc (.cells #[.int .i64 a, .int .i64 n] 24)) := by
  go_simp
theorem load_run {b o : Nat} {a n : Int} {w : World} (h0 : w.cell? ⟨b, o, none⟩ = some (.int .i64 a)) (h1 : w.cell? ⟨b, o + 1, none⟩ = some (.int .i64 n)) : (Instr.loadAt 24 (.pointer (some ⟨b, o, none⟩))).run Try.prog w = .ok (.agg #[.int .i64 a, .int .i64 n]) w := by
  go_simp
theorem load_int {b o : Nat} {a : Int} {w : World} (h0 : w.cell? ⟨b, o, none⟩ = some (.int .i64 a)) : (Instr.loadAt 3 (.pointer (some ⟨b, o, none⟩))).run Try.prog w = .ok (.int .i64 a) w := by
  go_simp
theorem fld_run0 (b o : Nat) (w : World) : (Instr.fieldAt 24 (.pointer (some ⟨b, o, none⟩)) 0).run Try.prog w = .ok (.pointer (some ⟨b, o, none⟩)) w := by
  go_simp
theorem fld_run1 (b o : Nat) (w : World) : (Instr.fieldAt 24 (.pointer (some ⟨b, o, none⟩)) 1).run Try.prog w = .ok (.pointer (some ⟨b, o + 1, none⟩)) w := by
  go_simp
theorem idx_run (b o n cap k : Nat) (h : k < n) (w : World) : (Instr.indexAt 22 (.slice (some ⟨b, o, none⟩) n cap) (.int .i64 (k : Int))).run Try.prog w = .ok (.pointer (some ⟨b, o + k * 2, none⟩)) w := by
  go_simp
section
variable {ops : Array Oper} {Q : Exit → Act → World → Prop} {a : Act} {w : World} {K : Act → World → Prop} {o : Oper}
theorem rop_slice (t : TypeId) (x : Operand) (lo hi mx : Option Operand) (hop : o.op = .slice t x lo hi mx) {u r : Value} {lo' hi' mx' : Option Value} (hx : a.eval x = u) (h1 : lo.map a.eval = lo') (h2 : hi.map a.eval = hi') (h3 : mx.map a.eval = mx') (hr : (Instr.sliceAt t u lo' hi' mx').run Try.prog w = .ok r w)
    (hw : Region.wanted o (yielded ops a.tmps) = true) (h : K (a.put o.dst r) w) : if Region.wanted o (yielded ops a.tmps) = true then Oper.wp Try.prog o a w K Q else K (a.put o.dst undef) w :=
  rop_v hw (by simp [execOp, hop, hx, h1, h2, h3, hr]) h
theorem rop_len_any (x : Operand) {t e : TypeId} (hu : Try.prog.underlying t = some (.slice e)) (hop : o.op = .call { callee := .builtin .len, args := #[x], argTypes := #[t] }) {va : Option Addr} {n cap : Nat} (hx : a.eval x = .slice va n cap) (hw : Region.wanted o (yielded ops a.tmps) = true) (h : K (a.put o.dst (.int .i64 n)) w) :
    if Region.wanted o (yielded ops a.tmps) = true then Oper.wp Try.prog o a w K Q else K (a.put o.dst undef) w :=
  rop_v hw (by simp [execOp, hop, resolve, invoke, builtin, hx, Builtin.len_, run_underlying hu, goInt]) h
theorem rop_len_sl (x : Operand) (hop : o.op = .call { callee := .builtin .len, args := #[x], argTypes := #[22] }) {va : Option Addr} {n cap : Nat} (hx : a.eval x = .slice va n cap) (hw : Region.wanted o (yielded ops a.tmps) = true) (h : K (a.put o.dst (.int .i64 n)) w) :
    if Region.wanted o (yielded ops a.tmps) = true then Oper.wp Try.prog o a w K Q else K (a.put o.dst undef) w := rop_len_any x Try.underlying22 hop hx hw h
theorem rop_len_runs (x : Operand) (hop : o.op = .call { callee := .builtin .len, args := #[x], argTypes := #[22] }) {l : List Rn} (hx : Runs w (a.eval x) l) (hw : Region.wanted o (yielded ops a.tmps) = true) (h : K (a.put o.dst (.int .i64 l.length)) w) :
    if Region.wanted o (yielded ops a.tmps) = true then Oper.wp Try.prog o a w K Q else K (a.put o.dst undef) w := by
  obtain ⟨va, cap, e, _⟩ := hx.slice
  exact rop_len_sl x hop e hw h
theorem rop_build (t : TypeId) (parts : Array (Nat × Operand)) (hop : o.op = .build t parts) (L : List (Nat × Value)) (hL : (parts.map fun (i, x) => (i, a.eval x)).toList = L) {cells : Array Value} (hb : Try.prog.built t L = some cells) (hw : Region.wanted o (yielded ops a.tmps) = true) (h : K (a.put o.dst (.agg cells)) w) :
    if Region.wanted o (yielded ops a.tmps) = true then Oper.wp Try.prog o a w K Q else K (a.put o.dst undef) w :=
  rop_v hw (by
    have hr := run_build (P := Try.prog) w t (parts.map fun (i, x) => (i, a.eval x)) cells (by rw [hL]; exact hb)
    simp [execOp, hop, hr]) h
theorem rop_off {j : Nat} {b c : Bool} {d : Tmp} (hg : o.guard = some (j, b)) (hd : (ops[j]?).bind (·.dst) = some d) (hv : a.eval (.tmp d) = .bool c) (hne : c ≠ b) (h : K (a.put o.dst undef) w) :
    if Region.wanted o (yielded ops a.tmps) = true then Oper.wp Try.prog o a w K Q else K (a.put o.dst undef) w := by
  have hw : ¬ Region.wanted o (yielded ops a.tmps) = true := by
    have : a.tmps[d]? = some (.bool c) := by
      cases h : a.tmps[d]? with
      | none => simp [Act.eval, h, undef] at hv
      | some x => simp [Act.eval, h] at hv; rw [hv]
    simp [Region.wanted, hg, yielded, hd, this]
    exact hne
  rw [if_neg hw]
  exact h
/-- append whose run is known. -/
theorem rop_append (s x : Operand) (t : TypeId) (hop : o.op = .call { callee := .builtin .append, args := #[s, x], argTypes := #[t, t] }) {v u v' : Value} {w' : World} (hs : a.eval s = v) (hx : a.eval x = u) (hr : (Builtin.append_ #[t, t] o.type #[v, u]).run Try.prog w = .ok v' w') (hw : Region.wanted o (yielded ops a.tmps) = true) (h : K (a.put o.dst v') w') :
    if Region.wanted o (yielded ops a.tmps) = true then Oper.wp Try.prog o a w K Q else K (a.put o.dst undef) w := by
  rw [if_pos hw]
  unfold Oper.wp execOp
  simp only [hop, resolve, invoke, builtin, Sem.run_bind, Sem.run_pure, Result.andThen_ok, List.map_toArray, List.map_cons, List.map_nil, hs, hx, hr]
  exact h
theorem rop_run1 (x : Operand) (hop : o.op = .buildSlice 22 1 #[(0, x)]) {y n : Int} (hx : a.eval x = .agg #[.int .i64 y, .int .i64 n]) (hw : Region.wanted o (yielded ops a.tmps) = true) (h : K (a.put o.dst (.slice (some ⟨w.heap.size, 0, none⟩) 1 1)) (w.alloc (.cells #[.int .i64 y, .int .i64 n] 24))) :
    if Region.wanted o (yielded ops a.tmps) = true then Oper.wp Try.prog o a w K Q else K (a.put o.dst undef) w :=
  rop_v hw (by simp [execOp, hop, hx, build_run1]) h
end
theorem built_run (a n : Int) : Try.prog.built 24 [(0, .int .i64 a), (1, .int .i64 n)] = some #[.int .i64 a, .int .i64 n] := by
  rfl
theorem lss_i (a b : Int) (p : Bool) (h : decide (a < b) = p) (w : World) : (binOp .lss 3 (.int .i64 a) (.int .i64 b)).run Try.prog w = .ok (.bool p) w := by
  subst h; go_simp
theorem gtr_i (a b : Int) (p : Bool) (h : decide (b < a) = p) (w : World) : (binOp .gtr 3 (.int .i64 a) (.int .i64 b)).run Try.prog w = .ok (.bool p) w := by
  subst h; go_simp
theorem leq_i (a b : Int) (p : Bool) (h : decide (a ≤ b) = p) (w : World) : (binOp .leq 3 (.int .i64 a) (.int .i64 b)).run Try.prog w = .ok (.bool p) w := by
  subst h; go_simp
theorem geq_i (a b : Int) (p : Bool) (h : decide (b ≤ a) = p) (w : World) : (binOp .geq 3 (.int .i64 a) (.int .i64 b)).run Try.prog w = .ok (.bool p) w := by
  subst h; go_simp
theorem eql_i (a b : Int) (p : Bool) (h : decide (a = b) = p) (w : World) : (binOp .eql 3 (.int .i64 a) (.int .i64 b)).run Try.prog w = .ok (.bool p) w := by
  subst h
  by_cases e : a = b
  · subst e; go_simp
  · have : (a == b) = false := by simpa using e
    go_simp
theorem neq_i (a b : Int) (p : Bool) (h : decide (a ≠ b) = p) (w : World) : (binOp .neq 3 (.int .i64 a) (.int .i64 b)).run Try.prog w = .ok (.bool p) w := by
  subst h
  by_cases e : a = b
  · subst e; go_simp
  · have : (a == b) = false := by simpa using e
    go_simp
end Go.Proofs.Ytlbnopfbfnobnaa
