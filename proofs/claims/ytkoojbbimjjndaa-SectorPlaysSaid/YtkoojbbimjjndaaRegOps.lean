/-
  A region that draws its order, by a table: of each operation what is known of its value. One short law for each kind of operation.
-/
import Derived.Test.YtkoojbbimjjndaaRegInv
import Derived.Test.YtkoojbbimjjndaaGenMem
import Derived.Great.BuildSlice
namespace Go.Proofs.Ytkoojbbimjjndaa
open Go.RowKit

/-- What is known of a value, as long as nothing that was there turns. -/
structure RT where
  p : Value → World → Prop
  st : ∀ v w w', p v w → Below w.heap.size w w' → p v w'
def RT.is (u : Value) : RT := ⟨fun v _ => v = u, fun _ _ _ h _ => h⟩
def RT.any : RT := ⟨fun _ _ => True, fun _ _ _ h _ => h⟩
def RT.row (ts : List ByteArray) : RT := ⟨fun v w => StrRow w v ts, fun _ _ _ h k => h.old k⟩

/-- The obligations, one behind the other. -/
def RAll (P : Program) (ops : Array Oper) (Q : Exit → Act → World → Prop) (a0 : Act) (w0 : World) (T : Nat → Value → World → Prop) (Le : World → World → Prop) : Nat → List Oper → Prop
  | _, [] => True
  | i, o :: l => ROp P ops Q a0 w0 T Le i o ∧ RAll P ops Q a0 w0 T Le (i + 1) l
theorem rall_at {P : Program} {ops : Array Oper} {Q : Exit → Act → World → Prop} {a0 : Act} {w0 : World} {T : Nat → Value → World → Prop} {Le : World → World → Prop} :
    ∀ (l : List Oper) (k : Nat), RAll P ops Q a0 w0 T Le k l → ∀ (i : Nat) (o : Oper), l[i]? = some o → ROp P ops Q a0 w0 T Le (k + i) o
  | [], _, _, i, o, h => by simp at h
  | x :: l, k, ⟨h0, h1⟩, i, o, h => by
    cases i with
    | zero => simp at h; subst h; exact h0
    | succ i =>
      have := rall_at l (k + 1) h1 i o (by simpa using h)
      rwa [show k + (i + 1) = k + 1 + i by omega]

def Le8 (w w' : World) : Prop := Below w.heap.size w w'
def tabT (Ts : List RT) (i : Nat) : Value → World → Prop := (Ts.getD i RT.any).p

theorem wp_region_tab {P : Program} {Q : Exit → Act → World → Prop} {a0 : Act} {id : Nat} {w : World} {l : List Oper} (Ts : List RT) (hm : P.follows .mixedOrders = true) (hback : rback l.toArray = true) (hap : rapart l.toArray = true) (hlt : (rdsts l.toArray).all (fun d => decide (d < a0.tmps.size)) = true)
    (hop : RAll P l.toArray Q a0 w.drew (tabT Ts) Le8 0 l)
    (hfin : ∀ a w', RFrame l.toArray a0 a → Below w.heap.size w w' → (∀ j, j < l.toArray.size → tabT Ts j (rgot l.toArray a j) w') → Q .normal a w') : (Code.region id l.toArray true).wp P Q a0 w := by
  refine wp_region_inv (tabT Ts) Le8 hm hback hap hlt (Below.refl _ _) (fun u v w h k => below_step h (Nat.le_refl _) k) (fun i v w w' h k => (Ts.getD i RT.any).st v w w' h k) (fun i o ho => ?_) (fun a w' hF hL hT => hfin a w' hF ⟨hL.os, hL.tape, hL.output, hL.size, hL.block⟩ hT)
  have := rall_at l 0 hop i o (by simpa using ho)
  rwa [Nat.zero_add] at this

/-- The same of a region that goes in its own order. -/
theorem wp_region_tab0 {P : Program} {Q : Exit → Act → World → Prop} {a0 : Act} {id : Nat} {w : World} {l : List Oper} (Ts : List RT) (hback : rback l.toArray = true) (hap : rapart l.toArray = true) (hlt : (rdsts l.toArray).all (fun d => decide (d < a0.tmps.size)) = true)
    (hop : RAll P l.toArray Q a0 w (tabT Ts) Le8 0 l)
    (hfin : ∀ a w', RFrame l.toArray a0 a → Below w.heap.size w w' → (∀ j, j < l.toArray.size → tabT Ts j (rgot l.toArray a j) w') → Q .normal a w') : (Code.region id l.toArray false).wp P Q a0 w := by
  refine wp_region_inv0 (tabT Ts) Le8 hback hap hlt (Below.refl _ _) (fun u v w h k => below_step h (Nat.le_refl _) k) (fun i v w w' h k => (Ts.getD i RT.any).st v w w' h k) (fun i o ho => ?_) (fun a w' hF hL hT => hfin a w' hF hL hT)
  have := rall_at l 0 hop i o (by simpa using ho)
  rwa [Nat.zero_add] at this

section
variable {P : Program} {ops : Array Oper} {Q : Exit → Act → World → Prop} {a0 a : Act} {w : World} {K : Act → World → Prop} {o : Oper}

/-- A slot that the region does not write. -/
theorem RFrame.at (hF : RFrame ops a0 a) (t : Tmp) (h : (rdsts ops).contains t = false) : a.eval (.tmp t) = a0.eval (.tmp t) := by
  have := hF.out t (by simpa using h)
  simp [Act.eval, this]
theorem RFrame.lit (hF : RFrame ops a0 a) (n : Nat) (h : a0.tmps.size = n) : a = ⟨((List.range n).map fun k => a.eval (.tmp k)).toArray, a0.defers⟩ := by
  have hs := hF.size
  have hd := hF.defers
  obtain ⟨t, d⟩ := a
  simp only at hs hd
  subst hd
  congr 1
  apply Array.ext_getElem?
  intro i
  by_cases hi : i < n
  · simp [hi, Act.eval, show i < t.size by omega]
  · rw [Array.getElem?_eq_none (by omega), Array.getElem?_eq_none (by simp; omega)]

theorem wanted_none (h : o.guard = none) : Region.wanted o (yielded ops a.tmps) = true := by simp [Region.wanted, h]
theorem wanted_of {j : Nat} {b : Bool} {d : Tmp} (hg : o.guard = some (j, b)) (hd : (ops[j]?).bind (·.dst) = some d) (hv : a.eval (.tmp d) = .bool b) : Region.wanted o (yielded ops a.tmps) = true := by
  have : a.tmps[d]? = some (.bool b) := by
    cases h : a.tmps[d]? with
    | none => simp [Act.eval, h, undef] at hv
    | some x => simp [Act.eval, h] at hv; rw [hv]
  simp [Region.wanted, hg, yielded, hd, this]

theorem rop_v {v : Value} {w' : World} (hw : Region.wanted o (yielded ops a.tmps) = true) (hrun : (execOp a.eval o).run P w = .ok (.value v) w') (h : K (a.put o.dst v) w') :
    if Region.wanted o (yielded ops a.tmps) = true then Oper.wp P o a w K Q else K (a.put o.dst undef) w := by
  rw [if_pos hw]
  unfold Oper.wp
  rw [hrun]
  exact h
/-- The call enters the function. -/
def enters (P : Program) (f : FuncId) : Bool := match P.funcs[f]? with
  | some fn => !(fn.name == "runtime.NumGoroutine") && !fn.body.isNone
  | none => false
theorem run_enters {f : FuncId} (h : enters P f = true) (args : Array Value) (w : World) : (callFunc f args).run P w = .ok (.enter f args) w := by
  unfold enters at h
  cases hf : P.funcs[f]? with
  | none => simp [hf] at h
  | some fn =>
    simp only [hf, Bool.and_eq_true, Bool.not_eq_true'] at h
    have h1 : ¬ fn.name = "runtime.NumGoroutine" := by simpa using h.1
    have h2 : ¬ fn.body = none := fun e => by
      have := h.2
      rw [e] at this
      cases this
    simp [callFunc, hf, h1, h2]
theorem rop_call (f : FuncId) (xs : Array Operand) (ts : Array TypeId) (hop : o.op = .call { callee := .value (.func f), args := xs, argTypes := ts }) (args : Array Value) (ha : xs.map a.eval = args) (he : enters P f = true)
    (hw : Region.wanted o (yielded ops a.tmps) = true) (h : Calls P f args w fun e w' => ∃ v, e = .returned v ∧ K (a.put o.dst v) w') :
    if Region.wanted o (yielded ops a.tmps) = true then Oper.wp P o a w K Q else K (a.put o.dst undef) w := by
  rw [if_pos hw]
  unfold Oper.wp
  have hrun : (execOp a.eval o).run P w = .ok (.enter f args) w := by
    have hx := run_enters he args w
    simp [execOp, hop, resolve, invoke, ha, Act.eval, Deferred.ofValue, hx]
  rw [hrun, Oper.upon_enter]
  exact h.mono fun e w' ⟨v, he, hk⟩ => by subst he; exact hk
theorem rop_move (x : Operand) (hop : o.op = .move x) {v : Value} (hx : a.eval x = v) (hw : Region.wanted o (yielded ops a.tmps) = true) (h : K (a.put o.dst v) w) :
    if Region.wanted o (yielded ops a.tmps) = true then Oper.wp P o a w K Q else K (a.put o.dst undef) w :=
  rop_v hw (by simp [execOp, hop, hx]) h
theorem rop_assign (x : Operand) (hop : o.op = .assign x) {v : Value} (hx : a.eval x = v) (hw : Region.wanted o (yielded ops a.tmps) = true) (h : K (a.put o.dst v) w) :
    if Region.wanted o (yielded ops a.tmps) = true then Oper.wp P o a w K Q else K (a.put o.dst undef) w :=
  rop_v hw (by simp [execOp, hop, hx]) h
theorem rop_pick (c x y : Operand) (hop : o.op = .pick c x y) (b : Bool) (hc : a.eval c = .bool b) {v : Value} (hx : (if b = true then a.eval x else a.eval y) = v) (hw : Region.wanted o (yielded ops a.tmps) = true) (h : K (a.put o.dst v) w) :
    if Region.wanted o (yielded ops a.tmps) = true then Oper.wp P o a w K Q else K (a.put o.dst undef) w :=
  rop_v hw (by simp [execOp, hop, hc, asBool, hx]) h
theorem rop_not (t : TypeId) (x : Operand) (hop : o.op = .unOp .not t x) (b : Bool) (hx : a.eval x = .bool b) (hw : Region.wanted o (yielded ops a.tmps) = true) (h : K (a.put o.dst (.bool (!b))) w) :
    if Region.wanted o (yielded ops a.tmps) = true then Oper.wp P o a w K Q else K (a.put o.dst undef) w :=
  rop_v hw (by simp [execOp, hop, hx, Op.unary]) h
theorem rop_load (ty : TypeId) (x : Operand) (hop : o.op = .load ty x) (b off : Nat) (hx : a.eval x = .pointer (some ⟨b, off, none⟩)) (cs : List Value) (d : TypeDesc) (hc : w.rangeAt b off cs) (hu : P.underlying ty = some d) (hd : d.isRow = true) (hi : (P.info? ty).map (·.size) = some cs.length)
    (hw : Region.wanted o (yielded ops a.tmps) = true) (h : K (a.put o.dst (.agg cs.toArray)) w) :
    if Region.wanted o (yielded ops a.tmps) = true then Oper.wp P o a w K Q else K (a.put o.dst undef) w :=
  rop_v hw (by simp [execOp, hop, hx, run_loadAt_mid w b off ty cs d hc hu hd hi]) h
theorem rop_bin (op : BinOp) (ty rt : TypeId) (x y : Operand) (hop : o.op = .binOp op ty x y rt) {u v r : Value} (hx : a.eval x = u) (hy : a.eval y = v) (hg : (eqGuard op ty x y u v).run P w = .ok () w) (hr : (binOp op ty u v).run P w = .ok r w)
    (hw : Region.wanted o (yielded ops a.tmps) = true) (h : K (a.put o.dst r) w) :
    if Region.wanted o (yielded ops a.tmps) = true then Oper.wp P o a w K Q else K (a.put o.dst undef) w :=
  rop_v hw (by simp [execOp, hop, hx, hy, hg, hr]) h
end
theorem eval_const (a : Act) (v : Value) : a.eval (.const v) = v := rfl
theorem le8_refl (w : World) : Le8 w w := Below.refl _ _

theorem info_str : (Try.prog.info? 9).map (fun i => (i.zero, i.size)) = some (some (.string ⟨#[]⟩), 1) := by kernel_rfl
/-- A slice that is built of texts. -/
theorem fill_texts (n : Nat) (ss : List ByteArray) (hn : ss.length = n) : Instr.fill (fun i => some (i * 1, 1)) (((List.replicate n (Value.string ⟨#[]⟩))).toArray) ((List.range n).zipWith (fun i s => (i, Value.string s)) ss) = some (ss.map Value.string).toArray := by
  subst hn
  suffices h : ∀ (ss pre : List ByteArray), Instr.fill (fun i => some (i * 1, 1)) ((pre.map Value.string ++ List.replicate ss.length (Value.string ⟨#[]⟩))).toArray ((List.range' pre.length ss.length).zipWith (fun i s => (i, Value.string s)) ss) = some ((pre ++ ss).map Value.string).toArray by
    have := h ss []
    simpa [List.range_eq_range'] using this
  intro ss
  induction ss with
  | nil => intro pre; simp [Instr.fill]
  | cons s ss ih =>
    intro pre
    rw [List.length_cons, List.range'_succ, List.zipWith_cons_cons, Instr.fill]
    simp only [Value.cells, List.size_toArray, List.length_append, List.length_map, List.length_replicate]
    rw [if_neg (by simp)]
    have := ih (pre ++ [s])
    simp only [List.length_append, List.length_singleton] at this
    rw [List.append_assoc, List.singleton_append] at this
    rw [← this]
    congr 1
    rw [← Array.foldl_toList]
    simp [List.replicate_succ]
theorem run_texts (w : World) (n : Nat) (ss : List ByteArray) (hn : ss.length = n) (h0 : 0 < n) (h9 : n ≤ 1000) :
    (Instr.buildSlice 46 n ((List.range n).zipWith (fun i s => (i, Value.string s)) ss).toArray).run Try.prog w = .ok (.slice (some ⟨w.heap.size, 0, none⟩) n n) (w.alloc (.cells (ss.map Value.string).toArray 9)) := by
  obtain ⟨i0, hi, hq⟩ : ∃ i0, Try.prog.info? 9 = some i0 ∧ (i0.zero, i0.size) = (some (.string ⟨#[]⟩), 1) := by
    have := info_str
    cases hx : Try.prog.info? 9 with
    | none => rw [hx] at this; cases this
    | some i0 => rw [hx] at this; exact ⟨i0, rfl, by simpa using this⟩
  have hz : i0.zero = some (.string ⟨#[]⟩) := congrArg Prod.fst hq
  have hs : i0.size = 1 := congrArg Prod.snd hq
  refine run_buildSlice w _ _ n _ _ i0 _ Try.underlying46 hi hz (by rw [hs]; omega) (by rw [hs]; omega) ?_
  rw [hs]
  have := fill_texts n ss hn
  rw [← this]
  congr 1
  apply Array.ext_getElem?
  intro i
  by_cases hin : i < n
  · simp [hin, Value.cells, Nat.mod_one]
  · rw [Array.getElem?_eq_none (by simp; omega), Array.getElem?_eq_none (by simp; omega)]
theorem strRow_texts (w : World) (n : Nat) (ss : List ByteArray) (hn : ss.length = n) (h9 : n ≤ 1000) : StrRow (w.alloc (.cells (ss.map Value.string).toArray 9)) (.slice (some ⟨w.heap.size, 0, none⟩) n n) ss := by
  subst hn
  refine ⟨_, ss.length, rfl, by omega, fun _ => ⟨w.heap.size, 0, rfl, by simp, fun j hj => ?_⟩⟩
  rw [cell_of (heap_alloc_last w _)]
  simp [hj]
theorem rop_texts {ops : Array Oper} {Q : Exit → Act → World → Prop} {a : Act} {w : World} {K : Act → World → Prop} {o : Oper} (n : Nat) (xs : Array (Nat × Operand)) (hop : o.op = .buildSlice 46 n xs) (ss : List ByteArray)
    (hx : (xs.map fun (i, x) => (i, a.eval x)) = ((List.range n).zipWith (fun i s => (i, Value.string s)) ss).toArray) (hn : ss.length = n) (h0 : 0 < n) (h9 : n ≤ 1000)
    (hw : Region.wanted o (yielded ops a.tmps) = true) (h : ∀ v w', Below w.heap.size w w' → StrRow w' v ss → K (a.put o.dst v) w') :
    if Region.wanted o (yielded ops a.tmps) = true then Oper.wp Try.prog o a w K Q else K (a.put o.dst undef) w :=
  rop_v (v := .slice (some ⟨w.heap.size, 0, none⟩) n n) (w' := w.alloc (.cells (ss.map Value.string).toArray 9)) hw (by
    have := run_texts w n ss hn h0 h9
    rw [← hx] at this
    simp [execOp, hop, this]) (h _ _ ((Below.refl _ _).alloc (Nat.le_refl _) _) (strRow_texts w n ss hn h9))

theorem rop_len_str {ops : Array Oper} {Q : Exit → Act → World → Prop} {a : Act} {w : World} {K : Act → World → Prop} {o : Oper} (x : Operand) (hop : o.op = .call { callee := .builtin .len, args := #[x], argTypes := #[9] }) (S : ByteArray) (hx : a.eval x = .string S)
    (hw : Region.wanted o (yielded ops a.tmps) = true) (h : K (a.put o.dst (.int .i64 S.size)) w) :
    if Region.wanted o (yielded ops a.tmps) = true then Oper.wp Try.prog o a w K Q else K (a.put o.dst undef) w :=
  rop_v hw (by simp [execOp, hop, resolve, invoke, builtin, hx]; go_simp) h
/-- A new slice of bytes 0. -/
def RT.zeros (n : Nat) : RT := ⟨fun v w => ∃ b, v = .slice (some ⟨b, 0, none⟩) n n ∧ w.heap[b]? = some (.cells ((List.replicate n (0 : UInt8)).map u8V).toArray 5 (0, 0)), fun _ _ _ ⟨b, h1, h2⟩ k => ⟨b, h1, (k.block b (Array.getElem?_eq_some_iff.1 h2).1).trans h2⟩⟩
theorem rop_make {ops : Array Oper} {Q : Exit → Act → World → Prop} {a : Act} {w : World} {K : Act → World → Prop} {o : Oper} (x y : Operand) (hop : o.op = .makeSlice 53 x y) (n : Nat) (hn : n ≤ 1000) (hx : a.eval x = .int .i64 n) (hy : a.eval y = .int .i64 n)
    (hw : Region.wanted o (yielded ops a.tmps) = true) (h : ∀ v w', Below w.heap.size w w' → (RT.zeros n).p v w' → K (a.put o.dst v) w') :
    if Region.wanted o (yielded ops a.tmps) = true then Oper.wp Try.prog o a w K Q else K (a.put o.dst undef) w :=
  rop_v hw (by simp [execOp, hop, hx, hy, make_bytes n n (Nat.le_refl _) hn w]) (h _ _ ((Below.refl _ _).alloc (Nat.le_refl _) _) ⟨w.heap.size, rfl, heap_alloc_last w _⟩)
theorem rop_zeros_str {ops : Array Oper} {Q : Exit → Act → World → Prop} {a : Act} {w : World} {K : Act → World → Prop} {o : Oper} (x : Operand) (hop : o.op = .convert 53 9 x) (n : Nat) (hx : (RT.zeros n).p (a.eval x) w)
    (hw : Region.wanted o (yielded ops a.tmps) = true) (h : K (a.put o.dst (.string ⟨(List.replicate n (0 : UInt8)).toArray⟩)) w) :
    if Region.wanted o (yielded ops a.tmps) = true then Oper.wp Try.prog o a w K Q else K (a.put o.dst undef) w := by
  obtain ⟨b, h1, h2⟩ := hx
  have hc := convert_bytes w b n n (List.replicate n 0) (by simp) (cell_u8 h2)
  exact rop_v hw (by simp [execOp, hop, h1, hc]) h

/-! ### Tests and sums, with their answers -/
theorem below_undrew {w w' : World} (h : Le8 w.drew w') : Below w.heap.size w w' := ⟨h.os, h.tape, h.output, h.size, h.block⟩
theorem eql_str_t (a b : ByteArray) (h : a = b) (w : World) : (binOp .eql 9 (.string a) (.string b)).run Try.prog w = .ok (.bool true) w := by
  subst h
  go_simp
theorem eql_str (a b : ByteArray) (w : World) : (binOp .eql 9 (.string a) (.string b)).run Try.prog w = .ok (.bool (decide (a = b))) w := by
  by_cases h : a = b
  · rw [decide_eq_true h]; exact eql_str_t a b h w
  · have hl : (a.toList == b.toList) = false := by
      have : a.toList ≠ b.toList := fun e => h (by rw [Lib.toList_data, Lib.toList_data] at e; exact ByteArray.ext (Array.toList_inj.1 e))
      simpa using this
    rw [decide_eq_false h]
    go_simp
theorem eql_bool_t (a b : Bool) (h : a = b) (w : World) : (binOp .eql 4 (.bool a) (.bool b)).run Try.prog w = .ok (.bool true) w := by
  subst h
  cases a <;> go_simp
theorem eql_int_t (a b : Int) (h : a = b) (w : World) : (binOp .eql 3 (.int .i64 a) (.int .i64 b)).run Try.prog w = .ok (.bool true) w := by
  subst h
  go_simp
theorem add_str (a b : ByteArray) (h : a.size + b.size ≤ 9223372036854775807) (w : World) : (binOp .add 9 (.string a) (.string b)).run Try.prog w = .ok (.string (a ++ b)) w := by
  go_simp
theorem guard_str (op : BinOp) (t : TypeId) (x y : Operand) (a b : ByteArray) (w : World) : (eqGuard op t x y (.string a) (.string b)).run Try.prog w = .ok () w := by
  unfold eqGuard; cases op <;> simp
theorem guard_bool (op : BinOp) (t : TypeId) (x y : Operand) (a b : Bool) (w : World) : (eqGuard op t x y (.bool a) (.bool b)).run Try.prog w = .ok () w := by
  unfold eqGuard; cases op <;> simp
theorem guard_int (op : BinOp) (t : TypeId) (x y : Operand) (k : IntKind) (a b : Int) (w : World) : (eqGuard op t x y (.int k a) (.int k b)).run Try.prog w = .ok () w := by
  unfold eqGuard; cases op <;> simp
theorem sub_int (a b c : Int) (h : a - b = c) (hb : -9223372036854775808 ≤ c ∧ c ≤ 9223372036854775807) (w : World) : (binOp .sub 3 (.int .i64 a) (.int .i64 b)).run Try.prog w = .ok (.int .i64 c) w := by
  subst h
  have := IntWalk.i64_in (a - b) (by omega)
  go_simp
theorem add_int (a b c : Int) (h : a + b = c) (hb : -9223372036854775808 ≤ c ∧ c ≤ 9223372036854775807) (w : World) : (binOp .add 3 (.int .i64 a) (.int .i64 b)).run Try.prog w = .ok (.int .i64 c) w := by
  subst h
  have := IntWalk.i64_in (a + b) (by omega)
  go_simp
/-- The first n bytes of a text: 's[:n]'. -/
theorem rop_cut {ops : Array Oper} {Q : Exit → Act → World → Prop} {a : Act} {w : World} {K : Act → World → Prop} {o : Oper} (x y : Operand) (hop : o.op = .slice 9 x none (some y) none) (S : ByteArray) (n : Nat) (hx : a.eval x = .string S) (hy : a.eval y = .int .i64 n) (hn : n ≤ S.size)
    (hw : Region.wanted o (yielded ops a.tmps) = true) (h : K (a.put o.dst (.string (S.extract 0 n))) w) :
    if Region.wanted o (yielded ops a.tmps) = true then Oper.wp Try.prog o a w K Q else K (a.put o.dst undef) w :=
  rop_v hw (by simp [execOp, hop, hx, hy]; go_simp) h
end Go.Proofs.Ytkoojbbimjjndaa
