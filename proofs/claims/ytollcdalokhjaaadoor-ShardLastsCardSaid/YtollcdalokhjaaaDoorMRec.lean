/-
  Several texts in one (RecMem, RecFn, RecRow, RecRef, RecRead, RecPure, RecAwake, RecArg, RecRows, RecLoop).
-/
import Derived.Test.YtollcdalokhjaaaDoorMOct
import Derived.Test.YtollcdalokhjaaaDoorMGen
import Derived.Deep.DeepCutAuto
import Derived.Test.YtollcdalokhjaaaDoorMOctL
import Derived.Laws.OwnMore
import Derived.Deep.AppendLies
import Derived.OwnWalk
import Derived.ArgAppend
import Derived.Test.YtollcdalokhjaaaDoorMArg
import Derived.ChangeSlices
import Derived.SliceStrings
import Derived.Lib.SmallJoins
import Derived.Deep.LoopGhost
/-! ## Package record: a record in memory, its cells; what Check tells, what its bytes are. -/
namespace Go.Proofs.YtollcdalokhjaaaDoor
open Go.RowKit

/-- A record by plain numbers. -/
structure RecR where
  win : Int
  idx : Int
  tim : Int
  pay : ByteArray
def recCs (r : RecR) : List Value := [.int .i64 r.win, .int .i64 r.idx, .int .i64 r.tim, .string r.pay]
def i64R (z : Int) : Prop := -9223372036854775808 ≤ z ∧ z ≤ 9223372036854775807
structure RecOk (r : RecR) : Prop where
  win : i64R r.win
  idx : i64R r.idx
  tim : i64R r.tim
  pay : r.pay.size ≤ maxLen
/-- What uint64 makes of a number. -/
def u64N (z : Int) : Nat := (z % 18446744073709551616).toNat
theorem u64N_lt (z : Int) : u64N z < 18446744073709551616 := by
  have := Int.emod_lt_of_pos z (show (0 : Int) < 18446744073709551616 by decide)
  have := Int.emod_nonneg z (show (18446744073709551616 : Int) ≠ 0 by decide)
  unfold u64N; omega
theorem u64N_int (z : Int) : z % 18446744073709551616 = (u64N z : Int) := by
  have := Int.emod_nonneg z (show (18446744073709551616 : Int) ≠ 0 by decide)
  unfold u64N; omega
theorem u64N_wrap (z : Int) : IntKind.u64.wrap z = (u64N z : Int) := by rw [IntKind.wrap_u64]; exact u64N_int z
theorem u64N_nat (z : Int) (h : 0 ≤ z) (h2 : z ≤ 9223372036854775807) : (u64N z : Int) = z := by
  rw [← u64N_int]; exact Int.emod_eq_of_lt h (by omega)
/-- A number that may be: from 0 to the most. -/
def mayB (n most : Int) : Bool := decide (0 ≤ n) && decide (n ≤ most)
def chkB (win idx tim : Int) : Bool := mayB win 1125899906842624 && mayB tim 1125899906842624 && mayB idx 3999
/-- What Check tells. -/
def chkZ (win idx tim : Int) (pay : ByteArray) : Int := if chkB win idx tim then (if 2000 < pay.size then 11 else 0) else 1
/-- A record's bytes in a row. -/
def rowB (tim : Int) (pay : ByteArray) : ByteArray := Oct.putB (u64N tim) ++ (Oct.putB pay.size ++ pay)
/-- A record's bytes. -/
def bytB (win idx tim : Int) (pay : ByteArray) : ByteArray := Oct.putB (u64N win) ++ Oct.putB (u64N idx) ++ rowB tim pay
theorem putB_le (n : Nat) (h : n < 18446744073709551616) : (Oct.putB n).size ≤ 9 := by have := Oct.need_le n h; rw [Oct.putB_size]; omega
theorem rowB_size (tim : Int) (pay : ByteArray) (h : pay.size < 18446744073709551616) : (rowB tim pay).size ≤ 18 + pay.size := by
  have h1 := putB_le (u64N tim) (u64N_lt tim)
  have h2 := putB_le pay.size h
  simp only [rowB, ByteArray.size_append]; omega
theorem chk_ok {win idx tim : Int} {pay : ByteArray} (h : chkZ win idx tim pay = 0) : (0 ≤ win ∧ win ≤ 1125899906842624) ∧ (0 ≤ idx ∧ idx ≤ 3999) ∧ (0 ≤ tim ∧ tim ≤ 1125899906842624) ∧ pay.size ≤ 2000 := by
  unfold chkZ at h
  split at h
  · rename_i hc
    split at h
    · simp at h
    · simp only [chkB, mayB, Bool.and_eq_true, decide_eq_true_eq] at hc
      omega
  · simp at h
theorem chk_of {win idx tim : Int} {pay : ByteArray} (h : (0 ≤ win ∧ win ≤ 1125899906842624) ∧ (0 ≤ idx ∧ idx ≤ 3999) ∧ (0 ≤ tim ∧ tim ≤ 1125899906842624) ∧ pay.size ≤ 2000) : chkZ win idx tim pay = 0 := by
  unfold chkZ
  rw [if_pos (by simp only [chkB, mayB, Bool.and_eq_true, decide_eq_true_eq]; omega), if_neg (by omega)]
/-! ### Memory -/
/-- Block p is a record. -/
def RecAt (p : Nat) (win idx tim : Int) (pay : ByteArray) (w : World) : Prop := w.heap[p]? = some (.cells #[.int .i64 win, .int .i64 idx, .int .i64 tim, .string pay] 55 (0, 0))
theorem RecAt.lt {p : Nat} {win idx tim : Int} {pay : ByteArray} {w : World} (h : RecAt p win idx tim pay w) : p < w.heap.size := (Array.getElem?_eq_some_iff.1 h).1
theorem RecAt.c0 {p : Nat} {win idx tim : Int} {pay : ByteArray} {w : World} (h : RecAt p win idx tim pay w) : w.cell? ⟨p, 0, none⟩ = some (.int .i64 win) := (cell_of h 0).trans rfl
theorem RecAt.c1 {p : Nat} {win idx tim : Int} {pay : ByteArray} {w : World} (h : RecAt p win idx tim pay w) : w.cell? ⟨p, 1, none⟩ = some (.int .i64 idx) := (cell_of h 1).trans rfl
theorem RecAt.c2 {p : Nat} {win idx tim : Int} {pay : ByteArray} {w : World} (h : RecAt p win idx tim pay w) : w.cell? ⟨p, 2, none⟩ = some (.int .i64 tim) := (cell_of h 2).trans rfl
theorem RecAt.c3 {p : Nat} {win idx tim : Int} {pay : ByteArray} {w : World} (h : RecAt p win idx tim pay w) : w.cell? ⟨p, 3, none⟩ = some (.string pay) := (cell_of h 3).trans rfl
theorem RecAt.old {p B : Nat} {win idx tim : Int} {pay : ByteArray} {w w' : World} (h : RecAt p win idx tim pay w) (k : Below B w w') (hp : p < B) : RecAt p win idx tim pay w' := (k.block p hp).trans h
theorem RecAt.kept {p b : Nat} {win idx tim : Int} {pay : ByteArray} {w w' : World} (h : RecAt p win idx tim pay w) (k : Only b w w') (hp : p ≠ b) : RecAt p win idx tim pay w' := (k.block p h.lt hp).trans h
theorem RecAt.alloc (w : World) (win idx tim : Int) (pay : ByteArray) : RecAt w.heap.size win idx tim pay (w.alloc (.cells #[.int .i64 win, .int .i64 idx, .int .i64 tim, .string pay] 55)) := heap_alloc_last w _
theorem RecAt.set0 {p : Nat} {win idx tim : Int} {pay : ByteArray} {w : World} (h : RecAt p win idx tim pay w) (z : Int) : RecAt p z idx tim pay (w.setCell ⟨p, 0, none⟩ (.int .i64 z)) := by
  have := heap_set (i := 0) h (.int .i64 z); simpa [RecAt] using this
theorem RecAt.set1 {p : Nat} {win idx tim : Int} {pay : ByteArray} {w : World} (h : RecAt p win idx tim pay w) (z : Int) : RecAt p win z tim pay (w.setCell ⟨p, 1, none⟩ (.int .i64 z)) := by
  have := heap_set (i := 1) h (.int .i64 z); simpa [RecAt] using this
theorem RecAt.set2 {p : Nat} {win idx tim : Int} {pay : ByteArray} {w : World} (h : RecAt p win idx tim pay w) (z : Int) : RecAt p win idx z pay (w.setCell ⟨p, 2, none⟩ (.int .i64 z)) := by
  have := heap_set (i := 2) h (.int .i64 z); simpa [RecAt] using this
theorem RecAt.set3 {p : Nat} {win idx tim : Int} {pay : ByteArray} {w : World} (h : RecAt p win idx tim pay w) (s : ByteArray) : RecAt p win idx tim s (w.setCell ⟨p, 3, none⟩ (.string s)) := by
  have := heap_set (i := 3) h (.string s); simpa [RecAt] using this
theorem recFld (b o : Nat) (w : World) : (Instr.fieldAt 55 (.pointer (some ⟨b, o, none⟩)) 0).run Tryd.prog w = .ok (.pointer (some ⟨b, o, none⟩)) w ∧ (Instr.fieldAt 55 (.pointer (some ⟨b, o, none⟩)) 1).run Tryd.prog w = .ok (.pointer (some ⟨b, o + 1, none⟩)) w ∧
    (Instr.fieldAt 55 (.pointer (some ⟨b, o, none⟩)) 2).run Tryd.prog w = .ok (.pointer (some ⟨b, o + 2, none⟩)) w ∧ (Instr.fieldAt 55 (.pointer (some ⟨b, o, none⟩)) 3).run Tryd.prog w = .ok (.pointer (some ⟨b, o + 3, none⟩)) w := by
  refine ⟨?_, ?_, ?_, ?_⟩ <;> go_simp
theorem recFld0 (b : Nat) (w : World) : (Instr.fieldAt 55 (.pointer (some ⟨b, 0, none⟩)) 0).run Tryd.prog w = .ok (.pointer (some ⟨b, 0, none⟩)) w ∧ (Instr.fieldAt 55 (.pointer (some ⟨b, 0, none⟩)) 1).run Tryd.prog w = .ok (.pointer (some ⟨b, 1, none⟩)) w ∧
    (Instr.fieldAt 55 (.pointer (some ⟨b, 0, none⟩)) 2).run Tryd.prog w = .ok (.pointer (some ⟨b, 2, none⟩)) w ∧ (Instr.fieldAt 55 (.pointer (some ⟨b, 0, none⟩)) 3).run Tryd.prog w = .ok (.pointer (some ⟨b, 3, none⟩)) w := by
  refine ⟨?_, ?_, ?_, ?_⟩ <;> go_simp
theorem load_intR {b o : Nat} {x : Int} {w : World} (h0 : w.cell? ⟨b, o, none⟩ = some (.int .i64 x)) : (Instr.loadAt 3 (.pointer (some ⟨b, o, none⟩))).run Tryd.prog w = .ok (.int .i64 x) w := by go_simp
theorem load_strR {b o : Nat} {x : ByteArray} {w : World} (h0 : w.cell? ⟨b, o, none⟩ = some (.string x)) : (Instr.loadAt 9 (.pointer (some ⟨b, o, none⟩))).run Tryd.prog w = .ok (.string x) w := by go_simp
theorem load_recR {b o : Nat} {win idx tim : Int} {pay : ByteArray} {w : World} (h0 : w.cell? ⟨b, o, none⟩ = some (.int .i64 win)) (h1 : w.cell? ⟨b, o + 1, none⟩ = some (.int .i64 idx)) (h2 : w.cell? ⟨b, o + 2, none⟩ = some (.int .i64 tim)) (h3 : w.cell? ⟨b, o + 3, none⟩ = some (.string pay)) :
    (Instr.loadAt 55 (.pointer (some ⟨b, o, none⟩))).run Tryd.prog w = .ok (.agg #[.int .i64 win, .int .i64 idx, .int .i64 tim, .string pay]) w := by go_simp
theorem RecAt.load {p : Nat} {win idx tim : Int} {pay : ByteArray} {w : World} (h : RecAt p win idx tim pay w) : (Instr.loadAt 55 (.pointer (some ⟨p, 0, none⟩))).run Tryd.prog w = .ok (.agg #[.int .i64 win, .int .i64 idx, .int .i64 tim, .string pay]) w := load_recR h.c0 h.c1 h.c2 h.c3
theorem conv_u64 (z : Int) (w : World) : (convert 3 108 (.int .i64 z)).run Tryd.prog w = .ok (.int .u64 (u64N z : Int)) w := by
  rw [← u64N_wrap]; go_simp
section
variable {ops : Array Oper} {Q : Exit → Act → World → Prop} {a : Act} {w w' : World} {K : Act → World → Prop} {o : Oper}
theorem rop_convR (t u : TypeId) (x : Operand) (hop : o.op = .convert t u x) {v r : Value} (hx : a.eval x = v) (hr : (convert t u v).run Tryd.prog w = .ok r w) (hw : Region.wanted o (yielded ops a.tmps) = true) (h : K (a.put o.dst r) w) :
    if Region.wanted o (yielded ops a.tmps) = true then Oper.wp Tryd.prog o a w K Q else K (a.put o.dst undef) w :=
  rop_v hw (by simp [execOp, hop, hx, hr]) h
end
end Go.Proofs.YtollcdalokhjaaaDoor
/-! ## Package record: Check, inRow, Size, Bytes. -/
namespace Go.Proofs.YtollcdalokhjaaaDoor
open Go.RowKit

theorem below_box' (w : World) (o : Obj) : Below w.heap.size w (w.alloc o) := (Below.refl _ _).alloc (Nat.le_refl _) _
theorem may_any (n most : Int) (w : World) :
    Calls Tryd.prog 60 #[.int .i64 n, .int .i64 most] w fun e w' => e = .returned (.bool (mayB n most)) ∧ w = w' := by
  unfold mayB
  by_cases h : 0 ≤ n
  · rw [decide_eq_true h, Bool.true_and]
    go_enter Tryd.func60, Tryd.ntmps60
    go_wp2
    go_ret
    exact ⟨rfl, rfl⟩
  · rw [decide_eq_false h, Bool.false_and]
    go_enter Tryd.func60, Tryd.ntmps60
    go_wp2
    go_ret
    exact ⟨rfl, rfl⟩

set_option maxHeartbeats 3200000 in
theorem check_any (win idx tim : Int) (pay : ByteArray) (w : World) (hs : pay.size ≤ 9223372036854775807) :
    Calls Tryd.prog 39 #[.agg #[.int .i64 win, .int .i64 idx, .int .i64 tim, .string pay]] w fun e w' => e = .returned (.int .i64 (chkZ win idx tim pay)) ∧ Below w.heap.size w w' := by
  have hmf : ∀ (fn : Fn) (first cap : Array Value) (w : World), (Instr.makeFunc fn first cap).run Tryd.prog w = .ok (.func fn first cap) w := fun _ _ _ _ => rfl
  obtain ⟨p, hp⟩ : ∃ p, p = w.heap.size := ⟨_, rfl⟩
  obtain ⟨W, hW⟩ : ∃ W, W = w.alloc (.cells #[.int .i64 win, .int .i64 idx, .int .i64 tim, .string pay] 55) := ⟨_, rfl⟩
  have hb1 : Below w.heap.size w W := by rw [hW]; exact (Below.refl _ _).alloc (Nat.le_refl _) _
  have hr : RecAt p win idx tim pay W := by rw [hW, hp]; exact RecAt.alloc _ _ _ _ _
  have c0 := hr.c0
  have c1 := hr.c1
  have c2 := hr.c2
  have c3 := hr.c3
  have HW1 := Lib.hid hW
  have HP := Lib.hid hp
  clear hW hp hr
  have q1 := fun u => may_any win 1125899906842624 u
  have q2 := fun u => may_any tim 1125899906842624 u
  have q3 := fun u => may_any idx 3999 u
  unfold chkZ chkB
  generalize mayB win 1125899906842624 = A at *
  generalize mayB tim 1125899906842624 = B at *
  generalize mayB idx 3999 = C at *
  cases A
  · simp only [Bool.false_and, Bool.false_eq_true, if_false]
    go_enter Tryd.func39, Tryd.ntmps39
    go_upto_region 2 with fail
    rw [← HW1.out, ← HP.out]
    clear HW1
    go_wp2_with (first
      | (go_at_call 60; ((with_reducible refine (q1 _).mono ?_); rintro e w5 ⟨rfl, rfl⟩))
      | (go_at_call 60; ((with_reducible refine (q2 _).mono ?_); rintro e w5 ⟨rfl, rfl⟩))
      | (go_at_call 60; ((with_reducible refine (q3 _).mono ?_); rintro e w5 ⟨rfl, rfl⟩)))
    try rw [Exit.noGoto_ret]
    go_ret
    exact ⟨rfl, hb1⟩
  cases B
  · simp only [Bool.true_and, Bool.false_and, Bool.false_eq_true, if_false]
    go_enter Tryd.func39, Tryd.ntmps39
    go_upto_region 2 with fail
    rw [← HW1.out, ← HP.out]
    clear HW1
    go_wp2_with (first
      | (go_at_call 60; ((with_reducible refine (q1 _).mono ?_); rintro e w5 ⟨rfl, rfl⟩))
      | (go_at_call 60; ((with_reducible refine (q2 _).mono ?_); rintro e w5 ⟨rfl, rfl⟩))
      | (go_at_call 60; ((with_reducible refine (q3 _).mono ?_); rintro e w5 ⟨rfl, rfl⟩)))
    try rw [Exit.noGoto_ret]
    go_ret
    exact ⟨rfl, hb1⟩
  cases C
  · simp only [Bool.true_and, Bool.and_false, Bool.false_eq_true, if_false]
    go_enter Tryd.func39, Tryd.ntmps39
    go_upto_region 2 with fail
    rw [← HW1.out, ← HP.out]
    clear HW1
    go_wp2_with (first
      | (go_at_call 60; ((with_reducible refine (q1 _).mono ?_); rintro e w5 ⟨rfl, rfl⟩))
      | (go_at_call 60; ((with_reducible refine (q2 _).mono ?_); rintro e w5 ⟨rfl, rfl⟩))
      | (go_at_call 60; ((with_reducible refine (q3 _).mono ?_); rintro e w5 ⟨rfl, rfl⟩)))
    try rw [Exit.noGoto_ret]
    go_ret
    exact ⟨rfl, hb1⟩
  simp only [Bool.true_and, if_true]
  by_cases hz : 2000 < pay.size
  · rw [if_pos hz]
    go_enter Tryd.func39, Tryd.ntmps39
    go_upto_region 2 with fail
    rw [← HW1.out, ← HP.out]
    clear HW1
    go_wp2_with (first
      | (go_at_call 60; ((with_reducible refine (q1 _).mono ?_); rintro e w5 ⟨rfl, rfl⟩))
      | (go_at_call 60; ((with_reducible refine (q2 _).mono ?_); rintro e w5 ⟨rfl, rfl⟩))
      | (go_at_call 60; ((with_reducible refine (q3 _).mono ?_); rintro e w5 ⟨rfl, rfl⟩)))
    try rw [Exit.noGoto_ret]
    go_ret
    exact ⟨rfl, hb1⟩
  · rw [if_neg hz]
    go_enter Tryd.func39, Tryd.ntmps39
    go_upto_region 2 with fail
    rw [← HW1.out, ← HP.out]
    clear HW1
    go_wp2_with (first
      | (go_at_call 60; ((with_reducible refine (q1 _).mono ?_); rintro e w5 ⟨rfl, rfl⟩))
      | (go_at_call 60; ((with_reducible refine (q2 _).mono ?_); rintro e w5 ⟨rfl, rfl⟩))
      | (go_at_call 60; ((with_reducible refine (q3 _).mono ?_); rintro e w5 ⟨rfl, rfl⟩)))
    try rw [Exit.noGoto_ret]
    go_ret
    exact ⟨rfl, hb1⟩
set_option maxHeartbeats 3200000 in
set_option maxRecDepth 100000 in
theorem inRow_any (win idx tim : Int) (pay : ByteArray) (w : World) (hs : pay.size ≤ 1000000000) :
    Calls Tryd.prog 81 #[.agg #[.int .i64 win, .int .i64 idx, .int .i64 tim, .string pay]] w fun e w' => e = .returned (.string (rowB tim pay)) ∧ Below w.heap.size w w' := by
  have l1 := putB_le (u64N tim) (u64N_lt tim)
  have l2 := putB_le pay.size (by omega)
  obtain ⟨p, hp⟩ : ∃ p, p = w.heap.size := ⟨_, rfl⟩
  obtain ⟨W, hW⟩ : ∃ W, W = w.alloc (.cells #[.int .i64 win, .int .i64 idx, .int .i64 tim, .string pay] 55) := ⟨_, rfl⟩
  have hb1 : Below w.heap.size w W := by rw [hW]; exact (Below.refl _ _).alloc (Nat.le_refl _) _
  have hr : RecAt p win idx tim pay W := by rw [hW, hp]; exact RecAt.alloc _ _ _ _ _
  have hp1 : p < W.heap.size := hr.lt
  have c0 := hr.c0
  have c1 := hr.c1
  have c2 := hr.c2
  have c3 := hr.c3
  have HW1 := Lib.hid hW
  have HP := Lib.hid hp
  have HR := Lib.hid hr
  clear hW hp hr
  go_enter Tryd.func81, Tryd.ntmps81
  go_upto_region 1 with fail
  rw [← HW1.out, ← HP.out]
  clear HW1
  try simp only [Act.put]
  refine wp_region_tab [RT.is (.pointer (some ⟨p, 2, none⟩)), RT.is (.int .i64 tim), RT.is (.int .u64 (u64N tim : Int)), RT.is (.string (Oct.putB (u64N tim))), RT.is (.pointer (some ⟨p, 3, none⟩)), RT.is (.string pay), RT.is (.string (Oct.putB pay.size ++ pay)), RT.is (.string (rowB tim pay)), RT.is (.string (rowB tim pay))] (by kernel_rfl) (by kernel_rfl) (by kernel_rfl) (by kernel_rfl) ⟨?_, ?_, ?_, ?_, ?_, ?_, ?_, ?_, ?_, trivial⟩ ?_
  · intro ac w' hF hL hP hU K hK
    have hB := below_undrew hL
    have e1 : ac.eval (.tmp 1) = .pointer (some ⟨p, 0, none⟩) := hF.at 1 (by kernel_rfl)
    exact rop_fld _ _ _ rfl e1 ((recFld0 p _).2.2.1) (wanted_none rfl) (hK _ _ (le8_refl _) rfl)
  · intro ac w' hF hL hP hU K hK
    have hB := below_undrew hL
    have e3 : ac.eval (.tmp 3) = .pointer (some ⟨p, 2, none⟩) := hP 0 (by kernel_rfl)
    exact rop_ld _ _ rfl e3 (load_intR ((hB.cell (p := ⟨p, _, none⟩) hp1).trans c2)) (wanted_none rfl) (hK _ _ (le8_refl _) rfl)
  · intro ac w' hF hL hP hU K hK
    have hB := below_undrew hL
    have e4 : ac.eval (.tmp 4) = .int .i64 tim := hP 1 (by kernel_rfl)
    exact rop_convR _ _ _ rfl e4 (conv_u64 tim w') (wanted_none rfl) (hK _ _ (le8_refl _) rfl)
  · intro ac w' hF hL hP hU K hK
    have hB := below_undrew hL
    have e5 : ac.eval (.tmp 5) = .int .u64 (u64N tim : Int) := hP 2 (by kernel_rfl)
    refine rop_call 80 _ _ rfl #[.int .u64 (u64N tim : Int)] (by simp [e5]) (by kernel_rfl) (wanted_none rfl) ?_
    refine (put_any (u64N tim) w' (u64N_lt tim)).mono ?_
    rintro e w2 ⟨rfl, hb⟩
    exact ⟨_, rfl, hK _ _ hb rfl⟩
  · intro ac w' hF hL hP hU K hK
    have hB := below_undrew hL
    have e1 : ac.eval (.tmp 1) = .pointer (some ⟨p, 0, none⟩) := hF.at 1 (by kernel_rfl)
    exact rop_fld _ _ _ rfl e1 ((recFld0 p _).2.2.2) (wanted_none rfl) (hK _ _ (le8_refl _) rfl)
  · intro ac w' hF hL hP hU K hK
    have hB := below_undrew hL
    have e7 : ac.eval (.tmp 7) = .pointer (some ⟨p, 3, none⟩) := hP 4 (by kernel_rfl)
    exact rop_ld _ _ rfl e7 (load_strR ((hB.cell (p := ⟨p, _, none⟩) hp1).trans c3)) (wanted_none rfl) (hK _ _ (le8_refl _) rfl)
  · intro ac w' hF hL hP hU K hK
    have hB := below_undrew hL
    have e8 : ac.eval (.tmp 8) = .string pay := hP 5 (by kernel_rfl)
    refine rop_call 89 _ _ rfl #[.string pay] (by simp [e8]) (by kernel_rfl) (wanted_none rfl) ?_
    refine (textPut_any pay w' (by omega)).mono ?_
    rintro e w2 ⟨rfl, hb⟩
    exact ⟨_, rfl, hK _ _ hb rfl⟩
  · intro ac w' hF hL hP hU K hK
    have hB := below_undrew hL
    have e6 : ac.eval (.tmp 6) = .string (Oct.putB (u64N tim)) := hP 3 (by kernel_rfl)
    have e9 : ac.eval (.tmp 9) = .string (Oct.putB pay.size ++ pay) := hP 6 (by kernel_rfl)
    exact rop_bin _ _ _ _ _ rfl e6 e9 (guard_str _ _ _ _ _ _ w') (add_str _ _ (by simp only [ByteArray.size_append]; omega) w') (wanted_none rfl) (hK _ _ (le8_refl _) rfl)
  · intro ac w' hF hL hP hU K hK
    have hB := below_undrew hL
    have e10 : ac.eval (.tmp 10) = .string (rowB tim pay) := hP 7 (by kernel_rfl)
    exact rop_assign _ rfl e10 (wanted_none rfl) (hK _ _ (le8_refl _) rfl)
  · intro ac w' hF hB hT
    have e2 : ac.eval (.tmp 2) = .string (rowB tim pay) := hT 8 (by decide)
    rw [hF.setsG [3, 4, 5, 6, 7, 8, 9, 10, 2] (by kernel_rfl)]
    simp only [List.foldl_cons, List.foldl_nil, List.setIfInBounds_toArray, List.set_cons_succ, List.set_cons_zero, e2]
    generalize ac.eval (.tmp 3) = u3
    generalize ac.eval (.tmp 4) = u4
    generalize ac.eval (.tmp 5) = u5
    generalize ac.eval (.tmp 6) = u6
    generalize ac.eval (.tmp 7) = u7
    generalize ac.eval (.tmp 8) = u8
    generalize ac.eval (.tmp 9) = u9
    generalize ac.eval (.tmp 10) = u10
    clear e2 hT hF ac
    have hbw := below_step hb1 (Nat.le_refl _) hB
    clear hB c0 c1 c2 c3
    go_wp2
    go_ret
    exact ⟨rfl, hbw⟩
/-- What Bytes tells. -/
def bytV (win idx tim : Int) (pay : ByteArray) : ByteArray := if chkZ win idx tim pay = 0 then bytB win idx tim pay else ⟨#[]⟩
set_option maxHeartbeats 3200000 in
set_option maxRecDepth 100000 in
theorem recBytes_any (win idx tim : Int) (pay : ByteArray) (w : World) (hs : pay.size ≤ 1000000000) :
    Calls Tryd.prog 61 #[.agg #[.int .i64 win, .int .i64 idx, .int .i64 tim, .string pay]] w fun e w' => e = .returned (.tuple #[.string (bytV win idx tim pay), .int .i64 (chkZ win idx tim pay)]) ∧ Below w.heap.size w w' := by
  have l1 := putB_le (u64N win) (u64N_lt win)
  have l2 := putB_le (u64N idx) (u64N_lt idx)
  have l3 := rowB_size tim pay (by omega)
  obtain ⟨p, hp⟩ : ∃ p, p = w.heap.size := ⟨_, rfl⟩
  obtain ⟨W, hW⟩ : ∃ W, W = w.alloc (.cells #[.int .i64 win, .int .i64 idx, .int .i64 tim, .string pay] 55) := ⟨_, rfl⟩
  have hb1 : Below w.heap.size w W := by rw [hW]; exact (Below.refl _ _).alloc (Nat.le_refl _) _
  have hr : RecAt p win idx tim pay W := by rw [hW, hp]; exact RecAt.alloc _ _ _ _ _
  have hp1 : p < W.heap.size := hr.lt
  have c0 := hr.c0
  have c1 := hr.c1
  have c2 := hr.c2
  have c3 := hr.c3
  have HW1 := Lib.hid hW
  have HP := Lib.hid hp
  have HR := Lib.hid hr
  clear hW hp hr
  have qc := check_any win idx tim pay W (by omega)
  by_cases hc : chkZ win idx tim pay = 0
  · rw [show bytV win idx tim pay = bytB win idx tim pay from if_pos hc]
    rw [hc] at qc ⊢
    go_enter Tryd.func61, Tryd.ntmps61
    go_upto_region 1 with fail
    rw [← HW1.out, ← HP.out]
    clear HW1
    go_upto_region 4 with (go_at_call 39; ((with_reducible refine qc.mono ?_); rintro e w5 ⟨rfl, b5⟩))
    replace hb1 := below_step hb1 (Nat.le_refl _) b5
    have HR2 := Lib.hid (HR.out.old b5 hp1)
    have hp5 : p < w5.heap.size := HR2.out.lt
    clear HR c0 c1 c2 c3 b5 hc hp1
    have HR := HR2
    have hp1 := hp5
    have c0 := HR.out.c0
    have c1 := HR.out.c1
    have c2 := HR.out.c2
    have c3 := HR.out.c3
    clear hp5 HR2
    try simp only [Act.put]
    refine wp_region_tab [RT.is (.pointer (some ⟨p, 0, none⟩)), RT.is (.int .i64 win), RT.is (.int .u64 (u64N win : Int)), RT.is (.string (Oct.putB (u64N win))), RT.is (.pointer (some ⟨p, 1, none⟩)), RT.is (.int .i64 idx), RT.is (.int .u64 (u64N idx : Int)), RT.is (.string (Oct.putB (u64N idx))), RT.is (.string (Oct.putB (u64N win) ++ Oct.putB (u64N idx))), RT.is (.agg #[.int .i64 win, .int .i64 idx, .int .i64 tim, .string pay]), RT.is (.string (rowB tim pay)), RT.is (.string (bytB win idx tim pay)), RT.is (.string (bytB win idx tim pay)), RT.is (.int .i64 0)] (by kernel_rfl) (by kernel_rfl) (by kernel_rfl) (by kernel_rfl) ⟨?_, ?_, ?_, ?_, ?_, ?_, ?_, ?_, ?_, ?_, ?_, ?_, ?_, ?_, trivial⟩ ?_
    · intro ac w' hF hL hP hU K hK
      have hB := below_undrew hL
      have e1 : ac.eval (.tmp 1) = .pointer (some ⟨p, 0, none⟩) := hF.at 1 (by kernel_rfl)
      exact rop_fld _ _ _ rfl e1 ((recFld0 p _).1) (wanted_none rfl) (hK _ _ (le8_refl _) rfl)
    · intro ac w' hF hL hP hU K hK
      have hB := below_undrew hL
      have e10 : ac.eval (.tmp 10) = .pointer (some ⟨p, 0, none⟩) := hP 0 (by kernel_rfl)
      exact rop_ld _ _ rfl e10 (load_intR ((hB.cell (p := ⟨p, _, none⟩) hp1).trans c0)) (wanted_none rfl) (hK _ _ (le8_refl _) rfl)
    · intro ac w' hF hL hP hU K hK
      have hB := below_undrew hL
      have e11 : ac.eval (.tmp 11) = .int .i64 win := hP 1 (by kernel_rfl)
      exact rop_convR _ _ _ rfl e11 (conv_u64 win w') (wanted_none rfl) (hK _ _ (le8_refl _) rfl)
    · intro ac w' hF hL hP hU K hK
      have hB := below_undrew hL
      have e12 : ac.eval (.tmp 12) = .int .u64 (u64N win : Int) := hP 2 (by kernel_rfl)
      refine rop_call 80 _ _ rfl #[.int .u64 (u64N win : Int)] (by simp [e12]) (by kernel_rfl) (wanted_none rfl) ?_
      refine (put_any (u64N win) w' (u64N_lt win)).mono ?_
      rintro e w2 ⟨rfl, hb⟩
      exact ⟨_, rfl, hK _ _ hb rfl⟩
    · intro ac w' hF hL hP hU K hK
      have hB := below_undrew hL
      have e1 : ac.eval (.tmp 1) = .pointer (some ⟨p, 0, none⟩) := hF.at 1 (by kernel_rfl)
      exact rop_fld _ _ _ rfl e1 ((recFld0 p _).2.1) (wanted_none rfl) (hK _ _ (le8_refl _) rfl)
    · intro ac w' hF hL hP hU K hK
      have hB := below_undrew hL
      have e14 : ac.eval (.tmp 14) = .pointer (some ⟨p, 1, none⟩) := hP 4 (by kernel_rfl)
      exact rop_ld _ _ rfl e14 (load_intR ((hB.cell (p := ⟨p, _, none⟩) hp1).trans c1)) (wanted_none rfl) (hK _ _ (le8_refl _) rfl)
    · intro ac w' hF hL hP hU K hK
      have hB := below_undrew hL
      have e15 : ac.eval (.tmp 15) = .int .i64 idx := hP 5 (by kernel_rfl)
      exact rop_convR _ _ _ rfl e15 (conv_u64 idx w') (wanted_none rfl) (hK _ _ (le8_refl _) rfl)
    · intro ac w' hF hL hP hU K hK
      have hB := below_undrew hL
      have e16 : ac.eval (.tmp 16) = .int .u64 (u64N idx : Int) := hP 6 (by kernel_rfl)
      refine rop_call 80 _ _ rfl #[.int .u64 (u64N idx : Int)] (by simp [e16]) (by kernel_rfl) (wanted_none rfl) ?_
      refine (put_any (u64N idx) w' (u64N_lt idx)).mono ?_
      rintro e w2 ⟨rfl, hb⟩
      exact ⟨_, rfl, hK _ _ hb rfl⟩
    · intro ac w' hF hL hP hU K hK
      have hB := below_undrew hL
      have e13 : ac.eval (.tmp 13) = .string (Oct.putB (u64N win)) := hP 3 (by kernel_rfl)
      have e17 : ac.eval (.tmp 17) = .string (Oct.putB (u64N idx)) := hP 7 (by kernel_rfl)
      exact rop_bin _ _ _ _ _ rfl e13 e17 (guard_str _ _ _ _ _ _ w') (add_str _ _ (by omega) w') (wanted_none rfl) (hK _ _ (le8_refl _) rfl)
    · intro ac w' hF hL hP hU K hK
      have hB := below_undrew hL
      have e1 : ac.eval (.tmp 1) = .pointer (some ⟨p, 0, none⟩) := hF.at 1 (by kernel_rfl)
      exact rop_ld _ _ rfl e1 ((HR.out.old hB hp1).load) (wanted_none rfl) (hK _ _ (le8_refl _) rfl)
    · intro ac w' hF hL hP hU K hK
      have hB := below_undrew hL
      have e19 : ac.eval (.tmp 19) = .agg #[.int .i64 win, .int .i64 idx, .int .i64 tim, .string pay] := hP 9 (by kernel_rfl)
      refine rop_call 81 _ _ rfl #[.agg #[.int .i64 win, .int .i64 idx, .int .i64 tim, .string pay]] (by simp [e19]) (by kernel_rfl) (wanted_none rfl) ?_
      refine (inRow_any win idx tim pay w' (by omega)).mono ?_
      rintro e w2 ⟨rfl, hb⟩
      exact ⟨_, rfl, hK _ _ hb rfl⟩
    · intro ac w' hF hL hP hU K hK
      have hB := below_undrew hL
      have e18 : ac.eval (.tmp 18) = .string (Oct.putB (u64N win) ++ Oct.putB (u64N idx)) := hP 8 (by kernel_rfl)
      have e20 : ac.eval (.tmp 20) = .string (rowB tim pay) := hP 10 (by kernel_rfl)
      exact rop_bin _ _ _ _ _ rfl e18 e20 (guard_str _ _ _ _ _ _ w') (add_str _ _ (by simp only [ByteArray.size_append]; omega) w') (wanted_none rfl) (hK _ _ (le8_refl _) rfl)
    · intro ac w' hF hL hP hU K hK
      have hB := below_undrew hL
      have e21 : ac.eval (.tmp 21) = .string (bytB win idx tim pay) := hP 11 (by kernel_rfl)
      exact rop_assign _ rfl e21 (wanted_none rfl) (hK _ _ (le8_refl _) rfl)
    · intro ac w' hF hL hP hU K hK
      have hB := below_undrew hL
      exact rop_assign _ rfl rfl (wanted_none rfl) (hK _ _ (le8_refl _) rfl)
    · intro ac w' hF hB hT
      have e2 : ac.eval (.tmp 2) = .string (bytB win idx tim pay) := hT 12 (by decide)
      have e3 : ac.eval (.tmp 3) = .int .i64 0 := hT 13 (by decide)
      rw [hF.setsG [10, 11, 12, 13, 14, 15, 16, 17, 18, 19, 20, 21, 2, 3] (by kernel_rfl)]
      simp only [List.foldl_cons, List.foldl_nil, List.setIfInBounds_toArray, List.set_cons_succ, List.set_cons_zero, e2, e3]
      generalize ac.eval (.tmp 10) = u10
      generalize ac.eval (.tmp 11) = u11
      generalize ac.eval (.tmp 12) = u12
      generalize ac.eval (.tmp 13) = u13
      generalize ac.eval (.tmp 14) = u14
      generalize ac.eval (.tmp 15) = u15
      generalize ac.eval (.tmp 16) = u16
      generalize ac.eval (.tmp 17) = u17
      generalize ac.eval (.tmp 18) = u18
      generalize ac.eval (.tmp 19) = u19
      generalize ac.eval (.tmp 20) = u20
      generalize ac.eval (.tmp 21) = u21
      clear e2 e3 hT hF ac
      have hbw := below_step hb1 (Nat.le_refl _) hB
      clear hB c0 c1 c2 c3
      go_wp2
      go_ret2
      exact ⟨rfl, hbw⟩
  · rw [show bytV win idx tim pay = ⟨#[]⟩ from if_neg hc]
    generalize chkZ win idx tim pay = z at *
    go_enter Tryd.func61, Tryd.ntmps61
    go_upto_region 1 with fail
    rw [← HW1.out, ← HP.out]
    clear HW1
    go_wp2_with (go_at_call 39; ((with_reducible refine qc.mono ?_); rintro e w5 ⟨rfl, b5⟩))
    go_ret2
    exact ⟨rfl, below_step hb1 (Nat.le_refl _) b5⟩
end Go.Proofs.YtollcdalokhjaaaDoor
/-! ## Package record: rows of records in memory; Row; the document's own Row, Check, Same. -/
namespace Go.Proofs.YtollcdalokhjaaaDoor
open Go.RowKit

theorem info_rec : (Tryd.prog.info? 55).map (fun i => (i.zero, i.size, i.bytes)) = some (some (.agg #[.int .i64 0, .int .i64 0, .int .i64 0, .string ⟨#[]⟩]), 4, 40) := by kernel_rfl
def recsC (l : List RecR) : List Value := l.flatMap recCs
theorem recsC_cons (r : RecR) (t : List RecR) : recsC (r :: t) = recCs r ++ recsC t := by simp [recsC]
theorem recsC_append (a b : List RecR) : recsC (a ++ b) = recsC a ++ recsC b := by simp [recsC]
theorem recsC_length : ∀ l : List RecR, (recsC l).length = l.length * 4
  | [] => rfl
  | r :: t => by rw [recsC_cons, List.length_append, recsC_length t, List.length_cons]; simp [recCs]; omega
theorem recsC_get : ∀ (l : List RecR) (j : Nat) (r : RecR), l[j]? = some r → (recsC l)[j * 4]? = some (.int .i64 r.win) ∧ (recsC l)[j * 4 + 1]? = some (.int .i64 r.idx) ∧ (recsC l)[j * 4 + 2]? = some (.int .i64 r.tim) ∧ (recsC l)[j * 4 + 3]? = some (.string r.pay)
  | [], j, r, h => by simp at h
  | x :: t, 0, r, h => by
    simp at h; subst h
    rw [recsC_cons]; exact ⟨rfl, rfl, rfl, rfl⟩
  | x :: t, j + 1, r, h => by
    have := recsC_get t j r (by simpa using h)
    have e : ∀ i, i < 4 → (recsC (x :: t))[(j + 1) * 4 + i]? = (recsC t)[j * 4 + i]? := fun i hi => by
      rw [recsC_cons, List.getElem?_append_right (by simp [recCs]; omega)]
      congr 1
      simp [recCs]; omega
    have e0 := e 0 (by decide)
    rw [Nat.add_zero, Nat.add_zero] at e0
    rw [e0, e 1 (by decide), e 2 (by decide), e 3 (by decide)]
    exact this
theorem recsC_one (l : List RecR) : ∀ u ∈ recsC l, u.oneCell' = true := by
  intro u hu
  obtain ⟨r, _, hr⟩ := List.mem_flatMap.1 hu
  simp [recCs] at hr
  rcases hr with rfl | rfl | rfl | rfl <;> rfl
/-- v is a slice that reads as the records l. -/
def RowR (w : World) (v : Value) (l : List RecR) : Prop :=
  ∃ a cap, v = .slice a l.length cap ∧ l.length ≤ 9223372036854775807 ∧ ∀ (j : Nat) (r : RecR), l[j]? = some r → ∃ b off, a = some ⟨b, off, none⟩ ∧ b < w.heap.size ∧
    w.cell? ⟨b, off + j * 4, none⟩ = some (.int .i64 r.win) ∧ w.cell? ⟨b, off + j * 4 + 1, none⟩ = some (.int .i64 r.idx) ∧ w.cell? ⟨b, off + j * 4 + 2, none⟩ = some (.int .i64 r.tim) ∧ w.cell? ⟨b, off + j * 4 + 3, none⟩ = some (.string r.pay)
theorem RowR.old {w w' : World} {v : Value} {l : List RecR} (h : RowR w v l) (k : Below w.heap.size w w') : RowR w' v l := by
  obtain ⟨a, cap, rfl, h1, h2⟩ := h
  refine ⟨a, cap, rfl, h1, fun j r hr => ?_⟩
  obtain ⟨b, off, e, hb, c0, c1, c2, c3⟩ := h2 j r hr
  have := k.size
  exact ⟨b, off, e, by omega, (k.cell (p := ⟨b, _, none⟩) hb).trans c0, (k.cell (p := ⟨b, _, none⟩) hb).trans c1, (k.cell (p := ⟨b, _, none⟩) hb).trans c2, (k.cell (p := ⟨b, _, none⟩) hb).trans c3⟩
theorem RowR.nil (w : World) : RowR w (.slice none 0 0) [] := ⟨none, 0, rfl, by simp, fun j r hr => by simp at hr⟩
theorem RowR.slice {w : World} {v : Value} {l : List RecR} (h : RowR w v l) : ∃ a cap, v = .slice a l.length cap := by
  obtain ⟨a, cap, e, _⟩ := h; exact ⟨a, cap, e⟩
theorem RowR.at {w : World} {a : Option Addr} {n cap : Nat} {l : List RecR} (h : RowR w (.slice a n cap) l) (j : Nat) (r : RecR) (hr : l[j]? = some r) : ∃ b off, a = some ⟨b, off, none⟩ ∧ b < w.heap.size ∧
    w.cell? ⟨b, off + j * 4, none⟩ = some (.int .i64 r.win) ∧ w.cell? ⟨b, off + j * 4 + 1, none⟩ = some (.int .i64 r.idx) ∧ w.cell? ⟨b, off + j * 4 + 2, none⟩ = some (.int .i64 r.tim) ∧ w.cell? ⟨b, off + j * 4 + 3, none⟩ = some (.string r.pay) := by
  obtain ⟨a', cap', e, h1, h2⟩ := h
  injection e with e1 e2 e3
  subst e1 e2 e3
  exact h2 j r hr
/-- A slice of the call's own. -/
def OwnR (B : Nat) (w : World) (v : Value) (l : List RecR) : Prop := w.ownsRow B 55 4 v l.length (recsC l)
theorem OwnR.nil (B : Nat) (w : World) : OwnR B w (.slice none 0 0) [] := World.ownsRow_nil _ _ _ _
theorem OwnR.row {B : Nat} {w : World} {v : Value} {l : List RecR} (h : OwnR B w v l) : RowR w v l := by
  have h' := h
  obtain ⟨_, h | ⟨g, cap, cur, rfl, hbg, hg, hnc, hcm, hcs, htake⟩⟩ := h
  · obtain ⟨rfl, h0⟩ := h
    have := List.eq_nil_of_length_eq_zero h0
    subst this
    exact RowR.nil _
  · refine ⟨_, cap, rfl, by unfold maxLen at hcm; omega, fun j r hr => ⟨g, 0, rfl, (Array.getElem?_eq_some_iff.1 hg).1, ?_⟩⟩
    have hc := World.ownsRow.cells h' (g := g) rfl
    obtain ⟨g0, g1, g2, g3⟩ := recsC_get l j r hr
    have c0 := hc _ _ g0
    have c1 := hc _ _ g1
    have c2 := hc _ _ g2
    have c3 := hc _ _ g3
    rw [Addr.add_mid] at c0 c1 c2 c3
    exact ⟨c0, by rw [Nat.add_assoc]; exact c1, by rw [Nat.add_assoc]; exact c2, by rw [Nat.add_assoc]; exact c3⟩
theorem OwnR.kept {B : Nat} {w w' : World} {v : Value} {l : List RecR} (h : OwnR B w v l) (k : Below w.heap.size w w') : OwnR B w' v l := by
  obtain ⟨h1, h2⟩ := h
  refine ⟨h1, ?_⟩
  rcases h2 with e | ⟨g, cap, cur, e1, e2, hg, r⟩
  · exact .inl e
  · exact .inr ⟨g, cap, cur, e1, e2, (k.block g (Array.getElem?_eq_some_iff.1 hg).1).trans hg, r⟩
theorem OwnR.only {B b : Nat} {w w' : World} {v : Value} {l : List RecR} (h : OwnR B w v l) (o : Only b w w') (hb : b < B) : OwnR B w' v l := row_only h o hb
theorem OwnR.lower {B B' : Nat} {w : World} {v : Value} {l : List RecR} (h : OwnR B w v l) (hB : B' ≤ B) : OwnR B' w v l := by
  obtain ⟨h1, h2⟩ := h
  refine ⟨h1, ?_⟩
  rcases h2 with e | ⟨g, cap, cur, e1, e2, r⟩
  · exact .inl e
  · exact .inr ⟨g, cap, cur, e1, by omega, r⟩
theorem rgrown_below {w w' : World} {row : Option Nat} (h : w.grownBy w' row) {B : Nat} (hB : B ≤ w.heap.size) (hr : ∀ g, row = some g → B ≤ g) : Below B w w' :=
  ⟨h.os, h.tape, h.output, h.size, fun k hk => h.block k (by omega) fun e => by have := hr k e.symm; omega⟩
/-- One more: a record that lies in a block of its own. -/
theorem rappend_own {B : Nat} {w : World} {v : Value} {l : List RecR} (ty : TypeId) (r : RecR) (h : OwnR B w v l) (hB : B ≤ w.heap.size) (hl : l.length ≤ 1000000) :
    ∃ v' w', (Builtin.append_ #[58, 58] ty #[v, .slice (some ⟨w.heap.size, 0, none⟩) 1 1]).run Tryd.prog (w.alloc (.cells #[.int .i64 r.win, .int .i64 r.idx, .int .i64 r.tim, .string r.pay] 55)) = .ok v' w' ∧ OwnR B w' v' (l ++ [r]) ∧ Below B w w' ∧ w.grownBy w' v.ownBlock := by
  obtain ⟨i0, hi, hz0, hz1, hz2⟩ := info_parts info_rec
  have b2 : Below w.heap.size w (w.alloc (.cells #[.int .i64 r.win, .int .i64 r.idx, .int .i64 r.tim, .string r.pay] 55)) := (Below.refl _ _).alloc (Nat.le_refl _) _
  have h2 := h.kept b2
  obtain ⟨v', w', h1, h2, h3, _⟩ := run_append_own_at (P := Tryd.prog) (w.alloc (.cells #[.int .i64 r.win, .int .i64 r.idx, .int .i64 r.tim, .string r.pay] 55)) B _ ty _ i0 _ 4 40 Tryd.underlying58 hi hz0 hz1 hz2 rfl (by decide) v l.length (recsC l) h2 ⟨w.heap.size, 0, none⟩ 1 1 (recCs r) rfl
    (fun j u hu => by
      rw [Addr.add_mid, Nat.zero_add, cell_of (heap_alloc_last w _)]
      simpa [recCs] using hu) (fun u hu => by simp [recCs] at hu; rcases hu with rfl | rfl | rfl | rfl <;> rfl) (by unfold maxLen; omega) (by omega) (by simp; omega)
  refine ⟨v', w', h1, ?_, ?_, ?_⟩
  · unfold OwnR
    rw [List.length_append, recsC_append]
    simpa [recsC] using h2
  · exact (b2.mono hB).trans (rgrown_below h3 (by simp; omega) fun g e => (World.ownsRow.lt h g e).1)
  · refine ⟨h3.os, h3.tape, h3.output, Nat.le_trans b2.size h3.size, fun k hk hne => (h3.block k (Nat.lt_of_lt_of_le hk b2.size) hne).trans (b2.block k hk)⟩
theorem index_rec (b off n cap k : Nat) (h : k < n) (w : World) : (Instr.indexAt 58 (.slice (some ⟨b, off, none⟩) n cap) (.int .i64 (k : Int))).run Tryd.prog w = .ok (.pointer (some ⟨b, off + k * 4, none⟩)) w := by
  go_simp
/-- The bytes of a record in a row. -/
def rowL (r : RecR) : List UInt8 := Oct.putL (u64N r.tim) ++ txtL r.pay
def rowsL (l : List RecR) : List UInt8 := l.flatMap rowL
theorem rowB_eq (r : RecR) : rowB r.tim r.pay = ⟨(rowL r).toArray⟩ := by
  rw [rowB, txt_eq, rowL, ← app_list]; rfl
theorem rowL_length (r : RecR) (h : r.pay.size ≤ 1000) : (rowL r).length ≤ 1018 := by
  have h1 := txtL_length r.pay h
  have h2 := putL_le (u64N r.tim) (u64N_lt _)
  rw [rowL, List.length_append]; omega
theorem rowsL_cons (r : RecR) (l : List RecR) : rowsL (r :: l) = rowL r ++ rowsL l := by simp [rowsL]
theorem rowsL_append (a b : List RecR) : rowsL (a ++ b) = rowsL a ++ rowsL b := by simp [rowsL]
theorem rowsL_take (l : List RecR) (k : Nat) (r : RecR) (h : l[k]? = some r) : rowsL (l.take (k + 1)) = rowsL (l.take k) ++ rowL r := by
  obtain ⟨hk, rfl⟩ := List.getElem?_eq_some_iff.1 h
  rw [List.take_succ_eq_append_getElem hk, rowsL_append]; simp [rowsL]
theorem rowsL_length (l : List RecR) (h : ∀ r ∈ l, r.pay.size ≤ 1000) : (rowsL l).length ≤ 1018 * l.length := by
  induction l with
  | nil => simp [rowsL]
  | cons r t ih =>
    have h1 := rowL_length r (h r (by simp))
    have h2 := ih fun x hx => h x (by simp [hx])
    rw [rowsL_cons, List.length_append, List.length_cons]; omega

end Go.Proofs.YtollcdalokhjaaaDoor
/-! ## The document's own Check, Row, Same (scriniumref15). -/
namespace Go.Proofs.YtollcdalokhjaaaDoor
open Go.RowKit

theorem neq_rec_f (win idx tim : Int) (pay : ByteArray) (w : World) : (binOp .neq 55 (.agg #[.int .i64 win, .int .i64 idx, .int .i64 tim, .string pay]) (.agg #[.int .i64 win, .int .i64 idx, .int .i64 tim, .string pay])).run Tryd.prog w = .ok (.bool false) w := by
  go_simp
theorem guard_rec (op : BinOp) (x y : Operand) (u v : Array Value) (w : World) : (eqGuard op 55 x y (.agg u) (.agg v)).run Tryd.prog w = .ok () w := run_eqGuard_agg w op 55 x y _ _ (by kernel_rfl)
set_option maxHeartbeats 3200000 in
set_option maxRecDepth 100000 in
theorem same15_any (va vb : Value) (l : List RecR) (w : World) (ha : RowR w va l) (hb : RowR w vb l) (hn : l.length ≤ 1000000) :
    Calls Tryd.prog 26 #[va, vb] w fun e w' => e = .returned (.bool true) ∧ Below w.heap.size w w' := by
  obtain ⟨aa, ca, rfl⟩ := ha.slice
  obtain ⟨ab, cb, rfl⟩ := hb.slice
  obtain ⟨n, hnn⟩ : ∃ n, n = l.length := ⟨_, rfl⟩
  rw [← hnn] at ha hb hn ⊢
  have Hn := Lib.hid hnn
  have HA := Lib.hid ha
  have HBb := Lib.hid hb
  clear hnn ha hb
  go_enter Tryd.func26, Tryd.ntmps26
  go_wp2
  go_loopw [5] (fun s5 wr => (∃ i : Nat, s5 = .int .i64 (i : Int) ∧ i ≤ n) ∧ Below w.heap.size w wr) (fun s5 _ => n - (intOf s5).toNat)
  case atStart => exact ⟨⟨0, rfl, by omega⟩, Below.refl _ _⟩
  case round =>
    obtain ⟨⟨i, rfl, hi⟩, hbel⟩ := hrel
    by_cases hin : i < n
    · have hlt' : (i : Int) < (n : Int) := by omega
      have hw1 := IntWalk.i64_in ((i : Int) + 1) (by omega)
      obtain ⟨r, hr⟩ : ∃ r, l[i]? = some r := ⟨l[i]'(by rw [← Hn.out]; exact hin), List.getElem?_eq_getElem _⟩
      obtain ⟨g, o1, rfl, hg, c0, c1, c2, c3⟩ := (HA.out.old hbel).at i r hr
      obtain ⟨h, o2, rfl, hh, d0, d1, d2, d3⟩ := (HBb.out.old hbel).at i r hr
      obtain ⟨win, idx, tim, pay⟩ := r
      simp only at c0 c1 c2 c3 d0 d1 d2 d3
      clear hr
      go_upto_region 6 with (fail)
      try simp only [Act.put]
      refine wp_region_tab [RT.is (.slice (some ⟨g, o1, none⟩) n ca), RT.is (.int .i64 (i : Int)), RT.is (.pointer (some ⟨g, o1 + i * 4, none⟩)), RT.is (.agg #[.int .i64 win, .int .i64 idx, .int .i64 tim, .string pay]), RT.is (.slice (some ⟨h, o2, none⟩) n cb), RT.is (.int .i64 (i : Int)), RT.is (.pointer (some ⟨h, o2 + i * 4, none⟩)), RT.is (.agg #[.int .i64 win, .int .i64 idx, .int .i64 tim, .string pay]), RT.is (.bool false)] (by kernel_rfl) (by kernel_rfl) (by kernel_rfl) (by kernel_rfl) ⟨?_, ?_, ?_, ?_, ?_, ?_, ?_, ?_, ?_, trivial⟩ ?_
      · intro ac w' hF hL hP hU K hK
        have hB := below_undrew hL
        have e0 : ac.eval (.tmp 0) = .slice (some ⟨g, o1, none⟩) n ca := hF.at 0 (by kernel_rfl)
        exact rop_move _ rfl e0 (wanted_none rfl) (hK _ _ (le8_refl _) rfl)
      · intro ac w' hF hL hP hU K hK
        have hB := below_undrew hL
        have e5 : ac.eval (.tmp 5) = .int .i64 (i : Int) := hF.at 5 (by kernel_rfl)
        exact rop_move _ rfl e5 (wanted_none rfl) (hK _ _ (le8_refl _) rfl)
      · intro ac w' hF hL hP hU K hK
        have hB := below_undrew hL
        have e17 : ac.eval (.tmp 17) = .slice (some ⟨g, o1, none⟩) n ca := hP 0 (by kernel_rfl)
        have e18 : ac.eval (.tmp 18) = .int .i64 (i : Int) := hP 1 (by kernel_rfl)
        exact rop_idx _ _ _ rfl e17 e18 (index_rec g o1 n ca i hin w') (wanted_none rfl) (hK _ _ (le8_refl _) rfl)
      · intro ac w' hF hL hP hU K hK
        have hB := below_undrew hL
        have e19 : ac.eval (.tmp 19) = .pointer (some ⟨g, o1 + i * 4, none⟩) := hP 2 (by kernel_rfl)
        exact rop_ld _ _ rfl e19 (load_recR ((hB.cell (p := ⟨g, _, none⟩) hg).trans c0) ((hB.cell (p := ⟨g, _, none⟩) hg).trans c1) ((hB.cell (p := ⟨g, _, none⟩) hg).trans c2) ((hB.cell (p := ⟨g, _, none⟩) hg).trans c3)) (wanted_none rfl) (hK _ _ (le8_refl _) rfl)
      · intro ac w' hF hL hP hU K hK
        have hB := below_undrew hL
        have e1 : ac.eval (.tmp 1) = .slice (some ⟨h, o2, none⟩) n cb := hF.at 1 (by kernel_rfl)
        exact rop_move _ rfl e1 (wanted_none rfl) (hK _ _ (le8_refl _) rfl)
      · intro ac w' hF hL hP hU K hK
        have hB := below_undrew hL
        have e5 : ac.eval (.tmp 5) = .int .i64 (i : Int) := hF.at 5 (by kernel_rfl)
        exact rop_move _ rfl e5 (wanted_none rfl) (hK _ _ (le8_refl _) rfl)
      · intro ac w' hF hL hP hU K hK
        have hB := below_undrew hL
        have e21 : ac.eval (.tmp 21) = .slice (some ⟨h, o2, none⟩) n cb := hP 4 (by kernel_rfl)
        have e22 : ac.eval (.tmp 22) = .int .i64 (i : Int) := hP 5 (by kernel_rfl)
        exact rop_idx _ _ _ rfl e21 e22 (index_rec h o2 n cb i hin w') (wanted_none rfl) (hK _ _ (le8_refl _) rfl)
      · intro ac w' hF hL hP hU K hK
        have hB := below_undrew hL
        have e23 : ac.eval (.tmp 23) = .pointer (some ⟨h, o2 + i * 4, none⟩) := hP 6 (by kernel_rfl)
        exact rop_ld _ _ rfl e23 (load_recR ((hB.cell (p := ⟨h, _, none⟩) hh).trans d0) ((hB.cell (p := ⟨h, _, none⟩) hh).trans d1) ((hB.cell (p := ⟨h, _, none⟩) hh).trans d2) ((hB.cell (p := ⟨h, _, none⟩) hh).trans d3)) (wanted_none rfl) (hK _ _ (le8_refl _) rfl)
      · intro ac w' hF hL hP hU K hK
        have hB := below_undrew hL
        have e20 : ac.eval (.tmp 20) = .agg #[.int .i64 win, .int .i64 idx, .int .i64 tim, .string pay] := hP 3 (by kernel_rfl)
        have e24 : ac.eval (.tmp 24) = .agg #[.int .i64 win, .int .i64 idx, .int .i64 tim, .string pay] := hP 7 (by kernel_rfl)
        exact rop_bin _ _ _ _ _ rfl e20 e24 (guard_rec _ _ _ _ _ w') (neq_rec_f _ _ _ _ w') (wanted_none rfl) (hK _ _ (le8_refl _) rfl)
      · intro ac w' hF hB hT
        have e25 : ac.eval (.tmp 25) = .bool false := hT 8 (by decide)
        rw [hF.setsG [17, 18, 19, 20, 21, 22, 23, 24, 25] (by kernel_rfl)]
        simp only [List.foldl_cons, List.foldl_nil, List.setIfInBounds_toArray, List.set_cons_succ, List.set_cons_zero, e25]
        generalize ac.eval (.tmp 17) = u17
        generalize ac.eval (.tmp 18) = u18
        generalize ac.eval (.tmp 19) = u19
        generalize ac.eval (.tmp 20) = u20
        generalize ac.eval (.tmp 21) = u21
        generalize ac.eval (.tmp 22) = u22
        generalize ac.eval (.tmp 23) = u23
        generalize ac.eval (.tmp 24) = u24
        clear e25 hT hF ac
        have hbw : Below w.heap.size w w' := below_step hbel (Nat.le_refl _) hB
        clear hB c0 c1 c2 c3 d0 d1 d2 d3
        go_wp2
        exact ⟨⟨⟨i + 1, by simp, by omega⟩, hbw⟩, by simp [intOf]; omega⟩
    · have hlt' : ¬ (i : Int) < (n : Int) := by omega
      go_wp2
      go_ret
      exact ⟨rfl, hbel⟩
end Go.Proofs.YtollcdalokhjaaaDoor
/-! ## Package record: Read; the document's own. -/
namespace Go.Proofs.YtollcdalokhjaaaDoor
open Go.RowKit

/-- A result in memory, and another one beside it. -/
theorem results_ctR {fn : Func} {t u : Tmp} {ty : TypeId} (h : fn.results = #[.cell t ty, .tmp u]) (tmps : Array Value) (P : Program) (w : World) {b : Nat} {cs : List Value} {d : TypeDesc} (ht : tmps.getD t undef = .pointer (some ⟨b, 0, none⟩)) (hc : w.rangeAt b 0 cs)
    (hu : P.underlying ty = some d) (hd : d.isRow = true) (hi : (P.info? ty).map (·.size) = some cs.length) : (results fn tmps).run P w = .ok (.tuple #[.agg cs.toArray, tmps.getD u undef]) w := by
  have := run_loadVar_mid w b 0 ty cs d hc hu hd hi
  rw [Array.getD_eq_getD_getElem?] at ht
  simp [results, h, ht, asAddr, this, Result.andThen]
theorem RecAt.range {p : Nat} {win idx tim : Int} {pay : ByteArray} {w : World} (h : RecAt p win idx tim pay w) : w.rangeAt p 0 [.int .i64 win, .int .i64 idx, .int .i64 tim, .string pay] := fun j v hv => by
  rw [Nat.zero_add, cell_of h, ← hv]; simp
/-- What is left behind a record. -/
def recS1 (l : List UInt8) : Option (List UInt8) := numS (some l) 1125899906842624
def recS2 (l : List UInt8) : Option (List UInt8) := numS (recS1 l) 3999
def recS3 (l : List UInt8) : Option (List UInt8) := numS (recS2 l) 1125899906842624
def recS4 (l : List UInt8) : Option (List UInt8) := textS (recS3 l) 2000
/-- What Read tells. -/
def readZ (l : List UInt8) : Int := endV (recS4 l)
def readR (l : List UInt8) : RecR := if readZ l = 0 then ⟨numV (some l) 1125899906842624, numV (recS1 l) 3999, numV (recS2 l) 1125899906842624, ⟨(textV (recS3 l) 2000).toArray⟩⟩ else ⟨0, 0, 0, ⟨#[]⟩⟩
def recV (r : RecR) : Value := .agg #[.int .i64 r.win, .int .i64 r.idx, .int .i64 r.tim, .string r.pay]
theorem recV_cs (r : RecR) : recV r = .agg (recCs r).toArray := rfl
theorem below_alloc' (w : World) (o : Obj) : Below w.heap.size w (w.alloc o) := (Below.refl _ _).alloc (Nat.le_refl _) _
theorem endV_01 (st : Option (List UInt8)) : endV st = 0 ∨ endV st = 10 := by
  unfold endV; split
  · exact .inl rfl
  · exact .inr rfl

end Go.Proofs.YtollcdalokhjaaaDoor
/-! ## Plain mathematics of package record: what a row's bytes are read as; what was written is read again. -/
namespace Go.Proofs.YtollcdalokhjaaaDoor
open Go.RowKit

/-- The time, the payload, and what is left behind them. -/
def rTim (l : List UInt8) : Nat := numV (some l) 1125899906842624
def rMid (l : List UInt8) : Option (List UInt8) := numS (some l) 1125899906842624
def rPay (l : List UInt8) : ByteArray := ⟨(textV (rMid l) 2000).toArray⟩
def rRest (l : List UInt8) : Option (List UInt8) := textS (rMid l) 2000
/-- The records of a window whose row l is, from place i on. -/
def rowsG (win : Int) : Nat → Nat → List UInt8 → Option (List RecR)
  | _, _, [] => some []
  | 0, _, _ :: _ => none
  | f + 1, i, b :: t =>
    match rRest (b :: t) with
    | none => none
    | some l' => if chkZ win i (rTim (b :: t)) (rPay (b :: t)) = 0 then (rowsG win f (i + 1) l').map fun r => ⟨win, i, rTim (b :: t), rPay (b :: t)⟩ :: r else none
/-- The records of a window whose row l is. -/
def rowsR (win : Int) (l : List UInt8) : Option (List RecR) := rowsG win l.length 0 l
theorem rowsG_step (win : Int) (f i : Nat) (l : List UInt8) (hl : l ≠ []) : rowsG win (f + 1) i l = match rRest l with
    | none => none
    | some l' => if chkZ win i (rTim l) (rPay l) = 0 then (rowsG win f (i + 1) l').map fun r => ⟨win, i, rTim l, rPay l⟩ :: r else none := by
  cases l with
  | nil => exact absurd rfl hl
  | cons b t => rfl
theorem rowsG_nil (win : Int) (f i : Nat) : rowsG win f i [] = some [] := by cases f <;> rfl
theorem rRest_lt {l l' : List UInt8} (h : rRest l = some l') : l'.length < l.length := by
  unfold rRest at h
  cases hm : rMid l with
  | none => rw [hm] at h; simp [textS, numS, longS, longV] at h
  | some q =>
    rw [hm] at h
    have h1 := textS_lt q l' 2000 h
    have h2 := numS_lt l q 1125899906842624 hm
    omega
theorem rRest_nil : rRest [] = none := by decide
theorem numV_most (st : Option (List UInt8)) (most : Nat) : numV st most ≤ most := by
  unfold numV
  split
  · exact Nat.zero_le _
  · omega
theorem textV_most (st : Option (List UInt8)) (most : Nat) : (textV st most).length ≤ most := by
  have := numV_most st most
  unfold textV
  split
  · exact Nat.zero_le _
  · rw [List.length_take]; omega
theorem rTim_le (l : List UInt8) : (rTim l : Int) ≤ 1125899906842624 := by have := numV_most (some l) 1125899906842624; unfold rTim; simp only [Int.cast_ofNat_Int] at this ⊢; omega
theorem rPay_le (l : List UInt8) : (rPay l).size ≤ 2000 := by have := textV_most (rMid l) 2000; simpa [rPay, ByteArray.size] using this
/-- What Rows' loop keeps: acc has come, rest is left. -/
def RowInv (win : Int) (L : List UInt8) (acc : List RecR) (rest : List UInt8) : Prop :=
  ∃ f, rest.length ≤ f ∧ rowsR win L = (rowsG win f acc.length rest).map fun r => acc ++ r
theorem RowInv.start (win : Int) (L : List UInt8) : RowInv win L [] L := ⟨L.length, Nat.le_refl _, by simp [rowsR]⟩
theorem RowInv.done {win : Int} {L : List UInt8} {acc : List RecR} (h : RowInv win L acc []) : rowsR win L = some acc := by
  obtain ⟨f, _, e⟩ := h
  rw [e, rowsG_nil]; simp
theorem RowInv.bad {win : Int} {L : List UInt8} {acc : List RecR} {rest : List UInt8} (h : RowInv win L acc rest) (hn : rest ≠ []) (hr : rRest rest = none) : rowsR win L = none := by
  obtain ⟨f, hf, e⟩ := h
  cases f with
  | zero => exact absurd (List.eq_nil_of_length_eq_zero (Nat.le_zero.1 hf)) hn
  | succ f => rw [e, rowsG_step _ _ _ _ hn, hr]; rfl
theorem RowInv.not {win : Int} {L : List UInt8} {acc : List RecR} {rest : List UInt8} (h : RowInv win L acc rest) (hn : rest ≠ []) (hc : chkZ win acc.length (rTim rest) (rPay rest) ≠ 0) : rowsR win L = none := by
  obtain ⟨f, hf, e⟩ := h
  cases f with
  | zero => exact absurd (List.eq_nil_of_length_eq_zero (Nat.le_zero.1 hf)) hn
  | succ f =>
    rw [e, rowsG_step _ _ _ _ hn]
    cases rRest rest with
    | none => rfl
    | some l' => simp only; rw [if_neg hc]; rfl
theorem RowInv.step {win : Int} {L : List UInt8} {acc : List RecR} {rest l' : List UInt8} (h : RowInv win L acc rest) (hr : rRest rest = some l') (hc : chkZ win acc.length (rTim rest) (rPay rest) = 0) : RowInv win L (acc ++ [⟨win, acc.length, rTim rest, rPay rest⟩]) l' := by
  have hn : rest ≠ [] := by intro e; rw [e, rRest_nil] at hr; cases hr
  obtain ⟨f, hf, e⟩ := h
  cases f with
  | zero => exact absurd (List.eq_nil_of_length_eq_zero (Nat.le_zero.1 hf)) hn
  | succ f =>
    have := rRest_lt hr
    refine ⟨f, by omega, ?_⟩
    rw [e, rowsG_step _ _ _ _ hn, hr]
    simp only
    rw [if_pos hc, List.length_append, Option.map_map]
    congr 1
    funext r
    simp
theorem rowsG_length (win : Int) : ∀ (f i : Nat) (l : List UInt8) (r : List RecR), rowsG win f i l = some r → i ≤ 4000 → i + r.length ≤ 4000
  | _, i, [], r, h, hi => by rw [rowsG_nil] at h; cases h; simpa using hi
  | 0, _, _ :: _, r, h, _ => by cases h
  | f + 1, i, b :: t, r, h, hi => by
    rw [rowsG_step _ _ _ _ (by simp)] at h
    cases hr : rRest (b :: t) with
    | none => rw [hr] at h; cases h
    | some l' =>
      rw [hr] at h
      simp only at h
      split at h
      · rename_i hc
        obtain ⟨x, hx, rfl⟩ := Option.map_eq_some_iff.1 h
        have hk := (chk_ok hc).2.1.2
        have := rowsG_length win f (i + 1) l' x hx (by omega)
        rw [List.length_cons]; omega
      · cases h
theorem rowsR_length {win : Int} {L : List UInt8} {r : List RecR} (h : rowsR win L = some r) : r.length ≤ 1000000 := by
  have := rowsG_length win _ _ _ _ h (by decide)
  omega
theorem numPut (n : Nat) (r : List UInt8) (most : Nat) (hn : n ≤ most) (hm : most < 18446744073709551616) : numV (some (Oct.putL n ++ r)) most = n ∧ numS (some (Oct.putL n ++ r)) most = some r :=
  ⟨numV_put n (by omega) r most (by omega), numS_put n (by omega) r most (by omega)⟩
theorem u64N_of (z : Int) (h : 0 ≤ z) (h2 : z ≤ 1125899906842624) : u64N z = z.toNat := by have := u64N_nat z h (by omega); omega
/-- A record's row, and what stands behind it. -/
theorem row_read (r : RecR) (t : List UInt8) (h0 : 0 ≤ r.tim) (h1 : r.tim ≤ 1125899906842624) (hp : r.pay.size ≤ 2000) : (rTim (rowL r ++ t) : Int) = r.tim ∧ rPay (rowL r ++ t) = r.pay ∧ rRest (rowL r ++ t) = some t := by
  have e : rowL r ++ t = Oct.putL (u64N r.tim) ++ (txtL r.pay ++ t) := by rw [rowL, List.append_assoc]
  have hu := u64N_of r.tim h0 h1
  obtain ⟨n1, n2⟩ := numPut (u64N r.tim) (txtL r.pay ++ t) 1125899906842624 (by omega) (by decide)
  obtain ⟨t1, t2⟩ := OctI.text_parts r.pay t 2000 (by omega) (by omega)
  have m : rMid (rowL r ++ t) = some (txtL r.pay ++ t) := by unfold rMid; rw [e]; exact n2
  refine ⟨?_, ?_, ?_⟩
  · unfold rTim; rw [e]
    have := n1
    simp only [Int.cast_ofNat_Int] at this
    rw [this]; omega
  · unfold rPay; rw [m, t1]
  · unfold rRest; rw [m]; exact t2
/-- What Row wrote of records that may be is read again. -/
theorem rows_read (win : Int) : ∀ (l : List RecR) (i f : Nat), (rowsL l).length ≤ f → (∀ (j : Nat) (r : RecR), l[j]? = some r → r.win = win ∧ r.idx = ((i + j : Nat) : Int) ∧ chkZ r.win r.idx r.tim r.pay = 0) → rowsG win f i (rowsL l) = some l
  | [], i, f, _, _ => rowsG_nil _ _ _
  | r :: t, i, f, hf, h => by
    obtain ⟨e1, e2, hc⟩ := h 0 r rfl
    have hk := chk_ok hc
    obtain ⟨q1, q2, q3⟩ := row_read r (rowsL t) hk.2.2.1.1 hk.2.2.1.2 hk.2.2.2
    rw [rowsL_cons] at hf ⊢
    have hn : rowL r ++ rowsL t ≠ [] := by
      intro e
      have := congrArg List.length e
      rw [rowL] at this
      simp [Oct.putL] at this
    cases f with
    | zero => exact absurd (List.eq_nil_of_length_eq_zero (Nat.le_zero.1 hf)) hn
    | succ f =>
      rw [rowsG_step _ _ _ _ hn, q3]
      simp only
      have e3 : ((i : Nat) : Int) = r.idx := by rw [e2]; simp
      rw [q1, q2, e3, ← e1, if_pos hc, rows_read r.win t (i + 1) f (by
        have := rRest_lt q3
        omega) (fun j x hx => by
        obtain ⟨a, b, c⟩ := h (j + 1) x (by simpa using hx)
        exact ⟨a.trans e1.symm, by rw [b]; omega, c⟩)]
      rfl
/-- What Bytes wrote is read again. -/
theorem bytB_list (win idx tim : Int) (pay : ByteArray) : (bytB win idx tim pay).data.toList = Oct.putL (u64N win) ++ (Oct.putL (u64N idx) ++ rowL ⟨win, idx, tim, pay⟩) := by
  have := rowB_eq ⟨win, idx, tim, pay⟩
  simp only at this
  rw [bytB, this, app_data, app_data, Oct.putB_data, Oct.putB_data, List.append_assoc]
theorem bytes_read (win idx tim : Int) (pay : ByteArray) (h : chkZ win idx tim pay = 0) : readZ (bytB win idx tim pay).data.toList = 0 ∧ readR (bytB win idx tim pay).data.toList = ⟨win, idx, tim, pay⟩ := by
  obtain ⟨⟨a1, a2⟩, ⟨b1, b2⟩, ⟨c1, c2⟩, d⟩ := chk_ok h
  have h1 := u64N_of win a1 a2
  have h2 := u64N_of idx b1 (by omega)
  obtain ⟨n1, n2⟩ := numPut (u64N win) (Oct.putL (u64N idx) ++ rowL ⟨win, idx, tim, pay⟩) 1125899906842624 (by omega) (by decide)
  obtain ⟨m1, m2⟩ := numPut (u64N idx) (rowL ⟨win, idx, tim, pay⟩) 3999 (by omega) (by decide)
  obtain ⟨q1, q2, q3⟩ := row_read ⟨win, idx, tim, pay⟩ [] c1 c2 d
  rw [List.append_nil] at q1 q2 q3
  simp only [Int.cast_ofNat_Int] at n1 n2 m1 m2
  have s1 : recS1 (bytB win idx tim pay).data.toList = some (Oct.putL (u64N idx) ++ rowL ⟨win, idx, tim, pay⟩) := by unfold recS1; rw [bytB_list]; exact n2
  have s2 : recS2 (bytB win idx tim pay).data.toList = some (rowL ⟨win, idx, tim, pay⟩) := by unfold recS2; rw [s1]; exact m2
  have s3 : recS3 (bytB win idx tim pay).data.toList = rMid (rowL ⟨win, idx, tim, pay⟩) := by unfold recS3; rw [s2]; rfl
  have s4 : recS4 (bytB win idx tim pay).data.toList = some [] := by unfold recS4; rw [s3]; exact q3
  have hz : readZ (bytB win idx tim pay).data.toList = 0 := by unfold readZ; rw [s4]; rfl
  refine ⟨hz, ?_⟩
  unfold readR
  rw [if_pos hz, s3, s2, s1, m1]
  rw [show numV (some (bytB win idx tim pay).data.toList) 1125899906842624 = u64N win from by rw [bytB_list]; exact n1]
  have e1 : (u64N win : Int) = win := by omega
  have e2 : (u64N idx : Int) = idx := by omega
  rw [e1, e2]
  have e3 : (numV (some (rowL ⟨win, idx, tim, pay⟩)) 1125899906842624 : Int) = tim := q1
  have e4 : (⟨(textV (rMid (rowL ⟨win, idx, tim, pay⟩)) 2000).toArray⟩ : ByteArray) = pay := q2
  rw [e3, e4]
end Go.Proofs.YtollcdalokhjaaaDoor
/-! ## The statements' awake, short, small (scriniumlaw15). -/
namespace Go.Proofs.YtollcdalokhjaaaDoor
open Go.RowKit

/-- A slice of one record that was just laid. -/
theorem RowR.one (w : World) (win idx tim : Int) (pay : ByteArray) : RowR (w.alloc (.cells #[.int .i64 win, .int .i64 idx, .int .i64 tim, .string pay] 55)) (.slice (some ⟨w.heap.size, 0, none⟩) 1 1) [⟨win, idx, tim, pay⟩] := by
  have h := RecAt.alloc w win idx tim pay
  refine ⟨_, 1, rfl, (show 1 ≤ 9223372036854775807 by decide), fun j r hr => ⟨w.heap.size, 0, rfl, h.lt, ?_⟩⟩
  have hj : j < 1 := (List.getElem?_eq_some_iff.1 hr).1
  obtain rfl : j = 0 := by omega
  simp at hr
  subst hr
  exact ⟨h.c0, h.c1, h.c2, h.c3⟩
end Go.Proofs.YtollcdalokhjaaaDoor
/-! ## Arguments that are records, or slices of records. -/
namespace Go.Proofs.YtollcdalokhjaaaDoor
open Go.ChangeShapes Go.WideShapes Go.ChangeAt Go.RowKit

set_option maxRecDepth 100000 in
theorem rec_cells {H : Type} {enc : TypeId × Value → H} {W : World} {fuel : Nat} {cs : List Value} {x : DataW H × List MemPlace}
    (hf : DataW.trod enc Tryd.prog W 0 (fun _ => true) true fuel 55 cs = some x) : ∃ r : RecR, cs = recCs r ∧ RecOk r := by
  obtain ⟨xs, m, _, _, hl, hxl, hx⟩ := DataW.trod_struct Tryd.underlying55 hf
  have hl4 : cs.length = 4 := hl.trans (by kernel_rfl)
  match cs, hl4 with
  | [c0, c1, c2, c3], _ =>
    have g : ∀ i, i < 4 → ∃ y, xs[i]? = some y := fun i hi => ⟨xs[i]'(by rw [hxl]; exact hi), List.getElem?_eq_getElem _⟩
    obtain ⟨y0, e0⟩ := g 0 (by decide)
    obtain ⟨y1, e1⟩ := g 1 (by decide)
    obtain ⟨y2, e2⟩ := g 2 (by decide)
    obtain ⟨y3, e3⟩ := g 3 (by decide)
    have k0 : Tryd.prog.cellsOf 3 = 1 := by kernel_rfl
    have k3 : Tryd.prog.cellsOf 9 = 1 := by kernel_rfl
    have h0 : DataW.trod enc Tryd.prog W 0 (fun _ => true) true m 3 ([c0, c1, c2, c3].take (Tryd.prog.cellsOf 3)) = some y0 := by rw [← e0]; exact hx 0 _ rfl
    have h1 : DataW.trod enc Tryd.prog W 0 (fun _ => true) true m 3 ([c1, c2, c3].take (Tryd.prog.cellsOf 3)) = some y1 := by rw [← e1]; exact hx 1 _ rfl
    have h2 : DataW.trod enc Tryd.prog W 0 (fun _ => true) true m 3 ([c2, c3].take (Tryd.prog.cellsOf 3)) = some y2 := by rw [← e2]; exact hx 2 _ rfl
    have h3 : DataW.trod enc Tryd.prog W 0 (fun _ => true) true m 9 ([c3].take (Tryd.prog.cellsOf 9)) = some y3 := by rw [← e3]; exact hx 3 _ rfl
    rw [k0] at h0 h1 h2
    rw [k3] at h3
    simp only [List.take_succ_cons, List.take_zero] at h0 h1 h2 h3
    obtain ⟨z0, q0, _, w0⟩ := DataW.trod_int Tryd.underlying3 h0
    obtain ⟨z1, q1, _, w1⟩ := DataW.trod_int Tryd.underlying3 h1
    obtain ⟨z2, q2, _, w2⟩ := DataW.trod_int Tryd.underlying3 h2
    obtain ⟨z3, q3, _, w3⟩ := DataW.trod_string Tryd.underlying9 h3
    injection q0 with q0 _
    injection q1 with q1 _
    injection q2 with q2 _
    injection q3 with q3 _
    subst q0
    subst q1
    subst q2
    subst q3
    exact ⟨⟨z0, z1, z2, z3⟩, rfl, i64_bounds w0, i64_bounds w1, i64_bounds w2, w3⟩
set_option maxRecDepth 1000000 in
/-- A record by value. -/
theorem rec_arg {H : Type} {enc : TypeId × Value → H} {W : World} {r : Reach} {b0 : Nat} {v : Value} {d : DataW H} {ps : List MemPlace} (hv : Value.okWide Tryd.prog W r b0 55 v)
    (h : DataW.Trod enc Tryd.prog W 0 (fun _ => true) true 55 v d ps) : ∃ (win idx tim : Int) (pay : ByteArray), v = .agg #[.int .i64 win, .int .i64 idx, .int .i64 tim, .string pay] ∧ RecOk ⟨win, idx, tim, pay⟩ := by
  obtain ⟨cs, rfl, hsz⟩ := okWide_struct Tryd.underlying55 hv
  obtain ⟨fuel, hf⟩ := h
  obtain ⟨c⟩ := cs
  obtain ⟨⟨win, idx, tim, pay⟩, hc, hok⟩ := rec_cells (cs := c) hf
  subst hc
  exact ⟨win, idx, tim, pay, rfl, hok⟩
theorem add_addR (a : Addr) (i j : Nat) (h : a.spot = none) : (a.add i).add j = ⟨a.block, a.off + (i + j), none⟩ := by
  obtain ⟨b, off, s⟩ := a
  subst h
  rw [Addr.add_mid, Addr.add_mid, Nat.add_assoc]
set_option maxRecDepth 1000000 in
/-- A slice of records. -/
theorem recs_of {H : Type} {enc : TypeId × Value → H} {W : World} {a : Option Addr} {len cap : Nat} {d : DataW H} {ps : List MemPlace}
    (h : DataW.Trod enc Tryd.prog W 0 (fun _ => true) true 58 (.slice a len cap) d ps) : ∃ l, RowR W (.slice a len cap) l ∧ ∀ r ∈ l, RecOk r := by
  obtain ⟨fuel, hf⟩ := h
  have hf' : DataW.trod enc Tryd.prog W 0 (fun _ => true) true fuel 58 [.slice a len cap] = some (d, ps) := by simpa [Value.cells] using hf
  rcases DataW.trod_slice Tryd.underlying58 hf' with ⟨hcs, _⟩ | ⟨a', len', cap', elems, rest, n, _, hcs, _, _, hl, hm, hlen, hel, _, _⟩
  · simp at hcs
    obtain ⟨rfl, rfl, rfl⟩ := hcs
    exact ⟨[], RowR.nil _, fun r hr => by cases hr⟩
  · simp at hcs
    obtain ⟨rfl, rfl, rfl⟩ := hcs
    have k2 : Tryd.prog.cellsOf 55 = 4 := by kernel_rfl
    have each : ∀ i, i < len → ∃ cs, W.cells? 0 (a'.add (i * 4)) 4 = some cs ∧ ∃ y, DataW.trod enc Tryd.prog W 0 (fun _ => true) true n 55 cs = some y := by
      intro i hi
      have := hel i hi
      rw [k2, List.getElem?_eq_getElem (by omega)] at this
      obtain ⟨cs, h1, h2⟩ := Option.bind_eq_some_iff.1 this
      exact ⟨cs, h1, _, h2⟩
    have hplain : 0 < len → ∃ b off, a' = ⟨b, off, none⟩ ∧ b < W.heap.size := by
      intro hp
      obtain ⟨cs, h1, y, h2⟩ := each 0 hp
      have h3 := (World.cells?_some h1).2.2 0 (by decide)
      have hb := World.cells?_block h1 (by decide)
      have e0 : (a'.add (0 * 4)).add 0 = a' := by unfold Addr.add; simp
      rw [e0] at h3
      have e1 : (a'.add (0 * 4)).block = a'.block := by unfold Addr.add; simp
      rw [e1] at hb
      obtain ⟨b, off, spot⟩ := a'
      refine ⟨b, off, ?_, hb⟩
      cases spot with
      | none => rfl
      | some x =>
        obtain ⟨o, rfl, _⟩ := rec_cells h2
        unfold World.cell? at h3
        split at h3 <;> simp_all [recCs]
    have op : ∀ i, i < len → ∃ r : RecR, RecOk r ∧ ∃ b off, a' = ⟨b, off, none⟩ ∧ b < W.heap.size ∧ W.cell? ⟨b, off + i * 4, none⟩ = some (.int .i64 r.win) ∧ W.cell? ⟨b, off + i * 4 + 1, none⟩ = some (.int .i64 r.idx) ∧ W.cell? ⟨b, off + i * 4 + 2, none⟩ = some (.int .i64 r.tim) ∧ W.cell? ⟨b, off + i * 4 + 3, none⟩ = some (.string r.pay) := by
      intro i hi
      obtain ⟨cs, h1, y, h2⟩ := each i hi
      obtain ⟨b, off, rfl, hb⟩ := hplain (by omega)
      obtain ⟨r, rfl, hok⟩ := rec_cells h2
      have t0 := (World.cells?_some h1).2.2 0 (by decide)
      have t1 := (World.cells?_some h1).2.2 1 (by decide)
      have t2 := (World.cells?_some h1).2.2 2 (by decide)
      have t3 := (World.cells?_some h1).2.2 3 (by decide)
      rw [add_addR _ _ _ rfl] at t0 t1 t2 t3
      exact ⟨r, hok, b, off, rfl, hb, t0, t1, t2, t3⟩
    refine ⟨(List.range len).attach.map fun i => Classical.choose (op i.1 (List.mem_range.1 i.2)), ⟨some a', cap, by simp, by simp; unfold maxLen at hm; omega, fun j r hr => ?_⟩, fun r hr => ?_⟩
    · obtain ⟨hj, e⟩ := List.getElem?_eq_some_iff.1 hr
      have hj' : j < len := by simpa using hj
      obtain ⟨hok, b, off, ea, hb, hc⟩ := Classical.choose_spec (op j hj')
      simp only [List.getElem_map, List.getElem_attach, List.getElem_range] at e
      refine ⟨b, off, by rw [ea], hb, ?_⟩
      rw [← e]
      exact hc
    · obtain ⟨i, _, rfl⟩ := List.mem_map.1 hr
      exact (Classical.choose_spec (op i.1 (List.mem_range.1 i.2))).1
end Go.Proofs.YtollcdalokhjaaaDoor
/-! ## Package record: Rows. -/
namespace Go.Proofs.YtollcdalokhjaaaDoor
open Go.RowKit

theorem OwnR.slice {B : Nat} {w : World} {v : Value} {l : List RecR} (h : OwnR B w v l) : ∃ a cap, v = .slice a l.length cap := h.row.slice
theorem Only.newer {b : Nat} {u w w' : World} (h : Only b u w) (k : Below u.heap.size w w') : Only b u w' := h.below_right k (Nat.le_refl _)
/-- append whose run is known, in a region that goes in its own order. -/
theorem wpList_append_run {ops : Array Oper} {rest : List Oper} {o : Oper} {a : Act} {w w' : World} {Q : Exit → Act → World → Prop} (hg : o.guard = none) (s x : Operand) (t : TypeId)
    (hop : o.op = Op.call { callee := Callee.builtin Builtin.append, args := #[s, x], argTypes := #[t, t] }) {v u v' : Value} (hs : a.eval s = v) (hx : a.eval x = u) (hr : (Builtin.append_ #[t, t] o.type #[v, u]).run Tryd.prog w = .ok v' w')
    (hK : wpList Tryd.prog ops Q rest (a.put o.dst v') w') : wpList Tryd.prog ops Q (o :: rest) a w := by
  refine wpList_plain hg fun K hK' => ?_
  unfold Oper.wp execOp
  simp only [hop, resolve, invoke, builtin, Sem.run_bind, Sem.run_pure, Result.andThen_ok, List.map_toArray, List.map_cons, List.map_nil, hs, hx, hr]
  exact hK' _ _ hK
/-- What Rows tells. -/
def RowsPost (B : Nat) (win : Int) (L : List UInt8) (w : World) (e : Ending) (w' : World) : Prop :=
  (∃ (v : Value) (z : Int) (l : List RecR), e = .returned (.tuple #[v, .int .i64 z]) ∧ OwnR B w' v l ∧ ((rowsR win L = some l ∧ z = 0) ∨ (rowsR win L = none ∧ l = [] ∧ v = .slice none 0 0 ∧ z = 10))) ∧ Below B w w'

end Go.Proofs.YtollcdalokhjaaaDoor
/-! ## Rows of records that a statement makes: a record that is built, rows that are put together. -/
namespace Go.Proofs.YtollcdalokhjaaaDoor
open Go.RowKit

section
variable {ops : Array Oper} {Q : Exit → Act → World → Prop} {a : Act} {w w' : World} {K : Act → World → Prop} {o : Oper}
theorem rop_buildR (t : TypeId) (parts : Array (Nat × Operand)) (hop : o.op = .build t parts) (L : List (Nat × Value)) (hL : (parts.map fun (i, x) => (i, a.eval x)).toList = L) {cells : Array Value} (hb : Tryd.prog.built t L = some cells) (hw : Region.wanted o (yielded ops a.tmps) = true) (h : K (a.put o.dst (.agg cells)) w) :
    if Region.wanted o (yielded ops a.tmps) = true then Oper.wp Tryd.prog o a w K Q else K (a.put o.dst undef) w :=
  rop_v hw (by
    have hr := run_build (P := Tryd.prog) w t (parts.map fun (i, x) => (i, a.eval x)) cells (by rw [hL]; exact hb)
    simp [execOp, hop, hr]) h
end
set_option maxRecDepth 1000000 in
theorem built_rec2 (tim : Int) (pay : ByteArray) : Tryd.prog.built 55 [(2, .int .i64 tim), (3, .string pay)] = some #[.int .i64 0, .int .i64 0, .int .i64 tim, .string pay] := by rfl
set_option maxRecDepth 1000000 in
theorem built_rec4 (win idx tim : Int) (pay : ByteArray) : Tryd.prog.built 55 [(0, .int .i64 win), (1, .int .i64 idx), (2, .int .i64 tim), (3, .string pay)] = some #[.int .i64 win, .int .i64 idx, .int .i64 tim, .string pay] := by rfl
set_option maxRecDepth 1000000 in
theorem build_rec1 (win idx tim : Int) (pay : ByteArray) (w : World) : (Instr.buildSlice 58 1 #[(0, .agg #[.int .i64 win, .int .i64 idx, .int .i64 tim, .string pay])]).run Tryd.prog w = .ok (.slice (some ⟨w.heap.size, 0, none⟩) 1 1) (w.alloc (.cells #[.int .i64 win, .int .i64 idx, .int .i64 tim, .string pay] 55)) := by
  go_simp
theorem OwnR.one (w : World) (r : RecR) : OwnR 0 (w.alloc (.cells #[.int .i64 r.win, .int .i64 r.idx, .int .i64 r.tim, .string r.pay] 55)) (.slice (some ⟨w.heap.size, 0, none⟩) 1 1) [r] :=
  ⟨rfl, .inr ⟨w.heap.size, 1, _, rfl, Nat.zero_le _, heap_alloc_last w _, Nat.le_refl 1, by decide, rfl, rfl⟩⟩
/-- A row put behind one of the call's own. -/
theorem rappend_row {B C : Nat} {w : World} {v x : Value} {l m : List RecR} (ty : TypeId) (h : OwnR B w v l) (hx : OwnR C w x m) (hB : B ≤ w.heap.size) (hl : l.length + m.length ≤ 1000000) :
    ∃ v' w', (Builtin.append_ #[58, 58] ty #[v, x]).run Tryd.prog w = .ok v' w' ∧ OwnR B w' v' (l ++ m) ∧ Below B w w' ∧ w.grownBy w' v.ownBlock := by
  obtain ⟨i0, hi, hz0, hz1, hz2⟩ := info_parts info_rec
  have hx' := hx
  obtain ⟨_, hn | ⟨g, cap, cur, rfl, hbg, hg, hnc, hcm, hcs, htake⟩⟩ := hx
  · obtain ⟨rfl, h0⟩ := hn
    obtain rfl : m = [] := List.eq_nil_of_length_eq_zero h0
    exact ⟨v, w, run_append_owned_none w B _ ty _ i0 4 Tryd.underlying58 hi v _ _ h, by rw [List.append_nil]; exact h, Below.refl _ _, World.grownBy.refl _ _⟩
  · obtain ⟨v', w', h1, h2, h3, _⟩ := run_append_own_at (P := Tryd.prog) w B _ ty _ i0 _ 4 40 Tryd.underlying58 hi hz0 hz1 hz2 rfl (by decide) v l.length (recsC l) h ⟨g, 0, none⟩ m.length cap (recsC m) (recsC_length m) (World.ownsRow.cells hx' (g := g) rfl) (recsC_one m) (by unfold maxLen; omega) (by omega) hB
    exact ⟨v', w', h1, by unfold OwnR; rw [List.length_append, recsC_append]; exact h2, rgrown_below h3 hB fun g e => (World.ownsRow.lt h g e).1, h3⟩
theorem pick_some15 {R : Option (List RecR)} {l0 : List RecR} (hR : R = some l0) {l : List RecR} {v : Value} {z : Int} (k : (R = some l ∧ z = 0) ∨ (R = none ∧ l = [] ∧ v = .slice none 0 0 ∧ z = 10)) : l = l0 ∧ z = 0 := by
  rcases k with ⟨e, h⟩ | ⟨e, _, _, _⟩
  · rw [hR] at e; exact ⟨(Option.some.inj e).symm, h⟩
  · rw [hR] at e; cases e
theorem OwnR.zero {B : Nat} {w : World} {v : Value} {l : List RecR} (h : OwnR B w v l) : OwnR 0 w v l := h.lower (Nat.zero_le _)
end Go.Proofs.YtollcdalokhjaaaDoor
