/-
  Package record: a record in memory, its cells; what Check tells, what its bytes are.
-/
import Derived.Test.YtlcljjapeigaeaaDoorMOct
import Derived.Test.YtlcljjapeigaeaaDoorMGen
namespace Go.Proofs.YtlcljjapeigaeaaDoor
open Go.RowKit

/-- A record by plain numbers. -/
structure RecR where
  win : Int
  idx : Int
  tim : Int
  pay : ByteArray
def recCs (r : RecR) : List Value := [.int .i64 r.win, .int .i64 r.idx, .int .i64 r.tim, .string r.pay]
def i64R (z : Int) : Prop := -9223372036854775808 ≤ z ∧ z ≤ 9223372036854775807
structure RecOk (r : RecR) : Prop where
  win : i64R r.win
  idx : i64R r.idx
  tim : i64R r.tim
  pay : r.pay.size ≤ maxLen
/-- What uint64 makes of a number. -/
def u64N (z : Int) : Nat := (z % 18446744073709551616).toNat
theorem u64N_lt (z : Int) : u64N z < 18446744073709551616 := by
  have := Int.emod_lt_of_pos z (show (0 : Int) < 18446744073709551616 by decide)
  have := Int.emod_nonneg z (show (18446744073709551616 : Int) ≠ 0 by decide)
  unfold u64N; omega
theorem u64N_int (z : Int) : z % 18446744073709551616 = (u64N z : Int) := by
  have := Int.emod_nonneg z (show (18446744073709551616 : Int) ≠ 0 by decide)
  unfold u64N; omega
theorem u64N_wrap (z : Int) : IntKind.u64.wrap z = (u64N z : Int) := by rw [IntKind.wrap_u64]; exact u64N_int z
theorem u64N_nat (z : Int) (h : 0 ≤ z) (h2 : z ≤ 9223372036854775807) : (u64N z : Int) = z := by
  rw [← u64N_int]; exact Int.emod_eq_of_lt h (by omega)
/-- A number that may be: from 0 to the most. -/
def mayB (n most : Int) : Bool := decide (0 ≤ n) && decide (n ≤ most)
def chkB (win idx tim : Int) : Bool := mayB win 1125899906842624 && mayB tim 1125899906842624 && mayB idx 3999
/-- What Check tells. -/
def chkZ (win idx tim : Int) (pay : ByteArray) : Int := if chkB win idx tim then (if 2000 < pay.size then 11 else 0) else 1
/-- A record's bytes in a row. -/
def rowB (tim : Int) (pay : ByteArray) : ByteArray := Oct.putB (u64N tim) ++ (Oct.putB pay.size ++ pay)
/-- A record's bytes. -/
def bytB (win idx tim : Int) (pay : ByteArray) : ByteArray := Oct.putB (u64N win) ++ Oct.putB (u64N idx) ++ rowB tim pay
theorem putB_le (n : Nat) (h : n < 18446744073709551616) : (Oct.putB n).size ≤ 9 := by have := Oct.need_le n h; rw [Oct.putB_size]; omega
theorem rowB_size (tim : Int) (pay : ByteArray) (h : pay.size < 18446744073709551616) : (rowB tim pay).size ≤ 18 + pay.size := by
  have h1 := putB_le (u64N tim) (u64N_lt tim)
  have h2 := putB_le pay.size h
  simp only [rowB, ByteArray.size_append]; omega
theorem chk_ok {win idx tim : Int} {pay : ByteArray} (h : chkZ win idx tim pay = 0) : (0 ≤ win ∧ win ≤ 1125899906842624) ∧ (0 ≤ idx ∧ idx ≤ 3999) ∧ (0 ≤ tim ∧ tim ≤ 1125899906842624) ∧ pay.size ≤ 2000 := by
  unfold chkZ at h
  split at h
  · rename_i hc
    split at h
    · simp at h
    · simp only [chkB, mayB, Bool.and_eq_true, decide_eq_true_eq] at hc
      omega
  · simp at h
theorem chk_of {win idx tim : Int} {pay : ByteArray} (h : (0 ≤ win ∧ win ≤ 1125899906842624) ∧ (0 ≤ idx ∧ idx ≤ 3999) ∧ (0 ≤ tim ∧ tim ≤ 1125899906842624) ∧ pay.size ≤ 2000) : chkZ win idx tim pay = 0 := by
  unfold chkZ
  rw [if_pos (by simp only [chkB, mayB, Bool.and_eq_true, decide_eq_true_eq]; omega), if_neg (by omega)]
/-! ### Memory -/
theorem load_intR {b o : Nat} {x : Int} {w : World} (h0 : w.cell? ⟨b, o, none⟩ = some (.int .i64 x)) : (Instr.loadAt 3 (.pointer (some ⟨b, o, none⟩))).run Tryd.prog w = .ok (.int .i64 x) w := by go_simp
theorem load_strR {b o : Nat} {x : ByteArray} {w : World} (h0 : w.cell? ⟨b, o, none⟩ = some (.string x)) : (Instr.loadAt 9 (.pointer (some ⟨b, o, none⟩))).run Tryd.prog w = .ok (.string x) w := by go_simp
theorem conv_u64 (z : Int) (w : World) : (convert 3 64 (.int .i64 z)).run Tryd.prog w = .ok (.int .u64 (u64N z : Int)) w := by
  rw [← u64N_wrap]; go_simp
section
variable {ops : Array Oper} {Q : Exit → Act → World → Prop} {a : Act} {w w' : World} {K : Act → World → Prop} {o : Oper}
theorem rop_convR (t u : TypeId) (x : Operand) (hop : o.op = .convert t u x) {v r : Value} (hx : a.eval x = v) (hr : (convert t u v).run Tryd.prog w = .ok r w) (hw : Region.wanted o (yielded ops a.tmps) = true) (h : K (a.put o.dst r) w) :
    if Region.wanted o (yielded ops a.tmps) = true then Oper.wp Tryd.prog o a w K Q else K (a.put o.dst undef) w :=
  rop_v hw (by simp [execOp, hop, hx, hr]) h
end
end Go.Proofs.YtlcljjapeigaeaaDoor
