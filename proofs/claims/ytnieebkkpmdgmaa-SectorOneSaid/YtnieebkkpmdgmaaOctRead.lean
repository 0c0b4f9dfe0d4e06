/-
  Package octet: Long and Num of what was put.
-/
import Derived.Test.YtnieebkkpmdgmaaOctText
namespace Go.Proofs.Ytnieebkkpmdgmaa
open Go.RowKit

theorem longV_put (n : Nat) (h : n < 18446744073709551616) (r : List UInt8) : longV (some (Oct.putL n ++ r)) = n := by simp [longV, Oct.num_put n h r]
theorem longS_put (n : Nat) (h : n < 18446744073709551616) (r : List UInt8) : longS (some (Oct.putL n ++ r)) = some r := by simp [longS, Oct.num_put n h r, Oct.drop_put]
theorem numV_put (n : Nat) (h : n < 18446744073709551616) (r : List UInt8) (most : Int) (hm : ¬ (most < 0 ∨ most < n)) : numV (some (Oct.putL n ++ r)) most = n := by
  unfold numV; rw [longV_put n h r, if_neg hm]
theorem numS_put (n : Nat) (h : n < 18446744073709551616) (r : List UInt8) (most : Int) (hm : ¬ (most < 0 ∨ most < n)) : numS (some (Oct.putL n ++ r)) most = some r := by
  unfold numS; rw [longV_put n h r, if_neg hm, longS_put n h r]
theorem num_bad (n : Nat) (h : n < 18446744073709551616) (r : List UInt8) (most : Int) (hm : most < 0 ∨ most < n) : numV (some (Oct.putL n ++ r)) most = 0 ∧ numS (some (Oct.putL n ++ r)) most = none := by
  unfold numV numS; rw [longV_put n h r, if_pos hm, if_pos hm]; exact ⟨rfl, rfl⟩

theorem putL_le (n : Nat) (h : n < 18446744073709551616) : (Oct.putL n).length ≤ 9 := by have := Oct.need_le n h; rw [Oct.putL_length]; omega

theorem textPut_any (s : ByteArray) (w : World) (hs : s.size ≤ 1099511627776) :
    Calls Try.prog 36 #[.string s] w fun e w' => e = .returned (.string (Oct.putB s.size ++ s)) ∧ Below w.heap.size w w' := by
  have hp : (Oct.putB s.size).size ≤ 9 := by have := Oct.need_le s.size (by omega); rw [Oct.putB_size]; omega
  go_enter Try.func36, Try.ntmps36
  go_wp2_with (go_at_call 51; refine (put_any _ _ (by omega)).mono ?_; rintro e w' ⟨rfl, hb⟩)
  go_ret
  exact ⟨rfl, hb⟩

end Go.Proofs.Ytnieebkkpmdgmaa
