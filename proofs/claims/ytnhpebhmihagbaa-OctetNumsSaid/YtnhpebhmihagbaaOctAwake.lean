/-
  Package octet: what Text (of a text) tells; the statements' own helper awake answers true.
-/
import Derived.Test.YtnhpebhmihagbaaProg
import Derived.Test.YtnhpebhmihagbaaOctLong
namespace Go.Proofs.Ytnhpebhmihagbaa
open Go.RowKit

theorem putL_len (n : Nat) (h : n < 18446744073709551616) : (Oct.putL n).length ≤ 9 := by have := Oct.need_le n h; rw [Oct.putL_length]; omega

theorem below_step {B : Nat} {w u v : World} (h : Below B w u) (hB : B ≤ w.heap.size) (k : Below u.heap.size u v) : Below B w v := h.trans (k.mono (Nat.le_trans hB h.size))

theorem textPut_any (s : ByteArray) (w : World) (hs : s.size ≤ 1099511627776) :
    Calls Try.prog 17 #[.string s] w fun e w' => e = .returned (.string (Oct.putB s.size ++ s)) ∧ Below w.heap.size w w' := by
  have hp : (Oct.putB s.size).size ≤ 9 := by have := Oct.need_le s.size (by omega); rw [Oct.putB_size]; omega
  go_enter Try.func17, Try.ntmps17
  go_wp2_with (go_at_call 14; refine (put_any _ _ (by omega)).mono ?_; rintro e w' ⟨rfl, hb⟩)
  go_ret
  exact ⟨rfl, hb⟩

theorem put_0 (w : World) : Calls Try.prog 14 #[.int .u64 0] w fun e w' => e = .returned (.string ⟨#[0]⟩) ∧ Below w.heap.size w w' := put_any 0 w (by decide)
theorem put_258 (w : World) : Calls Try.prog 14 #[.int .u64 258] w fun e w' => e = .returned (.string ⟨#[2, 1, 2]⟩) ∧ Below w.heap.size w w' := put_any 258 w (by decide)
theorem text_ab (w : World) : Calls Try.prog 17 #[.string ⟨#[97, 98]⟩] w fun e w' => e = .returned (.string ⟨#[1, 2, 97, 98]⟩) ∧ Below w.heap.size w w' := textPut_any ⟨#[97, 98]⟩ w (by decide)

set_option maxHeartbeats 800000 in
theorem awake_any (w : World) : Calls Try.prog 11 #[] w fun e w' => e = .returned (.bool true) ∧ Below w.heap.size w w' := by
  have hr := fun w => read_any [2, 0, 7] w (by decide)
  have hn : Oct.num? [2, 0, 7] = none := by decide
  have HN := Lib.hid hn
  have HR := Lib.hid hr
  clear hn hr
  go_enter Try.func11, Try.ntmps11
  go_wp2_with (first
    | (go_at_call 21; refine (HR.out _).mono ?_; rintro e w1 ⟨rfl, h1, b1⟩)
    | (go_at_call 22; refine (long_none _ _ _ h1 HN.out).mono ?_; rintro e w2 ⟨rfl, h2, o2⟩; have b2 := o2.below (Nat.le_refl _) b1.size)
    | (go_at_call 14; first | ((with_reducible refine (put_0 _).mono ?_); rintro e w3 ⟨rfl, b3⟩) | ((with_reducible refine (put_258 _).mono ?_); rintro e w4 ⟨rfl, b4⟩))
    | (go_at_call 17; refine (text_ab _).mono ?_; rintro e w5 ⟨rfl, b5⟩; have h5 := ((h2.kept (Only.of_below (b := w5.heap.size) b3) (by have := h2.lt; have := b3.size; have := b4.size; have := b5.size; omega)).kept (Only.of_below (b := w5.heap.size) b4) (by have := h2.lt; have := b3.size; have := b4.size; have := b5.size; omega)).kept (Only.of_below (b := w5.heap.size) b5) (by have := h2.lt; have := b3.size; have := b4.size; have := b5.size; omega))
    | (go_at_call 34; refine (end_any _ _ _ h5).mono ?_; rintro e w6 ⟨rfl, rfl⟩))
  go_ret
  refine ⟨?_, below_step (below_step (below_step (b1.trans b2) (Nat.le_refl _) b3) (Nat.le_refl _) b4) (Nat.le_refl _) b5⟩
  first | rfl | decide
end Go.Proofs.Ytnhpebhmihagbaa
