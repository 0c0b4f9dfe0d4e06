/-
  Plain mathematics: what was put is read again, and what stands behind it is left.
-/
import Derived.Test.YtkoojbbimjjndaaOctPure
import Derived.Test.YtkoojbbimjjndaaOctLess
namespace Go.Proofs.Ytkoojbbimjjndaa.Oct
open Go

theorem val_cons_acc (l : List UInt8) : ∀ a : Nat, l.foldl (fun n b => n * 256 + b.toNat) a = a * 256 ^ l.length + val l := by
  induction l with
  | nil => intro a; simp [val]
  | cons b r ih =>
    intro a
    simp only [List.foldl_cons, List.length_cons, val]
    rw [ih, ih (0 * 256 + b.toNat), Nat.pow_succ]
    rw [Nat.add_mul, Nat.mul_assoc, Nat.mul_comm 256]
    simp
    omega

theorem val_cons (b : UInt8) (l : List UInt8) : val (b :: l) = b.toNat * 256 ^ l.length + val l := by
  show (b :: l).foldl (fun n b => n * 256 + b.toNat) 0 = _
  rw [List.foldl_cons, val_cons_acc]
  simp

theorem val_be (n : Nat) : ∀ k, val (be n k) = n % 256 ^ k
  | 0 => by simp [be, val, Nat.mod_one]
  | k + 1 => by
    rw [be, val_cons, be_length, val_be n k, Nat.mod_pow_succ]
    simp only [UInt8.toNat_ofNat']
    rw [Nat.mul_comm, Nat.add_comm]

theorem val_be_need (n : Nat) (h : n < 18446744073709551616) : val (be n (need n)) = n := by
  rw [val_be, Nat.mod_eq_of_lt (lt_need n h)]

theorem be_head (n : Nat) (h : n < 18446744073709551616) (h0 : 0 < need n) (r : List UInt8) : (be n (need n) ++ r).headD 0 ≠ 0 := by
  have hn : n ≠ 0 := by intro e; subst e; rw [need_zero] at h0; omega
  obtain ⟨k, hk⟩ : ∃ k, need n = k + 1 := ⟨need n - 1, by omega⟩
  have h1 := le_need n h hn
  have h2 := lt_need n h
  rw [hk] at h1 h2 ⊢
  simp only [be, List.cons_append, List.headD_cons]
  intro e
  have e' := congrArg UInt8.toNat e
  simp only [UInt8.toNat_ofNat', UInt8.toNat_zero] at e'
  have hp : 0 < 256 ^ k := Nat.pow_pos (by decide)
  have q1 : n / 256 ^ k < 256 := by rw [Nat.div_lt_iff_lt_mul hp, Nat.mul_comm, ← Nat.pow_succ]; exact h2
  have q2 : 1 ≤ n / 256 ^ k := by rw [Nat.le_div_iff_mul_le hp]; simpa using h1
  rw [Nat.mod_eq_of_lt q1] at e'
  omega

theorem need_byte (n : Nat) (h : n < 18446744073709551616) : (UInt8.ofNat (need n)).toNat = need n := by
  have := need_le n h
  simp only [UInt8.toNat_ofNat']
  omega

/-- What was put is read. -/
theorem num_put (n : Nat) (h : n < 18446744073709551616) (r : List UInt8) : num? (putL n ++ r) = some (n, 1 + need n) := by
  have hn := need_le n h
  have hb := need_byte n h
  rw [putL, List.cons_append]
  simp only [num?]
  rw [hb, if_neg]
  · rw [List.take_append_of_le_length (by rw [be_length]; exact Nat.le_refl _), List.take_of_length_le (by rw [be_length]; exact Nat.le_refl _), val_be_need n h]
  · rintro (h1 | h1 | ⟨h1, h2⟩)
    · omega
    · rw [List.length_append, be_length] at h1; omega
    · exact be_head n h h1 r h2

theorem drop_put (n : Nat) (r : List UInt8) : (putL n ++ r).drop (1 + need n) = r := by
  rw [← putL_length n, List.drop_left]

theorem putB_data (n : Nat) : (putB n).data.toList = putL n := rfl

end Go.Proofs.Ytkoojbbimjjndaa.Oct
