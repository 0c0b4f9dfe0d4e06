/-
  Plain mathematics: the bytes of two numbers are in the order of the numbers.
-/
import Derived.Test.YtkoojbbimjjndaaOctPure
namespace Go.Proofs.Ytkoojbbimjjndaa.Oct
open Go

theorem be_mod (n k : Nat) : ∀ j, j ≤ k → be (n % 256 ^ k) j = be n j
  | 0, _ => rfl
  | j + 1, h => by
    simp only [be]
    rw [be_mod n k j (by omega)]
    congr 1
    have e : 256 ^ k = 256 ^ j * (256 * 256 ^ (k - 1 - j)) := by
      rw [← Nat.pow_succ', ← Nat.pow_add]; congr 1; omega
    rw [e, Nat.mod_mul_right_div_self]
    apply UInt8.toNat_inj.1
    simp only [UInt8.toNat_ofNat']
    exact Nat.mod_mul_right_mod _ _ _

theorem ofNat_lt {a b : Nat} (ha : a < 256) (hb : b < 256) : (UInt8.ofNat a < UInt8.ofNat b) ↔ a < b := by
  rw [UInt8.lt_iff_toNat_lt]
  simp only [UInt8.toNat_ofNat']
  rw [Nat.mod_eq_of_lt ha, Nat.mod_eq_of_lt hb]

theorem ofNat_eq {a b : Nat} (ha : a < 256) (hb : b < 256) : (UInt8.ofNat a = UInt8.ofNat b) ↔ a = b := by
  rw [← UInt8.toNat_inj]
  simp only [UInt8.toNat_ofNat']
  rw [Nat.mod_eq_of_lt ha, Nat.mod_eq_of_lt hb]

theorem be_less : ∀ (k a b : Nat), a < 256 ^ k → b < 256 ^ k → Op.bytesLess (be a k) (be b k) = decide (a < b)
  | 0, a, b, ha, hb => by
    have : a = 0 := by simpa using ha
    have : b = 0 := by simpa using hb
    subst a b
    rfl
  | k + 1, a, b, ha, hb => by
    have hp : 0 < 256 ^ k := Nat.pow_pos (by decide)
    have qa : a / 256 ^ k < 256 := by rw [Nat.div_lt_iff_lt_mul hp, Nat.mul_comm]; exact ha
    have qb : b / 256 ^ k < 256 := by rw [Nat.div_lt_iff_lt_mul hp, Nat.mul_comm]; exact hb
    have ih := be_less k (a % 256 ^ k) (b % 256 ^ k) (Nat.mod_lt _ hp) (Nat.mod_lt _ hp)
    rw [be_mod a k k (Nat.le_refl _), be_mod b k k (Nat.le_refl _)] at ih
    simp only [be, Op.bytesLess, ih]
    have ea := Nat.div_add_mod a (256 ^ k)
    have eb := Nat.div_add_mod b (256 ^ k)
    have ra := Nat.mod_lt a hp
    have rb := Nat.mod_lt b hp
    rw [Bool.eq_iff_iff]
    simp only [Bool.or_eq_true, Bool.and_eq_true, decide_eq_true_eq, beq_iff_eq, ofNat_lt qa qb, ofNat_eq qa qb]
    generalize 256 ^ k = m at *
    generalize a / m = q at *
    generalize b / m = q' at *
    generalize a % m = r at *
    generalize b % m = r' at *
    constructor
    · rintro (h | ⟨h, h'⟩)
      · have : m * (q + 1) ≤ m * q' := Nat.mul_le_mul_left _ h
        rw [Nat.mul_add] at this
        omega
      · subst h; omega
    · intro h
      by_cases hq : q < q'
      · exact Or.inl hq
      · right
        have : q = q' := by
          apply Nat.le_antisymm _ (by omega)
          apply Nat.le_of_not_lt
          intro h'
          have : m * (q' + 1) ≤ m * q := Nat.mul_le_mul_left _ h'
          rw [Nat.mul_add] at this
          omega
        subst this
        exact ⟨rfl, by omega⟩

theorem putB_toList (n : Nat) : (putB n).toList = putL n := by rw [Lib.toList_data]; rfl

theorem need_mono {a b : Nat} (ha : a < 18446744073709551616) (hb : b < 18446744073709551616) (h : need a < need b) : a < b := by
  have h0 : b ≠ 0 := by intro e; subst e; rw [need_zero] at h; omega
  have h1 := lt_need a ha
  have h2 := le_need b hb h0
  have h3 : 256 ^ need a ≤ 256 ^ (need b - 1) := Nat.pow_le_pow_right (by decide) (by omega)
  omega

theorem put_less (a b : Nat) (ha : a < 18446744073709551616) (hb : b < 18446744073709551616) :
    Op.bytesLess (putB a).toList (putB b).toList = decide (a < b) := by
  rw [putB_toList, putB_toList, putL, putL]
  have na := need_le a ha
  have nb := need_le b hb
  simp only [Op.bytesLess]
  by_cases h : need a = need b
  · have := be_less (need b) a b (h ▸ lt_need a ha) (lt_need b hb)
    rw [h, this]
    simp
  · have hlt : (UInt8.ofNat (need a) < UInt8.ofNat (need b)) ↔ need a < need b := ofNat_lt (by omega) (by omega)
    have hne : (UInt8.ofNat (need a) == UInt8.ofNat (need b)) = false := by
      rw [beq_eq_false_iff_ne]; intro e; exact h ((ofNat_eq (by omega) (by omega)).1 e)
    rw [hne, Bool.false_and, Bool.or_false, Bool.eq_iff_iff]
    simp only [decide_eq_true_eq, hlt]
    constructor
    · exact need_mono ha hb
    · intro hab
      by_cases h' : need a < need b
      · exact h'
      · have := need_mono hb ha (by omega)
        omega

end Go.Proofs.Ytkoojbbimjjndaa.Oct
