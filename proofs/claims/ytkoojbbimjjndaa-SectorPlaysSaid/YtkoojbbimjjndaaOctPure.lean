/-
  Plain mathematics of package octet: numbers as bytes, the greatest first. No walk, no program.
-/
import Derived.Lib.BitFns
import Derived.Lib.ItoaNum
import Derived.Lib.UnsafeStr
import Derived.Lib.Strings
import Derived.Laws.BitsAllLaws
namespace Go.Proofs.Ytkoojbbimjjndaa.Oct
open Go

/-- The last k bytes of n, the greatest first. -/
def be (n : Nat) : Nat → List UInt8
  | 0 => []
  | k + 1 => UInt8.ofNat (n / 256 ^ k) :: be n k
/-- How many bytes n needs. -/
def need (n : Nat) : Nat := (Lib.bitLen n + 7) / 8
/-- What Put tells of n. -/
def putL (n : Nat) : List UInt8 := UInt8.ofNat (need n) :: be n (need n)
def putB (n : Nat) : ByteArray := ⟨(putL n).toArray⟩

theorem be_length (n k : Nat) : (be n k).length = k := by
  induction k with
  | zero => rfl
  | succ k ih => simp [be, ih]

theorem pow_256 (k : Nat) : (256 : Nat) ^ k = 2 ^ (8 * k) := by rw [Nat.pow_mul]

theorem bit_bounds (n : Nat) (h : n < 18446744073709551616) (h0 : n ≠ 0) : 1 ≤ Lib.bitLen n ∧ 2 ^ (Lib.bitLen n - 1) ≤ n ∧ n < 2 ^ Lib.bitLen n :=
  Lib.bitLenAux_bounds 64 n h h0

theorem bitLen_zero : Lib.bitLen 0 = 0 := by decide
theorem need_zero : need 0 = 0 := by decide
theorem bitLen_le64 (n : Nat) (h : n < 18446744073709551616) : Lib.bitLen n ≤ 64 := Lib.bitLen_le n 64 (Nat.le_refl _) h
theorem need_le (n : Nat) (h : n < 18446744073709551616) : need n ≤ 8 := by
  have := bitLen_le64 n h
  unfold need; omega

theorem lt_need (n : Nat) (h : n < 18446744073709551616) : n < 256 ^ need n := by
  by_cases h0 : n = 0
  · subst h0; rw [need_zero]; decide
  · obtain ⟨_, _, h3⟩ := bit_bounds n h h0
    refine Nat.lt_of_lt_of_le h3 ?_
    rw [pow_256]
    exact Nat.pow_le_pow_right (by decide) (by unfold need; omega)

theorem need_pos (n : Nat) (h : n < 18446744073709551616) (h0 : n ≠ 0) : 1 ≤ need n := by
  obtain ⟨h1, _, _⟩ := bit_bounds n h h0
  unfold need; omega

theorem le_need (n : Nat) (h : n < 18446744073709551616) (h0 : n ≠ 0) : 256 ^ (need n - 1) ≤ n := by
  obtain ⟨h1, h2, _⟩ := bit_bounds n h h0
  refine Nat.le_trans ?_ h2
  rw [pow_256]
  exact Nat.pow_le_pow_right (by decide) (by unfold need; omega)

theorem putL_length (n : Nat) : (putL n).length = 1 + need n := by simp [putL, be_length]; omega
theorem putB_size (n : Nat) : (putB n).size = 1 + need n := by
  show (putL n).toArray.size = _
  rw [List.size_toArray, putL_length]

theorem be_get (n : Nat) : ∀ (m k : Nat), k < m → (be n m)[k]? = some (UInt8.ofNat (n / 256 ^ (m - 1 - k)))
  | 0, k, h => by omega
  | m + 1, 0, _ => by simp [be]
  | m + 1, k + 1, h => by
    have e : m + 1 - 1 - (k + 1) = m - 1 - k := by omega
    rw [e, be, List.getElem?_cons_succ]
    exact be_get n m k (by omega)

theorem putL_take1 (n : Nat) (h : n < 18446744073709551616) : Lib.byteCells ((putL n).take 1) = [.int .u8 (need n : Int)] := by
  have := need_le n h
  simp [putL, Lib.byteCells]
  omega

theorem putL_step (n k : Nat) (hk : k < need n) :
    Lib.byteCells ((putL n).take (1 + k + 1)) = Lib.byteCells ((putL n).take (1 + k)) ++ [.int .u8 ((n : Int) / 2 ^ (8 * (need n - 1 - k)) % 256)] := by
  have hg : (putL n)[1 + k]? = some (UInt8.ofNat (n / 256 ^ (need n - 1 - k))) := by
    rw [Nat.add_comm 1 k, putL, List.getElem?_cons_succ]
    exact be_get n _ _ hk
  have hl : 1 + k < (putL n).length := by rw [putL_length]; omega
  rw [List.take_succ_eq_append_getElem hl]
  have hv := (List.getElem?_eq_some_iff.1 hg).2
  rw [hv]
  simp [Lib.byteCells, pow_256]

/-- The number that bytes are, the greatest first. -/
def val (l : List UInt8) : Nat := l.foldl (fun n b => n * 256 + b.toNat) 0

theorem val_snoc (l : List UInt8) (b : UInt8) : val (l ++ [b]) = val l * 256 + b.toNat := by simp [val]

theorem val_lt : ∀ (k : Nat) (l : List UInt8), l.length = k → val l < 256 ^ k
  | 0, l, h => by have : l = [] := List.eq_nil_of_length_eq_zero h; subst this; decide
  | k + 1, l, h => by
    have hne : l ≠ [] := by intro e; subst e; simp at h
    have e := List.dropLast_concat_getLast hne
    rw [← e, val_snoc, Nat.pow_succ]
    have ih := val_lt k l.dropLast (by simp [h])
    have := (l.getLast hne).toNat_lt
    omega

/-- What stands at the beginning of l: a number, and how many bytes it has; none, if the first byte is above 8, bytes are missing, or the first one of the number's is 0. -/
def num? (l : List UInt8) : Option (Nat × Nat) :=
  match l with
  | [] => none
  | b :: r => if 8 < b.toNat ∨ r.length < b.toNat ∨ (0 < b.toNat ∧ r.headD 0 = 0) then none else some (val (r.take b.toNat), 1 + b.toNat)

theorem or_byte (n b : Nat) (hn : n < 72057594037927936) (hb : b < 256) : Go.bits .or .u64 ((n : Int) * 256) (b : Int) = ((n * 256 + b : Nat) : Int) := by
  have e : ((n : Int) * 256) = ((n * 256 : Nat) : Int) := by simp
  rw [e, u64_or_nat _ _ (by omega) (by omega)]
  congr 1
  have := Nat.two_pow_add_eq_or_of_lt (i := 8) (b := b) hb n
  rw [Nat.mul_comm n 256]
  exact this.symm

theorem get_data (s : ByteArray) (i : Nat) (h : i < s.size) : s.data.toList[i]? = some s[i] := by
  rw [List.getElem?_eq_some_iff]
  exact ⟨by rw [← Lib.size_eq]; exact h, rfl⟩

/-- A text that is not empty, its bytes taken apart. -/
theorem cons_data (s : ByteArray) (h : 0 < s.size) : s.data.toList = s[0] :: s.data.toList.drop 1 := by
  have := get_data s 0 h
  cases hl : s.data.toList with
  | nil => rw [hl] at this; cases this
  | cons b r => rw [hl] at this; simp at this; simp [this]

theorem tail_step (s : ByteArray) (k : Nat) (h : 1 + k < s.size) : (s.data.toList.drop 1).take (k + 1) = (s.data.toList.drop 1).take k ++ [s[1 + k]] := by
  have hl : k < (s.data.toList.drop 1).length := by rw [List.length_drop, ← Lib.size_eq]; omega
  rw [List.take_succ_eq_append_getElem hl]
  congr 2
  rw [List.getElem_drop]
  rfl

theorem tail_length (s : ByteArray) : (s.data.toList.drop 1).length = s.size - 1 := by rw [List.length_drop, ← Lib.size_eq]

theorem tail_head (s : ByteArray) (h : 1 < s.size) : (s.data.toList.drop 1).headD 0 = s[1] := by
  have e := tail_step s 0 (by omega)
  cases hd : s.data.toList.drop 1 with
  | nil => rw [hd] at e; simp at e
  | cons b r => rw [hd] at e; simp at e; simp [e]

theorem num_empty (s : ByteArray) (h : s.size = 0) : num? s.data.toList = none := by
  have : s.data.toList = [] := List.eq_nil_of_length_eq_zero (by rw [← Lib.size_eq]; exact h)
  rw [this]; rfl

theorem num_eq (s : ByteArray) (h : 0 < s.size) : num? s.data.toList =
    if 8 < s[0].toNat ∨ s.size - 1 < s[0].toNat ∨ (0 < s[0].toNat ∧ (s.data.toList.drop 1).headD 0 = 0) then none else some (val ((s.data.toList.drop 1).take s[0].toNat), 1 + s[0].toNat) := by
  have e := cons_data s h
  rw [e]
  simp only [num?]
  rw [tail_length, ← e]

end Go.Proofs.Ytkoojbbimjjndaa.Oct
