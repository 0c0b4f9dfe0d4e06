/-
  Plain mathematics of SHA-256: a text's blocks, what stands behind a text, the hash of a text, digits. No walk, no program.
-/
import Derived.Test.YtgiakpnkidblpaaDoorShaPure
namespace Go.Proofs.YtgiakpnkidblpaaDoor.Sha
open Go

/-- The number of which these are the bytes, the greatest first. -/
def val (l : List UInt8) : Nat := l.foldl (fun a x => a * 256 + x.toNat) 0
theorem val_nil : val [] = 0 := rfl
theorem val_snoc (l : List UInt8) (x : UInt8) : val (l ++ [x]) = val l * 256 + x.toNat := by simp [val]
theorem foldl_lt (l : List UInt8) : ∀ a k : Nat, a < 256 ^ k → l.foldl (fun a x => a * 256 + x.toNat) a < 256 ^ (k + l.length) := by
  induction l with
  | nil => intro a k h; exact h
  | cons x l ih =>
    intro a k h
    have hx : x.toNat < 256 := x.toNat_lt
    have := ih (a * 256 + x.toNat) (k + 1) (by rw [Nat.pow_succ]; omega)
    simp only [List.foldl_cons, List.length_cons]
    rw [show k + (l.length + 1) = k + 1 + l.length by omega]
    exact this
theorem val_lt (l : List UInt8) : val l < 256 ^ l.length := by
  have := foldl_lt l 0 0 (by decide)
  rwa [Nat.zero_add] at this

/-- What of number j of a block is there behind its first i bytes. -/
def part (b : List UInt8) (i j : Nat) : Nat := val ((b.drop (4 * j)).take (min i (4 * j + 4) - 4 * j))
def parts (b : List UInt8) (i : Nat) : List Nat := (List.range 16).map (part b i)
/-- The numbers of a block of 64 bytes. -/
def words (b : List UInt8) : List Nat := (List.range 16).map fun j => val ((b.drop (4 * j)).take 4)

theorem parts_zero (b : List UInt8) : parts b 0 = [0, 0, 0, 0, 0, 0, 0, 0, 0, 0, 0, 0, 0, 0, 0, 0] := by
  have h : ∀ j, part b 0 j = 0 := fun j => by simp [part, val]
  simp [parts, h, List.range, List.range.loop]
theorem parts_length (b : List UInt8) (i : Nat) : (parts b i).length = 16 := by simp [parts]
theorem words_length (b : List UInt8) : (words b).length = 16 := by simp [words]
theorem parts_all (b : List UInt8) : parts b 64 = words b := by
  unfold parts words
  apply List.map_congr_left
  intro j hj
  have : j < 16 := List.mem_range.1 hj
  unfold part
  rw [show min 64 (4 * j + 4) - 4 * j = 4 by omega]
theorem parts_getD (b : List UInt8) (i j : Nat) (h : j < 16) : (parts b i).getD j 0 = part b i j := by
  simp [parts, h]
theorem part_lt (b : List UInt8) (i j : Nat) : part b i j < 4294967296 := by
  unfold part
  refine Nat.lt_of_lt_of_le (val_lt _) ?_
  have : ((b.drop (4 * j)).take (min i (4 * j + 4) - 4 * j)).length ≤ 4 := by rw [List.length_take]; omega
  exact Nat.le_trans (Nat.pow_le_pow_right (by decide) this) (by decide)
theorem parts_lt (b : List UInt8) (i : Nat) : ∀ x ∈ parts b i, x < 4294967296 := by
  intro x hx
  obtain ⟨j, _, rfl⟩ := List.mem_map.1 hx
  exact part_lt b i j
theorem words_lt (b : List UInt8) : ∀ x ∈ words b, x < 4294967296 := by rw [← parts_all]; exact parts_lt b 64
theorem part_small (b : List UInt8) (i : Nat) : part b i (i / 4) < 16777216 := by
  unfold part
  refine Nat.lt_of_lt_of_le (val_lt _) ?_
  have : ((b.drop (4 * (i / 4))).take (min i (4 * (i / 4) + 4) - 4 * (i / 4))).length ≤ 3 := by rw [List.length_take]; omega
  exact Nat.le_trans (Nat.pow_le_pow_right (by decide) this) (by decide)
theorem part_step (b : List UInt8) (i : Nat) (h : i < b.length) : part b (i + 1) (i / 4) = part b i (i / 4) * 256 + (b.getD i 0).toNat := by
  unfold part
  rw [show min (i + 1) (4 * (i / 4) + 4) - 4 * (i / 4) = (min i (4 * (i / 4) + 4) - 4 * (i / 4)) + 1 by omega, List.take_succ_eq_append_getElem (by rw [List.length_drop]; omega), val_snoc]
  congr 2
  rw [List.getElem_drop]
  have : 4 * (i / 4) + (min i (4 * (i / 4) + 4) - 4 * (i / 4)) = i := by omega
  simp [this, h]
theorem part_far (b : List UInt8) (i j : Nat) (h : j ≠ i / 4) : part b (i + 1) j = part b i j := by
  unfold part
  rw [show min (i + 1) (4 * j + 4) - 4 * j = min i (4 * j + 4) - 4 * j by omega]
theorem parts_step (b : List UInt8) (i : Nat) (h : i < b.length) (h64 : i < 64) : (parts b i).set (i / 4) ((parts b i).getD (i / 4) 0 * 256 + (b.getD i 0).toNat) = parts b (i + 1) := by
  apply List.ext_getElem?
  intro j
  rw [List.getElem?_set, parts_getD b i _ (by omega), ← part_step b i h]
  by_cases e : i / 4 = j
  · subst e
    have : i / 4 < 16 := by omega
    simp [parts, this]
  · rw [if_neg e]
    by_cases hj : j < 16
    · simp [parts, hj, part_far b i j (fun x => e x.symm)]
    · rw [List.getElem?_eq_none (by rw [parts_length]; omega), List.getElem?_eq_none (by rw [parts_length]; omega)]
theorem or_byte (a x : Nat) (ha : a < 16777216) (hx : x < 256) : a * 256 % 4294967296 ||| x = a * 256 + x := by
  have := Nat.two_pow_add_eq_or_of_lt (i := 8) (by simpa using hx : x < 2 ^ 8) a
  rw [Nat.mod_eq_of_lt (by omega), Nat.mul_comm a 256]
  exact this.symm

/-- The state behind the first k blocks of a text. -/
def run (v : V) : Nat → List UInt8 → V
  | 0, _ => v
  | k + 1, s => run (step v (words (s.take 64))) k (s.drop 64)
theorem run_snoc (k : Nat) : ∀ (v : V) (s : List UInt8), run v (k + 1) s = step (run v k s) (words ((s.drop (64 * k)).take 64)) := by
  induction k with
  | zero => intro v s; rfl
  | succ k ih =>
    intro v s
    rw [run, ih, run, List.drop_drop, show 64 + 64 * k = 64 * (k + 1) by omega]
theorem run_prefix (k : Nat) : ∀ (v : V) (s t : List UInt8), 64 * k ≤ s.length → run v k (s ++ t) = run v k s := by
  induction k with
  | zero => intro v s t _; rfl
  | succ k ih =>
    intro v s t h
    rw [run, run, List.take_append_of_le_length (by omega), List.drop_append_of_le_length (by omega), ih _ _ _ (by rw [List.length_drop]; omega)]
theorem run_ok (k : Nat) : ∀ (v : V) (s : List UInt8), v.ok → (run v k s).ok := by
  induction k with
  | zero => intro v s h; exact h
  | succ k ih => intro v s _; exact ih _ _ (step_ok _ _)

/-- The eight bytes of a number, the greatest first. -/
def be8 (n : Nat) : List UInt8 := (List.range 8).map fun i => UInt8.ofNat (n / 2 ^ (56 - 8 * i))
def zeros (n : Nat) : Nat := (119 - n % 64) % 64
/-- What stands behind a text of n bytes. -/
def endL (n : Nat) : List UInt8 := 128 :: (List.replicate (zeros n) 0 ++ be8 (8 * n))
theorem be8_length (n : Nat) : (be8 n).length = 8 := by simp [be8]
theorem endL_length (n : Nat) : (endL n).length = zeros n + 9 := by simp [endL, be8_length]
theorem endL_mod (n : Nat) : (n + (endL n).length) % 64 = 0 := by rw [endL_length]; unfold zeros; omega

def bytes4 (x : Nat) : List UInt8 := [UInt8.ofNat (x / 16777216), UInt8.ofNat (x / 65536), UInt8.ofNat (x / 256), UInt8.ofNat x]
def V.bytes (v : V) : List UInt8 := v.list.flatMap bytes4
theorem bytes_length (v : V) : v.bytes.length = 32 := by simp [V.bytes, V.list, bytes4]
/-- The text with what stands behind it. -/
def full (s : List UInt8) : List UInt8 := s ++ endL s.length
theorem full_mod (s : List UInt8) : (full s).length % 64 = 0 := by unfold full; rw [List.length_append]; exact endL_mod _
theorem full_pos (s : List UInt8) : 64 ≤ (full s).length := by
  have h := full_mod s
  have : 9 ≤ (full s).length := by unfold full; rw [List.length_append, endL_length]; omega
  omega
/-- THE HASH OF A TEXT. -/
def digest (s : List UInt8) : List UInt8 := (run start ((full s).length / 64) (full s)).bytes
theorem digest_length (s : List UInt8) : (digest s).length = 32 := bytes_length _

def hexD (x : Nat) : UInt8 := if x < 10 then UInt8.ofNat (48 + x) else UInt8.ofNat (87 + x)
def hexL (l : List UInt8) : List UInt8 := l.flatMap fun x => [hexD (x.toNat / 16), hexD (x.toNat % 16)]

theorem hex_nothing : hexL (digest []) = [101, 51, 98, 48, 99, 52, 52, 50, 57, 56, 102, 99, 49, 99, 49, 52, 57, 97, 102, 98, 102, 52, 99, 56, 57, 57, 54, 102, 98, 57, 50, 52, 50, 55, 97, 101, 52, 49, 101, 52, 54, 52, 57, 98, 57, 51, 52, 99, 97, 52, 57, 53, 57, 57, 49, 98, 55, 56, 53, 50, 98, 56, 53, 53] := by kernel_rfl
theorem hex_abc : hexL (digest [97, 98, 99]) = [98, 97, 55, 56, 49, 54, 98, 102, 56, 102, 48, 49, 99, 102, 101, 97, 52, 49, 52, 49, 52, 48, 100, 101, 53, 100, 97, 101, 50, 50, 50, 51, 98, 48, 48, 51, 54, 49, 97, 51, 57, 54, 49, 55, 55, 97, 57, 99, 98, 52, 49, 48, 102, 102, 54, 49, 102, 50, 48, 48, 49, 53, 97, 100] := by kernel_rfl
end Go.Proofs.YtgiakpnkidblpaaDoor.Sha
