/-
  Plain mathematics of trees of hashes: leaves, nodes, the part that is split off, roots, rows. No walk, no program.
-/
import Derived.Test.YtgiakpnkidblpaaDoorShaText
namespace Go.Proofs.YtgiakpnkidblpaaDoor.Tree
open Go

abbrev H := List UInt8
def leafH (s : List UInt8) : H := Sha.digest (0 :: s)
def pre (a b : H) : List UInt8 := 1 :: (a ++ b)
def node (a b : H) : H := Sha.digest (pre a b)
def empty : H := Sha.digest []
theorem leafH_length (s : List UInt8) : (leafH s).length = 32 := Sha.digest_length _
theorem node_length (a b : H) : (node a b).length = 32 := Sha.digest_length _
theorem empty_length : empty.length = 32 := Sha.digest_length _

/-- The greatest power of two below n; 0, if there is none. -/
def split (n : Nat) : Nat := if n < 2 then 0 else 2 ^ Nat.log2 (n - 1)
theorem split_small {n : Nat} (h : n < 2) : split n = 0 := if_pos h
theorem split_big {n : Nat} (h : 2 ≤ n) : split n = 2 ^ Nat.log2 (n - 1) := if_neg (by omega)
theorem split_lt {n : Nat} (h : 2 ≤ n) : split n < n := by
  rw [split_big h]
  have := Nat.log2_self_le (n := n - 1) (by omega)
  omega
theorem split_half {n : Nat} (h : 2 ≤ n) : n ≤ 2 * split n := by
  rw [split_big h]
  have : n - 1 < 2 ^ (Nat.log2 (n - 1) + 1) := Nat.lt_log2_self
  rw [Nat.pow_succ] at this
  omega
theorem split_pos {n : Nat} (h : 2 ≤ n) : 0 < split n := by rw [split_big h]; exact Nat.two_pow_pos _
/-- A power of two below n, whose double is not, is the one. -/
theorem split_of {n i : Nat} (h1 : 2 ^ i < n) (h2 : n ≤ 2 ^ (i + 1)) : split n = 2 ^ i := by
  have hp := Nat.two_pow_pos i
  rw [split_big (by omega)]
  congr 1
  exact (Nat.log2_eq_iff (by omega)).2 ⟨by omega, by omega⟩
theorem split_pow (i : Nat) : split (2 ^ (i + 1)) = 2 ^ i := split_of (Nat.pow_lt_pow_right (by decide) (by omega)) (Nat.le_refl _)
theorem split_up {n : Nat} (h : 3 ≤ n) : split n = 2 * split ((n + 1) / 2) := by
  have h1 := split_lt (n := (n + 1) / 2) (by omega)
  have h2 := split_half (n := (n + 1) / 2) (by omega)
  rw [split_big (n := (n + 1) / 2) (by omega)] at h1 h2 ⊢
  rw [Nat.mul_comm, ← Nat.pow_succ]
  apply split_of
  · rw [Nat.pow_succ]; omega
  · rw [Nat.pow_succ, Nat.pow_succ]; omega
theorem split_even {n : Nat} (h : 3 ≤ n) : ∃ j, split n = 2 * j ∧ 0 < j := ⟨_, split_up h, split_pos (by omega)⟩

/-! ### Roots -/
def rootN : Nat → List H → H
  | _, [] => empty
  | _, [x] => x
  | 0, _ => empty
  | n + 1, l => node (rootN n (l.take (split l.length))) (rootN n (l.drop (split l.length)))
def root (l : List H) : H := rootN l.length l
theorem root_nil : root [] = empty := rfl
theorem root_one (x : H) : root [x] = x := rfl
theorem rootN_go (n : Nat) (l : List H) (h : 2 ≤ l.length) : rootN (n + 1) l = node (rootN n (l.take (split l.length))) (rootN n (l.drop (split l.length))) := by
  match l, h with
  | a :: b :: r, _ => rfl
theorem rootN_eq (l : List H) : ∀ n, l.length ≤ n → rootN n l = root l := by
  suffices h : ∀ k (l : List H), l.length ≤ k → ∀ n m, l.length ≤ n → l.length ≤ m → rootN n l = rootN m l from fun n hn => h _ l (Nat.le_refl _) n _ hn (Nat.le_refl _)
  intro k
  induction k with
  | zero =>
    intro l h n m _ _
    obtain rfl : l = [] := List.eq_nil_of_length_eq_zero (by omega)
    cases n <;> cases m <;> rfl
  | succ k ih =>
    intro l h n m hn hm
    match l, h, hn, hm with
    | [], _, _, _ => cases n <;> cases m <;> rfl
    | [x], _, _, _ => cases n <;> cases m <;> rfl
    | a :: b :: r, h, hn, hm =>
      obtain ⟨l, hl⟩ : ∃ l, l = a :: b :: r := ⟨_, rfl⟩
      rw [← hl] at h hn hm ⊢
      have h2 : 2 ≤ l.length := by rw [hl]; simp
      have hlt := split_lt h2
      have hp := split_pos h2
      match n, m, hn, hm with
      | n + 1, m + 1, hn, hm =>
        rw [rootN_go _ _ h2, rootN_go _ _ h2]
        have e1 : (l.take (split l.length)).length = split l.length := by rw [List.length_take]; omega
        have e2 : (l.drop (split l.length)).length = l.length - split l.length := List.length_drop
        rw [ih _ (by omega) n m (by omega) (by omega), ih (l.drop _) (by omega) n m (by omega) (by omega)]
      | 0, _, hn, _ => omega
      | _ + 1, 0, _, hm => omega
theorem root_go (l : List H) (h : 2 ≤ l.length) : root l = node (root (l.take (split l.length))) (root (l.drop (split l.length))) := by
  have hlt := split_lt h
  have hp := split_pos h
  have e1 : (l.take (split l.length)).length = split l.length := by rw [List.length_take]; omega
  have e2 : (l.drop (split l.length)).length = l.length - split l.length := List.length_drop
  rw [← rootN_eq l (l.length + 1) (by omega), rootN_go _ _ h, rootN_eq _ _ (by omega), rootN_eq _ _ (by omega)]
theorem root_length (l : List H) (h : ∀ x ∈ l, x.length = 32) : (root l).length = 32 := by
  match l, h with
  | [], _ => exact empty_length
  | [x], h => exact h x (by simp)
  | a :: b :: r, _ => rw [root_go _ (by simp)]; exact node_length _ _

/-! ### Rows -/
def up : List H → List H
  | [] => []
  | [x] => [x]
  | a :: b :: r => node a b :: up r
theorem up_length : ∀ l : List H, (up l).length = (l.length + 1) / 2
  | [] => by simp [up]
  | [_] => by simp [up]
  | a :: b :: r => by
    have := up_length r
    simp only [up, List.length_cons]
    omega
theorem up_all : ∀ (l : List H), (∀ x ∈ l, x.length = 32) → ∀ x ∈ up l, x.length = 32
  | [], _ => by simp [up]
  | [x], h => by simpa [up] using h
  | a :: b :: r, h => by
    intro x hx
    rcases List.mem_cons.1 hx with rfl | hx
    · exact node_length _ _
    · exact up_all r (fun y hy => h y (by simp [hy])) x hx
theorem up_append (j : Nat) : ∀ (l r : List H), l.length = 2 * j → up (l ++ r) = up l ++ up r := by
  induction j with
  | zero =>
    intro l r h
    obtain rfl : l = [] := List.eq_nil_of_length_eq_zero (by omega)
    rfl
  | succ j ih =>
    intro l r h
    match l, h with
    | a :: b :: l, h =>
      have := ih l r (by simp at h; omega)
      simp only [List.cons_append, up, this]
    | [], h => simp at h
    | [_], h => simp at h; omega
/-- The root of a row is that of the row above. -/
theorem root_up (n : Nat) : ∀ l : List H, l.length ≤ n → root (up l) = root l := by
  induction n with
  | zero =>
    intro l h
    obtain rfl : l = [] := List.eq_nil_of_length_eq_zero (by omega)
    rfl
  | succ n ih =>
    intro l h
    match l, h with
    | [], _ => rfl
    | [_], _ => rfl
    | [a, b], _ => rfl
    | a :: b :: c :: r, h =>
      obtain ⟨l, hl⟩ : ∃ l, l = a :: b :: c :: r := ⟨_, rfl⟩
      rw [← hl] at h ⊢
      have h3 : 3 ≤ l.length := by rw [hl]; simp
      obtain ⟨j, hj, hjp⟩ := split_even h3
      have hlt := split_lt (n := l.length) (by omega)
      have hsu := split_up h3
      have e1 : (l.take (split l.length)).length = split l.length := by rw [List.length_take]; omega
      have e2 : (l.drop (split l.length)).length = l.length - split l.length := List.length_drop
      have hu := up_append j (l.take (split l.length)) (l.drop (split l.length)) (by omega)
      rw [List.take_append_drop] at hu
      have hul := up_length l
      have hutl := up_length (l.take (split l.length))
      rw [root_go l (by omega), root_go (up l) (by omega), hul, show split ((l.length + 1) / 2) = (up (l.take (split l.length))).length by omega]
      rw [hu, List.take_left', List.drop_left', ih _ (by omega), ih _ (by omega)]
      · rfl
      · rfl

def levelsN : Nat → List H → List (List H)
  | 0, l => [l]
  | n + 1, l => if l.length ≤ 1 then [l] else l :: levelsN n (up l)
def levels (l : List H) : List (List H) := levelsN l.length l
theorem levels_small {l : List H} (h : l.length ≤ 1) : levels l = [l] := by
  unfold levels
  match l, h with
  | [], _ => rfl
  | [_], _ => rfl
theorem levelsN_eq (n : Nat) : ∀ (l : List H) (m : Nat), l.length ≤ n → l.length ≤ m → levelsN n l = levelsN m l := by
  induction n with
  | zero =>
    intro l m h hm
    obtain rfl : l = [] := List.eq_nil_of_length_eq_zero (by omega)
    cases m <;> rfl
  | succ n ih =>
    intro l m h hm
    match m, hm with
    | 0, hm =>
      obtain rfl : l = [] := List.eq_nil_of_length_eq_zero (by omega)
      rfl
    | m + 1, hm =>
      unfold levelsN
      by_cases h1 : l.length ≤ 1
      · rw [if_pos h1, if_pos h1]
      · rw [if_neg h1, if_neg h1]
        have := up_length l
        rw [ih (up l) m (by omega) (by omega)]
theorem levels_go {l : List H} (h : 2 ≤ l.length) : levels l = l :: levels (up l) := by
  have hu := up_length l
  unfold levels
  obtain ⟨n, hn⟩ : ∃ n, l.length = n + 1 := ⟨l.length - 1, by omega⟩
  rw [hn]
  conv => lhs; unfold levelsN
  rw [if_neg (by omega), levelsN_eq n (up l) (up l).length (by omega) (Nat.le_refl _)]
theorem levels_ne (l : List H) : levels l ≠ [] := by
  by_cases h : l.length ≤ 1
  · rw [levels_small h]; simp
  · rw [levels_go (by omega)]; simp
end Go.Proofs.YtgiakpnkidblpaaDoor.Tree
