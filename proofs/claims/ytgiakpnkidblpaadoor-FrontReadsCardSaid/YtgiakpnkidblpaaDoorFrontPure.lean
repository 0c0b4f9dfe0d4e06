/-
  Plain mathematics of a tree that grows: how many bits are 1, the whole parts' roots, what a leaf more makes of them, their root. No walk, no program.
-/
import Derived.Test.YtgiakpnkidblpaaDoorLeafPure
namespace Go.Proofs.YtgiakpnkidblpaaDoor.Tree
open Go

/-- How many bits of n are 1. -/
def ones (n : Nat) : Nat := if h : n = 0 then 0 else n % 2 + ones (n / 2)
termination_by n
decreasing_by omega
theorem ones_zero : ones 0 = 0 := by rw [ones]; rfl
theorem ones_step (n : Nat) : ones n = n % 2 + ones (n / 2) := by
  by_cases h : n = 0
  · subst h; rw [ones_zero]
  · rw [ones, dif_neg h]
theorem ones_even (n : Nat) : ones (2 * n) = ones n := by rw [ones_step, show 2 * n % 2 = 0 by omega, show 2 * n / 2 = n by omega, Nat.zero_add]
theorem ones_odd (n : Nat) : ones (2 * n + 1) = ones n + 1 := by rw [ones_step, show (2 * n + 1) % 2 = 1 by omega, show (2 * n + 1) / 2 = n by omega, Nat.add_comm]
theorem ones_le : ∀ (k n : Nat), n < 2 ^ k → ones n ≤ k
  | 0, n, h => by obtain rfl : n = 0 := by omega
                  rw [ones_zero]; exact Nat.le_refl _
  | k + 1, n, h => by
    rw [Nat.pow_succ] at h
    have := ones_le k (n / 2) (by omega)
    rw [ones_step]
    omega
theorem ones_pow : ∀ k, ones (2 ^ k) = 1
  | 0 => by rw [ones_step, show 2 ^ 0 / 2 = 0 by decide, ones_zero]
  | k + 1 => by rw [Nat.pow_succ, Nat.mul_comm, ones_even]; exact ones_pow k
theorem ones_most (n : Nat) (h : n ≤ 1099511627776) : ones n ≤ 40 := by
  by_cases e : n = 1099511627776
  · subst e
    have := ones_pow 40
    rw [show (2 : Nat) ^ 40 = 1099511627776 by decide] at this
    omega
  · exact ones_le 40 n (by rw [show (2 : Nat) ^ 40 = 1099511627776 by decide]; omega)

/-! ### The whole parts -/
/-- The greatest power of two in n. -/
def top (n : Nat) : Nat := 2 ^ Nat.log2 n
theorem top_pos (n : Nat) : 0 < top n := Nat.two_pow_pos _
theorem top_le {n : Nat} (h : n ≠ 0) : top n ≤ n := Nat.log2_self_le h
theorem top_lt {n : Nat} : n < 2 * top n := by
  have := Nat.lt_log2_self (n := n)
  rw [Nat.pow_succ] at this
  unfold top
  omega
theorem top_of {n i : Nat} (h1 : 2 ^ i ≤ n) (h2 : n < 2 * 2 ^ i) : top n = 2 ^ i := by
  have hp := Nat.two_pow_pos i
  unfold top
  congr 1
  exact (Nat.log2_eq_iff (by omega)).2 ⟨h1, by rw [Nat.pow_succ]; omega⟩
def peaksN : Nat → List H → List H
  | 0, _ => []
  | f + 1, l => if l.length = 0 then [] else root (l.take (top l.length)) :: peaksN f (l.drop (top l.length))
def peaks (l : List H) : List H := peaksN l.length l
theorem peaksN_eq : ∀ (f : Nat) (l : List H), l.length ≤ f → peaksN f l = peaks l := by
  suffices h : ∀ (k : Nat) (l : List H), l.length ≤ k → ∀ f g, l.length ≤ f → l.length ≤ g → peaksN f l = peaksN g l from fun f l hf => h _ l (Nat.le_refl _) f _ hf (Nat.le_refl _)
  intro k
  induction k with
  | zero =>
    intro l h f g _ _
    obtain rfl : l = [] := List.eq_nil_of_length_eq_zero (by omega)
    cases f <;> cases g <;> rfl
  | succ k ih =>
    intro l h f g hf hg
    by_cases h0 : l.length = 0
    · obtain rfl : l = [] := List.eq_nil_of_length_eq_zero h0
      cases f <;> cases g <;> rfl
    · obtain ⟨f, rfl⟩ : ∃ f', f = f' + 1 := ⟨f - 1, by omega⟩
      obtain ⟨g, rfl⟩ : ∃ g', g = g' + 1 := ⟨g - 1, by omega⟩
      have hp := top_pos l.length
      have hd : (l.drop (top l.length)).length = l.length - top l.length := List.length_drop
      unfold peaksN
      rw [if_neg h0, if_neg h0, ih _ (by omega) f g (by omega) (by omega)]
theorem peaks_nil : peaks [] = [] := rfl
theorem peaks_go (l : List H) (h : l.length ≠ 0) : peaks l = root (l.take (top l.length)) :: peaks (l.drop (top l.length)) := by
  have hp := top_pos l.length
  have hd : (l.drop (top l.length)).length = l.length - top l.length := List.length_drop
  rw [← peaksN_eq (l.length + 1) l (by omega)]
  conv => lhs; unfold peaksN
  rw [if_neg h, peaksN_eq _ _ (by omega)]
theorem peaks_part (X : List H) (j : Nat) (h : X.length = 2 ^ j) : peaks X = [root X] := by
  have hp := Nat.two_pow_pos j
  have ht : top X.length = 2 ^ j := top_of (by omega) (by omega)
  rw [peaks_go X (by omega), ht, ← h, List.take_length, List.drop_length, peaks_nil]
/-- A part that is less than all ahead of it stands behind them. -/
theorem peaks_snoc (X : List H) (j : Nat) (hX : X.length = 2 ^ j) : ∀ (n : Nat) (l : List H), l.length ≤ n → (∃ r, l.length = 2 ^ (j + 1) * r) → peaks (l ++ X) = peaks l ++ [root X] := by
  intro n
  induction n with
  | zero =>
    intro l h _
    obtain rfl : l = [] := List.eq_nil_of_length_eq_zero (by omega)
    rw [List.nil_append, peaks_nil, List.nil_append, peaks_part X j hX]
  | succ n ih =>
    intro l h ⟨r, hr⟩
    by_cases h0 : l.length = 0
    · obtain rfl : l = [] := List.eq_nil_of_length_eq_zero h0
      rw [List.nil_append, peaks_nil, List.nil_append, peaks_part X j hX]
    · have hp := top_pos l.length
      have hle := top_le h0
      have hlt := top_lt (n := l.length)
      obtain ⟨i, hi⟩ : ∃ i, top l.length = 2 ^ i := ⟨_, rfl⟩
      have hpj := Nat.two_pow_pos j
      -- 2 ^ (j + 1) is a part of 2 ^ i
      have hr0 : r ≠ 0 := by rintro rfl; exact h0 (by rw [hr, Nat.mul_zero])
      have hge : 2 ^ (j + 1) ≤ l.length := by
        rw [hr]; exact Nat.le_mul_of_pos_right _ (by omega)
      have hji : j + 1 ≤ i := by
        apply Nat.le_of_not_lt
        intro hc
        have : 2 ^ (i + 1) ≤ 2 ^ (j + 1) := Nat.pow_le_pow_right (by decide) (by omega)
        rw [Nat.pow_succ 2 i] at this
        omega
      obtain ⟨q, hq⟩ : ∃ q, 2 ^ i = 2 ^ (j + 1) * q := ⟨2 ^ (i - (j + 1)), by rw [← Nat.pow_add]; congr 1; omega⟩
      have hsum : l.length + 2 ^ j < 2 * 2 ^ i := by
        rw [hi, hq, hr, Nat.mul_left_comm] at hlt
        have hrq : r < 2 * q := Nat.lt_of_mul_lt_mul_left hlt
        have : 2 ^ (j + 1) * (r + 1) ≤ 2 ^ (j + 1) * (2 * q) := Nat.mul_le_mul_left _ (by omega)
        rw [Nat.mul_add, Nat.mul_one, ← hr, Nat.mul_left_comm, ← hq, Nat.pow_succ] at this
        omega
      have htop : top (l ++ X).length = 2 ^ i := by
        rw [List.length_append, hX]
        exact top_of (by omega) hsum
      have hd : (l.drop (2 ^ i)).length = l.length - 2 ^ i := List.length_drop
      rw [peaks_go (l ++ X) (by rw [List.length_append]; omega), htop, List.take_append_of_le_length (by omega), List.drop_append_of_le_length (by omega)]
      rw [ih (l.drop (2 ^ i)) (by omega) ⟨r - q, by rw [hd, Nat.mul_sub, ← hr, ← hq]⟩]
      rw [peaks_go l h0, hi, List.cons_append]
/-- What a leaf more makes of the whole parts' roots. -/
def addP (n : Nat) (P : List H) (x : H) : List H := if h : n % 2 = 1 then addP (n / 2) P.dropLast (node (P.getLastD []) x) else P ++ [x]
termination_by n
decreasing_by omega
theorem addP_odd {n : Nat} (h : n % 2 = 1) (P : List H) (x : H) : addP n P x = addP (n / 2) P.dropLast (node (P.getLastD []) x) := by rw [addP, dif_pos h]
theorem addP_even {n : Nat} (h : ¬ n % 2 = 1) (P : List H) (x : H) : addP n P x = P ++ [x] := by rw [addP, dif_neg h]
theorem root_pair (j : Nat) (X Y : List H) (hX : X.length = 2 ^ j) (hY : Y.length = 2 ^ j) : root (Y ++ X) = node (root Y) (root X) := by
  have hp := Nat.two_pow_pos j
  have hl : (Y ++ X).length = 2 ^ (j + 1) := by rw [List.length_append, hX, hY, Nat.pow_succ]; omega
  have hs := split_pow j
  rw [root_go _ (by rw [hl, Nat.pow_succ]; omega), hl, hs, ← hY, List.take_left, List.drop_left]
theorem addP_parts (n : Nat) : ∀ (j : Nat) (l X : List H), X.length = 2 ^ j → l.length = 2 ^ j * n → addP n (peaks l) (root X) = peaks (l ++ X) := by
  induction n using Nat.strongRecOn with
  | _ n ih =>
  intro j l X hX hl
  have hpj := Nat.two_pow_pos j
  by_cases h : n % 2 = 1
  · rw [addP_odd h]
    have hn : n = 2 * (n / 2) + 1 := by omega
    have hll : l.length = 2 ^ (j + 1) * (n / 2) + 2 ^ j := by
      have e : 2 ^ j * n = 2 ^ j * (2 * (n / 2) + 1) := by rw [← hn]
      rw [hl, e, Nat.mul_add, Nat.mul_one, Nat.pow_succ, Nat.mul_assoc]
    obtain ⟨a, ha⟩ : ∃ a, a = l.take (2 ^ (j + 1) * (n / 2)) := ⟨_, rfl⟩
    obtain ⟨Y, hY⟩ : ∃ Y, Y = l.drop (2 ^ (j + 1) * (n / 2)) := ⟨_, rfl⟩
    have hal : a.length = 2 ^ (j + 1) * (n / 2) := by rw [ha, List.length_take]; omega
    have hYl : Y.length = 2 ^ j := by rw [hY, List.length_drop]; omega
    have hla : l = a ++ Y := by rw [ha, hY, List.take_append_drop]
    have hpk : peaks l = peaks a ++ [root Y] := by rw [hla]; exact peaks_snoc Y j hYl _ a (Nat.le_refl _) ⟨n / 2, hal⟩
    rw [hpk, List.dropLast_concat]
    have e1 : (peaks a ++ [root Y]).getLastD [] = root Y := by simp
    rw [e1, ← root_pair j X Y hX hYl, ih (n / 2) (by omega) (j + 1) a (Y ++ X) (by rw [List.length_append, hX, hYl, Nat.pow_succ]; omega) hal, hla, List.append_assoc]
  · rw [addP_even h, peaks_snoc X j hX _ l (Nat.le_refl _) ⟨n / 2, ?_⟩]
    have hn : n = 2 * (n / 2) := by omega
    have e : 2 ^ j * n = 2 ^ j * (2 * (n / 2)) := by rw [← hn]
    rw [hl, e, Nat.pow_succ, Nat.mul_assoc]
/-- A LEAF MORE: the roots are those of all. -/
theorem addP_peaks (l : List H) (x : H) : addP l.length (peaks l) x = peaks (l ++ [x]) := by
  have := addP_parts l.length 0 l [x] rfl (by simp)
  rwa [root_one] at this
theorem addP_length (n : Nat) : ∀ (P : List H) (x : H), P.length = ones n → (addP n P x).length = ones (n + 1) := by
  induction n using Nat.strongRecOn with
  | _ n ih =>
  intro P x hP
  by_cases h : n % 2 = 1
  · rw [addP_odd h, ih (n / 2) (by omega) _ _ (by rw [List.length_dropLast, hP, ones_step n]; omega), ones_step (n + 1)]
    rw [show (n + 1) % 2 = 0 by omega, show (n + 1) / 2 = n / 2 + 1 by omega, Nat.zero_add]
  · rw [addP_even h, List.length_append, List.length_singleton, hP, ones_step n, ones_step (n + 1)]
    rw [show (n + 1) % 2 = 1 by omega, show (n + 1) / 2 = n / 2 by omega]
    omega
theorem addP_all (n : Nat) : ∀ (P : List H) (x : H), (∀ y ∈ P, y.length = 32) → x.length = 32 → ∀ y ∈ addP n P x, y.length = 32 := by
  induction n using Nat.strongRecOn with
  | _ n ih =>
  intro P x hP hx
  by_cases h : n % 2 = 1
  · rw [addP_odd h]
    exact ih (n / 2) (by omega) _ _ (fun y hy => hP y (List.dropLast_subset _ hy)) (node_length _ _)
  · rw [addP_even h]
    intro y hy
    rcases List.mem_append.1 hy with hy | hy
    · exact hP y hy
    · simp at hy; rw [hy]; exact hx
theorem peaks_length : ∀ (n : Nat) (l : List H), l.length = n → (peaks l).length = ones n := by
  intro n
  induction n with
  | zero =>
    intro l h
    obtain rfl : l = [] := List.eq_nil_of_length_eq_zero h
    rw [peaks_nil, ones_zero]; rfl
  | succ n ih =>
    intro l h
    have hne : l ≠ [] := by rintro rfl; simp at h
    have e := List.dropLast_concat_getLast hne
    have hd : l.dropLast.length = n := by rw [List.length_dropLast]; omega
    have := addP_length n (peaks l.dropLast) (l.getLast hne) (ih _ hd)
    have hp := addP_peaks l.dropLast (l.getLast hne)
    rw [e, hd] at hp
    rw [← hp, this]
theorem peaks_all (n : Nat) : ∀ (l : List H), l.length ≤ n → (∀ x ∈ l, x.length = 32) → ∀ x ∈ peaks l, x.length = 32 := by
  induction n with
  | zero =>
    intro l h _
    obtain rfl : l = [] := List.eq_nil_of_length_eq_zero (by omega)
    intro x hx; cases hx
  | succ n ih =>
    intro l h ha
    by_cases h0 : l.length = 0
    · obtain rfl : l = [] := List.eq_nil_of_length_eq_zero h0
      intro x hx; cases hx
    · have hp := top_pos l.length
      have hd : (l.drop (top l.length)).length = l.length - top l.length := List.length_drop
      rw [peaks_go l h0]
      intro x hx
      rcases List.mem_cons.1 hx with rfl | hx
      · exact root_length _ (fun y hy => ha y (List.mem_of_mem_take hy))
      · exact ih _ (by omega) (fun y hy => ha y (List.mem_of_mem_drop hy)) x hx

/-! ### The root of the roots -/
def rootP : List H → H
  | [] => empty
  | [p] => p
  | p :: q :: r => node p (rootP (q :: r))
theorem rootP_cons (p : H) (l : List H) (h : l ≠ []) : rootP (p :: l) = node p (rootP l) := by
  cases l with
  | nil => exact absurd rfl h
  | cons q r => rfl
theorem rootP_length : ∀ (P : List H), (∀ x ∈ P, x.length = 32) → (rootP P).length = 32
  | [], _ => empty_length
  | [p], h => h p (by simp)
  | _ :: _ :: _, _ => node_length _ _
theorem peaks_ne {l : List H} (h : l.length ≠ 0) : peaks l ≠ [] := by rw [peaks_go l h]; exact List.cons_ne_nil _ _
theorem rootP_peaks (n : Nat) : ∀ l : List H, l.length ≤ n → rootP (peaks l) = root l := by
  induction n with
  | zero =>
    intro l h
    obtain rfl : l = [] := List.eq_nil_of_length_eq_zero (by omega)
    rfl
  | succ n ih =>
    intro l h
    by_cases h0 : l.length = 0
    · obtain rfl : l = [] := List.eq_nil_of_length_eq_zero h0
      rfl
    · have hp := top_pos l.length
      have hle := top_le h0
      have hlt := top_lt (n := l.length)
      have hd : (l.drop (top l.length)).length = l.length - top l.length := List.length_drop
      rw [peaks_go l h0]
      by_cases he : top l.length = l.length
      · rw [he, List.take_length, List.drop_length, peaks_nil]; rfl
      · have hs : split l.length = top l.length := by
          obtain ⟨i, hi⟩ : ∃ i, top l.length = 2 ^ i := ⟨_, rfl⟩
          rw [hi] at he hle hlt ⊢
          exact split_of (by omega) (by rw [Nat.pow_succ]; omega)
        rw [rootP_cons _ _ (peaks_ne (by omega)), ih _ (by omega)]
        have h2 : 2 ≤ l.length := by omega
        rw [root_go l h2, hs]
end Go.Proofs.YtgiakpnkidblpaaDoor.Tree
