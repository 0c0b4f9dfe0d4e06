/-
  Several texts in one (FrontPure, FrontPop, FrontMem, FrontPeaks, FrontBack, FrontAdd, FrontAddE, FrontRoot).
-/
import Derived.Test.YtollcdalokhjaaaDoorMLeafA
import Derived.Test.YtollcdalokhjaaaDoorMGen
import Derived.Laws.BitsAllLaws
import Derived.Test.YtollcdalokhjaaaDoorMLeafB
import Derived.Test.YtollcdalokhjaaaDoorMSeq
import Derived.RangeFuncNested
import Derived.RangeFuncBound
import Derived.RangeFuncCalls
import Derived.RangeFuncLeaves
import Derived.Shelf.Abstract
import Derived.Shelf.RegionOpen
import Derived.WalkKit
import Derived.OwnWalkIn
import Derived.TacticsInMore
import Derived.LoopNIn
import Derived.LoopIn
import Derived.Test.YtollcdalokhjaaaDoorMShaB
/-! ## Plain mathematics of a tree that grows: how many bits are 1, the whole parts' roots, what a leaf more makes of them, their root. No walk, no program. -/
namespace Go.Proofs.YtollcdalokhjaaaDoor.Tree
open Go

/-- How many bits of n are 1. -/
def ones (n : Nat) : Nat := if h : n = 0 then 0 else n % 2 + ones (n / 2)
termination_by n
decreasing_by omega
theorem ones_zero : ones 0 = 0 := by rw [ones]; rfl
theorem ones_step (n : Nat) : ones n = n % 2 + ones (n / 2) := by
  by_cases h : n = 0
  · subst h; rw [ones_zero]
  · rw [ones, dif_neg h]
theorem ones_even (n : Nat) : ones (2 * n) = ones n := by rw [ones_step, show 2 * n % 2 = 0 by omega, show 2 * n / 2 = n by omega, Nat.zero_add]
theorem ones_odd (n : Nat) : ones (2 * n + 1) = ones n + 1 := by rw [ones_step, show (2 * n + 1) % 2 = 1 by omega, show (2 * n + 1) / 2 = n by omega, Nat.add_comm]
theorem ones_le : ∀ (k n : Nat), n < 2 ^ k → ones n ≤ k
  | 0, n, h => by obtain rfl : n = 0 := by omega
                  rw [ones_zero]; exact Nat.le_refl _
  | k + 1, n, h => by
    rw [Nat.pow_succ] at h
    have := ones_le k (n / 2) (by omega)
    rw [ones_step]
    omega
theorem ones_pow : ∀ k, ones (2 ^ k) = 1
  | 0 => by rw [ones_step, show 2 ^ 0 / 2 = 0 by decide, ones_zero]
  | k + 1 => by rw [Nat.pow_succ, Nat.mul_comm, ones_even]; exact ones_pow k
theorem ones_most (n : Nat) (h : n ≤ 1099511627776) : ones n ≤ 40 := by
  by_cases e : n = 1099511627776
  · subst e
    have := ones_pow 40
    rw [show (2 : Nat) ^ 40 = 1099511627776 by decide] at this
    omega
  · exact ones_le 40 n (by rw [show (2 : Nat) ^ 40 = 1099511627776 by decide]; omega)

/-! ### The whole parts -/
/-- The greatest power of two in n. -/
def top (n : Nat) : Nat := 2 ^ Nat.log2 n
theorem top_pos (n : Nat) : 0 < top n := Nat.two_pow_pos _
theorem top_le {n : Nat} (h : n ≠ 0) : top n ≤ n := Nat.log2_self_le h
theorem top_lt {n : Nat} : n < 2 * top n := by
  have := Nat.lt_log2_self (n := n)
  rw [Nat.pow_succ] at this
  unfold top
  omega
theorem top_of {n i : Nat} (h1 : 2 ^ i ≤ n) (h2 : n < 2 * 2 ^ i) : top n = 2 ^ i := by
  have hp := Nat.two_pow_pos i
  unfold top
  congr 1
  exact (Nat.log2_eq_iff (by omega)).2 ⟨h1, by rw [Nat.pow_succ]; omega⟩
def peaksN : Nat → List H → List H
  | 0, _ => []
  | f + 1, l => if l.length = 0 then [] else root (l.take (top l.length)) :: peaksN f (l.drop (top l.length))
def peaks (l : List H) : List H := peaksN l.length l
theorem peaksN_eq : ∀ (f : Nat) (l : List H), l.length ≤ f → peaksN f l = peaks l := by
  suffices h : ∀ (k : Nat) (l : List H), l.length ≤ k → ∀ f g, l.length ≤ f → l.length ≤ g → peaksN f l = peaksN g l from fun f l hf => h _ l (Nat.le_refl _) f _ hf (Nat.le_refl _)
  intro k
  induction k with
  | zero =>
    intro l h f g _ _
    obtain rfl : l = [] := List.eq_nil_of_length_eq_zero (by omega)
    cases f <;> cases g <;> rfl
  | succ k ih =>
    intro l h f g hf hg
    by_cases h0 : l.length = 0
    · obtain rfl : l = [] := List.eq_nil_of_length_eq_zero h0
      cases f <;> cases g <;> rfl
    · obtain ⟨f, rfl⟩ : ∃ f', f = f' + 1 := ⟨f - 1, by omega⟩
      obtain ⟨g, rfl⟩ : ∃ g', g = g' + 1 := ⟨g - 1, by omega⟩
      have hp := top_pos l.length
      have hd : (l.drop (top l.length)).length = l.length - top l.length := List.length_drop
      unfold peaksN
      rw [if_neg h0, if_neg h0, ih _ (by omega) f g (by omega) (by omega)]
theorem peaks_nil : peaks [] = [] := rfl
theorem peaks_go (l : List H) (h : l.length ≠ 0) : peaks l = root (l.take (top l.length)) :: peaks (l.drop (top l.length)) := by
  have hp := top_pos l.length
  have hd : (l.drop (top l.length)).length = l.length - top l.length := List.length_drop
  rw [← peaksN_eq (l.length + 1) l (by omega)]
  conv => lhs; unfold peaksN
  rw [if_neg h, peaksN_eq _ _ (by omega)]
theorem peaks_part (X : List H) (j : Nat) (h : X.length = 2 ^ j) : peaks X = [root X] := by
  have hp := Nat.two_pow_pos j
  have ht : top X.length = 2 ^ j := top_of (by omega) (by omega)
  rw [peaks_go X (by omega), ht, ← h, List.take_length, List.drop_length, peaks_nil]
/-- A part that is less than all ahead of it stands behind them. -/
theorem peaks_snoc (X : List H) (j : Nat) (hX : X.length = 2 ^ j) : ∀ (n : Nat) (l : List H), l.length ≤ n → (∃ r, l.length = 2 ^ (j + 1) * r) → peaks (l ++ X) = peaks l ++ [root X] := by
  intro n
  induction n with
  | zero =>
    intro l h _
    obtain rfl : l = [] := List.eq_nil_of_length_eq_zero (by omega)
    rw [List.nil_append, peaks_nil, List.nil_append, peaks_part X j hX]
  | succ n ih =>
    intro l h ⟨r, hr⟩
    by_cases h0 : l.length = 0
    · obtain rfl : l = [] := List.eq_nil_of_length_eq_zero h0
      rw [List.nil_append, peaks_nil, List.nil_append, peaks_part X j hX]
    · have hp := top_pos l.length
      have hle := top_le h0
      have hlt := top_lt (n := l.length)
      obtain ⟨i, hi⟩ : ∃ i, top l.length = 2 ^ i := ⟨_, rfl⟩
      have hpj := Nat.two_pow_pos j
      -- 2 ^ (j + 1) is a part of 2 ^ i
      have hr0 : r ≠ 0 := by rintro rfl; exact h0 (by rw [hr, Nat.mul_zero])
      have hge : 2 ^ (j + 1) ≤ l.length := by
        rw [hr]; exact Nat.le_mul_of_pos_right _ (by omega)
      have hji : j + 1 ≤ i := by
        apply Nat.le_of_not_lt
        intro hc
        have : 2 ^ (i + 1) ≤ 2 ^ (j + 1) := Nat.pow_le_pow_right (by decide) (by omega)
        rw [Nat.pow_succ 2 i] at this
        omega
      obtain ⟨q, hq⟩ : ∃ q, 2 ^ i = 2 ^ (j + 1) * q := ⟨2 ^ (i - (j + 1)), by rw [← Nat.pow_add]; congr 1; omega⟩
      have hsum : l.length + 2 ^ j < 2 * 2 ^ i := by
        rw [hi, hq, hr, Nat.mul_left_comm] at hlt
        have hrq : r < 2 * q := Nat.lt_of_mul_lt_mul_left hlt
        have : 2 ^ (j + 1) * (r + 1) ≤ 2 ^ (j + 1) * (2 * q) := Nat.mul_le_mul_left _ (by omega)
        rw [Nat.mul_add, Nat.mul_one, ← hr, Nat.mul_left_comm, ← hq, Nat.pow_succ] at this
        omega
      have htop : top (l ++ X).length = 2 ^ i := by
        rw [List.length_append, hX]
        exact top_of (by omega) hsum
      have hd : (l.drop (2 ^ i)).length = l.length - 2 ^ i := List.length_drop
      rw [peaks_go (l ++ X) (by rw [List.length_append]; omega), htop, List.take_append_of_le_length (by omega), List.drop_append_of_le_length (by omega)]
      rw [ih (l.drop (2 ^ i)) (by omega) ⟨r - q, by rw [hd, Nat.mul_sub, ← hr, ← hq]⟩]
      rw [peaks_go l h0, hi, List.cons_append]
/-- What a leaf more makes of the whole parts' roots. -/
def addP (n : Nat) (P : List H) (x : H) : List H := if h : n % 2 = 1 then addP (n / 2) P.dropLast (node (P.getLastD []) x) else P ++ [x]
termination_by n
decreasing_by omega
theorem addP_odd {n : Nat} (h : n % 2 = 1) (P : List H) (x : H) : addP n P x = addP (n / 2) P.dropLast (node (P.getLastD []) x) := by rw [addP, dif_pos h]
theorem addP_even {n : Nat} (h : ¬ n % 2 = 1) (P : List H) (x : H) : addP n P x = P ++ [x] := by rw [addP, dif_neg h]
theorem root_pair (j : Nat) (X Y : List H) (hX : X.length = 2 ^ j) (hY : Y.length = 2 ^ j) : root (Y ++ X) = node (root Y) (root X) := by
  have hp := Nat.two_pow_pos j
  have hl : (Y ++ X).length = 2 ^ (j + 1) := by rw [List.length_append, hX, hY, Nat.pow_succ]; omega
  have hs := split_pow j
  rw [root_go _ (by rw [hl, Nat.pow_succ]; omega), hl, hs, ← hY, List.take_left, List.drop_left]
theorem addP_parts (n : Nat) : ∀ (j : Nat) (l X : List H), X.length = 2 ^ j → l.length = 2 ^ j * n → addP n (peaks l) (root X) = peaks (l ++ X) := by
  induction n using Nat.strongRecOn with
  | _ n ih =>
  intro j l X hX hl
  have hpj := Nat.two_pow_pos j
  by_cases h : n % 2 = 1
  · rw [addP_odd h]
    have hn : n = 2 * (n / 2) + 1 := by omega
    have hll : l.length = 2 ^ (j + 1) * (n / 2) + 2 ^ j := by
      have e : 2 ^ j * n = 2 ^ j * (2 * (n / 2) + 1) := by rw [← hn]
      rw [hl, e, Nat.mul_add, Nat.mul_one, Nat.pow_succ, Nat.mul_assoc]
    obtain ⟨a, ha⟩ : ∃ a, a = l.take (2 ^ (j + 1) * (n / 2)) := ⟨_, rfl⟩
    obtain ⟨Y, hY⟩ : ∃ Y, Y = l.drop (2 ^ (j + 1) * (n / 2)) := ⟨_, rfl⟩
    have hal : a.length = 2 ^ (j + 1) * (n / 2) := by rw [ha, List.length_take]; omega
    have hYl : Y.length = 2 ^ j := by rw [hY, List.length_drop]; omega
    have hla : l = a ++ Y := by rw [ha, hY, List.take_append_drop]
    have hpk : peaks l = peaks a ++ [root Y] := by rw [hla]; exact peaks_snoc Y j hYl _ a (Nat.le_refl _) ⟨n / 2, hal⟩
    rw [hpk, List.dropLast_concat]
    have e1 : (peaks a ++ [root Y]).getLastD [] = root Y := by simp
    rw [e1, ← root_pair j X Y hX hYl, ih (n / 2) (by omega) (j + 1) a (Y ++ X) (by rw [List.length_append, hX, hYl, Nat.pow_succ]; omega) hal, hla, List.append_assoc]
  · rw [addP_even h, peaks_snoc X j hX _ l (Nat.le_refl _) ⟨n / 2, ?_⟩]
    have hn : n = 2 * (n / 2) := by omega
    have e : 2 ^ j * n = 2 ^ j * (2 * (n / 2)) := by rw [← hn]
    rw [hl, e, Nat.pow_succ, Nat.mul_assoc]
/-- A LEAF MORE: the roots are those of all. -/
theorem addP_peaks (l : List H) (x : H) : addP l.length (peaks l) x = peaks (l ++ [x]) := by
  have := addP_parts l.length 0 l [x] rfl (by simp)
  rwa [root_one] at this
theorem addP_length (n : Nat) : ∀ (P : List H) (x : H), P.length = ones n → (addP n P x).length = ones (n + 1) := by
  induction n using Nat.strongRecOn with
  | _ n ih =>
  intro P x hP
  by_cases h : n % 2 = 1
  · rw [addP_odd h, ih (n / 2) (by omega) _ _ (by rw [List.length_dropLast, hP, ones_step n]; omega), ones_step (n + 1)]
    rw [show (n + 1) % 2 = 0 by omega, show (n + 1) / 2 = n / 2 + 1 by omega, Nat.zero_add]
  · rw [addP_even h, List.length_append, List.length_singleton, hP, ones_step n, ones_step (n + 1)]
    rw [show (n + 1) % 2 = 1 by omega, show (n + 1) / 2 = n / 2 by omega]
    omega
theorem addP_all (n : Nat) : ∀ (P : List H) (x : H), (∀ y ∈ P, y.length = 32) → x.length = 32 → ∀ y ∈ addP n P x, y.length = 32 := by
  induction n using Nat.strongRecOn with
  | _ n ih =>
  intro P x hP hx
  by_cases h : n % 2 = 1
  · rw [addP_odd h]
    exact ih (n / 2) (by omega) _ _ (fun y hy => hP y (List.dropLast_subset _ hy)) (node_length _ _)
  · rw [addP_even h]
    intro y hy
    rcases List.mem_append.1 hy with hy | hy
    · exact hP y hy
    · simp at hy; rw [hy]; exact hx
theorem peaks_length : ∀ (n : Nat) (l : List H), l.length = n → (peaks l).length = ones n := by
  intro n
  induction n with
  | zero =>
    intro l h
    obtain rfl : l = [] := List.eq_nil_of_length_eq_zero h
    rw [peaks_nil, ones_zero]; rfl
  | succ n ih =>
    intro l h
    have hne : l ≠ [] := by rintro rfl; simp at h
    have e := List.dropLast_concat_getLast hne
    have hd : l.dropLast.length = n := by rw [List.length_dropLast]; omega
    have := addP_length n (peaks l.dropLast) (l.getLast hne) (ih _ hd)
    have hp := addP_peaks l.dropLast (l.getLast hne)
    rw [e, hd] at hp
    rw [← hp, this]
theorem peaks_all (n : Nat) : ∀ (l : List H), l.length ≤ n → (∀ x ∈ l, x.length = 32) → ∀ x ∈ peaks l, x.length = 32 := by
  induction n with
  | zero =>
    intro l h _
    obtain rfl : l = [] := List.eq_nil_of_length_eq_zero (by omega)
    intro x hx; cases hx
  | succ n ih =>
    intro l h ha
    by_cases h0 : l.length = 0
    · obtain rfl : l = [] := List.eq_nil_of_length_eq_zero h0
      intro x hx; cases hx
    · have hp := top_pos l.length
      have hd : (l.drop (top l.length)).length = l.length - top l.length := List.length_drop
      rw [peaks_go l h0]
      intro x hx
      rcases List.mem_cons.1 hx with rfl | hx
      · exact root_length _ (fun y hy => ha y (List.mem_of_mem_take hy))
      · exact ih _ (by omega) (fun y hy => ha y (List.mem_of_mem_drop hy)) x hx

/-! ### The root of the roots -/
def rootP : List H → H
  | [] => empty
  | [p] => p
  | p :: q :: r => node p (rootP (q :: r))
theorem rootP_cons (p : H) (l : List H) (h : l ≠ []) : rootP (p :: l) = node p (rootP l) := by
  cases l with
  | nil => exact absurd rfl h
  | cons q r => rfl
theorem rootP_length : ∀ (P : List H), (∀ x ∈ P, x.length = 32) → (rootP P).length = 32
  | [], _ => empty_length
  | [p], h => h p (by simp)
  | _ :: _ :: _, _ => node_length _ _
theorem peaks_ne {l : List H} (h : l.length ≠ 0) : peaks l ≠ [] := by rw [peaks_go l h]; exact List.cons_ne_nil _ _
theorem rootP_peaks (n : Nat) : ∀ l : List H, l.length ≤ n → rootP (peaks l) = root l := by
  induction n with
  | zero =>
    intro l h
    obtain rfl : l = [] := List.eq_nil_of_length_eq_zero (by omega)
    rfl
  | succ n ih =>
    intro l h
    by_cases h0 : l.length = 0
    · obtain rfl : l = [] := List.eq_nil_of_length_eq_zero h0
      rfl
    · have hp := top_pos l.length
      have hle := top_le h0
      have hlt := top_lt (n := l.length)
      have hd : (l.drop (top l.length)).length = l.length - top l.length := List.length_drop
      rw [peaks_go l h0]
      by_cases he : top l.length = l.length
      · rw [he, List.take_length, List.drop_length, peaks_nil]; rfl
      · have hs : split l.length = top l.length := by
          obtain ⟨i, hi⟩ : ∃ i, top l.length = 2 ^ i := ⟨_, rfl⟩
          rw [hi] at he hle hlt ⊢
          exact split_of (by omega) (by rw [Nat.pow_succ]; omega)
        rw [rootP_cons _ _ (peaks_ne (by omega)), ih _ (by omega)]
        have h2 : 2 ≤ l.length := by omega
        rw [root_go l h2, hs]
end Go.Proofs.YtollcdalokhjaaaDoor.Tree
/-! ## bits.OnesCount: how many bits of a number are 1; and how many whole parts a number of leaves has. -/
namespace Go.Proofs.YtollcdalokhjaaaDoor
open Go.RowKit

/-! ### The sums of the bits, side by side -/
namespace Pop
theorem and_split (p q M m : Nat) (hq : q < 256) (hm : m < 256) : (256 * p + q) &&& (256 * M + m) = 256 * (p &&& M) + (q &&& m) := by
  have h1 : ((256 * p + q) &&& (256 * M + m)) / 2 ^ 8 = p &&& M := by
    rw [Nat.and_div_two_pow, show (256 * p + q) / 2 ^ 8 = p by omega, show (256 * M + m) / 2 ^ 8 = M by omega]
  have h2 : ((256 * p + q) &&& (256 * M + m)) % 2 ^ 8 = q &&& m := by
    rw [Nat.and_mod_two_pow, show (256 * p + q) % 2 ^ 8 = q by omega, show (256 * M + m) % 2 ^ 8 = m by omega]
  have h3 := Nat.div_add_mod ((256 * p + q) &&& (256 * M + m)) (2 ^ 8)
  rw [h1, h2] at h3
  rw [← h3]
def rep (m : Nat) : Nat → Nat
  | 0 => 0
  | k + 1 => 256 * rep m k + m
theorem rep85 : rep 85 8 = 6148914691236517205 := by decide
theorem rep51 : rep 51 8 = 3689348814741910323 := by decide
theorem rep15 : rep 15 8 = 1085102592571150095 := by decide
def g1 (b : Nat) : Nat := (b / 2 &&& 85) + (b &&& 85)
def g2 (c : Nat) : Nat := (c / 4 &&& 51) + (c &&& 51)
def pop8 (b : Nat) : Nat := b % 2 + b / 2 % 2 + b / 4 % 2 + b / 8 % 2 + b / 16 % 2 + b / 32 % 2 + b / 64 % 2 + b / 128 % 2
def s1 (k x : Nat) : Nat := (x / 2 &&& rep 85 k) + (x &&& rep 85 k)
def s2 (k x : Nat) : Nat := (x / 4 &&& rep 51 k) + (x &&& rep 51 k)
def s3 (k x : Nat) : Nat := (x / 16 + x) &&& rep 15 k
theorem fact1 : ∀ (c : Fin 2) (d : Fin 128), (c.val * 128 + d.val) &&& 85 = d.val &&& 85 := by decide +kernel
theorem fact2 : ∀ (c : Fin 4) (d : Fin 64), (c.val * 64 + d.val) &&& 51 = d.val &&& 51 := by decide +kernel
theorem fact3 : ∀ b : Fin 256, g1 b.val < 256 ∧ g2 (g1 b.val) ≤ 68 ∧ g2 (g1 b.val) % 16 ≤ 4 := by decide +kernel
theorem fact4 : ∀ (u : Fin 5) (b : Fin 256), (u.val * 16 + (g2 (g1 b.val) / 16 + g2 (g1 b.val))) &&& 15 = pop8 b.val := by decide +kernel
theorem pop8_le (b : Nat) : pop8 b ≤ 8 := by unfold pop8; omega
theorem s1_step (k x b : Nat) (hb : b < 256) : s1 (k + 1) (256 * x + b) = 256 * s1 k x + g1 b := by
  have e : (256 * x + b) / 2 = 256 * (x / 2) + (x % 2 * 128 + b / 2) := by omega
  have f := fact1 ⟨x % 2, by omega⟩ ⟨b / 2, by omega⟩
  simp only at f
  unfold s1 g1
  rw [e, rep, and_split _ _ _ _ (by omega) (by decide), and_split _ _ _ _ hb (by decide), f]
  omega
theorem s2_step (k x b : Nat) (hb : b < 256) : s2 (k + 1) (256 * x + b) = 256 * s2 k x + g2 b := by
  have e : (256 * x + b) / 4 = 256 * (x / 4) + (x % 4 * 64 + b / 4) := by omega
  have f := fact2 ⟨x % 4, by omega⟩ ⟨b / 4, by omega⟩
  simp only at f
  unfold s2 g2
  rw [e, rep, and_split _ _ _ _ (by omega) (by decide), and_split _ _ _ _ hb (by decide), f]
  omega
theorem s3_step (k z b : Nat) (hb : b < 256) (hz : z % 16 ≤ 4) : s3 (k + 1) (256 * z + g2 (g1 b)) = 256 * s3 k z + pop8 b := by
  have f3 := fact3 ⟨b, hb⟩
  have f4 := fact4 ⟨z % 16, by omega⟩ ⟨b, hb⟩
  simp only at f3 f4
  generalize g2 (g1 b) = c at *
  have e : (256 * z + c) / 16 + (256 * z + c) = 256 * (z / 16 + z) + (z % 16 * 16 + (c / 16 + c)) := by omega
  unfold s3
  rw [e, rep, and_split _ _ _ _ (by omega) (by decide), f4]
/-- The sums of the bytes' bits, side by side. -/
def side : Nat → Nat → Nat
  | 0, _ => 0
  | k + 1, x => 256 * side k (x / 256) + pop8 (x % 256)
theorem s2_low (k x : Nat) : s2 k (s1 k x) % 16 ≤ 4 := by
  cases k with
  | zero => simp [s2, s1, rep]
  | succ k =>
    have f3 := fact3 ⟨x % 256, by omega⟩
    simp only at f3
    have e : x = 256 * (x / 256) + x % 256 := by omega
    rw [e, s1_step _ _ _ (by omega), s2_step _ _ _ f3.1]
    omega
theorem s3_side : ∀ k x, s3 k (s2 k (s1 k x)) = side k x
  | 0, x => by simp [s3, rep, side]
  | k + 1, x => by
    have f3 := fact3 ⟨x % 256, by omega⟩
    simp only at f3
    have e : x = 256 * (x / 256) + x % 256 := by omega
    conv => lhs; rw [e, s1_step _ _ _ (by omega), s2_step _ _ _ f3.1, s3_step _ _ _ (by omega) (s2_low _ _), s3_side k (x / 256)]
    rfl
theorem ones_byte (x : Nat) : Tree.ones x = pop8 (x % 256) + Tree.ones (x / 256) := by
  have d2 : x / 2 / 2 = x / 4 := Nat.div_div_eq_div_mul x 2 2
  have d3 : x / 4 / 2 = x / 8 := Nat.div_div_eq_div_mul x 4 2
  have d4 : x / 8 / 2 = x / 16 := Nat.div_div_eq_div_mul x 8 2
  have d5 : x / 16 / 2 = x / 32 := Nat.div_div_eq_div_mul x 16 2
  have d6 : x / 32 / 2 = x / 64 := Nat.div_div_eq_div_mul x 32 2
  have d7 : x / 64 / 2 = x / 128 := Nat.div_div_eq_div_mul x 64 2
  have d8 : x / 128 / 2 = x / 256 := Nat.div_div_eq_div_mul x 128 2
  have e1 : x % 256 % 2 = x % 2 := by omega
  have e2 : x % 256 / 2 % 2 = x / 2 % 2 := by omega
  have e3 : x % 256 / 4 % 2 = x / 4 % 2 := by omega
  have e4 : x % 256 / 8 % 2 = x / 8 % 2 := by omega
  have e5 : x % 256 / 16 % 2 = x / 16 % 2 := by omega
  have e6 : x % 256 / 32 % 2 = x / 32 % 2 := by omega
  have e7 : x % 256 / 64 % 2 = x / 64 % 2 := by omega
  have e8 : x % 256 / 128 % 2 = x / 128 % 2 := by omega
  unfold pop8
  rw [e1, e2, e3, e4, e5, e6, e7, e8, Tree.ones_step x, Tree.ones_step (x / 2), d2, Tree.ones_step (x / 4), d3, Tree.ones_step (x / 8), d4, Tree.ones_step (x / 16), d5, Tree.ones_step (x / 32), d6, Tree.ones_step (x / 64), d7, Tree.ones_step (x / 128), d8]
  simp only [Nat.add_assoc]
theorem lin1 (p0 p1 p2 p3 p4 p5 p6 p7 : Nat) : 256 * (256 * (256 * (256 * (256 * (256 * (256 * p7 + p6) + p5) + p4) + p3) + p2) + p1) + p0 + (256 * (256 * (256 * (256 * (256 * (256 * p7 + p6) + p5) + p4) + p3) + p2) + p1) =
    65536 * (256 * (256 * (256 * (256 * (256 * p7 + (p6 + p7)) + (p5 + p6)) + (p4 + p5)) + (p3 + p4)) + (p2 + p3)) + (256 * (p1 + p2) + (p0 + p1)) := by omega
theorem lin2 (p0 p1 p2 p3 p4 p5 p6 p7 : Nat) : 65536 * (256 * (256 * (256 * (256 * (256 * p7 + (p6 + p7)) + (p5 + p6)) + (p4 + p5)) + (p3 + p4)) + (p2 + p3)) + (256 * (p1 + p2) + (p0 + p1)) + (256 * (256 * (256 * (256 * (256 * p7 + (p6 + p7)) + (p5 + p6)) + (p4 + p5)) + (p3 + p4)) + (p2 + p3)) =
    4294967296 * (256 * (256 * (256 * p7 + (p6 + p7)) + (p5 + p6 + p7)) + (p4 + p5 + p6 + p7)) + (256 * (256 * (256 * (p3 + p4 + p5 + p6) + (p2 + p3 + p4 + p5)) + (p1 + p2 + p3 + p4)) + (p0 + p1 + p2 + p3)) := by omega
theorem lin3 (c h k s p4 p5 p6 p7 : Nat) (hc : c = 256 * k + (p4 + p5 + p6 + p7)) : 4294967296 * c + (256 * h + s) + c = 128 * (33554432 * c + 2 * h + 2 * k) + (s + (p4 + p5 + p6 + p7)) := by omega
theorem fold8 (p0 p1 p2 p3 p4 p5 p6 p7 w t1 t2 t3 : Nat) (l0 : p0 ≤ 8) (l1 : p1 ≤ 8) (l2 : p2 ≤ 8) (l3 : p3 ≤ 8) (l4 : p4 ≤ 8) (l5 : p5 ≤ 8) (l6 : p6 ≤ 8) (l7 : p7 ≤ 8)
    (hw : w = 256 * (256 * (256 * (256 * (256 * (256 * (256 * p7 + p6) + p5) + p4) + p3) + p2) + p1) + p0) (h1 : t1 = w + w / 256) (h2 : t2 = t1 + t1 / 65536) (h3 : t3 = t2 + t2 / 4294967296) :
    t3 % 128 = p0 + (p1 + (p2 + (p3 + (p4 + (p5 + (p6 + p7)))))) ∧ w < 1000000000000000000 ∧ t1 < 2000000000000000000 ∧ t2 < 4000000000000000000 ∧ t3 < 8000000000000000000 := by
  have b0 : w < 1000000000000000000 := by clear h1 h2 h3; omega
  have e1 : w / 256 = 256 * (256 * (256 * (256 * (256 * (256 * p7 + p6) + p5) + p4) + p3) + p2) + p1 := by
    rw [hw, Nat.mul_add_div (by decide), Nat.div_eq_of_lt (a := p0) (by clear hw h1 h2 h3 b0; omega), Nat.add_zero]
  rw [e1, hw, lin1] at h1
  clear e1 hw
  have b1 : t1 < 2000000000000000000 := by clear h2 h3 b0; omega
  have e3 : t1 / 65536 = 256 * (256 * (256 * (256 * (256 * p7 + (p6 + p7)) + (p5 + p6)) + (p4 + p5)) + (p3 + p4)) + (p2 + p3) := by
    rw [h1, Nat.mul_add_div (by decide), Nat.div_eq_of_lt (a := 256 * (p1 + p2) + (p0 + p1)) (by clear h1 h2 h3 b0 b1; omega), Nat.add_zero]
  rw [e3, h1, lin2] at h2
  clear e3 h1
  have b2 : t2 < 4000000000000000000 := by clear h3 b0 b1; omega
  have e5 : t2 / 4294967296 = 256 * (256 * (256 * p7 + (p6 + p7)) + (p5 + p6 + p7)) + (p4 + p5 + p6 + p7) := by
    rw [h2, Nat.mul_add_div (by decide), Nat.div_eq_of_lt (a := 256 * (256 * (256 * (p3 + p4 + p5 + p6) + (p2 + p3 + p4 + p5)) + (p1 + p2 + p3 + p4)) + (p0 + p1 + p2 + p3)) (by clear h2 h3 b0 b1 b2; omega), Nat.add_zero]
  rw [e5, h2, lin3 _ _ (256 * (256 * p7 + (p6 + p7)) + (p5 + p6 + p7)) _ p4 p5 p6 p7 rfl] at h3
  clear e5 h2
  have b3 : t3 < 8000000000000000000 := by clear b0 b1 b2; omega
  refine ⟨?_, b0, b1, b2, b3⟩
  rw [h3, Nat.mul_add_mod, Nat.mod_eq_of_lt (by clear h3 b0 b1 b2 b3; omega)]
  clear h3 b0 b1 b2 b3
  omega
/-- Put together. -/
theorem ones_all (x : Nat) (hx : x < 18446744073709551616) (w t1 t2 t3 : Nat) (hw : w = side 8 x) (h1 : t1 = w + w / 256) (h2 : t2 = t1 + t1 / 65536) (h3 : t3 = t2 + t2 / 4294967296) :
    t3 % 128 = Tree.ones x ∧ w < 1000000000000000000 ∧ t1 < 2000000000000000000 ∧ t2 < 4000000000000000000 ∧ t3 < 8000000000000000000 := by
  have q0 : Tree.ones (x / 256 / 256 / 256 / 256 / 256 / 256 / 256 / 256) = 0 := by
    rw [show x / 256 / 256 / 256 / 256 / 256 / 256 / 256 / 256 = 0 by omega, Tree.ones_zero]
  have o : Tree.ones x = pop8 (x % 256) + (pop8 (x / 256 % 256) + (pop8 (x / 256 / 256 % 256) + (pop8 (x / 256 / 256 / 256 % 256) + (pop8 (x / 256 / 256 / 256 / 256 % 256) + (pop8 (x / 256 / 256 / 256 / 256 / 256 % 256) + (pop8 (x / 256 / 256 / 256 / 256 / 256 / 256 % 256) + pop8 (x / 256 / 256 / 256 / 256 / 256 / 256 / 256 % 256))))))) := by
    rw [ones_byte x, ones_byte (x / 256), ones_byte (x / 256 / 256), ones_byte (x / 256 / 256 / 256), ones_byte (x / 256 / 256 / 256 / 256), ones_byte (x / 256 / 256 / 256 / 256 / 256), ones_byte (x / 256 / 256 / 256 / 256 / 256 / 256), ones_byte (x / 256 / 256 / 256 / 256 / 256 / 256 / 256), q0]
    omega
  simp only [side] at hw
  have l0 := pop8_le (x % 256)
  have l1 := pop8_le (x / 256 % 256)
  have l2 := pop8_le (x / 256 / 256 % 256)
  have l3 := pop8_le (x / 256 / 256 / 256 % 256)
  have l4 := pop8_le (x / 256 / 256 / 256 / 256 % 256)
  have l5 := pop8_le (x / 256 / 256 / 256 / 256 / 256 % 256)
  have l6 := pop8_le (x / 256 / 256 / 256 / 256 / 256 / 256 % 256)
  have l7 := pop8_le (x / 256 / 256 / 256 / 256 / 256 / 256 / 256 % 256)
  rw [o]
  exact fold8 _ _ _ _ _ _ _ _ _ _ _ _ l0 l1 l2 l3 l4 l5 l6 l7 (by rw [hw, Nat.mul_zero, Nat.zero_add]) h1 h2 h3
end Pop
theorem and_lowP (n : Nat) (hn : n < 9223372036854775808) : bits .and .i64 (n : Int) 127 = ((n % 128 : Nat) : Int) := by
  have key : (BitVec.ofInt 64 (n : Int) &&& BitVec.ofInt 64 127).toNat = n % 128 := by
    rw [BitVec.toNat_and, BitVec.ofInt_natCast, BitVec.toNat_ofNat, Nat.mod_eq_of_lt (by omega), show (BitVec.ofInt 64 127).toNat = 2 ^ 7 - 1 by decide, Nat.and_two_pow_sub_one_eq_mod]
  show IntKind.i64.wrap ((BitVec.ofInt 64 (n : Int) &&& BitVec.ofInt 64 127).toNat : Nat) = _
  rw [key]
  exact IntWalk.i64_in _ (by omega)
set_option maxHeartbeats 1600000 in
set_option maxRecDepth 100000 in
theorem ones64_any (x : Nat) (hx : x < 18446744073709551616) (w : World) :
    Calls Tryd.prog 97 #[.int .u64 (x : Int)] w fun e w' => e = .returned (.int .i64 (Tree.ones x : Int)) ∧ w = w' := by
  obtain ⟨N, hN⟩ : ∃ N, N = Tree.ones x := ⟨_, rfl⟩
  rw [← hN]
  obtain ⟨a, ha⟩ : ∃ a, a = x / 2 &&& 6148914691236517205 := ⟨_, rfl⟩
  obtain ⟨b, hb⟩ : ∃ b, b = x &&& 6148914691236517205 := ⟨_, rfl⟩
  have al : a ≤ 6148914691236517205 := by rw [ha]; exact Nat.and_le_right
  have bl : b ≤ 6148914691236517205 := by rw [hb]; exact Nat.and_le_right
  obtain ⟨y, hy⟩ : ∃ y, y = a + b := ⟨_, rfl⟩
  obtain ⟨c, hc⟩ : ∃ c, c = y / 4 &&& 3689348814741910323 := ⟨_, rfl⟩
  obtain ⟨d, hd⟩ : ∃ d, d = y &&& 3689348814741910323 := ⟨_, rfl⟩
  have cl : c ≤ 3689348814741910323 := by rw [hc]; exact Nat.and_le_right
  have dl : d ≤ 3689348814741910323 := by rw [hd]; exact Nat.and_le_right
  obtain ⟨z, hz⟩ : ∃ z, z = c + d := ⟨_, rfl⟩
  obtain ⟨f, hf⟩ : ∃ f, f = z / 16 + z := ⟨_, rfl⟩
  obtain ⟨s, hs⟩ : ∃ s, s = f &&& 1085102592571150095 := ⟨_, rfl⟩
  obtain ⟨t1, h1⟩ : ∃ t, t = s + s / 256 := ⟨_, rfl⟩
  obtain ⟨t2, h2⟩ : ∃ t, t = t1 + t1 / 65536 := ⟨_, rfl⟩
  obtain ⟨t3, h3⟩ : ∃ t, t = t2 + t2 / 4294967296 := ⟨_, rfl⟩
  have hs8 : s = Pop.side 8 x := by
    rw [← Pop.s3_side, hs, hf, hz, hc, hd, hy, ha, hb]
    unfold Pop.s3 Pop.s2 Pop.s1
    rw [Pop.rep85, Pop.rep51, Pop.rep15]
  obtain ⟨k0, k1, k2, k3, k4⟩ := Pop.ones_all x hx s t1 t2 t3 hs8 h1 h2 h3
  have q1 : bits .and .u64 ((x : Int) / 2) 6148914691236517205 = (a : Int) := by
    rw [show (x : Int) / 2 = ((x / 2 : Nat) : Int) by omega, show (6148914691236517205 : Int) = ((6148914691236517205 : Nat) : Int) by rfl, u64_and_nat _ _ (by omega) (by decide), ha]
  have q2 : bits .and .u64 (x : Int) 6148914691236517205 = (b : Int) := by
    rw [show (6148914691236517205 : Int) = ((6148914691236517205 : Nat) : Int) by rfl, u64_and_nat _ _ hx (by decide), hb]
  have q3 : IntKind.u64.wrap ((a : Int) + (b : Int)) = (y : Int) := by rw [IntKind.wrap_u64]; omega
  have q4 : bits .and .u64 ((y : Int) / 4) 3689348814741910323 = (c : Int) := by
    rw [show (y : Int) / 4 = ((y / 4 : Nat) : Int) by omega, show (3689348814741910323 : Int) = ((3689348814741910323 : Nat) : Int) by rfl, u64_and_nat _ _ (by omega) (by decide), hc]
  have q5 : bits .and .u64 (y : Int) 3689348814741910323 = (d : Int) := by
    rw [show (3689348814741910323 : Int) = ((3689348814741910323 : Nat) : Int) by rfl, u64_and_nat _ _ (by omega) (by decide), hd]
  have q6 : IntKind.u64.wrap ((c : Int) + (d : Int)) = (z : Int) := by rw [IntKind.wrap_u64]; omega
  have q7 : IntKind.u64.wrap ((z : Int) / 16 + (z : Int)) = (f : Int) := by rw [IntKind.wrap_u64]; omega
  have q8 : bits .and .u64 (f : Int) 1085102592571150095 = (s : Int) := by
    rw [show (1085102592571150095 : Int) = ((1085102592571150095 : Nat) : Int) by rfl, u64_and_nat _ _ (by omega) (by decide), hs]
  have q9 : IntKind.u64.wrap ((s : Int) + (s : Int) / 256) = (t1 : Int) := by rw [IntKind.wrap_u64]; omega
  have q10 : IntKind.u64.wrap ((t1 : Int) + (t1 : Int) / 65536) = (t2 : Int) := by rw [IntKind.wrap_u64]; omega
  have q11 : IntKind.u64.wrap ((t2 : Int) + (t2 : Int) / 4294967296) = (t3 : Int) := by rw [IntKind.wrap_u64]; omega
  have q12 := IntWalk.i64_in (t3 : Int) (by omega)
  have q13 : bits .and .i64 (t3 : Int) 127 = (N : Int) := by rw [and_lowP _ (by omega), k0, hN]
  clear hN ha hb hy hc hd hz hf hs h1 h2 h3 hs8 k0 k1 k2 k3 k4 al bl cl dl
  go_enter Tryd.func97, Tryd.ntmps97
  go_wp2
  go_ret
  exact ⟨rfl, rfl⟩
set_option maxRecDepth 100000 in
theorem onesC_any (x : Nat) (hx : x < 18446744073709551616) (w : World) :
    Calls Tryd.prog 82 #[.int .u64 (x : Int)] w fun e w' => e = .returned (.int .i64 (Tree.ones x : Int)) ∧ w = w' := by
  have HC := Lib.hid (fun u => ones64_any x hx u)
  go_enter Tryd.func82, Tryd.ntmps82
  go_wp2_with (go_at_call 97; ((with_reducible refine (HC.out _).mono ?_); rintro e w1 ⟨rfl, rfl⟩))
  go_ret
  exact ⟨rfl, rfl⟩
set_option maxRecDepth 100000 in
theorem whole_any (x : Nat) (hx : x < 9223372036854775808) (w : World) :
    Calls Tryd.prog 63 #[.int .i64 (x : Int)] w fun e w' => e = .returned (.int .i64 (Tree.ones x : Int)) ∧ w = w' := by
  have HC := Lib.hid (fun u => onesC_any x (by omega) u)
  go_enter Tryd.func63, Tryd.ntmps63
  go_wp2_with (go_at_call 82; ((with_reducible refine (HC.out _).mono ?_); rintro e w1 ⟨rfl, rfl⟩))
  go_ret
  exact ⟨rfl, rfl⟩
end Go.Proofs.YtollcdalokhjaaaDoor
/-! ## Package front: what a front is in memory; New, Size, Copy. -/
namespace Go.Proofs.YtollcdalokhjaaaDoor
open Go.RowKit

/-- The cells of a front: how many leaves, forty hashes. -/
def fL (n : Nat) (Q : Hs) : List Value := .int .i64 (n : Int) :: sc Q
/-- Forty hashes of bytes 0. -/
def zQ : Hs := List.replicate 40 (List.replicate 32 0)
theorem zQ_len : zQ.length = 40 := by simp [zQ]
theorem zQ_all : all32 zQ := fun x hx => by
  unfold zQ at hx
  rw [List.eq_of_mem_replicate hx, List.length_replicate]
theorem fL_length (n : Nat) (Q : Hs) (hq : Q.length = 40) (ha : all32 Q) : (fL n Q).length = 1281 := by
  unfold fL
  rw [List.length_cons, sc_length Q ha, hq]
set_option maxRecDepth 1000000 in
theorem info_front : (Tryd.prog.info? 66).map (·.size) = some 1281 := by kernel_rfl
set_option maxRecDepth 1000000 in
theorem info_front0 : (Tryd.prog.info? 66).map (fun i => (i.zero, i.size)) = some (some (.agg (fL 0 zQ).toArray), 1281) := by kernel_rfl
/-- Block b is a front of n leaves, with these forty hashes. -/
def Front (b n : Nat) (Q : Hs) (w : World) : Prop := Q.length = 40 ∧ all32 Q ∧ w.heap[b]? = some (.cells (fL n Q).toArray 66 (0, 0))
theorem Front.lt {b n : Nat} {Q : Hs} {w : World} (h : Front b n Q w) : b < w.heap.size := (Array.getElem?_eq_some_iff.1 h.2.2).1
theorem Front.kept {b q n : Nat} {Q : Hs} {w w' : World} (h : Front b n Q w) (k : Only q w w') (hq : b ≠ q) : Front b n Q w' := ⟨h.1, h.2.1, (k.block b h.lt hq).trans h.2.2⟩
theorem Front.old {b B n : Nat} {Q : Hs} {w w' : World} (h : Front b n Q w) (k : Below B w w') (hq : b < B) : Front b n Q w' := ⟨h.1, h.2.1, (k.block b hq).trans h.2.2⟩
theorem Front.old' {b n : Nat} {Q : Hs} {w w' : World} (h : Front b n Q w) (k : Below w.heap.size w w') : Front b n Q w' := h.old k h.lt
theorem Front.at0 {b n : Nat} {Q : Hs} {w : World} (h : Front b n Q w) : w.cell? ⟨b, 0, none⟩ = some (.int .i64 (n : Int)) := by
  rw [cell_of h.2.2]; simp [fL]
theorem Front.fz {b n : Nat} {Q : Hs} {w : World} (h : Front b n Q w) (i : Nat) : w.frozen? ⟨b, i, none⟩ = false := fz_of h.2.2 i
theorem Front.range {b n : Nat} {Q : Hs} {w : World} (h : Front b n Q w) : w.rangeAt b 0 (fL n Q) := fun j x hx => by
  rw [Nat.zero_add, cell_of h.2.2]; simpa using hx
theorem Front.rangeQ {b n : Nat} {Q : Hs} {w : World} (h : Front b n Q w) (k : Nat) (hk : k < Q.length) : w.rangeAt b (1 + k * 32) (Q[k].map u8V) := fun j x hx => by
  rw [cell_of h.2.2]
  have := sc_get Q h.2.1 k hk j x hx
  rw [show 1 + k * 32 + j = (k * 32 + j) + 1 by omega]
  simpa [fL] using this
theorem Front.sums {b n : Nat} {Q : Hs} {w : World} (h : Front b n Q w) : Sums w (.slice (some ⟨b, 1, none⟩) 40 40) Q := by
  have := Sums.mk (w := w) (l := Q) (b := b) (off := 1) (cap := 40) (by rw [h.1]; exact Nat.le_refl _) (by decide) h.2.1 h.lt (fun j hj => h.rangeQ j hj)
  rwa [h.1] at this
theorem Front.new (w : World) (n : Nat) (Q : Hs) (hq : Q.length = 40) (ha : all32 Q) : Front w.heap.size n Q (w.alloc (.cells (fL n Q).toArray 66)) := ⟨hq, ha, heap_alloc_last w _⟩
/-- Another number of leaves. -/
theorem Front.set0 {b n : Nat} {Q : Hs} {w : World} (h : Front b n Q w) (m : Nat) : Front b m Q (w.setCell ⟨b, 0, none⟩ (.int .i64 (m : Int))) := by
  refine ⟨h.1, h.2.1, ?_⟩
  have := heap_set (i := 0) h.2.2 (.int .i64 (m : Int))
  rw [this]
  simp [fL]
theorem sc_set : ∀ (Q : Hs) (k : Nat) (x : List UInt8), all32 Q → x.length = 32 → k < Q.length → sc (Q.set k x) = (sc Q).take (k * 32) ++ (x.map u8V ++ (sc Q).drop (k * 32 + 32))
  | q :: Q, 0, x, ha, hx, _ => by
    have hq : (q.map u8V).length = 32 := by rw [List.length_map]; exact ha q (by simp)
    rw [List.set_cons_zero, sc_cons, sc_cons, Nat.zero_mul, List.take_zero, List.nil_append, List.drop_append_of_le_length (by omega), List.drop_of_length_le (by omega), List.nil_append]
  | q :: Q, k + 1, x, ha, hx, hk => by
    have hq : (q.map u8V).length = 32 := by rw [List.length_map]; exact ha q (by simp)
    have ih := sc_set Q k x (fun y hy => ha y (by simp [hy])) hx (by simpa using hk)
    rw [List.set_cons_succ, sc_cons, sc_cons, ih]
    have e1 : ((q.map u8V) ++ sc Q).take ((k + 1) * 32) = q.map u8V ++ (sc Q).take (k * 32) := by
      rw [List.take_append, List.take_of_length_le (by omega), hq, show (k + 1) * 32 - 32 = k * 32 by omega]
    have e2 : ((q.map u8V) ++ sc Q).drop ((k + 1) * 32 + 32) = (sc Q).drop (k * 32 + 32) := by
      rw [List.drop_append, List.drop_of_length_le (by omega), hq, List.nil_append, show (k + 1) * 32 + 32 - 32 = k * 32 + 32 by omega]
    rw [e1, e2, List.append_assoc]
theorem all32.set {Q : Hs} (h : all32 Q) (k : Nat) {x : List UInt8} (hx : x.length = 32) : all32 (Q.set k x) := fun y hy => by
  rcases List.mem_or_eq_of_mem_set hy with h1 | rfl
  · exact h y h1
  · exact hx
/-- Another hash at place k. -/
theorem Front.setQ {b n : Nat} {Q : Hs} {w : World} (h : Front b n Q w) (k : Nat) (hk : k < 40) {x : List UInt8} (hx : x.length = 32) : Front b n (Q.set k x) (w.setCells b (1 + k * 32) (x.map u8V)) := by
  refine ⟨by rw [List.length_set]; exact h.1, h.2.1.set k hx, ?_⟩
  have hl := fL_length n Q h.1 h.2.1
  have := heap_setCells b 66 (x.map u8V) (1 + k * 32) (fL n Q) w (by rw [List.length_map, hl, hx]; omega) h.2.2
  rw [this]
  congr 3
  unfold fL
  rw [sc_set Q k x h.2.1 hx (by rw [h.1]; exact hk), List.length_map, hx, Nat.add_comm 1, List.take_succ_cons, show k * 32 + 1 + 32 = (k * 32 + 32) + 1 by omega, List.drop_succ_cons]
  rfl
theorem Front.there {b n : Nat} {Q : Hs} {w : World} (h : Front b n Q w) (k : Nat) (hk : k < 40) {x : List UInt8} (hx : x.length = 32) : w.there b (1 + k * 32) (x.map u8V).toArray.size := by
  have hl := fL_length n Q h.1 h.2.1
  rw [show (x.map u8V).toArray.size = 32 from (List.size_toArray).trans (by rw [List.length_map, hx])]
  exact there_of h.2.2 (by rw [hl]; omega)
theorem fL_one (n : Nat) (Q : Hs) : (fL n Q).toArray.all (·.oneCell') = true := by
  refine all_oneCell_toArray fun x hx => ?_
  unfold fL at hx
  rcases List.mem_cons.1 hx with rfl | hx
  · rfl
  · exact sc_one Q x hx

theorem fpeaks_nil (w : World) : Calls Tryd.prog 55 #[.pointer none] w fun e w' => e = .returned (.slice none 0 0) ∧ w = w' := by
  go_enter Tryd.func55, Tryd.ntmps55
  go_wp2
  go_ret
  exact ⟨rfl, rfl⟩
end Go.Proofs.YtollcdalokhjaaaDoor
/-! ## Package front: Peaks. -/
namespace Go.Proofs.YtollcdalokhjaaaDoor
open Go.RowKit

theorem fld_peaks (b : Nat) (w : World) : (Instr.fieldAt 66 (.pointer (some ⟨b, 0, none⟩)) 1).run Tryd.prog w = .ok (.pointer (some ⟨b, 1, none⟩)) w := by
  go_simp
theorem fld_size (b : Nat) (w : World) : (Instr.fieldAt 66 (.pointer (some ⟨b, 0, none⟩)) 0).run Tryd.prog w = .ok (.pointer (some ⟨b, 0, none⟩)) w := by
  go_simp
theorem load_i64 {b o : Nat} {n : Int} {w : World} (h : w.cell? ⟨b, o, none⟩ = some (.int .i64 n)) : (Instr.loadAt 3 (.pointer (some ⟨b, o, none⟩))).run Tryd.prog w = .ok (.int .i64 n) w := by
  go_simp
set_option maxRecDepth 1000000 in
theorem alen40 : Tryd.prog.arrayLen 64 = 40 := by kernel_rfl
set_option maxRecDepth 1000000 in
theorem aelem40 : Tryd.prog.elem 64 = 33 := by kernel_rfl
set_option maxRecDepth 1000000 in
theorem aslice (b k : Nat) (h : k ≤ 40) (w : World) : (Instr.sliceAt 64 (.pointer (some ⟨b, 1, none⟩)) none (some (.int .i64 (k : Int))) none).run Tryd.prog w = .ok (.slice (some ⟨b, 1, none⟩) k 40) w := by
  have hl := alen40
  rw [run_sliceAt_array_h (P := Tryd.prog) w _ _ Tryd.underlying64 _ _ (by omega) (by rw [hl]; omega), aelem40, size_sum, hl]
  simp [Result.andThen, slicedAt, Addr.add]
def RT.ownS (B : Nat) (l : Hs) : RT := ⟨fun v w => OwnS B w v l, fun _ _ _ h k => h.kept k⟩
set_option maxHeartbeats 1600000 in
set_option maxRecDepth 100000 in
theorem fpeaks_any (b n : Nat) (Q : Hs) (w : World) (h : Front b n Q w) (hn : n ≤ 1099511627776) :
    Calls Tryd.prog 55 #[.pointer (some ⟨b, 0, none⟩)] w fun e w' => ∃ v', e = .returned v' ∧ OwnS w.heap.size w' v' (Q.take (Tree.ones n)) ∧ Below w.heap.size w w' := by
  have hk := Tree.ones_most n hn
  have HW := Lib.hid (fun u => (whole_any n (by omega) u).mono fun e w' (h : _ ∧ _) => (⟨h.1, h.2 ▸ Below.refl _ _⟩ : _ ∧ Below u.heap.size u w'))
  obtain ⟨k, hk0⟩ : ∃ k, k = Tree.ones n := ⟨_, rfl⟩
  rw [← hk0] at hk HW ⊢
  obtain ⟨P, hP⟩ : ∃ P, P = Q.take k := ⟨_, rfl⟩
  have hPl : P.length = k := by rw [hP, List.length_take, h.1]; omega
  have HC : Hid (∀ u, Below w.heap.size w u → Calls Tryd.prog 33 #[.slice (some ⟨b, 1, none⟩) k 40] u fun e w' => ∃ v', e = .returned v' ∧ OwnS u.heap.size w' v' P ∧ Below u.heap.size u w') := Lib.hid fun u hu => by
    have hs := (h.old' hu).sums.head k (by rw [h.1]; exact hk)
    rw [← hP] at hs
    exact sclone_any _ P u hs (by omega)
  rw [← hP]
  have HF := Lib.hid h
  clear h hP hPl hk0
  go_enter Tryd.func55, Tryd.ntmps55
  go_upto_region 3 with (fail)
  try simp only [Act.put]
  refine wp_region_tab [RT.is (.pointer (some ⟨b, 0, none⟩)), RT.is (.pointer (some ⟨b, 0, none⟩)), RT.is (.pointer (some ⟨b, 1, none⟩)), RT.is (.pointer (some ⟨b, 0, none⟩)), RT.is (.pointer (some ⟨b, 0, none⟩)), RT.is (.pointer (some ⟨b, 0, none⟩)), RT.is (.int .i64 (n : Int)), RT.is (.int .i64 (k : Int)), RT.is (.slice (some ⟨b, 1, none⟩) k 40), RT.ownS w.heap.size P, RT.ownS w.heap.size P] (by kernel_rfl) (by kernel_rfl) (by kernel_rfl) (by kernel_rfl) ⟨?_, ?_, ?_, ?_, ?_, ?_, ?_, ?_, ?_, ?_, ?_, trivial⟩ ?_
  · intro ac w' hF hL hP hU K hK
    have hB := below_undrew hL
    have e0 : ac.eval (.tmp 0) = .pointer (some ⟨b, 0, none⟩) := hF.at 0 (by kernel_rfl)
    exact rop_move _ rfl e0 (wanted_none rfl) (hK _ _ (le8_refl _) rfl)
  · intro ac w' hF hL hP hU K hK
    have hB := below_undrew hL
    have e5 : ac.eval (.tmp 5) = .pointer (some ⟨b, 0, none⟩) := hP 0 (by kernel_rfl)
    exact rop_nilG _ rfl e5 (wanted_none rfl) (hK _ _ (le8_refl _) rfl)
  · intro ac w' hF hL hP hU K hK
    have hB := below_undrew hL
    have e6 : ac.eval (.tmp 6) = .pointer (some ⟨b, 0, none⟩) := hP 1 (by kernel_rfl)
    exact rop_fld _ _ _ rfl e6 (fld_peaks b w') (wanted_none rfl) (hK _ _ (le8_refl _) rfl)
  · intro ac w' hF hL hP hU K hK
    have hB := below_undrew hL
    have e0 : ac.eval (.tmp 0) = .pointer (some ⟨b, 0, none⟩) := hF.at 0 (by kernel_rfl)
    exact rop_move _ rfl e0 (wanted_none rfl) (hK _ _ (le8_refl _) rfl)
  · intro ac w' hF hL hP hU K hK
    have hB := below_undrew hL
    have e8 : ac.eval (.tmp 8) = .pointer (some ⟨b, 0, none⟩) := hP 3 (by kernel_rfl)
    exact rop_nilG _ rfl e8 (wanted_none rfl) (hK _ _ (le8_refl _) rfl)
  · intro ac w' hF hL hP hU K hK
    have hB := below_undrew hL
    have e9 : ac.eval (.tmp 9) = .pointer (some ⟨b, 0, none⟩) := hP 4 (by kernel_rfl)
    exact rop_fld _ _ _ rfl e9 (fld_size b w') (wanted_none rfl) (hK _ _ (le8_refl _) rfl)
  · intro ac w' hF hL hP hU K hK
    have hB := below_undrew hL
    have e10 : ac.eval (.tmp 10) = .pointer (some ⟨b, 0, none⟩) := hP 5 (by kernel_rfl)
    exact rop_ld _ _ rfl e10 (load_i64 ((HF.out.old' hB).at0)) (wanted_none rfl) (hK _ _ (le8_refl _) rfl)
  · intro ac w' hF hL hP hU K hK
    have hB := below_undrew hL
    have e11 : ac.eval (.tmp 11) = .int .i64 (n : Int) := hP 6 (by kernel_rfl)
    refine rop_call 63 _ _ rfl #[.int .i64 (n : Int)] (by simp [e11]) (by kernel_rfl) (wanted_none rfl) ?_
    refine (HW.out w').mono ?_
    rintro e w2 ⟨rfl, hb⟩
    exact ⟨_, rfl, hK _ _ hb rfl⟩
  · intro ac w' hF hL hP hU K hK
    have hB := below_undrew hL
    have e7 : ac.eval (.tmp 7) = .pointer (some ⟨b, 1, none⟩) := hP 2 (by kernel_rfl)
    have e12 : ac.eval (.tmp 12) = .int .i64 (k : Int) := hP 7 (by kernel_rfl)
    exact rop_sliceG _ _ _ _ _ rfl e7 rfl (by simp [e12]) rfl (aslice b k hk w') (wanted_none rfl) (hK _ _ (le8_refl _) rfl)
  · intro ac w' hF hL hP hU K hK
    have hB := below_undrew hL
    have e13 : ac.eval (.tmp 13) = .slice (some ⟨b, 1, none⟩) k 40 := hP 8 (by kernel_rfl)
    refine rop_call 33 _ _ rfl #[.slice (some ⟨b, 1, none⟩) k 40] (by simp [e13]) (by kernel_rfl) (wanted_none rfl) ?_
    refine (HC.out w' hB).mono ?_
    rintro e w2 ⟨v2, rfl, ho, hb⟩
    exact ⟨_, rfl, hK _ _ hb (ho.lower hB.size)⟩
  · intro ac w' hF hL hP hU K hK
    have hB := below_undrew hL
    have e14 : OwnS w.heap.size w' (ac.eval (.tmp 14)) P := hP 9 (by kernel_rfl)
    exact rop_assign _ rfl rfl (wanted_none rfl) (hK _ _ (le8_refl _) e14)
  · intro ac w' hF hB hT
    have e2 : OwnS w.heap.size w' (ac.eval (.tmp 2)) P := hT 10 (by decide)
    rw [hF.setsG [5, 6, 7, 8, 9, 10, 11, 12, 13, 14, 2] (by kernel_rfl)]
    simp only [List.foldl_cons, List.foldl_nil, List.setIfInBounds_toArray, List.set_cons_succ, List.set_cons_zero]
    generalize ac.eval (.tmp 5) = u5
    generalize ac.eval (.tmp 6) = u6
    generalize ac.eval (.tmp 7) = u7
    generalize ac.eval (.tmp 8) = u8
    generalize ac.eval (.tmp 9) = u9
    generalize ac.eval (.tmp 10) = u10
    generalize ac.eval (.tmp 11) = u11
    generalize ac.eval (.tmp 12) = u12
    generalize ac.eval (.tmp 13) = u13
    generalize ac.eval (.tmp 14) = u14
    generalize ac.eval (.tmp 2) = v2 at e2 ⊢
    clear  hT hF ac
    go_wp2
    go_ret
    exact ⟨_, rfl, e2, hB⟩
end Go.Proofs.YtollcdalokhjaaaDoor
/-! ## The library's slices.Backward over hashes: what it hands to the loop's body, one behind the other. -/
namespace Go.Proofs.YtollcdalokhjaaaDoor
open Go.RowKit Go.Shelf

attribute [local go_sem] Oper.semAt_some

/-- What has come when j rounds are over: the last j hashes, the last one first. -/
def dnS (c : Hs) (j : Nat) : List (Nat × List UInt8) := (List.range j).map fun i => (c.length - 1 - i, c.getD (c.length - 1 - i) [])
theorem dnS_succ (c : Hs) (j : Nat) : dnS c (j + 1) = dnS c j ++ [(c.length - 1 - j, c.getD (c.length - 1 - j) [])] := by simp [dnS, List.range_succ]
theorem dnS_length (c : Hs) (j : Nat) : (dnS c j).length = j := by simp [dnS]
theorem dnS_fold (f : List UInt8 → List UInt8 → List UInt8) (c : Hs) : ∀ (j : Nat) (p : List UInt8), j ≤ c.length → (dnS c j).foldl (fun r x => f x.2 r) p = (c.drop (c.length - j)).foldr f p
  | 0, p, _ => by simp [dnS]
  | j + 1, p, h => by
    have e : c.drop (c.length - (j + 1)) = c.getD (c.length - 1 - j) [] :: c.drop (c.length - j) := by
      rw [List.drop_eq_getElem_cons (by omega), show c.length - (j + 1) + 1 = c.length - j by omega]
      congr 1
      rw [List.getD_eq_getElem?_getD, show c.length - 1 - j = c.length - (j + 1) by omega, List.getElem?_eq_getElem (by omega)]
      rfl
    rw [dnS_succ, List.foldl_append, dnS_fold f c j p (by omega), e]
    rfl
theorem rootP_fold (c : Hs) (p : List UInt8) : Tree.rootP (c ++ [p]) = c.foldr Tree.node p := by
  induction c with
  | nil => rfl
  | cons a c ih =>
    rw [List.cons_append, Tree.rootP_cons _ _ (by simp), ih]
    rfl
def fpad32 (y : List UInt8) : List UInt8 := if y.length = 32 then y else List.replicate 32 0
theorem fpad32_of {y : List UInt8} (h : y.length = 32) : fpad32 y = y := if_pos h
theorem fpad32_length (y : List UInt8) : (fpad32 y).length = 32 := by
  unfold fpad32
  split
  · assumption
  · rw [List.length_replicate]
theorem foldr_pad (c : Hs) (h : all32 c) (p : List UInt8) : c.foldr (fun a b => Tree.node (fpad32 a) b) p = c.foldr Tree.node p := by
  induction c with
  | nil => rfl
  | cons a c ih => rw [List.foldr_cons, List.foldr_cons, ih (fun x hx => h x (by simp [hx])), fpad32_of (h a (by simp))]
theorem load_sumT {w : World} {g o : Nat} {x : List UInt8} (hx : x.length = 32) (h : w.rangeAt g o (x.map u8V)) : (Instr.loadAt 33 (.pointer (some ⟨g, o, none⟩))).run Tryd.prog w = .ok (sumV x) w :=
  run_loadAt_mid _ _ _ _ _ _ h Tryd.underlying33 rfl (sum_info' hx)

/-- Below n₀ nothing but block rb turns. -/
def KeepX (rb n₀ : Nat) (A B : World) : Prop := A.heap.size ≤ B.heap.size ∧ ∀ i, i < n₀ → i ≠ rb → B.heap[i]? = A.heap[i]?
theorem KeepX.refl (rb n₀ : Nat) (A : World) : KeepX rb n₀ A A := ⟨Nat.le_refl _, fun _ _ _ => rfl⟩
theorem KeepX.trans {rb n₀ : Nat} {A B C : World} (h : KeepX rb n₀ A B) (k : KeepX rb n₀ B C) : KeepX rb n₀ A C := ⟨Nat.le_trans h.1 k.1, fun i hi hr => (k.2 i hi hr).trans (h.2 i hi hr)⟩
theorem KeepX.cell {rb n₀ : Nat} {A B : World} (h : KeepX rb n₀ A B) {i : Nat} (hi : i < n₀) (hr : i ≠ rb) (o : Nat) : B.cell? ⟨i, o, none⟩ = A.cell? ⟨i, o, none⟩ := World.cell?_of_block (w := A) (h.2 i hi hr)
theorem KeepX.range {rb n₀ : Nat} {A B : World} (h : KeepX rb n₀ A B) {i o : Nat} (hi : i < n₀) (hr : i ≠ rb) {cs : List Value} (r : A.rangeAt i o cs) : B.rangeAt i o cs := fun j v hv => (h.cell hi hr (o + j)).trans (r j v hv)
theorem KeepX.below {rb n₀ : Nat} {A B : World} (h : Below n₀ A B) : KeepX rb n₀ A B := ⟨h.size, fun i hi _ => h.block i hi⟩
theorem KeepX.put {rb n₀ : Nat} {w : World} (hn : n₀ ≤ w.heap.size) (W : World) (l : Nat) (o o' : Obj) (hl : w.heap.size ≤ l) (h : W.heap[l]? = some o) (h1 : o.isCells = false) (h2 : o.isWalk = false) : KeepX rb n₀ W (W.putObj l o') := KeepX.below (belowK_b hn W l o o' hl h h1 h2)

set_option maxRecDepth 100000 in
set_option maxHeartbeats 2000000 in
theorem back1_in (F : Fence) (n : Nat) (h7 : F.fn 78) (hro : F.round = none) (hn : 1 ≤ n) (l Bs n₀ rb g off cap : Nat) (c : Hs) (hreach : c.length ≤ 1000000) (hb : g < n₀) (hgr : g ≠ rb) (hBr : Bs ≠ rb) (J Jx : List (Nat × List UInt8) → World → Prop)
    (hY : ∀ pre x W, x.2.length = 32 → J pre W → pre.length < c.length → YieldAt F (n - 1) Tryd.prog l #[.int .i64 (x.1 : Int), sumV x.2] W fun e W' =>
      (e = .returned (.bool true) ∧ J (pre ++ [x]) W' ∧ KeepX rb n₀ W W') ∨ (e = .returned (.bool false) ∧ Jx (pre ++ [x]) W'))
    (W : World) (hBs : W.cell? ⟨Bs, 0, none⟩ = some (.slice (some ⟨g, off, none⟩) c.length cap)) (hBn : Bs < n₀) (hok : all32 c) (hc : ∀ k (hk : k < c.length), W.rangeAt g (off + k * 32) (c[k].map u8V)) (h0 : J [] W) :
    CallsIn F n Tryd.prog 78 #[.func (.yield l) #[] #[], .pointer (some ⟨Bs, 0, none⟩)] W fun e W' => (∃ v, e = .returned v) ∧
      ((∃ ys, ys = dnS c c.length ∧ J ys W') ∨ (∃ pre, (∃ k, k ≤ c.length ∧ pre = dnS c k) ∧ Jx pre W')) := by
  refine callsIn_of_wp Tryd.func78 rfl h7 ?_ hro
  simp only [Tryd.ntmps78, List.size_toArray, List.length_cons, List.length_nil, Nat.reduceAdd, Nat.reduceSub, Array.replicate_succ, Array.replicate_zero, List.push_toArray, List.append_toArray, List.nil_append, List.cons_append]
  gi_wp2
  gi_loopw [3] (fun i wr => ∃ k : Nat, k ≤ c.length ∧ ((k = 0 ∧ i = .int .i64 (-1)) ∨ ∃ m : Nat, k = m + 1 ∧ i = .int .i64 m) ∧ J (dnS c (c.length - k)) wr ∧ KeepX rb n₀ W wr)
    (fun i _ => (intOf i + 1).toNat)
  case atStart =>
    refine ⟨c.length, Nat.le_refl _, ?_, by rw [Nat.sub_self]; exact h0, KeepX.refl _ _ _⟩
    by_cases h : c.length = 0
    · exact .inl ⟨h, by rw [h]; rfl⟩
    · exact .inr ⟨c.length - 1, by omega, by congr 1; omega⟩
  case round =>
    obtain ⟨k, hk, hi, hJs, hnx⟩ := hrel
    have hBs' : wr.cell? ⟨Bs, 0, none⟩ = some (.slice (some ⟨g, off, none⟩) c.length cap) := (hnx.cell hBn hBr 0).trans hBs
    rcases hi with ⟨rfl, rfl⟩ | ⟨m, rfl, rfl⟩
    · gi_wp2
      go_end0
      exact ⟨⟨_, rfl⟩, .inl ⟨_, rfl, hJs⟩⟩
    · have hm : m < c.length := by omega
      obtain ⟨y, hy0⟩ : ∃ y, y = c.getD m [] := ⟨_, rfl⟩
      have hye : y = c[m] := by rw [hy0, List.getD_eq_getElem?_getD, List.getElem?_eq_getElem hm]; rfl
      have hyl : y.length = 32 := by rw [hye]; exact hok _ (List.getElem_mem _)
      have c1 : wr.rangeAt g (off + m * 32) (y.map u8V) := by rw [hye]; exact hnx.range hb hgr (hc m hm)
      have HY1 := Lib.hid hyl
      have HC1 := Lib.hid c1
      have hidx := fun u => index_sums g off c.length cap m hm u
      obtain ⟨fn, tmps, assign, body, hy, hR⟩ := hY _ (m, y) wr hyl hJs (by rw [dnS_length]; omega)
      dsimp only at hy
      have hs : dnS c (c.length - (m + 1)) ++ [(m, y)] = dnS c (c.length - m) := by
        have := dnS_succ c (c.length - (m + 1))
        rw [show c.length - (m + 1) + 1 = c.length - m by omega, show c.length - 1 - (c.length - (m + 1)) = m by omega, ← hy0] at this
        exact this.symm
      rw [hs] at hR
      clear hc hs hY hy0 hye hyl c1
      gi_wp2_with (refine wpListIn_ld rfl 33 (.tmp 15) rfl rfl (load_sumT HY1.out HC1.out) ?_)
      refine hR.mono ?_
      rintro e W3 (⟨rfl, hJ3, hk3⟩ | ⟨rfl, hJx3⟩)
      · gi_wp2
        go_roundw
        case rel =>
          refine ⟨m, by omega, ?_, hJ3, hnx.trans hk3⟩
          by_cases h : m = 0
          · exact .inl ⟨h, by rw [h]; rfl⟩
          · exact .inr ⟨m - 1, by omega, by congr 1; omega⟩
        case measure => simp [intOf]
      · gi_wp2
        refine bodyPost_ret (results_none rfl _ _ _) rfl ?_
        exact ⟨⟨_, rfl⟩, .inr ⟨_, ⟨c.length - m, by omega, rfl⟩, hJx3⟩⟩

set_option maxRecDepth 100000 in
set_option maxHeartbeats 1000000 in
/-- .. of an empty cache: no round. -/
theorem back1_nil_in (F : Fence) (n : Nat) (h7 : F.fn 78) (hro : F.round = none) (l Bs : Nat) (a : Option Addr) (cap : Nat) (J : List (Nat × List UInt8) → World → Prop) (W : World) (hBs : W.cell? ⟨Bs, 0, none⟩ = some (.slice a 0 cap)) (h0 : J [] W) :
    CallsIn F n Tryd.prog 78 #[.func (.yield l) #[] #[], .pointer (some ⟨Bs, 0, none⟩)] W fun e W' => (∃ v, e = .returned v) ∧ J [] W' := by
  refine callsIn_of_wp Tryd.func78 rfl h7 ?_ hro
  simp only [Tryd.ntmps78, List.size_toArray, List.length_cons, List.length_nil, Nat.reduceAdd, Nat.reduceSub, Array.replicate_succ, Array.replicate_zero, List.push_toArray, List.append_toArray, List.nil_append, List.cons_append]
  gi_wp2
  gi_loopw [3] (fun i wr => i = .int .i64 (-1) ∧ J [] wr) (fun _ _ => 0)
  case atStart => exact ⟨rfl, h0⟩
  case round =>
    obtain ⟨rfl, hJs⟩ := hrel
    gi_wp2
    go_end0
    exact ⟨⟨_, rfl⟩, hJs⟩

set_option maxHeartbeats 1000000 in
theorem back_in (F : Fence) (n : Nat) (h5 : F.fn 56) (hro : F.round = none) (a : Option Addr) (len cap : Nat) (w : World) :
    CallsIn F n Tryd.prog 56 #[.slice a len cap] w fun e w' => e = .returned (.func (.func 78) #[] #[.pointer (some ⟨w.heap.size, 0, none⟩)]) ∧ w' = w.alloc (.cells #[.slice a len cap] 27) := by
  refine callsIn_of_wp Tryd.func56 rfl h5 ?_ hro
  simp only [Tryd.ntmps56, List.size_toArray, List.length_cons, List.length_nil, Nat.reduceAdd, Nat.reduceSub, Array.replicate_succ, Array.replicate_zero, List.push_toArray, List.append_toArray, List.nil_append, List.cons_append]
  gi_wp2
  go_ret
  exact ⟨rfl, rfl⟩

theorem back_stops (F : Fence) (n : Nat) (h7 : F.fn 78) (hro : F.round = none) (hn : 1 ≤ n) (Bs n₀ : Nat) (cv : Value) (c : Hs) (hreach : c.length ≤ 1000000) (w : World) (hBs : Bs < n₀) (hn₀ : n₀ ≤ w.heap.size)
    (hc : w.cell? ⟨Bs, 0, none⟩ = some cv) (hI : SumsB n₀ w cv c) (rb : Nat) (hBr : Bs ≠ rb) (hgr : ∀ g off n c', cv = .slice (some ⟨g, off, none⟩) n c' → g ≠ rb) :
    SeqStopsK F n Tryd.prog 78 #[.pointer (some ⟨Bs, 0, none⟩)] (fun x : Nat × List UInt8 => #[Value.int .i64 (x.1 : Int), sumV (fpad32 x.2)]) (KeepX rb n₀) (fun ys => ys = dnS c c.length)
      (fun pre => ∃ k, k ≤ c.length ∧ pre = dnS c k) c.length w := fun l J Jx W hW _ _ hY h0 => by
  have hc' := (hW.cell (p := ⟨Bs, 0, none⟩) (by show Bs < w.heap.size; omega)).trans hc
  obtain ⟨a, cap, rfl, -, -⟩ := hI.1.slice
  by_cases hx : c.length = 0
  · obtain rfl := List.eq_nil_of_length_eq_zero hx
    exact (back1_nil_in F n h7 hro l Bs a cap J W hc' h0).mono fun e W' ⟨he, hj⟩ => ⟨he, .inl ⟨_, rfl, hj⟩⟩
  · obtain ⟨b, off, rfl, hb, -, -⟩ := hI.1.at 0 (by omega)
    have hbn := hI.2 b off _ _ rfl (by omega)
    refine back1_in F n h7 hro hn l Bs n₀ rb b off cap c hreach hbn (hgr b off _ _ rfl) hBr J Jx (fun pre x W' hx32 hJ hlt => by have := hY pre x W' hJ hlt; dsimp only at this; rw [fpad32_of hx32] at this; exact this) W hc' hBs hI.1.ok (fun k hk => ?_) h0
    obtain ⟨b', off', e, -, -, hr⟩ := hI.1.at k hk
    injection e with e
    injection e with e1 e2 _
    subst e1 e2
    exact below_range' hW hb hr
end Go.Proofs.YtollcdalokhjaaaDoor
/-! ## Package front: Add. -/
namespace Go.Proofs.YtollcdalokhjaaaDoor
open Go.RowKit

/-- How the world goes on, where from effect N on blocks of the call's own may turn. -/
def GLf (N : Nat) (k k' : Nat) (w w' : World) : Prop := (k = k' ∧ w = w') ∨ (k' = k + 1 ∧ (k' < N → Below w.heap.size w w'))
theorem GLf.same {N k : Nat} {w : World} : GLf N k k w w := .inl ⟨rfl, rfl⟩
theorem GLf.old {N k : Nat} {w w' : World} (hb : Below w.heap.size w w') : GLf N k (k + 1) w w' := .inr ⟨rfl, fun _ => hb⟩
theorem GLf.own {N k : Nat} {w w' : World} (h : N ≤ k + 1) : GLf N k (k + 1) w w' := .inr ⟨rfl, fun h' => absurd h' (by omega)⟩
set_option maxRecDepth 1000000 in
theorem idx40 (b k : Nat) (h : k < 40) (w : World) : (Instr.indexAt 64 (.pointer (some ⟨b, 1, none⟩)) (.int .i64 (k : Int))).run Tryd.prog w = .ok (.pointer (some ⟨b, 1 + k * 32, none⟩)) w := by
  have hl := alen40
  have he := aelem40
  have hs := size_sum
  have h' : (k : Int) < 40 := by omega
  have h2 : ¬ (40 : Int) ≤ (k : Int) := by omega
  go_simp
theorem range_of {w : World} {q : Nat} {x : List UInt8} (h : w.heap[q]? = some (.cells (x.map u8V).toArray 33 (0, 0))) : w.rangeAt q 0 (x.map u8V) := fun j v hv => by
  rw [Nat.zero_add, cell_of h]; simpa using hv
theorem sum_thereF {w : World} {q : Nat} {x y : List UInt8} (h : w.heap[q]? = some (.cells (x.map u8V).toArray 33 (0, 0))) (hx : x.length = 32) (hy : y.length = 32) : w.there q 0 (y.map u8V).toArray.size := by
  rw [show (y.map u8V).toArray.size = 32 from (List.size_toArray).trans (by rw [List.length_map, hy])]; exact there_of h (by simp [hx])
theorem set_sumF (w : World) (q : Nat) (x y : List UInt8) (hx : x.length = 32) (hy : y.length = 32) (h : w.heap[q]? = some (.cells (x.map u8V).toArray 33 (0, 0))) : (w.setCells q 0 (y.map u8V)).heap[q]? = some (.cells (y.map u8V).toArray 33 (0, 0)) := by
  have := heap_setCells q 33 (y.map u8V) 0 (x.map u8V) w (by simp [hx, hy]) h
  rw [this, List.take_zero, List.nil_append, List.drop_eq_nil_of_le (by simp [hx, hy]), List.append_nil]
theorem guard_ptr (op : BinOp) (t : TypeId) (x y : Operand) (a b : Option Addr) (w : World) : (eqGuard op t x y (.pointer a) (.pointer b)).run Tryd.prog w = .ok () w := by
  cases op <;> go_simp
theorem eql_ptr_none (b : Nat) (w : World) : (binOp .eql 99 (.pointer (some ⟨b, 0, none⟩)) (.pointer none)).run Tryd.prog w = .ok (.bool false) w := by
  go_simp
theorem eql_iF (a b : Int) (h : ¬ a = b) (w : World) : (binOp .eql 3 (.int .i64 a) (.int .i64 b)).run Tryd.prog w = .ok (.bool false) w := by
  have h' : (a == b) = false := by simpa using h
  go_simp
section
variable {ops : Array Oper} {Q : Exit → Act → World → Prop} {a : Act} {w : World} {K : Act → World → Prop} {o : Oper}
theorem rop_buildF (t : TypeId) (parts : Array (Nat × Operand)) (hop : o.op = .build t parts) (L : List (Nat × Value)) (hL : (parts.map fun (i, x) => (i, a.eval x)).toList = L) {cells : Array Value} (hb : Tryd.prog.built t L = some cells) (hw : Region.wanted o (yielded ops a.tmps) = true) (h : K (a.put o.dst (.agg cells)) w) :
    if Region.wanted o (yielded ops a.tmps) = true then Oper.wp Tryd.prog o a w K Q else K (a.put o.dst undef) w :=
  rop_v hw (by
    have hr := run_build (P := Tryd.prog) w t (parts.map fun (i, x) => (i, a.eval x)) cells (by rw [hL]; exact hb)
    simp [execOp, hop, hr]) h
end
set_option maxRecDepth 100000 in
theorem built_zero : Tryd.prog.built 33 [] = some ((List.replicate 32 (0 : UInt8)).map u8V).toArray := by kernel_rfl
theorem only_alloc {b : Nat} {u w : World} (h : Only b u w) (o : Obj) : Only b u (w.alloc o) := h.trans ⟨rfl, rfl, rfl, by simp, fun k hk _ => Below.heap_alloc _ _ _ hk⟩
theorem only_below {b : Nat} {u w v : World} (h : Only b u w) (k : Below w.heap.size w v) : Only b u v := h.trans (Only.of_below k)
theorem only_new {b q : Nat} {u w v : World} (h : Only b u w) (k : Only q w v) (hq : u.heap.size ≤ q) : Only b u v :=
  ⟨k.os.trans h.os, k.tape.trans h.tape, k.output.trans h.output, Nat.le_trans h.size k.size, fun i hi hb => (k.block i (Nat.lt_of_lt_of_le hi h.size) (by omega)).trans (h.block i hi hb)⟩
/-- Ahead of a rest r: m hashes are left, y is the root of what goes together. -/
def AddRel (b n q : Nat) (R : Hs) (w0 : World) (s5 s6 : Value) (wr : World) : Prop :=
  ∃ (r m : Nat) (y : List UInt8) (Q : Hs), s5 = .int .i64 (m : Int) ∧ s6 = .int .i64 (r : Int) ∧ m = Tree.ones r ∧ r ≤ n ∧ y.length = 32 ∧ Front b n Q wr ∧ wr.heap[q]? = some (.cells (y.map u8V).toArray 33 (0, 0)) ∧ Tree.addP r (Q.take m) y = R ∧ Only b w0 wr
def restOf : Value → Nat
  | .int _ z => z.toNat
  | _ => 0
set_option maxHeartbeats 4000000 in
set_option maxRecDepth 100000 in
theorem fadd_any (b n : Nat) (Q : Hs) (x : List UInt8) (w : World) (h : Front b n Q w) (hn : n < 1099511627776) (hb0 : b ≠ 0) (hx : x.length = 32) (hK : KT w) :
    Calls Tryd.prog 41 #[.pointer (some ⟨b, 0, none⟩), sumV x] w fun e w' => e = .returned (.int .i64 ((n + 1 : Nat) : Int)) ∧ (∃ Q', Front b (n + 1) Q' w' ∧ Q'.take (Tree.ones (n + 1)) = Tree.addP n (Q.take (Tree.ones n)) x) ∧ Only b w w' := by
  obtain ⟨R, hR⟩ : ∃ R, R = Tree.addP n (Q.take (Tree.ones n)) x := ⟨_, rfl⟩
  have hRl : R.length = Tree.ones (n + 1) := by
    rw [hR]
    have := Tree.ones_most n (by omega)
    exact Tree.addP_length n _ x (by rw [List.length_take, h.1]; omega)
  rw [← hR]
  unfold sumV
  obtain ⟨V, hV⟩ : ∃ V, V = w.alloc (.cells (x.map u8V).toArray 33) := ⟨_, rfl⟩
  obtain ⟨q, hq⟩ : ∃ q, q = w.heap.size := ⟨_, rfl⟩
  have b0 : Below w.heap.size w V := by rw [hV]; exact (Below.refl _ _).alloc (Nat.le_refl _) _
  have hz : V.heap[q]? = some (.cells (x.map u8V).toArray 33 (0, 0)) := by rw [hV, hq]; exact heap_alloc_last _ _
  have hfV := h.old' b0
  have c0 := hfV.at0
  have hbq : b ≠ q := by have := h.lt; omega
  have hne : ¬ (n : Int) = 1099511627776 := by omega
  have HWP := Lib.hid (fun u => whole_any n (by omega) u)
  obtain ⟨m0, hm0⟩ : ∃ m0, m0 = Tree.ones n := ⟨_, rfl⟩
  rw [← hm0] at hR HWP
  have HR := Lib.hid hR
  have HRl := Lib.hid hRl
  have Hm0 := Lib.hid hm0
  have HZ0 := Lib.hid hz
  have HFV := Lib.hid hfV
  have HbQ := Lib.hid hbq
  have Hq := Lib.hid hq
  have HX := Lib.hid hx
  have HKW := Lib.hid hK
  have Hb0 := Lib.hid hb0
  have B0 := Lib.hid b0
  have HnM := Lib.hid hn
  clear hR hRl hm0 hz hfV hbq hq hx hK hb0 h b0
  go_enter Tryd.func41, Tryd.ntmps41
  go_upto_region 1 with (fail)
  change Code.wp _ _ _ _ (w.alloc (.cells (x.map u8V).toArray 33))
  rw [← hV, ← Hq.out]
  clear hV
  go_step3
  refine wp_seq ?_
  refine wp_seq ?_
  try simp only [Act.put]
  refine wp_region_tab0 [RT.is (.pointer (some ⟨b, 0, none⟩)), RT.is (.bool false), RT.is (.bool false), RT.is (.pointer (some ⟨b, 0, none⟩)), RT.is (.pointer (some ⟨b, 0, none⟩)), RT.is (.pointer (some ⟨b, 0, none⟩)), RT.is (.int .i64 (n : Int)), RT.is (.bool false), RT.is (.bool false)] (by kernel_rfl) (by kernel_rfl) (by kernel_rfl) ⟨?_, ?_, ?_, ?_, ?_, ?_, ?_, ?_, ?_, trivial⟩ ?_
  · intro ac w' hF hL hP hU K hK
    have hB : Below _ _ _ := hL
    have e0 : ac.eval (.tmp 0) = .pointer (some ⟨b, 0, none⟩) := hF.at 0 (by kernel_rfl)
    exact rop_move _ rfl e0 (wanted_none rfl) (hK _ _ (le8_refl _) rfl)
  · intro ac w' hF hL hP hU K hK
    have hB : Below _ _ _ := hL
    have e7 : ac.eval (.tmp 7) = .pointer (some ⟨b, 0, none⟩) := hP 0 (by kernel_rfl)
    exact rop_bin _ _ _ _ _ rfl e7 rfl (guard_ptr _ _ _ _ _ _ w') (eql_ptr_none b w') (wanted_none rfl) (hK _ _ (le8_refl _) rfl)
  · intro ac w' hF hL hP hU K hK
    have hB : Below _ _ _ := hL
    have e8 : ac.eval (.tmp 8) = .bool false := hP 1 (by kernel_rfl)
    exact rop_move _ rfl e8 (wanted_none rfl) (hK _ _ (le8_refl _) rfl)
  · intro ac w' hF hL hP hU K hK
    have hB : Below _ _ _ := hL
    have e0 : ac.eval (.tmp 0) = .pointer (some ⟨b, 0, none⟩) := hF.at 0 (by kernel_rfl)
    have e9 : ac.eval (.tmp 9) = .bool false := hP 2 (by kernel_rfl)
    exact rop_move _ rfl e0 (wanted_of (j := 2) (b := false) rfl rfl e9) (hK _ _ (le8_refl _) rfl)
  · intro ac w' hF hL hP hU K hK
    have hB : Below _ _ _ := hL
    have e10 : ac.eval (.tmp 10) = .pointer (some ⟨b, 0, none⟩) := hP 3 (by kernel_rfl)
    have e9 : ac.eval (.tmp 9) = .bool false := hP 2 (by kernel_rfl)
    exact rop_nilG _ rfl e10 (wanted_of (j := 2) (b := false) rfl rfl e9) (hK _ _ (le8_refl _) rfl)
  · intro ac w' hF hL hP hU K hK
    have hB : Below _ _ _ := hL
    have e11 : ac.eval (.tmp 11) = .pointer (some ⟨b, 0, none⟩) := hP 4 (by kernel_rfl)
    have e9 : ac.eval (.tmp 9) = .bool false := hP 2 (by kernel_rfl)
    exact rop_fld _ _ _ rfl e11 (fld_size b w') (wanted_of (j := 2) (b := false) rfl rfl e9) (hK _ _ (le8_refl _) rfl)
  · intro ac w' hF hL hP hU K hK
    have hB : Below _ _ _ := hL
    have e12 : ac.eval (.tmp 12) = .pointer (some ⟨b, 0, none⟩) := hP 5 (by kernel_rfl)
    have e9 : ac.eval (.tmp 9) = .bool false := hP 2 (by kernel_rfl)
    exact rop_ld _ _ rfl e12 (load_i64 ((HFV.out.old' hB).at0)) (wanted_of (j := 2) (b := false) rfl rfl e9) (hK _ _ (le8_refl _) rfl)
  · intro ac w' hF hL hP hU K hK
    have hB : Below _ _ _ := hL
    have e13 : ac.eval (.tmp 13) = .int .i64 (n : Int) := hP 6 (by kernel_rfl)
    have e9 : ac.eval (.tmp 9) = .bool false := hP 2 (by kernel_rfl)
    exact rop_bin _ _ _ _ _ rfl e13 rfl (guard_int _ _ _ _ _ _ _ w') (eql_iF _ _ hne w') (wanted_of (j := 2) (b := false) rfl rfl e9) (hK _ _ (le8_refl _) rfl)
  · intro ac w' hF hL hP hU K hK
    have hB : Below _ _ _ := hL
    have e9 : ac.eval (.tmp 9) = .bool false := hP 2 (by kernel_rfl)
    have e14 : ac.eval (.tmp 14) = .bool false := hP 7 (by kernel_rfl)
    exact rop_pick _ _ _ rfl false e9 (by simpa using e14) (wanted_none rfl) (hK _ _ (le8_refl _) rfl)
  · intro ac w' hF hB hT
    have e15 : ac.eval (.tmp 15) = .bool false := hT 8 (by decide)
    rw [hF.setsG [7, 8, 9, 10, 11, 12, 13, 14, 15] (by kernel_rfl)]
    simp only [List.foldl_cons, List.foldl_nil, List.setIfInBounds_toArray, List.set_cons_succ, List.set_cons_zero, e15]
    generalize ac.eval (.tmp 7) = u7
    generalize ac.eval (.tmp 8) = u8
    generalize ac.eval (.tmp 9) = u9
    generalize ac.eval (.tmp 10) = u10
    generalize ac.eval (.tmp 11) = u11
    generalize ac.eval (.tmp 12) = u12
    generalize ac.eval (.tmp 13) = u13
    generalize ac.eval (.tmp 14) = u14
    clear e15 hT hF ac
    have hfW := HFV.out.old' hB
    have c1 := hfW.at0
    go_wp2_with (first
      | (go_at_call 63; ((with_reducible refine (HWP.out _).mono ?_); rintro e w1 ⟨rfl, rfl⟩)))
    go_step3
    go_wp2
    go_loopw [5, 6] (fun s5 s6 wr => AddRel b n q R w s5 s6 wr) (fun _ s6 _ => restOf s6)
    case atStart => exact ⟨n, m0, x, Q, rfl, rfl, Hm0.out, Nat.le_refl _, HX.out, hfW, (hB.block q (Array.getElem?_eq_some_iff.1 HZ0.out).1).trans HZ0.out, HR.out.symm, only_below (Only.of_below B0.out) hB⟩
    case round =>
      obtain ⟨r, m, y, Q, rfl, rfl, hm, hr, hy, hf, hz, ha, ho⟩ := hrel
      clear hfW c1 hB c0 HFV HZ0 HR HX
      obtain ⟨W, hW⟩ : ∃ W, W = wr := ⟨_, rfl⟩
      subst hW
      have HF := Lib.hid hf
      have HZ := Lib.hid hz
      have HY := Lib.hid hy
      have HO := Lib.hid ho
      have HqW : Hid (q < W.heap.size) := Lib.hid (Array.getElem?_eq_some_iff.1 hz).1
      by_cases h2 : r % 2 = 1
      · have hrem : (r : Int).tmod 2 = 1 := by rw [Int.tmod_eq_emod_of_nonneg (by omega)]; omega
        have hquo : (r : Int).tdiv 2 = ((r / 2 : Nat) : Int) := by rw [Int.tdiv_eq_ediv_of_nonneg (by omega)]; omega
        obtain ⟨r2, hr2⟩ : ∃ r2, r2 = r / 2 := ⟨_, rfl⟩
        rw [← hr2] at hquo
        have hq3 : wrap64 (r2 : Int) = (r2 : Int) := by unfold wrap64; omega
        have hm1 : m = Tree.ones r2 + 1 := by rw [hm, Tree.ones_step, hr2, h2, Nat.add_comm]
        obtain ⟨m1, hm1e⟩ : ∃ m1, m1 = Tree.ones r2 := ⟨_, rfl⟩
        rw [← hm1e] at hm1
        have hm40 : m1 < 40 := by
          have := Tree.ones_le 39 r2 (by rw [show (2 : Nat) ^ 39 = 549755813888 by decide]; omega)
          omega
        have hsub : (m : Int) - 1 = (m1 : Int) := by omega
        have hsubw : IntKind.i64.wrap ((m : Int) - 1) = (m1 : Int) := by rw [hsub]; exact IntWalk.i64_in _ (by omega)
        have hsubw2 := IntWalk.i64_in (m1 : Int) (by omega)
        obtain ⟨p, hp⟩ : ∃ p, p = Q[m1]'(by rw [hf.1]; exact hm40) := ⟨_, rfl⟩
        have hpl : p.length = 32 := by rw [hp]; exact hf.2.1 _ (List.getElem_mem _)
        have hpr := hf.rangeQ m1 (by rw [hf.1]; exact hm40)
        rw [← hp] at hpr
        obtain ⟨D, hD⟩ : ∃ D, D = Tree.node p y := ⟨_, rfl⟩
        have hDl : D.length = 32 := by rw [hD]; exact Tree.node_length _ _
        have hKW := HKW.out.only ho Hb0.out
        have HN : Hid (∀ u : World, Below W.heap.size W u → Calls Tryd.prog 57 #[sumV p, sumV y] u fun e w' => e = .returned (sumV D) ∧ Below u.heap.size u w') := Lib.hid fun u hu => by
          rw [hD]
          exact leafNode_any p y hpl hy u (hKW.old hu)
        obtain ⟨zs, hzs⟩ : ∃ zs : List UInt8, zs = List.replicate 32 (0 : UInt8) := ⟨_, rfl⟩
        have HBZ : Hid (Tryd.prog.built 33 [] = some (zs.map u8V).toArray) := Lib.hid (by rw [hzs]; exact built_zero)
        have HZl : Hid (zs.length = 32) := Lib.hid (by rw [hzs, List.length_replicate])
        have hnext : Tree.addP r2 ((Q.set m1 zs).take m1) D = R := by
          rw [← ha, Tree.addP_odd h2, hm1, ← hr2, hD, List.take_set_of_le (Nat.le_refl _)]
          have e1 : Q.take (m1 + 1) = Q.take m1 ++ [p] := by rw [List.take_succ_eq_append_getElem (by rw [hf.1]; exact hm40), hp]
          rw [e1, List.dropLast_concat]
          congr 1
          simp
        have HNX := Lib.hid hnext
        have HP := Lib.hid hpr
        have HPl := Lib.hid hpl
        have HDl := Lib.hid hDl
        have Hm1 := Lib.hid hm1e
        have Hr2 : Hid (r2 ≤ n ∧ r2 < r) := Lib.hid (by omega)
        clear hf hz hy ho ha hm hr hr2 hm1 hm1e hp hpl hpr hD hDl hzs hnext h2 hKW
        go_upto_region 11 with (fail)

        try simp only [Act.put]
        refine wp_region_ph (Lx := GLf 2) [RXP.is (.pointer (some ⟨b, 0, none⟩)), RXP.is (.int .i64 (m1 : Int)), RXP.is (.pointer (some ⟨b, 0, none⟩)), RXP.is (.int .i64 (m1 : Int)), RXP.is (.pointer (some ⟨b, 0, none⟩)), RXP.is (.pointer (some ⟨b, 1, none⟩)), RXP.is (.pointer (some ⟨b, 1 + m1 * 32, none⟩)), RXP.is (sumV p), RXP.is (sumV y), RXP.is (sumV D), RXP.is (sumV zs), RXP.any, RXP.is (.pointer (some ⟨b, 0, none⟩)), RXP.is (.pointer (some ⟨b, 1, none⟩)), RXP.is (.pointer (some ⟨b, 1 + m1 * 32, none⟩)), RXP.any] [9, 11, 15] (fun k w' => (k < 2 → Below W.heap.size W w') ∧ (k = 2 → ∃ u, Below W.heap.size W u ∧ w' = u.setCells q 0 (D.map u8V)) ∧ (k = 3 → ∃ u, Below W.heap.size W u ∧ w' = (u.setCells q 0 (D.map u8V)).setCells b (1 + m1 * 32) (zs.map u8V))) (by kernel_rfl) (by kernel_rfl) (by kernel_rfl) (by kernel_rfl) (by kernel_rfl) (⟨fun _ => below_drew (Below.refl _ _), fun h => absurd h (by decide), fun h => absurd h (by decide)⟩) ⟨?_, ?_, ?_, ?_, ?_, ?_, ?_, ?_, ?_, ?_, ?_, ?_, ?_, ?_, ?_, ?_, trivial⟩ ?_
        · intro ac w' ph hF hPh hlt hP hU K hK0
          have e0 : ac.eval (.tmp 0) = .pointer (some ⟨b, 0, none⟩) := hF.at 0 (by kernel_rfl)
          exact rop_move _ rfl e0 (wanted_none rfl) (hK0 _ _ GLf.same hPh rfl)
        · intro ac w' ph hF hPh hlt hP hU K hK0
          have e5 : ac.eval (.tmp 5) = .int .i64 (m1 : Int) := hF.at 5 (by kernel_rfl)
          exact rop_move _ rfl e5 (wanted_none rfl) (hK0 _ _ GLf.same hPh rfl)
        · intro ac w' ph hF hPh hlt hP hU K hK0
          have e0 : ac.eval (.tmp 0) = .pointer (some ⟨b, 0, none⟩) := hF.at 0 (by kernel_rfl)
          exact rop_move _ rfl e0 (wanted_none rfl) (hK0 _ _ GLf.same hPh rfl)
        · intro ac w' ph hF hPh hlt hP hU K hK0
          have e5 : ac.eval (.tmp 5) = .int .i64 (m1 : Int) := hF.at 5 (by kernel_rfl)
          exact rop_move _ rfl e5 (wanted_none rfl) (hK0 _ _ GLf.same hPh rfl)
        · intro ac w' ph hF hPh hlt hP hU K hK0
          have e43 : ac.eval (.tmp 43) = .pointer (some ⟨b, 0, none⟩) := hP 2 (by kernel_rfl)
          exact rop_nilG _ rfl e43 (wanted_none rfl) (hK0 _ _ GLf.same hPh rfl)
        · intro ac w' ph hF hPh hlt hP hU K hK0
          have e45 : ac.eval (.tmp 45) = .pointer (some ⟨b, 0, none⟩) := hP 4 (by kernel_rfl)
          exact rop_fld _ _ _ rfl e45 (fld_peaks b w') (wanted_none rfl) (hK0 _ _ GLf.same hPh rfl)
        · intro ac w' ph hF hPh hlt hP hU K hK0
          have e46 : ac.eval (.tmp 46) = .pointer (some ⟨b, 1, none⟩) := hP 5 (by kernel_rfl)
          have e44 : ac.eval (.tmp 44) = .int .i64 (m1 : Int) := hP 3 (by kernel_rfl)
          exact rop_idx _ _ _ rfl e46 e44 (idx40 b m1 hm40 w') (wanted_none rfl) (hK0 _ _ GLf.same hPh rfl)
        · intro ac w' ph hF hPh hlt hP hU K hK0
          have hph : ph ≤ 0 := (hlt 0 9 rfl).2 (by kernel_rfl)
          have e47 : ac.eval (.tmp 47) = .pointer (some ⟨b, 1 + m1 * 32, none⟩) := hP 6 (by kernel_rfl)
          exact rop_ld _ _ rfl e47 (run_loadAt_mid _ _ _ _ _ _ (below_range (hPh.1 (by omega)) HF.out.lt HP.out) Tryd.underlying33 rfl (sum_info' HPl.out)) (wanted_none rfl) (hK0 _ _ GLf.same hPh rfl)
        · intro ac w' ph hF hPh hlt hP hU K hK0
          have hph : ph ≤ 0 := (hlt 0 9 rfl).2 (by kernel_rfl)
          have e3 : ac.eval (.tmp 3) = .pointer (some ⟨q, 0, none⟩) := hF.at 3 (by kernel_rfl)
          exact rop_ld _ _ rfl e3 (run_loadAt_mid _ _ _ _ _ _ (below_range (hPh.1 (by omega)) HqW.out (range_of HZ.out)) Tryd.underlying33 rfl (sum_info' HY.out)) (wanted_none rfl) (hK0 _ _ GLf.same hPh rfl)
        · intro ac w' ph hF hPh hlt hP hU K hK0
          obtain rfl : ph = 0 := (hlt 0 9 rfl).1 rfl
          have e48 : ac.eval (.tmp 48) = sumV p := hP 7 (by kernel_rfl)
          have e49 : ac.eval (.tmp 49) = sumV y := hP 8 (by kernel_rfl)
          have hB : Below W.heap.size W w' := hPh.1 (by decide)
          refine rop_call 57 _ _ rfl #[sumV p, sumV y] (by simp [e48, e49]) (by kernel_rfl) (wanted_none rfl) ?_
          refine (HN.out w' hB).mono ?_
          rintro e w2 ⟨rfl, hb⟩
          exact ⟨_, rfl, hK0 _ _ (GLf.old hb) ⟨fun _ => below_step hB (Nat.le_refl _) hb, fun h => absurd h (by decide), fun h => absurd h (by decide)⟩ rfl⟩
        · intro ac w' ph hF hPh hlt hP hU K hK0
          exact rop_buildF _ _ rfl [] (by simp) HBZ.out (wanted_none rfl) (hK0 _ _ GLf.same hPh rfl)
        · intro ac w' ph hF hPh hlt hP hU K hK0
          obtain rfl : ph = 1 := (hlt 1 11 rfl).1 rfl
          have e3 : ac.eval (.tmp 3) = .pointer (some ⟨q, 0, none⟩) := hF.at 3 (by kernel_rfl)
          have e50 : ac.eval (.tmp 50) = sumV D := hP 9 (by kernel_rfl)
          have hB : Below W.heap.size W w' := hPh.1 (by decide)
          have hz := (hB.block q HqW.out).trans HZ.out
          exact rop_storeG _ _ _ rfl e3 e50 (run_storeAt_mid w' q 0 _ _ (sum_thereF hz HY.out HDl.out) (sum_info HDl.out) (sum_one D)) (wanted_none rfl) (hK0 _ _ (GLf.own (by decide)) ⟨fun h => absurd h (by decide), fun _ => ⟨w', hB, rfl⟩, fun h => absurd h (by decide)⟩ trivial)
        · intro ac w' ph hF hPh hlt hP hU K hK0
          have e41 : ac.eval (.tmp 41) = .pointer (some ⟨b, 0, none⟩) := hP 0 (by kernel_rfl)
          exact rop_nilG _ rfl e41 (wanted_none rfl) (hK0 _ _ GLf.same hPh rfl)
        · intro ac w' ph hF hPh hlt hP hU K hK0
          have e52 : ac.eval (.tmp 52) = .pointer (some ⟨b, 0, none⟩) := hP 12 (by kernel_rfl)
          exact rop_fld _ _ _ rfl e52 (fld_peaks b w') (wanted_none rfl) (hK0 _ _ GLf.same hPh rfl)
        · intro ac w' ph hF hPh hlt hP hU K hK0
          have e53 : ac.eval (.tmp 53) = .pointer (some ⟨b, 1, none⟩) := hP 13 (by kernel_rfl)
          have e42 : ac.eval (.tmp 42) = .int .i64 (m1 : Int) := hP 1 (by kernel_rfl)
          exact rop_idx _ _ _ rfl e53 e42 (idx40 b m1 hm40 w') (wanted_none rfl) (hK0 _ _ GLf.same hPh rfl)
        · intro ac w' ph hF hPh hlt hP hU K hK0
          obtain rfl : ph = 2 := (hlt 2 15 rfl).1 rfl
          have e54 : ac.eval (.tmp 54) = .pointer (some ⟨b, 1 + m1 * 32, none⟩) := hP 14 (by kernel_rfl)
          have e51 : ac.eval (.tmp 51) = sumV zs := hP 10 (by kernel_rfl)
          obtain ⟨u, hB, hwu⟩ := hPh.2.1 rfl
          have hf : Front b n Q w' := by rw [hwu]; exact (HF.out.old' hB).kept (only_setCells _ _ _ (Only.refl _ _)) HbQ.out
          exact rop_storeG _ _ _ rfl e54 e51 (run_storeAt_mid w' b (1 + m1 * 32) _ _ (hf.there m1 hm40 HZl.out) (sum_info HZl.out) (sum_one zs)) (wanted_none rfl) (hK0 _ _ (GLf.own (by decide)) ⟨fun h => absurd h (by decide), fun h => absurd h (by decide), fun _ => ⟨u, hB, by rw [hwu]⟩⟩ trivial)
        · intro ac w' hF hPh hT
          rw [hF.setsG [41, 42, 43, 44, 45, 46, 47, 48, 49, 50, 51, 52, 53, 54] (by kernel_rfl)]
          simp only [List.foldl_cons, List.foldl_nil, List.setIfInBounds_toArray, List.set_cons_succ, List.set_cons_zero]
          generalize ac.eval (.tmp 41) = u41
          generalize ac.eval (.tmp 42) = u42
          generalize ac.eval (.tmp 43) = u43
          generalize ac.eval (.tmp 44) = u44
          generalize ac.eval (.tmp 45) = u45
          generalize ac.eval (.tmp 46) = u46
          generalize ac.eval (.tmp 47) = u47
          generalize ac.eval (.tmp 48) = u48
          generalize ac.eval (.tmp 49) = u49
          generalize ac.eval (.tmp 50) = u50
          generalize ac.eval (.tmp 51) = u51
          generalize ac.eval (.tmp 52) = u52
          generalize ac.eval (.tmp 53) = u53
          generalize ac.eval (.tmp 54) = u54
          clear  hT hF ac
          obtain ⟨u, bu, hwu⟩ := hPh.2.2 rfl
          have hfu := HF.out.old' bu
          have hzu := (bu.block q HqW.out).trans HZ.out
          have hf1 : Front b n Q (u.setCells q 0 (D.map u8V)) := hfu.kept (only_setCells _ _ _ (Only.refl _ _)) HbQ.out
          have hz1 := set_sumF u q y D HY.out HDl.out hzu
          have hf2 := hf1.setQ m1 hm40 HZl.out
          have hz2 : ((u.setCells q 0 (D.map u8V)).setCells b (1 + m1 * 32) (zs.map u8V)).heap[q]? = some (.cells (D.map u8V).toArray 33 (0, 0)) :=
            ((only_setCells (b := b) (zs.map u8V) (1 + m1 * 32) _ (Only.refl _ _)).block q (Array.getElem?_eq_some_iff.1 hz1).1 (Ne.symm HbQ.out)).trans hz1
          have ho2 : Only b w ((u.setCells q 0 (D.map u8V)).setCells b (1 + m1 * 32) (zs.map u8V)) :=
            (only_new (only_below HO.out bu) (only_setCells (b := q) (D.map u8V) 0 _ (Only.refl _ _)) (by rw [Hq.out]; exact Nat.le_refl _)).trans (only_setCells (b := b) (zs.map u8V) (1 + m1 * 32) _ (Only.refl _ _))
          rw [← hwu] at hf2 hz2 ho2
          have HF2 := Lib.hid hf2
          have HZ2 := Lib.hid hz2
          have HO2 := Lib.hid ho2
          clear hPh hwu hfu hzu hf1 hz1 hf2 hz2 ho2 bu
          go_wp2
          rw [hq3]
          exact ⟨⟨r2, m1, D, Q.set m1 zs, rfl, rfl, Hm1.out, Hr2.out.1, HDl.out, HF2.out, HZ2.out, HNX.out, HO2.out⟩, by simpa [restOf] using Hr2.out.2⟩
      · have hrem : (r : Int).tmod 2 = 0 := by rw [Int.tmod_eq_emod_of_nonneg (by omega)]; omega
        have hm40 : m < 40 := by
          have := Tree.ones_le 39 (r / 2) (by rw [show (2 : Nat) ^ 39 = 549755813888 by decide]; omega)
          rw [hm, Tree.ones_step]
          omega
        have hlast : (Q.set m y).take (m + 1) = R := by
          rw [← ha, Tree.addP_even h2, List.take_succ_eq_append_getElem (by rw [List.length_set, hf.1]; exact hm40), List.take_set_of_le (Nat.le_refl _), List.getElem_set_self]
        have hm1 : m + 1 = Tree.ones (n + 1) := by
          rw [← HRl.out, ← hlast, List.length_take, List.length_set, hf.1]
          omega
        rw [hm1] at hlast
        have HL := Lib.hid hlast
        have haddw := IntWalk.i64_in ((n : Int) + 1) (by omega)
        clear hf hz hy ho ha hm hr hm1 hlast h2
        go_upto_region 8 with (fail)

        try simp only [Act.put]
        refine wp_region_ph (Lx := GLx 1) [RXP.is (.pointer (some ⟨b, 0, none⟩)), RXP.is (.int .i64 (m : Int)), RXP.is (sumV y), RXP.is (.pointer (some ⟨b, 0, none⟩)), RXP.is (.pointer (some ⟨b, 1, none⟩)), RXP.is (.pointer (some ⟨b, 1 + m * 32, none⟩)), RXP.any] [6] (fun k w' => (k < 1 → Below W.heap.size W w') ∧ (k = 1 → ∃ u, Below W.heap.size W u ∧ w' = u.setCells b (1 + m * 32) (y.map u8V))) (by kernel_rfl) (by kernel_rfl) (by kernel_rfl) (by kernel_rfl) (by kernel_rfl) (⟨fun _ => below_drew (Below.refl _ _), fun h => by cases h⟩) ⟨?_, ?_, ?_, ?_, ?_, ?_, ?_, trivial⟩ ?_
        · intro ac w' ph hF hPh hlt hP hU K hK0
          have e0 : ac.eval (.tmp 0) = .pointer (some ⟨b, 0, none⟩) := hF.at 0 (by kernel_rfl)
          exact rop_move _ rfl e0 (wanted_none rfl) (hK0 _ _ GLx.same hPh rfl)
        · intro ac w' ph hF hPh hlt hP hU K hK0
          have e5 : ac.eval (.tmp 5) = .int .i64 (m : Int) := hF.at 5 (by kernel_rfl)
          exact rop_move _ rfl e5 (wanted_none rfl) (hK0 _ _ GLx.same hPh rfl)
        · intro ac w' ph hF hPh hlt hP hU K hK0
          have hph : ph ≤ 0 := (hlt 0 6 rfl).2 (by kernel_rfl)
          have e3 : ac.eval (.tmp 3) = .pointer (some ⟨q, 0, none⟩) := hF.at 3 (by kernel_rfl)
          exact rop_ld _ _ rfl e3 (run_loadAt_mid _ _ _ _ _ _ (below_range (hPh.1 (by omega)) HqW.out (range_of HZ.out)) Tryd.underlying33 rfl (sum_info' HY.out)) (wanted_none rfl) (hK0 _ _ GLx.same hPh rfl)
        · intro ac w' ph hF hPh hlt hP hU K hK0
          have e31 : ac.eval (.tmp 31) = .pointer (some ⟨b, 0, none⟩) := hP 0 (by kernel_rfl)
          exact rop_nilG _ rfl e31 (wanted_none rfl) (hK0 _ _ GLx.same hPh rfl)
        · intro ac w' ph hF hPh hlt hP hU K hK0
          have e34 : ac.eval (.tmp 34) = .pointer (some ⟨b, 0, none⟩) := hP 3 (by kernel_rfl)
          exact rop_fld _ _ _ rfl e34 (fld_peaks b w') (wanted_none rfl) (hK0 _ _ GLx.same hPh rfl)
        · intro ac w' ph hF hPh hlt hP hU K hK0
          have e35 : ac.eval (.tmp 35) = .pointer (some ⟨b, 1, none⟩) := hP 4 (by kernel_rfl)
          have e32 : ac.eval (.tmp 32) = .int .i64 (m : Int) := hP 1 (by kernel_rfl)
          exact rop_idx _ _ _ rfl e35 e32 (idx40 b m hm40 w') (wanted_none rfl) (hK0 _ _ GLx.same hPh rfl)
        · intro ac w' ph hF hPh hlt hP hU K hK0
          obtain rfl : ph = 0 := (hlt 0 6 rfl).1 rfl
          have e36 : ac.eval (.tmp 36) = .pointer (some ⟨b, 1 + m * 32, none⟩) := hP 5 (by kernel_rfl)
          have e33 : ac.eval (.tmp 33) = sumV y := hP 2 (by kernel_rfl)
          have hB : Below W.heap.size W w' := hPh.1 (by decide)
          have hf := HF.out.old' hB
          exact rop_storeG _ _ _ rfl e36 e33 (run_storeAt_mid w' b (1 + m * 32) _ _ (hf.there m hm40 HY.out) (sum_info HY.out) (sum_one y)) (wanted_none rfl) (hK0 _ _ (GLx.last rfl) ⟨fun h => absurd h (by decide), fun _ => ⟨w', hB, rfl⟩⟩ trivial)
        · intro ac w' hF hPh hT
          rw [hF.setsG [31, 32, 33, 34, 35, 36] (by kernel_rfl)]
          simp only [List.foldl_cons, List.foldl_nil, List.setIfInBounds_toArray, List.set_cons_succ, List.set_cons_zero]
          generalize ac.eval (.tmp 31) = u31
          generalize ac.eval (.tmp 32) = u32
          generalize ac.eval (.tmp 33) = u33
          generalize ac.eval (.tmp 34) = u34
          generalize ac.eval (.tmp 35) = u35
          generalize ac.eval (.tmp 36) = u36
          clear  hT hF ac
          obtain ⟨u, bu, hwu⟩ := hPh.2 rfl
          have hf2 := (HF.out.old' bu).setQ m hm40 HY.out
          have ho2 : Only b w (u.setCells b (1 + m * 32) (y.map u8V)) := (only_below HO.out bu).trans (only_setCells (b := b) (y.map u8V) (1 + m * 32) _ (Only.refl _ _))
          rw [← hwu] at hf2 ho2
          have c2 := hf2.at0
          have f2 := hf2.fz 0
          have hf3 := hf2.set0 (n + 1)
          have hcast : ((n + 1 : Nat) : Int) = (n : Int) + 1 := by omega
          rw [hcast] at hf3
          have c3 := hf3.at0
          rw [hcast] at c3
          clear hcast
          have HF3 := Lib.hid hf3
          have HO3 := Lib.hid (ho2.setCell 0 (.int .i64 ((n : Int) + 1)))
          clear hPh hwu hf2 ho2 hf3 bu
          go_wp2
          try rw [Exit.noGoto_ret]
          go_ret
          exact ⟨ret_int (by omega), ⟨_, HF3.out, HL.out⟩, HO3.out⟩
end Go.Proofs.YtollcdalokhjaaaDoor
/-! ## Package front: Add, of no front, and of a full one. -/
namespace Go.Proofs.YtollcdalokhjaaaDoor
open Go.RowKit

theorem eql_iT (a : Int) (w : World) : (binOp .eql 3 (.int .i64 a) (.int .i64 a)).run Tryd.prog w = .ok (.bool true) w := by
  have h' : (a == a) = true := by simp
  go_simp
theorem eql_none_none (w : World) : (binOp .eql 99 (.pointer none) (.pointer none)).run Tryd.prog w = .ok (.bool true) w := by
  go_simp
set_option maxHeartbeats 1600000 in
set_option maxRecDepth 100000 in
theorem fadd_full (b : Nat) (Q : Hs) (x : List UInt8) (w : World) (h : Front b 1099511627776 Q w) :
    Calls Tryd.prog 41 #[.pointer (some ⟨b, 0, none⟩), sumV x] w fun e w' => e = .returned (.int .i64 0) ∧ Below w.heap.size w w' := by
  unfold sumV
  obtain ⟨V, hV⟩ : ∃ V, V = w.alloc (.cells (x.map u8V).toArray 33) := ⟨_, rfl⟩
  have b0 : Below w.heap.size w V := by rw [hV]; exact (Below.refl _ _).alloc (Nat.le_refl _) _
  have HFV := Lib.hid (h.old' b0)
  have B0 := Lib.hid b0
  clear b0 h
  go_enter Tryd.func41, Tryd.ntmps41
  go_upto_region 1 with (fail)
  change Code.wp _ _ _ _ (w.alloc (.cells (x.map u8V).toArray 33))
  rw [← hV]
  clear hV
  go_step3
  refine wp_seq ?_
  refine wp_seq ?_
  try simp only [Act.put]
  refine wp_region_tab0 [RT.is (.pointer (some ⟨b, 0, none⟩)), RT.is (.bool false), RT.is (.bool false), RT.is (.pointer (some ⟨b, 0, none⟩)), RT.is (.pointer (some ⟨b, 0, none⟩)), RT.is (.pointer (some ⟨b, 0, none⟩)), RT.is (.int .i64 1099511627776), RT.is (.bool true), RT.is (.bool true)] (by kernel_rfl) (by kernel_rfl) (by kernel_rfl) ⟨?_, ?_, ?_, ?_, ?_, ?_, ?_, ?_, ?_, trivial⟩ ?_
  · intro ac w' hF hL hP hU K hK
    have hB : Below _ _ _ := hL
    have e0 : ac.eval (.tmp 0) = .pointer (some ⟨b, 0, none⟩) := hF.at 0 (by kernel_rfl)
    exact rop_move _ rfl e0 (wanted_none rfl) (hK _ _ (le8_refl _) rfl)
  · intro ac w' hF hL hP hU K hK
    have hB : Below _ _ _ := hL
    have e7 : ac.eval (.tmp 7) = .pointer (some ⟨b, 0, none⟩) := hP 0 (by kernel_rfl)
    exact rop_bin _ _ _ _ _ rfl e7 rfl (guard_ptr _ _ _ _ _ _ w') (eql_ptr_none b w') (wanted_none rfl) (hK _ _ (le8_refl _) rfl)
  · intro ac w' hF hL hP hU K hK
    have hB : Below _ _ _ := hL
    have e8 : ac.eval (.tmp 8) = .bool false := hP 1 (by kernel_rfl)
    exact rop_move _ rfl e8 (wanted_none rfl) (hK _ _ (le8_refl _) rfl)
  · intro ac w' hF hL hP hU K hK
    have hB : Below _ _ _ := hL
    have e0 : ac.eval (.tmp 0) = .pointer (some ⟨b, 0, none⟩) := hF.at 0 (by kernel_rfl)
    have e9 : ac.eval (.tmp 9) = .bool false := hP 2 (by kernel_rfl)
    exact rop_move _ rfl e0 (wanted_of (j := 2) (b := false) rfl rfl e9) (hK _ _ (le8_refl _) rfl)
  · intro ac w' hF hL hP hU K hK
    have hB : Below _ _ _ := hL
    have e10 : ac.eval (.tmp 10) = .pointer (some ⟨b, 0, none⟩) := hP 3 (by kernel_rfl)
    have e9 : ac.eval (.tmp 9) = .bool false := hP 2 (by kernel_rfl)
    exact rop_nilG _ rfl e10 (wanted_of (j := 2) (b := false) rfl rfl e9) (hK _ _ (le8_refl _) rfl)
  · intro ac w' hF hL hP hU K hK
    have hB : Below _ _ _ := hL
    have e11 : ac.eval (.tmp 11) = .pointer (some ⟨b, 0, none⟩) := hP 4 (by kernel_rfl)
    have e9 : ac.eval (.tmp 9) = .bool false := hP 2 (by kernel_rfl)
    exact rop_fld _ _ _ rfl e11 (fld_size b w') (wanted_of (j := 2) (b := false) rfl rfl e9) (hK _ _ (le8_refl _) rfl)
  · intro ac w' hF hL hP hU K hK
    have hB : Below _ _ _ := hL
    have e12 : ac.eval (.tmp 12) = .pointer (some ⟨b, 0, none⟩) := hP 5 (by kernel_rfl)
    have e9 : ac.eval (.tmp 9) = .bool false := hP 2 (by kernel_rfl)
    exact rop_ld _ _ rfl e12 (load_i64 ((HFV.out.old' hB).at0)) (wanted_of (j := 2) (b := false) rfl rfl e9) (hK _ _ (le8_refl _) rfl)
  · intro ac w' hF hL hP hU K hK
    have hB : Below _ _ _ := hL
    have e13 : ac.eval (.tmp 13) = .int .i64 1099511627776 := hP 6 (by kernel_rfl)
    have e9 : ac.eval (.tmp 9) = .bool false := hP 2 (by kernel_rfl)
    exact rop_bin _ _ _ _ _ rfl e13 rfl (guard_int _ _ _ _ _ _ _ w') (eql_iT _ w') (wanted_of (j := 2) (b := false) rfl rfl e9) (hK _ _ (le8_refl _) rfl)
  · intro ac w' hF hL hP hU K hK
    have hB : Below _ _ _ := hL
    have e9 : ac.eval (.tmp 9) = .bool false := hP 2 (by kernel_rfl)
    have e14 : ac.eval (.tmp 14) = .bool true := hP 7 (by kernel_rfl)
    exact rop_pick _ _ _ rfl false e9 (by simpa using e14) (wanted_none rfl) (hK _ _ (le8_refl _) rfl)
  · intro ac w' hF hB hT
    have e15 : ac.eval (.tmp 15) = .bool true := hT 8 (by decide)
    rw [hF.setsG [7, 8, 9, 10, 11, 12, 13, 14, 15] (by kernel_rfl)]
    simp only [List.foldl_cons, List.foldl_nil, List.setIfInBounds_toArray, List.set_cons_succ, List.set_cons_zero, e15]
    generalize ac.eval (.tmp 7) = u7
    generalize ac.eval (.tmp 8) = u8
    generalize ac.eval (.tmp 9) = u9
    generalize ac.eval (.tmp 10) = u10
    generalize ac.eval (.tmp 11) = u11
    generalize ac.eval (.tmp 12) = u12
    generalize ac.eval (.tmp 13) = u13
    generalize ac.eval (.tmp 14) = u14
    clear e15 hT hF ac
    go_wp2
    try rw [Exit.noGoto_ret]
    go_ret
    exact ⟨rfl, below_step B0.out (Nat.le_refl _) hB⟩
set_option maxHeartbeats 1600000 in
set_option maxRecDepth 100000 in
theorem fadd_nil (x : List UInt8) (w : World) :
    Calls Tryd.prog 41 #[.pointer none, sumV x] w fun e w' => e = .returned (.int .i64 0) ∧ Below w.heap.size w w' := by
  unfold sumV
  obtain ⟨V, hV⟩ : ∃ V, V = w.alloc (.cells (x.map u8V).toArray 33) := ⟨_, rfl⟩
  have b0 : Below w.heap.size w V := by rw [hV]; exact (Below.refl _ _).alloc (Nat.le_refl _) _
  have B0 := Lib.hid b0
  clear b0
  go_enter Tryd.func41, Tryd.ntmps41
  go_upto_region 1 with (fail)
  change Code.wp _ _ _ _ (w.alloc (.cells (x.map u8V).toArray 33))
  rw [← hV]
  clear hV
  go_step3
  refine wp_seq ?_
  refine wp_seq ?_
  try simp only [Act.put]
  refine wp_region_tab0 [RT.is (.pointer none), RT.is (.bool true), RT.is (.bool true), RT.any, RT.any, RT.any, RT.any, RT.any, RT.is (.bool true)] (by kernel_rfl) (by kernel_rfl) (by kernel_rfl) ⟨?_, ?_, ?_, ?_, ?_, ?_, ?_, ?_, ?_, trivial⟩ ?_
  · intro ac w' hF hL hP hU K hK
    have hB : Below _ _ _ := hL
    have e0 : ac.eval (.tmp 0) = .pointer none := hF.at 0 (by kernel_rfl)
    exact rop_move _ rfl e0 (wanted_none rfl) (hK _ _ (le8_refl _) rfl)
  · intro ac w' hF hL hP hU K hK
    have hB : Below _ _ _ := hL
    have e7 : ac.eval (.tmp 7) = .pointer none := hP 0 (by kernel_rfl)
    exact rop_bin _ _ _ _ _ rfl e7 rfl (guard_ptr _ _ _ _ _ _ w') (eql_none_none w') (wanted_none rfl) (hK _ _ (le8_refl _) rfl)
  · intro ac w' hF hL hP hU K hK
    have hB : Below _ _ _ := hL
    have e8 : ac.eval (.tmp 8) = .bool true := hP 1 (by kernel_rfl)
    exact rop_move _ rfl e8 (wanted_none rfl) (hK _ _ (le8_refl _) rfl)
  · intro ac w' hF hL hP hU K hK
    have hB : Below _ _ _ := hL
    have e9 : ac.eval (.tmp 9) = .bool true := hP 2 (by kernel_rfl)
    exact rop_offG (j := 2) (b := false) rfl rfl e9 (by decide) (hK _ _ (le8_refl _) trivial)
  · intro ac w' hF hL hP hU K hK
    have hB : Below _ _ _ := hL
    have e9 : ac.eval (.tmp 9) = .bool true := hP 2 (by kernel_rfl)
    exact rop_offG (j := 2) (b := false) rfl rfl e9 (by decide) (hK _ _ (le8_refl _) trivial)
  · intro ac w' hF hL hP hU K hK
    have hB : Below _ _ _ := hL
    have e9 : ac.eval (.tmp 9) = .bool true := hP 2 (by kernel_rfl)
    exact rop_offG (j := 2) (b := false) rfl rfl e9 (by decide) (hK _ _ (le8_refl _) trivial)
  · intro ac w' hF hL hP hU K hK
    have hB : Below _ _ _ := hL
    have e9 : ac.eval (.tmp 9) = .bool true := hP 2 (by kernel_rfl)
    exact rop_offG (j := 2) (b := false) rfl rfl e9 (by decide) (hK _ _ (le8_refl _) trivial)
  · intro ac w' hF hL hP hU K hK
    have hB : Below _ _ _ := hL
    have e9 : ac.eval (.tmp 9) = .bool true := hP 2 (by kernel_rfl)
    exact rop_offG (j := 2) (b := false) rfl rfl e9 (by decide) (hK _ _ (le8_refl _) trivial)
  · intro ac w' hF hL hP hU K hK
    have hB : Below _ _ _ := hL
    have e9 : ac.eval (.tmp 9) = .bool true := hP 2 (by kernel_rfl)
    exact rop_pick _ _ _ rfl true e9 (by rfl) (wanted_none rfl) (hK _ _ (le8_refl _) rfl)
  · intro ac w' hF hB hT
    have e15 : ac.eval (.tmp 15) = .bool true := hT 8 (by decide)
    rw [hF.setsG [7, 8, 9, 10, 11, 12, 13, 14, 15] (by kernel_rfl)]
    simp only [List.foldl_cons, List.foldl_nil, List.setIfInBounds_toArray, List.set_cons_succ, List.set_cons_zero, e15]
    generalize ac.eval (.tmp 7) = u7
    generalize ac.eval (.tmp 8) = u8
    generalize ac.eval (.tmp 9) = u9
    generalize ac.eval (.tmp 10) = u10
    generalize ac.eval (.tmp 11) = u11
    generalize ac.eval (.tmp 12) = u12
    generalize ac.eval (.tmp 13) = u13
    generalize ac.eval (.tmp 14) = u14
    clear e15 hT hF ac
    go_wp2
    try rw [Exit.noGoto_ret]
    go_ret
    exact ⟨rfl, below_step B0.out (Nat.le_refl _) hB⟩
end Go.Proofs.YtollcdalokhjaaaDoor
/-! ## Package front: Root. -/
namespace Go.Proofs.YtollcdalokhjaaaDoor
open Go.RowKit Go.Shelf

attribute [local go_sem] Oper.semAt_some

set_option maxHeartbeats 4000000 in
set_option maxRecDepth 100000 in
theorem froot_gen (fv : Value) (P : Hs) (w : World) (hP : ∀ u, Below w.heap.size w u → Calls Tryd.prog 55 #[fv] u fun e w' => ∃ v', e = .returned v' ∧ OwnS u.heap.size w' v' P ∧ Below u.heap.size u w')
    (hl : P.length ≤ 40) (hok : all32 P) (hK : KT w) :
    Calls Tryd.prog 36 #[fv] w fun e w' => e = .returned (sumV (Tree.rootP P)) ∧ Below w.heap.size w w' := by
  obtain ⟨w0, hw0⟩ : ∃ w0, w0 = w.alloc zSum := ⟨_, rfl⟩
  have b0 : Below w.heap.size w w0 := by rw [hw0]; exact (Below.refl _ _).alloc (Nat.le_refl _) _
  have z0 : w0.heap[w.heap.size]? = some (.cells ((List.replicate 32 (0 : UInt8)).map u8V).toArray 33 (0, 0)) := by rw [hw0]; exact heap_alloc_last _ _
  have Hz0 := Lib.hid z0
  have l0 : w.heap.size < w0.heap.size := by rw [hw0]; simp
  have HPK := Lib.hid hP
  have HOK := Lib.hid hok
  have HKW := Lib.hid hK
  obtain ⟨D, hD⟩ : ∃ D, D = Tree.rootP P := ⟨_, rfl⟩
  have hDl : D.length = 32 := by rw [hD]; exact Tree.rootP_length P hok
  rw [← hD]
  have HD := Lib.hid hD
  have HDl := Lib.hid hDl
  obtain ⟨m, hm⟩ : ∃ m, m = P.length := ⟨_, rfl⟩
  clear z0 hP hok hK hD hDl
  by_cases h0 : m = 0
  · obtain rfl : P = [] := List.eq_nil_of_length_eq_zero (by omega)
    have hc : ∀ u, Below w.heap.size w u → Calls Tryd.prog 35 #[] u fun e w' => e = .returned (sumV D) ∧ Below u.heap.size u w' := fun u hu => by rw [HD.out]; exact leafEmpty_any u (HKW.out.old hu)
    have HC := Lib.hid hc
    have B0 := Lib.hid b0
    clear hc h0 hm hl b0
    refine (callsIn_wide (n := 3)).1 ?_
    refine callsIn_of_wp_marks Tryd.func36 rfl trivial ?_ rfl
    simp only [Tryd.ntmps36, List.size_toArray, List.length_cons, List.length_nil, Nat.reduceAdd, Nat.reduceSub, Array.replicate_succ, Array.replicate_zero, List.push_toArray, List.append_toArray, List.nil_append, List.cons_append]
    refine wpIn_wide.2 ?_
    go_upto_region 1 with (fail)
    change Code.wp _ _ _ _ (w.alloc zSum)
    rw [← hw0]
    clear hw0
    go_wp2_with (first
      | (go_at_call 55; refine (HPK.out _ B0.out).mono ?_; rintro e w2 ⟨v2, rfl, ho2, b2⟩; have z2 := Lib.hid ((b2.block _ l0).trans Hz0.out); obtain ⟨a2, c2, rfl, -, -⟩ := ho2.sums.slice; clear ho2; simp only [List.length_nil])
      | (go_at_call 35; ((with_reducible refine (HC.out _ (below_step B0.out (Nat.le_refl _) b2)).mono ?_); rintro e w3 ⟨rfl, b3⟩; have z3 := Lib.hid ((b3.block _ (Nat.lt_of_lt_of_le l0 b2.size)).trans z2.out)))
      | refine wpList_store_mid rfl 33 (.tmp 2) (.tmp 13) rfl w.heap.size 0 (D.map u8V).toArray rfl rfl (sum_there z3.out HDl.out) (sum_info HDl.out) (sum_one D) ?_)
    exact ⟨sumV D, results_cell (t := 2) (ty := 33) (b := w.heap.size) (cs := D.map u8V) rfl _ _ _ rfl (sum_range z3.out HDl.out) Tryd.underlying33 rfl (sum_info' HDl.out), rfl, below_setCells (Nat.le_refl _) _ _ _ (below_step (below_step B0.out (Nat.le_refl _) b2) (Nat.le_refl _) b3)⟩
  · obtain ⟨P1, p, rfl⟩ : ∃ P1 p, P = P1 ++ [p] := by
      have hne : P ≠ [] := by rintro rfl; exact h0 (by simpa using hm)
      exact ⟨P.dropLast, P.getLast hne, (List.dropLast_concat_getLast hne).symm⟩
    obtain ⟨k, hk⟩ : ∃ k, k = P1.length := ⟨_, rfl⟩
    have hmk : m = k + 1 := by rw [hm, hk]; simp
    have hpl : p.length = 32 := HOK.out p (by simp)
    have HPl := Lib.hid hpl
    have hDf : D = P1.foldr Tree.node p := by rw [HD.out, rootP_fold]
    have HDf := Lib.hid hDf
    have hlen : (P1 ++ [p]).length = k + 1 := by rw [← hm, hmk]
    have Hlen := Lib.hid hlen
    have Hk := Lib.hid hk
    have B0 := Lib.hid b0
    have hk40 : k ≤ 39 := by omega
    clear hmk hpl hDf hlen hk hl h0 hm b0

    refine (callsIn_wide (n := 3)).1 ?_
    refine callsIn_of_wp_marks Tryd.func36 rfl trivial ?_ rfl
    simp only [Tryd.ntmps36, List.size_toArray, List.length_cons, List.length_nil, Nat.reduceAdd, Nat.reduceSub, Array.replicate_succ, Array.replicate_zero, List.push_toArray, List.append_toArray, List.nil_append, List.cons_append]
    refine wpIn_wide.2 ?_
    go_upto_region 1 with (fail)
    change Code.wp _ _ _ _ (w.alloc zSum)
    rw [← hw0]
    clear hw0
    go_upto_region 5 with (first
      | (go_at_call 55; refine (HPK.out _ B0.out).mono ?_; rintro e w2 ⟨v2, rfl, ho2, b2⟩; have z2 := Lib.hid ((b2.block _ l0).trans Hz0.out); have HO2 := Lib.hid ho2; obtain ⟨a2, c2, rfl, hc2, -⟩ := ho2.sums.slice; clear ho2; rw [Hlen.out] at HO2 hc2 ⊢; have HC2 : k ≤ c2 := Nat.le_of_succ_le hc2; clear hc2))
    obtain ⟨b, off, rfl, hb2, -, hr2⟩ := HO2.out.sums.at k (by rw [Hlen.out]; omega)
    rw [show (P1 ++ [p])[k]'(by rw [Hlen.out]; omega) = p by simp [Hk.out]] at hr2
    have hidx := fun u => index_sums b off (k + 1) c2 k (by omega) u
    have HR2 := Lib.hid hr2
    have hz0 := heap_alloc_last w2 zSum
    have z6 : ((w2.alloc zSum).setCells w2.heap.size 0 (p.map u8V)).heap[w2.heap.size]? = some (.cells (p.map u8V).toArray 33 (0, 0)) := heap_setCells_all w2 _ _ (by simp [HPl.out])
    have k6 : Below w2.heap.size w2 ((w2.alloc zSum).setCells w2.heap.size 0 (p.map u8V)) := below_setCells (Nat.le_refl _) _ _ _ ((Below.refl _ _).alloc (Nat.le_refl _) _)
    clear hr2
    go_upto_region 6 with (first
      | refine wpList_load_mid rfl 33 (.tmp 19) rfl b (off + k * 32) rfl (p.map u8V) _ (range_alloc' hb2 HR2.out) Tryd.underlying33 rfl (sum_info' HPl.out) ?_
      | refine wpList_load_mid rfl 33 (.tmp 19) rfl b (off + k * 32) rfl (p.map u8V) _ HR2.out Tryd.underlying33 rfl (sum_info' HPl.out) ?_
      | refine wpList_store_mid rfl 33 (.tmp 5) (.tmp 20) rfl w2.heap.size 0 (p.map u8V).toArray rfl rfl (sum_there hz0 HPl.out) (sum_info HPl.out) (sum_one p) ?_)
    change Code.wp _ _ _ _ ((w2.alloc zSum).setCells w2.heap.size 0 (p.map u8V))
    obtain ⟨w6, hw6⟩ : ∃ u, u = (w2.alloc zSum).setCells w2.heap.size 0 (p.map u8V) := ⟨_, rfl⟩
    rw [← hw6] at z6 k6 ⊢
    obtain ⟨rb, hrb⟩ : ∃ rb, rb = w2.heap.size := ⟨_, rfl⟩
    obtain ⟨q0, hq0⟩ : ∃ q0, q0 = w.heap.size := ⟨_, rfl⟩
    have hs6 := (HO2.out.sums.head k (by rw [Hlen.out]; omega)).old k6
    rw [show (P1 ++ [p]).take k = P1 by rw [Hk.out, List.take_left]] at hs6
    have hb6 : b < w6.heap.size := Nat.lt_of_lt_of_le hb2 k6.size
    have z7 := (k6.block _ (Nat.lt_of_lt_of_le l0 b2.size)).trans z2.out
    have B6 : Below w.heap.size w w6 := below_step (below_step B0.out (Nat.le_refl _) b2) (Nat.le_refl _) k6
    have hcut := fun u => scut_h (some ⟨b, off, none⟩) (k + 1) c2 k HC2 u
    rw [← hrb] at z6 ⊢
    rw [← hq0] at z7 ⊢
    have Hrb := Lib.hid hrb
    have Hq0 := Lib.hid hq0
    clear hw6 hz0 hrb hq0
    go_wp2_with (first
      | (with_reducible refine wpList_slice_runS rfl 27 (.tmp 21) none (some (.tmp 22)) none rfl rfl rfl rfl rfl (hcut _) ?_)
      | (go_at_call 56; refine ((callsIn_wide (n := 3)).1 (back_in Fence.wide 3 trivial rfl _ _ _ _)).mono ?_; rintro e w' ⟨rfl, rfl⟩))
    obtain ⟨Bs, hBs⟩ : ∃ Bs, Bs = w6.heap.size := ⟨_, rfl⟩
    obtain ⟨W0, hW0⟩ : ∃ W0, W0 = w6.alloc (.cells #[.slice (some ⟨b, off, none⟩) k c2] 27) := ⟨_, rfl⟩
    have b7 : Below w6.heap.size w6 W0 := by rw [hW0]; exact (Below.refl _ _).alloc (Nat.le_refl _) _
    have sz : W0.heap.size = Bs + 1 := by rw [hW0, hBs]; simp
    have cB : W0.cell? ⟨Bs, 0, none⟩ = some (.slice (some ⟨b, off, none⟩) k c2) := by rw [hW0, hBs]; exact cell_of (heap_alloc_last _ _) 0
    have hlrb : rb < w6.heap.size := (Array.getElem?_eq_some_iff.1 z6).1
    have hlq0 : q0 < w6.heap.size := (Array.getElem?_eq_some_iff.1 z7).1
    have zr := (b7.block rb hlrb).trans z6
    have zq := (b7.block q0 hlq0).trans z7
    have hsB : SumsB W0.heap.size W0 (.slice (some ⟨b, off, none⟩) k c2) P1 := (hs6.old b7).below
    have BW0 : Below w.heap.size w W0 := below_step B6 (Nat.le_refl _) b7
    have hbrb : b ≠ rb := by rw [Hrb.out]; omega
    have hqrb : q0 ≠ rb := by rw [Hrb.out, Hq0.out]; have := l0; have := b2.size; omega
    have hBsrb : Bs ≠ rb := by omega
    have hrbw : w.heap.size ≤ rb := by rw [Hrb.out]; have := l0; have := b2.size; omega
    have hq0W : q0 < W0.heap.size := by omega
    have hrbW : rb < W0.heap.size := by omega
    rw [← hW0, ← hBs]
    clear hW0 hBs z6 z7 k6 hs6 hidx hcut
    refine (wpIn_wide (n := 3)).1 ?_
    refine wpIn_rangeFunc_ownH rfl (by omega) (gf := 78) (lb := #[.pointer (some ⟨Bs, 0, none⟩)]) rfl trivial (enters_of Tryd.func78 (by kernel_rfl) rfl)
      (back_stops Fence.wide 2 trivial rfl (by omega) Bs W0.heap.size _ P1 (by rw [← Hk.out]; omega) W0 (by omega) (Nat.le_refl _) cB hsB rb hBsrb (fun g o n c' e => by injection e with e _ _; injection e with e; injection e with e _ _; omega)) (fun h k => h.trans k) (KeepX.put (Nat.le_refl _)) (Below.refl _ _) (fun _ => rfl)
      (fun pre W => ((∃ X : List UInt8, X.length = 32 ∧ X = pre.foldl (fun r x => Tree.node (fpad32 x.2) r) p ∧ W.heap[rb]? = some (.cells (X.map u8V).toArray 33 (0, 0))) ∧ W.heap[q0]? = some (.cells ((List.replicate 32 (0 : UInt8)).map u8V).toArray 33 (0, 0))) ∧ Below w.heap.size w W ∧ W0.heap.size ≤ W.heap.size)
      (fun _ _ _ => False)
      (OwnFrom.and (OwnFrom.and (fun s A B row hs hg hr => by obtain ⟨X, e1, e2, e3⟩ := hs; exact ⟨X, e1, e2, cells_ownF (β := Unit) _ _ _ _ _ () A B row e3 hg hr⟩) (cells_ownF _ _ _ _ _)) (OwnFrom.and (ownFrom_below (Nat.le_refl _) BW0.size) (fun s A B row hs hg hr => Nat.le_trans hs hg.size)))
      (fun c => fun s A B row hs hg hr => hs.elim)
      ⟨⟨⟨p, HPl.out, rfl, zr⟩, zq⟩, BW0, Nat.le_refl _⟩
      (fun x a' W => ∃ Bx, W0.heap.size ≤ Bx ∧ W.heap[Bx]? = some (.cells ((fpad32 x.2).map u8V).toArray 33 (0, 0)) ∧ a' = { tmps := #[fv, undef, .pointer (some ⟨q0, 0, none⟩), .slice (some ⟨b, off, none⟩) (k + 1) c2, .int .i64 (k : Int), .pointer (some ⟨rb, 0, none⟩), undef, .pointer (some ⟨Bx, 0, none⟩), fv, .slice (some ⟨b, off, none⟩) (k + 1) c2, .slice (some ⟨b, off, none⟩) (k + 1) c2, .int .i64 ((k : Int) + 1), .bool false, undef, .slice (some ⟨b, off, none⟩) (k + 1) c2, .int .i64 ((k : Int) + 1), .int .i64 (k : Int), .slice (some ⟨b, off, none⟩) (k + 1) c2, .int .i64 (k : Int), .pointer (some ⟨b, off + k * 32, none⟩), .agg (p.map u8V).toArray, .slice (some ⟨b, off, none⟩) (k + 1) c2, .int .i64 (k : Int), .slice (some ⟨b, off, none⟩) k c2, .func (.func 78) #[] #[.pointer (some ⟨Bs, 0, none⟩)], .int .i64 (x.1 : Int), sumV (fpad32 x.2), undef, undef, undef, undef], defers := [] })
      (fun x a' s A B row hs hg hr => by obtain ⟨Bx, e1, e2, e3⟩ := hs; exact ⟨Bx, e1, cells_ownF (β := Unit) _ _ _ _ _ () A B row e2 hg hr, e3⟩) ?assign ?body ?done ?stop
    case assign =>
      rintro l pre x W K ⟨⟨⟨X, hX1, hX2, hX3⟩, hq⟩, hB, hS⟩ hK
      obtain ⟨y, hy⟩ : ∃ y, y = fpad32 x.2 := ⟨_, rfl⟩
      have hyl : y.length = 32 := by rw [hy]; exact fpad32_length _
      have hz0 := heap_alloc_last W zSum
      have HYl := Lib.hid hyl
      have v1 : ((W.alloc zSum).setCells W.heap.size 0 (y.map u8V)).heap[W.heap.size]? = some (.cells (y.map u8V).toArray 33 (0, 0)) := heap_setCells_all W _ _ (by simp [hyl])
      have v2 : Below W.heap.size W ((W.alloc zSum).setCells W.heap.size 0 (y.map u8V)) := below_setCells (Nat.le_refl _) _ _ _ ((Below.refl _ _).alloc (Nat.le_refl _) _)
      have hlr : rb < W.heap.size := (Array.getElem?_eq_some_iff.1 hX3).1
      have hlq : q0 < W.heap.size := (Array.getElem?_eq_some_iff.1 hq).1
      have HKK := Lib.hid (fun a' h => hK a' ((W.alloc zSum).setCells W.heap.size 0 (y.map u8V)) (keeps_below v2) (KeepX.below (v2.mono hS)) ⟨⟨⟨X, hX1, hX2, (v2.block _ hlr).trans hX3⟩, (v2.block _ hlq).trans hq⟩, below_step hB (Nat.le_refl _) v2, Nat.le_trans hS v2.size⟩ h)
      rw [← hy] at HKK ⊢
      have HV1 := Lib.hid v1
      clear hK hX2 hX3 hq hB v1 v2
      refine cast_tmps (T := #[fv, undef, .pointer (some ⟨q0, 0, none⟩), .slice (some ⟨b, off, none⟩) (k + 1) c2, .int .i64 (k : Int), .pointer (some ⟨rb, 0, none⟩), undef, undef, fv, .slice (some ⟨b, off, none⟩) (k + 1) c2, .slice (some ⟨b, off, none⟩) (k + 1) c2, .int .i64 ((k : Int) + 1), .bool false, undef, .slice (some ⟨b, off, none⟩) (k + 1) c2, .int .i64 ((k : Int) + 1), .int .i64 (k : Int), .slice (some ⟨b, off, none⟩) (k + 1) c2, .int .i64 (k : Int), .pointer (some ⟨b, off + k * 32, none⟩), .agg (p.map u8V).toArray, .slice (some ⟨b, off, none⟩) (k + 1) c2, .int .i64 (k : Int), .slice (some ⟨b, off, none⟩) k c2, .func (.func 78) #[] #[.pointer (some ⟨Bs, 0, none⟩)], .int .i64 (x.1 : Int), sumV y, undef, undef, undef, undef]) (by simp) ?_
      gi_wp2_with (refine wpListIn_st rfl 33 (.tmp 7) (.tmp 26) rfl rfl rfl (run_storeAt_mid (W.alloc zSum) W.heap.size 0 _ _ (sum_there hz0 HYl.out) (sum_info HYl.out) (sum_one y)) ?_)
      exact HKK.out _ ⟨W.heap.size, hS, HV1.out, rfl⟩
    case body =>
      rintro l pre x a' W hl ⟨r, hr⟩ ⟨⟨⟨X, hX1, hX2, hX3⟩, hq⟩, hB, hS⟩ ⟨Bx, hBx, bX, rfl⟩ hlt
      obtain ⟨y, hy⟩ : ∃ y, y = fpad32 x.2 := ⟨_, rfl⟩
      have hyl : y.length = 32 := by rw [hy]; exact fpad32_length _
      obtain ⟨D2, hD2⟩ : ∃ D2, D2 = Tree.node y X := ⟨_, rfl⟩
      have hD2l : D2.length = 32 := by rw [hD2]; exact Tree.node_length _ _
      have hfo : D2 = (pre ++ [x]).foldl (fun r x => Tree.node (fpad32 x.2) r) p := by rw [List.foldl_append, ← hX2, hD2, hy]; rfl
      have HN : Hid (CallsIn Fence.wide 0 Tryd.prog 57 #[sumV y, sumV X] W fun e w' => e = .returned (sumV D2) ∧ Below W.heap.size W w') := Lib.hid ((callsIn_wide (n := 0)).2 (by
        rw [hD2]
        exact leafNode_any y X hyl hX1 W (HKW.out.old hB)))
      have hlr : rb < W.heap.size := (Array.getElem?_eq_some_iff.1 hX3).1
      have hlq : q0 < W.heap.size := (Array.getElem?_eq_some_iff.1 hq).1
      rw [← hy] at bX ⊢
      have HYl := Lib.hid hyl
      have HXl := Lib.hid hX1
      have HX3 := Lib.hid hX3
      have HQ := Lib.hid hq
      have HBX := Lib.hid bX
      have HD2l := Lib.hid hD2l
      have HFO := Lib.hid hfo
      have HB := Lib.hid hB
      clear hyl hX1 hX2 hX3 hq bX hD2l hfo hD2 hy hB
      gi_wp2_with (first
        | refine wpListIn_ld rfl 33 (.tmp 7) rfl rfl (load_sumT HYl.out (range_of HBX.out)) ?_
        | refine wpListIn_ld rfl 33 (.tmp 5) rfl rfl (load_sumT HXl.out (range_of HX3.out)) ?_)
      refine ⟨trivial, ?_⟩
      refine (CallsIn.inRound l HN.out).mono ?_
      rintro e w9 ⟨rfl, b9⟩
      have HZ9 := Lib.hid ((b9.block _ hlr).trans HX3.out)
      gi_wp2_with (refine wpListIn_st rfl 33 (.tmp 5) (.tmp 29) rfl rfl rfl (run_storeAt_mid w9 rb 0 _ _ (sum_thereF HZ9.out HXl.out HD2l.out) (sum_info HD2l.out) (sum_one D2)) ?_)
      have ho : Only rb W (w9.setCells rb 0 (D2.map u8V)) := (Only.of_below b9).trans (only_setCells (b := rb) (D2.map u8V) 0 _ (Only.refl _ _))
      exact ⟨keeps_only ho (by omega), ⟨ho.size, fun i hi hir => ho.block i (by omega) hir⟩, ⟨⟨D2, HD2l.out, HFO.out, set_sumF w9 rb X D2 HXl.out HD2l.out HZ9.out⟩, (ho.block q0 hlq hqrb).trans HQ.out⟩, HB.out.trans (ho.below hrbw HB.out.size), Nat.le_trans hS ho.size⟩
    case done =>
      rintro Dd ys W hDd rfl ⟨⟨⟨X, hX1, hX2, hX3⟩, hq⟩, hB, hS⟩ hK
      have hXD : X = D := by rw [hX2, dnS_fold (fun a b => Tree.node (fpad32 a) b) P1 _ p (Nat.le_refl _), Nat.sub_self, List.drop_zero, foldr_pad P1 (fun z hz => HOK.out z (by simp [hz])), HDf.out]
      subst hXD
      have HX3 := Lib.hid hX3
      have HQ := Lib.hid hq
      clear hX2 hX3 hq
      gi_wp2
      go_wp2_with (first
        | refine wpList_load_mid rfl 33 (.tmp 5) rfl rb 0 rfl (X.map u8V) _ (range_of HX3.out) Tryd.underlying33 rfl (sum_info' HDl.out) ?_
        | refine wpList_store_mid rfl 33 (.tmp 2) (.tmp 30) rfl q0 0 (X.map u8V).toArray rfl rfl (sum_there HQ.out HDl.out) (sum_info HDl.out) (sum_one X) ?_)
      have hK' : (W.setCells q0 0 (X.map u8V)).heap[Dd]? = some (.deferred (some [])) := ((only_setCells (b := q0) (X.map u8V) 0 W (Only.refl _ _)).block Dd (Array.getElem?_eq_some_iff.1 hK).1 (by omega)).trans hK
      have hput := belowK_b (n₀ := W0.heap.size) (w := W0) (Nat.le_refl _) (W.setCells q0 0 (X.map u8V)) Dd _ (.deferred none) hDd hK' rfl rfl
      refine ⟨by simp, .inl ⟨_, _, rfl, run_takeDeferred hK', ?_⟩⟩
      exact ⟨sumV X, results_cell (t := 2) (ty := 33) (b := q0) (cs := X.map u8V) rfl _ _ _ rfl (below_range' hput (by omega) (sum_range HQ.out HDl.out)) Tryd.underlying33 rfl (sum_info' HDl.out), rfl, (below_setCells (by rw [Hq0.out]; exact Nat.le_refl _) _ _ _ hB).trans (hput.mono BW0.size)⟩
    case stop => rintro D c pre W hD - h hK; exact h.elim
end Go.Proofs.YtollcdalokhjaaaDoor
