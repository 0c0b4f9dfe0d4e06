/-
  Several texts in one (PathPure, PathLen, BoolRow, Turns, PathCut).
-/
import Derived.Test.YtollcdalokhjaaaDoorMLeafA
import Derived.Deep.DeepCutAuto
/-! ## Plain mathematics of paths and links in trees of hashes. No walk, no program. -/
namespace Go.Proofs.YtollcdalokhjaaaDoor.Tree
open Go

/-! ### Sides and lengths -/
/-- Of each hash of the path of m in n leaves, from the leaf up: does it stand on the left? -/
def turnsN : Nat → Nat → Nat → List Bool
  | 0, _, _ => []
  | f + 1, m, n => if n < 2 then [] else if m < split n then turnsN f m (split n) ++ [false] else turnsN f (m - split n) (n - split n) ++ [true]
def turns (m n : Nat) : List Bool := turnsN n m n
theorem turnsN_eq (f : Nat) : ∀ (g m n : Nat), n ≤ f → n ≤ g → turnsN f m n = turnsN g m n := by
  induction f with
  | zero =>
    intro g m n h _
    obtain rfl : n = 0 := by omega
    cases g with
    | zero => rfl
    | succ g => rw [turnsN, turnsN, if_pos (by decide)]
  | succ f ih =>
    intro g m n h hg
    cases g with
    | zero =>
      obtain rfl : n = 0 := by omega
      rw [turnsN, turnsN, if_pos (by decide)]
    | succ g =>
      rw [turnsN, turnsN]
      by_cases h2 : n < 2
      · rw [if_pos h2, if_pos h2]
      · have hlt := split_lt (n := n) (by omega)
        have hp := split_pos (n := n) (by omega)
        rw [if_neg h2, if_neg h2, ih g m (split n) (by omega) (by omega), ih g (m - split n) (n - split n) (by omega) (by omega)]
theorem turns_small {m n : Nat} (h : n < 2) : turns m n = [] := by
  unfold turns
  match n, h with
  | 0, _ => rfl
  | 1, _ => rfl
theorem turns_go {m n : Nat} (h : 2 ≤ n) : turns m n = if m < split n then turns m (split n) ++ [false] else turns (m - split n) (n - split n) ++ [true] := by
  have hlt := split_lt h
  have hp := split_pos h
  unfold turns
  obtain ⟨f, rfl⟩ : ∃ f, n = f + 1 := ⟨n - 1, by omega⟩
  conv => lhs; rw [turnsN]
  rw [if_neg (by omega), turnsN_eq f (split (f + 1)) m _ (by omega) (by omega), turnsN_eq f (f + 1 - split (f + 1)) _ _ (by omega) (by omega)]
theorem turns_left {m n : Nat} (h : 2 ≤ n) (hm : m < split n) : turns m n = turns m (split n) ++ [false] := by rw [turns_go h, if_pos hm]
theorem turns_right {m n : Nat} (h : 2 ≤ n) (hm : ¬ m < split n) : turns m n = turns (m - split n) (n - split n) ++ [true] := by rw [turns_go h, if_neg hm]
def long (m n : Nat) : Nat := (turns m n).length
theorem long_small {m n : Nat} (h : n < 2) : long m n = 0 := by unfold long; rw [turns_small h]; rfl
theorem long_left {m n : Nat} (h : 2 ≤ n) (hm : m < split n) : long m n = long m (split n) + 1 := by unfold long; rw [turns_left h hm]; simp
theorem long_right {m n : Nat} (h : 2 ≤ n) (hm : ¬ m < split n) : long m n = long (m - split n) (n - split n) + 1 := by unfold long; rw [turns_right h hm]; simp
/-- A path never has more hashes than n - 1 has bits. -/
theorem long_le (b : Nat) : ∀ (m n : Nat), n ≤ 2 ^ b → long m n ≤ b := by
  induction b with
  | zero => intro m n h; rw [long_small (by simpa using Nat.lt_of_le_of_lt h (by decide))]; exact Nat.le_refl _
  | succ b ih =>
    intro m n h
    by_cases h2 : n < 2
    · rw [long_small h2]; omega
    · have hlt := split_lt (n := n) (by omega)
      have hh := split_half (n := n) (by omega)
      have hs : split n ≤ 2 ^ b := by
        rw [split_big (by omega)]
        refine Nat.pow_le_pow_right (by decide) ?_
        have : Nat.log2 (n - 1) < b + 1 := (Nat.log2_lt (by omega)).2 (by omega)
        omega
      rw [Nat.pow_succ] at h
      by_cases hm : m < split n
      · rw [long_left (by omega) hm]
        have := ih m (split n) hs
        omega
      · rw [long_right (by omega) hm]
        have := ih (m - split n) (n - split n) (by omega)
        omega

/-! ### Paths -/
def pathN : Nat → List H → Nat → List H
  | 0, _, _ => []
  | f + 1, l, m => if l.length < 2 then [] else if m < split l.length then pathN f (l.take (split l.length)) m ++ [root (l.drop (split l.length))] else pathN f (l.drop (split l.length)) (m - split l.length) ++ [root (l.take (split l.length))]
def path (l : List H) (m : Nat) : List H := pathN l.length l m
theorem take_split {l : List H} (h : 2 ≤ l.length) : (l.take (split l.length)).length = split l.length := by
  have := split_lt h
  rw [List.length_take]; omega
theorem drop_split (l : List H) : (l.drop (split l.length)).length = l.length - split l.length := List.length_drop
theorem pathN_eq (f : Nat) : ∀ (g : Nat) (l : List H) (m : Nat), l.length ≤ f → l.length ≤ g → pathN f l m = pathN g l m := by
  induction f with
  | zero =>
    intro g l m h _
    cases g with
    | zero => rfl
    | succ g => rw [pathN, pathN, if_pos (by omega)]
  | succ f ih =>
    intro g l m h hg
    cases g with
    | zero => rw [pathN, pathN, if_pos (by omega)]
    | succ g =>
      rw [pathN, pathN]
      by_cases h2 : l.length < 2
      · rw [if_pos h2, if_pos h2]
      · have hlt := split_lt (n := l.length) (by omega)
        have hp := split_pos (n := l.length) (by omega)
        have e1 := take_split (l := l) (by omega)
        have e2 := drop_split l
        rw [if_neg h2, if_neg h2, ih g _ m (by omega) (by omega), ih g (l.drop _) _ (by omega) (by omega)]
theorem path_small {l : List H} {m : Nat} (h : l.length < 2) : path l m = [] := by
  unfold path
  match l, h with
  | [], _ => rfl
  | [_], _ => rfl
theorem path_go {l : List H} {m : Nat} (h : 2 ≤ l.length) : path l m = if m < split l.length then path (l.take (split l.length)) m ++ [root (l.drop (split l.length))] else path (l.drop (split l.length)) (m - split l.length) ++ [root (l.take (split l.length))] := by
  have hlt := split_lt h
  have hp := split_pos h
  have e1 := take_split h
  have e2 := drop_split l
  unfold path
  obtain ⟨f, hf⟩ : ∃ f, l.length = f + 1 := ⟨l.length - 1, by omega⟩
  conv => lhs; rw [hf, pathN]
  rw [if_neg (by omega), pathN_eq f _ (l.take _) m (by omega) (Nat.le_refl _), pathN_eq f _ (l.drop _) _ (by omega) (Nat.le_refl _)]
theorem path_left {l : List H} {m : Nat} (h : 2 ≤ l.length) (hm : m < split l.length) : path l m = path (l.take (split l.length)) m ++ [root (l.drop (split l.length))] := by rw [path_go h, if_pos hm]
theorem path_right {l : List H} {m : Nat} (h : 2 ≤ l.length) (hm : ¬ m < split l.length) : path l m = path (l.drop (split l.length)) (m - split l.length) ++ [root (l.take (split l.length))] := by rw [path_go h, if_neg hm]
theorem path_length (f : Nat) : ∀ (l : List H) (m : Nat), l.length ≤ f → (path l m).length = long m l.length := by
  induction f with
  | zero => intro l m h; rw [path_small (by omega), long_small (by omega)]; rfl
  | succ f ih =>
    intro l m h
    by_cases h2 : l.length < 2
    · rw [path_small h2, long_small h2]; rfl
    · have hlt := split_lt (n := l.length) (by omega)
      have hp := split_pos (n := l.length) (by omega)
      have e1 := take_split (l := l) (by omega)
      have e2 := drop_split l
      by_cases hm : m < split l.length
      · rw [path_left (by omega) hm, long_left (by omega) hm, List.length_append, ih _ m (by omega), e1]; rfl
      · rw [path_right (by omega) hm, long_right (by omega) hm, List.length_append, ih _ _ (by omega), e2]; rfl
theorem path_all (f : Nat) : ∀ (l : List H) (m : Nat), l.length ≤ f → (∀ x ∈ l, x.length = 32) → ∀ x ∈ path l m, x.length = 32 := by
  induction f with
  | zero => intro l m h _ x hx; rw [path_small (by omega)] at hx; cases hx
  | succ f ih =>
    intro l m h hl x hx
    by_cases h2 : l.length < 2
    · rw [path_small h2] at hx; cases hx
    · have hlt := split_lt (n := l.length) (by omega)
      have hp := split_pos (n := l.length) (by omega)
      have e1 := take_split (l := l) (by omega)
      have e2 := drop_split l
      have ht : ∀ y ∈ l.take (split l.length), y.length = 32 := fun y hy => hl y (List.mem_of_mem_take hy)
      have hd : ∀ y ∈ l.drop (split l.length), y.length = 32 := fun y hy => hl y (List.mem_of_mem_drop hy)
      by_cases hm : m < split l.length
      · rw [path_left (by omega) hm] at hx
        rcases List.mem_append.1 hx with hx | hx
        · exact ih _ m (by omega) ht x hx
        · rw [List.mem_singleton.1 hx]; exact root_length _ hd
      · rw [path_right (by omega) hm] at hx
        rcases List.mem_append.1 hx with hx | hx
        · exact ih _ _ (by omega) hd x hx
        · rw [List.mem_singleton.1 hx]; exact root_length _ ht
/-- One hash put beside what was come to. -/
def step (x s : H) (left : Bool) : H := if left then node s x else node x s
/-- What a leaf and a path's hashes, with their sides, come to. -/
def fold : H → List H → List Bool → H
  | x, s :: p, b :: t => fold (step x s b) p t
  | x, _, _ => x
theorem fold_snoc : ∀ (p : List H) (t : List Bool) (x s : H) (b : Bool), p.length = t.length → fold x (p ++ [s]) (t ++ [b]) = step (fold x p t) s b
  | [], [], _, _, _, _ => rfl
  | _ :: p, _ :: t, _, s, b, h => fold_snoc p t _ s b (by simpa using h)
  | [], _ :: _, _, _, _, h => by simp at h
  | _ :: _, [], _, _, _, h => by simp at h
/-- A leaf and its path come to the root. -/
theorem path_folds (f : Nat) : ∀ (l : List H) (m : Nat) (x : H), l[m]? = some x → l.length ≤ f → fold x (path l m) (turns m l.length) = root l := by
  induction f with
  | zero =>
    intro l m x hx h
    have := (List.getElem?_eq_some_iff.1 hx).1
    omega
  | succ f ih =>
    intro l m x hx h
    have hm := (List.getElem?_eq_some_iff.1 hx).1
    by_cases h2 : l.length < 2
    · rw [path_small h2, turns_small h2]
      match l, hm, h2, hx with
      | [y], hm, _, hx =>
        obtain rfl : m = 0 := by simpa using hm
        obtain rfl : y = x := by simpa using hx
        rfl
    · have hlt := split_lt (n := l.length) (by omega)
      have hp := split_pos (n := l.length) (by omega)
      have e1 := take_split (l := l) (by omega)
      have e2 := drop_split l
      rw [root_go l (by omega)]
      by_cases hk : m < split l.length
      · have hi := ih (l.take (split l.length)) m x (by rw [List.getElem?_take_of_lt hk]; exact hx) (by omega)
        rw [e1] at hi
        rw [path_left (by omega) hk, turns_left (by omega) hk, fold_snoc _ _ _ _ _ (by rw [path_length _ _ _ (Nat.le_refl _), e1]; rfl), hi]
        rfl
      · have hi := ih (l.drop (split l.length)) (m - split l.length) x (by rw [List.getElem?_drop, show split l.length + (m - split l.length) = m by omega]; exact hx) (by omega)
        rw [e2] at hi
        rw [path_right (by omega) hk, turns_right (by omega) hk, fold_snoc _ _ _ _ _ (by rw [path_length _ _ _ (Nat.le_refl _), e2]; rfl), hi]
        rfl
/-- The roots of the parts ahead of the last leaf, the first one first. -/
def aheadN : Nat → List H → List H
  | 0, _ => []
  | f + 1, l => if l.length < 2 then [] else root (l.take (split l.length)) :: aheadN f (l.drop (split l.length))
def ahead (l : List H) : List H := aheadN l.length l
theorem aheadN_eq (f : Nat) : ∀ (g : Nat) (l : List H), l.length ≤ f → l.length ≤ g → aheadN f l = aheadN g l := by
  induction f with
  | zero =>
    intro g l h _
    cases g with
    | zero => rfl
    | succ g => rw [aheadN, aheadN, if_pos (by omega)]
  | succ f ih =>
    intro g l h hg
    cases g with
    | zero => rw [aheadN, aheadN, if_pos (by omega)]
    | succ g =>
      rw [aheadN, aheadN]
      by_cases h2 : l.length < 2
      · rw [if_pos h2, if_pos h2]
      · have hp := split_pos (n := l.length) (by omega)
        have e2 := drop_split l
        rw [if_neg h2, if_neg h2, ih g _ (by omega) (by omega)]
theorem ahead_small {l : List H} (h : l.length < 2) : ahead l = [] := by
  unfold ahead
  match l, h with
  | [], _ => rfl
  | [_], _ => rfl
theorem ahead_go {l : List H} (h : 2 ≤ l.length) : ahead l = root (l.take (split l.length)) :: ahead (l.drop (split l.length)) := by
  have hp := split_pos h
  have e2 := drop_split l
  unfold ahead
  obtain ⟨f, hf⟩ : ∃ f, l.length = f + 1 := ⟨l.length - 1, by omega⟩
  conv => lhs; rw [hf, aheadN]
  rw [if_neg (by omega), aheadN_eq f _ (l.drop _) (by omega) (Nat.le_refl _)]
theorem path_last (f : Nat) : ∀ (l : List H), l.length ≤ f → path l (l.length - 1) = (ahead l).reverse := by
  induction f with
  | zero => intro l h; rw [path_small (by omega), ahead_small (by omega)]; rfl
  | succ f ih =>
    intro l h
    by_cases h2 : l.length < 2
    · rw [path_small h2, ahead_small h2]; rfl
    · have hlt := split_lt (n := l.length) (by omega)
      have hp := split_pos (n := l.length) (by omega)
      have e2 := drop_split l
      have hi := ih (l.drop (split l.length)) (by omega)
      rw [e2] at hi
      rw [path_right (by omega) (by omega), ahead_go (by omega), List.reverse_cons, ← hi, show l.length - 1 - split l.length = l.length - split l.length - 1 by omega]
/-- Of as many leaves as a power of two: the sides are the place's bits. -/
theorem turns_pow (k : Nat) : ∀ m, m < 2 ^ k → turns m (2 ^ k) = (List.range k).map fun i => decide (m / 2 ^ i % 2 = 1) := by
  induction k with
  | zero => intro m _; rw [turns_small (by decide)]; rfl
  | succ k ih =>
    intro m hm
    have hp := Nat.two_pow_pos k
    have hpp : 2 ^ (k + 1) = 2 ^ k * 2 := Nat.pow_succ ..
    rw [List.range_succ, List.map_append, List.map_singleton]
    by_cases h : m < 2 ^ k
    · rw [turns_left (by omega) (by rw [split_pow]; exact h), split_pow, ih m h]
      rw [Nat.div_eq_of_lt h]
      rfl
    · rw [turns_right (by omega) (by rw [split_pow]; exact h), split_pow, show 2 ^ (k + 1) - 2 ^ k = 2 ^ k by omega, ih (m - 2 ^ k) (by omega)]
      have hd : m / 2 ^ k = 1 := Nat.div_eq_of_lt_le (by omega) (by omega)
      rw [hd]
      congr 1
      refine List.map_congr_left fun i hi => ?_
      have hik := List.mem_range.1 hi
      have he : m = (m - 2 ^ k) + 2 ^ (k - i) * 2 ^ i := by rw [← Nat.pow_add, Nat.sub_add_cancel (by omega)]; omega
      have h2 : m / 2 ^ i = (m - 2 ^ k) / 2 ^ i + 2 ^ (k - i) := by
        conv => lhs; rw [he]
        rw [Nat.add_mul_div_right _ _ (Nat.two_pow_pos i)]
      rw [h2, show k - i = (k - i - 1) + 1 by omega, Nat.pow_succ, Nat.add_mul_mod_self_right]

/-! ### Links -/
def linksN : Nat → List H → Nat → Bool → List H
  | 0, _, _, _ => []
  | f + 1, l, m, whole => if m = l.length then (if whole then [] else [root l]) else if m ≤ split l.length then linksN f (l.take (split l.length)) m whole ++ [root (l.drop (split l.length))] else linksN f (l.drop (split l.length)) (m - split l.length) false ++ [root (l.take (split l.length))]
def links (l : List H) (m : Nat) (whole : Bool) : List H := linksN l.length l m whole
theorem linksN_eq (f : Nat) : ∀ (g : Nat) (l : List H) (m : Nat) (b : Bool), 1 ≤ m → m ≤ l.length → l.length ≤ f → l.length ≤ g → linksN f l m b = linksN g l m b := by
  induction f with
  | zero => intro g l m b h1 hm h _; omega
  | succ f ih =>
    intro g l m b h1 hm h hg
    cases g with
    | zero => omega
    | succ g =>
      rw [linksN, linksN]
      by_cases he : m = l.length
      · rw [if_pos he, if_pos he]
      · have hlt := split_lt (n := l.length) (by omega)
        have hp := split_pos (n := l.length) (by omega)
        have e1 := take_split (l := l) (by omega)
        have e2 := drop_split l
        rw [if_neg he, if_neg he]
        by_cases hk : m ≤ split l.length
        · rw [if_pos hk, if_pos hk, ih g _ m b h1 (by omega) (by omega) (by omega)]
        · rw [if_neg hk, if_neg hk, ih g (l.drop _) _ _ (by omega) (by omega) (by omega) (by omega)]
theorem links_end {l : List H} {b : Bool} (h : 1 ≤ l.length) : links l l.length b = if b then [] else [root l] := by
  unfold links
  obtain ⟨f, hf⟩ : ∃ f, l.length = f + 1 := ⟨l.length - 1, by omega⟩
  conv => lhs; rw [hf, linksN]
  rw [← hf, if_pos rfl]
theorem links_left {l : List H} {m : Nat} {b : Bool} (h : 1 ≤ m) (hm : m < l.length) (hk : m ≤ split l.length) : links l m b = links (l.take (split l.length)) m b ++ [root (l.drop (split l.length))] := by
  have hlt := split_lt (n := l.length) (by omega)
  have hp := split_pos (n := l.length) (by omega)
  have e1 := take_split (l := l) (by omega)
  unfold links
  obtain ⟨f, hf⟩ : ∃ f, l.length = f + 1 := ⟨l.length - 1, by omega⟩
  conv => lhs; rw [hf, linksN]
  rw [if_neg (by omega), if_pos hk, linksN_eq f _ (l.take _) m b h (by omega) (by omega) (Nat.le_refl _)]
theorem links_right {l : List H} {m : Nat} {b : Bool} (hm : m < l.length) (hk : ¬ m ≤ split l.length) : links l m b = links (l.drop (split l.length)) (m - split l.length) false ++ [root (l.take (split l.length))] := by
  have hlt := split_lt (n := l.length) (by omega)
  have hp := split_pos (n := l.length) (by omega)
  have e2 := drop_split l
  unfold links
  obtain ⟨f, hf⟩ : ∃ f, l.length = f + 1 := ⟨l.length - 1, by omega⟩
  conv => lhs; rw [hf, linksN]
  rw [if_neg (by omega), if_neg hk, linksN_eq f _ (l.drop _) _ _ (by omega) (by omega) (by omega) (Nat.le_refl _)]
/-- How many hashes the links have. -/
def llongN : Nat → Nat → Nat → Bool → Nat
  | 0, _, _, _ => 0
  | f + 1, m, n, whole => if m = n then (if whole then 0 else 1) else if m ≤ split n then llongN f m (split n) whole + 1 else llongN f (m - split n) (n - split n) false + 1
def llong (m n : Nat) (whole : Bool) : Nat := llongN n m n whole
theorem llongN_eq (f : Nat) : ∀ (g m n : Nat) (b : Bool), 1 ≤ m → m ≤ n → n ≤ f → n ≤ g → llongN f m n b = llongN g m n b := by
  induction f with
  | zero => intro g m n b h1 hm h _; omega
  | succ f ih =>
    intro g m n b h1 hm h hg
    cases g with
    | zero => omega
    | succ g =>
      rw [llongN, llongN]
      by_cases he : m = n
      · rw [if_pos he, if_pos he]
      · have hlt := split_lt (n := n) (by omega)
        have hp := split_pos (n := n) (by omega)
        rw [if_neg he, if_neg he]
        by_cases hk : m ≤ split n
        · rw [if_pos hk, if_pos hk, ih g m (split n) b h1 (by omega) (by omega) (by omega)]
        · rw [if_neg hk, if_neg hk, ih g _ (n - split n) _ (by omega) (by omega) (by omega) (by omega)]
theorem llong_end {n : Nat} {b : Bool} (h : 1 ≤ n) : llong n n b = if b then 0 else 1 := by
  unfold llong
  obtain ⟨f, rfl⟩ : ∃ f, n = f + 1 := ⟨n - 1, by omega⟩
  rw [llongN, if_pos rfl]
theorem llong_left {m n : Nat} {b : Bool} (h : 1 ≤ m) (hm : m < n) (hk : m ≤ split n) : llong m n b = llong m (split n) b + 1 := by
  have hlt := split_lt (n := n) (by omega)
  have hp := split_pos (n := n) (by omega)
  unfold llong
  obtain ⟨f, rfl⟩ : ∃ f, n = f + 1 := ⟨n - 1, by omega⟩
  conv => lhs; rw [llongN]
  rw [if_neg (by omega), if_pos hk, llongN_eq f _ m _ b h hk (by omega) (Nat.le_refl _)]
theorem llong_right {m n : Nat} {b : Bool} (hm : m < n) (hk : ¬ m ≤ split n) : llong m n b = llong (m - split n) (n - split n) false + 1 := by
  have hlt := split_lt (n := n) (by omega)
  have hp := split_pos (n := n) (by omega)
  unfold llong
  obtain ⟨f, rfl⟩ : ∃ f, n = f + 1 := ⟨n - 1, by omega⟩
  conv => lhs; rw [llongN]
  rw [if_neg (by omega), if_neg hk, llongN_eq f _ _ _ _ (by omega) (by omega) (by omega) (Nat.le_refl _)]
theorem links_length (f : Nat) : ∀ (l : List H) (m : Nat) (b : Bool), 1 ≤ m → m ≤ l.length → l.length ≤ f → (links l m b).length = llong m l.length b := by
  induction f with
  | zero => intro l m b h1 hm h; omega
  | succ f ih =>
    intro l m b h1 hm h
    by_cases he : m = l.length
    · subst he
      rw [links_end h1, llong_end h1]
      cases b <;> rfl
    · have hlt := split_lt (n := l.length) (by omega)
      have hp := split_pos (n := l.length) (by omega)
      have e1 := take_split (l := l) (by omega)
      have e2 := drop_split l
      by_cases hk : m ≤ split l.length
      · rw [links_left h1 (by omega) hk, llong_left h1 (by omega) hk, List.length_append, ih _ m b h1 (by omega) (by omega), e1]; rfl
      · rw [links_right (by omega) hk, llong_right (by omega) hk, List.length_append, ih _ _ _ (by omega) (by omega) (by omega), e2]; rfl
theorem links_all (f : Nat) : ∀ (l : List H) (m : Nat) (b : Bool), 1 ≤ m → m ≤ l.length → l.length ≤ f → (∀ x ∈ l, x.length = 32) → ∀ x ∈ links l m b, x.length = 32 := by
  induction f with
  | zero => intro l m b h1 hm h; omega
  | succ f ih =>
    intro l m b h1 hm h hl x hx
    by_cases he : m = l.length
    · subst he
      rw [links_end h1] at hx
      cases b with
      | true => cases hx
      | false => rw [List.mem_singleton.1 hx]; exact root_length _ hl
    · have hlt := split_lt (n := l.length) (by omega)
      have hp := split_pos (n := l.length) (by omega)
      have e1 := take_split (l := l) (by omega)
      have e2 := drop_split l
      have ht : ∀ y ∈ l.take (split l.length), y.length = 32 := fun y hy => hl y (List.mem_of_mem_take hy)
      have hd : ∀ y ∈ l.drop (split l.length), y.length = 32 := fun y hy => hl y (List.mem_of_mem_drop hy)
      by_cases hk : m ≤ split l.length
      · rw [links_left h1 (by omega) hk] at hx
        rcases List.mem_append.1 hx with hx | hx
        · exact ih _ m b h1 (by omega) (by omega) ht x hx
        · rw [List.mem_singleton.1 hx]; exact root_length _ hd
      · rw [links_right (by omega) hk] at hx
        rcases List.mem_append.1 hx with hx | hx
        · exact ih _ _ _ (by omega) (by omega) (by omega) hd x hx
        · rw [List.mem_singleton.1 hx]; exact root_length _ ht
theorem llong_le (f : Nat) : ∀ (m n : Nat) (b : Bool), 1 ≤ m → m ≤ n → n ≤ f → llong m n b ≤ n := by
  induction f with
  | zero => intro m n b h1 hm h; omega
  | succ f ih =>
    intro m n b h1 hm h
    by_cases he : m = n
    · subst he; rw [llong_end h1]; cases b <;> simp <;> omega
    · have hlt := split_lt (n := n) (by omega)
      have hp := split_pos (n := n) (by omega)
      by_cases hk : m ≤ split n
      · rw [llong_left h1 (by omega) hk]
        have := ih m (split n) b h1 hk (by omega)
        omega
      · rw [llong_right (by omega) hk]
        have := ih (m - split n) (n - split n) false (by omega) (by omega) (by omega)
        omega
end Go.Proofs.YtollcdalokhjaaaDoor.Tree
/-! ## Package path: hasPath, hasLinks, Long, LinksLong; the document's LinksLong. -/
namespace Go.Proofs.YtollcdalokhjaaaDoor
open Go.RowKit

/-- Is there a path of m in n leaves whose length is reckoned? -/
def okP (m n : Int) : Bool := decide (0 ≤ m) && (decide (m < n) && decide (n ≤ 1099511627776))
/-- Are there links from m leaves on to n whose length is reckoned? -/
def okL (m n : Int) : Bool := decide (1 ≤ m) && (decide (m ≤ n) && decide (n ≤ 1099511627776))
theorem okP_t {m n : Int} (h : okP m n = true) : 0 ≤ m ∧ m < n ∧ n ≤ 1099511627776 := by simpa [okP] using h
theorem okL_t {m n : Int} (h : okL m n = true) : 1 ≤ m ∧ m ≤ n ∧ n ≤ 1099511627776 := by simpa [okL] using h
theorem okP_f {m n : Int} (h : okP m n = false) : m < 0 ∨ (0 ≤ m ∧ n ≤ m) ∨ (0 ≤ m ∧ m < n ∧ 1099511627776 < n) := by
  simp [okP] at h
  omega
theorem okL_f {m n : Int} (h : okL m n = false) : m < 1 ∨ (1 ≤ m ∧ n < m) ∨ (1 ≤ m ∧ m ≤ n ∧ 1099511627776 < n) := by
  simp [okL] at h
  omega
/-- Ahead of a part. -/
def LongRel (M N : Nat) (s0 s1 s5 : Value) : Prop :=
  ∃ m n c : Nat, s0 = .int .i64 (m : Int) ∧ s1 = .int .i64 (n : Int) ∧ s5 = .int .i64 (c : Int) ∧ m < n ∧ n ≤ 1099511627776 ∧ c + Tree.long m n = Tree.long M N
theorem long_40 (m n : Nat) (h : n ≤ 1099511627776) : Tree.long m n ≤ 40 := Tree.long_le 40 m n (Nat.le_trans h (by decide))
/-- Ahead of a part; 'whole' is slot 6. -/
def LLongRel (M N : Nat) (s0 s1 s5 s6 : Value) : Prop :=
  ∃ (m n c : Nat) (b : Bool), s0 = .int .i64 (m : Int) ∧ s1 = .int .i64 (n : Int) ∧ s5 = .int .i64 (c : Int) ∧ s6 = .bool b ∧ 1 ≤ m ∧ m ≤ n ∧ n ≤ 1099511627776 ∧ c + Tree.llong m n b = Tree.llong M N true
end Go.Proofs.YtollcdalokhjaaaDoor
/-! ## Slices of booleans: of a call's own, read; slices.Reverse of such a one. -/
namespace Go.Proofs.YtollcdalokhjaaaDoor
open Go.RowKit

theorem info_bool : (Tryd.prog.info? 4).map (fun i => (i.zero, i.size, i.bytes)) = some (some (.bool false), 1, 1) := by kernel_rfl
def bvs (l : List Bool) : List Value := l.map Value.bool
theorem bvs_get {l : List Bool} {j : Nat} {b : Bool} (h : l[j]? = some b) : (bvs l)[j]? = some (.bool b) := by simp [bvs, h]
/-- v is a slice that reads as l. -/
def Bools (w : World) (v : Value) (l : List Bool) : Prop :=
  ∃ a cap, v = .slice a l.length cap ∧ l.length ≤ cap ∧ cap ≤ 9223372036854775807 ∧ (0 < l.length → ∃ b off, a = some ⟨b, off, none⟩ ∧ b < w.heap.size ∧ ∀ (j : Nat) (x : Bool), l[j]? = some x → w.cell? ⟨b, off + j, none⟩ = some (.bool x))
theorem Bools.old {w w' : World} {v : Value} {l : List Bool} (h : Bools w v l) (k : Below w.heap.size w w') : Bools w' v l := by
  obtain ⟨a, cap, rfl, h1, h2, h3⟩ := h
  refine ⟨a, cap, rfl, h1, h2, fun hn => ?_⟩
  obtain ⟨b, off, rfl, hb, hj⟩ := h3 hn
  exact ⟨b, off, rfl, Nat.lt_of_lt_of_le hb k.size, fun j x hx => (k.cell (p := ⟨b, off + j, none⟩) hb).trans (hj j x hx)⟩
theorem Bools.slice {w : World} {v : Value} {l : List Bool} (h : Bools w v l) : ∃ a cap, v = .slice a l.length cap ∧ l.length ≤ cap ∧ cap ≤ 9223372036854775807 := by
  obtain ⟨a, cap, rfl, h1, h2, _⟩ := h
  exact ⟨a, cap, rfl, h1, h2⟩
theorem Bools.at {w : World} {a : Option Addr} {n cap : Nat} {l : List Bool} (h : Bools w (.slice a n cap) l) {k : Nat} {x : Bool} (hx : l[k]? = some x) : ∃ b off, a = some ⟨b, off, none⟩ ∧ b < w.heap.size ∧ n = l.length ∧ w.cell? ⟨b, off + k, none⟩ = some (.bool x) := by
  obtain ⟨a', cap', e, h1, h2, h3⟩ := h
  injection e with e1 e2 e3
  subst e1 e2 e3
  obtain ⟨b, off, rfl, hb, hj⟩ := h3 (by have := (List.getElem?_eq_some_iff.1 hx).1; omega)
  exact ⟨b, off, rfl, hb, rfl, hj k x hx⟩
/-- A slice of the call's own. -/
def OwnB (B : Nat) (w : World) (v : Value) (l : List Bool) : Prop := w.ownsRow B 4 1 v l.length (bvs l)
theorem OwnB.nil (B : Nat) (w : World) : OwnB B w (.slice none 0 0) [] := World.ownsRow_nil _ _ _ _
theorem OwnB.bools {B : Nat} {w : World} {v : Value} {l : List Bool} (h : OwnB B w v l) : Bools w v l := by
  have h' := h
  obtain ⟨_, h | ⟨g, cap, cur, rfl, hbg, hg, hnc, hcm, hcs, htake⟩⟩ := h
  · obtain ⟨rfl, h0⟩ := h
    have := List.eq_nil_of_length_eq_zero h0
    subst this
    exact ⟨none, 0, rfl, by simp, by decide, fun h => absurd h (by simp)⟩
  · refine ⟨_, cap, rfl, hnc, by unfold maxLen at hcm; omega, fun _ => ⟨g, 0, rfl, (Array.getElem?_eq_some_iff.1 hg).1, fun j x hx => ?_⟩⟩
    have := World.ownsRow.cells h' (g := g) rfl _ _ (bvs_get hx)
    rw [Addr.add_mid] at this
    exact this
theorem OwnB.kept {B : Nat} {w w' : World} {v : Value} {l : List Bool} (h : OwnB B w v l) (k : Below w.heap.size w w') : OwnB B w' v l := by
  obtain ⟨h1, h2⟩ := h
  refine ⟨h1, ?_⟩
  rcases h2 with e | ⟨g, cap, cur, e1, e2, hg, r⟩
  · exact .inl e
  · exact .inr ⟨g, cap, cur, e1, e2, (k.block g (Array.getElem?_eq_some_iff.1 hg).1).trans hg, r⟩
theorem OwnB.lower {B B' : Nat} {w : World} {v : Value} {l : List Bool} (h : OwnB B w v l) (hB : B' ≤ B) : OwnB B' w v l := by
  obtain ⟨h1, h2⟩ := h
  refine ⟨h1, ?_⟩
  rcases h2 with e | ⟨g, cap, cur, e1, e2, r⟩
  · exact .inl e
  · exact .inr ⟨g, cap, cur, e1, by omega, r⟩
/-- One more. -/
theorem bappend_own {B : Nat} {w : World} {v : Value} {l : List Bool} (ty : TypeId) (b : Bool) (h : OwnB B w v l) (hB : B ≤ w.heap.size) (hl : l.length ≤ 1000000) :
    ∃ v' w', (Builtin.append_ #[104, 104] ty #[v, .slice (some ⟨w.heap.size, 0, none⟩) 1 1]).run Tryd.prog (w.alloc (.cells #[.bool b] 4)) = .ok v' w' ∧ OwnB B w' v' (l ++ [b]) ∧ Below B w w' := by
  obtain ⟨i0, hi, hz0, hz1, hz2⟩ := info_parts info_bool
  have b2 : Below w.heap.size w (w.alloc (.cells #[.bool b] 4)) := (Below.refl _ _).alloc (Nat.le_refl _) _
  have h2 := h.kept b2
  obtain ⟨v', w', h1, h2, h3, _⟩ := run_append_own_at (P := Tryd.prog) (w.alloc (.cells #[.bool b] 4)) B _ ty _ i0 _ 1 1 Tryd.underlying104 hi hz0 hz1 hz2 rfl (by decide) v l.length (bvs l) h2 ⟨w.heap.size, 0, none⟩ 1 1 [.bool b] rfl
    (fun j u hu => by
      have hj : j < 1 := (List.getElem?_eq_some_iff.1 hu).1
      obtain rfl : j = 0 := by omega
      simp at hu
      subst hu
      rw [Addr.add_mid]
      exact cell_of (heap_alloc_last w _) 0) (fun u hu => by simp at hu; subst hu; rfl) (by unfold maxLen; omega) (by omega) (by simp; omega)
  refine ⟨v', w', h1, ?_, ?_⟩
  · unfold OwnB
    rw [List.length_append]
    simpa [bvs] using h2
  · exact (b2.mono hB).trans (sgrown_below h3 (by simp; omega) fun g e => (World.ownsRow.lt h g e).1)
theorem OwnB.set {B g n cap : Nat} {w : World} {l : List Bool} (h : OwnB B w (.slice (some ⟨g, 0, none⟩) n cap) l) (hn : n = l.length) (j : Nat) (b : Bool) : OwnB B (w.setCell ⟨g, j, none⟩ (.bool b)) (.slice (some ⟨g, 0, none⟩) n cap) (l.set j b) := by
  subst hn
  unfold OwnB at h ⊢
  have := (h.stored j (.bool b)).1
  rw [List.length_set]
  simpa [bvs, List.map_set] using this

/-! ### Reverse -/
/-- Turned round from both ends, i of each. -/
def revK (l : List Bool) (i : Nat) : List Bool := (List.range l.length).map fun x => if x < i ∨ l.length ≤ x + i then l.getD (l.length - 1 - x) false else l.getD x false
theorem revK_length (l : List Bool) (i : Nat) : (revK l i).length = l.length := by simp [revK]
theorem revK_get (l : List Bool) (i x : Nat) (h : x < l.length) : (revK l i)[x]? = some (if x < i ∨ l.length ≤ x + i then l.getD (l.length - 1 - x) false else l.getD x false) := by simp [revK, h]
theorem revK_none (l : List Bool) (i x : Nat) (h : ¬ x < l.length) : (revK l i)[x]? = none := List.getElem?_eq_none (by rw [revK_length]; omega)
theorem revK_zero (l : List Bool) : revK l 0 = l := by
  apply List.ext_getElem?
  intro x
  by_cases h : x < l.length
  · rw [revK_get l 0 x h, if_neg (by omega)]
    simp [h]
  · rw [revK_none l 0 x h, List.getElem?_eq_none (by omega)]
theorem revK_full (l : List Bool) (i : Nat) (h1 : 2 * i ≤ l.length) (h2 : l.length ≤ 2 * i + 1) : revK l i = l.reverse := by
  apply List.ext_getElem?
  intro x
  by_cases h : x < l.length
  · rw [revK_get l i x h, List.getElem?_reverse h]
    have hg : ∀ y, y < l.length → l[y]? = some (l.getD y false) := fun y hy => by simp [hy]
    by_cases hx : x < i ∨ l.length ≤ x + i
    · rw [if_pos hx, hg _ (by omega)]
    · rw [if_neg hx, hg _ (by omega)]
      congr 2
      omega
  · rw [revK_none l i x h, List.getElem?_eq_none (by rw [List.length_reverse]; omega)]
theorem revK_step (l : List Bool) (i j : Nat) (hj : j + i + 1 = l.length) (h : i < j) : ((revK l i).set i (l.getD j false)).set j (l.getD i false) = revK l (i + 1) := by
  apply List.ext_getElem?
  intro x
  rw [List.getElem?_set, List.getElem?_set]
  by_cases hx : x < l.length
  · rw [revK_get l (i + 1) x hx]
    by_cases e1 : j = x
    · subst e1
      rw [if_pos rfl, if_pos (by simp [revK_length]; omega), if_pos (by omega), show l.length - 1 - j = i by omega]
    · rw [if_neg e1]
      by_cases e2 : i = x
      · subst e2
        rw [if_pos rfl, if_pos (by rw [revK_length]; omega), if_pos (by omega), show l.length - 1 - i = j by omega]
      · rw [if_neg e2, revK_get l i x hx]
        by_cases hc : x < i ∨ l.length ≤ x + i
        · rw [if_pos hc, if_pos (by omega)]
        · rw [if_neg hc, if_neg (by omega)]
  · rw [revK_none l (i + 1) x hx, revK_none l i x hx, if_neg (by omega), if_neg (by omega)]
theorem revK_step' (l : List Bool) (i j : Nat) (hj : j + i + 1 = l.length) (h : i < j) : ((revK l i).set j (l.getD i false)).set i (l.getD j false) = revK l (i + 1) := by
  rw [List.set_comm _ _ (by omega)]
  exact revK_step l i j hj h
/-- Ahead of the pair from i on. -/
def RevRel (B : Nat) (w : World) (v : Value) (l : List Bool) (s2 s3 : Value) (wr : World) : Prop :=
  ∃ i : Nat, s2 = .int .i64 (i : Int) ∧ s3 = .int .i64 ((l.length : Int) - 1 - (i : Int)) ∧ 2 * i ≤ l.length ∧ OwnB B wr v (revK l i) ∧ Below B w wr
theorem index_bools (g o n cap k : Nat) (K : Int) (hK : K = (k : Int)) (h : k < n) (w : World) : (Instr.indexAt 104 (.slice (some ⟨g, o, none⟩) n cap) (.int .i64 K)).run Tryd.prog w = .ok (.pointer (some ⟨g, o + k, none⟩)) w := by
  subst hK
  go_simp
end Go.Proofs.YtollcdalokhjaaaDoor
/-! ## Package path: Turns; the document's Turns, Long, LinksLong. -/
namespace Go.Proofs.YtollcdalokhjaaaDoor
open Go.RowKit

/-- The sides, as they are told; none, where none are reckoned. -/
def turnsZ (m n : Int) : List Bool := if okP m n then Tree.turns m.toNat n.toNat else []
theorem turnsZ_len (m n : Int) : (turnsZ m n).length ≤ 40 := by
  unfold turnsZ
  split
  · rename_i h
    obtain ⟨h0, h1, h2⟩ := okP_t h
    exact long_40 m.toNat n.toNat (by omega)
  · simp
/-- Ahead of a part: D has the sides down to it. -/
def TurnRel (B M N : Nat) (w : World) (s0 s1 s5 : Value) (wr : World) : Prop :=
  ∃ (m n : Nat) (D : List Bool), s0 = .int .i64 (m : Int) ∧ s1 = .int .i64 (n : Int) ∧ m < n ∧ n ≤ 1099511627776 ∧ Tree.turns M N = Tree.turns m n ++ D.reverse ∧ OwnB B wr s5 D ∧ Below B w wr
/-! ### The document's own -/
/-- Ahead of element i - 1: what was put so far is the end of D, turned round. -/
def TurnRev (B : Nat) (D : List Bool) (w : World) (s7 s8 : Value) (wr : World) : Prop :=
  ∃ i : Nat, s8 = .int .i64 ((i : Int) - 1) ∧ i ≤ D.length ∧ OwnB B wr s7 (D.drop i).reverse ∧ Below B w wr
set_option maxHeartbeats 2000000 in
set_option maxRecDepth 100000 in
theorem rturns_any (m n : Int) (w : World) (_ : m ≤ 9223372036854775807) (_ : n ≤ 9223372036854775807) :
    Calls Tryd.prog 59 #[.int .i64 m, .int .i64 n] w fun e w' => ∃ v', e = .returned v' ∧ OwnB w.heap.size w' v' (turnsZ m n) ∧ Below w.heap.size w w' := by
  obtain ⟨b, hb⟩ : ∃ b, b = okP m n := ⟨_, rfl⟩
  have hz : turnsZ m n = if b then Tree.turns m.toNat n.toNat else [] := by unfold turnsZ; rw [← hb]
  rw [hz]
  clear hz
  cases b with
  | false =>
    rcases okP_f hb.symm with h | ⟨h, h1⟩ | ⟨h, h1, h2⟩ <;>
    · clear hb
      go_enter Tryd.func59, Tryd.ntmps59
      go_wp2
      go_ret
      exact ⟨_, rfl, OwnB.nil _ _, Below.refl _ _⟩
  | true =>
    obtain ⟨h0, h1, h2⟩ := okP_t hb.symm
    obtain ⟨M, rfl⟩ := Int.eq_ofNat_of_zero_le h0
    obtain ⟨N, rfl⟩ := Int.eq_ofNat_of_zero_le (show 0 ≤ n by omega)
    clear hb
    have h40 := long_40 M N (by omega)
    obtain ⟨B, hBw⟩ : ∃ B, B = w.heap.size := ⟨_, rfl⟩
    have HBw := Lib.hid hBw
    have e1 : ((M : Int)).toNat = M := rfl
    have e2 : ((N : Int)).toNat = N := rfl
    rw [← hBw, e1, e2, if_pos rfl]
    have h2' : ¬ 1099511627776 < (N : Int) := by omega
    clear hBw e1 e2
    go_enter Tryd.func59, Tryd.ntmps59
    go_wp2
    go_loopw [0, 1, 5] (TurnRel B M N w) (fun _ s1 _ _ => (intOf s1).toNat)
    case atStart => exact ⟨M, N, [], rfl, rfl, by omega, by omega, by simp, OwnB.nil _ _, Below.refl _ _⟩
    case round =>
      obtain ⟨m, n, D, rfl, rfl, hmn, hn, hT, ho, hbel⟩ := hrel
      have hBW : B ≤ wr.heap.size := HBw.out ▸ hbel.size
      have hDl : D.length ≤ 40 := by
        have := congrArg List.length hT
        rw [List.length_append, List.length_reverse] at this
        have e : (Tree.turns M N).length = Tree.long M N := rfl
        omega
      by_cases h1' : n < 2
      · have h2' : ¬ 1 < (n : Int) := by omega
        rw [Tree.turns_small h1', List.nil_append] at hT
        obtain ⟨va, cap, rfl, hlc, hcap⟩ := ho.bools.slice
        have HO := Lib.hid ho
        have HT := Lib.hid hT
        have hBWo := Lib.hid hBW
        have hbo := Lib.hid hbel
        obtain ⟨wo, hwo⟩ : ∃ wo, wo = wr := ⟨_, rfl⟩
        subst hwo
        obtain ⟨B2, hB2⟩ : ∃ B2, B2 = wo.heap.size := ⟨_, rfl⟩
        have HB2 := Lib.hid hB2
        have hw0 := IntWalk.i64_in ((D.length : Int) - 1) (by omega)
        clear ho hT h1' h40 hbel hBW hB2
        go_wp2
        go_loopw [7, 8] (TurnRev B2 D wo) (fun _ s8 _ => (intOf s8 + 1).toNat)
        case atStart => exact ⟨D.length, rfl, Nat.le_refl _, by rw [List.drop_length]; exact OwnB.nil _ _, Below.refl _ _⟩
        case round =>
          obtain ⟨i, rfl, hi, ho7, hb7⟩ := hrel
          by_cases hi0 : i = 0
          · subst hi0
            have hge : ¬ (0 : Int) ≤ ((0 : Nat) : Int) - 1 := by omega
            rw [List.drop_zero, ← HT.out] at ho7
            have hfin := And.intro (ho7.lower (show B ≤ B2 by rw [HB2.out]; exact hBWo.out)) (hbo.out.trans (hb7.mono (show B ≤ B2 by rw [HB2.out]; exact hBWo.out)))
            have HF := Lib.hid hfin
            clear ho7 hfin
            go_wp2
            go_ret
            exact ⟨_, rfl, HF.out.1, HF.out.2⟩
          · have hge : (0 : Int) ≤ (i : Int) - 1 := by omega
            obtain ⟨j, hj⟩ : ∃ j, i = j + 1 := ⟨i - 1, by omega⟩
            subst hj
            have hjz : ((j + 1 : Nat) : Int) - 1 = (j : Int) := by omega
            rw [hjz] at hge ⊢
            have hw1 := IntWalk.i64_in ((j : Int) - 1) (by omega)
            obtain ⟨x, hx⟩ : ∃ x, x = D[j]'(by omega) := ⟨_, rfl⟩
            have hxe : D[j]? = some x := by rw [List.getElem?_eq_getElem (by omega), hx]
            have hsz : B2 ≤ wr.heap.size := by have := HB2.out; have := hb7.size; omega
            obtain ⟨b, off, rfl, hbl, -, hcell⟩ := HO.out.bools.at hxe
            replace hcell := (hb7.cell (p := ⟨b, off + j, none⟩) (by rw [HB2.out]; exact hbl)).trans hcell
            have hix := fun u => index_bools b off D.length cap j (j : Int) rfl (by omega) u
            obtain ⟨v5, w5, hr5, ho5, b5⟩ := bappend_own 104 x ho7 hsz (by simp; omega)
            have hd : (D.drop (j + 1)).reverse ++ [x] = (D.drop j).reverse := by
              rw [List.drop_eq_getElem_cons (show j < D.length by omega), List.reverse_cons, hx]
            rw [hd] at ho5
            have HR := Lib.hid hr5
            have HO5 := Lib.hid ho5
            have b6 := hb7.trans b5
            clear hd hr5 ho5 ho7 hx hxe hi0 hjz
            go_wp2_with (at_builtin; refine Lib.wpList_append_run _ rfl _ _ _ _ rfl _ _ rfl rfl _ _ HR.out ?_)
            exact ⟨⟨j, rfl, by omega, HO5.out, b6⟩, by simp [intOf]⟩
      · have h2' : 1 < (n : Int) := by omega
        obtain ⟨va, cap, rfl, hlc, hcap⟩ := ho.bools.slice
        obtain ⟨k, hk⟩ : ∃ k, k = Tree.split n := ⟨_, rfl⟩
        have HSP : Hid (∀ u : World, Calls Tryd.prog 43 #[.int .i64 (n : Int)] u fun e w' => e = .returned (.int .i64 (k : Int)) ∧ u = w') := Lib.hid fun u => by
          have := rleafSplit_any (n : Int) (by omega) (by omega) u
          rwa [Int.toNat_natCast, ← hk] at this
        have hlt := Tree.split_lt (n := n) (by omega)
        have hp := Tree.split_pos (n := n) (by omega)
        rw [← hk] at hlt hp
        by_cases hmk : m < k
        · have hmk' : (m : Int) < (k : Int) := by omega
          obtain ⟨v5, w5, hr5, ho5, b5⟩ := bappend_own 104 false ho hBW (by omega)
          have hT2 : Tree.turns M N = Tree.turns m k ++ (D ++ [false]).reverse := by
            rw [Tree.turns_left (m := m) (n := n) (by omega) (by omega), ← hk] at hT
            rw [hT]
            simp
          have HR := Lib.hid hr5
          have HT := Lib.hid hT2
          have HO := Lib.hid ho5
          have b6 := hbel.trans b5
          clear hk hT hT2 hr5 ho5 ho h40 h1'
          go_wp2_with (first
            | (go_at_call 43; ((with_reducible refine (HSP.out _).mono ?_); rintro e w1 ⟨rfl, rfl⟩))
            | (at_builtin; refine Lib.wpList_append_run _ rfl _ _ _ _ rfl _ _ rfl rfl _ _ HR.out ?_))
          exact ⟨⟨m, k, _, rfl, rfl, hmk, by omega, HT.out, HO.out, b6⟩, by simp [intOf]; omega⟩
        · have hmk' : ¬ (m : Int) < (k : Int) := by omega
          obtain ⟨v5, w5, hr5, ho5, b5⟩ := bappend_own 104 true ho hBW (by omega)
          have hT2 : Tree.turns M N = Tree.turns (m - k) (n - k) ++ (D ++ [true]).reverse := by
            rw [Tree.turns_right (m := m) (n := n) (by omega) (by omega), ← hk] at hT
            rw [hT]
            simp
          have HR := Lib.hid hr5
          have HT := Lib.hid hT2
          have HO := Lib.hid ho5
          have b6 := hbel.trans b5
          have hw1 := IntWalk.i64_in ((m : Int) - (k : Int)) (by omega)
          have hw2 := IntWalk.i64_in ((n : Int) - (k : Int)) (by omega)
          clear hk hT hT2 hr5 ho5 ho h40 h1'
          go_wp2_with (first
            | (go_at_call 43; ((with_reducible refine (HSP.out _).mono ?_); rintro e w1 ⟨rfl, rfl⟩))
            | (at_builtin; refine Lib.wpList_append_run _ rfl _ _ _ _ rfl _ _ rfl rfl _ _ HR.out ?_))
          exact ⟨⟨m - k, n - k, _, by rw [Int.ofNat_sub (by omega)], by rw [Int.ofNat_sub (by omega)], by omega, by omega, HT.out, HO.out, b6⟩, by simp [intOf]; omega⟩
set_option maxHeartbeats 1000000 in
set_option maxRecDepth 100000 in
theorem prlong_any (m n : Int) (w : World) (l1 : m ≤ 9223372036854775807) (l2 : n ≤ 9223372036854775807) :
    Calls Tryd.prog 58 #[.int .i64 m, .int .i64 n] w fun e w' => e = .returned (.int .i64 (if okP m n then ((Tree.long m.toNat n.toNat : Nat) : Int) else -1)) ∧ Below w.heap.size w w' := by
  have hrt := rturns_any m n w l1 l2
  have hlen := turnsZ_len m n
  obtain ⟨b, hb⟩ : ∃ b, b = okP m n := ⟨_, rfl⟩
  have hz : turnsZ m n = if b then Tree.turns m.toNat n.toNat else [] := by unfold turnsZ; rw [← hb]
  cases b with
  | false =>
    rw [← hb]
    rcases okP_f hb.symm with h | ⟨h, h1⟩ | ⟨h, h1, h2⟩ <;>
    · clear hb hz hrt hlen
      go_enter Tryd.func58, Tryd.ntmps58
      go_wp2
      go_ret
      exact ⟨rfl, Below.refl _ _⟩
  | true =>
    obtain ⟨h0, h1, h2⟩ := okP_t hb.symm
    rw [← hb]
    rw [if_pos rfl] at hz
    have hll : (turnsZ m n).length = Tree.long m.toNat n.toNat := by rw [hz]; rfl
    rw [← hll]
    generalize turnsZ m n = T at *
    have HRT := Lib.hid hrt
    have h2' : ¬ 1099511627776 < n := by omega
    clear hb hz hrt hll
    go_enter Tryd.func58, Tryd.ntmps58
    go_wp2_with (go_at_call 59; ((with_reducible refine HRT.out.mono ?_); rintro e w1 ⟨v1, rfl, ho1, b1⟩; obtain ⟨a1, c1, rfl, _, _⟩ := ho1.bools.slice))
    go_ret
    exact ⟨rfl, b1⟩
end Go.Proofs.YtollcdalokhjaaaDoor
/-! ## Package path: cut; slices of hashes that are cut without room behind. -/
namespace Go.Proofs.YtollcdalokhjaaaDoor
open Go.RowKit

set_option maxRecDepth 1000000 in
theorem scut_hm (va : Option Addr) (n cap m : Nat) (h2 : m ≤ cap) (w : World) : (Instr.sliceAt 27 (.slice va n cap) none (some (.int .i64 (m : Int))) (some (.int .i64 (m : Int)))).run Tryd.prog w = .ok (.slice va m m) w := by
  refine (run_sliceAt_slice w _ _ _ _ _ Tryd.underlying27).trans ?_
  rw [run_slice_hm (P := Tryd.prog) w _ va n cap Tryd.underlying27 _ _ _ _ (by omega) (by omega) (by omega), elem_sums, size_sum]
  cases va with
  | none => simp [Result.andThen, sliced]
  | some a => obtain ⟨b, off, s⟩ := a; cases s <;> simp [Result.andThen, sliced, Addr.add]
set_option maxRecDepth 1000000 in
theorem scut_lhm (va : Option Addr) (n cap k : Nat) (h : k ≤ n) (h2 : n ≤ cap) (w : World) : (Instr.sliceAt 27 (.slice va n cap) (some (.int .i64 (k : Int))) (some (.int .i64 (n : Int))) (some (.int .i64 (n : Int)))).run Tryd.prog w = .ok (.slice (cutS va k n) (n - k) (n - k)) w := by
  refine (run_sliceAt_slice w _ _ _ _ _ Tryd.underlying27).trans ?_
  rw [run_slice_lhm (P := Tryd.prog) w _ va n cap Tryd.underlying27 _ _ _ _ _ _ (by omega) (by omega) (by omega) (by omega), elem_sums, size_sum]
  simp only [Result.andThen, sliced, Int.toNat_natCast, cutS]
theorem Sums.head3 {w : World} {a : Option Addr} {n cap : Nat} {l : Hs} (h : Sums w (.slice a n cap) l) (k : Nat) (hk : k ≤ l.length) (h0 : 0 < k) : Sums w (.slice a k k) (l.take k) := by
  obtain ⟨a', cap', e, h1, h2, h3, h4, h5⟩ := h
  injection e with e1 e2 e3
  subst e1 e2 e3
  have hl : (l.take k).length = k := by rw [List.length_take]; omega
  refine ⟨a, k, by rw [hl], by omega, by omega, fun e => by have := h3 e; omega, h4.take k, fun hn => ?_⟩
  obtain ⟨b, off, rfl, hb, hj⟩ := h5 (by omega)
  exact ⟨b, off, rfl, hb, fun j h => by rw [List.getElem_take]; exact hj j (by omega)⟩
theorem Sums.tail3 {w : World} {a : Option Addr} {n cap : Nat} {l : Hs} (h : Sums w (.slice a n cap) l) (k : Nat) (hk : k < l.length) : Sums w (.slice (cutS a k n) (n - k) (n - k)) (l.drop k) := by
  obtain ⟨a', cap', e, h1, h2, h3, h4, h5⟩ := h
  injection e with e1 e2 e3
  subst e1 e2 e3
  have hl : (l.drop k).length = l.length - k := List.length_drop
  obtain ⟨b, off, rfl, hb, hj⟩ := h5 (by omega)
  have hc : cutS (some ⟨b, off, none⟩) k l.length = some ⟨b, off + k * 32, none⟩ := by
    unfold cutS
    rw [if_neg (by omega), Option.map_some, Addr.add_mid]
  refine ⟨cutS (some ⟨b, off, none⟩) k l.length, l.length - k, by rw [hl], by omega, by omega, fun e => (by rw [hc] at e; cases e), h4.drop k, fun hn => ⟨b, off + k * 32, hc, hb, fun j h => ?_⟩⟩
  rw [List.getElem_drop, show off + k * 32 + j * 32 = off + (k + j) * 32 by omega]
  exact hj (k + j) (by omega)
/-- Both parts lie where the whole does. -/
theorem SumsB.head3 {B : Nat} {w : World} {a : Option Addr} {n cap : Nat} {l : Hs} (h : SumsB B w (.slice a n cap) l) (k : Nat) (hk : k ≤ l.length) (h0 : 0 < k) : SumsB B w (.slice a k k) (l.take k) :=
  ⟨h.1.head3 k hk h0, fun b off n' c' e _ => by injection e with e _ _; exact h.2 b off n cap (by rw [e]) (by omega)⟩
theorem SumsB.tail3 {B : Nat} {w : World} {a : Option Addr} {n cap : Nat} {l : Hs} (h : SumsB B w (.slice a n cap) l) (k : Nat) (hk : k < l.length) : SumsB B w (.slice (cutS a k n) (n - k) (n - k)) (l.drop k) := by
  refine ⟨h.1.tail3 k hk, fun b off n' c' e _ => ?_⟩
  obtain ⟨b', off', rfl, _⟩ := h.1.at 0 (by omega)
  have hn := h.1.len.1
  have hc : cutS (some ⟨b', off', none⟩) k n = some ⟨b', off' + k * 32, none⟩ := by
    unfold cutS
    rw [if_neg (by omega), Option.map_some, Addr.add_mid]
  rw [hc] at e
  injection e with e _ _
  injection e with e
  injection e with e _ _
  subst e
  exact h.2 b' off' n cap rfl (by omega)
set_option maxHeartbeats 1000000 in
set_option maxRecDepth 100000 in
theorem cut_any (va : Option Addr) (n cap k : Nat) (hk : k = Tree.split n) (h2 : 2 ≤ n) (hlc : n ≤ cap) (hn : n ≤ 9223372036854775807) (w : World) :
    Calls Tryd.prog 52 #[.slice va n cap] w fun e w' => e = .returned (.tuple #[.slice va k k, .slice (cutS va k n) (n - k) (n - k)]) ∧ Below w.heap.size w w' := by
  have hlt := Tree.split_lt h2
  have hkn : k ≤ n := by omega
  have hkc : k ≤ cap := by omega
  have HSP : Hid (∀ u : World, Calls Tryd.prog 75 #[.int .i64 (n : Int)] u fun e w' => e = .returned (.int .i64 (k : Int)) ∧ u = w') := Lib.hid fun u => by
    have := leafSplit_any (n : Int) (by omega) u
    rwa [Int.toNat_natCast, ← hk] at this
  clear hk hlt
  go_enter Tryd.func52, Tryd.ntmps52
  go_upto_region 2 with (go_at_call 75; ((with_reducible refine (HSP.out _).mono ?_); rintro e w1 ⟨rfl, rfl⟩))
  try simp only [Act.put]
  refine wp_region_tab [RT.is (.slice va n cap), RT.is (.int .i64 (k : Int)), RT.is (.int .i64 (k : Int)), RT.is (.slice va k k), RT.is (.slice va n cap), RT.is (.int .i64 (k : Int)), RT.is (.slice va n cap), RT.is (.int .i64 (n : Int)), RT.is (.slice va n cap), RT.is (.int .i64 (n : Int)), RT.is (.slice (cutS va k n) (n - k) (n - k)), RT.is (.slice va k k), RT.is (.slice (cutS va k n) (n - k) (n - k))] (by kernel_rfl) (by kernel_rfl) (by kernel_rfl) (by kernel_rfl) ⟨?_, ?_, ?_, ?_, ?_, ?_, ?_, ?_, ?_, ?_, ?_, ?_, ?_, trivial⟩ ?_
  · intro ac w' hF hL hP hU K hK
    have hB := below_undrew hL
    have e0 : ac.eval (.tmp 0) = .slice va n cap := hF.at 0 (by kernel_rfl)
    exact rop_move _ rfl e0 (wanted_none rfl) (hK _ _ (le8_refl _) rfl)
  · intro ac w' hF hL hP hU K hK
    have hB := below_undrew hL
    have e4 : ac.eval (.tmp 4) = .int .i64 (k : Int) := hF.at 4 (by kernel_rfl)
    exact rop_move _ rfl e4 (wanted_none rfl) (hK _ _ (le8_refl _) rfl)
  · intro ac w' hF hL hP hU K hK
    have hB := below_undrew hL
    have e4 : ac.eval (.tmp 4) = .int .i64 (k : Int) := hF.at 4 (by kernel_rfl)
    exact rop_move _ rfl e4 (wanted_none rfl) (hK _ _ (le8_refl _) rfl)
  · intro ac w' hF hL hP hU K hK
    have hB := below_undrew hL
    have e8 : ac.eval (.tmp 8) = .slice va n cap := hP 0 (by kernel_rfl)
    have e9 : ac.eval (.tmp 9) = .int .i64 (k : Int) := hP 1 (by kernel_rfl)
    have e10 : ac.eval (.tmp 10) = .int .i64 (k : Int) := hP 2 (by kernel_rfl)
    exact rop_sliceG _ _ _ _ _ rfl e8 rfl (by simp [e9]) (by simp [e10]) (scut_hm va n cap k hkc w') (wanted_none rfl) (hK _ _ (le8_refl _) rfl)
  · intro ac w' hF hL hP hU K hK
    have hB := below_undrew hL
    have e0 : ac.eval (.tmp 0) = .slice va n cap := hF.at 0 (by kernel_rfl)
    exact rop_move _ rfl e0 (wanted_none rfl) (hK _ _ (le8_refl _) rfl)
  · intro ac w' hF hL hP hU K hK
    have hB := below_undrew hL
    have e4 : ac.eval (.tmp 4) = .int .i64 (k : Int) := hF.at 4 (by kernel_rfl)
    exact rop_move _ rfl e4 (wanted_none rfl) (hK _ _ (le8_refl _) rfl)
  · intro ac w' hF hL hP hU K hK
    have hB := below_undrew hL
    have e0 : ac.eval (.tmp 0) = .slice va n cap := hF.at 0 (by kernel_rfl)
    exact rop_move _ rfl e0 (wanted_none rfl) (hK _ _ (le8_refl _) rfl)
  · intro ac w' hF hL hP hU K hK
    have hB := below_undrew hL
    have e14 : ac.eval (.tmp 14) = .slice va n cap := hP 6 (by kernel_rfl)
    exact rop_lenG _ Tryd.underlying27 rfl e14 (wanted_none rfl) (hK _ _ (le8_refl _) rfl)
  · intro ac w' hF hL hP hU K hK
    have hB := below_undrew hL
    have e0 : ac.eval (.tmp 0) = .slice va n cap := hF.at 0 (by kernel_rfl)
    exact rop_move _ rfl e0 (wanted_none rfl) (hK _ _ (le8_refl _) rfl)
  · intro ac w' hF hL hP hU K hK
    have hB := below_undrew hL
    have e16 : ac.eval (.tmp 16) = .slice va n cap := hP 8 (by kernel_rfl)
    exact rop_lenG _ Tryd.underlying27 rfl e16 (wanted_none rfl) (hK _ _ (le8_refl _) rfl)
  · intro ac w' hF hL hP hU K hK
    have hB := below_undrew hL
    have e12 : ac.eval (.tmp 12) = .slice va n cap := hP 4 (by kernel_rfl)
    have e13 : ac.eval (.tmp 13) = .int .i64 (k : Int) := hP 5 (by kernel_rfl)
    have e15 : ac.eval (.tmp 15) = .int .i64 (n : Int) := hP 7 (by kernel_rfl)
    have e17 : ac.eval (.tmp 17) = .int .i64 (n : Int) := hP 9 (by kernel_rfl)
    exact rop_sliceG _ _ _ _ _ rfl e12 (by simp [e13]) (by simp [e15]) (by simp [e17]) (scut_lhm va n cap k hkn hlc w') (wanted_none rfl) (hK _ _ (le8_refl _) rfl)
  · intro ac w' hF hL hP hU K hK
    have hB := below_undrew hL
    have e11 : ac.eval (.tmp 11) = .slice va k k := hP 3 (by kernel_rfl)
    exact rop_assign _ rfl e11 (wanted_none rfl) (hK _ _ (le8_refl _) rfl)
  · intro ac w' hF hL hP hU K hK
    have hB := below_undrew hL
    have e18 : ac.eval (.tmp 18) = .slice (cutS va k n) (n - k) (n - k) := hP 10 (by kernel_rfl)
    exact rop_assign _ rfl e18 (wanted_none rfl) (hK _ _ (le8_refl _) rfl)
  · intro ac w' hF hB hT
    have e2 : ac.eval (.tmp 2) = .slice va k k := hT 11 (by decide)
    have e3 : ac.eval (.tmp 3) = .slice (cutS va k n) (n - k) (n - k) := hT 12 (by decide)
    rw [hF.setsG [8, 9, 10, 11, 12, 13, 14, 15, 16, 17, 18, 2, 3] (by kernel_rfl)]
    simp only [List.foldl_cons, List.foldl_nil, List.setIfInBounds_toArray, List.set_cons_succ, List.set_cons_zero, e2, e3]
    generalize ac.eval (.tmp 8) = u8
    generalize ac.eval (.tmp 9) = u9
    generalize ac.eval (.tmp 10) = u10
    generalize ac.eval (.tmp 11) = u11
    generalize ac.eval (.tmp 12) = u12
    generalize ac.eval (.tmp 13) = u13
    generalize ac.eval (.tmp 14) = u14
    generalize ac.eval (.tmp 15) = u15
    generalize ac.eval (.tmp 16) = u16
    generalize ac.eval (.tmp 17) = u17
    generalize ac.eval (.tmp 18) = u18
    clear e2 e3 hT hF ac
    go_wp2
    go_ret2
    exact ⟨rfl, hB⟩
end Go.Proofs.YtollcdalokhjaaaDoor
