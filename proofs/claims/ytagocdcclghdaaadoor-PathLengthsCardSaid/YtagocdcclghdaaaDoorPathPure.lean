/-
  Plain mathematics of paths and links in trees of hashes. No walk, no program.
-/
import Derived.Test.YtagocdcclghdaaaDoorLeafPure
namespace Go.Proofs.YtagocdcclghdaaaDoor.Tree
open Go

/-! ### Sides and lengths -/
/-- Of each hash of the path of m in n leaves, from the leaf up: does it stand on the left? -/
def turnsN : Nat → Nat → Nat → List Bool
  | 0, _, _ => []
  | f + 1, m, n => if n < 2 then [] else if m < split n then turnsN f m (split n) ++ [false] else turnsN f (m - split n) (n - split n) ++ [true]
def turns (m n : Nat) : List Bool := turnsN n m n
theorem turnsN_eq (f : Nat) : ∀ (g m n : Nat), n ≤ f → n ≤ g → turnsN f m n = turnsN g m n := by
  induction f with
  | zero =>
    intro g m n h _
    obtain rfl : n = 0 := by omega
    cases g with
    | zero => rfl
    | succ g => rw [turnsN, turnsN, if_pos (by decide)]
  | succ f ih =>
    intro g m n h hg
    cases g with
    | zero =>
      obtain rfl : n = 0 := by omega
      rw [turnsN, turnsN, if_pos (by decide)]
    | succ g =>
      rw [turnsN, turnsN]
      by_cases h2 : n < 2
      · rw [if_pos h2, if_pos h2]
      · have hlt := split_lt (n := n) (by omega)
        have hp := split_pos (n := n) (by omega)
        rw [if_neg h2, if_neg h2, ih g m (split n) (by omega) (by omega), ih g (m - split n) (n - split n) (by omega) (by omega)]
theorem turns_small {m n : Nat} (h : n < 2) : turns m n = [] := by
  unfold turns
  match n, h with
  | 0, _ => rfl
  | 1, _ => rfl
theorem turns_go {m n : Nat} (h : 2 ≤ n) : turns m n = if m < split n then turns m (split n) ++ [false] else turns (m - split n) (n - split n) ++ [true] := by
  have hlt := split_lt h
  have hp := split_pos h
  unfold turns
  obtain ⟨f, rfl⟩ : ∃ f, n = f + 1 := ⟨n - 1, by omega⟩
  conv => lhs; rw [turnsN]
  rw [if_neg (by omega), turnsN_eq f (split (f + 1)) m _ (by omega) (by omega), turnsN_eq f (f + 1 - split (f + 1)) _ _ (by omega) (by omega)]
theorem turns_left {m n : Nat} (h : 2 ≤ n) (hm : m < split n) : turns m n = turns m (split n) ++ [false] := by rw [turns_go h, if_pos hm]
theorem turns_right {m n : Nat} (h : 2 ≤ n) (hm : ¬ m < split n) : turns m n = turns (m - split n) (n - split n) ++ [true] := by rw [turns_go h, if_neg hm]
def long (m n : Nat) : Nat := (turns m n).length
theorem long_small {m n : Nat} (h : n < 2) : long m n = 0 := by unfold long; rw [turns_small h]; rfl
theorem long_left {m n : Nat} (h : 2 ≤ n) (hm : m < split n) : long m n = long m (split n) + 1 := by unfold long; rw [turns_left h hm]; simp
theorem long_right {m n : Nat} (h : 2 ≤ n) (hm : ¬ m < split n) : long m n = long (m - split n) (n - split n) + 1 := by unfold long; rw [turns_right h hm]; simp
/-- A path never has more hashes than n - 1 has bits. -/
theorem long_le (b : Nat) : ∀ (m n : Nat), n ≤ 2 ^ b → long m n ≤ b := by
  induction b with
  | zero => intro m n h; rw [long_small (by simpa using Nat.lt_of_le_of_lt h (by decide))]; exact Nat.le_refl _
  | succ b ih =>
    intro m n h
    by_cases h2 : n < 2
    · rw [long_small h2]; omega
    · have hlt := split_lt (n := n) (by omega)
      have hh := split_half (n := n) (by omega)
      have hs : split n ≤ 2 ^ b := by
        rw [split_big (by omega)]
        refine Nat.pow_le_pow_right (by decide) ?_
        have : Nat.log2 (n - 1) < b + 1 := (Nat.log2_lt (by omega)).2 (by omega)
        omega
      rw [Nat.pow_succ] at h
      by_cases hm : m < split n
      · rw [long_left (by omega) hm]
        have := ih m (split n) hs
        omega
      · rw [long_right (by omega) hm]
        have := ih (m - split n) (n - split n) (by omega)
        omega

/-! ### Paths -/
def pathN : Nat → List H → Nat → List H
  | 0, _, _ => []
  | f + 1, l, m => if l.length < 2 then [] else if m < split l.length then pathN f (l.take (split l.length)) m ++ [root (l.drop (split l.length))] else pathN f (l.drop (split l.length)) (m - split l.length) ++ [root (l.take (split l.length))]
def path (l : List H) (m : Nat) : List H := pathN l.length l m
theorem take_split {l : List H} (h : 2 ≤ l.length) : (l.take (split l.length)).length = split l.length := by
  have := split_lt h
  rw [List.length_take]; omega
theorem drop_split (l : List H) : (l.drop (split l.length)).length = l.length - split l.length := List.length_drop
theorem pathN_eq (f : Nat) : ∀ (g : Nat) (l : List H) (m : Nat), l.length ≤ f → l.length ≤ g → pathN f l m = pathN g l m := by
  induction f with
  | zero =>
    intro g l m h _
    cases g with
    | zero => rfl
    | succ g => rw [pathN, pathN, if_pos (by omega)]
  | succ f ih =>
    intro g l m h hg
    cases g with
    | zero => rw [pathN, pathN, if_pos (by omega)]
    | succ g =>
      rw [pathN, pathN]
      by_cases h2 : l.length < 2
      · rw [if_pos h2, if_pos h2]
      · have hlt := split_lt (n := l.length) (by omega)
        have hp := split_pos (n := l.length) (by omega)
        have e1 := take_split (l := l) (by omega)
        have e2 := drop_split l
        rw [if_neg h2, if_neg h2, ih g _ m (by omega) (by omega), ih g (l.drop _) _ (by omega) (by omega)]
theorem path_small {l : List H} {m : Nat} (h : l.length < 2) : path l m = [] := by
  unfold path
  match l, h with
  | [], _ => rfl
  | [_], _ => rfl
theorem path_go {l : List H} {m : Nat} (h : 2 ≤ l.length) : path l m = if m < split l.length then path (l.take (split l.length)) m ++ [root (l.drop (split l.length))] else path (l.drop (split l.length)) (m - split l.length) ++ [root (l.take (split l.length))] := by
  have hlt := split_lt h
  have hp := split_pos h
  have e1 := take_split h
  have e2 := drop_split l
  unfold path
  obtain ⟨f, hf⟩ : ∃ f, l.length = f + 1 := ⟨l.length - 1, by omega⟩
  conv => lhs; rw [hf, pathN]
  rw [if_neg (by omega), pathN_eq f _ (l.take _) m (by omega) (Nat.le_refl _), pathN_eq f _ (l.drop _) _ (by omega) (Nat.le_refl _)]
theorem path_left {l : List H} {m : Nat} (h : 2 ≤ l.length) (hm : m < split l.length) : path l m = path (l.take (split l.length)) m ++ [root (l.drop (split l.length))] := by rw [path_go h, if_pos hm]
theorem path_right {l : List H} {m : Nat} (h : 2 ≤ l.length) (hm : ¬ m < split l.length) : path l m = path (l.drop (split l.length)) (m - split l.length) ++ [root (l.take (split l.length))] := by rw [path_go h, if_neg hm]
theorem path_length (f : Nat) : ∀ (l : List H) (m : Nat), l.length ≤ f → (path l m).length = long m l.length := by
  induction f with
  | zero => intro l m h; rw [path_small (by omega), long_small (by omega)]; rfl
  | succ f ih =>
    intro l m h
    by_cases h2 : l.length < 2
    · rw [path_small h2, long_small h2]; rfl
    · have hlt := split_lt (n := l.length) (by omega)
      have hp := split_pos (n := l.length) (by omega)
      have e1 := take_split (l := l) (by omega)
      have e2 := drop_split l
      by_cases hm : m < split l.length
      · rw [path_left (by omega) hm, long_left (by omega) hm, List.length_append, ih _ m (by omega), e1]; rfl
      · rw [path_right (by omega) hm, long_right (by omega) hm, List.length_append, ih _ _ (by omega), e2]; rfl
theorem path_all (f : Nat) : ∀ (l : List H) (m : Nat), l.length ≤ f → (∀ x ∈ l, x.length = 32) → ∀ x ∈ path l m, x.length = 32 := by
  induction f with
  | zero => intro l m h _ x hx; rw [path_small (by omega)] at hx; cases hx
  | succ f ih =>
    intro l m h hl x hx
    by_cases h2 : l.length < 2
    · rw [path_small h2] at hx; cases hx
    · have hlt := split_lt (n := l.length) (by omega)
      have hp := split_pos (n := l.length) (by omega)
      have e1 := take_split (l := l) (by omega)
      have e2 := drop_split l
      have ht : ∀ y ∈ l.take (split l.length), y.length = 32 := fun y hy => hl y (List.mem_of_mem_take hy)
      have hd : ∀ y ∈ l.drop (split l.length), y.length = 32 := fun y hy => hl y (List.mem_of_mem_drop hy)
      by_cases hm : m < split l.length
      · rw [path_left (by omega) hm] at hx
        rcases List.mem_append.1 hx with hx | hx
        · exact ih _ m (by omega) ht x hx
        · rw [List.mem_singleton.1 hx]; exact root_length _ hd
      · rw [path_right (by omega) hm] at hx
        rcases List.mem_append.1 hx with hx | hx
        · exact ih _ _ (by omega) hd x hx
        · rw [List.mem_singleton.1 hx]; exact root_length _ ht
/-- One hash put beside what was come to. -/
def step (x s : H) (left : Bool) : H := if left then node s x else node x s
/-- What a leaf and a path's hashes, with their sides, come to. -/
def fold : H → List H → List Bool → H
  | x, s :: p, b :: t => fold (step x s b) p t
  | x, _, _ => x
theorem fold_snoc : ∀ (p : List H) (t : List Bool) (x s : H) (b : Bool), p.length = t.length → fold x (p ++ [s]) (t ++ [b]) = step (fold x p t) s b
  | [], [], _, _, _, _ => rfl
  | _ :: p, _ :: t, _, s, b, h => fold_snoc p t _ s b (by simpa using h)
  | [], _ :: _, _, _, _, h => by simp at h
  | _ :: _, [], _, _, _, h => by simp at h
/-- A leaf and its path come to the root. -/
theorem path_folds (f : Nat) : ∀ (l : List H) (m : Nat) (x : H), l[m]? = some x → l.length ≤ f → fold x (path l m) (turns m l.length) = root l := by
  induction f with
  | zero =>
    intro l m x hx h
    have := (List.getElem?_eq_some_iff.1 hx).1
    omega
  | succ f ih =>
    intro l m x hx h
    have hm := (List.getElem?_eq_some_iff.1 hx).1
    by_cases h2 : l.length < 2
    · rw [path_small h2, turns_small h2]
      match l, hm, h2, hx with
      | [y], hm, _, hx =>
        obtain rfl : m = 0 := by simpa using hm
        obtain rfl : y = x := by simpa using hx
        rfl
    · have hlt := split_lt (n := l.length) (by omega)
      have hp := split_pos (n := l.length) (by omega)
      have e1 := take_split (l := l) (by omega)
      have e2 := drop_split l
      rw [root_go l (by omega)]
      by_cases hk : m < split l.length
      · have hi := ih (l.take (split l.length)) m x (by rw [List.getElem?_take_of_lt hk]; exact hx) (by omega)
        rw [e1] at hi
        rw [path_left (by omega) hk, turns_left (by omega) hk, fold_snoc _ _ _ _ _ (by rw [path_length _ _ _ (Nat.le_refl _), e1]; rfl), hi]
        rfl
      · have hi := ih (l.drop (split l.length)) (m - split l.length) x (by rw [List.getElem?_drop, show split l.length + (m - split l.length) = m by omega]; exact hx) (by omega)
        rw [e2] at hi
        rw [path_right (by omega) hk, turns_right (by omega) hk, fold_snoc _ _ _ _ _ (by rw [path_length _ _ _ (Nat.le_refl _), e2]; rfl), hi]
        rfl
/-- The roots of the parts ahead of the last leaf, the first one first. -/
def aheadN : Nat → List H → List H
  | 0, _ => []
  | f + 1, l => if l.length < 2 then [] else root (l.take (split l.length)) :: aheadN f (l.drop (split l.length))
def ahead (l : List H) : List H := aheadN l.length l
theorem aheadN_eq (f : Nat) : ∀ (g : Nat) (l : List H), l.length ≤ f → l.length ≤ g → aheadN f l = aheadN g l := by
  induction f with
  | zero =>
    intro g l h _
    cases g with
    | zero => rfl
    | succ g => rw [aheadN, aheadN, if_pos (by omega)]
  | succ f ih =>
    intro g l h hg
    cases g with
    | zero => rw [aheadN, aheadN, if_pos (by omega)]
    | succ g =>
      rw [aheadN, aheadN]
      by_cases h2 : l.length < 2
      · rw [if_pos h2, if_pos h2]
      · have hp := split_pos (n := l.length) (by omega)
        have e2 := drop_split l
        rw [if_neg h2, if_neg h2, ih g _ (by omega) (by omega)]
theorem ahead_small {l : List H} (h : l.length < 2) : ahead l = [] := by
  unfold ahead
  match l, h with
  | [], _ => rfl
  | [_], _ => rfl
theorem ahead_go {l : List H} (h : 2 ≤ l.length) : ahead l = root (l.take (split l.length)) :: ahead (l.drop (split l.length)) := by
  have hp := split_pos h
  have e2 := drop_split l
  unfold ahead
  obtain ⟨f, hf⟩ : ∃ f, l.length = f + 1 := ⟨l.length - 1, by omega⟩
  conv => lhs; rw [hf, aheadN]
  rw [if_neg (by omega), aheadN_eq f _ (l.drop _) (by omega) (Nat.le_refl _)]
theorem path_last (f : Nat) : ∀ (l : List H), l.length ≤ f → path l (l.length - 1) = (ahead l).reverse := by
  induction f with
  | zero => intro l h; rw [path_small (by omega), ahead_small (by omega)]; rfl
  | succ f ih =>
    intro l h
    by_cases h2 : l.length < 2
    · rw [path_small h2, ahead_small h2]; rfl
    · have hlt := split_lt (n := l.length) (by omega)
      have hp := split_pos (n := l.length) (by omega)
      have e2 := drop_split l
      have hi := ih (l.drop (split l.length)) (by omega)
      rw [e2] at hi
      rw [path_right (by omega) (by omega), ahead_go (by omega), List.reverse_cons, ← hi, show l.length - 1 - split l.length = l.length - split l.length - 1 by omega]
/-- Of as many leaves as a power of two: the sides are the place's bits. -/
theorem turns_pow (k : Nat) : ∀ m, m < 2 ^ k → turns m (2 ^ k) = (List.range k).map fun i => decide (m / 2 ^ i % 2 = 1) := by
  induction k with
  | zero => intro m _; rw [turns_small (by decide)]; rfl
  | succ k ih =>
    intro m hm
    have hp := Nat.two_pow_pos k
    have hpp : 2 ^ (k + 1) = 2 ^ k * 2 := Nat.pow_succ ..
    rw [List.range_succ, List.map_append, List.map_singleton]
    by_cases h : m < 2 ^ k
    · rw [turns_left (by omega) (by rw [split_pow]; exact h), split_pow, ih m h]
      rw [Nat.div_eq_of_lt h]
      rfl
    · rw [turns_right (by omega) (by rw [split_pow]; exact h), split_pow, show 2 ^ (k + 1) - 2 ^ k = 2 ^ k by omega, ih (m - 2 ^ k) (by omega)]
      have hd : m / 2 ^ k = 1 := Nat.div_eq_of_lt_le (by omega) (by omega)
      rw [hd]
      congr 1
      refine List.map_congr_left fun i hi => ?_
      have hik := List.mem_range.1 hi
      have he : m = (m - 2 ^ k) + 2 ^ (k - i) * 2 ^ i := by rw [← Nat.pow_add, Nat.sub_add_cancel (by omega)]; omega
      have h2 : m / 2 ^ i = (m - 2 ^ k) / 2 ^ i + 2 ^ (k - i) := by
        conv => lhs; rw [he]
        rw [Nat.add_mul_div_right _ _ (Nat.two_pow_pos i)]
      rw [h2, show k - i = (k - i - 1) + 1 by omega, Nat.pow_succ, Nat.add_mul_mod_self_right]

/-! ### Links -/
def linksN : Nat → List H → Nat → Bool → List H
  | 0, _, _, _ => []
  | f + 1, l, m, whole => if m = l.length then (if whole then [] else [root l]) else if m ≤ split l.length then linksN f (l.take (split l.length)) m whole ++ [root (l.drop (split l.length))] else linksN f (l.drop (split l.length)) (m - split l.length) false ++ [root (l.take (split l.length))]
def links (l : List H) (m : Nat) (whole : Bool) : List H := linksN l.length l m whole
theorem linksN_eq (f : Nat) : ∀ (g : Nat) (l : List H) (m : Nat) (b : Bool), 1 ≤ m → m ≤ l.length → l.length ≤ f → l.length ≤ g → linksN f l m b = linksN g l m b := by
  induction f with
  | zero => intro g l m b h1 hm h _; omega
  | succ f ih =>
    intro g l m b h1 hm h hg
    cases g with
    | zero => omega
    | succ g =>
      rw [linksN, linksN]
      by_cases he : m = l.length
      · rw [if_pos he, if_pos he]
      · have hlt := split_lt (n := l.length) (by omega)
        have hp := split_pos (n := l.length) (by omega)
        have e1 := take_split (l := l) (by omega)
        have e2 := drop_split l
        rw [if_neg he, if_neg he]
        by_cases hk : m ≤ split l.length
        · rw [if_pos hk, if_pos hk, ih g _ m b h1 (by omega) (by omega) (by omega)]
        · rw [if_neg hk, if_neg hk, ih g (l.drop _) _ _ (by omega) (by omega) (by omega) (by omega)]
theorem links_end {l : List H} {b : Bool} (h : 1 ≤ l.length) : links l l.length b = if b then [] else [root l] := by
  unfold links
  obtain ⟨f, hf⟩ : ∃ f, l.length = f + 1 := ⟨l.length - 1, by omega⟩
  conv => lhs; rw [hf, linksN]
  rw [← hf, if_pos rfl]
theorem links_left {l : List H} {m : Nat} {b : Bool} (h : 1 ≤ m) (hm : m < l.length) (hk : m ≤ split l.length) : links l m b = links (l.take (split l.length)) m b ++ [root (l.drop (split l.length))] := by
  have hlt := split_lt (n := l.length) (by omega)
  have hp := split_pos (n := l.length) (by omega)
  have e1 := take_split (l := l) (by omega)
  unfold links
  obtain ⟨f, hf⟩ : ∃ f, l.length = f + 1 := ⟨l.length - 1, by omega⟩
  conv => lhs; rw [hf, linksN]
  rw [if_neg (by omega), if_pos hk, linksN_eq f _ (l.take _) m b h (by omega) (by omega) (Nat.le_refl _)]
theorem links_right {l : List H} {m : Nat} {b : Bool} (hm : m < l.length) (hk : ¬ m ≤ split l.length) : links l m b = links (l.drop (split l.length)) (m - split l.length) false ++ [root (l.take (split l.length))] := by
  have hlt := split_lt (n := l.length) (by omega)
  have hp := split_pos (n := l.length) (by omega)
  have e2 := drop_split l
  unfold links
  obtain ⟨f, hf⟩ : ∃ f, l.length = f + 1 := ⟨l.length - 1, by omega⟩
  conv => lhs; rw [hf, linksN]
  rw [if_neg (by omega), if_neg hk, linksN_eq f _ (l.drop _) _ _ (by omega) (by omega) (by omega) (Nat.le_refl _)]
/-- How many hashes the links have. -/
def llongN : Nat → Nat → Nat → Bool → Nat
  | 0, _, _, _ => 0
  | f + 1, m, n, whole => if m = n then (if whole then 0 else 1) else if m ≤ split n then llongN f m (split n) whole + 1 else llongN f (m - split n) (n - split n) false + 1
def llong (m n : Nat) (whole : Bool) : Nat := llongN n m n whole
theorem llongN_eq (f : Nat) : ∀ (g m n : Nat) (b : Bool), 1 ≤ m → m ≤ n → n ≤ f → n ≤ g → llongN f m n b = llongN g m n b := by
  induction f with
  | zero => intro g m n b h1 hm h _; omega
  | succ f ih =>
    intro g m n b h1 hm h hg
    cases g with
    | zero => omega
    | succ g =>
      rw [llongN, llongN]
      by_cases he : m = n
      · rw [if_pos he, if_pos he]
      · have hlt := split_lt (n := n) (by omega)
        have hp := split_pos (n := n) (by omega)
        rw [if_neg he, if_neg he]
        by_cases hk : m ≤ split n
        · rw [if_pos hk, if_pos hk, ih g m (split n) b h1 (by omega) (by omega) (by omega)]
        · rw [if_neg hk, if_neg hk, ih g _ (n - split n) _ (by omega) (by omega) (by omega) (by omega)]
theorem llong_end {n : Nat} {b : Bool} (h : 1 ≤ n) : llong n n b = if b then 0 else 1 := by
  unfold llong
  obtain ⟨f, rfl⟩ : ∃ f, n = f + 1 := ⟨n - 1, by omega⟩
  rw [llongN, if_pos rfl]
theorem llong_left {m n : Nat} {b : Bool} (h : 1 ≤ m) (hm : m < n) (hk : m ≤ split n) : llong m n b = llong m (split n) b + 1 := by
  have hlt := split_lt (n := n) (by omega)
  have hp := split_pos (n := n) (by omega)
  unfold llong
  obtain ⟨f, rfl⟩ : ∃ f, n = f + 1 := ⟨n - 1, by omega⟩
  conv => lhs; rw [llongN]
  rw [if_neg (by omega), if_pos hk, llongN_eq f _ m _ b h hk (by omega) (Nat.le_refl _)]
theorem llong_right {m n : Nat} {b : Bool} (hm : m < n) (hk : ¬ m ≤ split n) : llong m n b = llong (m - split n) (n - split n) false + 1 := by
  have hlt := split_lt (n := n) (by omega)
  have hp := split_pos (n := n) (by omega)
  unfold llong
  obtain ⟨f, rfl⟩ : ∃ f, n = f + 1 := ⟨n - 1, by omega⟩
  conv => lhs; rw [llongN]
  rw [if_neg (by omega), if_neg hk, llongN_eq f _ _ _ _ (by omega) (by omega) (by omega) (Nat.le_refl _)]
theorem links_length (f : Nat) : ∀ (l : List H) (m : Nat) (b : Bool), 1 ≤ m → m ≤ l.length → l.length ≤ f → (links l m b).length = llong m l.length b := by
  induction f with
  | zero => intro l m b h1 hm h; omega
  | succ f ih =>
    intro l m b h1 hm h
    by_cases he : m = l.length
    · subst he
      rw [links_end h1, llong_end h1]
      cases b <;> rfl
    · have hlt := split_lt (n := l.length) (by omega)
      have hp := split_pos (n := l.length) (by omega)
      have e1 := take_split (l := l) (by omega)
      have e2 := drop_split l
      by_cases hk : m ≤ split l.length
      · rw [links_left h1 (by omega) hk, llong_left h1 (by omega) hk, List.length_append, ih _ m b h1 (by omega) (by omega), e1]; rfl
      · rw [links_right (by omega) hk, llong_right (by omega) hk, List.length_append, ih _ _ _ (by omega) (by omega) (by omega), e2]; rfl
theorem links_all (f : Nat) : ∀ (l : List H) (m : Nat) (b : Bool), 1 ≤ m → m ≤ l.length → l.length ≤ f → (∀ x ∈ l, x.length = 32) → ∀ x ∈ links l m b, x.length = 32 := by
  induction f with
  | zero => intro l m b h1 hm h; omega
  | succ f ih =>
    intro l m b h1 hm h hl x hx
    by_cases he : m = l.length
    · subst he
      rw [links_end h1] at hx
      cases b with
      | true => cases hx
      | false => rw [List.mem_singleton.1 hx]; exact root_length _ hl
    · have hlt := split_lt (n := l.length) (by omega)
      have hp := split_pos (n := l.length) (by omega)
      have e1 := take_split (l := l) (by omega)
      have e2 := drop_split l
      have ht : ∀ y ∈ l.take (split l.length), y.length = 32 := fun y hy => hl y (List.mem_of_mem_take hy)
      have hd : ∀ y ∈ l.drop (split l.length), y.length = 32 := fun y hy => hl y (List.mem_of_mem_drop hy)
      by_cases hk : m ≤ split l.length
      · rw [links_left h1 (by omega) hk] at hx
        rcases List.mem_append.1 hx with hx | hx
        · exact ih _ m b h1 (by omega) (by omega) ht x hx
        · rw [List.mem_singleton.1 hx]; exact root_length _ hd
      · rw [links_right (by omega) hk] at hx
        rcases List.mem_append.1 hx with hx | hx
        · exact ih _ _ _ (by omega) (by omega) (by omega) hd x hx
        · rw [List.mem_singleton.1 hx]; exact root_length _ ht
theorem llong_le (f : Nat) : ∀ (m n : Nat) (b : Bool), 1 ≤ m → m ≤ n → n ≤ f → llong m n b ≤ n := by
  induction f with
  | zero => intro m n b h1 hm h; omega
  | succ f ih =>
    intro m n b h1 hm h
    by_cases he : m = n
    · subst he; rw [llong_end h1]; cases b <;> simp <;> omega
    · have hlt := split_lt (n := n) (by omega)
      have hp := split_pos (n := n) (by omega)
      by_cases hk : m ≤ split n
      · rw [llong_left h1 (by omega) hk]
        have := ih m (split n) b h1 hk (by omega)
        omega
      · rw [llong_right (by omega) hk]
        have := ih (m - split n) (n - split n) false (by omega) (by omega) (by omega)
        omega
end Go.Proofs.YtagocdcclghdaaaDoor.Tree
