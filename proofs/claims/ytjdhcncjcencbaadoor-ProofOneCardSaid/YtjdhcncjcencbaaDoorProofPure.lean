/-
  Plain mathematics of what paths and links come to without the tree. No walk, no program.
-/
import Derived.Test.YtjdhcncjcencbaaDoorMPathA
namespace Go.Proofs.YtjdhcncjcencbaaDoor.Tree
open Go

/-! ### The parts into which links go -/
/-- Of each part into which links from m on to n go, from all inwards: is it the others? -/
def inwN : Nat → Nat → Nat → List Bool
  | 0, _, _ => []
  | f + 1, m, n => if m = n then [] else if m ≤ split n then false :: inwN f m (split n) else true :: inwN f (m - split n) (n - split n)
def inw (m n : Nat) : List Bool := inwN n m n
theorem inwN_eq (f : Nat) : ∀ (g m n : Nat), 1 ≤ m → m ≤ n → n ≤ f → n ≤ g → inwN f m n = inwN g m n := by
  induction f with
  | zero => intro g m n h1 hm h _; omega
  | succ f ih =>
    intro g m n h1 hm h hg
    cases g with
    | zero => omega
    | succ g =>
      rw [inwN, inwN]
      by_cases he : m = n
      · rw [if_pos he, if_pos he]
      · have hlt := split_lt (n := n) (by omega)
        have hp := split_pos (n := n) (by omega)
        rw [if_neg he, if_neg he]
        by_cases hk : m ≤ split n
        · rw [if_pos hk, if_pos hk, ih g m (split n) h1 (by omega) (by omega) (by omega)]
        · rw [if_neg hk, if_neg hk, ih g _ (n - split n) (by omega) (by omega) (by omega) (by omega)]
theorem inw_end (n : Nat) : inw n n = [] := by
  unfold inw
  cases n with
  | zero => rfl
  | succ f => rw [inwN, if_pos rfl]
theorem inw_left {m n : Nat} (h : 1 ≤ m) (hm : m < n) (hk : m ≤ split n) : inw m n = false :: inw m (split n) := by
  have hlt := split_lt (n := n) (by omega)
  have hp := split_pos (n := n) (by omega)
  unfold inw
  obtain ⟨f, rfl⟩ : ∃ f, n = f + 1 := ⟨n - 1, by omega⟩
  conv => lhs; rw [inwN]
  rw [if_neg (by omega), if_pos hk, inwN_eq f _ m _ h hk (by omega) (Nat.le_refl _)]
theorem inw_right {m n : Nat} (hm : m < n) (hk : ¬ m ≤ split n) : inw m n = true :: inw (m - split n) (n - split n) := by
  have hlt := split_lt (n := n) (by omega)
  have hp := split_pos (n := n) (by omega)
  unfold inw
  obtain ⟨f, rfl⟩ : ∃ f, n = f + 1 := ⟨n - 1, by omega⟩
  conv => lhs; rw [inwN]
  rw [if_neg (by omega), if_neg hk, inwN_eq f _ _ _ (by omega) (by omega) (by omega) (Nat.le_refl _)]
theorem inw_le (b : Nat) : ∀ (m n : Nat), 1 ≤ m → m ≤ n → n ≤ 2 ^ b → (inw m n).length ≤ b := by
  induction b with
  | zero =>
    intro m n h1 hm h
    obtain rfl : m = n := by simp at h; omega
    rw [inw_end]; exact Nat.le_refl _
  | succ b ih =>
    intro m n h1 hm h
    by_cases he : m = n
    · subst he
      rw [inw_end]; exact Nat.zero_le _
    · have hlt := split_lt (n := n) (by omega)
      have hp := split_pos (n := n) (by omega)
      have hh := split_half (n := n) (by omega)
      have hk2 : split n ≤ 2 ^ b := by
        rw [split_big (by omega)]
        have h3 : n - 1 < 2 ^ (b + 1) := by have := Nat.two_pow_pos (b + 1); omega
        exact Nat.pow_le_pow_right (by decide) (by have := (Nat.log2_lt (by omega)).2 h3; omega)
      by_cases hk : m ≤ split n
      · rw [inw_left h1 (by omega) hk, List.length_cons]
        have := ih m (split n) h1 hk hk2
        omega
      · rw [inw_right (by omega) hk, List.length_cons]
        have := ih (m - split n) (n - split n) (by omega) (by omega) (by omega)
        omega
/-- Is the first of the links none of the parts' own, but what both trees have? -/
def lead (m n : Nat) (whole : Bool) : Bool := !whole || (inw m n).contains true
theorem lead_left {m n : Nat} {b : Bool} (h : 1 ≤ m) (hm : m < n) (hk : m ≤ split n) : lead m n b = lead m (split n) b := by
  unfold lead; rw [inw_left h hm hk]; simp
theorem lead_right {m n : Nat} {b : Bool} (hm : m < n) (hk : ¬ m ≤ split n) : lead m n b = true := by
  unfold lead; rw [inw_right hm hk]; simp
theorem lead_false (m n : Nat) : lead m n false = true := rfl
theorem llong_inw (f : Nat) : ∀ (m n : Nat) (b : Bool), 1 ≤ m → m ≤ n → n ≤ f → llong m n b = (inw m n).length + (if lead m n b then 1 else 0) := by
  induction f with
  | zero => intro m n b h1 hm h; omega
  | succ f ih =>
    intro m n b h1 hm h
    by_cases he : m = n
    · subst he
      rw [llong_end h1]; unfold lead; rw [inw_end]
      cases b <;> rfl
    · have hlt := split_lt (n := n) (by omega)
      have hp := split_pos (n := n) (by omega)
      by_cases hk : m ≤ split n
      · rw [llong_left h1 (by omega) hk, lead_left h1 (by omega) hk, inw_left h1 (by omega) hk, ih m (split n) b h1 hk (by omega), List.length_cons]
        omega
      · rw [llong_right (by omega) hk, lead_right (by omega) hk, inw_right (by omega) hk, ih _ (n - split n) false (by omega) (by omega) (by omega), List.length_cons, lead_false]
        simp only [if_true]

/-! ### What links come to -/
/-- Two hashes go up by what stands beside them, part by part outwards. -/
def up2 : H × H → List H → List Bool → H × H
  | s, p :: ps, t :: ts => up2 (if t then node p s.1 else s.1, step s.2 p t) ps ts
  | s, _, _ => s
theorem up2_nil (s : H × H) (ps : List H) : up2 s ps [] = s := by cases ps <;> rfl
theorem up2_cons (s : H × H) (p : H) (ps : List H) (t : Bool) (ts : List Bool) : up2 s (p :: ps) (t :: ts) = up2 (if t then node p s.1 else s.1, step s.2 p t) ps ts := rfl
theorem up2_snoc : ∀ (ts : List Bool) (ps : List H) (s : H × H) (t : Bool) (p : H), ps[ts.length]? = some p →
    up2 s ps (ts ++ [t]) = (if t then node p (up2 s ps ts).1 else (up2 s ps ts).1, step (up2 s ps ts).2 p t)
  | [], q :: ps, s, t, p, h => by
    obtain rfl : q = p := by simpa using h
    rw [List.nil_append, up2_cons, up2_nil, up2_nil]
  | t' :: ts, q :: ps, s, t, p, h => by
    rw [List.cons_append, up2_cons, up2_cons]
    exact up2_snoc ts ps _ t p (by simpa using h)
  | _, [], _, _, _, h => by simp at h
/-- The two hashes that links come to. -/
def boths (a : H) (m n : Nat) (whole : Bool) (L : List H) : H × H :=
  if lead m n whole then up2 (L.headD [], L.headD []) (L.drop 1) (inw m n).reverse else up2 (a, a) L (inw m n).reverse
theorem boths_end (a : H) {n : Nat} (b : Bool) (L : List H) : boths a n n b L = if b then (a, a) else (L.headD [], L.headD []) := by
  unfold boths lead
  rw [inw_end]
  cases b with
  | true => exact up2_nil _ _
  | false => exact up2_nil _ _
theorem lead_drop (L : List H) (c j : Nat) (p : H) (h : L[j + c]? = some p) : (L.drop c)[j]? = some p := by
  rw [List.getElem?_drop, Nat.add_comm]; exact h
theorem boths_left {a : H} {m n : Nat} {b : Bool} {L : List H} {p : H} (h : 1 ≤ m) (hm : m < n) (hk : m ≤ split n) (hp : L[llong m (split n) b]? = some p) :
    boths a m n b L = ((boths a m (split n) b L).1, node (boths a m (split n) b L).2 p) := by
  rw [llong_inw _ m (split n) b h hk (Nat.le_refl _)] at hp
  unfold boths
  rw [lead_left h hm hk, inw_left h hm hk, List.reverse_cons]
  cases hl : lead m (split n) b with
  | true =>
    rw [hl] at hp
    simp only [if_true] at hp ⊢
    rw [up2_snoc _ _ _ _ p (by rw [List.length_reverse]; exact lead_drop L 1 _ p hp)]
    rfl
  | false =>
    rw [hl] at hp
    rw [if_neg (by decide), if_neg (by decide)]
    rw [up2_snoc _ _ _ _ p (by rw [List.length_reverse]; exact hp)]
    rfl
theorem boths_right {a : H} {m n : Nat} {b : Bool} {L : List H} {p : H} (hm : m < n) (hk : ¬ m ≤ split n) (hp : L[llong (m - split n) (n - split n) false]? = some p) :
    boths a m n b L = (node p (boths a (m - split n) (n - split n) false L).1, node p (boths a (m - split n) (n - split n) false L).2) := by
  have hs := split_pos (n := n) (by omega)
  rw [llong_inw _ (m - split n) (n - split n) false (by omega) (by omega) (Nat.le_refl _), lead_false] at hp
  unfold boths
  rw [lead_right hm hk, inw_right hm hk, List.reverse_cons, lead_false]
  simp only [if_true] at hp ⊢
  rw [up2_snoc _ _ _ _ p (by rw [List.length_reverse]; exact lead_drop L 1 _ p hp)]
  rfl
theorem split_same {m n : Nat} (hm : m ≤ n) (h2 : 2 ≤ n) (hk : ¬ m ≤ split n) : split m = split n := by
  have hh := split_half h2
  rw [split_big h2] at hk hh ⊢
  exact split_of (by omega) (by rw [Nat.pow_succ]; omega)
/-- Links come to both roots. -/
theorem links_both (f : Nat) : ∀ (l : List H) (m : Nat) (b : Bool) (a : H) (ex : List H), 1 ≤ m → m ≤ l.length → l.length ≤ f → (b = true → a = root (l.take m)) →
    boths a m l.length b (links l m b ++ ex) = (root (l.take m), root l) := by
  induction f with
  | zero => intro l m b a ex h1 hm h; omega
  | succ f ih =>
    intro l m b a ex h1 hm h hb
    by_cases he : m = l.length
    · subst he
      rw [List.take_length] at hb ⊢
      rw [boths_end, links_end h1]
      cases b with
      | true => rw [hb rfl]; rfl
      | false => rfl
    · have hlt := split_lt (n := l.length) (by omega)
      have hp := split_pos (n := l.length) (by omega)
      have e1 := take_split (l := l) (by omega)
      have e2 := drop_split l
      rw [root_go l (by omega)]
      by_cases hk : m ≤ split l.length
      · have ht : (l.take (split l.length)).take m = l.take m := by rw [List.take_take, Nat.min_eq_left hk]
        have hi := ih (l.take (split l.length)) m b a ([root (l.drop (split l.length))] ++ ex) h1 (by omega) (by omega) (by rw [ht]; exact hb)
        have hl := links_length _ (l.take (split l.length)) m b h1 (by omega) (Nat.le_refl _)
        rw [e1, ht] at hi
        rw [e1] at hl
        rw [links_left h1 (by omega) hk, List.append_assoc]
        rw [boths_left (p := root (l.drop (split l.length))) h1 (by omega) hk (by rw [← hl, List.getElem?_append_right (Nat.le_refl _), Nat.sub_self]; rfl), hi]
      · have ht : root (l.take m) = node (root (l.take (split l.length))) (root ((l.drop (split l.length)).take (m - split l.length))) := by
          have e3 : (l.take m).length = m := by rw [List.length_take]; omega
          rw [root_go (l.take m) (by omega), e3, split_same (n := l.length) (by omega) (by omega) hk, List.take_take, Nat.min_eq_left (by omega), List.drop_take]
        have hi := ih (l.drop (split l.length)) (m - split l.length) false a ([root (l.take (split l.length))] ++ ex) (by omega) (by omega) (by omega) (by intro h; cases h)
        have hl := links_length _ (l.drop (split l.length)) (m - split l.length) false (by omega) (by omega) (Nat.le_refl _)
        rw [e2] at hi hl
        rw [links_right (by omega) hk, List.append_assoc, ht]
        rw [boths_right (p := root (l.take (split l.length))) (by omega) hk (by rw [← hl, List.getElem?_append_right (Nat.le_refl _), Nat.sub_self]; rfl), hi]
theorem links_goes (l : List H) (m : Nat) (h1 : 1 ≤ m) (hm : m ≤ l.length) : boths (root (l.take m)) m l.length true (links l m true) = (root (l.take m), root l) := by
  have := links_both _ l m true (root (l.take m)) [] h1 hm (Nat.le_refl _) (fun _ => rfl)
  rwa [List.append_nil] at this
theorem fold_length : ∀ (x : H) (p : List H) (t : List Bool), x.length = 32 → (fold x p t).length = 32
  | _, [], _, h => by unfold fold; exact h
  | _, _ :: _, [], h => h
  | x, s :: p, b :: t, _ => by
    show (fold (step x s b) p t).length = 32
    exact fold_length _ p t (by cases b <;> exact node_length _ _)
theorem step_length (x s : H) (b : Bool) : (step x s b).length = 32 := by cases b <;> exact node_length _ _
theorem up2_length : ∀ (s : H × H) (p : List H) (t : List Bool), s.1.length = 32 → s.2.length = 32 → (up2 s p t).1.length = 32 ∧ (up2 s p t).2.length = 32
  | _, [], _, h1, h2 => by unfold up2; exact ⟨h1, h2⟩
  | _, _ :: _, [], h1, h2 => ⟨h1, h2⟩
  | s, q :: p, b :: t, h1, _ => by
    rw [up2_cons]
    exact up2_length _ p t (by cases b; exact h1; exact node_length _ _) (step_length _ _ _)
theorem boths_length (a : H) (m n : Nat) (b : Bool) (L : List H) (ha : a.length = 32) (hL : ∀ x ∈ L, x.length = 32) (hl : lead m n b = true → L ≠ []) :
    (boths a m n b L).1.length = 32 ∧ (boths a m n b L).2.length = 32 := by
  unfold boths
  cases h : lead m n b with
  | true =>
    match L, hL, hl h with
    | x :: L, hL, _ => exact up2_length _ _ _ (hL x (by simp)) (hL x (by simp))
    | [], _, hn => exact absurd rfl hn
  | false => exact up2_length _ _ _ ha ha
theorem pre_inj {a b c d : H} (ha : a.length = 32) (hc : c.length = 32) (h : pre a b = pre c d) : a = c ∧ b = d := by
  unfold pre at h
  injection h with _ h
  exact List.append_inj h (by rw [ha, hc])
/-- What is hashed at a place of a way up. -/
def preS (x s : H) (left : Bool) : List UInt8 := if left then pre s x else pre x s
theorem step_pre (x s : H) (b : Bool) : step x s b = Sha.digest (preS x s b) := by cases b <;> rfl
theorem preS_inj {x s y u : H} {b : Bool} (hx : x.length = 32) (hy : y.length = 32) (hs : s.length = 32) (hu : u.length = 32) (h : preS x s b = preS y u b) : x = y ∧ s = u := by
  cases b with
  | true => exact (pre_inj hs hu h).symm
  | false => exact pre_inj hx hy h
end Go.Proofs.YtjdhcncjcencbaaDoor.Tree
