/-
  Several texts in one (ProofPure, ProofUp, ProofParts, ProofMem, ProofFold, ProofBack).
-/
import Derived.Test.YtdcebdleneieeaaDoorMPathA
import Derived.Test.YtdcebdleneieeaaDoorMPathB
import Derived.Deep.DeepCutAuto
import Derived.Laws.EntriesVeiled
import Derived.Great.BuildSlice
import Derived.Lib.Hide
import Derived.Test.YtdcebdleneieeaaDoorMSeq
/-! ## Plain mathematics of what paths and links come to without the tree. No walk, no program. -/
namespace Go.Proofs.YtdcebdleneieeaaDoor.Tree
open Go

/-! ### The parts into which links go -/
/-- Of each part into which links from m on to n go, from all inwards: is it the others? -/
def inwN : Nat → Nat → Nat → List Bool
  | 0, _, _ => []
  | f + 1, m, n => if m = n then [] else if m ≤ split n then false :: inwN f m (split n) else true :: inwN f (m - split n) (n - split n)
def inw (m n : Nat) : List Bool := inwN n m n
theorem inwN_eq (f : Nat) : ∀ (g m n : Nat), 1 ≤ m → m ≤ n → n ≤ f → n ≤ g → inwN f m n = inwN g m n := by
  induction f with
  | zero => intro g m n h1 hm h _; omega
  | succ f ih =>
    intro g m n h1 hm h hg
    cases g with
    | zero => omega
    | succ g =>
      rw [inwN, inwN]
      by_cases he : m = n
      · rw [if_pos he, if_pos he]
      · have hlt := split_lt (n := n) (by omega)
        have hp := split_pos (n := n) (by omega)
        rw [if_neg he, if_neg he]
        by_cases hk : m ≤ split n
        · rw [if_pos hk, if_pos hk, ih g m (split n) h1 (by omega) (by omega) (by omega)]
        · rw [if_neg hk, if_neg hk, ih g _ (n - split n) (by omega) (by omega) (by omega) (by omega)]
theorem inw_end (n : Nat) : inw n n = [] := by
  unfold inw
  cases n with
  | zero => rfl
  | succ f => rw [inwN, if_pos rfl]
theorem inw_left {m n : Nat} (h : 1 ≤ m) (hm : m < n) (hk : m ≤ split n) : inw m n = false :: inw m (split n) := by
  have hlt := split_lt (n := n) (by omega)
  have hp := split_pos (n := n) (by omega)
  unfold inw
  obtain ⟨f, rfl⟩ : ∃ f, n = f + 1 := ⟨n - 1, by omega⟩
  conv => lhs; rw [inwN]
  rw [if_neg (by omega), if_pos hk, inwN_eq f _ m _ h hk (by omega) (Nat.le_refl _)]
theorem inw_right {m n : Nat} (hm : m < n) (hk : ¬ m ≤ split n) : inw m n = true :: inw (m - split n) (n - split n) := by
  have hlt := split_lt (n := n) (by omega)
  have hp := split_pos (n := n) (by omega)
  unfold inw
  obtain ⟨f, rfl⟩ : ∃ f, n = f + 1 := ⟨n - 1, by omega⟩
  conv => lhs; rw [inwN]
  rw [if_neg (by omega), if_neg hk, inwN_eq f _ _ _ (by omega) (by omega) (by omega) (Nat.le_refl _)]
theorem inw_le (b : Nat) : ∀ (m n : Nat), 1 ≤ m → m ≤ n → n ≤ 2 ^ b → (inw m n).length ≤ b := by
  induction b with
  | zero =>
    intro m n h1 hm h
    obtain rfl : m = n := by simp at h; omega
    rw [inw_end]; exact Nat.le_refl _
  | succ b ih =>
    intro m n h1 hm h
    by_cases he : m = n
    · subst he
      rw [inw_end]; exact Nat.zero_le _
    · have hlt := split_lt (n := n) (by omega)
      have hp := split_pos (n := n) (by omega)
      have hh := split_half (n := n) (by omega)
      have hk2 : split n ≤ 2 ^ b := by
        rw [split_big (by omega)]
        have h3 : n - 1 < 2 ^ (b + 1) := by have := Nat.two_pow_pos (b + 1); omega
        exact Nat.pow_le_pow_right (by decide) (by have := (Nat.log2_lt (by omega)).2 h3; omega)
      by_cases hk : m ≤ split n
      · rw [inw_left h1 (by omega) hk, List.length_cons]
        have := ih m (split n) h1 hk hk2
        omega
      · rw [inw_right (by omega) hk, List.length_cons]
        have := ih (m - split n) (n - split n) (by omega) (by omega) (by omega)
        omega
/-- Is the first of the links none of the parts' own, but what both trees have? -/
def lead (m n : Nat) (whole : Bool) : Bool := !whole || (inw m n).contains true
theorem lead_left {m n : Nat} {b : Bool} (h : 1 ≤ m) (hm : m < n) (hk : m ≤ split n) : lead m n b = lead m (split n) b := by
  unfold lead; rw [inw_left h hm hk]; simp
theorem lead_right {m n : Nat} {b : Bool} (hm : m < n) (hk : ¬ m ≤ split n) : lead m n b = true := by
  unfold lead; rw [inw_right hm hk]; simp
theorem lead_false (m n : Nat) : lead m n false = true := rfl
theorem llong_inw (f : Nat) : ∀ (m n : Nat) (b : Bool), 1 ≤ m → m ≤ n → n ≤ f → llong m n b = (inw m n).length + (if lead m n b then 1 else 0) := by
  induction f with
  | zero => intro m n b h1 hm h; omega
  | succ f ih =>
    intro m n b h1 hm h
    by_cases he : m = n
    · subst he
      rw [llong_end h1]; unfold lead; rw [inw_end]
      cases b <;> rfl
    · have hlt := split_lt (n := n) (by omega)
      have hp := split_pos (n := n) (by omega)
      by_cases hk : m ≤ split n
      · rw [llong_left h1 (by omega) hk, lead_left h1 (by omega) hk, inw_left h1 (by omega) hk, ih m (split n) b h1 hk (by omega), List.length_cons]
        omega
      · rw [llong_right (by omega) hk, lead_right (by omega) hk, inw_right (by omega) hk, ih _ (n - split n) false (by omega) (by omega) (by omega), List.length_cons, lead_false]
        simp only [if_true]

/-! ### What links come to -/
/-- Two hashes go up by what stands beside them, part by part outwards. -/
def up2 : H × H → List H → List Bool → H × H
  | s, p :: ps, t :: ts => up2 (if t then node p s.1 else s.1, step s.2 p t) ps ts
  | s, _, _ => s
theorem up2_nil (s : H × H) (ps : List H) : up2 s ps [] = s := by cases ps <;> rfl
theorem up2_cons (s : H × H) (p : H) (ps : List H) (t : Bool) (ts : List Bool) : up2 s (p :: ps) (t :: ts) = up2 (if t then node p s.1 else s.1, step s.2 p t) ps ts := rfl
theorem up2_snoc : ∀ (ts : List Bool) (ps : List H) (s : H × H) (t : Bool) (p : H), ps[ts.length]? = some p →
    up2 s ps (ts ++ [t]) = (if t then node p (up2 s ps ts).1 else (up2 s ps ts).1, step (up2 s ps ts).2 p t)
  | [], q :: ps, s, t, p, h => by
    obtain rfl : q = p := by simpa using h
    rw [List.nil_append, up2_cons, up2_nil, up2_nil]
  | t' :: ts, q :: ps, s, t, p, h => by
    rw [List.cons_append, up2_cons, up2_cons]
    exact up2_snoc ts ps _ t p (by simpa using h)
  | _, [], _, _, _, h => by simp at h
/-- The two hashes that links come to. -/
def boths (a : H) (m n : Nat) (whole : Bool) (L : List H) : H × H :=
  if lead m n whole then up2 (L.headD [], L.headD []) (L.drop 1) (inw m n).reverse else up2 (a, a) L (inw m n).reverse
theorem boths_end (a : H) {n : Nat} (b : Bool) (L : List H) : boths a n n b L = if b then (a, a) else (L.headD [], L.headD []) := by
  unfold boths lead
  rw [inw_end]
  cases b with
  | true => exact up2_nil _ _
  | false => exact up2_nil _ _
theorem lead_drop (L : List H) (c j : Nat) (p : H) (h : L[j + c]? = some p) : (L.drop c)[j]? = some p := by
  rw [List.getElem?_drop, Nat.add_comm]; exact h
theorem boths_left {a : H} {m n : Nat} {b : Bool} {L : List H} {p : H} (h : 1 ≤ m) (hm : m < n) (hk : m ≤ split n) (hp : L[llong m (split n) b]? = some p) :
    boths a m n b L = ((boths a m (split n) b L).1, node (boths a m (split n) b L).2 p) := by
  rw [llong_inw _ m (split n) b h hk (Nat.le_refl _)] at hp
  unfold boths
  rw [lead_left h hm hk, inw_left h hm hk, List.reverse_cons]
  cases hl : lead m (split n) b with
  | true =>
    rw [hl] at hp
    simp only [if_true] at hp ⊢
    rw [up2_snoc _ _ _ _ p (by rw [List.length_reverse]; exact lead_drop L 1 _ p hp)]
    rfl
  | false =>
    rw [hl] at hp
    rw [if_neg (by decide), if_neg (by decide)]
    rw [up2_snoc _ _ _ _ p (by rw [List.length_reverse]; exact hp)]
    rfl
theorem boths_right {a : H} {m n : Nat} {b : Bool} {L : List H} {p : H} (hm : m < n) (hk : ¬ m ≤ split n) (hp : L[llong (m - split n) (n - split n) false]? = some p) :
    boths a m n b L = (node p (boths a (m - split n) (n - split n) false L).1, node p (boths a (m - split n) (n - split n) false L).2) := by
  have hs := split_pos (n := n) (by omega)
  rw [llong_inw _ (m - split n) (n - split n) false (by omega) (by omega) (Nat.le_refl _), lead_false] at hp
  unfold boths
  rw [lead_right hm hk, inw_right hm hk, List.reverse_cons, lead_false]
  simp only [if_true] at hp ⊢
  rw [up2_snoc _ _ _ _ p (by rw [List.length_reverse]; exact lead_drop L 1 _ p hp)]
  rfl
theorem split_same {m n : Nat} (hm : m ≤ n) (h2 : 2 ≤ n) (hk : ¬ m ≤ split n) : split m = split n := by
  have hh := split_half h2
  rw [split_big h2] at hk hh ⊢
  exact split_of (by omega) (by rw [Nat.pow_succ]; omega)
/-- Links come to both roots. -/
theorem links_both (f : Nat) : ∀ (l : List H) (m : Nat) (b : Bool) (a : H) (ex : List H), 1 ≤ m → m ≤ l.length → l.length ≤ f → (b = true → a = root (l.take m)) →
    boths a m l.length b (links l m b ++ ex) = (root (l.take m), root l) := by
  induction f with
  | zero => intro l m b a ex h1 hm h; omega
  | succ f ih =>
    intro l m b a ex h1 hm h hb
    by_cases he : m = l.length
    · subst he
      rw [List.take_length] at hb ⊢
      rw [boths_end, links_end h1]
      cases b with
      | true => rw [hb rfl]; rfl
      | false => rfl
    · have hlt := split_lt (n := l.length) (by omega)
      have hp := split_pos (n := l.length) (by omega)
      have e1 := take_split (l := l) (by omega)
      have e2 := drop_split l
      rw [root_go l (by omega)]
      by_cases hk : m ≤ split l.length
      · have ht : (l.take (split l.length)).take m = l.take m := by rw [List.take_take, Nat.min_eq_left hk]
        have hi := ih (l.take (split l.length)) m b a ([root (l.drop (split l.length))] ++ ex) h1 (by omega) (by omega) (by rw [ht]; exact hb)
        have hl := links_length _ (l.take (split l.length)) m b h1 (by omega) (Nat.le_refl _)
        rw [e1, ht] at hi
        rw [e1] at hl
        rw [links_left h1 (by omega) hk, List.append_assoc]
        rw [boths_left (p := root (l.drop (split l.length))) h1 (by omega) hk (by rw [← hl, List.getElem?_append_right (Nat.le_refl _), Nat.sub_self]; rfl), hi]
      · have ht : root (l.take m) = node (root (l.take (split l.length))) (root ((l.drop (split l.length)).take (m - split l.length))) := by
          have e3 : (l.take m).length = m := by rw [List.length_take]; omega
          rw [root_go (l.take m) (by omega), e3, split_same (n := l.length) (by omega) (by omega) hk, List.take_take, Nat.min_eq_left (by omega), List.drop_take]
        have hi := ih (l.drop (split l.length)) (m - split l.length) false a ([root (l.take (split l.length))] ++ ex) (by omega) (by omega) (by omega) (by intro h; cases h)
        have hl := links_length _ (l.drop (split l.length)) (m - split l.length) false (by omega) (by omega) (Nat.le_refl _)
        rw [e2] at hi hl
        rw [links_right (by omega) hk, List.append_assoc, ht]
        rw [boths_right (p := root (l.take (split l.length))) (by omega) hk (by rw [← hl, List.getElem?_append_right (Nat.le_refl _), Nat.sub_self]; rfl), hi]
theorem links_goes (l : List H) (m : Nat) (h1 : 1 ≤ m) (hm : m ≤ l.length) : boths (root (l.take m)) m l.length true (links l m true) = (root (l.take m), root l) := by
  have := links_both _ l m true (root (l.take m)) [] h1 hm (Nat.le_refl _) (fun _ => rfl)
  rwa [List.append_nil] at this
theorem fold_length : ∀ (x : H) (p : List H) (t : List Bool), x.length = 32 → (fold x p t).length = 32
  | _, [], _, h => by unfold fold; exact h
  | _, _ :: _, [], h => h
  | x, s :: p, b :: t, _ => by
    show (fold (step x s b) p t).length = 32
    exact fold_length _ p t (by cases b <;> exact node_length _ _)
theorem step_length (x s : H) (b : Bool) : (step x s b).length = 32 := by cases b <;> exact node_length _ _
theorem up2_length : ∀ (s : H × H) (p : List H) (t : List Bool), s.1.length = 32 → s.2.length = 32 → (up2 s p t).1.length = 32 ∧ (up2 s p t).2.length = 32
  | _, [], _, h1, h2 => by unfold up2; exact ⟨h1, h2⟩
  | _, _ :: _, [], h1, h2 => ⟨h1, h2⟩
  | s, q :: p, b :: t, h1, _ => by
    rw [up2_cons]
    exact up2_length _ p t (by cases b; exact h1; exact node_length _ _) (step_length _ _ _)
theorem boths_length (a : H) (m n : Nat) (b : Bool) (L : List H) (ha : a.length = 32) (hL : ∀ x ∈ L, x.length = 32) (hl : lead m n b = true → L ≠ []) :
    (boths a m n b L).1.length = 32 ∧ (boths a m n b L).2.length = 32 := by
  unfold boths
  cases h : lead m n b with
  | true =>
    match L, hL, hl h with
    | x :: L, hL, _ => exact up2_length _ _ _ (hL x (by simp)) (hL x (by simp))
    | [], _, hn => exact absurd rfl hn
  | false => exact up2_length _ _ _ ha ha
theorem pre_inj {a b c d : H} (ha : a.length = 32) (hc : c.length = 32) (h : pre a b = pre c d) : a = c ∧ b = d := by
  unfold pre at h
  injection h with _ h
  exact List.append_inj h (by rw [ha, hc])
/-- What is hashed at a place of a way up. -/
def preS (x s : H) (left : Bool) : List UInt8 := if left then pre s x else pre x s
theorem step_pre (x s : H) (b : Bool) : step x s b = Sha.digest (preS x s b) := by cases b <;> rfl
theorem preS_inj {x s y u : H} {b : Bool} (hx : x.length = 32) (hy : y.length = 32) (hs : s.length = 32) (hu : u.length = 32) (h : preS x s b = preS y u b) : x = y ∧ s = u := by
  cases b with
  | true => exact (pre_inj hs hu h).symm
  | false => exact pre_inj hx hy h
end Go.Proofs.YtdcebdleneieeaaDoor.Tree
/-! ## Package proof: the closure that goes up (beside), parts. -/
namespace Go.Proofs.YtdcebdleneieeaaDoor
open Go.RowKit

/-- What goes up: its two variables, the side and the hash. -/
abbrev upV (ca cx : Nat) : Value := .func (.func 67) #[] #[.pointer (some ⟨ca, 0, none⟩), .pointer (some ⟨cx, 0, none⟩)]
def UpAt (w : World) (ca cx : Nat) (x : List UInt8) (left : Bool) : Prop :=
  w.heap[ca]? = some (.cells #[.bool left] 4 (0, 0)) ∧ w.heap[cx]? = some (.cells (x.map u8V).toArray 24 (0, 0))
theorem UpAt.lt {w : World} {ca cx : Nat} {x : List UInt8} {left : Bool} (h : UpAt w ca cx x left) : ca < w.heap.size ∧ cx < w.heap.size := ⟨(Array.getElem?_eq_some_iff.1 h.1).1, (Array.getElem?_eq_some_iff.1 h.2).1⟩
theorem UpAt.old {w w' : World} {ca cx : Nat} {x : List UInt8} {left : Bool} (h : UpAt w ca cx x left) (hb : Below w.heap.size w w') : UpAt w' ca cx x left :=
  ⟨(hb.block _ h.lt.1).trans h.1, (hb.block _ h.lt.2).trans h.2⟩
theorem UpAt.only {w w' : World} {ca cx p : Nat} {x : List UInt8} {left : Bool} (h : UpAt w ca cx x left) (hb : Only p w w') (h1 : ca ≠ p) (h2 : cx ≠ p) : UpAt w' ca cx x left :=
  ⟨(hb.block _ h.lt.1 h1).trans h.1, (hb.block _ h.lt.2 h2).trans h.2⟩
set_option maxHeartbeats 1000000 in
set_option maxRecDepth 100000 in
theorem beside_any (x : List UInt8) (left : Bool) (w : World) :
    Calls Tryd.prog 49 #[sumV x, .bool left] w fun e w' => ∃ ca cx, e = .returned (upV ca cx) ∧ UpAt w' ca cx x left ∧ w.heap.size ≤ ca ∧ w.heap.size ≤ cx ∧ Below w.heap.size w w' := by
  have hmf : ∀ (fn : Fn) (first cap : Array Value) (w : World), (Instr.makeFunc fn first cap).run Tryd.prog w = .ok (.func fn first cap) w := fun _ _ _ _ => rfl
  unfold sumV
  obtain ⟨w0, hw0⟩ : ∃ w0, w0 = (w.alloc (.cells (x.map u8V).toArray 24)).alloc (.cells #[.bool left] 4) := ⟨_, rfl⟩
  have h1 : w0.heap[w.heap.size]? = some (.cells (x.map u8V).toArray 24 (0, 0)) := by
    rw [hw0]
    exact (((Below.refl (w.alloc (.cells (x.map u8V).toArray 24)).heap.size _).alloc (Nat.le_refl _) _).block w.heap.size (by simp)).trans (heap_alloc_last w _)
  have h2 : w0.heap[w.heap.size + 1]? = some (.cells #[.bool left] 4 (0, 0)) := by
    have := heap_alloc_last (w.alloc (.cells (x.map u8V).toArray 24)) (.cells #[.bool left] 4)
    rwa [World.size_alloc, ← hw0] at this
  have b0 : Below w.heap.size w w0 := by rw [hw0]; exact ((Below.refl _ _).alloc (Nat.le_refl _) _).alloc (by simp) _
  have H1 := Lib.hid h1
  have H2 := Lib.hid h2
  have HB := Lib.hid b0
  clear h1 h2 b0
  go_enter Tryd.func49, Tryd.ntmps49
  go_upto_region 1 with (fail)
  rw [← hw0]
  clear hw0
  go_wp2
  go_ret
  exact ⟨_, _, rfl, ⟨H2.out, H1.out⟩, Nat.le_succ _, Nat.le_refl _, HB.out⟩
set_option maxHeartbeats 1000000 in
set_option maxRecDepth 100000 in
theorem up_any (h x : List UInt8) (left : Bool) (hh : h.length = 32) (hx : x.length = 32) (ca cx : Nat) (w : World) (hU : UpAt w ca cx x left) (hK : KT w) :
    Calls Tryd.prog 67 #[sumV h, .pointer (some ⟨ca, 0, none⟩), .pointer (some ⟨cx, 0, none⟩)] w fun e w' => e = .returned (sumV (Tree.step h x left)) ∧ Below w.heap.size w w' := by
  obtain ⟨D, hD⟩ : ∃ D, D = Tree.step h x left := ⟨_, rfl⟩
  have hDl : D.length = 32 := by rw [hD]; exact Tree.step_length _ _ _
  rw [← hD]
  obtain ⟨w0, hw0⟩ : ∃ w0, w0 = (w.alloc (.cells (h.map u8V).toArray 24)).alloc zSum := ⟨_, rfl⟩
  have b0 : Below w.heap.size w w0 := by rw [hw0]; exact ((Below.refl _ _).alloc (Nat.le_refl _) _).alloc (by simp) _
  have h1 : w0.heap[w.heap.size]? = some (.cells (h.map u8V).toArray 24 (0, 0)) := by
    rw [hw0]
    exact (((Below.refl (w.alloc (.cells (h.map u8V).toArray 24)).heap.size _).alloc (Nat.le_refl _) _).block w.heap.size (by simp)).trans (heap_alloc_last w _)
  have h2 : w0.heap[w.heap.size + 1]? = some (.cells ((List.replicate 32 (0 : UInt8)).map u8V).toArray 24 (0, 0)) := by
    have := heap_alloc_last (w.alloc (.cells (h.map u8V).toArray 24)) zSum
    rwa [World.size_alloc, ← hw0] at this
  have l2 : w.heap.size + 1 < w0.heap.size := (Array.getElem?_eq_some_iff.1 h2).1
  have u0 := hU.old b0
  have cl : w0.cell? ⟨ca, 0, none⟩ = some (.bool left) := (cell_of u0.1 0).trans rfl
  have rx := range_var u0.2
  have rh := range_var h1
  have z2 := h2
  have HN : Hid (∀ a b, (a = h ∧ b = x ∧ left = false ∨ a = x ∧ b = h ∧ left = true) → Calls Tryd.prog 68 #[sumV a, sumV b] w0 fun e w' => e = .returned (sumV D) ∧ Below w0.heap.size w0 w') := Lib.hid fun a b hab => by
    rw [hD]
    rcases hab with ⟨rfl, rfl, rfl⟩ | ⟨rfl, rfl, rfl⟩
    · exact leafNode_any _ _ hh hx w0 (hK.old b0)
    · exact leafNode_any _ _ hx hh w0 (hK.old b0)
  have HRX := Lib.hid rx
  have HRH := Lib.hid rh
  have HB := Lib.hid b0
  have HZ := Lib.hid z2
  have HDl := Lib.hid hDl
  have Hh := Lib.hid hh
  have Hx := Lib.hid hx
  clear hD hDl rx rh b0 z2 h2 h1 u0 hU hK hh hx
  unfold sumV
  cases left <;>
  (go_enter Tryd.func67, Tryd.ntmps67
   go_upto_region 1 with (fail)
   change Code.wp _ _ _ _ ((w.alloc (.cells (h.map u8V).toArray 24)).alloc zSum)
   rw [← hw0]
   clear hw0
   go_wp2_with (first
     | refine wpList_load_mid rfl 24 (.tmp 2) rfl cx 0 rfl (x.map u8V) _ HRX.out Tryd.underlying24 rfl (sum_info' Hx.out) ?_
     | refine wpList_load_mid rfl 24 (.tmp 3) rfl w.heap.size 0 rfl (h.map u8V) _ HRH.out Tryd.underlying24 rfl (sum_info' Hh.out) ?_
     | (go_at_call 68; ((first | refine (HN.out h x (.inl ⟨rfl, rfl, rfl⟩)).mono ?_ | refine (HN.out x h (.inr ⟨rfl, rfl, rfl⟩)).mono ?_); rintro e w2 ⟨rfl, b2⟩; have z2 := Lib.hid ((b2.block _ l2).trans HZ.out)))
     | refine wpList_store_mid rfl 24 (.tmp 4) (.tmp 8) rfl (w.heap.size + 1) 0 (D.map u8V).toArray rfl rfl (sum_there z2.out HDl.out) (sum_info HDl.out) (sum_one D) ?_
     | refine wpList_store_mid rfl 24 (.tmp 4) (.tmp 11) rfl (w.heap.size + 1) 0 (D.map u8V).toArray rfl rfl (sum_there z2.out HDl.out) (sum_info HDl.out) (sum_one D) ?_)
   exact bodyPost_ret (v := sumV D) (results_cell (t := 4) (ty := 24) (b := w.heap.size + 1) (cs := D.map u8V) rfl _ _ _ rfl (sum_range z2.out HDl.out) Tryd.underlying24 rfl (sum_info' HDl.out)) rfl ⟨rfl, below_setCells (Nat.le_succ _) _ _ _ (below_step HB.out (Nat.le_refl _) b2)⟩)
end Go.Proofs.YtdcebdleneieeaaDoor
/-! ## Package proof: parts; the library's slices.Contains and slices.Index over booleans. -/
namespace Go.Proofs.YtdcebdleneieeaaDoor
open Go.RowKit

def PartRel (B M N : Nat) (w : World) (s0 s1 s5 : Value) (wr : World) : Prop :=
  ∃ (m n : Nat) (D : List Bool), s0 = .int .i64 (m : Int) ∧ s1 = .int .i64 (n : Int) ∧ 1 ≤ m ∧ m ≤ n ∧ n ≤ 1099511627776 ∧ Tree.inw M N = D ++ Tree.inw m n ∧ OwnB B wr s5 D ∧ Below B w wr
theorem inw_40 (m n : Nat) (h1 : 1 ≤ m) (hm : m ≤ n) (h : n ≤ 1099511627776) : (Tree.inw m n).length ≤ 40 := Tree.inw_le 40 m n h1 hm (Nat.le_trans h (by decide))
set_option maxHeartbeats 1000000 in
set_option maxRecDepth 100000 in
theorem parts_any (M N : Nat) (w : World) (h1 : 1 ≤ M) (hMN : M ≤ N) (hN : N ≤ 1099511627776) :
    Calls Tryd.prog 53 #[.int .i64 (M : Int), .int .i64 (N : Int)] w fun e w' => ∃ v', e = .returned v' ∧ OwnB w.heap.size w' v' (Tree.inw M N) ∧ Below w.heap.size w w' := by
  have h40 := inw_40 M N h1 hMN hN
  obtain ⟨B, hBw⟩ : ∃ B, B = w.heap.size := ⟨_, rfl⟩
  have HBw := Lib.hid hBw
  rw [← hBw]
  clear hBw
  go_enter Tryd.func53, Tryd.ntmps53
  go_wp2
  go_loopw [0, 1, 5] (PartRel B M N w) (fun _ s1 _ _ => (intOf s1).toNat)
  case atStart => exact ⟨M, N, [], rfl, rfl, h1, hMN, hN, by simp, OwnB.nil _ _, Below.refl _ _⟩
  case round =>
    obtain ⟨m, n, D, rfl, rfl, hm1, hmn, hn, hT, ho, hbel⟩ := hrel
    have hBW : B ≤ wr.heap.size := HBw.out ▸ hbel.size
    have hDl : D.length ≤ 40 := by
      have := congrArg List.length hT
      rw [List.length_append] at this
      omega
    by_cases h1' : m = n
    · have h2' : (m : Int) = (n : Int) := by omega
      rw [h1', Tree.inw_end, List.append_nil] at hT
      have HO : Hid (OwnB B wr u5 (Tree.inw M N)) := Lib.hid (by rw [hT]; exact ho)
      obtain rfl := h1'
      clear ho hT h40 h2'
      go_wp2
      go_ret
      exact ⟨_, rfl, HO.out, hbel⟩
    · have h2' : ¬ (m : Int) = (n : Int) := by omega
      obtain ⟨va, cap, rfl, hlc, hcap⟩ := ho.bools.slice
      obtain ⟨k, hk⟩ : ∃ k, k = Tree.split n := ⟨_, rfl⟩
      have HSP : Hid (∀ u : World, Calls Tryd.prog 63 #[.int .i64 (n : Int)] u fun e w' => e = .returned (.int .i64 (k : Int)) ∧ u = w') := Lib.hid fun u => by
        have := leafSplit_any (n : Int) (by omega) u
        rwa [Int.toNat_natCast, ← hk] at this
      have hlt := Tree.split_lt (n := n) (by omega)
      have hp := Tree.split_pos (n := n) (by omega)
      rw [← hk] at hlt hp
      by_cases hmk : m ≤ k
      · have hmk' : ¬ k < m := by omega
        obtain ⟨v5, w5, hr5, ho5, b5⟩ := bappend_own 67 false ho hBW (by omega)
        have hT2 : Tree.inw M N = (D ++ [false]) ++ Tree.inw m k := by
          rw [Tree.inw_left hm1 (by omega) (by omega), ← hk] at hT
          rw [hT]
          simp
        have HR := Lib.hid hr5
        have HT := Lib.hid hT2
        have HO := Lib.hid ho5
        have b6 := hbel.trans b5
        clear hk hT hT2 hr5 ho5 ho h40 h1'
        go_wp2_with (first
          | (go_at_call 63; ((with_reducible refine (HSP.out _).mono ?_); rintro e w1 ⟨rfl, rfl⟩))
          | (at_builtin; refine Lib.wpList_append_run _ rfl _ _ _ _ rfl _ _ rfl rfl _ _ HR.out ?_))
        exact ⟨⟨m, k, _, rfl, rfl, hm1, hmk, by omega, HT.out, HO.out, b6⟩, by simp [intOf]; omega⟩
      · have hmk' : k < m := by omega
        obtain ⟨v5, w5, hr5, ho5, b5⟩ := bappend_own 67 true ho hBW (by omega)
        have hT2 : Tree.inw M N = (D ++ [true]) ++ Tree.inw (m - k) (n - k) := by
          rw [Tree.inw_right (m := m) (n := n) (by omega) (by omega), ← hk] at hT
          rw [hT]
          simp
        have HR := Lib.hid hr5
        have HT := Lib.hid hT2
        have HO := Lib.hid ho5
        have b6 := hbel.trans b5
        have hw1 := IntWalk.i64_in ((m : Int) - (k : Int)) (by omega)
        have hw2 := IntWalk.i64_in ((n : Int) - (k : Int)) (by omega)
        clear hk hT hT2 hr5 ho5 ho h40 h1'
        go_wp2_with (first
          | (go_at_call 63; ((with_reducible refine (HSP.out _).mono ?_); rintro e w1 ⟨rfl, rfl⟩))
          | (at_builtin; refine Lib.wpList_append_run _ rfl _ _ _ _ rfl _ _ rfl rfl _ _ HR.out ?_))
        exact ⟨⟨m - k, n - k, _, by rw [Int.ofNat_sub (by omega)], by rw [Int.ofNat_sub (by omega)], by omega, by omega, by omega, HT.out, HO.out, b6⟩, by simp [intOf]; omega⟩

def IndRel (l : List Bool) (s8 : Value) : Prop := ∃ i : Nat, s8 = .int .i64 (i : Int) ∧ i ≤ l.length ∧ ∀ j, j < i → l[j]? = some false
set_option maxHeartbeats 1000000 in
set_option maxRecDepth 100000 in
theorem index_any (v : Value) (l : List Bool) (w : World) (hv : Bools w v l) (hn : l.length ≤ 1000000) :
    Calls Tryd.prog 71 #[v, .bool true] w fun e w' => ∃ r : Int, e = .returned (.int .i64 r) ∧ decide (0 ≤ r) = l.contains true ∧ w = w' := by
  obtain ⟨a, cap, rfl, hlc, hcap⟩ := hv.slice
  obtain ⟨n, hn'⟩ : ∃ n, n = l.length := ⟨_, rfl⟩
  have HV := Lib.hid hv
  obtain ⟨ct, hct⟩ : ∃ ct, ct = l.contains true := ⟨_, rfl⟩
  have Hct := Lib.hid hct
  rw [← hn'] at HV ⊢
  rw [← hct]
  have Hn := Lib.hid hn'
  clear hv hn' hlc hct
  go_enter Tryd.func71, Tryd.ntmps71
  go_wp2
  go_loop [8] (IndRel l) (fun s8 => n - (intOf s8).toNat)
  case atStart => exact ⟨0, rfl, by omega, fun j hj => absurd hj (by omega)⟩
  case round =>
    obtain ⟨i, rfl, hi, hall⟩ := hrel
    rw [← Hn.out] at hi
    by_cases h : i = n
    · have hc : l.contains true = false := by
        rw [Bool.eq_false_iff]
        intro hc
        obtain ⟨j, hj⟩ := List.getElem?_of_mem (List.contains_iff_mem.1 hc)
        have hjl := (List.getElem?_eq_some_iff.1 hj).1
        have := hall j (by have := Hn.out; omega)
        rw [hj] at this
        cases this
      have HC : Hid (ct = false) := Lib.hid (Hct.out.trans hc)
      have h2 : ¬ (i : Int) < (n : Int) := by omega
      clear hall hc h
      go_wp2
      go_ret
      exact ⟨_, rfl, by rw [HC.out]; rfl, rfl⟩
    · have hlt : i < l.length := by have := Hn.out; omega
      have h2 : (i : Int) < (n : Int) := by omega
      obtain ⟨x, hx⟩ : ∃ x, l[i]? = some x := ⟨_, List.getElem?_eq_getElem hlt⟩
      obtain ⟨b, off, rfl, hb, -, hcell⟩ := HV.out.at hx
      have hidx := fun u => index_bools b off n cap i (i : Int) rfl (by omega) u
      cases x with
      | true =>
        have hc : l.contains true = true := List.contains_iff_mem.2 (List.mem_of_getElem? hx)
        have HC : Hid (ct = true) := Lib.hid (Hct.out.trans hc)
        clear hall hc hx h hlt
        go_wp2
        go_ret
        exact ⟨_, rfl, by rw [HC.out]; simp, rfl⟩
      | false =>
        have hall' : ∀ j, j < i + 1 → l[j]? = some false := fun j hj => by
          by_cases e : j = i
          · rw [e]; exact hx
          · exact hall j (by omega)
        have HA := Lib.hid hall'
        clear hall hall' hx h hlt
        have hwr := IntWalk.i64_in ((i : Int) + 1) (by have := Hn.out; omega)
        go_wp2
        exact ⟨⟨i + 1, by simp, by have := Hn.out; omega, HA.out⟩, by simp [intOf]; omega⟩
set_option maxHeartbeats 1000000 in
set_option maxRecDepth 100000 in
theorem contains_any (v : Value) (l : List Bool) (w : World) (hv : Bools w v l) (hn : l.length ≤ 1000000) :
    Calls Tryd.prog 54 #[v, .bool true] w fun e w' => e = .returned (.bool (l.contains true)) ∧ w = w' := by
  obtain ⟨a, cap, rfl, hlc, hcap⟩ := hv.slice
  have HI := Lib.hid (index_any _ l w hv hn)
  clear hv hlc hcap
  obtain ⟨c, hc⟩ : ∃ c, c = l.contains true := ⟨_, rfl⟩
  rw [← hc] at HI ⊢
  clear hc
  go_enter Tryd.func54, Tryd.ntmps54
  go_wp2_with (go_at_call 71; ((with_reducible refine HI.out.mono ?_); rintro e w1 ⟨r, rfl, hr, rfl⟩; have HR := Lib.hid hr; clear hr))
  go_ret
  exact ⟨by rw [← HR.out]; rfl, rfl⟩
end Go.Proofs.YtdcebdleneieeaaDoor
/-! ## Package proof: hashes in variables, results in memory beside others, rows of booleans. -/
namespace Go.Proofs.YtdcebdleneieeaaDoor
open Go.RowKit

theorem sum_thereP {w : World} {q : Nat} {x y : List UInt8} (h : w.heap[q]? = some (.cells (x.map u8V).toArray 24 (0, 0))) (hx : x.length = 32) (hy : y.length = 32) : w.there q 0 (y.map u8V).toArray.size := by
  rw [show (y.map u8V).toArray.size = 32 from (List.size_toArray).trans (by rw [List.length_map, hy])]; exact there_of h (by simp [hx])
theorem set_sumP (w : World) (q : Nat) (x y : List UInt8) (hx : x.length = 32) (hy : y.length = 32) (h : w.heap[q]? = some (.cells (x.map u8V).toArray 24 (0, 0))) : (w.setCells q 0 (y.map u8V)).heap[q]? = some (.cells (y.map u8V).toArray 24 (0, 0)) := by
  have := heap_setCells q 24 (y.map u8V) 0 (x.map u8V) w (by simp [hx, hy]) h
  rw [this, List.take_zero, List.nil_append, List.drop_eq_nil_of_le (by simp [hx, hy]), List.append_nil]
theorem load_sumP {w : World} {g o : Nat} {x : List UInt8} (hx : x.length = 32) (h : w.rangeAt g o (x.map u8V)) : (Instr.loadAt 24 (.pointer (some ⟨g, o, none⟩))).run Tryd.prog w = .ok (sumV x) w :=
  run_loadAt_mid _ _ _ _ _ _ h Tryd.underlying24 rfl (sum_info' hx)
theorem sum_oneP (x : List UInt8) : ((x.map u8V).toArray : Array Value).all (·.oneCell') = true := sum_one x
/-- Results: a hash that lies in memory, and a slot. -/
theorem results_ct {fn : Func} {t u : Tmp} {ty : TypeId} (h : fn.results = #[.cell t ty, .tmp u]) (tmps : Array Value) (P : Program) (w : World) {b : Nat} {cs : List Value} {d : TypeDesc} (ht : tmps.getD t undef = .pointer (some ⟨b, 0, none⟩)) (hc : w.rangeAt b 0 cs)
    (hu : P.underlying ty = some d) (hd : d.isRow = true) (hi : (P.info? ty).map (·.size) = some cs.length) : (results fn tmps).run P w = .ok (.tuple #[.agg cs.toArray, tmps.getD u undef]) w := by
  have := run_loadVar_mid w b 0 ty cs d hc hu hd hi
  rw [Array.getD_eq_getD_getElem?] at ht
  simp [results, h, ht, asAddr, this, Result.andThen]
/-- Results: two hashes that lie in memory, and a slot. -/
theorem results_cct {fn : Func} {t t' u : Tmp} {ty : TypeId} (h : fn.results = #[.cell t ty, .cell t' ty, .tmp u]) (tmps : Array Value) (P : Program) (w : World) {b b' : Nat} {cs cs' : List Value} {d : TypeDesc} (ht : tmps.getD t undef = .pointer (some ⟨b, 0, none⟩)) (ht' : tmps.getD t' undef = .pointer (some ⟨b', 0, none⟩)) (hc : w.rangeAt b 0 cs) (hc' : w.rangeAt b' 0 cs')
    (hu : P.underlying ty = some d) (hd : d.isRow = true) (hi : (P.info? ty).map (·.size) = some cs.length) (hi' : (P.info? ty).map (·.size) = some cs'.length) : (results fn tmps).run P w = .ok (.tuple #[.agg cs.toArray, .agg cs'.toArray, tmps.getD u undef]) w := by
  have := run_loadVar_mid w b 0 ty cs d hc hu hd hi
  have h2 := run_loadVar_mid w b' 0 ty cs' d hc' hu hd hi'
  rw [Array.getD_eq_getD_getElem?] at ht ht'
  simp [results, h, ht, ht', asAddr, this, h2, Result.andThen]
theorem OwnB.get {B : Nat} {w : World} {v : Value} {l : List Bool} (h : OwnB B w v l) {k : Nat} {x : Bool} (hx : l[k]? = some x) : ∃ g cap, v = .slice (some ⟨g, 0, none⟩) l.length cap ∧ B ≤ g ∧ g < w.heap.size ∧ w.cell? ⟨g, k, none⟩ = some (.bool x) := by
  have h' := h
  obtain ⟨_, h | ⟨g, cap, cur, rfl, hbg, hg, hnc, hcm, hcs, htake⟩⟩ := h
  · obtain ⟨-, h0⟩ := h
    have := (List.getElem?_eq_some_iff.1 hx).1
    omega
  · refine ⟨g, cap, rfl, hbg, (Array.getElem?_eq_some_iff.1 hg).1, ?_⟩
    have := World.ownsRow.cells h' (g := g) rfl _ _ (bvs_get hx)
    rw [Addr.add_mid, Nat.zero_add] at this
    exact this
theorem OwnB.at0 {B : Nat} {w : World} {a : Option Addr} {n cap : Nat} {l : List Bool} (h : OwnB B w (.slice a n cap) l) {k : Nat} {x : Bool} (hx : l[k]? = some x) : ∃ g, a = some ⟨g, 0, none⟩ ∧ B ≤ g ∧ g < w.heap.size ∧ n = l.length ∧ w.cell? ⟨g, k, none⟩ = some (.bool x) := by
  obtain ⟨g, cap', e, h1, h2, h3⟩ := h.get hx
  injection e with e1 e2 e3
  exact ⟨g, e1, h1, h2, e2, h3⟩
theorem Sums.at0 {w : World} {a : Option Addr} {n cap : Nat} {l : Hs} (h : Sums w (.slice a n cap) l) {k : Nat} {x : List UInt8} (hx : l[k]? = some x) : ∃ b off, a = some ⟨b, off, none⟩ ∧ b < w.heap.size ∧ n = l.length ∧ w.rangeAt b (off + k * 32) (x.map u8V) := by
  obtain ⟨hk, rfl⟩ := List.getElem?_eq_some_iff.1 hx
  exact h.at k hk
end Go.Proofs.YtdcebdleneieeaaDoor
/-! ## Package proof: Fold. -/
namespace Go.Proofs.YtdcebdleneieeaaDoor
open Go.RowKit

theorem built_zeroP : Tryd.prog.built 24 [] = some ((List.replicate 32 (0 : UInt8)).map u8V).toArray := by kernel_rfl
/-- Has the path as many hashes as it should? -/
def foldLen (m n : Int) (P : Hs) : Bool := decide ((P.length : Int) = if okP m n then ((Tree.long m.toNat n.toNat : Nat) : Int) else -1)
/-- What Fold tells. -/
def foldZ (x : List UInt8) (m n : Int) (P : Hs) : List UInt8 × Bool := if foldLen m n P then (Tree.fold x P (turnsZ m n), true) else (List.replicate 32 0, false)
theorem foldLen_t {m n : Int} {P : Hs} (h : foldLen m n P = true) : okP m n = true ∧ P.length = Tree.long m.toNat n.toNat := by
  unfold foldLen at h
  rw [decide_eq_true_eq] at h
  cases e : okP m n with
  | true => rw [e, if_pos rfl] at h; exact ⟨rfl, by omega⟩
  | false => rw [e, if_neg (by decide)] at h; omega
theorem foldZ_length (x : List UInt8) (m n : Int) (P : Hs) (hx : x.length = 32) : (foldZ x m n P).1.length = 32 := by
  unfold foldZ
  split
  · exact Tree.fold_length _ _ _ hx
  · simp
/-- Ahead of hash i: what was come to, and what is left of the path, come to D. -/
def FoRel (P : Hs) (T : List Bool) (D : List UInt8) (q : Nat) (w0 : World) (s24 : Value) (wr : World) : Prop :=
  ∃ (i : Nat) (X : List UInt8), s24 = .int .i64 (i : Int) ∧ i ≤ T.length ∧ X.length = 32 ∧ Tree.fold X (P.drop i) (T.drop i) = D ∧ Only q w0 wr ∧ wr.heap[q]? = some (.cells (X.map u8V).toArray 24 (0, 0))
theorem foldP_cons (X p : List UInt8) (P : Hs) (b : Bool) (T : List Bool) : Tree.fold X (p :: P) (b :: T) = Tree.fold (Tree.step X p b) P T := rfl
theorem foldP_nil (X : List UInt8) (T : List Bool) : Tree.fold X [] T = X := by cases T <;> rfl
set_option maxHeartbeats 4000000 in
set_option maxRecDepth 100000 in
theorem fold_any (x : List UInt8) (hx : x.length = 32) (m n : Int) (l1 : m ≤ 9223372036854775807) (l2 : n ≤ 9223372036854775807) (v : Value) (P : Hs) (w : World) (hv : Sums w v P) (hP : P.length ≤ 1000) (hK : KT w) :
    Calls Tryd.prog 29 #[sumV x, .int .i64 m, .int .i64 n, v] w fun e w' => e = .returned (.tuple #[sumV (foldZ x m n P).1, .bool (foldZ x m n P).2]) ∧ Below w.heap.size w w' := by
  obtain ⟨va, cap, rfl, hlc, hcap⟩ := hv.slice
  obtain ⟨k, hk⟩ : ∃ k, k = P.length := ⟨_, rfl⟩
  obtain ⟨w0, hw0⟩ : ∃ w0, w0 = (w.alloc (.cells (x.map u8V).toArray 24)).alloc zSum := ⟨_, rfl⟩
  have b0 : Below w.heap.size w w0 := by rw [hw0]; exact ((Below.refl _ _).alloc (Nat.le_refl _) _).alloc (by simp) _
  have h1 : w0.heap[w.heap.size]? = some (.cells (x.map u8V).toArray 24 (0, 0)) := by
    rw [hw0]
    exact (((Below.refl (w.alloc (.cells (x.map u8V).toArray 24)).heap.size _).alloc (Nat.le_refl _) _).block w.heap.size (by simp)).trans (heap_alloc_last w _)
  have h2 : w0.heap[w.heap.size + 1]? = some (.cells ((List.replicate 32 (0 : UInt8)).map u8V).toArray 24 (0, 0)) := by
    have := heap_alloc_last (w.alloc (.cells (x.map u8V).toArray 24)) zSum
    rwa [World.size_alloc, ← hw0] at this
  have hsz : w0.heap.size = w.heap.size + 2 := by rw [hw0]; simp
  obtain ⟨z, hz⟩ : ∃ z, z = (if okP m n then ((Tree.long m.toNat n.toNat : Nat) : Int) else -1) := ⟨_, rfl⟩
  have HLO : Hid (∀ u, Calls Tryd.prog 45 #[.int .i64 m, .int .i64 n] u fun e w' => e = .returned (.int .i64 z) ∧ u = w') := Lib.hid fun u => by rw [hz]; exact long_any m n u l1 l2
  have hfl : foldLen m n P = decide ((k : Int) = z) := by unfold foldLen; rw [hz, hk]
  have hfz : foldZ x m n P = if decide ((k : Int) = z) then (Tree.fold x P (turnsZ m n), true) else (List.replicate 32 0, false) := by unfold foldZ; rw [hfl]
  have HV := Lib.hid hv
  have HB := Lib.hid b0
  have HX := Lib.hid hx
  have H1 := Lib.hid h1
  have H2 := Lib.hid h2
  have HKW := Lib.hid hK
  rw [← hk] at HV ⊢
  by_cases hkz : (k : Int) = z
  · obtain ⟨hok, hkl⟩ := foldLen_t (by rw [hfl]; exact decide_eq_true hkz)
    rw [hfz, if_pos (decide_eq_true hkz)]
    obtain ⟨T, hT⟩ : ∃ T, T = turnsZ m n := ⟨_, rfl⟩
    have hTl : T.length = k := by rw [hT, hk, hkl]; unfold turnsZ; rw [if_pos hok]; rfl
    have HTU : Hid (∀ u, Calls Tryd.prog 47 #[.int .i64 m, .int .i64 n] u fun e w' => ∃ b c, e = .returned (.slice b k c) ∧ OwnB u.heap.size w' (.slice b k c) T ∧ Below u.heap.size u w') := Lib.hid fun u => by
      have := turns_any m n u l1 l2
      rw [← hT] at this
      refine this.mono fun e w' ⟨v', he, ho, hb⟩ => ?_
      obtain ⟨b, c, rfl, -, -⟩ := ho.bools.slice
      have hs := ho
      rw [hTl] at he hs
      exact ⟨b, c, he, hs, hb⟩
    rw [← hT]
    obtain ⟨D, hD⟩ : ∃ D, D = Tree.fold x P T := ⟨_, rfl⟩
    rw [← hD]
    have HD := Lib.hid hD
    have HTl := Lib.hid hTl
    have Hk := Lib.hid hk
    have HPok := Lib.hid hv.ok
    have hsz1 : w.heap.size < w0.heap.size := by omega
    have hsz2 : w.heap.size + 1 < w0.heap.size := by omega
    obtain rfl : z = (k : Int) := hkz.symm
    clear hfz hfl hz hok hkl hT hTl hD hkz hk b0 h1 h2 hx hv hK l1 l2 hsz hcap hlc
    unfold sumV
    go_enter Tryd.func29, Tryd.ntmps29
    go_upto_region 1 with (fail)
    change Code.wp _ _ _ _ ((w.alloc (.cells (x.map u8V).toArray 24)).alloc zSum)
    rw [← hw0]
    clear hw0
    go_upto_region 4 with (first
      | (go_at_call 45; ((with_reducible refine (HLO.out _).mono ?_); rintro e w1 ⟨rfl, rfl⟩))
      | (go_at_call 47; ((with_reducible refine (HTU.out _).mono ?_); rintro e w3 ⟨aT, cT, rfl, hst, b3⟩; have HST := Lib.hid hst; clear hst)))
    have hbv : Below w.heap.size w w3 := below_step HB.out (Nat.le_refl _) b3
    have z1 := Lib.hid ((b3.block _ hsz1).trans H1.out)
    have z2 := Lib.hid ((b3.block _ hsz2).trans H2.out)
    have hq2 : w.heap.size + 1 < w3.heap.size := Nat.lt_of_lt_of_le hsz2 b3.size
    obtain ⟨V, hV⟩ : ∃ V, V = w3 := ⟨_, rfl⟩
    obtain ⟨r, hr⟩ : ∃ r, r = w.heap.size + 1 := ⟨_, rfl⟩
    obtain ⟨q, hq⟩ : ∃ q, q = w.heap.size := ⟨_, rfl⟩
    rw [← hV] at hbv z1 z2 hq2 HST ⊢
    have hK3 : KT V := HKW.out.old hbv
    have hs3 : Sums V (.slice va k cap) P := HV.out.old hbv
    have hsb : ∀ b off, va = some ⟨b, off, none⟩ → 0 < k → b < q := fun b off e h0 => by
      obtain ⟨b', off', e', hb, -⟩ := HV.out.at 0 (by rw [← Hk.out]; exact h0)
      rw [e] at e'
      injection e' with e'
      injection e' with e1
      omega
    rw [← hr] at z2 hq2 ⊢
    rw [← hq] at z1 ⊢
    have hqr : q < r := by omega
    have hqV : q < V.heap.size := by omega
    have hw02 : r < w0.heap.size := by omega
    have HKV := Lib.hid hK3
    have HS3 := Lib.hid hs3
    have Hq := Lib.hid hq
    have Hr := Lib.hid hr
    have HBV := Lib.hid hbv
    clear hK3 hs3 hV b3 hq hr hbv hsz1 hsz2
    go_wp2
    go_loopw [24] (FoRel P T D q V) (fun s24 _ => k - (intOf s24).toNat)
    case atStart => exact ⟨0, x, rfl, by omega, HX.out, HD.out.symm, Only.refl _ _, z1.out⟩
    case round =>
      obtain ⟨i, X, rfl, hi, hXl, hfo, honly, hqc⟩ := hrel
      rw [HTl.out] at hi
      have HXl := Lib.hid hXl
      have HFo := Lib.hid hfo
      have HO := Lib.hid honly
      have HQC := Lib.hid hqc
      have hzr : wr.heap[r]? = some (.cells ((List.replicate 32 (0 : UInt8)).map u8V).toArray 24 (0, 0)) := (honly.block r hq2 (by omega)).trans z2.out
      have HZR := Lib.hid hzr
      clear hXl hfo honly hqc hzr
      by_cases hik : i < k
      · have hik' : (i : Int) < (k : Int) := by omega
        obtain ⟨p, hp⟩ : ∃ p, P[i]? = some p := ⟨_, List.getElem?_eq_getElem (by rw [← Hk.out]; exact hik)⟩
        obtain ⟨tb, htb⟩ : ∃ tb, T[i]? = some tb := ⟨_, List.getElem?_eq_getElem (by rw [HTl.out]; exact hik)⟩
        have hpl : p.length = 32 := HPok.out p (List.mem_of_getElem? hp)
        obtain ⟨gT, rfl, hg1, hg2, -, hgc⟩ := HST.out.at0 htb
        obtain ⟨bp, op, rfl, hb2, -, hrp⟩ := HS3.out.at0 hp
        have hbq := hsb bp op rfl (by omega)
        have hct : wr.cell? ⟨gT, i, none⟩ = some (.bool tb) := (HO.out.cell hg2 (by omega)).trans hgc
        have hrp' : wr.rangeAt bp (op + i * 32) (p.map u8V) := fun j u hu => (HO.out.cell hb2 (by omega)).trans (hrp j u hu)
        have hidx1 := fun u => index_bools gT 0 k cT i (i : Int) rfl hik u
        have hidx2 := fun u => index_sums bp op k cap i hik u
        rw [Nat.zero_add] at hidx1
        obtain ⟨D2, hD2⟩ : ∃ D2, D2 = Tree.step X p tb := ⟨_, rfl⟩
        have hD2l : D2.length = 32 := by rw [hD2]; exact Tree.step_length _ _ _
        have hfo2 : Tree.fold D2 (P.drop (i + 1)) (T.drop (i + 1)) = D := by
          have e := HFo.out
          obtain ⟨hi1, hi2⟩ := List.getElem?_eq_some_iff.1 hp
          obtain ⟨hj1, hj2⟩ := List.getElem?_eq_some_iff.1 htb
          rw [List.drop_eq_getElem_cons hi1, List.drop_eq_getElem_cons hj1, hi2, hj2, foldP_cons, ← hD2] at e
          exact e
        have HRP := Lib.hid hrp'
        have HPl := Lib.hid hpl
        have HD2 := Lib.hid hD2
        have HD2l := Lib.hid hD2l
        have HFo2 := Lib.hid hfo2
        have hqw : q < wr.heap.size := Nat.lt_of_lt_of_le hqV HO.out.size
        have hKr : KT wr := HKV.out.oldB (HO.out.below (Nat.le_refl _) (Nat.le_of_lt hqV)) (by rw [Hq.out]; exact HKW.out.pos)
        have HKR := Lib.hid hKr
        have hwr := IntWalk.i64_in ((i : Int) + 1) (by have := Hk.out; omega)
        have hqca := HQC
        clear hp htb hpl hrp hrp' hgc hD2 hD2l hfo2 hKr hb2 hbq hg1 hg2 HFo hsb
        go_wp2_with (first
          | refine wpList_load_mid rfl 24 (.tmp 31) rfl bp (op + i * 32) rfl (p.map u8V) _ HRP.out Tryd.underlying24 rfl (sum_info' HPl.out) ?_
          | (go_at_call 49; (refine (beside_any p tb _).mono ?_); rintro e w4 ⟨ca, cx, rfl, hU, hl1, hl2, b4⟩; have HU := Lib.hid hU; have z4 := Lib.hid ((b4.block _ hqw).trans HQC.out); clear hU hl1 hl2)
          | refine wpList_load_mid rfl 24 (.tmp 4) rfl q 0 rfl (X.map u8V) _ (range_var z4.out) Tryd.underlying24 rfl (sum_info' HXl.out) ?_
          | (go_at_call 67; (refine (up_any X p tb HXl.out HPl.out ca cx _ HU.out (HKR.out.old b4)).mono ?_); rintro e w5 ⟨rfl, b5⟩; rw [← HD2.out]; have z5 := Lib.hid ((b5.block _ (Nat.lt_of_lt_of_le hqw b4.size)).trans z4.out))
          | refine wpList_store_mid rfl 24 (.tmp 4) (.tmp 37) rfl q 0 (D2.map u8V).toArray rfl rfl (sum_thereP z5.out HXl.out HD2l.out) (sum_info HD2l.out) (sum_one D2) ?_)
        refine ⟨⟨i + 1, D2, by simp, by rw [HTl.out]; omega, HD2l.out, HFo2.out, ?_, set_sumP w5 q X D2 HXl.out HD2l.out z5.out⟩, by simp [intOf]; omega⟩
        exact HO.out.trans (((Only.of_below b4).trans (Only.of_below b5)).trans (only_setCells (b := q) (D2.map u8V) 0 _ (Only.refl _ _)))
      · have hik' : ¬ (i : Int) < (k : Int) := by omega
        have hDX : X = D := by
          have e := HFo.out
          rw [List.drop_eq_nil_of_le (by rw [← Hk.out]; omega), foldP_nil] at e
          exact e
        subst hDX
        have hbf : Below q V wr := HO.out.below (Nat.le_refl _) (Nat.le_of_lt hqV)
        have HBF := Lib.hid hbf
        clear HFo HD hbf hsb
        go_wp2_with (first
          | refine wpList_load_mid rfl 24 (.tmp 4) rfl q 0 rfl (X.map u8V) _ (range_var HQC.out) Tryd.underlying24 rfl (sum_info' HXl.out) ?_
          | refine wpList_store_mid rfl 24 (.tmp 8) (.tmp 39) rfl r 0 (X.map u8V).toArray rfl rfl (sum_there HZR.out HXl.out) (sum_info HXl.out) (sum_one X) ?_)
        refine bodyPost_ret (results_ct (t := 8) (u := 9) (ty := 24) (b := r) (cs := X.map u8V) rfl _ _ _ rfl (sum_range HZR.out HXl.out) Tryd.underlying24 rfl (sum_info' HXl.out)) rfl ⟨rfl, below_setCells (by rw [← Hq.out]; omega) _ _ _ ?_⟩
        exact HBV.out.trans (by rw [← Hq.out]; exact HBF.out)
  · rw [hfz, if_neg (by simpa using hkz)]
    obtain ⟨Z, hZ⟩ : ∃ Z, Z = List.replicate 32 (0 : UInt8) := ⟨_, rfl⟩
    have HZB : Hid (Tryd.prog.built 24 [] = some (Z.map u8V).toArray) := Lib.hid (by rw [hZ]; exact built_zeroP)
    have HZl : Hid (Z.length = 32) := Lib.hid (by rw [hZ]; simp)
    rw [← hZ]
    clear hZ hfz hfl hz b0 h1 h2 hx hv hK l1 l2 hsz hcap hlc hk
    unfold sumV
    go_enter Tryd.func29, Tryd.ntmps29
    go_upto_region 1 with (fail)
    change Code.wp _ _ _ _ ((w.alloc (.cells (x.map u8V).toArray 24)).alloc zSum)
    rw [← hw0]
    clear hw0
    go_wp2_with (first
      | (go_at_call 45; ((with_reducible refine (HLO.out _).mono ?_); rintro e w1 ⟨rfl, rfl⟩))
      | refine wpList_build_at rfl 24 #[] rfl (Z.map u8V).toArray [] (by simp) HZB.out ?_
      | refine wpList_store_mid rfl 24 (.tmp 8) (.tmp 19) rfl (w.heap.size + 1) 0 (Z.map u8V).toArray rfl rfl (sum_there H2.out HZl.out) (sum_info HZl.out) (sum_one _) ?_)
    exact bodyPost_ret (results_ct (t := 8) (u := 9) (ty := 24) (b := w.heap.size + 1) (cs := Z.map u8V) rfl _ _ _ rfl (sum_range H2.out HZl.out) Tryd.underlying24 rfl (sum_info' HZl.out)) rfl ⟨rfl, below_setCells (Nat.le_succ _) _ _ _ HB.out⟩
end Go.Proofs.YtdcebdleneieeaaDoor
/-! ## The library's slices.Backward over booleans: what it hands to the loop's body, one behind the other. -/
namespace Go.Proofs.YtdcebdleneieeaaDoor
open Go.RowKit Go.Shelf

attribute [local go_sem] Oper.semAt_some

/-- What has come when j rounds are over: the last j of them, the last one first. -/
def dnB (c : List Bool) (j : Nat) : List (Nat × Bool) := (List.range j).map fun i => (c.length - 1 - i, c.getD (c.length - 1 - i) false)
theorem dnB_succ (c : List Bool) (j : Nat) : dnB c (j + 1) = dnB c j ++ [(c.length - 1 - j, c.getD (c.length - 1 - j) false)] := by simp [dnB, List.range_succ]
theorem dnB_length (c : List Bool) (j : Nat) : (dnB c j).length = j := by simp [dnB]
theorem dnB_rev (c : List Bool) (j : Nat) (hj : j ≤ c.length) : (dnB c j).map (·.2) = c.reverse.take j := by
  apply List.ext_getElem?
  intro i
  by_cases hi : i < j
  · have h1 : i < c.length := by omega
    simp only [dnB, List.map_map, List.getElem?_map, List.getElem?_range hi, Option.map_some, Function.comp_def, List.getElem?_take_of_lt hi]
    rw [List.getElem?_reverse h1, List.getD_eq_getElem?_getD, List.getElem?_eq_getElem (by omega)]
    rfl
  · rw [List.getElem?_eq_none (by simp [dnB]; omega), List.getElem?_eq_none (by simp; omega)]

set_option maxRecDepth 100000 in
set_option maxHeartbeats 2000000 in
theorem bback1_in (F : Fence) (n : Nat) (h7 : F.fn 72) (hro : F.round = none) (hn : 1 ≤ n) (l Bs n₀ : Nat) (S : Nat → Prop) (g cap : Nat) (c : List Bool) (hreach : c.length ≤ 1000000) (hb : g < n₀) (hgr : ¬ S g) (hBr : ¬ S Bs) (J Jx : List (Nat × Bool) → World → Prop)
    (hY : ∀ pre x W, J pre W → pre = dnB c pre.length → x = (c.length - 1 - pre.length, c.getD (c.length - 1 - pre.length) false) → pre.length < c.length → YieldAt F (n - 1) Tryd.prog l #[.int .i64 (x.1 : Int), .bool x.2] W fun e W' =>
      (e = .returned (.bool true) ∧ J (pre ++ [x]) W' ∧ KeepS S n₀ W W') ∨ (e = .returned (.bool false) ∧ Jx (pre ++ [x]) W'))
    (W : World) (hBs : W.cell? ⟨Bs, 0, none⟩ = some (.slice (some ⟨g, 0, none⟩) c.length cap)) (hBn : Bs < n₀) (hc : ∀ (k : Nat) (x : Bool), c[k]? = some x → W.cell? ⟨g, k, none⟩ = some (.bool x)) (h0 : J [] W) :
    CallsIn F n Tryd.prog 72 #[.func (.yield l) #[] #[], .pointer (some ⟨Bs, 0, none⟩)] W fun e W' => (∃ v, e = .returned v) ∧
      ((∃ ys, ys = dnB c c.length ∧ J ys W') ∨ (∃ pre, (∃ k, k ≤ c.length ∧ pre = dnB c k) ∧ Jx pre W')) := by
  refine callsIn_of_wp Tryd.func72 rfl h7 ?_ hro
  simp only [Tryd.ntmps72, List.size_toArray, List.length_cons, List.length_nil, Nat.reduceAdd, Nat.reduceSub, Array.replicate_succ, Array.replicate_zero, List.push_toArray, List.append_toArray, List.nil_append, List.cons_append]
  gi_wp2
  gi_loopw [3] (fun i wr => ∃ k : Nat, k ≤ c.length ∧ ((k = 0 ∧ i = .int .i64 (-1)) ∨ ∃ m : Nat, k = m + 1 ∧ i = .int .i64 m) ∧ J (dnB c (c.length - k)) wr ∧ KeepS S n₀ W wr)
    (fun i _ => (intOf i + 1).toNat)
  case atStart =>
    refine ⟨c.length, Nat.le_refl _, ?_, by rw [Nat.sub_self]; exact h0, KeepS.refl _ _ _⟩
    by_cases h : c.length = 0
    · exact .inl ⟨h, by rw [h]; rfl⟩
    · exact .inr ⟨c.length - 1, by omega, by congr 1; omega⟩
  case round =>
    obtain ⟨k, hk, hi, hJs, hnx⟩ := hrel
    have hBs' : wr.cell? ⟨Bs, 0, none⟩ = some (.slice (some ⟨g, 0, none⟩) c.length cap) := (hnx.cell hBn hBr 0).trans hBs
    rcases hi with ⟨rfl, rfl⟩ | ⟨m, rfl, rfl⟩
    · gi_wp2
      go_end0
      exact ⟨⟨_, rfl⟩, .inl ⟨_, rfl, hJs⟩⟩
    · have hm : m < c.length := by omega
      obtain ⟨y, hy0⟩ : ∃ y, y = c.getD m false := ⟨_, rfl⟩
      have hye : c[m]? = some y := by rw [hy0, List.getD_eq_getElem?_getD, List.getElem?_eq_getElem hm]; rfl
      have c1 : wr.cell? ⟨g, m, none⟩ = some (.bool y) := (hnx.cell hb hgr m).trans (hc m y hye)
      have hidx := fun u => index_bools g 0 c.length cap m (m : Int) rfl hm u
      rw [Nat.zero_add] at hidx
      have hl1 : (dnB c (c.length - (m + 1))).length = c.length - (m + 1) := dnB_length _ _
      obtain ⟨fn, tmps, assign, body, hy, hR⟩ := hY _ (m, y) wr hJs (by rw [hl1]) (by rw [hl1, show c.length - 1 - (c.length - (m + 1)) = m by omega, hy0]) (by rw [hl1]; omega)
      dsimp only at hy
      have hs : dnB c (c.length - (m + 1)) ++ [(m, y)] = dnB c (c.length - m) := by
        have := dnB_succ c (c.length - (m + 1))
        rw [show c.length - (m + 1) + 1 = c.length - m by omega, show c.length - 1 - (c.length - (m + 1)) = m by omega, ← hy0] at this
        exact this.symm
      rw [hs] at hR
      clear hc hs hY hy0 hye hl1
      gi_wp2
      refine hR.mono ?_
      rintro e W3 (⟨rfl, hJ3, hk3⟩ | ⟨rfl, hJx3⟩)
      · gi_wp2
        go_roundw
        case rel =>
          refine ⟨m, by omega, ?_, hJ3, hnx.trans hk3⟩
          by_cases h : m = 0
          · exact .inl ⟨h, by rw [h]; rfl⟩
          · exact .inr ⟨m - 1, by omega, by congr 1; omega⟩
        case measure => simp [intOf]
      · gi_wp2
        refine bodyPost_ret (results_none rfl _ _ _) rfl ?_
        exact ⟨⟨_, rfl⟩, .inr ⟨_, ⟨c.length - m, by omega, rfl⟩, hJx3⟩⟩

set_option maxRecDepth 100000 in
set_option maxHeartbeats 1000000 in
/-- .. of nothing: no round. -/
theorem bback1_nil_in (F : Fence) (n : Nat) (h7 : F.fn 72) (hro : F.round = none) (l Bs : Nat) (a : Option Addr) (cap : Nat) (J : List (Nat × Bool) → World → Prop) (W : World) (hBs : W.cell? ⟨Bs, 0, none⟩ = some (.slice a 0 cap)) (h0 : J [] W) :
    CallsIn F n Tryd.prog 72 #[.func (.yield l) #[] #[], .pointer (some ⟨Bs, 0, none⟩)] W fun e W' => (∃ v, e = .returned v) ∧ J [] W' := by
  refine callsIn_of_wp Tryd.func72 rfl h7 ?_ hro
  simp only [Tryd.ntmps72, List.size_toArray, List.length_cons, List.length_nil, Nat.reduceAdd, Nat.reduceSub, Array.replicate_succ, Array.replicate_zero, List.push_toArray, List.append_toArray, List.nil_append, List.cons_append]
  gi_wp2
  gi_loopw [3] (fun i wr => i = .int .i64 (-1) ∧ J [] wr) (fun _ _ => 0)
  case atStart => exact ⟨rfl, h0⟩
  case round =>
    obtain ⟨rfl, hJs⟩ := hrel
    gi_wp2
    go_end0
    exact ⟨⟨_, rfl⟩, hJs⟩

set_option maxHeartbeats 1000000 in
theorem bback_in (F : Fence) (n : Nat) (h5 : F.fn 55) (hro : F.round = none) (a : Option Addr) (len cap : Nat) (w : World) :
    CallsIn F n Tryd.prog 55 #[.slice a len cap] w fun e w' => e = .returned (.func (.func 72) #[] #[.pointer (some ⟨w.heap.size, 0, none⟩)]) ∧ w' = w.alloc (.cells #[.slice a len cap] 67) := by
  refine callsIn_of_wp Tryd.func55 rfl h5 ?_ hro
  simp only [Tryd.ntmps55, List.size_toArray, List.length_cons, List.length_nil, Nat.reduceAdd, Nat.reduceSub, Array.replicate_succ, Array.replicate_zero, List.push_toArray, List.append_toArray, List.nil_append, List.cons_append]
  gi_wp2
  go_ret
  exact ⟨rfl, rfl⟩

/-- The next one that comes. -/
def nxB (c : List Bool) (pre : List (Nat × Bool)) (x : Nat × Bool) : Prop := pre = dnB c pre.length ∧ x = (c.length - 1 - pre.length, c.getD (c.length - 1 - pre.length) false)
theorem bback_stops (F : Fence) (n : Nat) (h7 : F.fn 72) (hro : F.round = none) (hn : 1 ≤ n) (Bs n₀ : Nat) (S : Nat → Prop) (cv : Value) (c : List Bool) (hreach : c.length ≤ 1000000) (w : World) (hBs : Bs < n₀) (hn₀ : n₀ ≤ w.heap.size)
    (hc : w.cell? ⟨Bs, 0, none⟩ = some cv) (B : Nat) (hI : OwnB B w cv c) (hBr : ¬ S Bs) (hgr : ∀ g, B ≤ g → g < w.heap.size → cv.ownBlock = some g → g < n₀ ∧ ¬ S g) :
    SeqStopsK F n Tryd.prog 72 #[.pointer (some ⟨Bs, 0, none⟩)] (fun x : Nat × Bool => #[Value.int .i64 (x.1 : Int), .bool x.2]) (KeepS S n₀) (fun ys => ys = dnB c c.length)
      (fun pre => ∃ k, k ≤ c.length ∧ pre = dnB c k) c.length w := fun l J Jx W hW _ _ hY h0 => by
  have hc' := (hW.cell (p := ⟨Bs, 0, none⟩) (by show Bs < w.heap.size; omega)).trans hc
  obtain ⟨a, cap, rfl, -, -⟩ := hI.bools.slice
  by_cases hx : c.length = 0
  · obtain rfl := List.eq_nil_of_length_eq_zero hx
    exact (bback1_nil_in F n h7 hro l Bs a cap J W hc' h0).mono fun e W' ⟨he, hj⟩ => ⟨he, .inl ⟨_, rfl, hj⟩⟩
  · obtain ⟨g, rfl, hb, hg2, -, -⟩ := hI.at0 (List.getElem?_eq_getElem (show 0 < c.length by omega))
    obtain ⟨hbn, hgs⟩ := hgr g hb hg2 rfl
    refine bback1_in F n h7 hro hn l Bs n₀ S g cap c hreach hbn hgs hBr J Jx (fun pre x W' hJ _ _ hlt => hY pre x W' hJ hlt) W hc' hBs (fun k x hk => ?_) h0
    obtain ⟨g', e, -, -, -, hr⟩ := hI.at0 hk
    injection e with e
    injection e with e1
    subst e1
    exact (hW.cell (p := ⟨g, k, none⟩) (by show g < w.heap.size; omega)).trans hr
end Go.Proofs.YtdcebdleneieeaaDoor
