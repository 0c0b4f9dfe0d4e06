/-
  Several texts in one (ProofPure, ProofUp, ProofParts, ProofMem, ProofFold, ProofBack).
-/
import Derived.Test.YtollcdalokhjaaaDoorMPathA
import Derived.Test.YtollcdalokhjaaaDoorMPathB
import Derived.Deep.DeepCutAuto
import Derived.Laws.EntriesVeiled
import Derived.Great.BuildSlice
import Derived.Lib.Hide
import Derived.Test.YtollcdalokhjaaaDoorMSeq
/-! ## Plain mathematics of what paths and links come to without the tree. No walk, no program. -/
namespace Go.Proofs.YtollcdalokhjaaaDoor.Tree
open Go

/-! ### The parts into which links go -/
/-- Of each part into which links from m on to n go, from all inwards: is it the others? -/
def inwN : Nat → Nat → Nat → List Bool
  | 0, _, _ => []
  | f + 1, m, n => if m = n then [] else if m ≤ split n then false :: inwN f m (split n) else true :: inwN f (m - split n) (n - split n)
def inw (m n : Nat) : List Bool := inwN n m n
theorem inwN_eq (f : Nat) : ∀ (g m n : Nat), 1 ≤ m → m ≤ n → n ≤ f → n ≤ g → inwN f m n = inwN g m n := by
  induction f with
  | zero => intro g m n h1 hm h _; omega
  | succ f ih =>
    intro g m n h1 hm h hg
    cases g with
    | zero => omega
    | succ g =>
      rw [inwN, inwN]
      by_cases he : m = n
      · rw [if_pos he, if_pos he]
      · have hlt := split_lt (n := n) (by omega)
        have hp := split_pos (n := n) (by omega)
        rw [if_neg he, if_neg he]
        by_cases hk : m ≤ split n
        · rw [if_pos hk, if_pos hk, ih g m (split n) h1 (by omega) (by omega) (by omega)]
        · rw [if_neg hk, if_neg hk, ih g _ (n - split n) (by omega) (by omega) (by omega) (by omega)]
theorem inw_end (n : Nat) : inw n n = [] := by
  unfold inw
  cases n with
  | zero => rfl
  | succ f => rw [inwN, if_pos rfl]
theorem inw_left {m n : Nat} (h : 1 ≤ m) (hm : m < n) (hk : m ≤ split n) : inw m n = false :: inw m (split n) := by
  have hlt := split_lt (n := n) (by omega)
  have hp := split_pos (n := n) (by omega)
  unfold inw
  obtain ⟨f, rfl⟩ : ∃ f, n = f + 1 := ⟨n - 1, by omega⟩
  conv => lhs; rw [inwN]
  rw [if_neg (by omega), if_pos hk, inwN_eq f _ m _ h hk (by omega) (Nat.le_refl _)]
theorem inw_right {m n : Nat} (hm : m < n) (hk : ¬ m ≤ split n) : inw m n = true :: inw (m - split n) (n - split n) := by
  have hlt := split_lt (n := n) (by omega)
  have hp := split_pos (n := n) (by omega)
  unfold inw
  obtain ⟨f, rfl⟩ : ∃ f, n = f + 1 := ⟨n - 1, by omega⟩
  conv => lhs; rw [inwN]
  rw [if_neg (by omega), if_neg hk, inwN_eq f _ _ _ (by omega) (by omega) (by omega) (Nat.le_refl _)]
theorem inw_le (b : Nat) : ∀ (m n : Nat), 1 ≤ m → m ≤ n → n ≤ 2 ^ b → (inw m n).length ≤ b := by
  induction b with
  | zero =>
    intro m n h1 hm h
    obtain rfl : m = n := by simp at h; omega
    rw [inw_end]; exact Nat.le_refl _
  | succ b ih =>
    intro m n h1 hm h
    by_cases he : m = n
    · subst he
      rw [inw_end]; exact Nat.zero_le _
    · have hlt := split_lt (n := n) (by omega)
      have hp := split_pos (n := n) (by omega)
      have hh := split_half (n := n) (by omega)
      have hk2 : split n ≤ 2 ^ b := by
        rw [split_big (by omega)]
        have h3 : n - 1 < 2 ^ (b + 1) := by have := Nat.two_pow_pos (b + 1); omega
        exact Nat.pow_le_pow_right (by decide) (by have := (Nat.log2_lt (by omega)).2 h3; omega)
      by_cases hk : m ≤ split n
      · rw [inw_left h1 (by omega) hk, List.length_cons]
        have := ih m (split n) h1 hk hk2
        omega
      · rw [inw_right (by omega) hk, List.length_cons]
        have := ih (m - split n) (n - split n) (by omega) (by omega) (by omega)
        omega
/-- Is the first of the links none of the parts' own, but what both trees have? -/
def lead (m n : Nat) (whole : Bool) : Bool := !whole || (inw m n).contains true
theorem lead_left {m n : Nat} {b : Bool} (h : 1 ≤ m) (hm : m < n) (hk : m ≤ split n) : lead m n b = lead m (split n) b := by
  unfold lead; rw [inw_left h hm hk]; simp
theorem lead_right {m n : Nat} {b : Bool} (hm : m < n) (hk : ¬ m ≤ split n) : lead m n b = true := by
  unfold lead; rw [inw_right hm hk]; simp
theorem lead_false (m n : Nat) : lead m n false = true := rfl
theorem llong_inw (f : Nat) : ∀ (m n : Nat) (b : Bool), 1 ≤ m → m ≤ n → n ≤ f → llong m n b = (inw m n).length + (if lead m n b then 1 else 0) := by
  induction f with
  | zero => intro m n b h1 hm h; omega
  | succ f ih =>
    intro m n b h1 hm h
    by_cases he : m = n
    · subst he
      rw [llong_end h1]; unfold lead; rw [inw_end]
      cases b <;> rfl
    · have hlt := split_lt (n := n) (by omega)
      have hp := split_pos (n := n) (by omega)
      by_cases hk : m ≤ split n
      · rw [llong_left h1 (by omega) hk, lead_left h1 (by omega) hk, inw_left h1 (by omega) hk, ih m (split n) b h1 hk (by omega), List.length_cons]
        omega
      · rw [llong_right (by omega) hk, lead_right (by omega) hk, inw_right (by omega) hk, ih _ (n - split n) false (by omega) (by omega) (by omega), List.length_cons, lead_false]
        simp only [if_true]

/-! ### What links come to -/
/-- Two hashes go up by what stands beside them, part by part outwards. -/
def up2 : H × H → List H → List Bool → H × H
  | s, p :: ps, t :: ts => up2 (if t then node p s.1 else s.1, step s.2 p t) ps ts
  | s, _, _ => s
theorem up2_nil (s : H × H) (ps : List H) : up2 s ps [] = s := by cases ps <;> rfl
theorem up2_cons (s : H × H) (p : H) (ps : List H) (t : Bool) (ts : List Bool) : up2 s (p :: ps) (t :: ts) = up2 (if t then node p s.1 else s.1, step s.2 p t) ps ts := rfl
theorem up2_snoc : ∀ (ts : List Bool) (ps : List H) (s : H × H) (t : Bool) (p : H), ps[ts.length]? = some p →
    up2 s ps (ts ++ [t]) = (if t then node p (up2 s ps ts).1 else (up2 s ps ts).1, step (up2 s ps ts).2 p t)
  | [], q :: ps, s, t, p, h => by
    obtain rfl : q = p := by simpa using h
    rw [List.nil_append, up2_cons, up2_nil, up2_nil]
  | t' :: ts, q :: ps, s, t, p, h => by
    rw [List.cons_append, up2_cons, up2_cons]
    exact up2_snoc ts ps _ t p (by simpa using h)
  | _, [], _, _, _, h => by simp at h
/-- The two hashes that links come to. -/
def boths (a : H) (m n : Nat) (whole : Bool) (L : List H) : H × H :=
  if lead m n whole then up2 (L.headD [], L.headD []) (L.drop 1) (inw m n).reverse else up2 (a, a) L (inw m n).reverse
theorem boths_end (a : H) {n : Nat} (b : Bool) (L : List H) : boths a n n b L = if b then (a, a) else (L.headD [], L.headD []) := by
  unfold boths lead
  rw [inw_end]
  cases b with
  | true => exact up2_nil _ _
  | false => exact up2_nil _ _
theorem lead_drop (L : List H) (c j : Nat) (p : H) (h : L[j + c]? = some p) : (L.drop c)[j]? = some p := by
  rw [List.getElem?_drop, Nat.add_comm]; exact h
theorem boths_left {a : H} {m n : Nat} {b : Bool} {L : List H} {p : H} (h : 1 ≤ m) (hm : m < n) (hk : m ≤ split n) (hp : L[llong m (split n) b]? = some p) :
    boths a m n b L = ((boths a m (split n) b L).1, node (boths a m (split n) b L).2 p) := by
  rw [llong_inw _ m (split n) b h hk (Nat.le_refl _)] at hp
  unfold boths
  rw [lead_left h hm hk, inw_left h hm hk, List.reverse_cons]
  cases hl : lead m (split n) b with
  | true =>
    rw [hl] at hp
    simp only [if_true] at hp ⊢
    rw [up2_snoc _ _ _ _ p (by rw [List.length_reverse]; exact lead_drop L 1 _ p hp)]
    rfl
  | false =>
    rw [hl] at hp
    rw [if_neg (by decide), if_neg (by decide)]
    rw [up2_snoc _ _ _ _ p (by rw [List.length_reverse]; exact hp)]
    rfl
theorem boths_right {a : H} {m n : Nat} {b : Bool} {L : List H} {p : H} (hm : m < n) (hk : ¬ m ≤ split n) (hp : L[llong (m - split n) (n - split n) false]? = some p) :
    boths a m n b L = (node p (boths a (m - split n) (n - split n) false L).1, node p (boths a (m - split n) (n - split n) false L).2) := by
  have hs := split_pos (n := n) (by omega)
  rw [llong_inw _ (m - split n) (n - split n) false (by omega) (by omega) (Nat.le_refl _), lead_false] at hp
  unfold boths
  rw [lead_right hm hk, inw_right hm hk, List.reverse_cons, lead_false]
  simp only [if_true] at hp ⊢
  rw [up2_snoc _ _ _ _ p (by rw [List.length_reverse]; exact lead_drop L 1 _ p hp)]
  rfl
theorem split_same {m n : Nat} (hm : m ≤ n) (h2 : 2 ≤ n) (hk : ¬ m ≤ split n) : split m = split n := by
  have hh := split_half h2
  rw [split_big h2] at hk hh ⊢
  exact split_of (by omega) (by rw [Nat.pow_succ]; omega)
/-- Links come to both roots. -/
theorem links_both (f : Nat) : ∀ (l : List H) (m : Nat) (b : Bool) (a : H) (ex : List H), 1 ≤ m → m ≤ l.length → l.length ≤ f → (b = true → a = root (l.take m)) →
    boths a m l.length b (links l m b ++ ex) = (root (l.take m), root l) := by
  induction f with
  | zero => intro l m b a ex h1 hm h; omega
  | succ f ih =>
    intro l m b a ex h1 hm h hb
    by_cases he : m = l.length
    · subst he
      rw [List.take_length] at hb ⊢
      rw [boths_end, links_end h1]
      cases b with
      | true => rw [hb rfl]; rfl
      | false => rfl
    · have hlt := split_lt (n := l.length) (by omega)
      have hp := split_pos (n := l.length) (by omega)
      have e1 := take_split (l := l) (by omega)
      have e2 := drop_split l
      rw [root_go l (by omega)]
      by_cases hk : m ≤ split l.length
      · have ht : (l.take (split l.length)).take m = l.take m := by rw [List.take_take, Nat.min_eq_left hk]
        have hi := ih (l.take (split l.length)) m b a ([root (l.drop (split l.length))] ++ ex) h1 (by omega) (by omega) (by rw [ht]; exact hb)
        have hl := links_length _ (l.take (split l.length)) m b h1 (by omega) (Nat.le_refl _)
        rw [e1, ht] at hi
        rw [e1] at hl
        rw [links_left h1 (by omega) hk, List.append_assoc]
        rw [boths_left (p := root (l.drop (split l.length))) h1 (by omega) hk (by rw [← hl, List.getElem?_append_right (Nat.le_refl _), Nat.sub_self]; rfl), hi]
      · have ht : root (l.take m) = node (root (l.take (split l.length))) (root ((l.drop (split l.length)).take (m - split l.length))) := by
          have e3 : (l.take m).length = m := by rw [List.length_take]; omega
          rw [root_go (l.take m) (by omega), e3, split_same (n := l.length) (by omega) (by omega) hk, List.take_take, Nat.min_eq_left (by omega), List.drop_take]
        have hi := ih (l.drop (split l.length)) (m - split l.length) false a ([root (l.take (split l.length))] ++ ex) (by omega) (by omega) (by omega) (by intro h; cases h)
        have hl := links_length _ (l.drop (split l.length)) (m - split l.length) false (by omega) (by omega) (Nat.le_refl _)
        rw [e2] at hi hl
        rw [links_right (by omega) hk, List.append_assoc, ht]
        rw [boths_right (p := root (l.take (split l.length))) (by omega) hk (by rw [← hl, List.getElem?_append_right (Nat.le_refl _), Nat.sub_self]; rfl), hi]
theorem links_goes (l : List H) (m : Nat) (h1 : 1 ≤ m) (hm : m ≤ l.length) : boths (root (l.take m)) m l.length true (links l m true) = (root (l.take m), root l) := by
  have := links_both _ l m true (root (l.take m)) [] h1 hm (Nat.le_refl _) (fun _ => rfl)
  rwa [List.append_nil] at this
theorem fold_length : ∀ (x : H) (p : List H) (t : List Bool), x.length = 32 → (fold x p t).length = 32
  | _, [], _, h => by unfold fold; exact h
  | _, _ :: _, [], h => h
  | x, s :: p, b :: t, _ => by
    show (fold (step x s b) p t).length = 32
    exact fold_length _ p t (by cases b <;> exact node_length _ _)
theorem step_length (x s : H) (b : Bool) : (step x s b).length = 32 := by cases b <;> exact node_length _ _
theorem up2_length : ∀ (s : H × H) (p : List H) (t : List Bool), s.1.length = 32 → s.2.length = 32 → (up2 s p t).1.length = 32 ∧ (up2 s p t).2.length = 32
  | _, [], _, h1, h2 => by unfold up2; exact ⟨h1, h2⟩
  | _, _ :: _, [], h1, h2 => ⟨h1, h2⟩
  | s, q :: p, b :: t, h1, _ => by
    rw [up2_cons]
    exact up2_length _ p t (by cases b; exact h1; exact node_length _ _) (step_length _ _ _)
theorem boths_length (a : H) (m n : Nat) (b : Bool) (L : List H) (ha : a.length = 32) (hL : ∀ x ∈ L, x.length = 32) (hl : lead m n b = true → L ≠ []) :
    (boths a m n b L).1.length = 32 ∧ (boths a m n b L).2.length = 32 := by
  unfold boths
  cases h : lead m n b with
  | true =>
    match L, hL, hl h with
    | x :: L, hL, _ => exact up2_length _ _ _ (hL x (by simp)) (hL x (by simp))
    | [], _, hn => exact absurd rfl hn
  | false => exact up2_length _ _ _ ha ha
theorem pre_inj {a b c d : H} (ha : a.length = 32) (hc : c.length = 32) (h : pre a b = pre c d) : a = c ∧ b = d := by
  unfold pre at h
  injection h with _ h
  exact List.append_inj h (by rw [ha, hc])
/-- What is hashed at a place of a way up. -/
def preS (x s : H) (left : Bool) : List UInt8 := if left then pre s x else pre x s
theorem step_pre (x s : H) (b : Bool) : step x s b = Sha.digest (preS x s b) := by cases b <;> rfl
theorem preS_inj {x s y u : H} {b : Bool} (hx : x.length = 32) (hy : y.length = 32) (hs : s.length = 32) (hu : u.length = 32) (h : preS x s b = preS y u b) : x = y ∧ s = u := by
  cases b with
  | true => exact (pre_inj hs hu h).symm
  | false => exact pre_inj hx hy h
end Go.Proofs.YtollcdalokhjaaaDoor.Tree
/-! ## Package proof: the closure that goes up (beside), parts. -/
namespace Go.Proofs.YtollcdalokhjaaaDoor
open Go.RowKit

def UpAt (w : World) (ca cx : Nat) (x : List UInt8) (left : Bool) : Prop :=
  w.heap[ca]? = some (.cells #[.bool left] 4 (0, 0)) ∧ w.heap[cx]? = some (.cells (x.map u8V).toArray 33 (0, 0))
theorem UpAt.lt {w : World} {ca cx : Nat} {x : List UInt8} {left : Bool} (h : UpAt w ca cx x left) : ca < w.heap.size ∧ cx < w.heap.size := ⟨(Array.getElem?_eq_some_iff.1 h.1).1, (Array.getElem?_eq_some_iff.1 h.2).1⟩
theorem UpAt.old {w w' : World} {ca cx : Nat} {x : List UInt8} {left : Bool} (h : UpAt w ca cx x left) (hb : Below w.heap.size w w') : UpAt w' ca cx x left :=
  ⟨(hb.block _ h.lt.1).trans h.1, (hb.block _ h.lt.2).trans h.2⟩
theorem UpAt.only {w w' : World} {ca cx p : Nat} {x : List UInt8} {left : Bool} (h : UpAt w ca cx x left) (hb : Only p w w') (h1 : ca ≠ p) (h2 : cx ≠ p) : UpAt w' ca cx x left :=
  ⟨(hb.block _ h.lt.1 h1).trans h.1, (hb.block _ h.lt.2 h2).trans h.2⟩
end Go.Proofs.YtollcdalokhjaaaDoor
/-! ## Package proof: parts; the library's slices.Contains and slices.Index over booleans. -/
namespace Go.Proofs.YtollcdalokhjaaaDoor
open Go.RowKit

def PPartRel (B M N : Nat) (w : World) (s0 s1 s5 : Value) (wr : World) : Prop :=
  ∃ (m n : Nat) (D : List Bool), s0 = .int .i64 (m : Int) ∧ s1 = .int .i64 (n : Int) ∧ 1 ≤ m ∧ m ≤ n ∧ n ≤ 1099511627776 ∧ Tree.inw M N = D ++ Tree.inw m n ∧ OwnB B wr s5 D ∧ Below B w wr
theorem inw_40 (m n : Nat) (h1 : 1 ≤ m) (hm : m ≤ n) (h : n ≤ 1099511627776) : (Tree.inw m n).length ≤ 40 := Tree.inw_le 40 m n h1 hm (Nat.le_trans h (by decide))
def IndRel (l : List Bool) (s8 : Value) : Prop := ∃ i : Nat, s8 = .int .i64 (i : Int) ∧ i ≤ l.length ∧ ∀ j, j < i → l[j]? = some false
end Go.Proofs.YtollcdalokhjaaaDoor
/-! ## Package proof: hashes in variables, results in memory beside others, rows of booleans. -/
namespace Go.Proofs.YtollcdalokhjaaaDoor
open Go.RowKit

theorem sum_thereP {w : World} {q : Nat} {x y : List UInt8} (h : w.heap[q]? = some (.cells (x.map u8V).toArray 33 (0, 0))) (hx : x.length = 32) (hy : y.length = 32) : w.there q 0 (y.map u8V).toArray.size := by
  rw [show (y.map u8V).toArray.size = 32 from (List.size_toArray).trans (by rw [List.length_map, hy])]; exact there_of h (by simp [hx])
theorem set_sumP (w : World) (q : Nat) (x y : List UInt8) (hx : x.length = 32) (hy : y.length = 32) (h : w.heap[q]? = some (.cells (x.map u8V).toArray 33 (0, 0))) : (w.setCells q 0 (y.map u8V)).heap[q]? = some (.cells (y.map u8V).toArray 33 (0, 0)) := by
  have := heap_setCells q 33 (y.map u8V) 0 (x.map u8V) w (by simp [hx, hy]) h
  rw [this, List.take_zero, List.nil_append, List.drop_eq_nil_of_le (by simp [hx, hy]), List.append_nil]
theorem load_sumP {w : World} {g o : Nat} {x : List UInt8} (hx : x.length = 32) (h : w.rangeAt g o (x.map u8V)) : (Instr.loadAt 33 (.pointer (some ⟨g, o, none⟩))).run Tryd.prog w = .ok (sumV x) w :=
  run_loadAt_mid _ _ _ _ _ _ h Tryd.underlying33 rfl (sum_info' hx)
theorem sum_oneP (x : List UInt8) : ((x.map u8V).toArray : Array Value).all (·.oneCell') = true := sum_one x
/-- Results: a hash that lies in memory, and a slot. -/
theorem results_ct {fn : Func} {t u : Tmp} {ty : TypeId} (h : fn.results = #[.cell t ty, .tmp u]) (tmps : Array Value) (P : Program) (w : World) {b : Nat} {cs : List Value} {d : TypeDesc} (ht : tmps.getD t undef = .pointer (some ⟨b, 0, none⟩)) (hc : w.rangeAt b 0 cs)
    (hu : P.underlying ty = some d) (hd : d.isRow = true) (hi : (P.info? ty).map (·.size) = some cs.length) : (results fn tmps).run P w = .ok (.tuple #[.agg cs.toArray, tmps.getD u undef]) w := by
  have := run_loadVar_mid w b 0 ty cs d hc hu hd hi
  rw [Array.getD_eq_getD_getElem?] at ht
  simp [results, h, ht, asAddr, this, Result.andThen]
/-- Results: two hashes that lie in memory, and a slot. -/
theorem results_cct {fn : Func} {t t' u : Tmp} {ty : TypeId} (h : fn.results = #[.cell t ty, .cell t' ty, .tmp u]) (tmps : Array Value) (P : Program) (w : World) {b b' : Nat} {cs cs' : List Value} {d : TypeDesc} (ht : tmps.getD t undef = .pointer (some ⟨b, 0, none⟩)) (ht' : tmps.getD t' undef = .pointer (some ⟨b', 0, none⟩)) (hc : w.rangeAt b 0 cs) (hc' : w.rangeAt b' 0 cs')
    (hu : P.underlying ty = some d) (hd : d.isRow = true) (hi : (P.info? ty).map (·.size) = some cs.length) (hi' : (P.info? ty).map (·.size) = some cs'.length) : (results fn tmps).run P w = .ok (.tuple #[.agg cs.toArray, .agg cs'.toArray, tmps.getD u undef]) w := by
  have := run_loadVar_mid w b 0 ty cs d hc hu hd hi
  have h2 := run_loadVar_mid w b' 0 ty cs' d hc' hu hd hi'
  rw [Array.getD_eq_getD_getElem?] at ht ht'
  simp [results, h, ht, ht', asAddr, this, h2, Result.andThen]
theorem OwnB.get {B : Nat} {w : World} {v : Value} {l : List Bool} (h : OwnB B w v l) {k : Nat} {x : Bool} (hx : l[k]? = some x) : ∃ g cap, v = .slice (some ⟨g, 0, none⟩) l.length cap ∧ B ≤ g ∧ g < w.heap.size ∧ w.cell? ⟨g, k, none⟩ = some (.bool x) := by
  have h' := h
  obtain ⟨_, h | ⟨g, cap, cur, rfl, hbg, hg, hnc, hcm, hcs, htake⟩⟩ := h
  · obtain ⟨-, h0⟩ := h
    have := (List.getElem?_eq_some_iff.1 hx).1
    omega
  · refine ⟨g, cap, rfl, hbg, (Array.getElem?_eq_some_iff.1 hg).1, ?_⟩
    have := World.ownsRow.cells h' (g := g) rfl _ _ (bvs_get hx)
    rw [Addr.add_mid, Nat.zero_add] at this
    exact this
theorem OwnB.at0 {B : Nat} {w : World} {a : Option Addr} {n cap : Nat} {l : List Bool} (h : OwnB B w (.slice a n cap) l) {k : Nat} {x : Bool} (hx : l[k]? = some x) : ∃ g, a = some ⟨g, 0, none⟩ ∧ B ≤ g ∧ g < w.heap.size ∧ n = l.length ∧ w.cell? ⟨g, k, none⟩ = some (.bool x) := by
  obtain ⟨g, cap', e, h1, h2, h3⟩ := h.get hx
  injection e with e1 e2 e3
  exact ⟨g, e1, h1, h2, e2, h3⟩
theorem Sums.at0 {w : World} {a : Option Addr} {n cap : Nat} {l : Hs} (h : Sums w (.slice a n cap) l) {k : Nat} {x : List UInt8} (hx : l[k]? = some x) : ∃ b off, a = some ⟨b, off, none⟩ ∧ b < w.heap.size ∧ n = l.length ∧ w.rangeAt b (off + k * 32) (x.map u8V) := by
  obtain ⟨hk, rfl⟩ := List.getElem?_eq_some_iff.1 hx
  exact h.at k hk
end Go.Proofs.YtollcdalokhjaaaDoor
/-! ## Package proof: Fold. -/
namespace Go.Proofs.YtollcdalokhjaaaDoor
open Go.RowKit

theorem built_zeroP : Tryd.prog.built 33 [] = some ((List.replicate 32 (0 : UInt8)).map u8V).toArray := by kernel_rfl
/-- Has the path as many hashes as it should? -/
def foldLen (m n : Int) (P : Hs) : Bool := decide ((P.length : Int) = if okP m n then ((Tree.long m.toNat n.toNat : Nat) : Int) else -1)
/-- What Fold tells. -/
def foldZ (x : List UInt8) (m n : Int) (P : Hs) : List UInt8 × Bool := if foldLen m n P then (Tree.fold x P (turnsZ m n), true) else (List.replicate 32 0, false)
theorem foldLen_t {m n : Int} {P : Hs} (h : foldLen m n P = true) : okP m n = true ∧ P.length = Tree.long m.toNat n.toNat := by
  unfold foldLen at h
  rw [decide_eq_true_eq] at h
  cases e : okP m n with
  | true => rw [e, if_pos rfl] at h; exact ⟨rfl, by omega⟩
  | false => rw [e, if_neg (by decide)] at h; omega
theorem foldZ_length (x : List UInt8) (m n : Int) (P : Hs) (hx : x.length = 32) : (foldZ x m n P).1.length = 32 := by
  unfold foldZ
  split
  · exact Tree.fold_length _ _ _ hx
  · simp
/-- Ahead of hash i: what was come to, and what is left of the path, come to D. -/
def FoRel (P : Hs) (T : List Bool) (D : List UInt8) (q : Nat) (w0 : World) (s24 : Value) (wr : World) : Prop :=
  ∃ (i : Nat) (X : List UInt8), s24 = .int .i64 (i : Int) ∧ i ≤ T.length ∧ X.length = 32 ∧ Tree.fold X (P.drop i) (T.drop i) = D ∧ Only q w0 wr ∧ wr.heap[q]? = some (.cells (X.map u8V).toArray 33 (0, 0))
theorem foldP_cons (X p : List UInt8) (P : Hs) (b : Bool) (T : List Bool) : Tree.fold X (p :: P) (b :: T) = Tree.fold (Tree.step X p b) P T := rfl
theorem foldP_nil (X : List UInt8) (T : List Bool) : Tree.fold X [] T = X := by cases T <;> rfl
end Go.Proofs.YtollcdalokhjaaaDoor
/-! ## The library's slices.Backward over booleans: what it hands to the loop's body, one behind the other. -/
namespace Go.Proofs.YtollcdalokhjaaaDoor
open Go.RowKit Go.Shelf

attribute [local go_sem] Oper.semAt_some

/-- What has come when j rounds are over: the last j of them, the last one first. -/
def dnB (c : List Bool) (j : Nat) : List (Nat × Bool) := (List.range j).map fun i => (c.length - 1 - i, c.getD (c.length - 1 - i) false)
theorem dnB_succ (c : List Bool) (j : Nat) : dnB c (j + 1) = dnB c j ++ [(c.length - 1 - j, c.getD (c.length - 1 - j) false)] := by simp [dnB, List.range_succ]
theorem dnB_length (c : List Bool) (j : Nat) : (dnB c j).length = j := by simp [dnB]
theorem dnB_rev (c : List Bool) (j : Nat) (hj : j ≤ c.length) : (dnB c j).map (·.2) = c.reverse.take j := by
  apply List.ext_getElem?
  intro i
  by_cases hi : i < j
  · have h1 : i < c.length := by omega
    simp only [dnB, List.map_map, List.getElem?_map, List.getElem?_range hi, Option.map_some, Function.comp_def, List.getElem?_take_of_lt hi]
    rw [List.getElem?_reverse h1, List.getD_eq_getElem?_getD, List.getElem?_eq_getElem (by omega)]
    rfl
  · rw [List.getElem?_eq_none (by simp [dnB]; omega), List.getElem?_eq_none (by simp; omega)]

/-- The next one that comes. -/
def nxB (c : List Bool) (pre : List (Nat × Bool)) (x : Nat × Bool) : Prop := pre = dnB c pre.length ∧ x = (c.length - 1 - pre.length, c.getD (c.length - 1 - pre.length) false)
end Go.Proofs.YtollcdalokhjaaaDoor
