/-
  Several texts in one (LeafPure, SumRow, SumBuild, LeafSplit, LeafRows).
-/
import Derived.Test.YtollcdalokhjaaaDoorMShaA
import Derived.Test.YtollcdalokhjaaaDoorMGen
import Derived.Test.YtollcdalokhjaaaDoorMArg
import Derived.Laws.OwnMore
import Derived.Deep.AppendLies
import Derived.OwnWalk
import Derived.ArgAppend
import Derived.Great.BuildSlice
import Derived.Lib.Hide
import Derived.Lib.AppendZeros
import Derived.Lib.SliceRun
/-! ## Plain mathematics of trees of hashes: leaves, nodes, the part that is split off, roots, rows. No walk, no program. -/
namespace Go.Proofs.YtollcdalokhjaaaDoor.Tree
open Go

abbrev H := List UInt8
def leafH (s : List UInt8) : H := Sha.digest (0 :: s)
def pre (a b : H) : List UInt8 := 1 :: (a ++ b)
def node (a b : H) : H := Sha.digest (pre a b)
def empty : H := Sha.digest []
theorem leafH_length (s : List UInt8) : (leafH s).length = 32 := Sha.digest_length _
theorem node_length (a b : H) : (node a b).length = 32 := Sha.digest_length _
theorem empty_length : empty.length = 32 := Sha.digest_length _

/-- The greatest power of two below n; 0, if there is none. -/
def split (n : Nat) : Nat := if n < 2 then 0 else 2 ^ Nat.log2 (n - 1)
theorem split_small {n : Nat} (h : n < 2) : split n = 0 := if_pos h
theorem split_big {n : Nat} (h : 2 ≤ n) : split n = 2 ^ Nat.log2 (n - 1) := if_neg (by omega)
theorem split_lt {n : Nat} (h : 2 ≤ n) : split n < n := by
  rw [split_big h]
  have := Nat.log2_self_le (n := n - 1) (by omega)
  omega
theorem split_half {n : Nat} (h : 2 ≤ n) : n ≤ 2 * split n := by
  rw [split_big h]
  have : n - 1 < 2 ^ (Nat.log2 (n - 1) + 1) := Nat.lt_log2_self
  rw [Nat.pow_succ] at this
  omega
theorem split_pos {n : Nat} (h : 2 ≤ n) : 0 < split n := by rw [split_big h]; exact Nat.two_pow_pos _
/-- A power of two below n, whose double is not, is the one. -/
theorem split_of {n i : Nat} (h1 : 2 ^ i < n) (h2 : n ≤ 2 ^ (i + 1)) : split n = 2 ^ i := by
  have hp := Nat.two_pow_pos i
  rw [split_big (by omega)]
  congr 1
  exact (Nat.log2_eq_iff (by omega)).2 ⟨by omega, by omega⟩
theorem split_pow (i : Nat) : split (2 ^ (i + 1)) = 2 ^ i := split_of (Nat.pow_lt_pow_right (by decide) (by omega)) (Nat.le_refl _)
theorem split_up {n : Nat} (h : 3 ≤ n) : split n = 2 * split ((n + 1) / 2) := by
  have h1 := split_lt (n := (n + 1) / 2) (by omega)
  have h2 := split_half (n := (n + 1) / 2) (by omega)
  rw [split_big (n := (n + 1) / 2) (by omega)] at h1 h2 ⊢
  rw [Nat.mul_comm, ← Nat.pow_succ]
  apply split_of
  · rw [Nat.pow_succ]; omega
  · rw [Nat.pow_succ, Nat.pow_succ]; omega
theorem split_even {n : Nat} (h : 3 ≤ n) : ∃ j, split n = 2 * j ∧ 0 < j := ⟨_, split_up h, split_pos (by omega)⟩

/-! ### Roots -/
def rootN : Nat → List H → H
  | _, [] => empty
  | _, [x] => x
  | 0, _ => empty
  | n + 1, l => node (rootN n (l.take (split l.length))) (rootN n (l.drop (split l.length)))
def root (l : List H) : H := rootN l.length l
theorem root_nil : root [] = empty := rfl
theorem root_one (x : H) : root [x] = x := rfl
theorem rootN_go (n : Nat) (l : List H) (h : 2 ≤ l.length) : rootN (n + 1) l = node (rootN n (l.take (split l.length))) (rootN n (l.drop (split l.length))) := by
  match l, h with
  | a :: b :: r, _ => rfl
theorem rootN_eq (l : List H) : ∀ n, l.length ≤ n → rootN n l = root l := by
  suffices h : ∀ k (l : List H), l.length ≤ k → ∀ n m, l.length ≤ n → l.length ≤ m → rootN n l = rootN m l from fun n hn => h _ l (Nat.le_refl _) n _ hn (Nat.le_refl _)
  intro k
  induction k with
  | zero =>
    intro l h n m _ _
    obtain rfl : l = [] := List.eq_nil_of_length_eq_zero (by omega)
    cases n <;> cases m <;> rfl
  | succ k ih =>
    intro l h n m hn hm
    match l, h, hn, hm with
    | [], _, _, _ => cases n <;> cases m <;> rfl
    | [x], _, _, _ => cases n <;> cases m <;> rfl
    | a :: b :: r, h, hn, hm =>
      obtain ⟨l, hl⟩ : ∃ l, l = a :: b :: r := ⟨_, rfl⟩
      rw [← hl] at h hn hm ⊢
      have h2 : 2 ≤ l.length := by rw [hl]; simp
      have hlt := split_lt h2
      have hp := split_pos h2
      match n, m, hn, hm with
      | n + 1, m + 1, hn, hm =>
        rw [rootN_go _ _ h2, rootN_go _ _ h2]
        have e1 : (l.take (split l.length)).length = split l.length := by rw [List.length_take]; omega
        have e2 : (l.drop (split l.length)).length = l.length - split l.length := List.length_drop
        rw [ih _ (by omega) n m (by omega) (by omega), ih (l.drop _) (by omega) n m (by omega) (by omega)]
      | 0, _, hn, _ => omega
      | _ + 1, 0, _, hm => omega
theorem root_go (l : List H) (h : 2 ≤ l.length) : root l = node (root (l.take (split l.length))) (root (l.drop (split l.length))) := by
  have hlt := split_lt h
  have hp := split_pos h
  have e1 : (l.take (split l.length)).length = split l.length := by rw [List.length_take]; omega
  have e2 : (l.drop (split l.length)).length = l.length - split l.length := List.length_drop
  rw [← rootN_eq l (l.length + 1) (by omega), rootN_go _ _ h, rootN_eq _ _ (by omega), rootN_eq _ _ (by omega)]
theorem root_length (l : List H) (h : ∀ x ∈ l, x.length = 32) : (root l).length = 32 := by
  match l, h with
  | [], _ => exact empty_length
  | [x], h => exact h x (by simp)
  | a :: b :: r, _ => rw [root_go _ (by simp)]; exact node_length _ _

/-! ### Rows -/
def up : List H → List H
  | [] => []
  | [x] => [x]
  | a :: b :: r => node a b :: up r
theorem up_length : ∀ l : List H, (up l).length = (l.length + 1) / 2
  | [] => by simp [up]
  | [_] => by simp [up]
  | a :: b :: r => by
    have := up_length r
    simp only [up, List.length_cons]
    omega
theorem up_all : ∀ (l : List H), (∀ x ∈ l, x.length = 32) → ∀ x ∈ up l, x.length = 32
  | [], _ => by simp [up]
  | [x], h => by simpa [up] using h
  | a :: b :: r, h => by
    intro x hx
    rcases List.mem_cons.1 hx with rfl | hx
    · exact node_length _ _
    · exact up_all r (fun y hy => h y (by simp [hy])) x hx
theorem up_append (j : Nat) : ∀ (l r : List H), l.length = 2 * j → up (l ++ r) = up l ++ up r := by
  induction j with
  | zero =>
    intro l r h
    obtain rfl : l = [] := List.eq_nil_of_length_eq_zero (by omega)
    rfl
  | succ j ih =>
    intro l r h
    match l, h with
    | a :: b :: l, h =>
      have := ih l r (by simp at h; omega)
      simp only [List.cons_append, up, this]
    | [], h => simp at h
    | [_], h => simp at h; omega
/-- The root of a row is that of the row above. -/
theorem root_up (n : Nat) : ∀ l : List H, l.length ≤ n → root (up l) = root l := by
  induction n with
  | zero =>
    intro l h
    obtain rfl : l = [] := List.eq_nil_of_length_eq_zero (by omega)
    rfl
  | succ n ih =>
    intro l h
    match l, h with
    | [], _ => rfl
    | [_], _ => rfl
    | [a, b], _ => rfl
    | a :: b :: c :: r, h =>
      obtain ⟨l, hl⟩ : ∃ l, l = a :: b :: c :: r := ⟨_, rfl⟩
      rw [← hl] at h ⊢
      have h3 : 3 ≤ l.length := by rw [hl]; simp
      obtain ⟨j, hj, hjp⟩ := split_even h3
      have hlt := split_lt (n := l.length) (by omega)
      have hsu := split_up h3
      have e1 : (l.take (split l.length)).length = split l.length := by rw [List.length_take]; omega
      have e2 : (l.drop (split l.length)).length = l.length - split l.length := List.length_drop
      have hu := up_append j (l.take (split l.length)) (l.drop (split l.length)) (by omega)
      rw [List.take_append_drop] at hu
      have hul := up_length l
      have hutl := up_length (l.take (split l.length))
      rw [root_go l (by omega), root_go (up l) (by omega), hul, show split ((l.length + 1) / 2) = (up (l.take (split l.length))).length by omega]
      rw [hu, List.take_left', List.drop_left', ih _ (by omega), ih _ (by omega)]
      · rfl
      · rfl

def levelsN : Nat → List H → List (List H)
  | 0, l => [l]
  | n + 1, l => if l.length ≤ 1 then [l] else l :: levelsN n (up l)
def levels (l : List H) : List (List H) := levelsN l.length l
theorem levels_small {l : List H} (h : l.length ≤ 1) : levels l = [l] := by
  unfold levels
  match l, h with
  | [], _ => rfl
  | [_], _ => rfl
theorem levelsN_eq (n : Nat) : ∀ (l : List H) (m : Nat), l.length ≤ n → l.length ≤ m → levelsN n l = levelsN m l := by
  induction n with
  | zero =>
    intro l m h hm
    obtain rfl : l = [] := List.eq_nil_of_length_eq_zero (by omega)
    cases m <;> rfl
  | succ n ih =>
    intro l m h hm
    match m, hm with
    | 0, hm =>
      obtain rfl : l = [] := List.eq_nil_of_length_eq_zero (by omega)
      rfl
    | m + 1, hm =>
      unfold levelsN
      by_cases h1 : l.length ≤ 1
      · rw [if_pos h1, if_pos h1]
      · rw [if_neg h1, if_neg h1]
        have := up_length l
        rw [ih (up l) m (by omega) (by omega)]
theorem levels_go {l : List H} (h : 2 ≤ l.length) : levels l = l :: levels (up l) := by
  have hu := up_length l
  unfold levels
  obtain ⟨n, hn⟩ : ∃ n, l.length = n + 1 := ⟨l.length - 1, by omega⟩
  rw [hn]
  conv => lhs; unfold levelsN
  rw [if_neg (by omega), levelsN_eq n (up l) (up l).length (by omega) (Nat.le_refl _)]
theorem levels_ne (l : List H) : levels l ≠ [] := by
  by_cases h : l.length ≤ 1
  · rw [levels_small h]; simp
  · rw [levels_go (by omega)]; simp
end Go.Proofs.YtollcdalokhjaaaDoor.Tree
/-! ## Slices of hashes in memory: what they read as, what append makes of them, how they are cut; such an argument. -/
namespace Go.Proofs.YtollcdalokhjaaaDoor
open Go.RowKit Go.ChangeShapes Go.WideShapes Go.ChangeAt

abbrev Hs := List (List UInt8)
def all32 (l : Hs) : Prop := ∀ x ∈ l, x.length = 32
theorem all32.take {l : Hs} (h : all32 l) (k : Nat) : all32 (l.take k) := fun x hx => h x (List.mem_of_mem_take hx)
theorem all32.drop {l : Hs} (h : all32 l) (k : Nat) : all32 (l.drop k) := fun x hx => h x (List.mem_of_mem_drop hx)
theorem all32.nil : all32 [] := fun x hx => by cases hx
theorem all32.append {l m : Hs} (h : all32 l) (k : all32 m) : all32 (l ++ m) := fun x hx => (List.mem_append.1 hx).elim (h x) (k x)
theorem all32.one {x : List UInt8} (h : x.length = 32) : all32 [x] := fun y hy => by simp at hy; rw [hy]; exact h
theorem info_sumR : (Tryd.prog.info? 33).map (fun i => (i.zero, i.size, i.bytes)) = some (some (.agg ((List.replicate 32 (0 : UInt8)).map u8V).toArray), 32, 32) := by kernel_rfl
def sc (l : Hs) : List Value := l.flatMap fun x => x.map u8V
theorem sc_cons (x : List UInt8) (t : Hs) : sc (x :: t) = x.map u8V ++ sc t := by simp [sc]
theorem sc_append (a b : Hs) : sc (a ++ b) = sc a ++ sc b := by simp [sc]
theorem sc_one' (x : List UInt8) : sc [x] = x.map u8V := by simp [sc]
theorem sc_length : ∀ l : Hs, all32 l → (sc l).length = l.length * 32
  | [], _ => rfl
  | x :: t, h => by rw [sc_cons, List.length_append, List.length_map, h x (by simp), sc_length t (fun y hy => h y (by simp [hy])), List.length_cons]; omega
theorem sc_get : ∀ (l : Hs) (_ : all32 l) (j : Nat) (hj : j < l.length) (i : Nat) (v : Value), (l[j].map u8V)[i]? = some v → (sc l)[j * 32 + i]? = some v
  | x :: t, h, 0, _, i, v => fun hv => by
    have hi : i < (x.map u8V).length := (List.getElem?_eq_some_iff.1 hv).1
    rw [sc_cons, Nat.zero_mul, Nat.zero_add, List.getElem?_append_left hi]; exact hv
  | x :: t, h, j + 1, hj, i, v => fun hv => by
    have := sc_get t (fun y hy => h y (by simp [hy])) j (by simpa using hj) i v (by simpa using hv)
    rw [sc_cons, List.getElem?_append_right (by rw [List.length_map, h x (by simp)]; omega), List.length_map, h x (by simp), show (j + 1) * 32 + i - 32 = j * 32 + i by omega]
    exact this
theorem sc_get' (l : Hs) (h : all32 l) (k : Nat) (v : Value) (hv : (sc l)[k]? = some v) : ∃ (hj : k / 32 < l.length), (l[k / 32].map u8V)[k % 32]? = some v := by
  have hk : k < l.length * 32 := by rw [← sc_length l h]; exact (List.getElem?_eq_some_iff.1 hv).1
  have hj : k / 32 < l.length := by omega
  refine ⟨hj, ?_⟩
  have hlt : k % 32 < (l[k / 32].map u8V).length := by rw [List.length_map, h _ (List.getElem_mem hj)]; omega
  obtain ⟨u, hu⟩ : ∃ u, (l[k / 32].map u8V)[k % 32]? = some u := ⟨_, List.getElem?_eq_getElem hlt⟩
  have := sc_get l h (k / 32) hj (k % 32) u hu
  rw [show k / 32 * 32 + k % 32 = k by omega, hv] at this
  rw [hu, ← this]
theorem sc_one (l : Hs) : ∀ u ∈ sc l, u.oneCell' = true := by
  intro u hu
  obtain ⟨x, _, hx⟩ := List.mem_flatMap.1 hu
  obtain ⟨y, _, rfl⟩ := List.mem_map.1 hx
  rfl
/-- v is a slice that reads as the hashes l. -/
def Sums (w : World) (v : Value) (l : Hs) : Prop :=
  ∃ a cap, v = .slice a l.length cap ∧ l.length ≤ cap ∧ cap ≤ 9223372036854775807 ∧ (a = none → cap = 0) ∧ all32 l ∧
    (0 < l.length → ∃ b off, a = some ⟨b, off, none⟩ ∧ b < w.heap.size ∧ ∀ j (hj : j < l.length), w.rangeAt b (off + j * 32) (l[j].map u8V))
theorem Sums.kept {w w' : World} {v : Value} {l : Hs} (h : Sums w v l) (hs : w.heap.size ≤ w'.heap.size) (k : ∀ b o, b < w.heap.size → w'.cell? ⟨b, o, none⟩ = w.cell? ⟨b, o, none⟩) : Sums w' v l := by
  obtain ⟨a, cap, rfl, h1, h2, h3, h4, h5⟩ := h
  refine ⟨a, cap, rfl, h1, h2, h3, h4, fun hn => ?_⟩
  obtain ⟨b, off, rfl, hb, hj⟩ := h5 hn
  exact ⟨b, off, rfl, Nat.lt_of_lt_of_le hb hs, fun j h i v hv => (k _ _ hb).trans (hj j h i v hv)⟩
theorem Sums.old {w w' : World} {v : Value} {l : Hs} (h : Sums w v l) (k : Below w.heap.size w w') : Sums w' v l := h.kept k.size fun _ _ hb => k.cell (by exact hb)
theorem Sums.drew {w : World} {v : Value} {l : Hs} (h : Sums w v l) : Sums w.drew v l := h
/-- The hashes lie below B: what turns behind it does not matter. -/
def SumsB (B : Nat) (w : World) (v : Value) (l : Hs) : Prop := Sums w v l ∧ ∀ b off n c, v = .slice (some ⟨b, off, none⟩) n c → 0 < l.length → b < B
theorem Sums.below {w : World} {v : Value} {l : Hs} (h : Sums w v l) : SumsB w.heap.size w v l := ⟨h, fun b off n c e hl => by
  obtain ⟨a, cap, rfl, h1, h2, h3, h4, h5⟩ := h
  obtain ⟨b', off', rfl, hb, hj⟩ := h5 hl
  injection e with e1 _ _
  injection e1 with e1
  injection e1 with e1 _ _
  omega⟩
theorem SumsB.keep {B : Nat} {w w' : World} {v : Value} {l : Hs} (h : SumsB B w v l) (k : Below B w w') : SumsB B w' v l := by
  obtain ⟨⟨a, cap, rfl, h1, h2, h3, h4, h5⟩, hB⟩ := h
  refine ⟨⟨a, cap, rfl, h1, h2, h3, h4, fun hn => ?_⟩, hB⟩
  obtain ⟨b, off, rfl, hb, hj⟩ := h5 hn
  have hlt := hB b off _ _ rfl hn
  exact ⟨b, off, rfl, Nat.lt_of_lt_of_le hb k.size, fun j h i v hv => (k.cell (p := ⟨b, _, none⟩) hlt).trans (hj j h i v hv)⟩
theorem SumsB.mono {B B' : Nat} {w : World} {v : Value} {l : Hs} (h : SumsB B w v l) (hB : B ≤ B') : SumsB B' w v l := ⟨h.1, fun b off n c e hl => Nat.lt_of_lt_of_le (h.2 b off n c e hl) hB⟩
theorem Sums.nil (w : World) : Sums w (.slice none 0 0) [] := ⟨none, 0, rfl, by simp, by decide, fun _ => rfl, all32.nil, fun h => absurd h (by simp)⟩
theorem Sums.mk {w : World} {l : Hs} {b off cap : Nat} (hl : l.length ≤ cap) (hc : cap ≤ 9223372036854775807) (hok : all32 l) (hb : b < w.heap.size)
    (hj : ∀ j (hj : j < l.length), w.rangeAt b (off + j * 32) (l[j].map u8V)) : Sums w (.slice (some ⟨b, off, none⟩) l.length cap) l :=
  ⟨_, cap, rfl, hl, hc, fun h => (by cases h), hok, fun _ => ⟨b, off, rfl, hb, hj⟩⟩
theorem Sums.ok {w : World} {v : Value} {l : Hs} (h : Sums w v l) : all32 l := by
  obtain ⟨a, cap, rfl, h1, h2, h3, h4, h5⟩ := h
  exact h4
theorem Sums.slice {w : World} {v : Value} {l : Hs} (h : Sums w v l) : ∃ a cap, v = .slice a l.length cap ∧ l.length ≤ cap ∧ cap ≤ 9223372036854775807 := by
  obtain ⟨a, cap, rfl, h1, h2, h3, h4, h5⟩ := h
  exact ⟨a, cap, rfl, h1, h2⟩
theorem Sums.len {w : World} {a : Option Addr} {n cap : Nat} {l : Hs} (h : Sums w (.slice a n cap) l) : n = l.length ∧ l.length ≤ cap ∧ cap ≤ 9223372036854775807 := by
  obtain ⟨a', cap', e, h1, h2, _⟩ := h
  injection e with e1 e2 e3
  subst e3
  exact ⟨e2, h1, h2⟩
/-- One of them: its cells. -/
theorem Sums.at {w : World} {a : Option Addr} {n cap : Nat} {l : Hs} (h : Sums w (.slice a n cap) l) (k : Nat) (hk : k < l.length) : ∃ b off, a = some ⟨b, off, none⟩ ∧ b < w.heap.size ∧ n = l.length ∧ w.rangeAt b (off + k * 32) (l[k].map u8V) := by
  obtain ⟨a', cap', e, h1, h2, h3, h4, h5⟩ := h
  injection e with e1 e2 e3
  subst e1 e2 e3
  obtain ⟨b, off, rfl, hb, hj⟩ := h5 (by omega)
  exact ⟨b, off, rfl, hb, rfl, hj k hk⟩
theorem Sums.news {w : World} {v : Value} {l : Hs} (h : Sums w v l) : (v = .slice none 0 0 ∧ l = []) ∨ ∃ a c, v = .slice (some a) l.length c ∧ ∀ j u, (sc l)[j]? = some u → w.cell? (a.add j) = some u := by
  obtain ⟨a, cap, rfl, h1, h2, h3, h4, h5⟩ := h
  cases a with
  | none =>
    obtain rfl := h3 rfl
    have hl : l.length = 0 := by omega
    exact .inl ⟨by rw [hl], List.eq_nil_of_length_eq_zero hl⟩
  | some a =>
    refine .inr ⟨a, cap, rfl, fun j u hu => ?_⟩
    obtain ⟨hj32, hg⟩ := sc_get' l h4 j u hu
    obtain ⟨b, off, e, hb, hj⟩ := h5 (by omega)
    injection e with e
    subst e
    have := hj (j / 32) hj32 (j % 32) u hg
    rw [Addr.add_mid, show off + j = off + j / 32 * 32 + j % 32 by omega]
    exact this
/-- A slice of the call's own. -/
def OwnS (B : Nat) (w : World) (v : Value) (l : Hs) : Prop := w.ownsRow B 33 32 v l.length (sc l) ∧ all32 l
theorem OwnS.sums {B : Nat} {w : World} {v : Value} {l : Hs} (h : OwnS B w v l) : Sums w v l := by
  obtain ⟨h, hok⟩ := h
  have h' := h
  obtain ⟨_, h | ⟨g, cap, cur, rfl, hbg, hg, hnc, hcm, hcs, htake⟩⟩ := h
  · obtain ⟨rfl, h0⟩ := h
    have := List.eq_nil_of_length_eq_zero h0
    subst this
    exact Sums.nil _
  · have hlt : g < w.heap.size := (Array.getElem?_eq_some_iff.1 hg).1
    refine Sums.mk hnc (by unfold maxLen at hcm; omega) hok hlt fun j hj i v hv => ?_
    have := h'.cells (g := g) rfl _ _ (sc_get l hok j hj i v hv)
    rw [Addr.add_mid] at this
    rw [Nat.add_assoc]
    exact this
theorem OwnS.nil (B : Nat) (w : World) : OwnS B w (.slice none 0 0) [] := ⟨World.ownsRow_nil _ _ _ _, all32.nil⟩
theorem OwnS.lower {B B' : Nat} {w : World} {v : Value} {l : Hs} (h : OwnS B w v l) (hB : B' ≤ B) : OwnS B' w v l := by
  obtain ⟨⟨h1, h2⟩, h3⟩ := h
  refine ⟨⟨h1, ?_⟩, h3⟩
  rcases h2 with e | ⟨g, cap, cur, e1, e2, r⟩
  · exact .inl e
  · exact .inr ⟨g, cap, cur, e1, by omega, r⟩
theorem OwnS.lt {B : Nat} {w : World} {v : Value} {l : Hs} (h : OwnS B w v l) : ∀ g, v.ownBlock = some g → B ≤ g ∧ g < w.heap.size := World.ownsRow.lt h.1
theorem OwnS.kept' {B : Nat} {w w' : World} {v : Value} {l : Hs} (h : OwnS B w v l) (k : ∀ g, v.ownBlock = some g → w'.heap[g]? = w.heap[g]?) : OwnS B w' v l := by
  obtain ⟨⟨h1, h2⟩, h3⟩ := h
  refine ⟨⟨h1, ?_⟩, h3⟩
  rcases h2 with e | ⟨g, cap, cur, e1, e2, hg, r⟩
  · exact .inl e
  · exact .inr ⟨g, cap, cur, e1, e2, (k g (by rw [e1]; rfl)).trans hg, r⟩
theorem OwnS.kept {B : Nat} {w w' : World} {v : Value} {l : Hs} (h : OwnS B w v l) (k : Below w.heap.size w w') : OwnS B w' v l := h.kept' fun g e => k.block g (h.lt g e).2
theorem OwnS.drew {B : Nat} {w : World} {v : Value} {l : Hs} (h : OwnS B w v l) : OwnS B w.drew v l := h
theorem sgrown_below {w w' : World} {row : Option Nat} (h : w.grownBy w' row) {B : Nat} (hB : B ≤ w.heap.size) (hr : ∀ g, row = some g → B ≤ g) : Below B w w' :=
  ⟨h.os, h.tape, h.output, h.size, fun k hk => h.block k (by omega) fun e => by have := hr k e.symm; omega⟩
/-- append onto a slice of the call's own; but that slice's block nothing that was there turns. -/
theorem sappend_own' {B : Nat} {w : World} {v x : Value} {l m : Hs} (ty : TypeId) (h : OwnS B w v l) (hx : Sums w x m) (hB : B ≤ w.heap.size) (hl : l.length + m.length ≤ 1000000000) :
    ∃ v' w', (Builtin.append_ #[27, 27] ty #[v, x]).run Tryd.prog w = .ok v' w' ∧ OwnS B w' v' (l ++ m) ∧ Below B w w' ∧ w.grownBy w' v.ownBlock ∧ (∀ g, v'.ownBlock = some g → v.ownBlock = some g ∨ w.heap.size ≤ g) := by
  obtain ⟨i0, hi, hz0, hz1, hz2⟩ := info_parts info_sumR
  rcases hx.news with ⟨rfl, rfl⟩ | ⟨a, c, rfl, hc⟩
  · exact ⟨v, w, run_append_owned_none w B _ ty _ i0 32 Tryd.underlying27 hi v _ _ h.1, by rw [List.append_nil]; exact h, Below.refl _ _, World.grownBy.refl _ _, fun g e => .inl e⟩
  · obtain ⟨v', w', h1, h2, h3, _, h4⟩ := run_append_own_at (P := Tryd.prog) w B _ ty _ i0 _ 32 32 Tryd.underlying27 hi hz0 hz1 hz2 rfl (by decide) v l.length (sc l) h.1 a m.length c (sc m) (sc_length m hx.ok) hc (sc_one m) (by unfold maxLen; omega) (by omega) hB
    exact ⟨v', w', h1, ⟨by rw [List.length_append, sc_append]; exact h2, h.2.append hx.ok⟩, sgrown_below h3 hB fun g e => (h.lt g e).1, h3, fun g e => h4.elim (fun e' => .inl (e' ▸ e)) (fun e' => .inr (by rw [e'] at e; injection e with e; omega))⟩
theorem sappend_own {B : Nat} {w : World} {v x : Value} {l m : Hs} (ty : TypeId) (h : OwnS B w v l) (hx : Sums w x m) (hB : B ≤ w.heap.size) (hl : l.length + m.length ≤ 1000000000) :
    ∃ v' w', (Builtin.append_ #[27, 27] ty #[v, x]).run Tryd.prog w = .ok v' w' ∧ OwnS B w' v' (l ++ m) ∧ Below B w w' := by
  obtain ⟨v', w', h1, h2, h3, _⟩ := sappend_own' ty h hx hB hl
  exact ⟨v', w', h1, h2, h3⟩
/-- A slice of one hash that was just laid. -/
theorem Sums.one (w : World) (x : List UInt8) (h : x.length = 32) : Sums (w.alloc (.cells (x.map u8V).toArray 33)) (.slice (some ⟨w.heap.size, 0, none⟩) 1 1) [x] := by
  refine Sums.mk (l := [x]) (by simp) (by decide) (all32.one h) (by simp) fun j hj i v hv => ?_
  obtain rfl : j = 0 := by simpa using hj
  rw [cell_of (heap_alloc_last w _)]
  simpa using hv
theorem below_range {w w' : World} {b o : Nat} {cs : List Value} (h : Below w.heap.size w w') (hb : b < w.heap.size) (r : w.rangeAt b o cs) : w'.rangeAt b o cs := fun j v hv => (h.cell (p := ⟨b, o + j, none⟩) hb).trans (r j v hv)
theorem below_range' {B : Nat} {w w' : World} {b o : Nat} {cs : List Value} (h : Below B w w') (hb : b < B) (r : w.rangeAt b o cs) : w'.rangeAt b o cs := fun j v hv => (h.cell (p := ⟨b, o + j, none⟩) hb).trans (r j v hv)
/- Slices are cut. -/
/-- The address behind k hashes, as the model has it. -/
def cutS (a : Option Addr) (k cap : Nat) : Option Addr := if cap = k then a else a.map (·.add (k * 32))
theorem Sums.head {w : World} {a : Option Addr} {n cap : Nat} {l : Hs} (h : Sums w (.slice a n cap) l) (k : Nat) (hk : k ≤ l.length) : Sums w (.slice a k cap) (l.take k) := by
  obtain ⟨a', cap', e, h1, h2, h3, h4, h5⟩ := h
  injection e with e1 e2 e3
  subst e1 e2 e3
  have hl : (l.take k).length = k := by rw [List.length_take]; omega
  refine ⟨a, cap, by rw [hl], by omega, by omega, fun e => by have := h3 e; omega, h4.take k, fun hn => ?_⟩
  obtain ⟨b, off, rfl, hb, hj⟩ := h5 (by omega)
  exact ⟨b, off, rfl, hb, fun j h => by rw [List.getElem_take]; exact hj j (by omega)⟩
theorem Sums.tail {w : World} {a : Option Addr} {n cap : Nat} {l : Hs} (h : Sums w (.slice a n cap) l) (k : Nat) (hk : k ≤ l.length) : Sums w (.slice (cutS a k cap) (l.length - k) (cap - k)) (l.drop k) := by
  obtain ⟨a', cap', e, h1, h2, h3, h4, h5⟩ := h
  injection e with e1 e2 e3
  subst e1 e2 e3
  have hl : (l.drop k).length = l.length - k := List.length_drop
  refine ⟨cutS a k cap, cap - k, by rw [hl], by omega, by omega, fun e => ?_, h4.drop k, fun hn => ?_⟩
  · unfold cutS at e
    split at e
    · omega
    · cases a with
      | none => have := h3 rfl; omega
      | some a => cases e
  · obtain ⟨b, off, rfl, hb, hj⟩ := h5 (by omega)
    refine ⟨b, off + k * 32, ?_, hb, fun j h => ?_⟩
    · unfold cutS
      rw [if_neg (by omega), Option.map_some, Addr.add_mid]
    · rw [List.getElem_drop, show off + k * 32 + j * 32 = off + (k + j) * 32 by omega]
      exact hj (k + j) (by omega)
theorem size_sum (w : World) : (Go.sizeOf 33).run Tryd.prog w = .ok 32 w := by
  obtain ⟨i0, hi, _, _, _⟩ := info_parts info_sumR
  have hc : Tryd.prog.cellsOf 33 = 32 := by kernel_rfl
  rw [run_sizeOf w hi, hc]
theorem elem_sums : Tryd.prog.elem 27 = 33 := by kernel_rfl
set_option maxRecDepth 100000 in
theorem scut_lh (va : Option Addr) (n cap k m : Nat) (h : k ≤ m) (h2 : m ≤ cap) (w : World) : (Instr.sliceAt 27 (.slice va n cap) (some (.int .i64 (k : Int))) (some (.int .i64 (m : Int))) none).run Tryd.prog w = .ok (.slice (cutS va k cap) (m - k) (cap - k)) w := by
  refine (run_sliceAt_slice w _ _ _ _ _ Tryd.underlying27).trans ?_
  rw [run_slice_lh (P := Tryd.prog) w _ va n cap Tryd.underlying27 _ _ _ _ (by omega) (by omega) (by omega), elem_sums, size_sum]
  simp only [Result.andThen, sliced, Int.toNat_natCast, cutS]
set_option maxRecDepth 100000 in
theorem scut_h (va : Option Addr) (n cap m : Nat) (h2 : m ≤ cap) (w : World) : (Instr.sliceAt 27 (.slice va n cap) none (some (.int .i64 (m : Int))) none).run Tryd.prog w = .ok (.slice va m cap) w := by
  refine (run_sliceAt_slice w _ _ _ _ _ Tryd.underlying27).trans ?_
  rw [run_slice_h (P := Tryd.prog) w _ va n cap Tryd.underlying27 _ _ (by omega) (by omega), elem_sums, size_sum]
  cases va with
  | none => simp [Result.andThen, sliced]
  | some a => obtain ⟨b, off, s⟩ := a; cases s <;> simp [Result.andThen, sliced, Addr.add]
set_option maxRecDepth 100000 in
theorem scut_l (va : Option Addr) (n cap k : Nat) (h2 : k ≤ n) (w : World) : (Instr.sliceAt 27 (.slice va n cap) (some (.int .i64 (k : Int))) none none).run Tryd.prog w = .ok (.slice (cutS va k cap) (n - k) (cap - k)) w := by
  refine (run_sliceAt_slice w _ _ _ _ _ Tryd.underlying27).trans ?_
  rw [run_slice_l (P := Tryd.prog) w _ va n cap Tryd.underlying27 _ _ (by omega) (by omega), elem_sums, size_sum]
  simp only [Result.andThen, sliced, Int.toNat_natCast, cutS]
theorem wpList_slice_runS {ops : Array Oper} {rest : List Oper} {o : Oper} {a : Act} {w : World} {Q : Exit → Act → World → Prop} (hg : o.guard = none) (t : TypeId) (x : Operand) (lo hi mx : Option Operand) (hop : o.op = .slice t x lo hi mx) {u r : Value} {lo' hi' mx' : Option Value} (hx : a.eval x = u) (h1 : lo.map a.eval = lo') (h2 : hi.map a.eval = hi') (h3 : mx.map a.eval = mx')
    (hr : (Instr.sliceAt t u lo' hi' mx').run Tryd.prog w = .ok r w) (h : wpList Tryd.prog ops Q rest (a.put o.dst r) w) : wpList Tryd.prog ops Q (o :: rest) a w := by
  refine wpList_plain hg fun K hK => ?_
  unfold Oper.wp
  simp [execOp, hop, hx, h1, h2, h3, hr]
  exact hK _ _ h
/-! ### An argument -/
set_option maxRecDepth 100000 in
theorem sum_cells {H : Type} {enc : TypeId × Value → H} {W : World} {fuel : Nat} {cs : List Value} {x : DataW H × List MemPlace}
    (hf : DataW.trod enc Tryd.prog W 0 (fun _ => true) true fuel 33 cs = some x) : ∃ l : List UInt8, cs = l.map u8V ∧ l.length = 32 := by
  obtain ⟨xs, m, _, _, hcl, hl, hx⟩ := DataW.trod_array Tryd.underlying33 hf
  have k1 : Tryd.prog.cellsOf 5 = 1 := by kernel_rfl
  have hc32 : cs.length = 32 := hcl.trans (by kernel_rfl)
  have key : ∀ i, i < 32 → ∃ z, cs[i]? = some (.int .u8 z) ∧ (Lit.int .u8 z).wf = true := by
    intro i hi
    have h0 := hx i hi
    rw [k1] at h0
    obtain ⟨y, hy⟩ : ∃ y, xs[i]? = some y := ⟨xs[i], List.getElem?_eq_getElem (by omega)⟩
    rw [hy] at h0
    obtain ⟨z, hc, _, hw⟩ := DataW.trod_int Tryd.underlying5 h0
    refine ⟨z, ?_, hw⟩
    have := congrArg (·[0]?) hc
    simpa [List.getElem?_take, List.getElem?_drop] using this
  have hb : ∀ z, (Lit.int .u8 z).wf = true → ∃ b : UInt8, z = (b.toNat : Int) := fun z h => by
    have hz : 0 ≤ z ∧ z ≤ 255 := by simpa [Lit.wf, IntKind.min, IntKind.max, IntKind.signed, IntKind.bits] using h
    refine ⟨UInt8.ofNat z.toNat, ?_⟩
    rw [UInt8.toNat_ofNat']
    omega
  have key2 : ∀ i, i < 32 → ∃ b : UInt8, cs[i]? = some (u8V b) := fun i hi => by
    obtain ⟨z, h1, h2⟩ := key i hi
    obtain ⟨b, rfl⟩ := hb z h2
    exact ⟨b, h1⟩
  refine ⟨(List.range 32).attach.map fun i => Classical.choose (key2 i.1 (List.mem_range.1 i.2)), ?_, by simp⟩
  apply List.ext_getElem?
  intro i
  by_cases hi : i < 32
  · have := Classical.choose_spec (key2 i hi)
    rw [this]
    simp [hi]
  · rw [List.getElem?_eq_none (by omega), List.getElem?_eq_none (by simp; omega)]
theorem sums_of {H : Type} {enc : TypeId × Value → H} {W : World} {a : Option Addr} {len cap : Nat} {d : DataW H} {ps : List MemPlace}
    (h : DataW.Trod enc Tryd.prog W 0 (fun _ => true) true 27 (.slice a len cap) d ps) : ∃ l, Sums W (.slice a len cap) l := by
  obtain ⟨fuel, hf⟩ := h
  have hf' : DataW.trod enc Tryd.prog W 0 (fun _ => true) true fuel 27 [.slice a len cap] = some (d, ps) := by simpa [Value.cells] using hf
  have k6 : Tryd.prog.cellsOf 33 = 32 := by kernel_rfl
  rcases DataW.trod_slice Tryd.underlying27 hf' with ⟨hcs, _⟩ | ⟨a', len', cap', elems, rest, n, _, hcs, _, _, hl, hm, hlen', hel, _, _⟩
  · simp at hcs
    obtain ⟨rfl, rfl, rfl⟩ := hcs
    exact ⟨[], Sums.nil _⟩
  · simp at hcs
    obtain ⟨rfl, rfl, rfl⟩ := hcs
    have each : ∀ i, i < len → ∃ cs, W.cells? 0 (a'.add (i * 32)) 32 = some cs ∧ ∃ y, DataW.trod enc Tryd.prog W 0 (fun _ => true) true n 33 cs = some y := by
      intro i hi
      have := hel i hi
      rw [k6, List.getElem?_eq_getElem (by omega)] at this
      obtain ⟨cs, h1, h2⟩ := Option.bind_eq_some_iff.1 this
      exact ⟨cs, h1, _, h2⟩
    have hplain : 0 < len → ∃ b off, a' = ⟨b, off, none⟩ ∧ b < W.heap.size := by
      intro hp
      obtain ⟨cs, h1, y, h2⟩ := each 0 hp
      obtain ⟨x, rfl, hx⟩ := sum_cells h2
      have hb := World.cells?_block h1 (by decide)
      have h3 := (World.cells?_some h1).2.2 0 (by decide)
      have e0 : (a'.add (0 * 32)).add 0 = a' := by unfold Addr.add; simp
      have e1 : (a'.add (0 * 32)).block = a'.block := by unfold Addr.add; simp
      rw [e0] at h3
      rw [e1] at hb
      obtain ⟨b, off, spot⟩ := a'
      refine ⟨b, off, ?_, hb⟩
      cases spot with
      | none => rfl
      | some s =>
        obtain ⟨z, hz⟩ : ∃ z, (x.map u8V)[0]? = some (u8V z) := ⟨x[0]'(by omega), by rw [List.getElem?_map, List.getElem?_eq_getElem (by omega)]; rfl⟩
        rw [hz] at h3
        unfold World.cell? at h3
        split at h3 <;> simp_all
    have op : ∀ i, i < len → ∃ x : List UInt8, x.length = 32 ∧ ∃ b off, a' = ⟨b, off, none⟩ ∧ b < W.heap.size ∧ W.rangeAt b (off + i * 32) (x.map u8V) := by
      intro i hi
      obtain ⟨cs, h1, y, h2⟩ := each i hi
      obtain ⟨x, rfl, hx⟩ := sum_cells h2
      obtain ⟨b, off, rfl, hb⟩ := hplain (by omega)
      refine ⟨x, hx, b, off, rfl, hb, fun j v hv => ?_⟩
      have hj : j < 32 := by have := (List.getElem?_eq_some_iff.1 hv).1; simpa [hx] using this
      have := (World.cells?_some h1).2.2 j hj
      rw [Addr.add_mid, Addr.add_mid] at this
      rw [this]
      exact hv
    refine ⟨(List.range len).attach.map fun i => Classical.choose (op i.1 (List.mem_range.1 i.2)), some a', cap, by simp, by simpa using hl, by unfold maxLen at hm; omega, fun e => (by cases e), fun x hx => ?_, fun hp => ?_⟩
    · obtain ⟨i, _, rfl⟩ := List.mem_map.1 hx
      exact (Classical.choose_spec (op i.1 (List.mem_range.1 i.2))).1
    · have hp' : 0 < len := by simpa using hp
      obtain ⟨_, b, off, e, hb, _⟩ := Classical.choose_spec (op 0 hp')
      subst e
      refine ⟨b, off, rfl, hb, fun j hj => ?_⟩
      have hj' : j < len := by simpa using hj
      obtain ⟨_, b', off', e', _, hr⟩ := Classical.choose_spec (op j hj')
      injection e' with e1 e2 _
      subst e1 e2
      simp only [List.getElem_map, List.getElem_attach, List.getElem_range]
      exact hr
end Go.Proofs.YtollcdalokhjaaaDoor
/-! ## Slices of hashes that are built, made, put together. -/
namespace Go.Proofs.YtollcdalokhjaaaDoor
open Go.RowKit

theorem fold_put : ∀ (vs : List Value) (k off : Nat) (p o q : List Value), p.length = off + k → o.length = vs.length →
    (vs.zipIdx k).foldl (fun cs (c, j) => cs.setIfInBounds (off + j) c) (p ++ (o ++ q)).toArray = (p ++ (vs ++ q)).toArray
  | [], k, off, p, o, q, h1, h2 => by
    obtain rfl : o = [] := List.eq_nil_of_length_eq_zero h2
    rfl
  | v :: vs, k, off, p, o, q, h1, h2 => by
    match o, h2 with
    | x :: o, h2 =>
      have := fold_put vs (k + 1) off (p ++ [v]) o q (by simp; omega) (by simpa using h2)
      simp only [List.zipIdx_cons, List.foldl_cons]
      rw [List.setIfInBounds_toArray, List.set_append_right _ _ (by omega), ← h1, Nat.sub_self]
      simpa using this
theorem fill_sums (n : Nat) : ∀ (xs p : Hs) (q : List Value), all32 xs → all32 p → q.length = xs.length * 32 → n = p.length →
    Instr.fill (fun i => some (i * 32, 32)) (sc p ++ q).toArray ((List.range' n xs.length).zipWith (fun i x => (i, sumV x)) xs) = some (sc (p ++ xs)).toArray := by
  intro xs
  induction xs generalizing n with
  | nil =>
    intro p q _ _ hq _
    obtain rfl : q = [] := List.eq_nil_of_length_eq_zero (by simpa using hq)
    simp [Instr.fill]
  | cons x xs ih =>
    intro p q hx hp hq hn
    have hx32 : x.length = 32 := hx x (by simp)
    have hpl := sc_length p hp
    rw [List.length_cons, List.range'_succ, List.zipWith_cons_cons, Instr.fill]
    have hs : (sumV x).cells.size = 32 := by simp [sumV, Value.cells, hx32]
    rw [hs]
    simp only [List.size_toArray, List.length_append]
    rw [if_neg (by simp; simp at hq; omega)]
    have hf : ((sumV x).cells.zipIdx.foldl (fun cs (c, j) => cs.setIfInBounds (n * 32 + j) c) (sc p ++ q).toArray) = (sc (p ++ [x]) ++ q.drop 32).toArray := by
      have e : (sumV x).cells = (x.map u8V).toArray := rfl
      have hq' : q = q.take 32 ++ q.drop 32 := (List.take_append_drop 32 q).symm
      have := fold_put (x.map u8V) 0 (n * 32) (sc p) (q.take 32) (q.drop 32) (by omega) (by rw [List.length_take, List.length_map]; simp at hq; omega)
      rw [← hq'] at this
      rw [e, sc_append, sc_one', List.append_assoc, ← this, ← Array.foldl_toList]
      congr 1
      simp
    have := ih (n + 1) (p ++ [x]) (q.drop 32) (fun y hy => hx y (by simp [hy])) (hp.append (all32.one hx32)) (by rw [List.length_drop, hq, List.length_cons]; omega) (by simp; omega)
    rw [hf, this, List.append_assoc, List.singleton_append]
theorem range_cells (n : Nat) (z : Array Value) : (((Array.range n).map (z[· % z.size]!)) : Array Value).toList.length = n := by simp
set_option maxRecDepth 100000 in
theorem build_sums (n : Nat) (xs : Hs) (hx : all32 xs) (hn : xs.length = n) (h0 : 0 < n) (h9 : n ≤ 1000) (w : World) :
    (Instr.buildSlice 27 n ((List.range n).zipWith (fun i x => (i, sumV x)) xs).toArray).run Tryd.prog w = .ok (.slice (some ⟨w.heap.size, 0, none⟩) n n) (w.alloc (.cells (sc xs).toArray 33)) := by
  obtain ⟨i0, hi, hz0, hz1, hz2⟩ := info_parts info_sumR
  refine run_buildSlice w _ _ n _ _ i0 _ Tryd.underlying27 hi hz0 (by rw [hz1]; omega) (by rw [hz1]; omega) ?_
  rw [hz1]
  obtain ⟨q, hq, hql⟩ : ∃ q : List Value, ((Array.range (n * 32)).map ((Value.agg ((List.replicate 32 (0 : UInt8)).map u8V).toArray).cells[· % (Value.agg ((List.replicate 32 (0 : UInt8)).map u8V).toArray).cells.size]!)) = q.toArray ∧ q.length = n * 32 := ⟨_, (Array.toArray_toList).symm, by simp⟩
  rw [hq]
  have := fill_sums 0 xs [] q hx all32.nil (by omega) rfl
  rw [hn] at this
  simpa [sc, List.range_eq_range'] using this
theorem build_sum1 (x : List UInt8) (hx : x.length = 32) (w : World) : (Instr.buildSlice 27 1 #[(0, sumV x)]).run Tryd.prog w = .ok (.slice (some ⟨w.heap.size, 0, none⟩) 1 1) (w.alloc (.cells (x.map u8V).toArray 33)) := by
  have := build_sums 1 [x] (all32.one hx) rfl (by decide) (by decide) w
  rw [sc_one'] at this
  exact this
theorem wpList_bslS {ops : Array Oper} {rest : List Oper} {o : Oper} {a : Act} {w w' : World} {Q : Exit → Act → World → Prop} (hg : o.guard = none) (t : TypeId) (n : Nat) (parts : Array (Nat × Operand)) (hop : o.op = .buildSlice t n parts) {L : Array (Nat × Value)} {r : Value} (hL : (parts.map fun (i, x) => (i, a.eval x)) = L)
    (hr : (Instr.buildSlice t n L).run Tryd.prog w = .ok r w') (h : wpList Tryd.prog ops Q rest (a.put o.dst r) w') : wpList Tryd.prog ops Q (o :: rest) a w := by
  refine wpList_plain hg fun K hK => ?_
  unfold Oper.wp
  simp [execOp, hop, hL, hr]
  exact hK _ _ h
def RT.sums (l : Hs) : RT := ⟨fun v w => Sums w v l, fun _ _ _ h k => h.old k⟩
theorem Sums.build (w : World) (xs : Hs) (hx : all32 xs) (n : Nat) (hn : n = xs.length) (hm : n ≤ 1000000) : Sums (w.alloc (.cells (sc xs).toArray 33)) (.slice (some ⟨w.heap.size, 0, none⟩) n n) xs := by
  subst hn
  refine Sums.mk (Nat.le_refl _) (by omega) hx (by simp) fun j hj i v hv => ?_
  rw [cell_of (heap_alloc_last w _), Nat.zero_add]
  have := sc_get xs hx j hj i v hv
  simpa using this
def lenV : Value → Nat
  | .slice _ n _ => n
  | _ => 0
theorem OwnS.empty (B : Nat) (w : World) (hB : B ≤ w.heap.size) : OwnS B (w.alloc (.cells #[] 33)) (.slice (some ⟨w.heap.size, 0, none⟩) 0 0) [] :=
  ⟨World.ownsRow_made w #[] 0 hB (by decide) (by simp), all32.nil⟩
set_option maxHeartbeats 1600000 in
theorem sclone_any (v : Value) (l : Hs) (w : World) (hl : Sums w v l) (hn : l.length ≤ 1000000) :
    Calls Tryd.prog 33 #[v] w fun e w' => ∃ v', e = .returned v' ∧ OwnS w.heap.size w' v' l ∧ Below w.heap.size w w' := by
  obtain ⟨va, cap, rfl, hlc, hcap⟩ := hl.slice
  have q22 : ∀ (w : World) (a : Option Addr) (n c n' c' : Nat), (binOp .eql 27 (.slice a n c) (.slice none n' c')).run Tryd.prog w = .ok (.bool a.isNone) w := fun w a n c n' c' => Lib.run_eql_slice_nil w _ _ a n c n' c' Tryd.underlying27
  cases va with
  | none =>
    go_enter Tryd.func33, Tryd.ntmps33
    go_wp2
    go_ret
    rcases hl.news with ⟨_, rfl⟩ | ⟨a, c, e, _⟩
    · exact ⟨_, rfl, OwnS.nil _ _, Below.refl _ _⟩
    · injection e with e _ _; cases e
  | some va =>
    have bx : Below w.heap.size w (w.alloc (.cells #[] 33)) := (Below.refl _ _).alloc (Nat.le_refl _) _
    obtain ⟨v', w', hr, ho, hb⟩ := sappend_own (B := w.heap.size) 27 (OwnS.empty w.heap.size w (Nat.le_refl _)) (hl.old bx) (by simp) (by simp; omega)
    rw [List.nil_append] at ho
    have HO := Lib.hid ho
    have HR := Lib.hid hr
    clear ho hr
    go_enter Tryd.func33, Tryd.ntmps33
    go_wp2_with (at_builtin; refine Lib.wpList_append_run _ rfl _ _ _ _ rfl _ _ rfl rfl _ _ HR.out ?_)
    go_ret
    exact ⟨_, rfl, HO.out, bx.trans hb⟩
end Go.Proofs.YtollcdalokhjaaaDoor
/-! ## Package leaf: Split; the document's own. -/
namespace Go.Proofs.YtollcdalokhjaaaDoor
open Go.RowKit

/-- Ahead of power i. -/
def SplitRel (N : Int) (s3 s5 : Value) : Prop :=
  ∃ i : Nat, i ≤ 63 ∧ s5 = .int .i64 (i : Int) ∧ ((i = 0 ∧ s3 = .int .i64 0) ∨ ∃ j, i = j + 1 ∧ s3 = .int .i64 ((2 ^ j : Nat) : Int) ∧ ((2 ^ j : Nat) : Int) < N)
theorem split_end (N : Int) (j : Nat) (h1 : ((2 ^ j : Nat) : Int) < N) (h2 : N ≤ ((2 ^ (j + 1) : Nat) : Int)) : Tree.split N.toNat = 2 ^ j := Tree.split_of (by omega) (by omega)
theorem shl_one (i : Nat) (h : i < 63) (P : Nat) (hP : P = 2 ^ i) : wrap64 ((2 : Int) ^ i) = (P : Int) := by
  have hp : 2 ^ i ≤ 2 ^ 62 := Nat.pow_le_pow_right (by decide) (by omega)
  have e : (2 : Int) ^ i = (P : Int) := by rw [hP]; simp
  rw [e]
  rw [← hP] at hp
  have : (2 : Nat) ^ 62 = 4611686018427387904 := rfl
  exact IntWalk.wrap64_in (P : Int) ⟨by omega, by omega⟩
set_option maxHeartbeats 1000000 in
set_option maxRecDepth 100000 in
theorem leafSplit_any (N : Int) (h : N ≤ 9223372036854775807) (w : World) :
    Calls Tryd.prog 75 #[.int .i64 N] w fun e w' => e = .returned (.int .i64 ((Tree.split N.toNat : Nat) : Int)) ∧ w = w' := by
  go_enter Tryd.func75, Tryd.ntmps75
  go_wp2
  go_loop [3, 5] (SplitRel N) (fun _ s5 => 63 - (intOf s5).toNat)
  case atStart => exact ⟨0, by omega, rfl, .inl ⟨rfl, rfl⟩⟩
  case round =>
    obtain ⟨i, hi, rfl, hk⟩ := hrel
    rcases hk with ⟨rfl, rfl⟩ | ⟨j, hij, rfl, hj⟩
    · by_cases hge : N ≤ 1
      · go_wp2
        go_ret
        exact ⟨by rw [Tree.split_small (by omega)]; rfl, rfl⟩
      · go_wp2
        exact ⟨⟨1, by omega, rfl, .inr ⟨0, rfl, rfl, by simp; omega⟩⟩, by simp [intOf]⟩
    · by_cases hlt : i < 63
      · have hlt' : (i : Int) < 63 := by omega
        have hend := split_end N j hj
        rw [← hij] at hend
        have HIJ := Lib.hid hij
        have HJ := Lib.hid hj
        obtain ⟨P, hP⟩ : ∃ P : Nat, P = 2 ^ i := ⟨_, rfl⟩
        obtain ⟨R, hR⟩ : ∃ R : Nat, R = 2 ^ j := ⟨_, rfl⟩
        have hsh := shl_one i hlt P hP
        rw [← hP] at hend
        rw [← hR] at hend ⊢
        have HP := Lib.hid hP
        have HR := Lib.hid hR
        clear hP hR hij hj
        by_cases hge : N ≤ (P : Int)
        · have he := Lib.hid (hend hge)
          clear hend
          go_wp2
          go_ret
          exact ⟨by rw [he.out]; rfl, rfl⟩
        · clear hend
          go_wp2
          refine ⟨⟨i + 1, by omega, by simp, .inr ⟨i, rfl, by rw [hsh, HP.out], by rw [← HP.out]; omega⟩⟩, by simp [intOf]; omega⟩
      · obtain rfl : i = 63 := by omega
        obtain rfl : j = 62 := by omega
        have he : Hid (Tree.split N.toNat = 4611686018427387904) := Lib.hid (split_end N 62 hj (by simp; omega))
        clear hj
        go_wp2
        go_ret
        exact ⟨by rw [he.out]; rfl, rfl⟩

/-- Ahead of a doubling. -/
def RSplitRel (N : Int) (s3 : Value) : Prop := ∃ j : Nat, s3 = .int .i64 ((2 ^ j : Nat) : Int) ∧ ((2 ^ j : Nat) : Int) < N
set_option maxHeartbeats 1000000 in
set_option maxRecDepth 100000 in
theorem rleafSplit_any (N : Int) (h0 : -9223372036854775808 ≤ N) (h : N ≤ 9223372036854775807) (w : World) :
    Calls Tryd.prog 43 #[.int .i64 N] w fun e w' => e = .returned (.int .i64 ((Tree.split N.toNat : Nat) : Int)) ∧ w = w' := by
  by_cases h2 : N < 2
  · have he : Hid (Tree.split N.toNat = 0) := Lib.hid (Tree.split_small (by omega))
    go_enter Tryd.func43, Tryd.ntmps43
    go_wp2
    go_ret
    exact ⟨by rw [he.out]; rfl, rfl⟩
  · go_enter Tryd.func43, Tryd.ntmps43
    go_wp2
    go_loop [3] (RSplitRel N) (fun s3 => (N - intOf s3).toNat)
    case atStart => exact ⟨0, rfl, by simp; omega⟩
    case round =>
      obtain ⟨j, rfl, hj⟩ := hrel
      have hend := split_end N j hj
      have hpow : (2 : Nat) ^ (j + 1) = 2 * 2 ^ j := by rw [Nat.pow_succ]; omega
      rw [hpow] at hend
      have HJ := Lib.hid hpow
      obtain ⟨R, hR⟩ : ∃ R : Nat, R = 2 ^ j := ⟨_, rfl⟩
      rw [← hR] at hend hj ⊢
      have HR := Lib.hid hR
      have hRp : 0 < R := by rw [hR]; exact Nat.two_pow_pos j
      clear hR hpow
      have hdv : (N - 1).tdiv 2 = (N - 1) / 2 := by rw [Int.tdiv_eq_ediv_of_nonneg (by omega)]
      have hw1 := IntWalk.i64_in (N - 1) (by omega)
      by_cases hge : (R : Int) ≤ (N - 1) / 2
      · have hw2 := IntWalk.i64_in (2 * (R : Int)) (by omega)
        clear hend
        go_wp2
        refine ⟨⟨j + 1, by rw [HJ.out, ← HR.out]; simp, by rw [HJ.out, ← HR.out]; simp; omega⟩, by simp [intOf]; omega⟩
      · have he := Lib.hid (hend (by omega))
        clear hend
        go_wp2
        go_ret
        exact ⟨by rw [he.out]; rfl, rfl⟩
end Go.Proofs.YtollcdalokhjaaaDoor
/-! ## Rows of rows of hashes that are a call's own: each in a block of its own. -/
namespace Go.Proofs.YtollcdalokhjaaaDoor
open Go.RowKit

theorem info_sumsl : (Tryd.prog.info? 27).map (fun i => (i.zero, i.size, i.bytes)) = some (some (.slice none 0 0), 1, 24) := by kernel_rfl
/-- v is a slice that reads as the slices vs, each of which reads as one of ls; all in blocks of their own, from B on. -/
structure RowsAt (B : Nat) (w : World) (v : Value) (vs : List Value) (ls : List Hs) : Prop where
  own : w.ownsRow B 27 1 v vs.length vs
  len : vs.length = ls.length
  row : ∀ (j : Nat) (x : Value) (l : Hs), vs[j]? = some x → ls[j]? = some l → OwnS B w x l
  apart : ∀ (i j : Nat) (x y : Value) (g : Nat), vs[i]? = some x → vs[j]? = some y → x.ownBlock = some g → y.ownBlock = some g → i = j
  away : ∀ (i : Nat) (x : Value) (g : Nat), vs[i]? = some x → x.ownBlock = some g → v.ownBlock ≠ some g
theorem RowsAt.lt {B : Nat} {w : World} {v : Value} {vs : List Value} {ls : List Hs} (h : RowsAt B w v vs ls) (j : Nat) (x : Value) (g : Nat) (hx : vs[j]? = some x) (hg : x.ownBlock = some g) : B ≤ g ∧ g < w.heap.size := by
  have hj : j < vs.length := (List.getElem?_eq_some_iff.1 hx).1
  obtain ⟨l, hl⟩ : ∃ l, ls[j]? = some l := ⟨_, List.getElem?_eq_getElem (by rw [← h.len]; exact hj)⟩
  exact (h.row j x l hx hl).lt g hg
/-- A slice's value is one cell. -/
theorem OwnS.one {B : Nat} {w : World} {v : Value} {l : Hs} (h : OwnS B w v l) : v.oneCell' = true := by
  obtain ⟨a, cap, rfl, _⟩ := h.sums.slice
  rfl
theorem ownsRow_kept {B e n k : Nat} {w w' : World} {v : Value} {xs : List Value} (h : w.ownsRow B e k v n xs) (hk : ∀ g, v.ownBlock = some g → w'.heap[g]? = w.heap[g]?) : w'.ownsRow B e k v n xs := by
  obtain ⟨h1, h2⟩ := h
  refine ⟨h1, ?_⟩
  rcases h2 with e | ⟨g, cap, cur, e1, e2, hg, r⟩
  · exact .inl e
  · exact .inr ⟨g, cap, cur, e1, e2, (hk g (by rw [e1]; rfl)).trans hg, r⟩
/-- What is kept, if no block of it is turned. -/
theorem RowsAt.kept {B : Nat} {w w' : World} {v : Value} {vs : List Value} {ls : List Hs} (h : RowsAt B w v vs ls) (hk : ∀ g, g < w.heap.size → B ≤ g → w'.heap[g]? = w.heap[g]?) : RowsAt B w' v vs ls := by
  refine ⟨ownsRow_kept h.own fun g e => ?_, h.len, fun j x l hx hl => (h.row j x l hx hl).kept' fun g e => ?_, h.apart, h.away⟩
  · have := World.ownsRow.lt h.own g e; exact hk g this.2 this.1
  · have := h.lt j x g hx e; exact hk g this.2 this.1
theorem RowsAt.old {B : Nat} {w w' : World} {v : Value} {vs : List Value} {ls : List Hs} (h : RowsAt B w v vs ls) (hb : Below w.heap.size w w') : RowsAt B w' v vs ls := h.kept fun g hg _ => hb.block g hg
theorem RowsAt.lower {B B' : Nat} {w : World} {v : Value} {vs : List Value} {ls : List Hs} (h : RowsAt B w v vs ls) (hB : B' ≤ B) : RowsAt B' w v vs ls := by
  refine ⟨?_, h.len, fun j x l hx hl => (h.row j x l hx hl).lower hB, h.apart, h.away⟩
  obtain ⟨h1, h2⟩ := h.own
  refine ⟨h1, ?_⟩
  rcases h2 with e | ⟨g, cap, cur, e1, e2, r⟩
  · exact .inl e
  · exact .inr ⟨g, cap, cur, e1, by omega, r⟩
/-- The first row. -/
theorem RowsAt.one {B : Nat} {w : World} {x : Value} {l : Hs} (h : OwnS B w x l) (hB : B ≤ w.heap.size) : RowsAt B (w.alloc (.cells #[x] 27)) (.slice (some ⟨w.heap.size, 0, none⟩) 1 1) [x] [l] := by
  refine ⟨⟨rfl, .inr ⟨w.heap.size, 1, #[x], rfl, hB, heap_alloc_last w _, Nat.le_refl _, by decide, rfl, rfl⟩⟩, rfl, fun j y m hy hm => ?_, fun i j a b g ha hb _ _ => ?_, fun i y g hy hg e => ?_⟩
  · have hj : j < 1 := (List.getElem?_eq_some_iff.1 hy).1
    obtain rfl : j = 0 := by omega
    simp at hy hm
    subst hy hm
    exact h.kept ((Below.refl _ _).alloc (Nat.le_refl _) _)
  · have hi : i < 1 := (List.getElem?_eq_some_iff.1 ha).1
    have hj : j < 1 := (List.getElem?_eq_some_iff.1 hb).1
    omega
  · have hi : i < 1 := (List.getElem?_eq_some_iff.1 hy).1
    obtain rfl : i = 0 := by omega
    simp at hy
    subst hy
    have := (h.lt g hg).2
    simp [Value.ownBlock] at e
    omega
end Go.Proofs.YtollcdalokhjaaaDoor
