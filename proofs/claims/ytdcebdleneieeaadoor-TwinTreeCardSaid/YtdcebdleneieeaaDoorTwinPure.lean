/-
  Plain mathematics of twins: the texts on a way, the first ones that are unlike and have one hash. No walk, no program.
-/
import Derived.Test.YtdcebdleneieeaaDoorMProofA
namespace Go.Proofs.YtdcebdleneieeaaDoor.Tree
open Go

/-- The texts on a way up. -/
def wayL : H → List H → List Bool → List (List UInt8)
  | x, s :: p, b :: t => preS x s b :: wayL (step x s b) p t
  | _, _, _ => []
theorem wayL_cons (x s : H) (p : List H) (b : Bool) (t : List Bool) : wayL x (s :: p) (b :: t) = preS x s b :: wayL (step x s b) p t := rfl
theorem wayL_nil (x : H) (t : List Bool) : wayL x [] t = [] := by cases t <;> rfl
theorem wayL_length : ∀ (x : H) (p : List H) (t : List Bool), p.length = t.length → (wayL x p t).length = t.length
  | _, [], [], _ => rfl
  | x, s :: p, b :: t, h => by
    rw [wayL_cons, List.length_cons, List.length_cons, wayL_length _ p t (by simpa using h)]
  | _, [], _ :: _, h => by simp at h
  | _, _ :: _, [], h => by simp at h
/-- Are they unlike, and have one hash? -/
def areT (s t : List UInt8) : Bool := decide (s ≠ t) && decide (Sha.digest s = Sha.digest t)
theorem areT_t {s t : List UInt8} (h : areT s t = true) : s ≠ t ∧ Sha.digest s = Sha.digest t := by
  unfold areT at h
  simpa using h
theorem areT_self (s : List UInt8) : areT s s = false := by
  unfold areT
  simp
/-- The first twins at one place. -/
def firstT : List (List UInt8) → List (List UInt8) → Option (List UInt8 × List UInt8)
  | s :: a, t :: b => if areT s t then some (s, t) else firstT a b
  | _, _ => none
theorem firstT_cons (s t : List UInt8) (a b : List (List UInt8)) : firstT (s :: a) (t :: b) = if areT s t then some (s, t) else firstT a b := rfl
theorem firstT_self : ∀ a : List (List UInt8), firstT a a = none
  | [] => rfl
  | s :: a => by rw [firstT_cons, areT_self, if_neg (by decide), firstT_self a]
theorem firstT_are : ∀ (a b : List (List UInt8)) (p : List UInt8 × List UInt8), firstT a b = some p → areT p.1 p.2 = true
  | s :: a, t :: b, p, h => by
    rw [firstT_cons] at h
    split at h
    · rename_i hs
      injection h with h
      rw [← h]
      exact hs
    · exact firstT_are a b p h
  | [], _, _, h => by cases h
  | _ :: _, [], _, h => by cases h
/-- Behind so many places without twins. -/
theorem firstT_drop (a b : List (List UInt8)) : ∀ i, (∀ j s t, j < i → a[j]? = some s → b[j]? = some t → areT s t = false) → firstT a b = firstT (a.drop i) (b.drop i) := by
  induction a generalizing b with
  | nil => intro i _; cases b <;> cases i <;> rfl
  | cons s a ih =>
    intro i h
    cases b with
    | nil => cases i <;> simp [firstT]
    | cons t b =>
      cases i with
      | zero => rfl
      | succ i =>
        rw [firstT_cons, h 0 s t (by omega) rfl rfl, if_neg (by decide), List.drop_succ_cons, List.drop_succ_cons]
        exact ih b i fun j s' t' hj h1 h2 => h (j + 1) s' t' (by omega) (by simpa using h1) (by simpa using h2)
/-- Two ways that come to one hash are one, or hold twins. -/
theorem way_twins : ∀ (A B : List H) (T : List Bool) (x y : H), A.length = T.length → B.length = T.length → x.length = 32 → y.length = 32 → (∀ z ∈ A, z.length = 32) → (∀ z ∈ B, z.length = 32) →
    fold x A T = fold y B T → (x = y ∧ A = B) ∨ ∃ p, firstT (wayL x A T) (wayL y B T) = some p
  | [], [], [], x, y, _, _, _, _, _, _, h => .inl ⟨h, rfl⟩
  | s :: A, u :: B, b :: T, x, y, h1, h2, hx, hy, hA, hB, h => by
    have hs := hA s (by simp)
    have hu := hB u (by simp)
    rw [wayL_cons, wayL_cons, firstT_cons]
    cases ha : areT (preS x s b) (preS y u b) with
    | true => exact .inr ⟨_, if_pos rfl⟩
    | false =>
      rw [if_neg (by decide)]
      rcases way_twins A B T (step x s b) (step y u b) (by simpa using h1) (by simpa using h2) (step_length _ _ _) (step_length _ _ _) (fun z hz => hA z (by simp [hz])) (fun z hz => hB z (by simp [hz])) h with ⟨h3, h4⟩ | h3
      · by_cases he : preS x s b = preS y u b
        · obtain ⟨h5, h6⟩ := preS_inj hx hy hs hu he
          exact .inl ⟨h5, by rw [h6, h4]⟩
        · rw [step_pre, step_pre] at h3
          unfold areT at ha
          rw [decide_eq_true h3, decide_eq_true he] at ha
          cases ha
      · exact .inr h3
  | [], _ :: _, [], _, _, _, h2, _, _, _, _, _ => by simp at h2
  | _ :: _, _, [], _, _, h1, _, _, _, _, _, _ => by simp at h1
  | [], _, _ :: _, _, _, h1, _, _, _, _, _, _ => by simp at h1
  | _ :: _, [], _ :: _, _, _, _, h2, _, _, _, _, _ => by simp at h2
/-! ### Links -/
theorem up2_second : ∀ (P : List H) (T : List Bool) (s : H × H), (up2 s P T).2 = fold s.2 P T
  | [], _, s => by unfold up2 fold; rfl
  | _ :: _, [], _ => rfl
  | p :: P, t :: T, s => by
    rw [up2_cons, up2_second P T _]
    rfl
/-- Where a way of links begins, and what is left of them. -/
def startL (a : H) (m n : Nat) (L : List H) : H := if lead m n true then L.headD [] else a
def restL (m n : Nat) (L : List H) : List H := if lead m n true then L.drop 1 else L
theorem boths_start (a : H) (m n : Nat) (L : List H) : boths a m n true L = up2 (startL a m n L, startL a m n L) (restL m n L) (inw m n).reverse := by
  unfold boths startL restL
  cases lead m n true <;> rfl
theorem boths_second (a : H) (m n : Nat) (L : List H) : (boths a m n true L).2 = fold (startL a m n L) (restL m n L) (inw m n).reverse := by
  rw [boths_start, up2_second]
/-- Links that come to one newer root come to one elder one, or hold twins. -/
theorem links_twins {a b : H} {m n : Nat} {A B : List H} (h1 : 1 ≤ m) (hm : m ≤ n) (hA : A.length = llong m n true) (hB : B.length = llong m n true) (ha : a.length = 32) (hb : b.length = 32) (oA : ∀ z ∈ A, z.length = 32) (oB : ∀ z ∈ B, z.length = 32)
    (h : (boths a m n true A).2 = (boths b m n true B).2) : (boths a m n true A = boths b m n true B) ∨ ∃ p, firstT (wayL (startL a m n A) (restL m n A) (inw m n).reverse) (wayL (startL b m n B) (restL m n B) (inw m n).reverse) = some p := by
  have hl := llong_inw _ m n true h1 hm (Nat.le_refl _)
  have len : ∀ L : List H, L.length = llong m n true → (restL m n L).length = (inw m n).reverse.length := fun L hL => by
    unfold restL
    rw [List.length_reverse]
    cases hd : lead m n true with
    | true => rw [hd, if_pos rfl] at hl; rw [if_pos rfl, List.length_drop]; omega
    | false => rw [hd, if_neg (by decide)] at hl; rw [if_neg (by decide)]; omega
  have ok : ∀ L : List H, (∀ z ∈ L, z.length = 32) → ∀ z ∈ restL m n L, z.length = 32 := fun L hL z hz => by
    unfold restL at hz
    split at hz
    · exact hL z (List.mem_of_mem_drop hz)
    · exact hL z hz
  have st : ∀ (x : H) (L : List H), x.length = 32 → L.length = llong m n true → (∀ z ∈ L, z.length = 32) → (startL x m n L).length = 32 := fun x L hx hL oL => by
    unfold startL
    cases hd : lead m n true with
    | true =>
      rw [hd, if_pos rfl] at hl
      match L, hL, oL with
      | y :: L, _, oL => exact oL y (by simp)
      | [], hL, _ => simp at hL; omega
    | false => exact hx
  rw [boths_second, boths_second] at h
  rcases way_twins _ _ _ _ _ (len A hA) (len B hB) (st a A ha hA oA) (st b B hb hB oB) (ok A oA) (ok B oB) h with ⟨h2, h3⟩ | h2
  · exact .inl (by rw [boths_start, boths_start, h2, h3])
  · exact .inr h2
end Go.Proofs.YtdcebdleneieeaaDoor.Tree
