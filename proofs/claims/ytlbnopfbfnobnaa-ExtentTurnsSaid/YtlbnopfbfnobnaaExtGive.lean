/-
  Runs that are given to a free list, files' lists that are joined: plain mathematics of no package.
-/
import Derived.Test.YtlbnopfbfnobnaaExtPure
namespace Go.Proofs.Ytlbnopfbfnobnaa.Ext

def jn : List Rn → List Rn → List Rn
  | [], b => b
  | [x], [] => [x]
  | [x], y :: t => if x.1 + x.2 = y.1 then (x.1, x.2 + y.2) :: t else x :: y :: t
  | x :: x' :: t, b => x :: jn (x' :: t) b
theorem jn_nil : ∀ a : List Rn, jn a [] = a
  | [] => rfl
  | [_] => rfl
  | x :: x' :: t => by rw [jn, jn_nil (x' :: t)]
theorem jn_cons (x : Rn) {a : List Rn} (h : a ≠ []) (b : List Rn) : jn (x :: a) b = x :: jn a b := by
  cases a with
  | nil => exact absurd rfl h
  | cons x' t => rw [jn]
theorem jn_one (x y : Rn) (t : List Rn) : jn [x] (y :: t) = if x.1 + x.2 = y.1 then (x.1, x.2 + y.2) :: t else x :: y :: t := by rw [jn]
theorem jn_snoc : ∀ (p : List Rn) (x y : Rn) (t : List Rn), jn (p ++ [x]) (y :: t) = p ++ if x.1 + x.2 = y.1 then (x.1, x.2 + y.2) :: t else x :: y :: t
  | [], x, y, t => by rw [List.nil_append, jn_one]; rfl
  | p :: q, x, y, t => by
    rw [List.cons_append, jn_cons _ (by simp), jn_snoc q, List.cons_append]
theorem jn_ne {a : List Rn} (y : Rn) (t : List Rn) : jn a (y :: t) ≠ [] := by
  match a with
  | [] => simp [jn]
  | [x] => rw [jn_one]; split <;> simp
  | x :: x' :: t => simp [jn]
theorem jn_all : ∀ {a b : List Rn}, fileB a = true → fileB b = true → allS (jn a b) = allS a ++ allS b
  | [], _, _, _ => rfl
  | [x], [], _, _ => by rw [jn, allS_cons]; simp [allS]
  | [x], y :: t, ha, hb => by
    rw [fileB_cons, Bool.and_eq_true, sndB_iff] at ha hb
    rw [jn_one]
    split
    · rename_i h
      rw [allS_cons, allS_cons, allS_cons, show allS ([] : List Rn) = [] from rfl, List.append_nil, ← List.append_assoc, ← h]
      simp only
      rw [show (x.2 + y.2).toNat = x.2.toNat + y.2.toNat by omega, rowS_append, show x.1 + (x.2.toNat : Int) = x.1 + x.2 by omega]
    · rw [← allS_append]; rfl
  | x :: x' :: t, b, ha, hb => by
    rw [jn, allS_cons, allS_cons, List.append_assoc, jn_all (by rw [fileB_cons, Bool.and_eq_true] at ha; exact ha.2) hb]
theorem jn_file : ∀ {a b : List Rn}, fileB a = true → fileB b = true → fileB (jn a b) = true
  | [], _, _, hb => hb
  | [x], [], ha, _ => ha
  | [x], y :: t, ha, hb => by
    have hb' := hb
    have ha' := ha
    rw [fileB_cons, Bool.and_eq_true, sndB_iff] at ha hb
    rw [jn_one]
    split
    · rw [fileB_cons, (sndB_iff _).2 (by simp only; omega), hb.2]; rfl
    · have : fileB ([x] ++ y :: t) = true := by rw [fileB_append, ha', hb']; rfl
      exact this
  | x :: x' :: t, b, ha, hb => by
    rw [fileB_cons, Bool.and_eq_true] at ha
    rw [jn, fileB_cons, ha.1, jn_file ha.2 hb]; rfl
theorem jn_len : ∀ (a b : List Rn), (jn a b).length ≤ a.length + b.length
  | [], b => by simp [jn]
  | [x], [] => by simp [jn]
  | [x], y :: t => by rw [jn_one]; split <;> simp <;> omega
  | x :: x' :: t, b => by
    have := jn_len (x' :: t) b
    rw [jn]; simp only [List.length_cons] at this ⊢; omega

def gvT (x r : Rn) : List Rn → Option (List Rn)
  | [] => some [(x.1, x.2 + r.2)]
  | y :: u => if r.1 + r.2 < y.1 then some ((x.1, x.2 + r.2) :: y :: u) else if r.1 + r.2 = y.1 then some ((x.1, x.2 + r.2 + y.2) :: u) else none
def gv : List Rn → Rn → Option (List Rn)
  | [], r => some [r]
  | x :: t, r =>
    if x.1 + x.2 < r.1 then (gv t r).map (x :: ·)
    else if r.1 + r.2 < x.1 then some (r :: x :: t)
    else if x.1 + x.2 = r.1 then gvT x r t
    else if r.1 + r.2 = x.1 then some ((r.1, r.2 + x.2) :: t)
    else none
structure Given (n : Int) (l : List Rn) (r : Rn) (m : List Rn) : Prop where
  chk : chk n m = true
  has : ∀ s, hasB m s = true ↔ hasB l s = true ∨ (r.1 ≤ s ∧ s < r.1 + r.2)
  tot : tot m = tot l + r.2
  len : m.length ≤ l.length + 1
  free : ∀ s, r.1 ≤ s → s < r.1 + r.2 → ¬ hasB l s = true
theorem gv_spec : ∀ {l : List Rn} {n : Int} {r : Rn}, chk n l = true → 0 ≤ r.1 → 1 ≤ r.2 → r.2 ≤ 65536 - r.1 → n ≤ r.1 →
    match gv l r with
    | some m => Given n l r m
    | none => ∃ s, r.1 ≤ s ∧ s < r.1 + r.2 ∧ hasB l s = true
  | [], n, r, _, h1, h2, h3, h4 => ⟨chk_cons.2 ⟨by omega, h4, rfl⟩, fun s => by rw [hasB_cons]; simp [hasB]; omega, by simp [tot], by simp, fun s _ _ h => by simp [hasB] at h⟩
  | x :: t, n, r, hl, h1, h2, h3, h4 => by
    obtain ⟨a1, a2, a3⟩ := chk_cons.1 hl
    by_cases c1 : x.1 + x.2 < r.1
    · have ih := gv_spec (r := r) a3 h1 h2 h3 (by omega)
      rw [gv, if_pos c1]
      cases hg : gv t r with
      | none =>
        rw [hg] at ih
        obtain ⟨s, s1, s2, s3⟩ := ih
        exact ⟨s, s1, s2, (hasB_cons _ _ _).2 (.inr s3)⟩
      | some m =>
        rw [hg] at ih
        obtain ⟨i1, i2, i3, i4, i5⟩ := ih
        refine ⟨chk_cons.2 ⟨a1, a2, i1⟩, fun s => ?_, by simp only [tot]; omega, by simp only [List.length_cons]; omega, fun s s1 s2 h => ?_⟩
        · rw [hasB_cons, i2, hasB_cons, or_assoc]
        · rcases (hasB_cons _ _ _).1 h with e | e
          · omega
          · exact i5 s s1 s2 e
    · by_cases c2 : r.1 + r.2 < x.1
      · rw [gv, if_neg c1, if_pos c2]
        refine ⟨chk_cons.2 ⟨by omega, h4, chk_cons.2 ⟨a1, by omega, a3⟩⟩, fun s => ?_, by simp only [tot]; omega, by simp, fun s s1 s2 h => ?_⟩
        · rw [hasB_cons, Or.comm]
          constructor
          · rintro (e | e)
            · exact .inl e
            · exact .inr (by omega)
          · rintro (e | e)
            · exact .inl e
            · exact .inr (by omega)
        · rcases (hasB_cons _ _ _).1 h with e | e
          · omega
          · have := has_lb a3 e; omega
      · by_cases c3 : x.1 + x.2 = r.1
        · rw [gv, if_neg c1, if_neg c2, if_pos c3]
          cases t with
          | nil =>
            rw [gvT]
            refine ⟨chk_cons.2 ⟨by simp only; omega, a2, rfl⟩, fun s => ?_, by simp only [tot]; omega, by simp, fun s s1 s2 h => ?_⟩
            · rw [hasB_cons, hasB_cons]
              simp [hasB]; omega
            · rcases (hasB_cons _ _ _).1 h with e | e
              · omega
              · simp [hasB] at e
          | cons y u =>
            obtain ⟨b1, b2, b3⟩ := chk_cons.1 a3
            rw [gvT]
            by_cases c4 : r.1 + r.2 < y.1
            · simp only [if_pos c4]
              refine ⟨chk_cons.2 ⟨by simp only; omega, a2, chk_cons.2 ⟨b1, by simp only; omega, b3⟩⟩, fun s => ?_, by simp only [tot]; omega, by simp, fun s s1 s2 h => ?_⟩
              · rw [hasB_cons, hasB_cons x]
                constructor
                · rintro (e | e)
                  · simp only at e
                    by_cases q : s < r.1
                    · exact .inl (.inl (by omega))
                    · exact .inr (by omega)
                  · exact .inl (.inr e)
                · rintro ((e | e) | e)
                  · exact .inl (by simp only; omega)
                  · exact .inr e
                  · exact .inl (by simp only; omega)
              · rcases (hasB_cons _ _ _).1 h with e | e
                · omega
                · rcases (hasB_cons _ _ _).1 e with e | e
                  · omega
                  · have := has_lb b3 e; omega
            · simp only [if_neg c4]
              by_cases c5 : r.1 + r.2 = y.1
              · simp only [if_pos c5]
                refine ⟨chk_cons.2 ⟨by simp only; omega, a2, chk_mono b3 (by simp only; omega)⟩, fun s => ?_, by simp only [tot]; omega, by simp, fun s s1 s2 h => ?_⟩
                · rw [hasB_cons, hasB_cons x, hasB_cons y]
                  constructor
                  · rintro (e | e)
                    · simp only at e
                      by_cases q : s < r.1
                      · exact .inl (.inl (by omega))
                      · by_cases q' : s < y.1
                        · exact .inr (by omega)
                        · exact .inl (.inr (.inl (by omega)))
                    · exact .inl (.inr (.inr e))
                  · rintro ((e | e | e) | e)
                    · exact .inl (by simp only; omega)
                    · exact .inl (by simp only; omega)
                    · exact .inr e
                    · exact .inl (by simp only; omega)
                · rcases (hasB_cons _ _ _).1 h with e | e
                  · omega
                  · rcases (hasB_cons _ _ _).1 e with e | e
                    · omega
                    · have := has_lb b3 e; omega
              · simp only [if_neg c5]
                exact ⟨y.1, by omega, by omega, (hasB_cons _ _ _).2 (.inr ((hasB_cons _ _ _).2 (.inl (by omega))))⟩
        · by_cases c4 : r.1 + r.2 = x.1
          · rw [gv, if_neg c1, if_neg c2, if_neg c3, if_pos c4]
            refine ⟨chk_cons.2 ⟨by simp only; omega, by simp only; omega, chk_mono a3 (by simp only; omega)⟩, fun s => ?_, by simp only [tot]; omega, by simp, fun s s1 s2 h => ?_⟩
            · rw [hasB_cons, hasB_cons x]
              constructor
              · rintro (e | e)
                · simp only at e
                  by_cases q : s < x.1
                  · exact .inr (by omega)
                  · exact .inl (.inl (by omega))
                · exact .inl (.inr e)
              · rintro ((e | e) | e)
                · exact .inl (by simp only; omega)
                · exact .inr e
                · exact .inl (by simp only; omega)
            · rcases (hasB_cons _ _ _).1 h with e | e
              · omega
              · have := has_lb a3 e; omega
          · rw [gv, if_neg c1, if_neg c2, if_neg c3, if_neg c4]
            by_cases c5 : r.1 ≤ x.1
            · exact ⟨x.1, by omega, by omega, (hasB_cons _ _ _).2 (.inl (by omega))⟩
            · exact ⟨r.1, by omega, by omega, (hasB_cons _ _ _).2 (.inl (by omega))⟩

/- As the program goes about it. -/
def bs : List Rn → Rn → Nat → Nat → Nat → Option (Nat × Nat)
  | [], _, _, f, t => some (f, t)
  | x :: u, r, i, f, t =>
    if x.1 + x.2 < r.1 then bs u r (i + 1) (i + 1) (i + 1)
    else if r.1 + r.2 < x.1 then some (f, t)
    else if x.1 + x.2 = r.1 ∨ r.1 + r.2 = x.1 then bs u r (i + 1) f (i + 1)
    else none
def jo (a b : Rn) : Rn := (min a.1 b.1, a.2 + b.2)
def gvAt (l : List Rn) (r : Rn) : Option (Nat × Nat) → Option (List Rn)
  | none => none
  | some (f, t) => some (l.take f ++ ((l.take t).drop f).foldl jo r :: l.drop t)
def gvE (l : List Rn) (r : Rn) : Option (List Rn) := gvAt l r (bs l r 0 0 0)
theorem bs_shift : ∀ (l : List Rn) (r : Rn) (i f t : Nat), bs l r (i + 1) (f + 1) (t + 1) = (bs l r i f t).map fun p => (p.1 + 1, p.2 + 1)
  | [], _, _, _, _ => rfl
  | x :: u, r, i, f, t => by
    rw [bs, bs]
    split
    · exact bs_shift u r (i + 1) (i + 1) (i + 1)
    · split
      · rfl
      · split
        · exact bs_shift u r (i + 1) f (i + 1)
        · rfl
theorem bs_lt : ∀ (l : List Rn) (r : Rn) (i f t : Nat), f ≤ t → t ≤ i → ∀ f' t', bs l r i f t = some (f', t') → f' ≤ t' ∧ t' ≤ i + l.length
  | [], _, i, f, t, h1, h2, f', t', h => by
    simp [bs] at h; obtain ⟨rfl, rfl⟩ := h; simp; omega
  | x :: u, r, i, f, t, h1, h2, f', t', h => by
    rw [bs] at h
    split at h
    · have := bs_lt u r (i + 1) _ _ (Nat.le_refl _) (Nat.le_refl _) f' t' h; simp only [List.length_cons]; omega
    · split at h
      · simp at h; obtain ⟨rfl, rfl⟩ := h; simp only [List.length_cons]; omega
      · split at h
        · have := bs_lt u r (i + 1) f (i + 1) (by omega) (Nat.le_refl _) f' t' h; simp only [List.length_cons]; omega
        · cases h
theorem gvE_eq : ∀ {l : List Rn} {n : Int} {r : Rn}, chk n l = true → 0 ≤ r.1 → 1 ≤ r.2 → r.2 ≤ 65536 - r.1 → gvE l r = gv l r
  | [], _, r, _, _, _, _ => rfl
  | x :: t, n, r, hl, h1, h2, h3 => by
    obtain ⟨a1, a2, a3⟩ := chk_cons.1 hl
    unfold gvE
    rw [bs, gv]
    by_cases c1 : x.1 + x.2 < r.1
    · rw [if_pos c1, if_pos c1, bs_shift, ← gvE_eq a3 h1 h2 h3]
      unfold gvE
      cases bs t r 0 0 0 with
      | none => rfl
      | some p => simp [gvAt]
    · rw [if_neg c1, if_neg c1]
      by_cases c2 : r.1 + r.2 < x.1
      · rw [if_pos c2, if_pos c2]; simp [gvAt]
      · rw [if_neg c2, if_neg c2]
        by_cases c3 : x.1 + x.2 = r.1
        · rw [if_pos c3, if_pos (.inl c3)]
          cases t with
          | nil => simp [gvAt, bs, jo, gvT]; omega
          | cons y u =>
            obtain ⟨b1, b2, b3⟩ := chk_cons.1 a3
            rw [bs, if_neg (by omega), gvT]
            by_cases c4 : r.1 + r.2 < y.1
            · rw [if_pos c4, if_pos c4]; simp [gvAt, jo]; omega
            · rw [if_neg c4, if_neg c4]
              by_cases c5 : r.1 + r.2 = y.1
              · rw [if_pos (.inr c5), if_pos c5]
                cases u with
                | nil => simp [gvAt, bs, jo]; omega
                | cons z v =>
                  obtain ⟨d1, d2, d3⟩ := chk_cons.1 b3
                  rw [bs, if_neg (by omega), if_pos (by omega)]
                  simp [gvAt, jo]; omega
              · rw [if_neg (by omega), if_neg c5]; rfl
        · rw [if_neg c3]
          by_cases c4 : r.1 + r.2 = x.1
          · rw [if_pos c4, if_pos (.inr c4)]
            cases t with
            | nil => simp [gvAt, bs, jo]; omega
            | cons y u =>
              obtain ⟨b1, b2, b3⟩ := chk_cons.1 a3
              rw [bs, if_neg (by omega), if_pos (by omega)]
              simp [gvAt, jo]; omega
          · rw [if_neg c4, if_neg (by omega)]; rfl

/- As the document has it. -/
def ovB (l : List Rn) (r : Rn) : Bool := l.any fun x => decide (x.1 < r.1 + r.2) && decide (r.1 < x.1 + x.2)
theorem ovB_cons (x : Rn) (t : List Rn) (r : Rn) : ovB (x :: t) r = ((decide (x.1 < r.1 + r.2) && decide (r.1 < x.1 + x.2)) || ovB t r) := rfl
def ahead (l : List Rn) (r : Rn) : Nat := (l.takeWhile fun x => decide (x.1 < r.1)).length
theorem ahead_le (l : List Rn) (r : Rn) : ahead l r ≤ l.length := (List.takeWhile_prefix _).length_le
theorem ahead_cons (x : Rn) (t : List Rn) (r : Rn) : ahead (x :: t) r = if x.1 < r.1 then ahead t r + 1 else 0 := by
  unfold ahead
  rw [List.takeWhile_cons]
  by_cases h : x.1 < r.1 <;> simp [h]
def gvR (l : List Rn) (r : Rn) : Option (List Rn) := if ovB l r = true then none else some (jn (jn (l.take (ahead l r)) [r]) (l.drop (ahead l r)))
theorem ov_far : ∀ {l : List Rn} {n : Int} {r : Rn}, chk n l = true → r.1 + r.2 ≤ n → ovB l r = false
  | [], _, _, _, _ => rfl
  | x :: t, n, r, hl, h => by
    obtain ⟨a1, a2, a3⟩ := chk_cons.1 hl
    rw [ovB_cons, ov_far a3 (by omega)]
    simp; omega
theorem ahead_far : ∀ {l : List Rn} {n : Int} {r : Rn}, chk n l = true → r.1 ≤ n → ahead l r = 0
  | [], _, _, _, _ => rfl
  | x :: t, n, r, hl, h => by
    obtain ⟨a1, a2, a3⟩ := chk_cons.1 hl
    rw [ahead_cons, if_neg (by omega)]
theorem gvR_eq : ∀ {l : List Rn} {n : Int} {r : Rn}, chk n l = true → 0 ≤ r.1 → 1 ≤ r.2 → r.2 ≤ 65536 - r.1 → gvR l r = gv l r
  | [], _, r, _, _, _, _ => rfl
  | x :: t, n, r, hl, h1, h2, h3 => by
    obtain ⟨a1, a2, a3⟩ := chk_cons.1 hl
    unfold gvR
    rw [gv, ovB_cons, ahead_cons]
    by_cases c1 : x.1 + x.2 < r.1
    · rw [if_pos c1, if_pos (show x.1 < r.1 by omega), ← gvR_eq a3 h1 h2 h3, decide_eq_false (show ¬ r.1 < x.1 + x.2 by omega), Bool.and_false, Bool.false_or]
      unfold gvR
      by_cases ho : ovB t r = true
      · rw [if_pos ho, if_pos ho]; rfl
      · rw [if_neg ho, if_neg ho, List.take_succ_cons, List.drop_succ_cons]
        simp only [Option.map_some]
        congr 1
        obtain ⟨p, hp⟩ : ∃ p, p = t.take (ahead t r) := ⟨_, rfl⟩
        rw [← hp]
        have e : jn (x :: p) [r] = x :: jn p [r] := by
          cases p with
          | nil => rw [jn_one, if_neg (by omega)]; rfl
          | cons y u => exact jn_cons _ (by simp) _
        rw [e, jn_cons _ (jn_ne _ _)]
    · rw [if_neg c1]
      by_cases c2 : r.1 + r.2 < x.1
      · rw [if_pos c2, if_neg (show ¬ x.1 < r.1 by omega), ov_far a3 (by omega), decide_eq_false (show ¬ x.1 < r.1 + r.2 by omega)]
        simp [jn]; omega
      · rw [if_neg c2]
        by_cases c3 : x.1 + x.2 = r.1
        · rw [if_pos c3, if_pos (show x.1 < r.1 by omega), ahead_far a3 (by omega), decide_eq_false (show ¬ r.1 < x.1 + x.2 by omega), Bool.and_false, Bool.false_or, List.take_succ_cons, List.drop_succ_cons, List.take_zero, List.drop_zero, jn_one, if_pos c3]
          cases t with
          | nil => simp [ovB, jn, gvT]
          | cons y u =>
            obtain ⟨b1, b2, b3⟩ := chk_cons.1 a3
            rw [ovB_cons, jn_one, gvT]
            simp only
            by_cases c4 : r.1 + r.2 < y.1
            · rw [if_pos c4, ov_far b3 (by omega), decide_eq_false (show ¬ y.1 < r.1 + r.2 by omega), Bool.false_and, Bool.false_or, if_neg Bool.false_ne_true, if_neg (show ¬ x.1 + (x.2 + r.2) = y.1 by omega)]
            · rw [if_neg c4]
              by_cases c5 : r.1 + r.2 = y.1
              · rw [if_pos c5, ov_far b3 (by omega), decide_eq_false (show ¬ y.1 < r.1 + r.2 by omega), Bool.false_and, Bool.false_or, if_neg Bool.false_ne_true, if_pos (show x.1 + (x.2 + r.2) = y.1 by omega)]
              · rw [if_neg c5, decide_eq_true (show y.1 < r.1 + r.2 by omega), decide_eq_true (show r.1 < y.1 + y.2 by omega)]
                rfl
        · rw [if_neg c3]
          by_cases c4 : r.1 + r.2 = x.1
          · rw [if_pos c4, if_neg (show ¬ x.1 < r.1 by omega), ov_far a3 (by omega), decide_eq_false (show ¬ x.1 < r.1 + r.2 by omega)]
            simp [jn]; omega
          · rw [if_neg c4, decide_eq_true (show x.1 < r.1 + r.2 by omega), decide_eq_true (show r.1 < x.1 + x.2 by omega)]
            rfl
end Go.Proofs.Ytlbnopfbfnobnaa.Ext
