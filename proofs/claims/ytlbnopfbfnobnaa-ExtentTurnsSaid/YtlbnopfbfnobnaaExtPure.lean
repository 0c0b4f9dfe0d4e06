/-
  Runs of sectors, free lists and files' lists: plain mathematics of no package.
-/
namespace Go.Proofs.Ytlbnopfbfnobnaa.Ext

abbrev Rn := Int × Int
def sndB (r : Rn) : Bool := decide (0 ≤ r.1) && decide (1 ≤ r.2) && decide (r.2 ≤ 65536 - r.1)
theorem sndB_iff (r : Rn) : sndB r = true ↔ 0 ≤ r.1 ∧ 1 ≤ r.2 ∧ r.2 ≤ 65536 - r.1 := by
  simp [sndB, and_assoc]
def fileB (l : List Rn) : Bool := l.all sndB
theorem fileB_cons (r : Rn) (t : List Rn) : fileB (r :: t) = (sndB r && fileB t) := rfl
theorem fileB_mem {l : List Rn} (h : fileB l = true) {r : Rn} (hr : r ∈ l) : 0 ≤ r.1 ∧ 1 ≤ r.2 ∧ r.2 ≤ 65536 - r.1 := (sndB_iff r).1 (List.all_eq_true.1 h r hr)
theorem fileB_get {l : List Rn} (h : fileB l = true) (k : Nat) (hk : k < l.length) : 0 ≤ l[k].1 ∧ 1 ≤ l[k].2 ∧ l[k].2 ≤ 65536 - l[k].1 := fileB_mem h (List.getElem_mem hk)
theorem fileB_append (a b : List Rn) : fileB (a ++ b) = (fileB a && fileB b) := by simp [fileB]
def chk : Int → List Rn → Bool
  | _, [] => true
  | n, r :: t => sndB r && decide (n ≤ r.1) && chk (r.1 + r.2 + 1) t
theorem chk_cons {n : Int} {r : Rn} {t : List Rn} : chk n (r :: t) = true ↔ (0 ≤ r.1 ∧ 1 ≤ r.2 ∧ r.2 ≤ 65536 - r.1) ∧ n ≤ r.1 ∧ chk (r.1 + r.2 + 1) t = true := by
  simp [chk, sndB_iff, and_assoc]
theorem chk_file : ∀ {l : List Rn} {n : Int}, chk n l = true → fileB l = true
  | [], _, _ => rfl
  | r :: t, n, h => by
    obtain ⟨h1, _, h3⟩ := chk_cons.1 h
    rw [fileB_cons, (sndB_iff r).2 h1, chk_file h3]; rfl
theorem chk_mono {l : List Rn} {n m : Int} (h : chk n l = true) (hm : m ≤ n) : chk m l = true := by
  cases l with
  | nil => rfl
  | cons r t =>
    obtain ⟨h1, h2, h3⟩ := chk_cons.1 h
    exact chk_cons.2 ⟨h1, by omega, h3⟩
def tot : List Rn → Int
  | [] => 0
  | r :: t => r.2 + tot t
theorem tot_append : ∀ a b : List Rn, tot (a ++ b) = tot a + tot b
  | [], b => by simp [tot]
  | r :: t, b => by simp [tot, tot_append t b]; omega
theorem tot_nonneg : ∀ {l : List Rn}, fileB l = true → 0 ≤ tot l ∧ tot l ≤ 65536 * l.length
  | [], _ => by simp [tot]
  | r :: t, h => by
    rw [fileB_cons, Bool.and_eq_true, sndB_iff] at h
    have := tot_nonneg h.2
    simp only [tot, List.length_cons]
    omega
def hasB (l : List Rn) (s : Int) : Bool := l.any fun r => decide (1 ≤ r.2) && decide (r.1 ≤ s) && decide (s < r.1 + r.2)
theorem hasB_cons (r : Rn) (t : List Rn) (s : Int) : hasB (r :: t) s = true ↔ (1 ≤ r.2 ∧ r.1 ≤ s ∧ s < r.1 + r.2) ∨ hasB t s = true := by
  simp [hasB, and_assoc]
theorem hasB_append (a b : List Rn) (s : Int) : hasB (a ++ b) s = true ↔ hasB a s = true ∨ hasB b s = true := by
  simp [hasB]
theorem has_lb : ∀ {l : List Rn} {n s : Int}, chk n l = true → hasB l s = true → n ≤ s
  | [], _, _, _, h => by simp [hasB] at h
  | r :: t, n, s, h, hs => by
    obtain ⟨h1, h2, h3⟩ := chk_cons.1 h
    rcases (hasB_cons r t s).1 hs with h4 | h4
    · omega
    · have := has_lb h3 h4; omega
theorem not_has {l : List Rn} {n s : Int} (h : chk n l = true) (hs : s < n) : ¬ hasB l s = true := fun e => by have := has_lb h e; omega
/-- A set of sectors has one free list alone. -/
theorem free_ext : ∀ {l m : List Rn} {n k : Int}, chk n l = true → chk k m = true → (∀ s, hasB l s = true ↔ hasB m s = true) → l = m
  | [], [], _, _, _, _, _ => rfl
  | [], r :: t, n, k, _, hm, h => by
    obtain ⟨h1, h2, h3⟩ := chk_cons.1 hm
    have := (h r.1).2 ((hasB_cons r t _).2 (.inl (by omega)))
    simp [hasB] at this
  | r :: t, [], n, k, hl, _, h => by
    obtain ⟨h1, h2, h3⟩ := chk_cons.1 hl
    have := (h r.1).1 ((hasB_cons r t _).2 (.inl (by omega)))
    simp [hasB] at this
  | r :: t, r' :: t', n, k, hl, hm, h => by
    obtain ⟨a1, a2, a3⟩ := chk_cons.1 hl
    obtain ⟨b1, b2, b3⟩ := chk_cons.1 hm
    have e1 : r.1 = r'.1 := by
      have x := (hasB_cons r' t' _).1 ((h r.1).1 ((hasB_cons r t _).2 (.inl (by omega))))
      have y := (hasB_cons r t _).1 ((h r'.1).2 ((hasB_cons r' t' _).2 (.inl (by omega))))
      rcases x with x | x
      · rcases y with y | y
        · omega
        · have := has_lb a3 y; omega
      · have := has_lb b3 x
        rcases y with y | y
        · omega
        · have := has_lb a3 y; omega
    have e2 : r.2 = r'.2 := by
      rcases Int.lt_trichotomy r.2 r'.2 with c | c | c
      · have y := (hasB_cons r t _).1 ((h (r.1 + r.2)).2 ((hasB_cons r' t' _).2 (.inl (by omega))))
        rcases y with y | y
        · omega
        · have := has_lb a3 y; omega
      · exact c
      · have y := (hasB_cons r' t' _).1 ((h (r'.1 + r'.2)).1 ((hasB_cons r t _).2 (.inl (by omega))))
        rcases y with y | y
        · omega
        · have := has_lb b3 y; omega
    have e : r = r' := Prod.ext e1 e2
    subst e
    congr 1
    refine free_ext a3 b3 fun s => ?_
    by_cases hs : s < r.1 + r.2 + 1
    · exact ⟨fun x => absurd x (not_has a3 hs), fun x => absurd x (not_has b3 hs)⟩
    · constructor
      · intro x
        rcases (hasB_cons r t' s).1 ((h s).1 ((hasB_cons r t s).2 (.inr x))) with y | y
        · omega
        · exact y
      · intro x
        rcases (hasB_cons r t s).1 ((h s).2 ((hasB_cons r t' s).2 (.inr x))) with y | y
        · omega
        · exact y

/- The sectors of a file's list. -/
def rowS : Int → Nat → List Int
  | _, 0 => []
  | a, n + 1 => a :: rowS (a + 1) n
theorem rowS_length : ∀ (n : Nat) (a : Int), (rowS a n).length = n
  | 0, _ => rfl
  | n + 1, a => by simp [rowS, rowS_length n]
theorem rowS_append : ∀ (m n : Nat) (a : Int), rowS a (m + n) = rowS a m ++ rowS (a + m) n
  | 0, n, a => by simp [rowS]
  | m + 1, n, a => by
    rw [show m + 1 + n = (m + n) + 1 by omega, rowS, rowS, rowS_append m n (a + 1), List.cons_append]
    congr 3
    omega
theorem rowS_snoc (n : Nat) (a : Int) : rowS a (n + 1) = rowS a n ++ [a + n] := by
  rw [rowS_append n 1 a]; rfl
theorem mem_rowS : ∀ (n : Nat) (a s : Int), s ∈ rowS a n ↔ a ≤ s ∧ s < a + n
  | 0, a, s => by simp [rowS]
  | n + 1, a, s => by
    rw [rowS, List.mem_cons, mem_rowS n (a + 1) s]
    omega
def allS (l : List Rn) : List Int := l.flatMap fun r => rowS r.1 r.2.toNat
theorem allS_cons (r : Rn) (t : List Rn) : allS (r :: t) = rowS r.1 r.2.toNat ++ allS t := by simp [allS]
theorem allS_append (a b : List Rn) : allS (a ++ b) = allS a ++ allS b := by simp [allS]
theorem allS_length : ∀ {l : List Rn}, fileB l = true → ((allS l).length : Int) = tot l
  | [], _ => by simp [allS, tot]
  | r :: t, h => by
    rw [fileB_cons, Bool.and_eq_true, sndB_iff] at h
    rw [allS_cons, List.length_append, rowS_length]
    have := allS_length h.2
    simp only [tot]
    omega
theorem mem_allS : ∀ {l : List Rn}, fileB l = true → ∀ s, s ∈ allS l ↔ hasB l s = true
  | [], _, s => by simp [allS, hasB]
  | r :: t, h, s => by
    rw [fileB_cons, Bool.and_eq_true, sndB_iff] at h
    rw [allS_cons, List.mem_append, mem_rowS, hasB_cons, mem_allS h.2 s]
    constructor
    · rintro (x | x)
      · exact .inl (by omega)
      · exact .inr x
    · rintro (x | x)
      · exact .inl (by omega)
      · exact .inr x

/- The first n sectors, and the others. -/
def sf : List Rn → Int → List Rn
  | [], _ => []
  | r :: t, n => if r.2 ≤ n then r :: sf t (n - r.2) else if n ≤ 0 then [] else [(r.1, n)]
def sg : List Rn → Int → List Rn
  | [], _ => []
  | r :: t, n => if r.2 ≤ n then sg t (n - r.2) else if n ≤ 0 then r :: t else (r.1 + n, r.2 - n) :: t
theorem sf_zero : ∀ {l : List Rn}, fileB l = true → ∀ {n : Int}, n ≤ 0 → sf l n = []
  | [], _, _, _ => rfl
  | r :: t, h, n, hn => by
    rw [fileB_cons, Bool.and_eq_true, sndB_iff] at h
    rw [sf, if_neg (by omega), if_pos (by omega)]
theorem sg_zero : ∀ {l : List Rn}, fileB l = true → ∀ {n : Int}, n ≤ 0 → sg l n = l
  | [], _, _, _ => rfl
  | r :: t, h, n, hn => by
    rw [fileB_cons, Bool.and_eq_true, sndB_iff] at h
    rw [sg, if_neg (by omega), if_pos (by omega)]
theorem sf_file : ∀ {l : List Rn}, fileB l = true → ∀ n, fileB (sf l n) = true
  | [], _, _ => rfl
  | r :: t, h, n => by
    have h' := h
    rw [fileB_cons, Bool.and_eq_true] at h
    rw [sf]
    have := (sndB_iff r).1 h.1
    split
    · rw [fileB_cons, h.1, sf_file h.2]; rfl
    · split
      · rfl
      · rw [fileB_cons, (sndB_iff _).2 (by simp only; omega)]; rfl
theorem sg_file : ∀ {l : List Rn}, fileB l = true → ∀ n, fileB (sg l n) = true
  | [], _, _ => rfl
  | r :: t, h, n => by
    have h' := h
    rw [fileB_cons, Bool.and_eq_true] at h
    rw [sg]
    have := (sndB_iff r).1 h.1
    split
    · exact sg_file h.2 _
    · split
      · exact h'
      · rw [fileB_cons, (sndB_iff _).2 (by simp only; omega), h.2]; rfl
theorem sf_chk : ∀ {l : List Rn} {k : Int}, chk k l = true → ∀ n, chk k (sf l n) = true
  | [], _, _, _ => rfl
  | r :: t, k, h, n => by
    obtain ⟨h1, h2, h3⟩ := chk_cons.1 h
    rw [sf]
    split
    · exact chk_cons.2 ⟨h1, h2, sf_chk h3 _⟩
    · split
      · rfl
      · exact chk_cons.2 ⟨by simp only; omega, h2, rfl⟩
theorem sg_chk : ∀ {l : List Rn} {k : Int}, chk k l = true → ∀ n, chk k (sg l n) = true
  | [], _, _, _ => rfl
  | r :: t, k, h, n => by
    obtain ⟨h1, h2, h3⟩ := chk_cons.1 h
    rw [sg]
    split
    · exact chk_mono (sg_chk h3 _) (by omega)
    · split
      · exact h
      · refine chk_cons.2 ⟨by simp only; omega, by simp only; omega, ?_⟩
        simp only
        rw [show r.1 + n + (r.2 - n) + 1 = r.1 + r.2 + 1 by omega]
        exact h3
theorem cut_all : ∀ {l : List Rn}, fileB l = true → ∀ n, allS (sf l n) ++ allS (sg l n) = allS l
  | [], _, _ => rfl
  | r :: t, h, n => by
    rw [fileB_cons, Bool.and_eq_true, sndB_iff] at h
    rw [sf, sg]
    by_cases h1 : r.2 ≤ n
    · rw [if_pos h1, if_pos h1, allS_cons, List.append_assoc, cut_all h.2, allS_cons]
    · rw [if_neg h1, if_neg h1]
      by_cases h2 : n ≤ 0
      · rw [if_pos h2, if_pos h2]; rfl
      · rw [if_neg h2, if_neg h2, allS_cons, allS_cons, allS_cons, show allS ([] : List Rn) = [] from rfl, List.append_nil, ← List.append_assoc]
        simp only
        have e : r.1 + n = r.1 + (n.toNat : Int) := by omega
        rw [e, ← rowS_append, show n.toNat + (r.2 - n).toNat = r.2.toNat by omega]
theorem cut_tot : ∀ (l : List Rn) (n : Int), tot (sf l n) + tot (sg l n) = tot l
  | [], _ => rfl
  | r :: t, n => by
    rw [sf, sg]
    by_cases h1 : r.2 ≤ n
    · rw [if_pos h1, if_pos h1]
      have := cut_tot t (n - r.2)
      simp only [tot]
      omega
    · rw [if_neg h1, if_neg h1]
      by_cases h2 : n ≤ 0
      · rw [if_pos h2, if_pos h2]; simp [tot]
      · rw [if_neg h2, if_neg h2]; simp only [tot]; omega
theorem sf_tot : ∀ {l : List Rn}, fileB l = true → ∀ {n : Int}, 0 ≤ n → n ≤ tot l → tot (sf l n) = n
  | [], _, n, h0, h1 => by simp [tot] at h1; simp [sf, tot]; omega
  | r :: t, h, n, h0, h1 => by
    rw [fileB_cons, Bool.and_eq_true, sndB_iff] at h
    rw [sf]
    simp only [tot] at h1
    split
    · have := sf_tot h.2 (n := n - r.2) (by omega) (by omega)
      simp only [tot]
      omega
    · split
      · simp [tot]; omega
      · simp [tot]
theorem sf_all : ∀ {l : List Rn}, fileB l = true → ∀ {n : Int}, tot l ≤ n → sf l n = l
  | [], _, _, _ => rfl
  | r :: t, h, n, hn => by
    rw [fileB_cons, Bool.and_eq_true, sndB_iff] at h
    have := tot_nonneg h.2
    simp only [tot] at hn
    rw [sf, if_pos (by omega), sf_all h.2 (by omega)]
theorem sf_len : ∀ (l : List Rn) (n : Int), (sf l n).length ≤ l.length
  | [], _ => Nat.le_refl _
  | r :: t, n => by
    rw [sf]
    split
    · have := sf_len t (n - r.2); simp; omega
    · split <;> simp
theorem sg_len : ∀ (l : List Rn) (n : Int), (sg l n).length ≤ l.length
  | [], _ => Nat.le_refl _
  | r :: t, n => by
    rw [sg]
    split
    · have := sg_len t (n - r.2); simp; omega
    · split <;> simp
theorem cut_has {l : List Rn} (h : fileB l = true) (n s : Int) : hasB l s = true ↔ hasB (sf l n) s = true ∨ hasB (sg l n) s = true := by
  rw [← mem_allS h, ← mem_allS (sf_file h n), ← mem_allS (sg_file h n), ← cut_all h n, List.mem_append]
/-- What is ahead lies ahead. -/
theorem cut_apart : ∀ {l : List Rn} {k : Int}, chk k l = true → ∀ n s, hasB (sf l n) s = true → ¬ hasB (sg l n) s = true
  | [], _, _, _, _, h => by simp [sf, hasB] at h
  | r :: t, k, hl, n, s, h => by
    obtain ⟨h1, h2, h3⟩ := chk_cons.1 hl
    rw [sf] at h
    rw [sg]
    by_cases c1 : r.2 ≤ n
    · rw [if_pos c1] at h ⊢
      rcases (hasB_cons _ _ _).1 h with e | e
      · exact not_has (sg_chk h3 _) (by omega)
      · exact cut_apart h3 _ _ e
    · rw [if_neg c1] at h ⊢
      by_cases c2 : n ≤ 0
      · rw [if_pos c2] at h; simp [hasB] at h
      · rw [if_neg c2] at h ⊢
        rcases (hasB_cons _ _ _).1 h with e | e
        · intro x
          rcases (hasB_cons _ _ _).1 x with y | y
          · simp only at e y; omega
          · have := has_lb h3 y; simp only at e; omega
        · simp [hasB] at e

/- The document's own way to some of a file's sectors. -/
def rst : List Rn → Int → Int → List Rn
  | [], _, _ => []
  | r :: t, f, n => if r.2 ≤ f then rst t (f - r.2) n else if (if n < r.2 - f then n else r.2 - f) < 1 then [] else (r.1 + f, if n < r.2 - f then n else r.2 - f) :: rst t 0 (n - if n < r.2 - f then n else r.2 - f)
theorem rst_sf : ∀ {l : List Rn}, fileB l = true → ∀ n : Int, rst l 0 n = sf l n
  | [], _, _ => rfl
  | r :: t, h, n => by
    rw [fileB_cons, Bool.and_eq_true, sndB_iff] at h
    rw [rst, sf, if_neg (by omega)]
    by_cases h1 : r.2 ≤ n
    · rw [if_pos h1, if_neg (show ¬ n < r.2 - 0 by omega), if_neg (by omega), rst_sf h.2]
      simp
    · rw [if_neg h1, if_pos (show n < r.2 - 0 by omega)]
      by_cases h2 : n ≤ 0
      · rw [if_pos h2, if_pos (by omega)]
      · rw [if_neg h2, if_neg (by omega), rst_sf h.2, sf_zero h.2 (by omega)]
        simp
theorem rst_cut : ∀ {l : List Rn}, fileB l = true → ∀ {f : Int}, 0 ≤ f → ∀ n : Int, rst l f n = sf (sg l f) n
  | [], _, _, _, _ => rfl
  | r :: t, h, f, hf, n => by
    have h' := h
    rw [fileB_cons, Bool.and_eq_true, sndB_iff] at h
    rw [sg]
    by_cases h1 : r.2 ≤ f
    · rw [rst, if_pos h1, if_pos h1, rst_cut h.2 (by omega)]
    · rw [if_neg h1]
      by_cases h0 : f ≤ 0
      · obtain rfl : f = 0 := by omega
        rw [if_pos h0, rst_sf h']
      · rw [if_neg h0, rst, if_neg h1, sf]
        simp only
        by_cases h2 : r.2 - f ≤ n
        · rw [if_pos h2, if_neg (show ¬ n < r.2 - f by omega), if_neg (by omega), rst_sf h.2]
        · rw [if_neg h2, if_pos (show n < r.2 - f by omega)]
          by_cases h3 : n ≤ 0
          · rw [if_pos h3, if_pos (by omega)]
          · rw [if_neg h3, if_neg (by omega), rst_sf h.2, sf_zero h.2 (by omega)]
theorem rst_rest {l : List Rn} (h : fileB l = true) {f : Int} (hf : 0 ≤ f) {n : Int} (hn : tot l ≤ n) : rst l f n = sg l f := by
  rw [rst_cut h hf, sf_all (sg_file h f)]
  have h1 := cut_tot l f
  have h2 := tot_nonneg (sf_file h f)
  omega
theorem sf_max {l : List Rn} (h : fileB l = true) (n : Int) : sf l (max n 0) = sf l n := by
  by_cases hn : 0 ≤ n
  · rw [Int.max_eq_left hn]
  · rw [Int.max_eq_right (by omega), sf_zero h (by omega), sf_zero h (by omega)]
end Go.Proofs.Ytlbnopfbfnobnaa.Ext
