/-
  Several texts in one (JnlPure, JnlGood, JnlOps, JnlOpen).
-/
import Derived.Test.YtfcocbgdmmeikaaGreatDoorDiskPure
/-! ## Plain mathematics of a journal: what may lie on a disk behind a crash; transactions in slots that go round; what a look through the slots finds. No walk, no program. -/
namespace Go.Proofs.YtfcocbgdmmeikaaGreatDoor.Jnl
open Go Dsk

/-- Behind a crash v may lie in sector a. -/
def Poss (d : Dk) (a : Nat) (v : ByteArray) : Prop := v = d.lies.getD a .empty ∨ (a, v) ∈ d.cache
/-- Nothing but v may lie in sector a. -/
def Sure (d : Dk) (a : Nat) (v : ByteArray) : Prop := ∀ u, Poss d a u → u = v

theorem rdK_poss (L : List ByteArray) (c : List (Nat × ByteArray)) (a : Nat) : ∀ k, k ≤ c.length → rdK L c a k = L.getD a .empty ∨ (a, rdK L c a k) ∈ c
  | 0, _ => .inl rfl
  | k + 1, h => by
    unfold rdK
    by_cases e : (cAt c k).1 = a
    · rw [if_pos e]
      refine .inr ?_
      have h1 := cAt_lt c k (by omega)
      rw [← e]
      exact h1
    · rw [if_neg e]
      exact rdK_poss L c a k (by omega)
theorem read_poss (d : Dk) (a : Nat) : Poss d a (read d a) := rdK_poss _ _ _ _ (Nat.le_refl _)
theorem Sure.read {d : Dk} {a : Nat} {v : ByteArray} (h : Sure d a v) : read d a = v := h _ (read_poss d a)
theorem stK_poss (pick : Nat → Bool) (L : List ByteArray) (c : List (Nat × ByteArray)) (a : Nat) (h : a < L.length) : (stK pick L c c.length).getD a .empty = L.getD a .empty ∨ (a, (stK pick L c c.length).getD a .empty) ∈ c := by
  rcases stK_one pick L c a h c.length with e | ⟨j, h1, h2, h3⟩
  · exact .inl e
  · refine .inr ?_
    rw [h3, ← h2]
    exact cAt_lt c j h1
/-- What lies behind a crash is one of what may. -/
theorem crash_poss (d : Dk) (pick : Nat → Bool) (a : Nat) (ha : a < d.lies.length) : Poss d a ((crash d pick).lies.getD a .empty) := stK_poss pick _ _ a ha
theorem crash_sure (d : Dk) (pick : Nat → Bool) (a : Nat) : Sure (crash d pick) a ((crash d pick).lies.getD a .empty) := by
  rintro u (h | h)
  · exact h
  · exact absurd h (by simp [crash])
theorem crash_len (d : Dk) (pick : Nat → Bool) : (crash d pick).lies.length = d.lies.length := stK_length _ _ _ _
theorem step_poss (d : Dk) (a : Nat) (u : ByteArray) : Poss (Dsk.step d) a u ↔ Poss d a u := by
  unfold Poss
  rw [step_lies, step_cache]
theorem write_poss {d : Dk} {a : Nat} {v : ByteArray} {b : Nat} {u : ByteArray} (h : Poss (write d a v) b u) : Poss d b u ∨ (b = a ∧ u = v) := by
  unfold write at h
  split at h
  · rcases h with h | h
    · rw [show (put (Dsk.step d) a v).lies = d.lies from step_lies d] at h
      exact .inl (.inl h)
    · rw [show (put (Dsk.step d) a v).cache = d.cache ++ [(a, v)] by simp only [put, step_cache]] at h
      rcases List.mem_append.1 h with h | h
      · exact .inl (.inr h)
      · rw [List.mem_singleton] at h
        injection h with h1 h2
        exact .inr ⟨h1, h2⟩
  · exact .inl ((step_poss d b u).1 h)
theorem write_sure {d : Dk} {a : Nat} {v : ByteArray} {b : Nat} {u : ByteArray} (h : Sure d b u) (hb : b ≠ a) : Sure (write d a v) b u := by
  intro x hx
  rcases write_poss hx with h1 | ⟨h1, _⟩
  · exact h x h1
  · exact absurd h1 hb
theorem write_same {d : Dk} {a : Nat} {v : ByteArray} (h : Sure d a v) : Sure (write d a v) a v := by
  intro x hx
  rcases write_poss hx with h1 | ⟨_, h1⟩
  · exact h x h1
  · exact h1
theorem write_len (d : Dk) (a : Nat) (v : ByteArray) : (write d a v).lies.length = d.lies.length := by rw [write_lies]
theorem write_read {d : Dk} (a : Nat) (v : ByteArray) (b : Nat) (hm : may d = true) : read (write d a v) b = if a = b then v else read d b := by
  unfold write
  rw [if_pos hm, read_put]
  unfold Dsk.read
  rw [step_lies, step_cache]
theorem flush_sure {d : Dk} (a : Nat) (ha : a < d.lies.length) (hm : may d = true) : Sure (flush d) a (read d a) := by
  intro u hu
  unfold flush at hu
  rw [if_pos hm] at hu
  rcases hu with h | h
  · rw [h]
    show (stK all (Dsk.step d).lies (Dsk.step d).cache (Dsk.step d).cache.length).getD a .empty = _
    rw [step_lies, step_cache]
    exact stK_all _ _ _ ha _
  · exact absurd h (by simp [settle])
theorem flush_poss {d : Dk} {a : Nat} {u : ByteArray} (ha : a < d.lies.length) (h : Poss (flush d) a u) : Poss d a u := by
  by_cases hm : may d = true
  · rw [flush_sure a ha hm u h]
    exact read_poss d a
  · unfold flush at h
    rw [if_neg hm] at h
    exact (step_poss d a u).1 h
theorem flush_keeps {d : Dk} {a : Nat} {v : ByteArray} (ha : a < d.lies.length) (h : Sure d a v) : Sure (flush d) a v := fun u hu => h u (flush_poss ha hu)

/-- The lines of a journal: what is asked of them. -/
structure Lines where
  head : Nat → Nat → ByteArray
  first : Nat → List Nat → ByteArray
  last : Nat → Nat → ByteArray
  first_ne : ∀ s l, first s l ≠ zeroB
  last_ne : ∀ s n, last s n ≠ zeroB
  first_inj : ∀ s s' l l', s ≤ 2 ^ 40 → s' ≤ 2 ^ 40 → l.length ≤ 60 → l'.length ≤ 60 → (∀ x ∈ l, x ≤ 65535) → (∀ x ∈ l', x ≤ 65535) → first s l = first s' l' → s = s' ∧ l = l'

/-- A transaction: its writes. -/
abbrev Txn := List (Nat × ByteArray)
/-- Transaction t, of the number s, has the slots from p on (of m slots, that hold R). -/
structure TxAt (Λ : Lines) (R : Nat → ByteArray) (m p s : Nat) (t : Txn) : Prop where
  pos : 1 ≤ t.length
  most : t.length ≤ 60
  ats : ∀ x ∈ t, x.1 ≤ 65535
  fst : R (p % m) = Λ.first s (t.map Prod.fst)
  mid : ∀ i (h : i < t.length), R ((p + 1 + i) % m) = t[i].2
  lst : R ((p + t.length + 1) % m) = Λ.last s t.length
/-- How many slots transactions have. -/
def slots : List Txn → Nat
  | [] => 0
  | t :: l => t.length + 2 + slots l
/-- Transactions, one behind the other. -/
def Row (Λ : Lines) (R : Nat → ByteArray) (m : Nat) : Nat → Nat → List Txn → Prop
  | _, _, [] => True
  | p, s, t :: l => TxAt Λ R m p s t ∧ Row Λ R m (p + t.length + 2) (s + 1) l
/-- No transaction of the number s that has room is at p. -/
def Stops (Λ : Lines) (R : Nat → ByteArray) (m p s used : Nat) : Prop := ∀ t, TxAt Λ R m p s t → ¬ used + t.length + 2 ≤ m
/-- A look through the slots from p and s on, with so many used: it finds l, and stops. -/
inductive Look (Λ : Lines) (R : Nat → ByteArray) (m : Nat) : Nat → Nat → Nat → List Txn → Prop where
  | stop (p s used : Nat) (h : Stops Λ R m p s used) : Look Λ R m p s used []
  | go (p s used : Nat) (t : Txn) (l : List Txn) (h : TxAt Λ R m p s t) (hu : used + t.length + 2 ≤ m) (r : Look Λ R m (p + t.length + 2) (s + 1) (used + t.length + 2) l) : Look Λ R m p s used (t :: l)

theorem TxAt.one {Λ : Lines} {R : Nat → ByteArray} {m p s : Nat} {t u : Txn} (hs : s ≤ 2 ^ 40) (h : TxAt Λ R m p s t) (k : TxAt Λ R m p s u) : t = u := by
  have h1 := h.fst.symm.trans k.fst
  have h2 := (Λ.first_inj s s _ _ hs hs (by rw [List.length_map]; exact h.most) (by rw [List.length_map]; exact k.most) (by simpa using fun a b hx => h.ats (a, b) hx) (by simpa using fun a b hx => k.ats (a, b) hx) h1).2
  have hl : t.length = u.length := by simpa using congrArg List.length h2
  apply List.ext_getElem hl
  intro i hi hj
  have e1 : t[i].1 = u[i].1 := by
    have := congrArg (fun l => l[i]?) h2
    simpa [hi, hj] using this
  have e2 : t[i].2 = u[i].2 := (h.mid i hi).symm.trans (k.mid i hj)
  exact Prod.ext e1 e2
theorem Look.one {Λ : Lines} {R : Nat → ByteArray} {m : Nat} : ∀ {l l' : List Txn} {p s used : Nat}, s + l.length ≤ 2 ^ 40 → Look Λ R m p s used l → Look Λ R m p s used l' → l = l'
  | [], l', p, s, used, _, h, k => by
    cases h with
    | stop _ _ _ h =>
      cases k with
      | stop => rfl
      | go _ _ _ t l h' hu r => exact absurd hu (h t h')
  | t :: l, l', p, s, used, hs, h, k => by
    rw [List.length_cons] at hs
    cases h with
    | go _ _ _ _ _ h hu r =>
      cases k with
      | stop _ _ _ h' => exact absurd hu (h' t h)
      | go _ _ _ t' l' h' hu' r' =>
        obtain rfl := TxAt.one (by omega) h h'
        rw [Look.one (by omega) r r']
theorem Row.look {Λ : Lines} {R : Nat → ByteArray} {m : Nat} : ∀ {l : List Txn} {p s used : Nat}, Row Λ R m p s l → used + slots l ≤ m → Stops Λ R m (p + slots l) (s + l.length) (used + slots l) → Look Λ R m p s used l
  | [], p, s, used, _, _, h => .stop _ _ _ h
  | t :: l, p, s, used, h, hu, hs => by
    unfold slots at hu hs
    refine .go _ _ _ t l h.1 (by omega) (Row.look h.2 (by omega) ?_)
    rw [List.length_cons] at hs
    rw [show p + t.length + 2 + slots l = p + (t.length + 2 + slots l) by omega, show s + 1 + l.length = s + (l.length + 1) by omega, show used + t.length + 2 + slots l = used + (t.length + 2 + slots l) by omega]
    exact hs
/-- Zeros end a look. -/
theorem Stops.zero {Λ : Lines} {R : Nat → ByteArray} {m p : Nat} (s used : Nat) (h : R (p % m) = zeroB) : Stops Λ R m p s used := fun _ k => absurd (k.fst.symm.trans h) (Λ.first_ne _ _)
/-- A first line without its last line ends a look. -/
theorem Stops.open {Λ : Lines} {R : Nat → ByteArray} {m p s : Nat} (used : Nat) (at_ : List Nat) (hs : s ≤ 2 ^ 40) (hn : at_.length ≤ 60) (ha : ∀ x ∈ at_, x ≤ 65535) (h : R (p % m) = Λ.first s at_) (hl : R ((p + at_.length + 1) % m) = zeroB) : Stops Λ R m p s used := by
  intro t k
  have h2 := (Λ.first_inj s s _ _ hs hs (by rw [List.length_map]; exact k.most) hn (by simpa using fun a b hx => k.ats (a, b) hx) ha (k.fst.symm.trans h)).2
  have e : t.length = at_.length := by rw [← h2, List.length_map]
  have := k.lst
  rw [e, hl] at this
  exact absurd this.symm (Λ.last_ne _ _)
theorem TxAt.kept {Λ : Lines} {R R' : Nat → ByteArray} {m p s : Nat} {t : Txn} (h : TxAt Λ R m p s t) (k : ∀ i, i < t.length + 2 → R' ((p + i) % m) = R ((p + i) % m)) : TxAt Λ R' m p s t where
  pos := h.pos
  most := h.most
  ats := h.ats
  fst := (k 0 (by omega)).trans h.fst
  mid i hi := by
    have := k (1 + i) (by omega)
    rw [← Nat.add_assoc] at this
    exact this.trans (h.mid i hi)
  lst := (k (t.length + 1) (by omega)).trans h.lst
theorem Row.kept {Λ : Lines} {R R' : Nat → ByteArray} {m : Nat} : ∀ {l : List Txn} {p s : Nat}, Row Λ R m p s l → (∀ i, i < slots l → R' ((p + i) % m) = R ((p + i) % m)) → Row Λ R' m p s l
  | [], _, _, _, _ => trivial
  | t :: l, p, s, h, k => by
    unfold slots at k
    refine ⟨h.1.kept fun i hi => k i (by omega), Row.kept h.2 fun i hi => ?_⟩
    have := k (t.length + 2 + i) (by omega)
    rw [show p + (t.length + 2 + i) = p + t.length + 2 + i by omega] at this
    exact this
theorem slots_append (a b : List Txn) : slots (a ++ b) = slots a + slots b := by
  induction a with
  | nil => simp [slots]
  | cons t l ih => simp only [List.cons_append, slots, ih]; omega
theorem Row.append {Λ : Lines} {R : Nat → ByteArray} {m : Nat} : ∀ {l : List Txn} {p s : Nat} {t : Txn}, Row Λ R m p s l → TxAt Λ R m (p + slots l) (s + l.length) t → Row Λ R m p s (l ++ [t])
  | [], _, _, _, _, k => ⟨k, trivial⟩
  | u :: l, p, s, t, h, k => by
    refine ⟨h.1, Row.append h.2 ?_⟩
    unfold slots at k
    rw [List.length_cons] at k
    rw [show p + u.length + 2 + slots l = p + (u.length + 2 + slots l) by omega, show s + 1 + l.length = s + (l.length + 1) by omega]
    exact k

/-- What sector a has behind writes, where it had v. -/
def after (l : Txn) (a : Nat) (v : ByteArray) : ByteArray := l.foldl (fun u x => if x.1 = a then x.2 else u) v
theorem after_append (l k : Txn) (a : Nat) (v : ByteArray) : after (l ++ k) a v = after k a (after l a v) := List.foldl_append
/-- Writes that were done already in part, done again: all is as it was to be. -/
theorem after_mem : ∀ (l : Txn) (a : Nat) (u v : ByteArray), (∃ x ∈ l, x.1 = a) → after l a u = after l a v
  | [], _, _, _, h => by obtain ⟨_, h, _⟩ := h; exact absurd h (by simp)
  | y :: l, a, u, v, h => by
    show after l a (if y.1 = a then y.2 else u) = after l a (if y.1 = a then y.2 else v)
    by_cases e : y.1 = a
    · rw [if_pos e, if_pos e]
    · rw [if_neg e, if_neg e]
      obtain ⟨x, hx, h2⟩ := h
      rcases List.mem_cons.1 hx with rfl | hx
      · exact absurd h2 e
      · exact after_mem l a u v ⟨x, hx, h2⟩
theorem after_none (l : Txn) (a : Nat) (v : ByteArray) (h : ∀ x ∈ l, x.1 ≠ a) : after l a v = v := by
  induction l generalizing v with
  | nil => rfl
  | cons y l ih =>
    show after l a (if y.1 = a then y.2 else v) = v
    rw [if_neg (h y (by simp))]
    exact ih v fun x hx => h x (List.mem_cons_of_mem _ hx)
theorem after_again (l : Txn) (a : Nat) (v : ByteArray) : after l a (after l a v) = after l a v := by
  by_cases h : ∃ x ∈ l, x.1 = a
  · exact after_mem l a _ _ h
  · rw [after_none l a v fun x hx e => h ⟨x, hx, e⟩, after_none l a v fun x hx e => h ⟨x, hx, e⟩]
end Go.Proofs.YtfcocbgdmmeikaaGreatDoor.Jnl
/-! ## Plain mathematics of a journal, the theorem: steps of a disk, and what may lie behind a crash ahead of, between and behind them. No walk, no program. -/
namespace Go.Proofs.YtfcocbgdmmeikaaGreatDoor.Jnl
open Go Dsk

/-- A step of a disk: a write, a flush. -/
inductive O where
  | w (a : Nat) (v : ByteArray)
  | f
def ap (d : Dk) : O → Dk
  | .w a v => Dsk.write d a v
  | .f => Dsk.flush d
/-- Steps, till power goes: was all done? -/
def go : Dk → List O → Dk × Bool
  | d, [] => (d, true)
  | d, o :: l => if may d then go (ap d o) l else (Dsk.step d, false)
theorem go_append (l k : List O) : ∀ d, go d (l ++ k) = if (go d l).2 then go (go d l).1 k else go d l := by
  induction l with
  | nil => intro d; rfl
  | cons o l ih =>
    intro d
    simp only [List.cons_append, go]
    split
    · exact ih _
    · rfl
theorem ap_len (d : Dk) (o : O) : (ap d o).lies.length = d.lies.length := by
  cases o with
  | w a v => exact write_len d a v
  | f => exact flush_len d
theorem go_len : ∀ (l : List O) (d : Dk), (go d l).1.lies.length = d.lies.length
  | [], _ => rfl
  | o :: l, d => by
    unfold go
    split
    · rw [go_len l, ap_len]
    · exact congrArg List.length (step_lies d)
theorem may_on {d : Dk} (h : may d = true) : d.on = true := by
  unfold may at h
  simp only [Bool.and_eq_true] at h
  exact h.1
theorem step_on (d : Dk) : (Dsk.step d).on = may d := by
  unfold Dsk.step
  split
  · rename_i h; exact h.symm
  · rename_i h; simpa using h
theorem ap_on {d : Dk} (o : O) (h : may d = true) : (ap d o).on = true := by
  cases o with
  | w a v =>
    show (Dsk.write d a v).on = true
    unfold Dsk.write
    rw [if_pos h]
    exact (step_on d).trans h
  | f =>
    show (Dsk.flush d).on = true
    unfold Dsk.flush
    rw [if_pos h]
    exact (step_on d).trans h
theorem go_on : ∀ (l : List O) (d : Dk), d.on = true → (go d l).1.on = (go d l).2
  | [], _, h => h
  | o :: l, d, h => by
    unfold go
    split
    · rename_i hm; exact go_on l _ (ap_on o hm)
    · rename_i hm; rw [step_on]; simpa using hm
theorem ap_bound (d : Dk) (o : O) : (ap d o).steps ≤ d.steps + 1 ∧ (ap d o).cache.length ≤ d.cache.length + 1 := by
  have hs : (Dsk.step d).steps ≤ d.steps + 1 := by
    unfold Dsk.step
    split
    · exact Nat.le_refl _
    · exact Nat.le_succ _
  have hc := step_cache d
  cases o with
  | w a v =>
    show (Dsk.write d a v).steps ≤ _ ∧ (Dsk.write d a v).cache.length ≤ _
    unfold Dsk.write
    split
    · refine ⟨hs, ?_⟩
      simp [put, hc]
    · exact ⟨hs, by rw [hc]; omega⟩
  | f =>
    show (Dsk.flush d).steps ≤ _ ∧ (Dsk.flush d).cache.length ≤ _
    unfold Dsk.flush
    split
    · exact ⟨hs, by simp [settle]⟩
    · exact ⟨hs, by rw [hc]; omega⟩
theorem go_bound : ∀ (l : List O) (d : Dk), (go d l).1.steps ≤ d.steps + l.length ∧ (go d l).1.cache.length ≤ d.cache.length + l.length
  | [], d => ⟨by simp [go], by simp [go]⟩
  | o :: l, d => by
    have h1 := ap_bound d o
    unfold go
    rw [List.length_cons]
    split
    · have h2 := go_bound l (ap d o)
      omega
    · have hs : (Dsk.step d).steps ≤ d.steps + 1 := by
        unfold Dsk.step
        split
        · exact Nat.le_refl _
        · exact Nat.le_succ _
      have hc := step_cache d
      show (Dsk.step d).steps ≤ _ ∧ (Dsk.step d).cache.length ≤ _
      rw [hc]
      omega
/-- Not armed: all steps are done. -/
theorem ap_free {d : Dk} (o : O) (h : d.on = true) (ha : d.armed = false) : (ap d o).on = true ∧ (ap d o).armed = false := by
  have hm : may d = true := by simp [may, h, ha]
  refine ⟨ap_on o hm, ?_⟩
  have hs : (Dsk.step d).armed = false := by unfold Dsk.step; split <;> exact ha
  cases o with
  | w a v =>
    show (Dsk.write d a v).armed = false
    unfold Dsk.write
    rw [if_pos hm]
    exact hs
  | f =>
    show (Dsk.flush d).armed = false
    unfold Dsk.flush
    rw [if_pos hm]
    exact hs
theorem go_free : ∀ (l : List O) (d : Dk), d.on = true → d.armed = false → (go d l).2 = true ∧ (go d l).1.armed = false
  | [], _, _, ha => ⟨rfl, ha⟩
  | o :: l, d, h, ha => by
    have hm : may d = true := by simp [may, h, ha]
    unfold go
    rw [if_pos hm]
    exact go_free l _ (ap_free o h ha).1 (ap_free o h ha).2

/-! ### What is known of a disk -/
abbrev Im := Nat → ByteArray
/-- In each sector nothing lies behind a crash but what F says; r is what is read. -/
structure K (d : Dk) (F : Nat → ByteArray → Prop) (r : Im) : Prop where
  f : ∀ a, a < d.lies.length → ∀ v, Poss d a v → F a v
  r : ∀ a, a < d.lies.length → Dsk.read d a = r a
theorem K.self (d : Dk) : K d (Poss d) (Dsk.read d) := ⟨fun _ _ _ h => h, fun _ _ => rfl⟩
def addF (F : Nat → ByteArray → Prop) (a : Nat) (v : ByteArray) : Nat → ByteArray → Prop := fun b u => F b u ∨ (b = a ∧ u = v)
def upd (r : Im) (a : Nat) (v : ByteArray) : Im := fun b => if a = b then v else r b
theorem K.write {d : Dk} {F : Nat → ByteArray → Prop} {r : Im} (h : K d F r) (hm : may d = true) (a : Nat) (v : ByteArray) : K (Dsk.write d a v) (addF F a v) (upd r a v) where
  f b hb u hu := by
    rw [write_len] at hb
    rcases write_poss hu with h1 | h1
    · exact .inl (h.f b hb u h1)
    · exact .inr h1
  r b hb := by
    rw [write_len] at hb
    rw [write_read a v b hm, h.r b hb]
    rfl
theorem read_flush {d : Dk} {a : Nat} (ha : a < d.lies.length) (hm : may d = true) : Dsk.read (Dsk.flush d) a = Dsk.read d a := (flush_sure a ha hm).read
theorem K.flush {d : Dk} {F : Nat → ByteArray → Prop} {r : Im} (h : K d F r) (hm : may d = true) : K (Dsk.flush d) (fun b u => u = r b) r where
  f b hb u hu := by
    rw [flush_len] at hb
    rw [← h.r b hb]
    exact flush_sure b hb hm u hu
  r b hb := by
    rw [flush_len] at hb
    rw [read_flush hb hm, h.r b hb]
theorem K.step {d : Dk} {F : Nat → ByteArray → Prop} {r : Im} (h : K d F r) : ∀ a, a < (Dsk.step d).lies.length → ∀ v, Poss (Dsk.step d) a v → F a v := fun a ha v hv => h.f a (by rw [step_lies] at ha; exact ha) v ((step_poss d a v).1 hv)

/-- Whatever lies behind a crash, P is true of it. -/
def Safe (P : Im → Prop) (d : Dk) : Prop := ∀ L : Im, (∀ a, a < d.lies.length → Poss d a (L a)) → P L
theorem K.safe {P : Im → Prop} {d : Dk} {F : Nat → ByteArray → Prop} {r : Im} {N : Nat} (h : K d F r) (hN : d.lies.length = N) (hP : ∀ L : Im, (∀ a, a < N → F a (L a)) → P L) : Safe P d := fun L hL => hP L fun a ha => h.f a (by omega) _ (hL a (by omega))
/-- Steps are done, or power goes: P is true of what may lie then; once all are done, Q of the disk. -/
def Ok (P : Im → Prop) (Q : Dk → Prop) (d : Dk) (l : List O) : Prop := Safe P (go d l).1 ∧ ((go d l).2 = true → Q (go d l).1)
theorem Ok.nil {P : Im → Prop} {Q : Dk → Prop} {d : Dk} (h : Safe P d) (hq : Q d) : Ok P Q d [] := ⟨h, fun _ => hq⟩
theorem Ok.cons {P : Im → Prop} {Q : Dk → Prop} {d : Dk} {o : O} {l : List O} (h : Safe P d) (hn : may d = true → Ok P Q (ap d o) l) : Ok P Q d (o :: l) := by
  unfold Ok go
  split
  · rename_i hm; exact hn hm
  · refine ⟨fun L hL => h L fun a ha => ?_, fun e => absurd e (by simp)⟩
    have := hL a (by rw [step_lies]; exact ha)
    exact (step_poss d a _).1 this
theorem Ok.append {P P' : Im → Prop} {Q Q' : Dk → Prop} {d : Dk} {l k : List O} (h : Ok P Q d l) (hp : ∀ L, P L → P' L) (hn : ∀ d', d'.lies.length = d.lies.length → Q d' → Ok P' Q' d' k) : Ok P' Q' d (l ++ k) := by
  unfold Ok
  rw [go_append]
  split
  · rename_i hg
    exact hn _ (go_len l d) (h.2 hg)
  · rename_i hg
    exact ⟨fun L hL => hp L (h.1 L hL), fun e => absurd e hg⟩
theorem Ok.mono {P P' : Im → Prop} {Q Q' : Dk → Prop} {d : Dk} {l : List O} (h : Ok P Q d l) (hp : ∀ L, P L → P' L) (hq : ∀ d', d'.lies.length = d.lies.length → Q d' → Q' d') : Ok P' Q' d l :=
  ⟨fun L hL => hp L (h.1 L hL), fun e => hq _ (go_len l d) (h.2 e)⟩
/-- One write, one flush, by what is known. -/
theorem Ok.w {P : Im → Prop} {Q : Dk → Prop} {d : Dk} {F : Nat → ByteArray → Prop} {r : Im} {N a : Nat} {v : ByteArray} {l : List O} (h : K d F r) (hN : d.lies.length = N) (hP : ∀ L : Im, (∀ a, a < N → F a (L a)) → P L)
    (hn : ∀ d', d'.lies.length = N → K d' (addF F a v) (upd r a v) → Ok P Q d' l) : Ok P Q d (.w a v :: l) :=
  .cons (h.safe hN hP) fun hm => hn _ ((write_len d a v).trans hN) (h.write hm a v)
theorem Ok.f {P : Im → Prop} {Q : Dk → Prop} {d : Dk} {F : Nat → ByteArray → Prop} {r : Im} {N : Nat} {l : List O} (h : K d F r) (hN : d.lies.length = N) (hP : ∀ L : Im, (∀ a, a < N → F a (L a)) → P L)
    (hn : ∀ d', d'.lies.length = N → K d' (fun b u => u = r b) r → Ok P Q d' l) : Ok P Q d (.f :: l) :=
  .cons (h.safe hN hP) fun hm => hn _ ((flush_len d).trans hN) (h.flush hm)
theorem Ok.done {P : Im → Prop} {Q : Dk → Prop} {d : Dk} {F : Nat → ByteArray → Prop} {r : Im} {N : Nat} (h : K d F r) (hN : d.lies.length = N) (hP : ∀ L : Im, (∀ a, a < N → F a (L a)) → P L) (hq : Q d) : Ok P Q d [] := .nil (h.safe hN hP) hq
/-- Many writes. -/
def addsF (F : Nat → ByteArray → Prop) (t : Txn) : Nat → ByteArray → Prop := fun b u => F b u ∨ (b, u) ∈ t
def wOps (t : Txn) : List O := t.map fun x => .w x.1 x.2
theorem Ok.ws {P : Im → Prop} {Q : Dk → Prop} {N : Nat} {l : List O} : ∀ {t : Txn} {d : Dk} {F : Nat → ByteArray → Prop} {r : Im}, K d F r → d.lies.length = N → (∀ L : Im, (∀ a, a < N → addsF F t a (L a)) → P L) →
    (∀ d', d'.lies.length = N → K d' (addsF F t) (fun a => after t a (r a)) → Ok P Q d' l) → Ok P Q d (wOps t ++ l)
  | [], d, F, r, h, hN, hP, hn => by
    refine hn d hN ⟨fun a ha v hv => .inl (h.f a ha v hv), fun a ha => h.r a ha⟩
  | x :: t, d, F, r, h, hN, hP, hn => by
    refine Ok.w h hN (fun L hL => hP L fun a ha => .inl (hL a ha)) fun d1 hN1 h1 => ?_
    have e : ∀ b u, addsF (addF F x.1 x.2) t b u ↔ addsF F (x :: t) b u := by
      intro b u
      simp only [addsF, addF, List.mem_cons]
      constructor
      · rintro ((h | ⟨h1, h2⟩) | h)
        · exact .inl h
        · exact .inr (.inl (Prod.ext h1 h2))
        · exact .inr (.inr h)
      · rintro (h | h | h)
        · exact .inl (.inl h)
        · exact .inl (.inr ⟨congrArg Prod.fst h, congrArg Prod.snd h⟩)
        · exact .inr h
    refine Ok.ws h1 hN1 (fun L hL => hP L fun a ha => (e _ _).1 (hL a ha)) fun d2 hN2 h2 => hn d2 hN2 ⟨fun a ha v hv => (e _ _).1 (h2.f a ha v hv), fun a ha => ?_⟩
    exact h2.r a ha

/-! ### A journal: where it lies, what is found in what lies -/
theorem TxAt.mod {Λ : Lines} {R : Nat → ByteArray} {m p q s : Nat} {t : Txn} (e : p % m = q % m) (h : TxAt Λ R m p s t) : TxAt Λ R m q s t := by
  have e' : ∀ i, (q + i) % m = (p + i) % m := fun i => by rw [Nat.add_mod, ← e, ← Nat.add_mod]
  exact ⟨h.pos, h.most, h.ats, by rw [← e]; exact h.fst, fun i hi => by rw [Nat.add_assoc, e', ← Nat.add_assoc]; exact h.mid i hi, by rw [Nat.add_assoc, e', ← Nat.add_assoc]; exact h.lst⟩
/-- No transaction of the number s begins at p. -/
def Ends (Λ : Lines) (R : Nat → ByteArray) (m p s : Nat) : Prop := ∀ t, ¬ TxAt Λ R m p s t
theorem Ends.stops {Λ : Lines} {R : Nat → ByteArray} {m p s : Nat} (h : Ends Λ R m p s) (used : Nat) : Stops Λ R m p s used := fun t k => absurd k (h t)
theorem Ends.zero {Λ : Lines} {R : Nat → ByteArray} {m p : Nat} (s : Nat) (h : R (p % m) = zeroB) : Ends Λ R m p s := fun _ k => absurd (k.fst.symm.trans h) (Λ.first_ne _ _)
theorem Ends.open {Λ : Lines} {R : Nat → ByteArray} {m p s : Nat} (at_ : List Nat) (hs : s ≤ 2 ^ 40) (hn : at_.length ≤ 60) (ha : ∀ x ∈ at_, x ≤ 65535) (h : R (p % m) = Λ.first s at_) (hl : R ((p + at_.length + 1) % m) = zeroB) : Ends Λ R m p s := by
  intro t k
  have h2 := (Λ.first_inj s s _ _ hs hs (by rw [List.length_map]; exact k.most) hn (by simpa using fun a b hx => k.ats (a, b) hx) ha (k.fst.symm.trans h)).2
  have e : t.length = at_.length := by rw [← h2, List.length_map]
  have := k.lst
  rw [e, hl] at this
  exact absurd this.symm (Λ.last_ne _ _)
theorem Ends.mod {Λ : Lines} {R : Nat → ByteArray} {m p q s : Nat} (e : p % m = q % m) (h : Ends Λ R m p s) : Ends Λ R m q s := fun t k => h t (k.mod e.symm)

/-- Where a journal lies: N sectors, the region from base on, m slots. -/
structure Geo where
  N : Nat
  base : Nat
  m : Nat
  h : base + 1 + m ≤ N
  m3 : 3 ≤ m
/-- The sector of slot p. -/
def Geo.sl (G : Geo) (p : Nat) : Nat := G.base + 1 + p % G.m
/-- A sector beside the region. -/
def Geo.Data (G : Geo) (a : Nat) : Prop := a < G.N ∧ ¬ (G.base ≤ a ∧ a ≤ G.base + G.m)
def Geo.R (G : Geo) (L : Im) : Nat → ByteArray := fun i => L (G.base + 1 + i)
theorem Geo.sl_lt (G : Geo) (p : Nat) : G.sl p < G.N := by
  have := Nat.mod_lt p (show 0 < G.m by have := G.m3; omega)
  have := G.h
  unfold Geo.sl
  omega
theorem Geo.sl_base (G : Geo) (p : Nat) : G.sl p ≠ G.base := by unfold Geo.sl; omega
theorem Geo.sl_data (G : Geo) (p : Nat) {a : Nat} (h : G.Data a) : a ≠ G.sl p := by
  have h1 := Nat.mod_lt p (show 0 < G.m by have := G.m3; omega)
  have h2 := h.2
  rintro rfl
  unfold Geo.sl at h2
  omega
theorem Geo.base_data (G : Geo) {a : Nat} (h : G.Data a) : a ≠ G.base := by
  have h2 := h.2
  rintro rfl
  omega
theorem mod_ne {m p i j : Nat} (hi : i < m) (hj : j < m) (h : i ≠ j) : (p + i) % m ≠ (p + j) % m := by
  intro e
  apply h
  have h1 : (p % m + i) % m = (p % m + j) % m := by rw [Nat.mod_add_mod, Nat.mod_add_mod]; exact e
  have hp := Nat.mod_lt p (show 0 < m by omega)
  generalize p % m = x at *
  have a1 : (x + i) % m = if x + i < m then x + i else x + i - m := by
    split
    · exact Nat.mod_eq_of_lt ‹_›
    · rw [Nat.mod_eq_sub_mod (by omega), Nat.mod_eq_of_lt (by omega)]
  have a2 : (x + j) % m = if x + j < m then x + j else x + j - m := by
    split
    · exact Nat.mod_eq_of_lt ‹_›
    · rw [Nat.mod_eq_sub_mod (by omega), Nat.mod_eq_of_lt (by omega)]
  rw [a1, a2] at h1
  split at h1 <;> split at h1 <;> omega
theorem Geo.sl_ne (G : Geo) {p i j : Nat} (hi : i < G.m) (hj : j < G.m) (h : i ≠ j) : G.sl (p + i) ≠ G.sl (p + j) := by
  have := mod_ne (p := p) hi hj h
  unfold Geo.sl
  omega
theorem Geo.sl_mod (G : Geo) {p q : Nat} (e : p % G.m = q % G.m) : G.sl p = G.sl q := by unfold Geo.sl; rw [e]
theorem Geo.R_sl (G : Geo) (L : Im) (p : Nat) : G.R L (p % G.m) = L (G.sl p) := rfl

/-- Transactions whose writes are of sectors beside the region. -/
def Own (G : Geo) (txs : List Txn) : Prop := ∀ t ∈ txs, ∀ x ∈ t, G.Data x.1 ∧ x.2.size = 256
/-- What lies is a journal that comes to S; q is the number of the next transaction. -/
structure Good (Λ : Lines) (G : Geo) (L : Im) (S : Im) (q : Nat) (p s : Nat) (txs : List Txn) : Prop where
  lp : p < G.m
  ls : 1 ≤ s
  lq : s + txs.length = q
  head : L G.base = Λ.head p s
  row : Row Λ (G.R L) G.m p s txs
  room : slots txs + 1 ≤ G.m
  ends : Ends Λ (G.R L) G.m (p + slots txs) q
  own : Own G txs
  data : ∀ a, G.Data a → after txs.flatten a (L a) = S a
def IsGood (Λ : Lines) (G : Geo) (L : Im) (S : Im) (q : Nat) : Prop := ∃ p s txs, Good Λ G L S q p s txs
/-- A journal that is open, with so many transactions behind its head. -/
structure Ready (Λ : Lines) (G : Geo) (F : Nat → ByteArray → Prop) (r : Im) (S : Im) (q : Nat) (p s : Nat) (txs : List Txn) : Prop where
  lp : p < G.m
  ls : 1 ≤ s
  lq : s + txs.length = q
  head : ∀ v, F G.base v → v = Λ.head p s
  row : ∃ R, Row Λ R G.m p s txs ∧ ∀ i, i < slots txs → ∀ v, F (G.sl (p + i)) v → v = R ((p + i) % G.m)
  room : slots txs + 1 ≤ G.m
  zero : ∀ v, F (G.sl (p + slots txs)) v → v = zeroB
  own : Own G txs
  data : ∀ a, G.Data a → ∀ v, F a v → after txs.flatten a v = S a
  read : ∀ a, G.Data a → r a = S a
theorem Ready.mono {Λ : Lines} {G : Geo} {F F' : Nat → ByteArray → Prop} {r r' : Im} {S : Im} {q p s : Nat} {txs : List Txn} (h : Ready Λ G F r S q p s txs) (hF : ∀ a, a < G.N → ∀ v, F' a v → F a v) (hr : ∀ a, a < G.N → r' a = r a) : Ready Λ G F' r' S q p s txs := by
  have hb : G.base < G.N := by have := G.h; omega
  obtain ⟨R, h1, h2⟩ := h.row
  exact ⟨h.lp, h.ls, h.lq, fun v hv => h.head v (hF _ hb v hv), ⟨R, h1, fun i hi v hv => h2 i hi v (hF _ (G.sl_lt _) v hv)⟩, h.room, fun v hv => h.zero v (hF _ (G.sl_lt _) v hv), h.own, fun a ha v hv => h.data a ha v (hF a ha.1 v hv), fun a ha => (hr a ha.1).trans (h.read a ha)⟩
/-- A journal that is open on a disk. -/
def RD (Λ : Lines) (G : Geo) (d : Dk) (S : Im) (q p s : Nat) (txs : List Txn) : Prop := d.lies.length = G.N ∧ Ready Λ G (Poss d) (Dsk.read d) S q p s txs
theorem Ready.on {Λ : Lines} {G : Geo} {F : Nat → ByteArray → Prop} {r : Im} {S : Im} {q p s : Nat} {txs : List Txn} (h : Ready Λ G F r S q p s txs) {d : Dk} (k : K d F r) (hN : d.lies.length = G.N) : RD Λ G d S q p s txs :=
  ⟨hN, h.mono (fun a ha v hv => k.f a (by omega) v hv) fun a ha => k.r a (by omega)⟩
theorem row_kept {Λ : Lines} {G : Geo} {L : Im} {R : Nat → ByteArray} {p s : Nat} {txs : List Txn} (h : Row Λ R G.m p s txs) (k : ∀ i, i < slots txs → L (G.sl (p + i)) = R ((p + i) % G.m)) : Row Λ (G.R L) G.m p s txs := h.kept fun i hi => k i hi
/-- Whatever may lie of an open journal is good. -/
theorem Ready.good {Λ : Lines} {G : Geo} {F : Nat → ByteArray → Prop} {r : Im} {S : Im} {q p s : Nat} {txs : List Txn} (h : Ready Λ G F r S q p s txs) (L : Im) (hL : ∀ a, a < G.N → F a (L a)) : Good Λ G L S q p s txs := by
  have hb : G.base < G.N := by have := G.h; omega
  obtain ⟨R, h1, h2⟩ := h.row
  exact ⟨h.lp, h.ls, h.lq, h.head _ (hL _ hb), row_kept h1 fun i hi => h2 i hi _ (hL _ (G.sl_lt _)), h.room, .zero _ (h.zero _ (hL _ (G.sl_lt _))), h.own, fun a ha => h.data a ha _ (hL a ha.1)⟩
theorem RD.safe {Λ : Lines} {G : Geo} {d : Dk} {S : Im} {q p s : Nat} {txs : List Txn} (h : RD Λ G d S q p s txs) : Safe (fun L => IsGood Λ G L S q) d := fun L hL => ⟨p, s, txs, h.2.good L fun a ha => hL a (by rw [h.1]; exact ha)⟩
end Go.Proofs.YtfcocbgdmmeikaaGreatDoor.Jnl
/-! ## Plain mathematics of a journal, the theorem: a checkpoint, a commit, an opening: whatever lies behind a crash ahead of, between and behind their steps is a journal that comes to what was committed, or to that and the one under way. No walk, no program. -/
namespace Go.Proofs.YtfcocbgdmmeikaaGreatDoor.Jnl
open Go Dsk

variable {Λ : Lines} {G : Geo}

/-- The steps of a checkpoint. -/
def ckOps (Λ : Lines) (G : Geo) (place seq : Nat) : List O := [.f, .w G.base (Λ.head place seq), .f]
/-- The bytes of a transaction, for their slots. -/
def midOps (G : Geo) (p : Nat) : Txn → List O
  | [] => []
  | x :: t => .w (G.sl p) x.2 :: midOps G (p + 1) t
/-- The steps of a commit. -/
def cmOps (Λ : Lines) (G : Geo) (place seq : Nat) (t : Txn) : List O :=
  .w (G.sl (place + (t.length + 1))) zeroB :: .w (G.sl (place + (t.length + 2))) zeroB :: .f :: .w (G.sl place) (Λ.first seq (t.map Prod.fst)) :: (midOps G (place + 1) t ++ (.f :: .w (G.sl (place + (t.length + 1))) (Λ.last seq t.length) :: .f :: (wOps t ++ [])))
/-- The steps of an opening that found txs. -/
def opOps (Λ : Lines) (G : Geo) (place seq : Nat) (txs : List Txn) : List O :=
  (if txs = [] then [] else wOps txs.flatten ++ [.f, .w G.base (Λ.head place seq)]) ++ [.w (G.sl place) zeroB, .f]

theorem addF_ne {F : Nat → ByteArray → Prop} {a b : Nat} {u v : ByteArray} (h : addF F a v b u) (hb : b ≠ a) : F b u := by
  rcases h with h | ⟨h, _⟩
  · exact h
  · exact absurd h hb
theorem upd_ne {r : Im} {a b : Nat} {v : ByteArray} (h : b ≠ a) : upd r a v b = r b := if_neg fun e => h e.symm
theorem upd_eq (r : Im) (a : Nat) (v : ByteArray) : upd r a v a = v := if_pos rfl

theorem ck_ok {d : Dk} {S : Im} {q p s place : Nat} {txs : List Txn} (h : RD Λ G d S q p s txs) (hp : place = (p + slots txs) % G.m) :
    Ok (fun L => IsGood Λ G L S q) (fun d' => RD Λ G d' S q place q []) d (ckOps Λ G place q) := by
  obtain ⟨hN, hR⟩ := h
  have hb : G.base < G.N := by have := G.h; omega
  have hm := Nat.mod_lt (p + slots txs) (show 0 < G.m by have := G.m3; omega)
  refine Ok.f (K.self d) hN (fun L hL => ⟨p, s, txs, hR.good L hL⟩) fun d1 hN1 h1 => ?_
  -- behind the flush: what is read lies
  have hrd : ∀ a, a < G.N → Poss d a (Dsk.read d a) := fun a _ => read_poss d a
  have hR1 : Ready Λ G (fun b u => u = Dsk.read d b) (Dsk.read d) S q p s txs := hR.mono (fun a ha v hv => by rw [hv]; exact hrd a ha) fun _ _ => rfl
  refine Ok.w h1 hN1 (fun L hL => ⟨p, s, txs, hR1.good L hL⟩) fun d2 hN2 h2 => ?_
  have hnew : Ready Λ G (fun b u => u = upd (Dsk.read d) G.base (Λ.head place q) b) (upd (Dsk.read d) G.base (Λ.head place q)) S q place q [] := by
    refine ⟨by rw [hp]; exact hm, by have := hR.ls; have := hR.lq; omega, rfl, fun v hv => by rw [hv, upd_eq], ⟨fun _ => zeroB, trivial, fun i hi => absurd hi (Nat.not_lt_zero i)⟩, by show 0 + 1 ≤ _; omega, fun v hv => ?_, fun t ht => absurd ht (by simp), fun a ha v hv => ?_, fun a ha => ?_⟩
    · rw [hv, upd_ne (G.sl_base _)]
      have e : G.sl (place + slots []) = G.sl (p + slots txs) := G.sl_mod (by rw [hp]; show ((p + slots txs) % G.m + 0) % G.m = _; rw [Nat.add_zero, Nat.mod_mod])
      rw [e]
      exact hR.zero _ (hrd _ (G.sl_lt _))
    · show v = S a
      rw [hv, upd_ne (G.base_data ha)]
      exact hR.read a ha
    · rw [upd_ne (G.base_data ha)]
      exact hR.read a ha
  have hP2 : ∀ L : Im, (∀ a, a < G.N → addF (fun b u => u = Dsk.read d b) G.base (Λ.head place q) a (L a)) → IsGood Λ G L S q := by
    intro L hL
    rcases hL G.base hb with e | ⟨_, e⟩
    · refine ⟨p, s, txs, hR1.good L fun a ha => ?_⟩
      by_cases hab : a = G.base
      · rw [hab]; exact e
      · exact addF_ne (hL a ha) hab
    · refine ⟨place, q, [], hnew.good L fun a ha => ?_⟩
      show L a = _
      by_cases hab : a = G.base
      · rw [hab, upd_eq]; exact e
      · rw [upd_ne hab]
        exact addF_ne (hL a ha) hab
  refine Ok.f h2 hN2 hP2 fun d3 hN3 h3 => ?_
  exact Ok.done h3 hN3 (fun L hL => ⟨place, q, [], hnew.good L hL⟩) (hnew.on h3 hN3)

/-- The bytes of a transaction, written into slots of which nothing is known. -/
theorem mid_ok {P : Im → Prop} {Q : Dk → Prop} {l : List O} (lo hi : Nat → Prop) : ∀ {t : Txn} {c : Nat} {d : Dk} {F : Nat → ByteArray → Prop} {r : Im}, K d F r → d.lies.length = G.N →
    (∀ i, i < t.length → lo (G.sl (c + i))) →
    (∀ L : Im, (∀ a, a < G.N → lo a ∨ F a (L a)) → P L) →
    (∀ d' r', d'.lies.length = G.N → K d' (fun a v => lo a ∨ F a v) r' → (∀ a, ¬ lo a → r' a = r a) → (c + t.length ≤ c + G.m → ∀ i (hi : i < t.length), r' (G.sl (c + i)) = t[i].2) → (∀ a, (∀ i, i < t.length → a ≠ G.sl (c + i)) → r' a = r a) → Ok P Q d' l) → Ok P Q d (midOps G c t ++ l)
  | [], c, d, F, r, h, hN, hlo, hP, hn => hn d r hN ⟨fun a ha v hv => .inr (h.f a ha v hv), h.r⟩ (fun _ _ => rfl) (fun _ i hi => absurd hi (Nat.not_lt_zero i)) fun _ _ => rfl
  | x :: t, c, d, F, r, h, hN, hlo, hP, hn => by
    refine Ok.w h hN (fun L hL => hP L fun a ha => .inr (hL a ha)) fun d1 hN1 h1 => ?_
    have hl0 : lo (G.sl c) := hlo 0 (by simp)
    refine mid_ok lo hi h1 hN1 (fun i hi => ?_) (fun L hL => hP L fun a ha => ?_) fun d2 r2 hN2 h2 e1 e2 e3 => ?_
    · have := hlo (i + 1) (by simp; omega)
      rw [show c + (i + 1) = c + 1 + i by omega] at this
      exact this
    · rcases hL a ha with h | h | ⟨h, _⟩
      · exact .inl h
      · exact .inr h
      · rw [h]; exact .inl hl0
    · refine hn d2 r2 hN2 ⟨fun a ha v hv => ?_, h2.r⟩ (fun a ha => ?_) (fun hlen i hi => ?_) fun a ha => ?_
      · rcases h2.f a ha v hv with h | h | ⟨h, _⟩
        · exact .inl h
        · exact .inr h
        · rw [h]; exact .inl hl0
      · rw [e1 a ha, upd_ne]
        intro e; rw [e] at ha; exact ha hl0
      · rw [List.length_cons] at hlen
        cases i with
        | zero =>
          show r2 (G.sl c) = x.2
          rw [e3, upd_eq]
          intro j hj
          exact G.sl_ne (p := c) (i := 0) (j := 1 + j) (by have := G.m3; omega) (by omega) (by omega) |> fun h e => h (by rw [Nat.add_zero, ← Nat.add_assoc]; exact e)
        | succ i =>
          have := e2 (by omega) i (by simpa using hi)
          rw [show c + (i + 1) = c + 1 + i by omega]
          exact this
      · rw [e3, upd_ne]
        · have := ha 0 (by simp); exact this
        · intro j hj
          have := ha (j + 1) (by simp; omega)
          rw [show c + (j + 1) = c + 1 + j by omega] at this
          exact this

theorem flatten_snoc (txs : List Txn) (t : Txn) : (txs ++ [t]).flatten = txs.flatten ++ t := by simp

/-- The theorem of a commit. -/
theorem cm_ok {d : Dk} {S : Im} {q p s place : Nat} {txs : List Txn} {t : Txn} (h : RD Λ G d S q p s txs) (hp : place = (p + slots txs) % G.m) (hq : q ≤ 2 ^ 40) (h1 : 1 ≤ t.length) (h60 : t.length ≤ 60)
    (hat : ∀ x ∈ t, x.1 ≤ 65535) (ht : ∀ x ∈ t, G.Data x.1 ∧ x.2.size = 256) (hroom : slots txs + t.length + 3 ≤ G.m) :
    Ok (fun L => IsGood Λ G L S q ∨ IsGood Λ G L (fun a => after t a (S a)) (q + 1)) (fun d' => RD Λ G d' (fun a => after t a (S a)) (q + 1) p s (txs ++ [t])) d (cmOps Λ G place q t) := by
  obtain ⟨hN, hR⟩ := h
  obtain ⟨u, hu⟩ : ∃ u, u = slots txs := ⟨_, rfl⟩
  obtain ⟨n, hn⟩ : ∃ n, n = t.length := ⟨_, rfl⟩
  have hm3 := G.m3
  have esl : ∀ i, G.sl (place + i) = G.sl (p + (u + i)) := fun i => G.sl_mod (by rw [hp, Nat.mod_add_mod, hu, Nat.add_assoc])
  have esl0 : G.sl place = G.sl (p + u) := by have := esl 0; rwa [Nat.add_zero, Nat.add_zero] at this
  unfold cmOps
  rw [esl, esl, esl0, ← hn]
  rw [← hu, ← hn] at hroom
  have hne : ∀ i j, i < G.m → j < G.m → i ≠ j → G.sl (p + i) ≠ G.sl (p + j) := fun i j hi hj h => G.sl_ne hi hj h
  obtain ⟨R, hrow, hrowF⟩ := hR.row
  have hroom0 := hR.room
  rw [← hu] at hrowF hroom0
  -- what stays good while the slots behind the next one turn
  have good0 : ∀ L : Im, (∀ v, v = L G.base → v = Λ.head p s) → (∀ i, i < u → L (G.sl (p + i)) = R ((p + i) % G.m)) → Ends Λ (G.R L) G.m (p + u) q → (∀ a, G.Data a → after txs.flatten a (L a) = S a) → IsGood Λ G L S q := fun L e1 e2 e3 e4 =>
    ⟨p, s, txs, hR.lp, hR.ls, hR.lq, e1 _ rfl, row_kept hrow (by rw [← hu]; exact e2), hR.room, by rw [← hu]; exact e3, hR.own, e4⟩
  have hb : G.base < G.N := by have := G.h; omega
  -- (0)
  refine Ok.w (K.self d) hN (fun L hL => .inl ⟨p, s, txs, hR.good L hL⟩) fun d1 hN1 k1 => ?_
  have z1 : ∀ L : Im, (∀ a, a < G.N → (∀ i, i = u + (n + 1) ∨ i = u + (n + 2) → a ≠ G.sl (p + i)) → Poss d a (L a)) → IsGood Λ G L S q := by
    intro L hL
    refine good0 L (fun v e => ?_) (fun i hi => ?_) (.zero _ ?_) fun a ha => ?_
    · exact hR.head v (e ▸ hL _ hb fun i _ => (G.sl_base _).symm)
    · refine hrowF i hi _ (hL _ (G.sl_lt _) fun j hj => hne _ _ (by omega) (by omega) (by omega))
    · show L (G.sl (p + u)) = zeroB
      refine hR.zero _ ?_
      rw [← hu]
      exact hL _ (G.sl_lt _) fun j hj => hne _ _ (by omega) (by omega) (by omega)
    · exact hR.data a ha _ (hL a ha.1 fun j _ => G.sl_data _ ha)
  -- (1)
  refine Ok.w k1 hN1 (fun L hL => .inl (z1 L fun a ha hne => addF_ne (hL a ha) (hne _ (.inl rfl)))) fun d2 hN2 k2 => ?_
  refine Ok.f k2 hN2 (fun L hL => .inl (z1 L fun a ha hne => addF_ne (addF_ne (hL a ha) (hne _ (.inr rfl))) (hne _ (.inl rfl)))) fun d3 hN3 k3 => ?_
  obtain ⟨r, hr⟩ : ∃ r, r = upd (upd (Dsk.read d) (G.sl (p + (u + (n + 1)))) zeroB) (G.sl (p + (u + (n + 2)))) zeroB := ⟨_, rfl⟩
  rw [← hr] at k3
  have r1 : r (G.sl (p + (u + (n + 1)))) = zeroB := by rw [hr, upd_ne (hne _ _ (by omega) (by omega) (by omega)), upd_eq]
  have r2 : r (G.sl (p + (u + (n + 2)))) = zeroB := by rw [hr, upd_eq]
  have r3 : ∀ a, (∀ i, i = u + (n + 1) ∨ i = u + (n + 2) → a ≠ G.sl (p + i)) → r a = Dsk.read d a := fun a ha => by rw [hr, upd_ne (ha _ (.inr rfl)), upd_ne (ha _ (.inl rfl))]
  have rb : r G.base = Λ.head p s := hR.head _ (by rw [r3 _ fun i _ => (G.sl_base _).symm]; exact read_poss d _)
  have rr : ∀ i, i < u → r (G.sl (p + i)) = R ((p + i) % G.m) := fun i hi => hrowF i hi _ (by rw [r3 _ fun j hj => hne _ _ (by omega) (by omega) (by omega)]; exact read_poss d _)
  have ru : r (G.sl (p + u)) = zeroB := hR.zero _ (by rw [← hu, r3 _ fun j hj => hne _ _ (by omega) (by omega) (by omega)]; exact read_poss d _)
  have rd : ∀ a, G.Data a → r a = S a := fun a ha => by rw [r3 _ fun j _ => G.sl_data _ ha]; exact hR.read a ha
  have rS : ∀ a, G.Data a → after txs.flatten a (S a) = S a := fun a ha => by
    have := hR.data a ha _ (read_poss d a)
    rw [hR.read a ha] at this
    exact this
  clear hr r3
  -- the last line's slot is zeros, the first line's zeros or the first line: good
  have g2 : ∀ L : Im, L G.base = Λ.head p s → (∀ i, i < u → L (G.sl (p + i)) = R ((p + i) % G.m)) → (L (G.sl (p + u)) = zeroB ∨ L (G.sl (p + u)) = Λ.first q (t.map Prod.fst)) → L (G.sl (p + (u + (n + 1)))) = zeroB → (∀ a, G.Data a → L a = S a) → IsGood Λ G L S q := by
    intro L e1 e2 e3 e4 e5
    refine good0 L (fun v e => e.trans e1) e2 ?_ fun a ha => by rw [e5 a ha]; exact rS a ha
    rcases e3 with e3 | e3
    · exact .zero _ e3
    · refine .open (t.map Prod.fst) hq (by rw [List.length_map]; exact h60) ?_ e3 ?_
      · intro x hx
        obtain ⟨y, hy, rfl⟩ := List.mem_map.1 hx
        exact hat y hy
      · rw [List.length_map, ← hn, show p + u + n + 1 = p + (u + (n + 1)) by omega]
        exact e4
  -- (2)
  refine Ok.w k3 hN3 (fun L hL => .inl (g2 L ((hL _ hb).trans rb) (fun i hi => (hL _ (G.sl_lt _)).trans (rr i hi)) (.inl ((hL _ (G.sl_lt _)).trans ru)) ((hL _ (G.sl_lt _)).trans r1) fun a ha => (hL a ha.1).trans (rd a ha))) fun d4 hN4 k4 => ?_
  -- the bytes
  have hmid : ∀ a, (∃ i, i < n ∧ a = G.sl (p + (u + 1 + i))) ↔ (∃ i, i < n ∧ a = G.sl (place + 1 + i)) := by
    intro a
    constructor
    · rintro ⟨i, hi, e⟩; exact ⟨i, hi, by rw [e, Nat.add_assoc place, esl, ← Nat.add_assoc u]⟩
    · rintro ⟨i, hi, e⟩; exact ⟨i, hi, by rw [e, Nat.add_assoc place, esl, ← Nat.add_assoc u]⟩
  have notmid : ∀ j, j < G.m → (∀ i, i < n → j ≠ u + 1 + i) → ¬ ∃ i, i < n ∧ G.sl (p + j) = G.sl (place + 1 + i) := by
    intro j hj h e
    obtain ⟨i, hi, e⟩ := (hmid _).2 e
    exact hne j (u + 1 + i) hj (by omega) (h i hi) e
  have nb : ¬ ∃ i, i < n ∧ G.base = G.sl (place + 1 + i) := fun ⟨i, _, e⟩ => (G.sl_base _) e.symm
  have nd : ∀ a, G.Data a → ¬ ∃ i, i < n ∧ a = G.sl (place + 1 + i) := fun a ha ⟨i, _, e⟩ => (G.sl_data _ ha) e
  have g3 : ∀ L : Im, (∀ a, a < G.N → (∃ i, i < n ∧ a = G.sl (place + 1 + i)) ∨ addF (fun b u => u = r b) (G.sl (p + u)) (Λ.first q (t.map Prod.fst)) a (L a)) → IsGood Λ G L S q := by
    intro L hL
    have get : ∀ a, a < G.N → a ≠ G.sl (p + u) → (¬ ∃ i, i < n ∧ a = G.sl (place + 1 + i)) → L a = r a := by
      intro a ha h1 h2
      rcases hL a ha with h | h | ⟨h, _⟩
      · exact absurd h h2
      · exact h
      · exact absurd h h1
    refine g2 L ((get _ hb (G.sl_base _).symm nb).trans rb) (fun i hi => (get _ (G.sl_lt _) (hne _ _ (by omega) (by omega) (by omega)) (notmid i (by omega) fun j hj => by omega)).trans (rr i hi)) ?_ ((get _ (G.sl_lt _) (hne _ _ (by omega) (by omega) (by omega)) (notmid _ (by omega) fun j hj => by omega)).trans r1) fun a ha => (get a ha.1 (G.sl_data _ ha) (nd a ha)).trans (rd a ha)
    rcases hL _ (G.sl_lt (p + u)) with h | h | ⟨_, h⟩
    · exact absurd h (notmid u (by omega) fun j hj => by omega)
    · exact .inl (h.trans ru)
    · exact .inr h
  refine mid_ok (fun a => ∃ i, i < n ∧ a = G.sl (place + 1 + i)) (fun _ => True) k4 hN4 (fun i hi => ⟨i, by omega, rfl⟩) (fun L hL => .inl (g3 L hL)) fun d5 r' hN5 k5 e1 e2 _ => ?_
  refine Ok.f k5 hN5 (fun L hL => .inl (g3 L hL)) fun d6 hN6 k6 => ?_
  -- (3) all but the last line lies
  have q0 : ∀ a, a < G.N → a ≠ G.sl (p + u) → (¬ ∃ i, i < n ∧ a = G.sl (place + 1 + i)) → r' a = r a := fun a _ h1 h2 => by rw [e1 a h2, upd_ne h1]
  have qb : r' G.base = Λ.head p s := (q0 _ hb (G.sl_base _).symm nb).trans rb
  have qr : ∀ i, i < u → r' (G.sl (p + i)) = R ((p + i) % G.m) := fun i hi => (q0 _ (G.sl_lt _) (hne _ _ (by omega) (by omega) (by omega)) (notmid i (by omega) fun j hj => by omega)).trans (rr i hi)
  have qu : r' (G.sl (p + u)) = Λ.first q (t.map Prod.fst) := by rw [e1 _ (notmid u (by omega) fun j hj => by omega), upd_eq]
  have qm : ∀ i (hi : i < t.length), r' (G.sl (p + (u + 1 + i))) = t[i].2 := fun i hi => by
    have := e2 (by omega) i hi
    rw [Nat.add_assoc, esl, ← Nat.add_assoc u] at this
    exact this
  have q1 : r' (G.sl (p + (u + (n + 1)))) = zeroB := (q0 _ (G.sl_lt _) (hne _ _ (by omega) (by omega) (by omega)) (notmid _ (by omega) fun j hj => by omega)).trans r1
  have q2 : r' (G.sl (p + (u + (n + 2)))) = zeroB := (q0 _ (G.sl_lt _) (hne _ _ (by omega) (by omega) (by omega)) (notmid _ (by omega) fun j hj => by omega)).trans r2
  have qd : ∀ a, G.Data a → r' a = S a := fun a ha => (q0 a ha.1 (G.sl_data _ ha) (nd a ha)).trans (rd a ha)
  clear e1 e2 g3 q0
  refine Ok.w k6 hN6 (fun L hL => .inl (g2 L ((hL _ hb).trans qb) (fun i hi => (hL _ (G.sl_lt _)).trans (qr i hi)) (.inr ((hL _ (G.sl_lt _)).trans qu)) ((hL _ (G.sl_lt _)).trans q1) fun a ha => (hL a ha.1).trans (qd a ha))) fun d7 hN7 k7 => ?_
  -- the last line
  obtain ⟨x, hx⟩ : ∃ x, x = upd r' (G.sl (p + (u + (n + 1)))) (Λ.last q n) := ⟨_, rfl⟩
  have xa : ∀ a, a ≠ G.sl (p + (u + (n + 1))) → x a = r' a := fun a ha => by rw [hx, upd_ne ha]
  have xl : x (G.sl (p + (u + (n + 1)))) = Λ.last q n := by rw [hx, upd_eq]
  have hslots : slots (txs ++ [t]) = u + (n + 2) := by rw [slots_append, ← hu]; show u + (t.length + 2 + 0) = _; rw [← hn]
  have hTx : TxAt Λ (G.R x) G.m (p + u) q t := by
    refine ⟨h1, h60, hat, ?_, fun i hi => ?_, ?_⟩
    · exact (xa _ (hne _ _ (by omega) (by omega) (by omega))).trans qu
    · rw [show p + u + 1 + i = p + (u + 1 + i) by omega]
      exact (xa _ (hne _ _ (by omega) (by omega) (by omega))).trans (qm i hi)
    · rw [← hn, show p + u + n + 1 = p + (u + (n + 1)) by omega]
      exact xl
  have hRow' : Row Λ (G.R x) G.m p s (txs ++ [t]) := by
    refine Row.append (row_kept hrow fun i hi => (xa _ (hne _ _ (by omega) (by omega) (by omega))).trans (qr i (by omega))) ?_
    rw [← hu, hR.lq]
    exact hTx
  have hown : Own G (txs ++ [t]) := by
    intro y hy z hz
    rcases List.mem_append.1 hy with hy | hy
    · exact hR.own y hy z hz
    · rw [List.mem_singleton] at hy; subst hy; exact ht z hz
  -- the journal with the new one, whatever of its writes came home
  have new : ∀ F (r2 : Im), (∀ v, F G.base v → v = Λ.head p s) → (∀ i, i < u + (n + 2) → ∀ v, F (G.sl (p + i)) v → v = x (G.sl (p + i))) → (∀ v, F (G.sl (p + (u + (n + 2)))) v → v = zeroB) → (∀ a, G.Data a → ∀ v, F a v → v = S a ∨ (a, v) ∈ t) → (∀ a, G.Data a → r2 a = after t a (S a)) → Ready Λ G F r2 (fun a => after t a (S a)) (q + 1) p s (txs ++ [t]) := by
    intro F r2 f1 f2 f3 f4 f5
    refine ⟨hR.lp, hR.ls, by have := hR.lq; simp; omega, f1, ⟨_, hRow', fun i hi v hv => f2 i (by rw [hslots] at hi; exact hi) v hv⟩, by rw [hslots]; omega, by rw [hslots]; exact f3, hown, fun a ha v hv => ?_, f5⟩
    rw [flatten_snoc, after_append]
    rcases f4 a ha v hv with rfl | hmem
    · rw [rS a ha]
    · exact after_mem t a _ _ ⟨_, hmem, rfl⟩
  have newL : ∀ L : Im, L G.base = Λ.head p s → (∀ i, i < u + (n + 2) → L (G.sl (p + i)) = x (G.sl (p + i))) → L (G.sl (p + (u + (n + 2)))) = zeroB → (∀ a, G.Data a → L a = S a ∨ (a, L a) ∈ t) → IsGood Λ G L (fun a => after t a (S a)) (q + 1) := by
    intro L f1 f2 f3 f4
    refine ⟨p, s, _, (new (fun a v => v = L a) (fun a => after t a (S a)) (fun v e => e.trans f1) (fun i hi v e => e.trans (f2 i hi)) (fun v e => e.trans f3) (fun a ha v e => ?_) fun _ _ => rfl).good L fun a _ => rfl⟩
    rw [e]; exact f4 a ha
  have xb : x G.base = Λ.head p s := (xa _ (G.sl_base _).symm).trans qb
  have x2 : x (G.sl (p + (u + (n + 2)))) = zeroB := (xa _ (hne _ _ (by omega) (by omega) (by omega))).trans q2
  have xd : ∀ a, G.Data a → x a = S a := fun a ha => (xa _ (G.sl_data _ ha)).trans (qd a ha)
  refine Ok.f k7 hN7 (fun L hL => ?_) fun d8 hN8 k8 => ?_
  · have get : ∀ a, a < G.N → a ≠ G.sl (p + (u + (n + 1))) → L a = r' a := fun a ha h => addF_ne (hL a ha) h
    rcases hL _ (G.sl_lt (p + (u + (n + 1)))) with e | ⟨_, e⟩
    · exact .inl (g2 L ((get _ hb (G.sl_base _).symm).trans qb) (fun i hi => (get _ (G.sl_lt _) (hne _ _ (by omega) (by omega) (by omega))).trans (qr i hi)) (.inr ((get _ (G.sl_lt _) (hne _ _ (by omega) (by omega) (by omega))).trans qu)) (e.trans q1) fun a ha => (get a ha.1 (G.sl_data _ ha)).trans (qd a ha))
    · have all : ∀ a, a < G.N → L a = x a := fun a ha => by
        by_cases h : a = G.sl (p + (u + (n + 1)))
        · rw [h, xl]; exact e
        · rw [xa a h]; exact get a ha h
      exact .inr (newL L ((all _ hb).trans xb) (fun i _ => all _ (G.sl_lt _)) ((all _ (G.sl_lt _)).trans x2) fun a ha => .inl ((all a ha.1).trans (xd a ha)))
  rw [← hx] at k8
  have notT : ∀ a, ¬ G.Data a → ∀ v, (a, v) ∉ t := fun a ha v hv => ha (ht _ hv).1
  have hnd : ∀ i, ¬ G.Data (G.sl i) := fun i h => G.sl_data i h rfl
  have hnb : ¬ G.Data G.base := fun h => G.base_data h rfl
  refine Ok.ws k8 hN8 (fun L hL => ?_) fun d9 hN9 k9 => ?_
  · have get : ∀ a, a < G.N → ¬ G.Data a → L a = x a := fun a ha h => by
      rcases hL a ha with e | e
      · exact e
      · exact absurd e (notT a h _)
    refine .inr (newL L ((get _ hb hnb).trans xb) (fun i _ => get _ (G.sl_lt _) (hnd _)) ((get _ (G.sl_lt _) (hnd _)).trans x2) fun a ha => ?_)
    rcases hL a ha.1 with e | e
    · exact .inl (e.trans (xd a ha))
    · exact .inr e
  · have hfin : Ready Λ G (addsF (fun b u => u = x b) t) (fun a => after t a (x a)) (fun a => after t a (S a)) (q + 1) p s (txs ++ [t]) := by
      refine new _ _ (fun v e => ?_) (fun i _ v e => ?_) (fun v e => ?_) (fun a ha v e => ?_) fun a ha => by rw [xd a ha]
      · rcases e with e | e
        · exact e.trans xb
        · exact absurd e (notT _ hnb _)
      · rcases e with e | e
        · exact e
        · exact absurd e (notT _ (hnd _) _)
      · rcases e with e | e
        · exact e.trans x2
        · exact absurd e (notT _ (hnd _) _)
      · rcases e with e | e
        · exact .inl (e.trans (xd a ha))
        · exact .inr e
    exact Ok.done k9 hN9 (fun L hL => .inr ⟨_, _, _, hfin.good L hL⟩) (hfin.on k9 hN9)
end Go.Proofs.YtfcocbgdmmeikaaGreatDoor.Jnl
/-! ## Plain mathematics of a journal, the theorem: an opening; a new journal. No walk, no program. -/
namespace Go.Proofs.YtfcocbgdmmeikaaGreatDoor.Jnl
open Go Dsk

variable {Λ : Lines} {G : Geo}

theorem flat_own {txs : List Txn} (h : Own G txs) : ∀ x ∈ txs.flatten, G.Data x.1 ∧ x.2.size = 256 := by
  intro x hx
  obtain ⟨t, ht, hx⟩ := List.mem_flatten.1 hx
  exact h t ht x hx

/-- The theorem of an opening: L is what lies, nothing is in the cache. -/
theorem op_ok {d : Dk} {L S : Im} {q p s place : Nat} {txs : List Txn} (hN : d.lies.length = G.N) (hL : K d (fun a v => v = L a) L) (h : Good Λ G L S q p s txs) (hp : place = (p + slots txs) % G.m) :
    Ok (fun L => IsGood Λ G L S q) (fun d' => RD Λ G d' S q place q []) d (opOps Λ G place q txs) := by
  have hb : G.base < G.N := by have := G.h; omega
  have hm0 : 0 < G.m := by have := G.m3; omega
  have hpm : place < G.m := by rw [hp]; exact Nat.mod_lt _ hm0
  have esl : G.sl place = G.sl (p + slots txs) := G.sl_mod (by rw [hp, Nat.mod_mod])
  have hne : ∀ i, i < slots txs → G.sl (p + i) ≠ G.sl place := fun i hi => by rw [esl]; exact G.sl_ne (by have := h.room; omega) (by have := h.room; omega) (by omega)
  have hq1 : 1 ≤ q := by have := h.ls; have := h.lq; omega
  -- two lists of what lies that are one in the region
  have keep : ∀ L' : Im, (∀ a, a < G.N → ¬ G.Data a → L' a = L a) → (∀ a, G.Data a → after txs.flatten a (L' a) = S a) → IsGood Λ G L' S q := by
    intro L' e1 e2
    have hs : ∀ i, L' (G.sl i) = L (G.sl i) := fun i => e1 _ (G.sl_lt _) fun hd => G.sl_data i hd rfl
    have hR : ∀ i, G.R L' (i % G.m) = G.R L (i % G.m) := fun i => hs i
    refine ⟨p, s, txs, h.lp, h.ls, h.lq, (e1 _ hb fun hd => G.base_data hd rfl).trans h.head, h.row.kept fun i _ => hR _, h.room, fun t k => h.ends t (k.kept fun i _ => (hR _).symm), h.own, e2⟩
  have hfin : ∀ r : Im, r G.base = Λ.head place q → r (G.sl place) = zeroB → (∀ a, G.Data a → r a = S a) → Ready Λ G (fun b u => u = r b) r S q place q [] := by
    intro r e1 e2 e3
    refine ⟨hpm, hq1, rfl, fun v e => e.trans e1, ⟨fun _ => zeroB, trivial, fun i hi => absurd hi (Nat.not_lt_zero i)⟩, by show 0 + 1 ≤ _; omega, fun v e => e.trans ?_, fun t ht => absurd ht (by simp), fun a ha v e => e.trans (e3 a ha), e3⟩
    show r (G.sl (place + 0)) = zeroB
    rw [Nat.add_zero]; exact e2
  by_cases ht : txs = []
  · subst ht
    have eo : opOps Λ G place q [] = [.w (G.sl place) zeroB, .f] := rfl
    have hpp : place = p := by rw [hp]; exact Nat.mod_eq_of_lt h.lp
    have hqs : q = s := h.lq.symm
    rw [eo]
    have gz : ∀ L' : Im, (∀ a, a < G.N → addF (fun a v => v = L a) (G.sl place) zeroB a (L' a)) → IsGood Λ G L' S q := by
      intro L' e
      have get : ∀ a, a < G.N → a ≠ G.sl place → L' a = L a := fun a ha h => addF_ne (e a ha) h
      rcases e _ (G.sl_lt place) with e1 | ⟨_, e1⟩
      · refine keep L' (fun a ha _ => ?_) fun a ha => by rw [get a ha.1 (G.sl_data _ ha)]; exact h.data a ha
        by_cases hab : a = G.sl place
        · rw [hab]; exact e1
        · exact get a ha hab
      · refine ⟨p, s, [], h.lp, h.ls, h.lq, (get _ hb (G.sl_base _).symm).trans h.head, trivial, h.room, .zero _ ?_, h.own, fun a ha => by rw [get a ha.1 (G.sl_data _ ha)]; exact h.data a ha⟩
        show L' (G.sl (p + 0)) = zeroB
        rw [Nat.add_zero, ← hpp]; exact e1
    refine Ok.w hL hN (fun L' e => keep L' (fun a ha _ => e a ha) fun a ha => by rw [e a ha.1]; exact h.data a ha) fun d1 hN1 k1 => ?_
    refine Ok.f k1 hN1 gz fun d2 hN2 k2 => ?_
    have hr := hfin (upd L (G.sl place) zeroB) (by rw [upd_ne (G.sl_base _).symm, h.head, hpp, hqs]) (upd_eq _ _ _) fun a ha => by rw [upd_ne (G.sl_data _ ha)]; exact h.data a ha
    exact Ok.done k2 hN2 (fun L' e => ⟨_, _, _, hr.good L' e⟩) (hr.on k2 hN2)
  · have eo : opOps Λ G place q txs = wOps txs.flatten ++ (.f :: .w G.base (Λ.head place q) :: .w (G.sl place) zeroB :: .f :: []) := by
      unfold opOps
      rw [if_neg ht, List.append_assoc]
      rfl
    rw [eo]
    have hown := flat_own h.own
    have notW : ∀ a, ¬ G.Data a → ∀ v, (a, v) ∉ txs.flatten := fun a ha v hv => ha (hown _ hv).1
    have g1 : ∀ L' : Im, (∀ a, a < G.N → addsF (fun a v => v = L a) txs.flatten a (L' a)) → IsGood Λ G L' S q := by
      intro L' e
      refine keep L' (fun a ha hd => ?_) fun a ha => ?_
      · rcases e a ha with e1 | e1
        · exact e1
        · exact absurd e1 (notW a hd _)
      · rcases e a ha.1 with e1 | e1
        · rw [e1]; exact h.data a ha
        · rw [after_mem txs.flatten a (L' a) (L a) ⟨_, e1, rfl⟩]; exact h.data a ha
    refine Ok.ws hL hN g1 fun d1 hN1 k1 => ?_
    refine Ok.f k1 hN1 g1 fun d2 hN2 k2 => ?_
    obtain ⟨r, hr⟩ : ∃ r : Im, r = fun a => after txs.flatten a (L a) := ⟨_, rfl⟩
    replace k2 : K d2 (fun b u => u = r b) r := by rw [hr]; exact k2
    have rd : ∀ a, G.Data a → r a = S a := fun a ha => by rw [hr]; exact h.data a ha
    have rn : ∀ a, ¬ G.Data a → r a = L a := fun a ha => by
      rw [hr]
      exact after_none _ _ _ fun x hx e => ha (e ▸ (hown x hx).1)
    have rs : ∀ i, r (G.sl i) = L (G.sl i) := fun i => rn _ fun hd => G.sl_data i hd rfl
    have rb : r G.base = Λ.head p s := (rn _ fun hd => G.base_data hd rfl).trans h.head
    have rS : ∀ a, G.Data a → after txs.flatten a (S a) = S a := fun a ha => by rw [← h.data a ha, after_again]
    clear hr
    -- the head old or new, the slot of the place old or zeros
    have g2 : ∀ L' : Im, (L' G.base = Λ.head p s ∨ L' G.base = Λ.head place q) → (L' (G.sl place) = L (G.sl place) ∨ L' (G.sl place) = zeroB) → (∀ a, a < G.N → a ≠ G.base → a ≠ G.sl place → L' a = r a) → IsGood Λ G L' S q := by
      intro L' e1 e2 e3
      have ed : ∀ a, G.Data a → L' a = S a := fun a ha => (e3 a ha.1 (G.base_data ha) (G.sl_data _ ha)).trans (rd a ha)
      have es : ∀ i, i < slots txs → L' (G.sl (p + i)) = L (G.sl (p + i)) := fun i hi => (e3 _ (G.sl_lt _) (G.sl_base _) (hne i hi)).trans (rs _)
      have ends : Ends Λ (G.R L') G.m (p + slots txs) q := by
        rcases e2 with e2 | e2
        · have all : ∀ i, L' (G.sl i) = L (G.sl i) := fun i => by
            by_cases hi : G.sl i = G.sl place
            · rw [hi]; exact e2
            · exact (e3 _ (G.sl_lt _) (G.sl_base _) hi).trans (rs _)
          exact fun t k => h.ends t (k.kept fun i _ => (all _).symm)
        · refine .zero _ ?_
          show L' (G.sl (p + slots txs)) = zeroB
          rw [← esl]; exact e2
      rcases e1 with e1 | e1
      · exact ⟨p, s, txs, h.lp, h.ls, h.lq, e1, h.row.kept fun i hi => es i hi, h.room, ends, h.own, fun a ha => by rw [ed a ha]; exact rS a ha⟩
      · refine ⟨place, q, [], hpm, hq1, rfl, e1, trivial, by show 0 + 1 ≤ _; omega, ?_, fun t ht => absurd ht (by simp), fun a ha => ed a ha⟩
        show Ends Λ (G.R L') G.m (place + 0) q
        rw [Nat.add_zero]
        exact ends.mod (by rw [hp, Nat.mod_mod])
    refine Ok.w k2 hN2 (fun L' e => g2 L' (.inl ((e _ hb).trans rb)) (.inl ((e _ (G.sl_lt _)).trans (rs _))) fun a ha _ _ => e a ha) fun d3 hN3 k3 => ?_
    refine Ok.w k3 hN3 (fun L' e => g2 L' ?_ (.inl ((addF_ne (e _ (G.sl_lt _)) (G.sl_base _)).trans (rs _))) fun a ha h1 _ => addF_ne (e a ha) h1) fun d4 hN4 k4 => ?_
    · rcases e _ hb with e1 | ⟨_, e1⟩
      · exact .inl (e1.trans rb)
      · exact .inr e1
    refine Ok.f k4 hN4 (fun L' e => g2 L' ?_ ?_ fun a ha h1 h2 => addF_ne (addF_ne (e a ha) h2) h1) fun d5 hN5 k5 => ?_
    · rcases addF_ne (e _ hb) (G.sl_base _).symm with e1 | ⟨_, e1⟩
      · exact .inl (e1.trans rb)
      · exact .inr e1
    · rcases e _ (G.sl_lt place) with e1 | ⟨_, e1⟩
      · exact .inl ((addF_ne e1 (G.sl_base _)).trans (rs _))
      · exact .inr e1
    have hr := hfin _ (by rw [upd_ne (G.sl_base _).symm, upd_eq]) (upd_eq (upd r G.base (Λ.head place q)) (G.sl place) zeroB) fun a ha => by rw [upd_ne (G.sl_data _ ha), upd_ne (G.base_data ha)]; exact rd a ha
    exact Ok.done k5 hN5 (fun L' e => ⟨_, _, _, hr.good L' e⟩) (hr.on k5 hN5)

/-- A disk with an empty cache: what lies is known. -/
theorem K.flat {d : Dk} (h : d.cache = []) : K d (fun a v => v = d.lies.getD a .empty) (fun a => d.lies.getD a .empty) where
  f a _ v hv := by
    rcases hv with e | e
    · exact e
    · rw [h] at e; exact absurd e (by simp)
  r a _ := by
    unfold Dsk.read
    rw [h]; rfl
theorem crash_cache (d : Dk) (pick : Nat → Bool) : (crash d pick).cache = [] := rfl
/-- What lies behind a crash is one of what may. -/
theorem Safe.crash {P : Im → Prop} {d : Dk} (h : Safe P d) (pick : Nat → Bool) : P (fun a => (Dsk.crash d pick).lies.getD a .empty) := h _ fun a ha => crash_poss d pick a ha
theorem flush_cache {d : Dk} (h : may d = true) : (Dsk.flush d).cache = [] := by
  unfold Dsk.flush
  rw [if_pos h]
  rfl
/-- A new journal. -/
def fmOps (Λ : Lines) (G : Geo) : List O := [.w G.base (Λ.head 0 1), .w (G.sl 0) zeroB, .f]
theorem fm_ok {d : Dk} {L : Im} (hN : d.lies.length = G.N) (hL : K d (fun a v => v = L a) L) :
    Ok (fun _ => True) (fun d' => d'.lies.length = G.N ∧ ∃ L', K d' (fun a v => v = L' a) L' ∧ Good Λ G L' L 1 0 1 []) d (fmOps Λ G) := by
  refine Ok.w hL hN (fun _ _ => trivial) fun d1 hN1 k1 => ?_
  refine Ok.w k1 hN1 (fun _ _ => trivial) fun d2 hN2 k2 => ?_
  refine Ok.f k2 hN2 (fun _ _ => trivial) fun d3 hN3 k3 => ?_
  refine Ok.done k3 hN3 (fun _ _ => trivial) ⟨hN3, _, k3, ?_⟩
  refine ⟨by have := G.m3; omega, Nat.le_refl _, rfl, by rw [upd_ne (G.sl_base _).symm, upd_eq], trivial, by have := G.m3; show 0 + 1 ≤ _; omega, .zero _ ?_, fun t ht => absurd ht (by simp), fun a ha => ?_⟩
  · exact upd_eq _ _ _
  · show upd _ _ _ a = L a
    rw [upd_ne (G.sl_data _ ha), upd_ne (G.base_data ha)]
/-- Behind a flush that was done the cache is empty. -/
theorem go_flushed : ∀ (l : List O) (d : Dk), (go d (l ++ [.f])).2 = true → (go d (l ++ [.f])).1.cache = [] := by
  intro l d
  rw [go_append]
  split
  · intro h
    unfold go at h ⊢
    split at h
    · rename_i hm
      rw [if_pos hm]
      exact flush_cache hm
    · exact absurd h (by simp)
  · rename_i hg
    intro h
    exact absurd h hg
end Go.Proofs.YtfcocbgdmmeikaaGreatDoor.Jnl
