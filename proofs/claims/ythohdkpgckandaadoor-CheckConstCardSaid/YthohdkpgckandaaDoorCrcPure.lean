/-
  Plain mathematics of CRC-32 (the least bit first): steps, texts, sealed texts, bursts of 32 bits. No walk, no program.
-/
import Derived.Lib.Strings
import Derived.KernelRfl
namespace Go.Proofs.YthohdkpgckandaaDoor.Crc
open Go

def P : Nat := 0xedb88320
/-- A step of a number of 32 bits. -/
def step (c : Nat) : Nat := c / 2 ^^^ (if c % 2 = 1 then P else 0)
def steps : Nat → Nat → Nat
  | 0, c => c
  | n + 1, c => steps n (step c)

theorem xor_half (a b : Nat) : (a ^^^ b) / 2 = a / 2 ^^^ b / 2 := by
  apply Nat.eq_of_testBit_eq
  intro i
  simp [Nat.testBit_div_two]
theorem xor_odd (a b : Nat) : (a ^^^ b) % 2 = (a % 2 + b % 2) % 2 := by
  have h := Nat.testBit_xor a b 0
  simp only [Nat.testBit_zero] at h
  rcases Nat.mod_two_eq_zero_or_one a with ha | ha <;> rcases Nat.mod_two_eq_zero_or_one b with hb | hb <;> rcases Nat.mod_two_eq_zero_or_one (a ^^^ b) with hc | hc <;> simp_all
theorem step_xor (a b : Nat) : step (a ^^^ b) = step a ^^^ step b := by
  unfold step
  rw [xor_half]
  have hx := xor_odd a b
  rcases Nat.mod_two_eq_zero_or_one a with ha | ha <;> rcases Nat.mod_two_eq_zero_or_one b with hb | hb <;> rw [ha, hb] at hx <;> simp [ha, hb, hx]
  · rw [Nat.xor_assoc]
  · rw [Nat.xor_assoc, Nat.xor_assoc, Nat.xor_comm P]
  · rw [Nat.xor_assoc, ← Nat.xor_assoc P, Nat.xor_comm P, Nat.xor_assoc, Nat.xor_self, Nat.xor_zero]
theorem step_zero : step 0 = 0 := rfl
theorem step_lt (c : Nat) (h : c < 4294967296) : step c < 4294967296 := by
  unfold step
  refine Nat.xor_lt_two_pow (n := 32) (by omega) ?_
  split <;> decide
theorem step_ne (c : Nat) (h : c < 4294967296) (h0 : c ≠ 0) : step c ≠ 0 := by
  intro e
  unfold step at e
  have hb := congrArg (fun n => Nat.testBit n 31) e
  simp only [Nat.testBit_xor, Nat.zero_testBit] at hb
  have h1 : (c / 2).testBit 31 = false := Nat.testBit_lt_two_pow (by omega)
  rcases Nat.mod_two_eq_zero_or_one c with ho | ho
  · rw [ho] at e
    simp at e
    omega
  · rw [if_pos ho, h1] at hb
    exact absurd hb (by decide)
theorem step_double (x : Nat) : step (2 * x) = x := by
  unfold step
  simp
theorem steps_add (m n c : Nat) : steps (m + n) c = steps n (steps m c) := by
  induction m generalizing c with
  | zero => rw [Nat.zero_add]; rfl
  | succ m ih => rw [Nat.succ_add]; exact ih (step c)
theorem steps_xor (n : Nat) : ∀ a b, steps n (a ^^^ b) = steps n a ^^^ steps n b := by
  induction n with
  | zero => intro a b; rfl
  | succ n ih => intro a b; simp only [steps, step_xor, ih]
theorem steps_lt (n : Nat) : ∀ c, c < 4294967296 → steps n c < 4294967296 := by
  induction n with
  | zero => intro c h; exact h
  | succ n ih => intro c h; exact ih _ (step_lt c h)
theorem steps_ne (n : Nat) : ∀ c, c < 4294967296 → c ≠ 0 → steps n c ≠ 0 := by
  induction n with
  | zero => intro c _ h; exact h
  | succ n ih => intro c h h0; exact ih _ (step_lt c h) (step_ne c h h0)
theorem steps_zero (n : Nat) : steps n 0 = 0 := by
  induction n with
  | zero => rfl
  | succ n ih => exact ih
theorem steps_shift (k x : Nat) : steps k (2 ^ k * x) = x := by
  induction k with
  | zero => simp [steps]
  | succ k ih => rw [steps, Nat.pow_succ, Nat.mul_comm (2 ^ k) 2, Nat.mul_assoc, step_double, ih]
theorem steps_inj (n a b : Nat) (ha : a < 4294967296) (hb : b < 4294967296) (h : steps n a = steps n b) : a = b := by
  have h1 : steps n (a ^^^ b) = 0 := by rw [steps_xor, h, Nat.xor_self]
  have h2 : a ^^^ b = 0 := by
    by_cases e : a ^^^ b = 0
    · exact e
    · exact absurd h1 (steps_ne n _ (Nat.xor_lt_two_pow (n := 32) ha hb) e)
  have h3 := congrArg (fun x => x ^^^ b) h2
  simpa [Nat.xor_assoc] using h3
/-- The low k bits, and the others. -/
theorem split_low (k x : Nat) : x = x % 2 ^ k ^^^ 2 ^ k * (x / 2 ^ k) := by
  apply Nat.eq_of_testBit_eq
  intro i
  rw [Nat.testBit_xor, Nat.testBit_mod_two_pow, Nat.testBit_two_pow_mul, Nat.testBit_div_two_pow]
  by_cases h : i < k
  · simp [h, show ¬ k ≤ i by omega]
  · have h' : k ≤ i := by omega
    simp [h, h', Nat.sub_add_cancel h']
/-- k steps at once: what they make of the low k bits, and the others moved down. -/
theorem steps_low (k x : Nat) : steps k x = steps k (x % 2 ^ k) ^^^ x / 2 ^ k := by
  have h := congrArg (steps k) (split_low k x)
  rwa [steps_xor, steps_shift] at h

/-! ### Texts -/
def upd (c : Nat) (b : UInt8) : Nat := steps 8 (c ^^^ b.toNat)
/-- The state behind a text. -/
def run (c : Nat) (l : List UInt8) : Nat := l.foldl upd c
theorem run_nil (c : Nat) : run c [] = c := rfl
theorem run_cons (c : Nat) (b : UInt8) (l : List UInt8) : run c (b :: l) = run (upd c b) l := rfl
theorem run_append (c : Nat) (a b : List UInt8) : run c (a ++ b) = run (run c a) b := by unfold run; rw [List.foldl_append]
theorem upd_lt (c : Nat) (b : UInt8) (h : c < 4294967296) : upd c b < 4294967296 := steps_lt 8 _ (Nat.xor_lt_two_pow (n := 32) h (by have := b.toNat_lt; omega))
theorem run_lt (l : List UInt8) : ∀ c, c < 4294967296 → run c l < 4294967296 := by
  induction l with
  | nil => intro c h; exact h
  | cons b l ih => intro c h; exact ih _ (upd_lt c b h)
theorem upd_xor (c d : Nat) (b : UInt8) : upd (c ^^^ d) b = upd c b ^^^ steps 8 d := by
  unfold upd
  rw [Nat.xor_assoc, Nat.xor_comm d, ← Nat.xor_assoc, steps_xor]
theorem run_xor (l : List UInt8) : ∀ c d, run (c ^^^ d) l = run c l ^^^ steps (8 * l.length) d := by
  induction l with
  | nil => intro c d; rfl
  | cons b l ih =>
    intro c d
    rw [run_cons, run_cons, upd_xor, ih, ← steps_add]
    congr 2
    simp only [List.length_cons]; omega
/-- All bits turned. -/
def inv (c : Nat) : Nat := 4294967295 - c
theorem inv_xor (c : Nat) (h : c < 4294967296) : inv c = 4294967295 ^^^ c := by
  have := congrArg BitVec.toNat (BitVec.allOnes_xor (x := BitVec.ofNat 32 c))
  have e : 4294967295 ^^^ c = 4294967295 - c := by simpa [BitVec.toNat_xor, BitVec.toNat_allOnes, BitVec.toNat_not, Nat.mod_eq_of_lt h] using this
  rw [e]; rfl
theorem inv_lt (c : Nat) : inv c < 4294967296 := by unfold inv; omega
theorem inv_inv (c : Nat) (h : c < 4294967296) : inv (inv c) = c := by unfold inv; omega
def add (c : Nat) (s : List UInt8) : Nat := inv (run (inv c) s)
def of (s : List UInt8) : Nat := add 0 s
theorem add_lt (c : Nat) (s : List UInt8) : add c s < 4294967296 := inv_lt _
theorem of_lt (s : List UInt8) : of s < 4294967296 := inv_lt _
theorem add_append (c : Nat) (a b : List UInt8) : add c (a ++ b) = add (add c a) b := by
  unfold add
  rw [run_append, inv_inv _ (run_lt _ _ (inv_lt _))]
theorem add_nil (c : Nat) (h : c < 4294967296) : add c [] = c := inv_inv c h
theorem of_append (a b : List UInt8) : of (a ++ b) = add (of a) b := add_append 0 a b
theorem of_nil : of [] = 0 := rfl

/-! ### Sealed texts -/
def le4 (n : Nat) : List UInt8 := [UInt8.ofNat n, UInt8.ofNat (n / 256), UInt8.ofNat (n / 65536), UInt8.ofNat (n / 16777216)]
theorem le4_length (n : Nat) : (le4 n).length = 4 := rfl
theorem upd_word (c x : Nat) : upd c (UInt8.ofNat x) ^^^ x / 256 = steps 8 (c ^^^ x) := by
  unfold upd
  rw [UInt8.toNat_ofNat', steps_xor, steps_xor, Nat.xor_assoc]
  congr 1
  exact (steps_low 8 x).symm
theorem run_le4 (c x : Nat) (h : x < 4294967296) : run c (le4 x) = steps 32 (c ^^^ x) := by
  have e : ∀ c x : Nat, upd c (UInt8.ofNat x) = steps 8 (c ^^^ x) ^^^ x / 256 := fun c x => by
    rw [← upd_word, Nat.xor_assoc, Nat.xor_self, Nat.xor_zero]
  have d1 : x / 256 / 256 = x / 65536 := by omega
  have d2 : x / 65536 / 256 = x / 16777216 := by omega
  have d3 : x / 16777216 / 256 = 0 := by omega
  unfold le4
  rw [run_cons, run_cons, run_cons, run_cons, run_nil, e c, e _ (x / 256), e _ (x / 65536), e _ (x / 16777216), d1, d2, d3, Nat.xor_zero, Nat.xor_assoc _ (x / 256), Nat.xor_self, Nat.xor_zero, Nat.xor_assoc _ (x / 65536), Nat.xor_self, Nat.xor_zero, Nat.xor_assoc _ (x / 16777216), Nat.xor_self, Nat.xor_zero, ← steps_add, ← steps_add, ← steps_add]
def seals (s : List UInt8) : List UInt8 := s ++ le4 (of s)
theorem seals_length (s : List UInt8) : (seals s).length = s.length + 4 := by unfold seals; rw [List.length_append, le4_length]
def good : Nat := 0x2144df1c
theorem all_one : inv (steps 32 4294967295) = good := by kernel_rfl
/-- A text with a number behind it has the good sum just if that is the text's. -/
theorem of_word (t : List UInt8) (x : Nat) (h : x < 4294967296) : of (t ++ le4 x) = good ↔ x = of t := by
  have hc := run_lt t (inv 0) (inv_lt 0)
  have e : of (t ++ le4 x) = inv (steps 32 (run (inv 0) t ^^^ x)) := by
    unfold of add
    rw [run_append, run_le4 _ x h]
  have ot : of t = inv (run (inv 0) t) := rfl
  generalize run (inv 0) t = c at *
  rw [e, ot]
  have hx : c ^^^ x < 4294967296 := Nat.xor_lt_two_pow (n := 32) hc h
  have hs := steps_lt 32 _ hx
  constructor
  · intro hg
    rw [← all_one] at hg
    have h1 : steps 32 (c ^^^ x) = steps 32 4294967295 := by
      have := congrArg inv hg
      rwa [inv_inv _ hs, inv_inv _ (steps_lt 32 _ (by decide))] at this
    have h2 := steps_inj 32 _ _ hx (by decide) h1
    rw [inv_xor c hc, ← h2, Nat.xor_comm c x, Nat.xor_assoc, Nat.xor_self, Nat.xor_zero]
  · intro hx
    rw [hx, inv_xor c hc, ← Nat.xor_assoc, Nat.xor_comm c, Nat.xor_assoc, Nat.xor_self, Nat.xor_zero, all_one]
theorem of_seals (s : List UInt8) : of (seals s) = good := (of_word s (of s) (of_lt s)).2 rfl
/-- Any four bytes are a number's. -/
theorem le4_all (l : List UInt8) (h : l.length = 4) : ∃ x, x < 4294967296 ∧ le4 x = l := by
  match l, h with
  | [a, b, c, d], _ =>
    have ha := a.toNat_lt
    have hb := b.toNat_lt
    have hc := c.toNat_lt
    have hd := d.toNat_lt
    refine ⟨a.toNat + 256 * b.toNat + 65536 * c.toNat + 16777216 * d.toNat, by omega, ?_⟩
    have k : ∀ (n : Nat) (u : UInt8), n % 256 = u.toNat → UInt8.ofNat n = u := fun n u e => UInt8.toNat_inj.1 (by rw [UInt8.toNat_ofNat']; exact e)
    unfold le4
    rw [k _ a (by omega), k _ b (by omega), k _ c (by omega), k _ d (by omega)]
theorem le4_inj (x y : Nat) (hx : x < 4294967296) (hy : y < 4294967296) (h : le4 x = le4 y) : x = y := by
  unfold le4 at h
  simp only [List.cons.injEq, and_true] at h
  obtain ⟨h0, h1, h2, h3⟩ := h
  have k : ∀ m n : Nat, UInt8.ofNat m = UInt8.ofNat n → m % 256 = n % 256 := fun m n e => by
    have := congrArg UInt8.toNat e
    rwa [UInt8.toNat_ofNat', UInt8.toNat_ofNat'] at this
  have := k _ _ h0
  have := k _ _ h1
  have := k _ _ h2
  have := k _ _ h3
  omega
/-- A text of four bytes and more has the good sum just if it is sealed. -/
theorem good_iff (s : List UInt8) (h : 4 ≤ s.length) : of s = good ↔ seals (s.take (s.length - 4)) = s := by
  obtain ⟨x, hx, e⟩ := le4_all (s.drop (s.length - 4)) (by rw [List.length_drop]; omega)
  have hs : s = s.take (s.length - 4) ++ le4 x := by rw [e, List.take_append_drop]
  have hw := of_word (s.take (s.length - 4)) x hx
  rw [← hs] at hw
  rw [hw]
  constructor
  · intro hxo
    unfold seals
    rw [← hxo, ← hs]
  · intro hsl
    unfold seals at hsl
    have := List.append_cancel_left (hsl.trans hs)
    exact (le4_inj _ _ (of_lt _) hx this).symm

/-! ### Bursts -/
/-- Bit j of a text is turned (the least bit of each byte first). -/
def flip (s : List UInt8) (j : Nat) : List UInt8 := s.modify (j / 8) fun x => x ^^^ UInt8.ofNat (2 ^ (j % 8))
theorem flip_length (s : List UInt8) (j : Nat) : (flip s j).length = s.length := by simp [flip]
theorem steps_one (r n : Nat) (h : r ≤ n) : steps n (2 ^ r) = steps (n - r) 1 := by
  have e := steps_add r (n - r) (2 ^ r)
  rw [show r + (n - r) = n by omega] at e
  have := steps_shift r 1
  rw [Nat.mul_one] at this
  rw [e, this]
theorem run_flip (s : List UInt8) : ∀ (c j : Nat), j < 8 * s.length → run c (flip s j) = run c s ^^^ steps (8 * s.length - j) 1 := by
  induction s with
  | nil => intro c j h; simp at h
  | cons b l ih =>
    intro c j h
    by_cases hj : j < 8
    · have e0 : j / 8 = 0 := by omega
      have e1 : j % 8 = j := by omega
      have hp : 2 ^ j < 256 := by
        have : 2 ^ j < 2 ^ 8 := Nat.pow_lt_pow_right (by decide) hj
        simpa using this
      have hf : flip (b :: l) j = (b ^^^ UInt8.ofNat (2 ^ j)) :: l := by unfold flip; rw [e0, e1]; rfl
      have hu : upd c (b ^^^ UInt8.ofNat (2 ^ j)) = upd c b ^^^ steps (8 - j) 1 := by
        unfold upd
        rw [UInt8.toNat_xor, UInt8.toNat_ofNat', Nat.mod_eq_of_lt hp, ← Nat.xor_assoc, steps_xor, steps_one j 8 (by omega)]
      rw [hf, run_cons, run_cons, hu, run_xor, ← steps_add]
      congr 2
      simp only [List.length_cons]; omega
    · have hf : flip (b :: l) j = b :: flip l (j - 8) := by
        unfold flip
        rw [show j / 8 = (j - 8) / 8 + 1 by omega, show j % 8 = (j - 8) % 8 by omega]
        rfl
      rw [hf, run_cons, run_cons, ih _ _ (by simp only [List.length_cons] at h; omega)]
      congr 2
      simp only [List.length_cons]; omega
/-- The first i of 32 bits are turned, from place n on. -/
def turn (s : List UInt8) (n bits : Nat) : Nat → List UInt8
  | 0 => s
  | i + 1 => if bits.testBit i = true then flip (turn s n bits i) (n + i) else turn s n bits i
theorem turn_length (s : List UInt8) (n bits i : Nat) : (turn s n bits i).length = s.length := by
  induction i with
  | zero => rfl
  | succ i ih => unfold turn; split <;> simp [flip_length, ih]
theorem low_succ (x i : Nat) : x % 2 ^ (i + 1) = x % 2 ^ i ^^^ (if x.testBit i = true then 2 ^ i else 0) := by
  apply Nat.eq_of_testBit_eq
  intro j
  rw [Nat.testBit_xor, Nat.testBit_mod_two_pow, Nat.testBit_mod_two_pow]
  by_cases hx : x.testBit i = true
  · rw [if_pos hx, Nat.testBit_two_pow]
    by_cases hj : j < i
    · have : ¬ i = j := by omega
      simp [hj, this, show j < i + 1 by omega]
    · by_cases hij : i = j
      · subst hij; simp [hx]
      · simp [hj, hij, show ¬ j < i + 1 by omega]
  · rw [if_neg hx]
    by_cases hj : j < i
    · simp [hj, show j < i + 1 by omega]
    · by_cases hij : i = j
      · subst hij; simp [hx]
      · simp [hj, show ¬ j < i + 1 by omega]
theorem run_turn (s : List UInt8) (c n bits : Nat) (hn : n + 32 ≤ 8 * s.length) : ∀ i, i ≤ 32 → run c (turn s n bits i) = run c s ^^^ steps (8 * s.length - n) (bits % 2 ^ i) := by
  intro i
  induction i with
  | zero => intro _; simp [turn, Nat.mod_one, steps_zero]
  | succ i ih =>
    intro hi
    have h0 := ih (by omega)
    unfold turn
    rw [low_succ]
    by_cases hb : bits.testBit i = true
    · rw [if_pos hb, if_pos hb, run_flip _ _ _ (by rw [turn_length]; omega), h0, turn_length, steps_xor, steps_one i _ (by omega), Nat.xor_assoc, show 8 * s.length - n - i = 8 * s.length - (n + i) by omega]
    · rw [if_neg hb, if_neg hb, h0, Nat.xor_zero]
/-- A BURST OF UP TO 32 BITS IS FOUND. -/
theorem of_turn (s : List UInt8) (n bits : Nat) (hn : n + 32 ≤ 8 * s.length) (hb : bits < 4294967296) (h0 : bits ≠ 0) : of (turn s n bits 32) ≠ of s := by
  intro e
  unfold of add at e
  have h1 := run_lt (turn s n bits 32) (inv 0) (inv_lt 0)
  have h2 := run_lt s (inv 0) (inv_lt 0)
  have e2 := congrArg inv e
  rw [inv_inv _ h1, inv_inv _ h2, run_turn s (inv 0) n bits hn 32 (Nat.le_refl _), Nat.mod_eq_of_lt hb] at e2
  have e3 : steps (8 * s.length - n) bits = 0 := by
    have := congrArg (fun x => run (inv 0) s ^^^ x) e2
    simpa [← Nat.xor_assoc, Nat.xor_self] using this
  exact steps_ne _ bits hb h0 e3

/-! ### The examples -/
theorem of_digits : of [49, 50, 51, 52, 53, 54, 55, 56, 57] = 0xcbf43926 := by kernel_rfl
theorem seals_nil : seals [] = [0, 0, 0, 0] := by kernel_rfl
end Go.Proofs.YthohdkpgckandaaDoor.Crc
