/-
  Several texts in one (CrcPure, CrcAdd, CrcOf, CrcOpen).
-/
import Derived.Lib.Strings
import Derived.KernelRfl
import Derived.Test.YtfcocbgdmmeikaaGreatDoorMGen
import Derived.Deep.Cut
/-! ## Plain mathematics of CRC-32 (the least bit first): steps, texts, sealed texts, bursts of 32 bits. No walk, no program. -/
namespace Go.Proofs.YtfcocbgdmmeikaaGreatDoor.Crc
open Go

def P : Nat := 0xedb88320
/-- A step of a number of 32 bits. -/
def step (c : Nat) : Nat := c / 2 ^^^ (if c % 2 = 1 then P else 0)
def steps : Nat → Nat → Nat
  | 0, c => c
  | n + 1, c => steps n (step c)

theorem xor_half (a b : Nat) : (a ^^^ b) / 2 = a / 2 ^^^ b / 2 := by
  apply Nat.eq_of_testBit_eq
  intro i
  simp [Nat.testBit_div_two]
theorem xor_odd (a b : Nat) : (a ^^^ b) % 2 = (a % 2 + b % 2) % 2 := by
  have h := Nat.testBit_xor a b 0
  simp only [Nat.testBit_zero] at h
  rcases Nat.mod_two_eq_zero_or_one a with ha | ha <;> rcases Nat.mod_two_eq_zero_or_one b with hb | hb <;> rcases Nat.mod_two_eq_zero_or_one (a ^^^ b) with hc | hc <;> simp_all
theorem step_xor (a b : Nat) : step (a ^^^ b) = step a ^^^ step b := by
  unfold step
  rw [xor_half]
  have hx := xor_odd a b
  rcases Nat.mod_two_eq_zero_or_one a with ha | ha <;> rcases Nat.mod_two_eq_zero_or_one b with hb | hb <;> rw [ha, hb] at hx <;> simp [ha, hb, hx]
  · rw [Nat.xor_assoc]
  · rw [Nat.xor_assoc, Nat.xor_assoc, Nat.xor_comm P]
  · rw [Nat.xor_assoc, ← Nat.xor_assoc P, Nat.xor_comm P, Nat.xor_assoc, Nat.xor_self, Nat.xor_zero]
theorem step_zero : step 0 = 0 := rfl
theorem step_lt (c : Nat) (h : c < 4294967296) : step c < 4294967296 := by
  unfold step
  refine Nat.xor_lt_two_pow (n := 32) (by omega) ?_
  split <;> decide
theorem step_ne (c : Nat) (h : c < 4294967296) (h0 : c ≠ 0) : step c ≠ 0 := by
  intro e
  unfold step at e
  have hb := congrArg (fun n => Nat.testBit n 31) e
  simp only [Nat.testBit_xor, Nat.zero_testBit] at hb
  have h1 : (c / 2).testBit 31 = false := Nat.testBit_lt_two_pow (by omega)
  rcases Nat.mod_two_eq_zero_or_one c with ho | ho
  · rw [ho] at e
    simp at e
    omega
  · rw [if_pos ho, h1] at hb
    exact absurd hb (by decide)
theorem step_double (x : Nat) : step (2 * x) = x := by
  unfold step
  simp
theorem steps_add (m n c : Nat) : steps (m + n) c = steps n (steps m c) := by
  induction m generalizing c with
  | zero => rw [Nat.zero_add]; rfl
  | succ m ih => rw [Nat.succ_add]; exact ih (step c)
theorem steps_xor (n : Nat) : ∀ a b, steps n (a ^^^ b) = steps n a ^^^ steps n b := by
  induction n with
  | zero => intro a b; rfl
  | succ n ih => intro a b; simp only [steps, step_xor, ih]
theorem steps_lt (n : Nat) : ∀ c, c < 4294967296 → steps n c < 4294967296 := by
  induction n with
  | zero => intro c h; exact h
  | succ n ih => intro c h; exact ih _ (step_lt c h)
theorem steps_ne (n : Nat) : ∀ c, c < 4294967296 → c ≠ 0 → steps n c ≠ 0 := by
  induction n with
  | zero => intro c _ h; exact h
  | succ n ih => intro c h h0; exact ih _ (step_lt c h) (step_ne c h h0)
theorem steps_zero (n : Nat) : steps n 0 = 0 := by
  induction n with
  | zero => rfl
  | succ n ih => exact ih
theorem steps_shift (k x : Nat) : steps k (2 ^ k * x) = x := by
  induction k with
  | zero => simp [steps]
  | succ k ih => rw [steps, Nat.pow_succ, Nat.mul_comm (2 ^ k) 2, Nat.mul_assoc, step_double, ih]
theorem steps_inj (n a b : Nat) (ha : a < 4294967296) (hb : b < 4294967296) (h : steps n a = steps n b) : a = b := by
  have h1 : steps n (a ^^^ b) = 0 := by rw [steps_xor, h, Nat.xor_self]
  have h2 : a ^^^ b = 0 := by
    by_cases e : a ^^^ b = 0
    · exact e
    · exact absurd h1 (steps_ne n _ (Nat.xor_lt_two_pow (n := 32) ha hb) e)
  have h3 := congrArg (fun x => x ^^^ b) h2
  simpa [Nat.xor_assoc] using h3
/-- The low k bits, and the others. -/
theorem split_low (k x : Nat) : x = x % 2 ^ k ^^^ 2 ^ k * (x / 2 ^ k) := by
  apply Nat.eq_of_testBit_eq
  intro i
  rw [Nat.testBit_xor, Nat.testBit_mod_two_pow, Nat.testBit_two_pow_mul, Nat.testBit_div_two_pow]
  by_cases h : i < k
  · simp [h, show ¬ k ≤ i by omega]
  · have h' : k ≤ i := by omega
    simp [h, h', Nat.sub_add_cancel h']
/-- k steps at once: what they make of the low k bits, and the others moved down. -/
theorem steps_low (k x : Nat) : steps k x = steps k (x % 2 ^ k) ^^^ x / 2 ^ k := by
  have h := congrArg (steps k) (split_low k x)
  rwa [steps_xor, steps_shift] at h

/-! ### Texts -/
def upd (c : Nat) (b : UInt8) : Nat := steps 8 (c ^^^ b.toNat)
/-- The state behind a text. -/
def run (c : Nat) (l : List UInt8) : Nat := l.foldl upd c
theorem run_nil (c : Nat) : run c [] = c := rfl
theorem run_cons (c : Nat) (b : UInt8) (l : List UInt8) : run c (b :: l) = run (upd c b) l := rfl
theorem run_append (c : Nat) (a b : List UInt8) : run c (a ++ b) = run (run c a) b := by unfold run; rw [List.foldl_append]
theorem upd_lt (c : Nat) (b : UInt8) (h : c < 4294967296) : upd c b < 4294967296 := steps_lt 8 _ (Nat.xor_lt_two_pow (n := 32) h (by have := b.toNat_lt; omega))
theorem run_lt (l : List UInt8) : ∀ c, c < 4294967296 → run c l < 4294967296 := by
  induction l with
  | nil => intro c h; exact h
  | cons b l ih => intro c h; exact ih _ (upd_lt c b h)
theorem upd_xor (c d : Nat) (b : UInt8) : upd (c ^^^ d) b = upd c b ^^^ steps 8 d := by
  unfold upd
  rw [Nat.xor_assoc, Nat.xor_comm d, ← Nat.xor_assoc, steps_xor]
theorem run_xor (l : List UInt8) : ∀ c d, run (c ^^^ d) l = run c l ^^^ steps (8 * l.length) d := by
  induction l with
  | nil => intro c d; rfl
  | cons b l ih =>
    intro c d
    rw [run_cons, run_cons, upd_xor, ih, ← steps_add]
    congr 2
    simp only [List.length_cons]; omega
/-- All bits turned. -/
def inv (c : Nat) : Nat := 4294967295 - c
theorem inv_xor (c : Nat) (h : c < 4294967296) : inv c = 4294967295 ^^^ c := by
  have := congrArg BitVec.toNat (BitVec.allOnes_xor (x := BitVec.ofNat 32 c))
  have e : 4294967295 ^^^ c = 4294967295 - c := by simpa [BitVec.toNat_xor, BitVec.toNat_allOnes, BitVec.toNat_not, Nat.mod_eq_of_lt h] using this
  rw [e]; rfl
theorem inv_lt (c : Nat) : inv c < 4294967296 := by unfold inv; omega
theorem inv_inv (c : Nat) (h : c < 4294967296) : inv (inv c) = c := by unfold inv; omega
def add (c : Nat) (s : List UInt8) : Nat := inv (run (inv c) s)
def of (s : List UInt8) : Nat := add 0 s
theorem add_lt (c : Nat) (s : List UInt8) : add c s < 4294967296 := inv_lt _
theorem of_lt (s : List UInt8) : of s < 4294967296 := inv_lt _
theorem add_append (c : Nat) (a b : List UInt8) : add c (a ++ b) = add (add c a) b := by
  unfold add
  rw [run_append, inv_inv _ (run_lt _ _ (inv_lt _))]
theorem add_nil (c : Nat) (h : c < 4294967296) : add c [] = c := inv_inv c h
theorem of_append (a b : List UInt8) : of (a ++ b) = add (of a) b := add_append 0 a b
theorem of_nil : of [] = 0 := rfl

/-! ### Sealed texts -/
def le4 (n : Nat) : List UInt8 := [UInt8.ofNat n, UInt8.ofNat (n / 256), UInt8.ofNat (n / 65536), UInt8.ofNat (n / 16777216)]
theorem le4_length (n : Nat) : (le4 n).length = 4 := rfl
theorem upd_word (c x : Nat) : upd c (UInt8.ofNat x) ^^^ x / 256 = steps 8 (c ^^^ x) := by
  unfold upd
  rw [UInt8.toNat_ofNat', steps_xor, steps_xor, Nat.xor_assoc]
  congr 1
  exact (steps_low 8 x).symm
theorem run_le4 (c x : Nat) (h : x < 4294967296) : run c (le4 x) = steps 32 (c ^^^ x) := by
  have e : ∀ c x : Nat, upd c (UInt8.ofNat x) = steps 8 (c ^^^ x) ^^^ x / 256 := fun c x => by
    rw [← upd_word, Nat.xor_assoc, Nat.xor_self, Nat.xor_zero]
  have d1 : x / 256 / 256 = x / 65536 := by omega
  have d2 : x / 65536 / 256 = x / 16777216 := by omega
  have d3 : x / 16777216 / 256 = 0 := by omega
  unfold le4
  rw [run_cons, run_cons, run_cons, run_cons, run_nil, e c, e _ (x / 256), e _ (x / 65536), e _ (x / 16777216), d1, d2, d3, Nat.xor_zero, Nat.xor_assoc _ (x / 256), Nat.xor_self, Nat.xor_zero, Nat.xor_assoc _ (x / 65536), Nat.xor_self, Nat.xor_zero, Nat.xor_assoc _ (x / 16777216), Nat.xor_self, Nat.xor_zero, ← steps_add, ← steps_add, ← steps_add]
def seals (s : List UInt8) : List UInt8 := s ++ le4 (of s)
theorem seals_length (s : List UInt8) : (seals s).length = s.length + 4 := by unfold seals; rw [List.length_append, le4_length]
def good : Nat := 0x2144df1c
theorem all_one : inv (steps 32 4294967295) = good := by kernel_rfl
/-- A text with a number behind it has the good sum just if that is the text's. -/
theorem of_word (t : List UInt8) (x : Nat) (h : x < 4294967296) : of (t ++ le4 x) = good ↔ x = of t := by
  have hc := run_lt t (inv 0) (inv_lt 0)
  have e : of (t ++ le4 x) = inv (steps 32 (run (inv 0) t ^^^ x)) := by
    unfold of add
    rw [run_append, run_le4 _ x h]
  have ot : of t = inv (run (inv 0) t) := rfl
  generalize run (inv 0) t = c at *
  rw [e, ot]
  have hx : c ^^^ x < 4294967296 := Nat.xor_lt_two_pow (n := 32) hc h
  have hs := steps_lt 32 _ hx
  constructor
  · intro hg
    rw [← all_one] at hg
    have h1 : steps 32 (c ^^^ x) = steps 32 4294967295 := by
      have := congrArg inv hg
      rwa [inv_inv _ hs, inv_inv _ (steps_lt 32 _ (by decide))] at this
    have h2 := steps_inj 32 _ _ hx (by decide) h1
    rw [inv_xor c hc, ← h2, Nat.xor_comm c x, Nat.xor_assoc, Nat.xor_self, Nat.xor_zero]
  · intro hx
    rw [hx, inv_xor c hc, ← Nat.xor_assoc, Nat.xor_comm c, Nat.xor_assoc, Nat.xor_self, Nat.xor_zero, all_one]
theorem of_seals (s : List UInt8) : of (seals s) = good := (of_word s (of s) (of_lt s)).2 rfl
/-- Any four bytes are a number's. -/
theorem le4_all (l : List UInt8) (h : l.length = 4) : ∃ x, x < 4294967296 ∧ le4 x = l := by
  match l, h with
  | [a, b, c, d], _ =>
    have ha := a.toNat_lt
    have hb := b.toNat_lt
    have hc := c.toNat_lt
    have hd := d.toNat_lt
    refine ⟨a.toNat + 256 * b.toNat + 65536 * c.toNat + 16777216 * d.toNat, by omega, ?_⟩
    have k : ∀ (n : Nat) (u : UInt8), n % 256 = u.toNat → UInt8.ofNat n = u := fun n u e => UInt8.toNat_inj.1 (by rw [UInt8.toNat_ofNat']; exact e)
    unfold le4
    rw [k _ a (by omega), k _ b (by omega), k _ c (by omega), k _ d (by omega)]
theorem le4_inj (x y : Nat) (hx : x < 4294967296) (hy : y < 4294967296) (h : le4 x = le4 y) : x = y := by
  unfold le4 at h
  simp only [List.cons.injEq, and_true] at h
  obtain ⟨h0, h1, h2, h3⟩ := h
  have k : ∀ m n : Nat, UInt8.ofNat m = UInt8.ofNat n → m % 256 = n % 256 := fun m n e => by
    have := congrArg UInt8.toNat e
    rwa [UInt8.toNat_ofNat', UInt8.toNat_ofNat'] at this
  have := k _ _ h0
  have := k _ _ h1
  have := k _ _ h2
  have := k _ _ h3
  omega
/-- A text of four bytes and more has the good sum just if it is sealed. -/
theorem good_iff (s : List UInt8) (h : 4 ≤ s.length) : of s = good ↔ seals (s.take (s.length - 4)) = s := by
  obtain ⟨x, hx, e⟩ := le4_all (s.drop (s.length - 4)) (by rw [List.length_drop]; omega)
  have hs : s = s.take (s.length - 4) ++ le4 x := by rw [e, List.take_append_drop]
  have hw := of_word (s.take (s.length - 4)) x hx
  rw [← hs] at hw
  rw [hw]
  constructor
  · intro hxo
    unfold seals
    rw [← hxo, ← hs]
  · intro hsl
    unfold seals at hsl
    have := List.append_cancel_left (hsl.trans hs)
    exact (le4_inj _ _ (of_lt _) hx this).symm

/-! ### Bursts -/
/-- Bit j of a text is turned (the least bit of each byte first). -/
def flip (s : List UInt8) (j : Nat) : List UInt8 := s.modify (j / 8) fun x => x ^^^ UInt8.ofNat (2 ^ (j % 8))
theorem flip_length (s : List UInt8) (j : Nat) : (flip s j).length = s.length := by simp [flip]
theorem steps_one (r n : Nat) (h : r ≤ n) : steps n (2 ^ r) = steps (n - r) 1 := by
  have e := steps_add r (n - r) (2 ^ r)
  rw [show r + (n - r) = n by omega] at e
  have := steps_shift r 1
  rw [Nat.mul_one] at this
  rw [e, this]
theorem run_flip (s : List UInt8) : ∀ (c j : Nat), j < 8 * s.length → run c (flip s j) = run c s ^^^ steps (8 * s.length - j) 1 := by
  induction s with
  | nil => intro c j h; simp at h
  | cons b l ih =>
    intro c j h
    by_cases hj : j < 8
    · have e0 : j / 8 = 0 := by omega
      have e1 : j % 8 = j := by omega
      have hp : 2 ^ j < 256 := by
        have : 2 ^ j < 2 ^ 8 := Nat.pow_lt_pow_right (by decide) hj
        simpa using this
      have hf : flip (b :: l) j = (b ^^^ UInt8.ofNat (2 ^ j)) :: l := by unfold flip; rw [e0, e1]; rfl
      have hu : upd c (b ^^^ UInt8.ofNat (2 ^ j)) = upd c b ^^^ steps (8 - j) 1 := by
        unfold upd
        rw [UInt8.toNat_xor, UInt8.toNat_ofNat', Nat.mod_eq_of_lt hp, ← Nat.xor_assoc, steps_xor, steps_one j 8 (by omega)]
      rw [hf, run_cons, run_cons, hu, run_xor, ← steps_add]
      congr 2
      simp only [List.length_cons]; omega
    · have hf : flip (b :: l) j = b :: flip l (j - 8) := by
        unfold flip
        rw [show j / 8 = (j - 8) / 8 + 1 by omega, show j % 8 = (j - 8) % 8 by omega]
        rfl
      rw [hf, run_cons, run_cons, ih _ _ (by simp only [List.length_cons] at h; omega)]
      congr 2
      simp only [List.length_cons]; omega
/-- The first i of 32 bits are turned, from place n on. -/
def turn (s : List UInt8) (n bits : Nat) : Nat → List UInt8
  | 0 => s
  | i + 1 => if bits.testBit i = true then flip (turn s n bits i) (n + i) else turn s n bits i
theorem turn_length (s : List UInt8) (n bits i : Nat) : (turn s n bits i).length = s.length := by
  induction i with
  | zero => rfl
  | succ i ih => unfold turn; split <;> simp [flip_length, ih]
theorem low_succ (x i : Nat) : x % 2 ^ (i + 1) = x % 2 ^ i ^^^ (if x.testBit i = true then 2 ^ i else 0) := by
  apply Nat.eq_of_testBit_eq
  intro j
  rw [Nat.testBit_xor, Nat.testBit_mod_two_pow, Nat.testBit_mod_two_pow]
  by_cases hx : x.testBit i = true
  · rw [if_pos hx, Nat.testBit_two_pow]
    by_cases hj : j < i
    · have : ¬ i = j := by omega
      simp [hj, this, show j < i + 1 by omega]
    · by_cases hij : i = j
      · subst hij; simp [hx]
      · simp [hj, hij, show ¬ j < i + 1 by omega]
  · rw [if_neg hx]
    by_cases hj : j < i
    · simp [hj, show j < i + 1 by omega]
    · by_cases hij : i = j
      · subst hij; simp [hx]
      · simp [hj, show ¬ j < i + 1 by omega]
theorem run_turn (s : List UInt8) (c n bits : Nat) (hn : n + 32 ≤ 8 * s.length) : ∀ i, i ≤ 32 → run c (turn s n bits i) = run c s ^^^ steps (8 * s.length - n) (bits % 2 ^ i) := by
  intro i
  induction i with
  | zero => intro _; simp [turn, Nat.mod_one, steps_zero]
  | succ i ih =>
    intro hi
    have h0 := ih (by omega)
    unfold turn
    rw [low_succ]
    by_cases hb : bits.testBit i = true
    · rw [if_pos hb, if_pos hb, run_flip _ _ _ (by rw [turn_length]; omega), h0, turn_length, steps_xor, steps_one i _ (by omega), Nat.xor_assoc, show 8 * s.length - n - i = 8 * s.length - (n + i) by omega]
    · rw [if_neg hb, if_neg hb, h0, Nat.xor_zero]
/-- A BURST OF UP TO 32 BITS IS FOUND. -/
theorem of_turn (s : List UInt8) (n bits : Nat) (hn : n + 32 ≤ 8 * s.length) (hb : bits < 4294967296) (h0 : bits ≠ 0) : of (turn s n bits 32) ≠ of s := by
  intro e
  unfold of add at e
  have h1 := run_lt (turn s n bits 32) (inv 0) (inv_lt 0)
  have h2 := run_lt s (inv 0) (inv_lt 0)
  have e2 := congrArg inv e
  rw [inv_inv _ h1, inv_inv _ h2, run_turn s (inv 0) n bits hn 32 (Nat.le_refl _), Nat.mod_eq_of_lt hb] at e2
  have e3 : steps (8 * s.length - n) bits = 0 := by
    have := congrArg (fun x => run (inv 0) s ^^^ x) e2
    simpa [← Nat.xor_assoc, Nat.xor_self] using this
  exact steps_ne _ bits hb h0 e3

/-! ### The examples -/
theorem of_digits : of [49, 50, 51, 52, 53, 54, 55, 56, 57] = 0xcbf43926 := by kernel_rfl
theorem seals_nil : seals [] = [0, 0, 0, 0] := by kernel_rfl
end Go.Proofs.YtfcocbgdmmeikaaGreatDoor.Crc
/-! ## CRC-32: what Add tells, the document's own (scriniumref04) and package check's. -/
namespace Go.Proofs.YtfcocbgdmmeikaaGreatDoor
open Go.RowKit

theorem run_take (c : Nat) (l : List UInt8) (k : Nat) (h : k < l.length) : Crc.run c (l.take (k + 1)) = Crc.upd (Crc.run c (l.take k)) (l.getD k 0) := by
  have e : l.getD k 0 = l[k] := by rw [List.getD_eq_getElem?_getD, List.getElem?_eq_getElem h]; rfl
  rw [List.take_succ_eq_append_getElem h, Crc.run_append, e]
  rfl
theorem getD_byte (S : ByteArray) (k : Nat) (h : k < S.size) : S.data.toList.getD k 0 = S[k] := by
  have hl : k < S.data.toList.length := by rw [← Lib.size_eq]; exact h
  rw [List.getD_eq_getElem?_getD, List.getElem?_eq_getElem hl]
  rfl
theorem steps_snoc (n c : Nat) : Crc.steps (n + 1) c = Crc.step (Crc.steps n c) := Crc.steps_add n 1 c

/-- Ahead of byte k. -/
def AddRel (c0 : Nat) (s : List UInt8) (sc si : Value) : Prop :=
  ∃ k : Nat, k ≤ s.length ∧ si = .int .i64 k ∧ sc = .int .u32 (Crc.run c0 (s.take k) : Nat)
/-- Ahead of step j. -/
def StepRel (x : Nat) (sc si : Value) : Prop :=
  ∃ j : Nat, j ≤ 8 ∧ si = .int .i64 j ∧ sc = .int .u32 (Crc.steps j x : Nat)

theorem not_u32 (c : Nat) (h : c < 4294967296) : bits BinOp.xor .u32 IntKind.u32.max (c : Int) = (Crc.inv c : Nat) := by
  have := u32_xor_nat 4294967295 c (by decide) h
  rw [← Crc.inv_xor c h] at this
  exact this
theorem xor_b (c : Nat) (h : c < 4294967296) (b : UInt8) : bits BinOp.xor .u32 (c : Int) (b.toNat : Int) = ((c ^^^ b.toNat : Nat) : Int) := u32_xor_nat c b.toNat h (by have := b.toNat_lt; omega)
theorem xor_P (c : Nat) (h : c < 4294967296) : bits BinOp.xor .u32 (c : Int) 3988292384 = ((c ^^^ Crc.P : Nat) : Int) := u32_xor_nat c Crc.P h (by decide)

set_option maxHeartbeats 1000000 in
set_option maxRecDepth 100000 in
theorem radd_any (c : Nat) (hc : c < 4294967296) (S : ByteArray) (s : List UInt8) (hs : S.data.toList = s) (hl : s.length ≤ 9223372036854775807) (w : World) :
    Calls Tryz.prog 116 #[.int .u32 c, .string S] w fun e w' => e = .returned (.int .u32 (Crc.add c s : Nat)) ∧ w = w' := by
  have hz : S.size = s.length := by rw [← hs, Lib.size_eq]
  have h0 := not_u32 c hc
  obtain ⟨c0, hc0⟩ : ∃ c0, c0 = Crc.inv c := ⟨_, rfl⟩
  have hc1 : c0 < 4294967296 := by rw [hc0]; exact Crc.inv_lt c
  rw [← hc0] at h0
  have HC0 := Lib.hid hc0
  have HS := Lib.hid hs
  clear hc0 hs
  go_enter Tryz.func116, Tryz.ntmps116
  go_wp2
  clear h0
  go_loop [0, 5] (AddRel c0 s) (fun _ i => s.length - (intOf i).toNat)
  case atStart => exact ⟨0, by omega, rfl, rfl⟩
  case round =>
    obtain ⟨k, hk, rfl, rfl⟩ := hrel
    have hr := Crc.run_lt (s.take k) c0 hc1
    by_cases hlt : k < s.length
    · have hx := index_str S k k rfl (by omega) _ rfl
      have hst := run_take c0 s k hlt
      rw [← HS.out, getD_byte S k (by omega), HS.out] at hst
      generalize S[k]'(by omega) = x at *
      generalize Crc.run c0 (s.take k) = a at *
      have e0 := xor_b a hr x
      have e8 : (x.toNat : Int) % 4294967296 = (x.toNat : Int) := by have := x.toNat_lt; omega
      have hy : a ^^^ x.toNat < 4294967296 := Nat.xor_lt_two_pow (n := 32) hr (by have := x.toNat_lt; omega)
      have hu : Crc.upd a x = Crc.steps 8 (a ^^^ x.toNat) := rfl
      generalize a ^^^ x.toNat = y at *
      go_wp2
      clear e0 hx e8
      go_loop [0, 6] (StepRel y) (fun _ i => 8 - (intOf i).toNat)
      case atStart => exact ⟨0, by omega, rfl, rfl⟩
      case round =>
        obtain ⟨j, hj, rfl, rfl⟩ := hrel
        by_cases hjt : j < 8
        · have hsn := steps_snoc j y
          have hz1 := Crc.steps_lt j y hy
          generalize Crc.steps j y = z at *
          have HSN := Lib.hid hsn
          clear hsn
          rcases Nat.mod_two_eq_zero_or_one z with ho | ho
          · have ho1 : (z : Int) % 2 = 0 := by omega
            go_wp2
            refine ⟨⟨j + 1, by omega, by go_num, ?_⟩, by simp [intOf]; omega⟩
            rw [HSN.out]
            unfold Crc.step
            rw [if_neg (by omega), Nat.xor_zero]
            rfl
          · have ho1 : (z : Int) % 2 = 1 := by omega
            have e1 : bits BinOp.xor .u32 ((z : Int) / 2) 3988292384 = ((z / 2 ^^^ Crc.P : Nat) : Int) := xor_P (z / 2) (by omega)
            go_wp2
            refine ⟨⟨j + 1, by omega, by go_num, ?_⟩, by simp [intOf]; omega⟩
            rw [HSN.out]
            unfold Crc.step
            rw [if_pos ho]
        · obtain rfl : 8 = j := by omega
          have HU := Lib.hid (hst.trans hu)
          clear hst hu
          go_wp2
          refine ⟨⟨k + 1, by omega, by go_num, by rw [HU.out]⟩, by simp [intOf]; omega⟩
    · obtain rfl : s.length = k := by omega
      rw [List.take_length] at hr ⊢
      have e9 := not_u32 _ hr
      generalize hR : Crc.run c0 s = R at *
      have HR := Lib.hid hR
      clear hR
      go_wp2
      go_ret
      refine ⟨?_, rfl⟩
      unfold Crc.add
      rw [← HC0.out, HR.out]
      rfl

/-! ### Package check: a table of 16 is four steps -/
/-- The table lies in the program's variables. -/
def TW (w : World) : Prop := ∀ i, i < 16 → w.cell? ⟨0, i, none⟩ = some (.int .u32 (Crc.steps 4 i : Nat))
theorem TW.pos {w : World} (h : TW w) : 0 < w.heap.size := by
  have := h 0 (by decide)
  unfold World.cell? at this
  split at this
  · rename_i heq; exact (Array.getElem?_eq_some_iff.1 heq).1
  · cases this
theorem TW.old {w w' : World} (h : TW w) (k : Below w.heap.size w w') : TW w' := fun i hi => (k.cell (by exact h.pos)).trans (h i hi)
theorem TW.alloc {w : World} (h : TW w) (o : Obj) : TW (w.alloc o) := h.old ((Below.refl _ _).alloc (Nat.le_refl _) _)
theorem and15 (a : Nat) (h : a < 4294967296) : bits BinOp.and .u32 (a : Int) 15 = ((a % 16 : Nat) : Int) := by
  have := u32_and_nat a 15 h (by decide)
  rw [show a &&& 15 = a % 16 from Nat.and_two_pow_sub_one_eq_mod _ 4] at this
  exact this
/-- Four steps by the table, as numbers. -/
theorem four_steps (a n q t b : Nat) (hn : n = a % 16) (hq : q = a / 16) (ht : t = Crc.steps 4 n) (hb : b = Crc.steps 4 a) : t ^^^ q = b := by
  subst hn hq ht hb
  exact (Crc.steps_low 4 a).symm

set_option maxHeartbeats 1000000 in
set_option maxRecDepth 100000 in
theorem add_any (c : Nat) (hc : c < 4294967296) (S : ByteArray) (s : List UInt8) (hs : S.data.toList = s) (hl : s.length ≤ 9223372036854775807) (w : World) (hT : TW w) :
    Calls Tryz.prog 115 #[.int .u32 c, .string S] w fun e w' => e = .returned (.int .u32 (Crc.add c s : Nat)) ∧ w = w' := by
  have hz : S.size = s.length := by rw [← hs, Lib.size_eq]
  have h0 := not_u32 c hc
  obtain ⟨c0, hc0⟩ : ∃ c0, c0 = Crc.inv c := ⟨_, rfl⟩
  have hc1 : c0 < 4294967296 := by rw [hc0]; exact Crc.inv_lt c
  rw [← hc0] at h0
  have HC0 := Lib.hid hc0
  have HS := Lib.hid hs
  have HT := Lib.hid hT
  clear hc0 hs hT
  go_enter Tryz.func115, Tryz.ntmps115
  go_wp2
  clear h0
  go_loop [0, 10] (AddRel c0 s) (fun _ i => s.length - (intOf i).toNat)
  case atStart => exact ⟨0, by omega, rfl, rfl⟩
  case round =>
    obtain ⟨k, hk, rfl, rfl⟩ := hrel
    have hr := Crc.run_lt (s.take k) c0 hc1
    by_cases hlt : k < s.length
    · have hx := index_str S k k rfl (by omega) _ rfl
      have hst := run_take c0 s k hlt
      rw [← HS.out, getD_byte S k (by omega), HS.out] at hst
      generalize S[k]'(by omega) = x at *
      generalize Crc.run c0 (s.take k) = a at *
      have e0 := xor_b a hr x
      have e8 : (x.toNat : Int) % 4294967296 = (x.toNat : Int) := by have := x.toNat_lt; omega
      have hy : a ^^^ x.toNat < 4294967296 := Nat.xor_lt_two_pow (n := 32) hr (by have := x.toNat_lt; omega)
      have hu : Crc.upd a x = Crc.steps 4 (Crc.steps 4 (a ^^^ x.toNat)) := Crc.steps_add 4 4 _
      generalize a ^^^ x.toNat = y at *
      obtain ⟨n1, hn1⟩ : ∃ n, n = y % 16 := ⟨_, rfl⟩
      obtain ⟨q1, hq1⟩ : ∃ n, n = y / 16 := ⟨_, rfl⟩
      obtain ⟨t1, ht1⟩ : ∃ n, n = Crc.steps 4 n1 := ⟨_, rfl⟩
      obtain ⟨z, hz1⟩ : ∃ n, n = Crc.steps 4 y := ⟨_, rfl⟩
      have hz2 : z < 4294967296 := by rw [hz1]; exact Crc.steps_lt 4 y hy
      obtain ⟨n2, hn2⟩ : ∃ n, n = z % 16 := ⟨_, rfl⟩
      obtain ⟨q2, hq2⟩ : ∃ n, n = z / 16 := ⟨_, rfl⟩
      obtain ⟨t2, ht2⟩ : ∃ n, n = Crc.steps 4 n2 := ⟨_, rfl⟩
      obtain ⟨u, hu2⟩ : ∃ n, n = Crc.steps 4 z := ⟨_, rfl⟩
      have a1 := and15 y hy
      have a2 := and15 z hz2
      rw [← hn1] at a1
      rw [← hn2] at a2
      have c1 := HT.out n1 (by omega)
      have c2 := HT.out n2 (by omega)
      rw [← ht1] at c1
      rw [← ht2] at c2
      have x1 : bits BinOp.xor .u32 (t1 : Int) (q1 : Int) = (z : Int) := by
        rw [u32_xor_nat t1 q1 (by rw [ht1]; exact Crc.steps_lt _ _ (by omega)) (by omega), four_steps y n1 q1 t1 z hn1 hq1 ht1 hz1]
      have x2 : bits BinOp.xor .u32 (t2 : Int) (q2 : Int) = (u : Int) := by
        rw [u32_xor_nat t2 q2 (by rw [ht2]; exact Crc.steps_lt _ _ (by omega)) (by omega), four_steps z n2 q2 t2 u hn2 hq2 ht2 hu2]
      have d1 : (y : Int) / 16 = (q1 : Int) := by omega
      have d2 : (z : Int) / 16 = (q2 : Int) := by omega
      have HU : Hid (Crc.run c0 (s.take (k + 1)) = u) := Lib.hid (by rw [hst, hu, ← hz1, ← hu2])
      have g1 : (n1 : Int) < 16 := by omega
      have g2 : (n2 : Int) < 16 := by omega
      clear hst hu hn1 hq1 ht1 hz1 hn2 hq2 ht2 hu2
      go_wp2
      refine ⟨⟨k + 1, by omega, by go_num, by rw [HU.out]⟩, by simp [intOf]; omega⟩
    · obtain rfl : s.length = k := by omega
      rw [List.take_length] at hr ⊢
      have e9 := not_u32 _ hr
      generalize hR : Crc.run c0 s = R at *
      have HR := Lib.hid hR
      clear hR
      go_wp2
      go_ret
      refine ⟨?_, rfl⟩
      unfold Crc.add
      rw [← HC0.out, HR.out]
      rfl
end Go.Proofs.YtfcocbgdmmeikaaGreatDoor
/-! ## Package check and the document's own: what Of, Seal, Whole and Open tell. -/
namespace Go.Proofs.YtfcocbgdmmeikaaGreatDoor
open Go.RowKit

theorem rof_any (S : ByteArray) (s : List UInt8) (hs : S.data.toList = s) (hl : s.length ≤ 9223372036854775807) (w : World) :
    Calls Tryz.prog 96 #[.string S] w fun e w' => e = .returned (.int .u32 (Crc.of s : Nat)) ∧ w = w' := by
  go_enter Tryz.func96, Tryz.ntmps96
  go_wp2_with (go_at_call 116; refine (radd_any 0 (by decide) S s hs hl _).mono ?_; rintro e w1 ⟨rfl, rfl⟩)
  go_ret
  exact ⟨rfl, rfl⟩

theorem flat_none (ts : List ByteArray) : flat (ts.take 0) = [] := rfl
theorem good_beq (n : Nat) : ((n : Int) == 558161692) = decide (n = Crc.good) := by
  by_cases h : n = Crc.good
  · rw [decide_eq_true h, h]; rfl
  · rw [decide_eq_false h]
    have : ¬ (n : Int) = 558161692 := fun e => h (by unfold Crc.good; omega)
    simpa using this
/-- Ahead of part k. -/
def OfRel (ts : List ByteArray) (sc si : Value) : Prop :=
  ∃ k : Nat, k ≤ ts.length ∧ si = .int .i64 k ∧ sc = .int .u32 (Crc.of (flat (ts.take k)) : Nat)

set_option maxHeartbeats 1000000 in
set_option maxRecDepth 100000 in
theorem of_any (v : Value) (ts : List ByteArray) (l : List UInt8) (hf : flat ts = l) (w : World) (h : StrRow w v ts) (hT : TW w) (hlen : l.length ≤ 9223372036854775807) :
    Calls Tryz.prog 95 #[v] w fun e w' => e = .returned (.int .u32 (Crc.of l : Nat)) ∧ w = w' := by
  subst hf
  obtain ⟨a, cap, rfl, hl, hc⟩ := h
  have HC := Lib.hid hc
  clear hc
  go_enter Tryz.func95, Tryz.ntmps95
  go_wp2
  go_loop [3, 8] (OfRel ts) (fun _ i => ts.length - (intOf i).toNat)
  case atStart => exact ⟨0, by omega, rfl, by rw [flat_none, Crc.of_nil]; rfl⟩
  case round =>
    obtain ⟨k, hk, rfl, rfl⟩ := hrel
    by_cases hlt : k < ts.length
    · obtain ⟨b, off, rfl, hb, hj⟩ := HC.out (by intro e; rw [e] at hlt; simp at hlt)
      have hcx := hj k hlt
      have hft := flat_take ts k hlt
      have hfl := flat_le ts (k + 1)
      rw [hft, List.length_append] at hfl
      have hq := Crc.of_lt (flat (ts.take k))
      have ha := Crc.of_append (flat (ts.take k)) (ts.getD k ByteArray.empty).data.toList
      rw [← hft] at ha
      generalize ts.getD k ByteArray.empty = X at *
      generalize Crc.of (flat (ts.take k)) = q at *
      have HA := Lib.hid ha
      have HJ := Lib.hid hj
      clear hft hj ha
      go_wp2_with (first
        | (go_at_call 115; refine (add_any q hq X X.data.toList rfl (by omega) _ hT).mono ?_; rintro e w3 ⟨rfl, rfl⟩))
      refine ⟨⟨k + 1, by omega, by go_num, by rw [HA.out]⟩, by simp [intOf]; omega⟩
    · obtain rfl : ts.length = k := by omega
      rw [List.take_length]
      obtain ⟨q, hq⟩ : ∃ q, q = Crc.of (flat ts) := ⟨_, rfl⟩
      rw [← hq]
      have HQ := Lib.hid hq
      clear hq
      go_wp2
      go_ret
      refine ⟨?_, rfl⟩
      rw [← HQ.out]
      rfl
/-- Of of one text, as it is called. -/
theorem of_one (s : ByteArray) (l : List UInt8) (hs : s.data.toList = l) (w : World) (hT : TW w) (hl : l.length ≤ 9223372036854775807) :
    Calls Tryz.prog 95 #[.slice (some ⟨w.heap.size, 0, none⟩) 1 1] (w.alloc (.cells #[.string s] 9)) fun e w' => e = .returned (.int .u32 (Crc.of l : Nat)) ∧ w.alloc (.cells #[.string s] 9) = w' :=
  of_any _ [s] l (by rw [flat_one, hs]) _ (StrRow.one w s) (hT.alloc _) hl

/-- A text with its sum behind. -/
def sealB (S : ByteArray) : ByteArray := S ++ ⟨(Crc.le4 (Crc.of S.data.toList)).toArray⟩
theorem sealB_data (S : ByteArray) : (sealB S).data.toList = Crc.seals S.data.toList := by unfold sealB; rw [app_data]; rfl
theorem sealB_size (S : ByteArray) : (sealB S).size = S.size + 4 := by rw [Lib.size_eq, sealB_data, Crc.seals_length, ← Lib.size_eq]

set_option maxHeartbeats 1000000 in
set_option maxRecDepth 100000 in
theorem whole_any (S : ByteArray) (s : List UInt8) (hs : S.data.toList = s) (w : World) (hT : TW w) (hl : s.length ≤ 9223372036854775807) :
    Calls Tryz.prog 118 #[.string S] w fun e w' => e = .returned (.bool (decide (Crc.of s = Crc.good))) ∧ Below w.heap.size w w' := by
  have hg := good_beq (Crc.of s)
  go_enter Tryz.func118, Tryz.ntmps118
  go_wp2_with (go_at_call 95; refine (of_one S s hs w hT hl).mono ?_; rintro e w1 ⟨rfl, rfl⟩)
  go_ret
  exact ⟨rfl, (Below.refl _ _).alloc (Nat.le_refl _) _⟩

/-- The four bytes of a number, as a text. -/
theorem word_bytes (n : Nat) (h : n < 4294967296) : ∃ (b0 b1 b2 b3 : UInt8) (T : ByteArray), (n : Int) % 256 = (b0.toNat : Int) ∧ (n : Int) / 256 % 256 = (b1.toNat : Int) ∧ (n : Int) / 65536 % 256 = (b2.toNat : Int) ∧ (n : Int) / 16777216 = (b3.toNat : Int) ∧ T.size = 4 ∧ T = ⟨(Crc.le4 n).toArray⟩ ∧ T.data.toList = [b0, b1, b2, b3] := by
  refine ⟨UInt8.ofNat n, UInt8.ofNat (n / 256), UInt8.ofNat (n / 65536), UInt8.ofNat (n / 16777216), ⟨(Crc.le4 n).toArray⟩, ?_, ?_, ?_, ?_, rfl, rfl, rfl⟩ <;> rw [UInt8.toNat_ofNat'] <;> omega
set_option maxRecDepth 100000 in
theorem convert_four (b0 b1 b2 b3 : UInt8) (T : ByteArray) (hT : T.data.toList = [b0, b1, b2, b3]) (w : World) (b : Nat) {ty : TypeId} (hw : w.heap[b]? = some (.cells ([b0, b1, b2, b3].map u8V).toArray ty (0, 0))) : (convert 48 9 (.slice (some ⟨b, 0, none⟩) 4 4)).run Tryz.prog w = .ok (.string T) w := by
  have := convert_bytes w b 4 4 [b0, b1, b2, b3] rfl (cell_u8 hw)
  rw [this]
  congr 2
  rw [← hT]

set_option maxHeartbeats 1000000 in
set_option maxRecDepth 100000 in
theorem rseal_any (S : ByteArray) (hl : S.size ≤ 1000000) (w : World) :
    Calls Tryz.prog 69 #[.string S] w fun e w' => e = .returned (.string (sealB S)) ∧ Below w.heap.size w w' := by
  have hle : S.data.toList.length ≤ 9223372036854775807 := by rw [← Lib.size_eq]; omega
  have hof := rof_any S _ rfl hle w
  have hS : sealB S = S ++ ⟨(Crc.le4 (Crc.of S.data.toList)).toArray⟩ := rfl
  have hn := Crc.of_lt S.data.toList
  generalize Crc.of S.data.toList = n at *
  obtain ⟨b0, b1, b2, b3, T, h0, h1, h2, h3, hz, hT, hd⟩ := word_bytes n hn
  rw [← hT] at hS
  rw [hS]
  have hcv := fun W : World => convert_four b0 b1 b2 b3 T hd (W.alloc (.cells #[.int .u8 b0.toNat, .int .u8 b1.toNat, .int .u8 b2.toNat, .int .u8 b3.toNat] 5)) W.heap.size (heap_alloc_last W _)
  have HOF := Lib.hid hof
  clear hT hd hS hof hle
  go_enter Tryz.func69, Tryz.ntmps69
  go_wp2_with (go_at_call 96; refine HOF.out.mono ?_; rintro e w1 ⟨rfl, rfl⟩)
  go_ret
  exact ⟨rfl, (Below.refl _ _).alloc (Nat.le_refl _) _⟩

/-- The bytes that are written so far. -/
def SealRel (q : Nat) (B : List UInt8) (w : World) (si : Value) (wr : World) : Prop :=
  ∃ i : Nat, i ≤ 4 ∧ si = .int .i64 i ∧ wr.heap[q]? = some (.cells ((B.take i ++ List.replicate (4 - i) 0).map u8V).toArray 132 (0, 0)) ∧ Below w.heap.size w wr
set_option maxHeartbeats 1000000 in
set_option maxRecDepth 100000 in
theorem seal_any (S : ByteArray) (hl : S.size ≤ 1000000) (w : World) (hT : TW w) :
    Calls Tryz.prog 67 #[.string S] w fun e w' => e = .returned (.string (sealB S)) ∧ Below w.heap.size w w' := by
  have hle : S.data.toList.length ≤ 9223372036854775807 := by rw [← Lib.size_eq]; omega
  have hof := of_one S _ rfl w hT hle
  have hS : sealB S = S ++ ⟨(Crc.le4 (Crc.of S.data.toList)).toArray⟩ := rfl
  have hn := Crc.of_lt S.data.toList
  generalize Crc.of S.data.toList = n at *
  obtain ⟨b0, b1, b2, b3, T, h0, h1, h2, h3, hz, hT, hd⟩ := word_bytes n hn
  have h4 : Crc.le4 n = [b0, b1, b2, b3] := by rw [← hd, hT]
  rw [← hT] at hS
  rw [hS]
  have HOF := Lib.hid hof
  have H4 := Lib.hid h4
  have HD := Lib.hid hd
  clear hT hd hS hof hle h4
  go_enter Tryz.func67, Tryz.ntmps67
  go_wp2_with (go_at_call 95; refine HOF.out.mono ?_; rintro e w1 ⟨rfl, rfl⟩)
  have bb : Below w.heap.size w ((w.alloc (.cells #[.string S] 9)).alloc (.cells #[.int .u8 0, .int .u8 0, .int .u8 0, .int .u8 0] 132)) := ((Below.refl _ _).alloc (Nat.le_refl _) _).alloc (by simp) _
  have hh : ((w.alloc (.cells #[.string S] 9)).alloc (.cells #[.int .u8 0, .int .u8 0, .int .u8 0, .int .u8 0] 132)).heap[w.heap.size + 1]? = some (.cells (([b0, b1, b2, b3].take 0 ++ List.replicate (4 - 0) 0).map u8V).toArray 132 (0, 0)) := by
    have := heap_alloc_last (w.alloc (.cells #[.string S] 9)) (.cells #[.int .u8 0, .int .u8 0, .int .u8 0, .int .u8 0] 132)
    rw [World.size_alloc] at this
    exact this
  go_loopw [9] (SealRel (w.heap.size + 1) [b0, b1, b2, b3] w) (fun i _ => 4 - (intOf i).toNat)
  case atStart => exact ⟨0, by omega, rfl, hh, bb⟩
  case round =>
    obtain ⟨i, hi, rfl, hc, hbl⟩ := hrel
    clear hh bb
    by_cases hlt : i < 4
    · have ci := cell_u8D hc i (by simp; omega)
      have fi := fz_of hc i
      have hst := fill_step [b0, b1, b2, b3] i 4 hlt (Nat.le_refl _)
      have HC := Lib.hid hc
      have HST := Lib.hid hst
      have HB := Lib.hid hbl
      clear hc hst hbl
      obtain rfl | rfl | rfl | rfl : i = 0 ∨ i = 1 ∨ i = 2 ∨ i = 3 := by omega
      all_goals
        go_wp2
        refine ⟨⟨_ + 1, ?_, by go_num, (heap_set (w := wr) HC.out _).trans (by rw [u8_set, ← HST.out]; rfl), HB.out.setCell (by simp) _⟩, by simp [intOf]⟩
        omega
    · obtain rfl : 4 = i := by omega
      have hcv := convert_four b0 b1 b2 b3 T HD.out wr _ hc
      clear hc
      go_wp2
      go_ret
      exact ⟨rfl, hbl⟩
end Go.Proofs.YtfcocbgdmmeikaaGreatDoor
/-! ## Package check and the document's own: what Open tells. -/
namespace Go.Proofs.YtfcocbgdmmeikaaGreatDoor
open Go.RowKit

/-- Is a text sealed? -/
def sealed (S : ByteArray) : Bool := decide (4 ≤ S.size) && decide (Crc.of S.data.toList = Crc.good)
/-- What a sealed text is the sealing of. -/
def copenB (S : ByteArray) : ByteArray := if sealed S = true then S.extract 0 (S.size - 4) else ⟨#[]⟩
theorem sealed_short {S : ByteArray} (h : S.size < 4) : sealed S = false := by
  unfold sealed
  rw [decide_eq_false (by omega), Bool.false_and]
theorem sealed_long {S : ByteArray} (h : 4 ≤ S.size) : sealed S = decide (Crc.of S.data.toList = Crc.good) := by
  unfold sealed
  rw [decide_eq_true h, Bool.true_and]
theorem cut_data (S : ByteArray) (n : Nat) : (S.extract 0 n).data.toList = S.data.toList.take n := by
  rw [ByteArray.data_extract]; simp
theorem sealed_iff {S : ByteArray} (h : 4 ≤ S.size) : decide (sealB (S.extract 0 (S.size - 4)) = S) = sealed S := by
  rw [sealed_long h]
  refine decide_eq_decide.2 ?_
  have hl : 4 ≤ S.data.toList.length := by rw [← Lib.size_eq]; exact h
  rw [Crc.good_iff _ hl]
  have e : (sealB (S.extract 0 (S.size - 4))).data.toList = Crc.seals (S.data.toList.take (S.data.toList.length - 4)) := by
    rw [sealB_data, cut_data, Lib.size_eq]
  rw [← e]
  constructor
  · intro h; rw [h]
  · intro h; exact ByteArray.ext (Array.toList_inj.1 h)
theorem sealed_sealB (S : ByteArray) : sealed (sealB S) = true := by
  rw [sealed_long (by rw [sealB_size]; omega), sealB_data]
  exact decide_eq_true (Crc.of_seals _)
theorem copenB_sealB (S : ByteArray) : copenB (sealB S) = S := by
  unfold copenB
  rw [if_pos (sealed_sealB S)]
  apply ByteArray.ext
  apply Array.toList_inj.1
  rw [cut_data, sealB_data, sealB_size, Lib.size_eq]
  unfold Crc.seals
  simp

set_option maxHeartbeats 1000000 in
set_option maxRecDepth 100000 in
theorem copen_any (S : ByteArray) (w : World) (hT : TW w) (hl : S.size ≤ 1000000) :
    Calls Tryz.prog 98 #[.string S] w fun e w' => e = .returned (.tuple #[.string (copenB S), .bool (sealed S)]) ∧ Below w.heap.size w w' := by
  have hle : S.data.toList.length ≤ 9223372036854775807 := by rw [← Lib.size_eq]; omega
  by_cases h4 : S.size < 4
  · have hs := sealed_short h4
    have ho : copenB S = ⟨#[]⟩ := by unfold copenB; rw [hs]; rfl
    rw [hs, ho]
    go_enter Tryz.func98, Tryz.ntmps98
    go_wp2_with (fail)
    go_ret2
    exact ⟨rfl, Below.refl _ _⟩
  · have h4' : 4 ≤ S.size := by omega
    have hs := sealed_long h4'
    have hw := whole_any S _ rfl w hT hle
    rw [← hs] at hw
    have HW := Lib.hid hw
    clear hw
    cases hb : sealed S with
    | false =>
      have ho : copenB S = ⟨#[]⟩ := by unfold copenB; rw [hb]; rfl
      rw [hb] at HW
      rw [ho]
      go_enter Tryz.func98, Tryz.ntmps98
      go_wp2_with (go_at_call 118; refine HW.out.mono ?_; rintro e w1 ⟨rfl, b1⟩)
      go_ret2
      exact ⟨rfl, b1⟩
    | true =>
      have ho : copenB S = S.extract 0 (S.size - 4) := by unfold copenB; rw [if_pos hb]
      rw [hb] at HW
      rw [ho]
      go_enter Tryz.func98, Tryz.ntmps98
      go_wp2_with (go_at_call 118; refine HW.out.mono ?_; rintro e w1 ⟨rfl, b1⟩)
      go_ret2
      exact ⟨rfl, b1⟩

set_option maxHeartbeats 1000000 in
set_option maxRecDepth 100000 in
theorem ropen_any (S : ByteArray) (w : World) (hl : S.size ≤ 1000000) :
    Calls Tryz.prog 77 #[.string S] w fun e w' => e = .returned (.tuple #[.string (copenB S), .bool (sealed S)]) ∧ Below w.heap.size w w' := by
  by_cases h4 : S.size < 4
  · have hs := sealed_short h4
    have ho : copenB S = ⟨#[]⟩ := by unfold copenB; rw [hs]; rfl
    rw [hs, ho]
    go_enter Tryz.func77, Tryz.ntmps77
    go_wp2_with (fail)
    go_ret2
    exact ⟨rfl, Below.refl _ _⟩
  · have h4' : 4 ≤ S.size := by omega
    have hs := sealed_iff h4'
    have ho : copenB S = if sealed S = true then S.extract 0 (S.size - 4) else ⟨#[]⟩ := rfl
    have hw := rseal_any (S.extract 0 (S.size - 4)) (by rw [ByteArray.size_extract]; omega) w
    generalize sealB (S.extract 0 (S.size - 4)) = X at *
    have HW := Lib.hid hw
    clear hw
    by_cases hx : X = S
    · rw [decide_eq_true hx] at hs
      rw [← hs, if_pos rfl] at ho
      rw [← hs, ho]
      subst hx
      clear ho hs
      go_enter Tryz.func77, Tryz.ntmps77
      go_wp2_with (go_at_call 69; refine HW.out.mono ?_; rintro e w1 ⟨rfl, b1⟩)
      go_ret2
      exact ⟨rfl, b1⟩
    · rw [decide_eq_false hx] at hs
      rw [← hs, if_neg (by decide)] at ho
      rw [← hs, ho]
      have hl : (X.toList == S.toList) = false := by
        have : X.toList ≠ S.toList := fun e => hx (by rw [Lib.toList_data, Lib.toList_data] at e; exact ByteArray.ext (Array.toList_inj.1 e))
        simpa using this
      clear ho hs
      go_enter Tryz.func77, Tryz.ntmps77
      go_wp2_with (go_at_call 69; refine HW.out.mono ?_; rintro e w1 ⟨rfl, b1⟩)
      go_ret2
      exact ⟨rfl, b1⟩

end Go.Proofs.YtfcocbgdmmeikaaGreatDoor
