/-
  Plain mathematics of SHA-256: a block, a text's blocks, digits. No walk, no program.
-/
import Derived.Laws.BitsAllLaws
import Derived.Lib.Strings
import Derived.KernelRfl
namespace Go.Proofs.YtgiakpnkidblpaaDoor.Sha
open Go

/-- x of 32 bits, turned right by n bits. -/
def rotr (n x : Nat) : Nat := x / 2 ^ n ||| x * 2 ^ (32 - n) % 4294967296
def s0 (x : Nat) : Nat := rotr 7 x ^^^ rotr 18 x ^^^ x / 8
def s1 (x : Nat) : Nat := rotr 17 x ^^^ rotr 19 x ^^^ x / 1024
def S0 (x : Nat) : Nat := rotr 2 x ^^^ rotr 13 x ^^^ rotr 22 x
def S1 (x : Nat) : Nat := rotr 6 x ^^^ rotr 11 x ^^^ rotr 25 x
def ch (e f g : Nat) : Nat := (e &&& f) ^^^ ((4294967295 - e) &&& g)
def maj (a b c : Nat) : Nat := (a &&& b) ^^^ (a &&& c) ^^^ (b &&& c)
def t1 (h e f g k w : Nat) : Nat := (h + S1 e + ch e f g + k + w) % 4294967296
def t2 (a b c : Nat) : Nat := (S0 a + maj a b c) % 4294967296

/-- The eight numbers of a state. -/
structure V where
  a : Nat
  b : Nat
  c : Nat
  d : Nat
  e : Nat
  f : Nat
  g : Nat
  h : Nat

def V.ok (v : V) : Prop := v.a < 4294967296 ∧ v.b < 4294967296 ∧ v.c < 4294967296 ∧ v.d < 4294967296 ∧ v.e < 4294967296 ∧ v.f < 4294967296 ∧ v.g < 4294967296 ∧ v.h < 4294967296
def V.list (v : V) : List Nat := [v.a, v.b, v.c, v.d, v.e, v.f, v.g, v.h]

def round (v : V) (k w : Nat) : V :=
  ⟨(t1 v.h v.e v.f v.g k w + t2 v.a v.b v.c) % 4294967296, v.a, v.b, v.c, (v.d + t1 v.h v.e v.f v.g k w) % 4294967296, v.e, v.f, v.g⟩

/-- The numbers K. -/
def K : List Nat := [
  0x428a2f98, 0x71374491, 0xb5c0fbcf, 0xe9b5dba5, 0x3956c25b, 0x59f111f1, 0x923f82a4, 0xab1c5ed5,
  0xd807aa98, 0x12835b01, 0x243185be, 0x550c7dc3, 0x72be5d74, 0x80deb1fe, 0x9bdc06a7, 0xc19bf174,
  0xe49b69c1, 0xefbe4786, 0x0fc19dc6, 0x240ca1cc, 0x2de92c6f, 0x4a7484aa, 0x5cb0a9dc, 0x76f988da,
  0x983e5152, 0xa831c66d, 0xb00327c8, 0xbf597fc7, 0xc6e00bf3, 0xd5a79147, 0x06ca6351, 0x14292967,
  0x27b70a85, 0x2e1b2138, 0x4d2c6dfc, 0x53380d13, 0x650a7354, 0x766a0abb, 0x81c2c92e, 0x92722c85,
  0xa2bfe8a1, 0xa81a664b, 0xc24b8b70, 0xc76c51a3, 0xd192e819, 0xd6990624, 0xf40e3585, 0x106aa070,
  0x19a4c116, 0x1e376c08, 0x2748774c, 0x34b0bcb5, 0x391c0cb3, 0x4ed8aa4a, 0x5b9cca4f, 0x682e6ff3,
  0x748f82ee, 0x78a5636f, 0x84c87814, 0x8cc70208, 0x90befffa, 0xa4506ceb, 0xbef9a3f7, 0xc67178f2]

def start : V := ⟨0x6a09e667, 0xbb67ae85, 0x3c6ef372, 0xa54ff53a, 0x510e527f, 0x9b05688c, 0x1f83d9ab, 0x5be0cd19⟩

/-- The numbers W, the last one first: those of the block, and n more. -/
def wl (b : List Nat) : Nat → List Nat
  | 0 => b.reverse
  | n + 1 => ((s1 ((wl b n).getD 1 0) + (wl b n).getD 6 0 + s0 ((wl b n).getD 14 0) + (wl b n).getD 15 0) % 4294967296) :: wl b n

/-- The numbers W0 to W63. -/
def ws (b : List Nat) : List Nat := (wl b 48).reverse
/-- The state ahead of round t. -/
def rounds (v : V) (b : List Nat) (t : Nat) : V := ((K.zip (ws b)).take t).foldl (fun v x => round v x.1 x.2) v
def V.plus (v u : V) : V := ⟨(v.a + u.a) % 4294967296, (v.b + u.b) % 4294967296, (v.c + u.c) % 4294967296, (v.d + u.d) % 4294967296, (v.e + u.e) % 4294967296, (v.f + u.f) % 4294967296, (v.g + u.g) % 4294967296, (v.h + u.h) % 4294967296⟩
/-- WHAT Step TELLS. -/
def step (v : V) (b : List Nat) : V := v.plus (rounds v b 64)

theorem rotr_lt (n x : Nat) (h : x < 4294967296) : rotr n x < 4294967296 := by
  have h1 : x / 2 ^ n < 2 ^ 32 := Nat.lt_of_le_of_lt (Nat.div_le_self _ _) h
  have h2 : x * 2 ^ (32 - n) % 4294967296 < 2 ^ 32 := Nat.mod_lt _ (by decide)
  exact Nat.or_lt_two_pow h1 h2
theorem xor_lt {a b : Nat} (h : a < 4294967296) (k : b < 4294967296) : a ^^^ b < 4294967296 := Nat.xor_lt_two_pow (n := 32) h k
theorem and_lt {a b : Nat} (h : a < 4294967296) : a &&& b < 4294967296 := Nat.lt_of_le_of_lt Nat.and_le_left h
theorem div_lt {x : Nat} (n : Nat) (h : x < 4294967296) : x / n < 4294967296 := Nat.lt_of_le_of_lt (Nat.div_le_self _ _) h
theorem s0_lt (x : Nat) (h : x < 4294967296) : s0 x < 4294967296 := xor_lt (xor_lt (rotr_lt _ _ h) (rotr_lt _ _ h)) (div_lt _ h)
theorem s1_lt (x : Nat) (h : x < 4294967296) : s1 x < 4294967296 := xor_lt (xor_lt (rotr_lt _ _ h) (rotr_lt _ _ h)) (div_lt _ h)
theorem S0_lt (x : Nat) (h : x < 4294967296) : S0 x < 4294967296 := xor_lt (xor_lt (rotr_lt _ _ h) (rotr_lt _ _ h)) (rotr_lt _ _ h)
theorem S1_lt (x : Nat) (h : x < 4294967296) : S1 x < 4294967296 := xor_lt (xor_lt (rotr_lt _ _ h) (rotr_lt _ _ h)) (rotr_lt _ _ h)
theorem ch_lt (e f g : Nat) (h : e < 4294967296) : ch e f g < 4294967296 := xor_lt (and_lt h) (and_lt (by omega))
theorem maj_lt (a b c : Nat) (h : a < 4294967296) (k : b < 4294967296) : maj a b c < 4294967296 := xor_lt (xor_lt (and_lt h) (and_lt h)) (and_lt k)

theorem round_ok {v : V} (h : v.ok) (k w : Nat) : (round v k w).ok := by
  obtain ⟨h1, h2, h3, h4, h5, h6, h7, h8⟩ := h
  exact ⟨Nat.mod_lt _ (by decide), h1, h2, h3, Nat.mod_lt _ (by decide), h5, h6, h7⟩
theorem foldl_ok : ∀ (l : List (Nat × Nat)) (v : V), v.ok → (l.foldl (fun v x => round v x.1 x.2) v).ok
  | [], _, h => h
  | x :: l, _, h => foldl_ok l _ (round_ok h x.1 x.2)
theorem rounds_ok {v : V} (h : v.ok) (b : List Nat) (t : Nat) : (rounds v b t).ok := foldl_ok _ _ h
theorem plus_ok (v u : V) : (v.plus u).ok := by
  refine ⟨?_, ?_, ?_, ?_, ?_, ?_, ?_, ?_⟩ <;> exact Nat.mod_lt _ (by decide)
theorem step_ok (v : V) (b : List Nat) : (step v b).ok := plus_ok _ _
theorem start_ok : start.ok := by unfold V.ok start; decide

theorem wl_length (b : List Nat) (n : Nat) : (wl b n).length = b.length + n := by
  induction n with
  | zero => simp [wl]
  | succ n ih => simp only [wl, List.length_cons, ih]; omega
theorem wl_drop (b : List Nat) (n m : Nat) : (wl b (n + m)).drop m = wl b n := by
  induction m with
  | zero => rfl
  | succ m ih => rw [← Nat.add_assoc]; simp only [wl, List.drop_succ_cons]; exact ih
theorem ws_length (b : List Nat) (h : b.length = 16) : (ws b).length = 64 := by unfold ws; rw [List.length_reverse, wl_length, h]
theorem rounds_step (v : V) (b : List Nat) (h : b.length = 16) (t : Nat) (ht : t < 64) : rounds v b (t + 1) = round (rounds v b t) (K.getD t 0) ((ws b).getD t 0) := by
  have hw := ws_length b h
  have hk : K.length = 64 := by decide
  have hz : (K.zip (ws b)).length = 64 := by rw [List.length_zip, hw, hk]; rfl
  unfold rounds
  rw [List.take_succ_eq_append_getElem (by omega), List.foldl_append]
  simp [List.getElem_zip, hw, hk, ht]

/-- The program's own sixteen numbers, ahead of round t. -/
def ring (b : List Nat) : Nat → List Nat
  | 0 => b
  | t + 1 => if t < 16 then ring b t else (ring b t).set (t % 16) (((ring b t).getD (t % 16) 0 + (s1 ((ring b t).getD ((t - 2) % 16) 0) + (ring b t).getD ((t - 7) % 16) 0 + s0 ((ring b t).getD ((t - 15) % 16) 0))) % 4294967296)
theorem ring_length (b : List Nat) (h : b.length = 16) (t : Nat) : (ring b t).length = 16 := by
  induction t with
  | zero => exact h
  | succ t ih => unfold ring; split <;> simp [ih]
theorem ring_small (b : List Nat) (t : Nat) (h : t ≤ 16) : ring b t = b := by
  induction t with
  | zero => rfl
  | succ t ih => unfold ring; rw [if_pos (by omega)]; exact ih (by omega)
theorem ring_at (b : List Nat) (h : b.length = 16) (n : Nat) : ∀ j, j < 16 → (ring b (16 + n)).getD ((16 + n - 1 - j) % 16) 0 = (wl b n).getD j 0 := by
  induction n with
  | zero =>
    intro j hj
    rw [ring_small b _ (by omega)]
    have e : (16 + 0 - 1 - j) % 16 = 15 - j := by omega
    rw [e]
    show b.getD (15 - j) 0 = b.reverse.getD j 0
    rw [List.getD_eq_getElem?_getD, List.getD_eq_getElem?_getD, List.getElem?_reverse (by omega)]
    congr 2
    omega
  | succ n ih =>
    intro j hj
    have hl := ring_length b h (16 + n)
    have e1 := ih 1 (by omega)
    have e6 := ih 6 (by omega)
    have e14 := ih 14 (by omega)
    have e15 := ih 15 (by omega)
    have er : ring b (16 + (n + 1)) = (ring b (16 + n)).set ((16 + n) % 16) ((s1 ((wl b n).getD 1 0) + (wl b n).getD 6 0 + s0 ((wl b n).getD 14 0) + (wl b n).getD 15 0) % 4294967296) := by
      rw [← Nat.add_assoc, ring, if_neg (by omega), ← e1, ← e6, ← e14, ← e15]
      have q1 : (16 + n - 1 - 1) % 16 = (16 + n - 2) % 16 := by omega
      have q6 : (16 + n - 1 - 6) % 16 = (16 + n - 7) % 16 := by omega
      have q14 : (16 + n - 1 - 14) % 16 = (16 + n - 15) % 16 := by omega
      have q15 : (16 + n - 1 - 15) % 16 = (16 + n) % 16 := by omega
      rw [q1, q6, q14, q15, Nat.add_comm ((ring b (16 + n)).getD ((16 + n) % 16) 0)]
    rw [er]
    cases j with
    | zero =>
      have e : (16 + (n + 1) - 1 - 0) % 16 = (16 + n) % 16 := by omega
      rw [e, wl, List.getD_cons_zero, List.getD_eq_getElem?_getD, List.getElem?_set_self (by omega)]
      rfl
    | succ j =>
      have e : (16 + (n + 1) - 1 - (j + 1)) % 16 = (16 + n - 1 - j) % 16 := by omega
      rw [e, wl, List.getD_cons_succ, ← ih j (by omega), List.getD_eq_getElem?_getD, List.getElem?_set_ne (by omega), ← List.getD_eq_getElem?_getD]
theorem ring_w (b : List Nat) (h : b.length = 16) (t : Nat) (ht : t < 64) : (ring b (t + 1)).getD (t % 16) 0 = (ws b).getD t 0 := by
  have hl48 := wl_length b 48
  unfold ws
  rw [List.getD_eq_getElem?_getD (l := (wl b 48).reverse), List.getElem?_reverse (by omega), hl48, h]
  by_cases h16 : t < 16
  · rw [ring_small b _ (by omega)]
    have hd := wl_drop b 0 48
    have e2 : (wl b 48)[16 + 48 - 1 - t]? = b.reverse[15 - t]? := by
      show _ = (wl b 0)[15 - t]?
      rw [← hd, List.getElem?_drop]
      congr 1
      omega
    have e3 : t % 16 = t := by omega
    rw [e2, e3, List.getElem?_reverse (by omega), List.getD_eq_getElem?_getD]
    congr 2
    omega
  · obtain ⟨n, rfl⟩ : ∃ n, t = 16 + n := ⟨t - 16, by omega⟩
    have e := ring_at b h (n + 1) 0 (by omega)
    have q : (16 + (n + 1) - 1 - 0) % 16 = (16 + n) % 16 := by omega
    rw [q, ← Nat.add_assoc] at e
    rw [e, List.getD_eq_getElem?_getD]
    have hd := wl_drop b (n + 1) (47 - n)
    have q2 : n + 1 + (47 - n) = 48 := by omega
    rw [q2] at hd
    rw [← hd, List.getElem?_drop]
    congr 2
    omega
theorem ring_lt (b : List Nat) (h : ∀ x ∈ b, x < 4294967296) (t : Nat) : ∀ x ∈ ring b t, x < 4294967296 := by
  induction t with
  | zero => exact h
  | succ t ih =>
    unfold ring
    split
    · exact ih
    · intro x hx
      rcases List.mem_or_eq_of_mem_set hx with hx | rfl
      · exact ih x hx
      · exact Nat.mod_lt _ (by decide)
theorem getD_lt (l : List Nat) (h : ∀ x ∈ l, x < 4294967296) (i : Nat) : l.getD i 0 < 4294967296 := by
  rw [List.getD_eq_getElem?_getD]
  cases e : l[i]? with
  | none => decide
  | some x => exact h x (List.mem_of_getElem? e)
theorem K_lt (i : Nat) : K.getD i 0 < 4294967296 := getD_lt K (by decide) i

def abc : List Nat := [0x61626380, 0, 0, 0, 0, 0, 0, 0, 0, 0, 0, 0, 0, 0, 0, 24]
theorem step_abc : step start abc = ⟨0xba7816bf, 0x8f01cfea, 0x414140de, 0x5dae2223, 0xb00361a3, 0x96177a9c, 0xb410ff61, 0xf20015ad⟩ := by kernel_rfl
end Go.Proofs.YtgiakpnkidblpaaDoor.Sha
