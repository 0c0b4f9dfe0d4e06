/-
  Several texts in one (ShaPure, ShaRot, ShaBase, ShaText, ShaMem, ShaEq, ShaIs, ShaHex, ShaEnd).
-/
import Derived.Laws.BitsAllLaws
import Derived.Lib.Strings
import Derived.KernelRfl
import Derived.Test.YtollcdalokhjaaaDoorMGen
import Derived.Maps.AppendAt
import Derived.WalkSmall
import Derived.Laws.IdiomStrings
import Derived.Lib.UnsafeStr
import Derived.Deep.RegionLaw
import Derived.Laws.MakeOwn
/-! ## Plain mathematics of SHA-256: a block, a text's blocks, digits. No walk, no program. -/
namespace Go.Proofs.YtollcdalokhjaaaDoor.Sha
open Go

/-- x of 32 bits, turned right by n bits. -/
def rotr (n x : Nat) : Nat := x / 2 ^ n ||| x * 2 ^ (32 - n) % 4294967296
def s0 (x : Nat) : Nat := rotr 7 x ^^^ rotr 18 x ^^^ x / 8
def s1 (x : Nat) : Nat := rotr 17 x ^^^ rotr 19 x ^^^ x / 1024
def S0 (x : Nat) : Nat := rotr 2 x ^^^ rotr 13 x ^^^ rotr 22 x
def S1 (x : Nat) : Nat := rotr 6 x ^^^ rotr 11 x ^^^ rotr 25 x
def ch (e f g : Nat) : Nat := (e &&& f) ^^^ ((4294967295 - e) &&& g)
def maj (a b c : Nat) : Nat := (a &&& b) ^^^ (a &&& c) ^^^ (b &&& c)
def t1 (h e f g k w : Nat) : Nat := (h + S1 e + ch e f g + k + w) % 4294967296
def t2 (a b c : Nat) : Nat := (S0 a + maj a b c) % 4294967296

/-- The eight numbers of a state. -/
structure V where
  a : Nat
  b : Nat
  c : Nat
  d : Nat
  e : Nat
  f : Nat
  g : Nat
  h : Nat

def V.ok (v : V) : Prop := v.a < 4294967296 ∧ v.b < 4294967296 ∧ v.c < 4294967296 ∧ v.d < 4294967296 ∧ v.e < 4294967296 ∧ v.f < 4294967296 ∧ v.g < 4294967296 ∧ v.h < 4294967296
def V.list (v : V) : List Nat := [v.a, v.b, v.c, v.d, v.e, v.f, v.g, v.h]

def round (v : V) (k w : Nat) : V :=
  ⟨(t1 v.h v.e v.f v.g k w + t2 v.a v.b v.c) % 4294967296, v.a, v.b, v.c, (v.d + t1 v.h v.e v.f v.g k w) % 4294967296, v.e, v.f, v.g⟩

/-- The numbers K. -/
def K : List Nat := [
  0x428a2f98, 0x71374491, 0xb5c0fbcf, 0xe9b5dba5, 0x3956c25b, 0x59f111f1, 0x923f82a4, 0xab1c5ed5,
  0xd807aa98, 0x12835b01, 0x243185be, 0x550c7dc3, 0x72be5d74, 0x80deb1fe, 0x9bdc06a7, 0xc19bf174,
  0xe49b69c1, 0xefbe4786, 0x0fc19dc6, 0x240ca1cc, 0x2de92c6f, 0x4a7484aa, 0x5cb0a9dc, 0x76f988da,
  0x983e5152, 0xa831c66d, 0xb00327c8, 0xbf597fc7, 0xc6e00bf3, 0xd5a79147, 0x06ca6351, 0x14292967,
  0x27b70a85, 0x2e1b2138, 0x4d2c6dfc, 0x53380d13, 0x650a7354, 0x766a0abb, 0x81c2c92e, 0x92722c85,
  0xa2bfe8a1, 0xa81a664b, 0xc24b8b70, 0xc76c51a3, 0xd192e819, 0xd6990624, 0xf40e3585, 0x106aa070,
  0x19a4c116, 0x1e376c08, 0x2748774c, 0x34b0bcb5, 0x391c0cb3, 0x4ed8aa4a, 0x5b9cca4f, 0x682e6ff3,
  0x748f82ee, 0x78a5636f, 0x84c87814, 0x8cc70208, 0x90befffa, 0xa4506ceb, 0xbef9a3f7, 0xc67178f2]

def start : V := ⟨0x6a09e667, 0xbb67ae85, 0x3c6ef372, 0xa54ff53a, 0x510e527f, 0x9b05688c, 0x1f83d9ab, 0x5be0cd19⟩

/-- The numbers W, the last one first: those of the block, and n more. -/
def wl (b : List Nat) : Nat → List Nat
  | 0 => b.reverse
  | n + 1 => ((s1 ((wl b n).getD 1 0) + (wl b n).getD 6 0 + s0 ((wl b n).getD 14 0) + (wl b n).getD 15 0) % 4294967296) :: wl b n

/-- The numbers W0 to W63. -/
def ws (b : List Nat) : List Nat := (wl b 48).reverse
/-- The state ahead of round t. -/
def rounds (v : V) (b : List Nat) (t : Nat) : V := ((K.zip (ws b)).take t).foldl (fun v x => round v x.1 x.2) v
def V.plus (v u : V) : V := ⟨(v.a + u.a) % 4294967296, (v.b + u.b) % 4294967296, (v.c + u.c) % 4294967296, (v.d + u.d) % 4294967296, (v.e + u.e) % 4294967296, (v.f + u.f) % 4294967296, (v.g + u.g) % 4294967296, (v.h + u.h) % 4294967296⟩
/-- WHAT Step TELLS. -/
def step (v : V) (b : List Nat) : V := v.plus (rounds v b 64)

theorem rotr_lt (n x : Nat) (h : x < 4294967296) : rotr n x < 4294967296 := by
  have h1 : x / 2 ^ n < 2 ^ 32 := Nat.lt_of_le_of_lt (Nat.div_le_self _ _) h
  have h2 : x * 2 ^ (32 - n) % 4294967296 < 2 ^ 32 := Nat.mod_lt _ (by decide)
  exact Nat.or_lt_two_pow h1 h2
theorem xor_lt {a b : Nat} (h : a < 4294967296) (k : b < 4294967296) : a ^^^ b < 4294967296 := Nat.xor_lt_two_pow (n := 32) h k
theorem and_lt {a b : Nat} (h : a < 4294967296) : a &&& b < 4294967296 := Nat.lt_of_le_of_lt Nat.and_le_left h
theorem div_lt {x : Nat} (n : Nat) (h : x < 4294967296) : x / n < 4294967296 := Nat.lt_of_le_of_lt (Nat.div_le_self _ _) h
theorem s0_lt (x : Nat) (h : x < 4294967296) : s0 x < 4294967296 := xor_lt (xor_lt (rotr_lt _ _ h) (rotr_lt _ _ h)) (div_lt _ h)
theorem s1_lt (x : Nat) (h : x < 4294967296) : s1 x < 4294967296 := xor_lt (xor_lt (rotr_lt _ _ h) (rotr_lt _ _ h)) (div_lt _ h)
theorem S0_lt (x : Nat) (h : x < 4294967296) : S0 x < 4294967296 := xor_lt (xor_lt (rotr_lt _ _ h) (rotr_lt _ _ h)) (rotr_lt _ _ h)
theorem S1_lt (x : Nat) (h : x < 4294967296) : S1 x < 4294967296 := xor_lt (xor_lt (rotr_lt _ _ h) (rotr_lt _ _ h)) (rotr_lt _ _ h)
theorem ch_lt (e f g : Nat) (h : e < 4294967296) : ch e f g < 4294967296 := xor_lt (and_lt h) (and_lt (by omega))
theorem maj_lt (a b c : Nat) (h : a < 4294967296) (k : b < 4294967296) : maj a b c < 4294967296 := xor_lt (xor_lt (and_lt h) (and_lt h)) (and_lt k)

theorem round_ok {v : V} (h : v.ok) (k w : Nat) : (round v k w).ok := by
  obtain ⟨h1, h2, h3, h4, h5, h6, h7, h8⟩ := h
  exact ⟨Nat.mod_lt _ (by decide), h1, h2, h3, Nat.mod_lt _ (by decide), h5, h6, h7⟩
theorem foldl_ok : ∀ (l : List (Nat × Nat)) (v : V), v.ok → (l.foldl (fun v x => round v x.1 x.2) v).ok
  | [], _, h => h
  | x :: l, _, h => foldl_ok l _ (round_ok h x.1 x.2)
theorem rounds_ok {v : V} (h : v.ok) (b : List Nat) (t : Nat) : (rounds v b t).ok := foldl_ok _ _ h
theorem plus_ok (v u : V) : (v.plus u).ok := by
  refine ⟨?_, ?_, ?_, ?_, ?_, ?_, ?_, ?_⟩ <;> exact Nat.mod_lt _ (by decide)
theorem step_ok (v : V) (b : List Nat) : (step v b).ok := plus_ok _ _
theorem start_ok : start.ok := by unfold V.ok start; decide

theorem wl_length (b : List Nat) (n : Nat) : (wl b n).length = b.length + n := by
  induction n with
  | zero => simp [wl]
  | succ n ih => simp only [wl, List.length_cons, ih]; omega
theorem wl_drop (b : List Nat) (n m : Nat) : (wl b (n + m)).drop m = wl b n := by
  induction m with
  | zero => rfl
  | succ m ih => rw [← Nat.add_assoc]; simp only [wl, List.drop_succ_cons]; exact ih
theorem ws_length (b : List Nat) (h : b.length = 16) : (ws b).length = 64 := by unfold ws; rw [List.length_reverse, wl_length, h]
theorem rounds_step (v : V) (b : List Nat) (h : b.length = 16) (t : Nat) (ht : t < 64) : rounds v b (t + 1) = round (rounds v b t) (K.getD t 0) ((ws b).getD t 0) := by
  have hw := ws_length b h
  have hk : K.length = 64 := by decide
  have hz : (K.zip (ws b)).length = 64 := by rw [List.length_zip, hw, hk]; rfl
  unfold rounds
  rw [List.take_succ_eq_append_getElem (by omega), List.foldl_append]
  simp [List.getElem_zip, hw, hk, ht]

/-- The program's own sixteen numbers, ahead of round t. -/
def ring (b : List Nat) : Nat → List Nat
  | 0 => b
  | t + 1 => if t < 16 then ring b t else (ring b t).set (t % 16) (((ring b t).getD (t % 16) 0 + (s1 ((ring b t).getD ((t - 2) % 16) 0) + (ring b t).getD ((t - 7) % 16) 0 + s0 ((ring b t).getD ((t - 15) % 16) 0))) % 4294967296)
theorem ring_length (b : List Nat) (h : b.length = 16) (t : Nat) : (ring b t).length = 16 := by
  induction t with
  | zero => exact h
  | succ t ih => unfold ring; split <;> simp [ih]
theorem ring_small (b : List Nat) (t : Nat) (h : t ≤ 16) : ring b t = b := by
  induction t with
  | zero => rfl
  | succ t ih => unfold ring; rw [if_pos (by omega)]; exact ih (by omega)
theorem ring_at (b : List Nat) (h : b.length = 16) (n : Nat) : ∀ j, j < 16 → (ring b (16 + n)).getD ((16 + n - 1 - j) % 16) 0 = (wl b n).getD j 0 := by
  induction n with
  | zero =>
    intro j hj
    rw [ring_small b _ (by omega)]
    have e : (16 + 0 - 1 - j) % 16 = 15 - j := by omega
    rw [e]
    show b.getD (15 - j) 0 = b.reverse.getD j 0
    rw [List.getD_eq_getElem?_getD, List.getD_eq_getElem?_getD, List.getElem?_reverse (by omega)]
    congr 2
    omega
  | succ n ih =>
    intro j hj
    have hl := ring_length b h (16 + n)
    have e1 := ih 1 (by omega)
    have e6 := ih 6 (by omega)
    have e14 := ih 14 (by omega)
    have e15 := ih 15 (by omega)
    have er : ring b (16 + (n + 1)) = (ring b (16 + n)).set ((16 + n) % 16) ((s1 ((wl b n).getD 1 0) + (wl b n).getD 6 0 + s0 ((wl b n).getD 14 0) + (wl b n).getD 15 0) % 4294967296) := by
      rw [← Nat.add_assoc, ring, if_neg (by omega), ← e1, ← e6, ← e14, ← e15]
      have q1 : (16 + n - 1 - 1) % 16 = (16 + n - 2) % 16 := by omega
      have q6 : (16 + n - 1 - 6) % 16 = (16 + n - 7) % 16 := by omega
      have q14 : (16 + n - 1 - 14) % 16 = (16 + n - 15) % 16 := by omega
      have q15 : (16 + n - 1 - 15) % 16 = (16 + n) % 16 := by omega
      rw [q1, q6, q14, q15, Nat.add_comm ((ring b (16 + n)).getD ((16 + n) % 16) 0)]
    rw [er]
    cases j with
    | zero =>
      have e : (16 + (n + 1) - 1 - 0) % 16 = (16 + n) % 16 := by omega
      rw [e, wl, List.getD_cons_zero, List.getD_eq_getElem?_getD, List.getElem?_set_self (by omega)]
      rfl
    | succ j =>
      have e : (16 + (n + 1) - 1 - (j + 1)) % 16 = (16 + n - 1 - j) % 16 := by omega
      rw [e, wl, List.getD_cons_succ, ← ih j (by omega), List.getD_eq_getElem?_getD, List.getElem?_set_ne (by omega), ← List.getD_eq_getElem?_getD]
theorem ring_w (b : List Nat) (h : b.length = 16) (t : Nat) (ht : t < 64) : (ring b (t + 1)).getD (t % 16) 0 = (ws b).getD t 0 := by
  have hl48 := wl_length b 48
  unfold ws
  rw [List.getD_eq_getElem?_getD (l := (wl b 48).reverse), List.getElem?_reverse (by omega), hl48, h]
  by_cases h16 : t < 16
  · rw [ring_small b _ (by omega)]
    have hd := wl_drop b 0 48
    have e2 : (wl b 48)[16 + 48 - 1 - t]? = b.reverse[15 - t]? := by
      show _ = (wl b 0)[15 - t]?
      rw [← hd, List.getElem?_drop]
      congr 1
      omega
    have e3 : t % 16 = t := by omega
    rw [e2, e3, List.getElem?_reverse (by omega), List.getD_eq_getElem?_getD]
    congr 2
    omega
  · obtain ⟨n, rfl⟩ : ∃ n, t = 16 + n := ⟨t - 16, by omega⟩
    have e := ring_at b h (n + 1) 0 (by omega)
    have q : (16 + (n + 1) - 1 - 0) % 16 = (16 + n) % 16 := by omega
    rw [q, ← Nat.add_assoc] at e
    rw [e, List.getD_eq_getElem?_getD]
    have hd := wl_drop b (n + 1) (47 - n)
    have q2 : n + 1 + (47 - n) = 48 := by omega
    rw [q2] at hd
    rw [← hd, List.getElem?_drop]
    congr 2
    omega
theorem ring_lt (b : List Nat) (h : ∀ x ∈ b, x < 4294967296) (t : Nat) : ∀ x ∈ ring b t, x < 4294967296 := by
  induction t with
  | zero => exact h
  | succ t ih =>
    unfold ring
    split
    · exact ih
    · intro x hx
      rcases List.mem_or_eq_of_mem_set hx with hx | rfl
      · exact ih x hx
      · exact Nat.mod_lt _ (by decide)
theorem getD_lt (l : List Nat) (h : ∀ x ∈ l, x < 4294967296) (i : Nat) : l.getD i 0 < 4294967296 := by
  rw [List.getD_eq_getElem?_getD]
  cases e : l[i]? with
  | none => decide
  | some x => exact h x (List.mem_of_getElem? e)
theorem K_lt (i : Nat) : K.getD i 0 < 4294967296 := getD_lt K (by decide) i

def abc : List Nat := [0x61626380, 0, 0, 0, 0, 0, 0, 0, 0, 0, 0, 0, 0, 0, 0, 24]
theorem step_abc : step start abc = ⟨0xba7816bf, 0x8f01cfea, 0x414140de, 0x5dae2223, 0xb00361a3, 0x96177a9c, 0xb410ff61, 0xf20015ad⟩ := by kernel_rfl
end Go.Proofs.YtollcdalokhjaaaDoor.Sha
/-! ## Package sha: how a number is turned (the closure of Step, and the document's own rotr). -/
namespace Go.Proofs.YtollcdalokhjaaaDoor
open Go.RowKit
theorem or_comm32 (x a b : Nat) (h : x < 4294967296) : bits .or .u32 ((x : Int) * (b : Int) % 4294967296) ((x : Int) / (a : Int)) = ((x / a ||| x * b % 4294967296 : Nat) : Int) := by
  have h1 : x / a < 4294967296 := Nat.lt_of_le_of_lt (Nat.div_le_self _ _) h
  have h2 : x * b % 4294967296 < 4294967296 := Nat.mod_lt _ (by decide)
  rw [Nat.or_comm, ← u32_or_nat _ _ h2 h1]
  rfl
theorem or_32 (x a b : Nat) (h : x < 4294967296) : bits .or .u32 ((x : Int) / (a : Int)) ((x : Int) * (b : Int) % 4294967296) = ((x / a ||| x * b % 4294967296 : Nat) : Int) := by
  have h1 : x / a < 4294967296 := Nat.lt_of_le_of_lt (Nat.div_le_self _ _) h
  have h2 : x * b % 4294967296 < 4294967296 := Nat.mod_lt _ (by decide)
  rw [← u32_or_nat _ _ h1 h2]
  rfl

/-- The turns that SHA-256 makes. -/
def Turn (n : Nat) : Prop := n = 2 ∨ n = 6 ∨ n = 7 ∨ n = 11 ∨ n = 13 ∨ n = 17 ∨ n = 18 ∨ n = 19 ∨ n = 22 ∨ n = 25

set_option maxHeartbeats 1000000 in
theorem rotl_any (n x : Nat) (w : World) (hn : Turn n) (h : x < 4294967296) :
    Calls Tryd.prog 106 #[.int .u32 x, .int .i64 (-(n : Int))] w fun e w' => e = .returned (.int .u32 (Sha.rotr n x)) ∧ w = w' := by
  have b2 : bits .and .u64 (IntKind.u64.wrap (-2)) 31 = 30 := by decide +kernel
  have b6 : bits .and .u64 (IntKind.u64.wrap (-6)) 31 = 26 := by decide +kernel
  have b7 : bits .and .u64 (IntKind.u64.wrap (-7)) 31 = 25 := by decide +kernel
  have b11 : bits .and .u64 (IntKind.u64.wrap (-11)) 31 = 21 := by decide +kernel
  have b13 : bits .and .u64 (IntKind.u64.wrap (-13)) 31 = 19 := by decide +kernel
  have b17 : bits .and .u64 (IntKind.u64.wrap (-17)) 31 = 15 := by decide +kernel
  have b18 : bits .and .u64 (IntKind.u64.wrap (-18)) 31 = 14 := by decide +kernel
  have b19 : bits .and .u64 (IntKind.u64.wrap (-19)) 31 = 13 := by decide +kernel
  have b22 : bits .and .u64 (IntKind.u64.wrap (-22)) 31 = 10 := by decide +kernel
  have b25 : bits .and .u64 (IntKind.u64.wrap (-25)) 31 = 7 := by decide +kernel
  rcases hn with rfl | rfl | rfl | rfl | rfl | rfl | rfl | rfl | rfl | rfl
  all_goals
    go_enter Tryd.func106, Tryd.ntmps106
    go_wp2
    go_ret
    exact ⟨ret_int (or_comm32 x _ _ h), rfl⟩

set_option maxHeartbeats 1000000 in
theorem turn_any (n x : Nat) (w : World) (hn : Turn n) (h : x < 4294967296) :
    Calls Tryd.prog 105 #[.int .i64 n, .int .u32 x] w fun e w' => e = .returned (.int .u32 (Sha.rotr n x)) ∧ w = w' := by
  have hb : (n : Int) ≤ 32 := by unfold Turn at hn; omega
  go_enter Tryd.func105, Tryd.ntmps105
  go_wp2_with (go_at_call 106; refine (rotl_any _ _ _ hn h).mono ?_; rintro e w' ⟨rfl, rfl⟩)
  go_ret
  exact ⟨rfl, rfl⟩

set_option maxHeartbeats 1000000 in
theorem rref_any (n x : Nat) (w : World) (hn : Turn n) (h : x < 4294967296) :
    Calls Tryd.prog 84 #[.int .i64 n, .int .u32 x] w fun e w' => e = .returned (.int .u32 (Sha.rotr n x)) ∧ w = w' := by
  rcases hn with rfl | rfl | rfl | rfl | rfl | rfl | rfl | rfl | rfl | rfl
  all_goals
    go_enter Tryd.func84, Tryd.ntmps84
    go_wp2
    go_ret
    exact ⟨ret_int (or_32 x _ _ h), rfl⟩
end Go.Proofs.YtollcdalokhjaaaDoor
/-! ## Package sha: what numbers and hashes are in memory; worlds in which nothing but one block has turned. -/
namespace Go.Proofs.YtollcdalokhjaaaDoor
open Go.RowKit
/-- The numbers K, where the package keeps them. -/
def KT (w : World) : Prop := ∀ i, i < 64 → w.cell? ⟨0, i, none⟩ = some (.int .u32 (Sha.K.getD i 0 : Nat))
def vC (v : Sha.V) : Array Value := #[.int .u32 v.a, .int .u32 v.b, .int .u32 v.c, .int .u32 v.d, .int .u32 v.e, .int .u32 v.f, .int .u32 v.g, .int .u32 v.h]
def zC : Array Value := #[.int .u32 0, .int .u32 0, .int .u32 0, .int .u32 0, .int .u32 0, .int .u32 0, .int .u32 0, .int .u32 0]
/-- The value of a hash (api.Sum): its bytes. -/
def sumV (l : List UInt8) : Value := .agg (l.map u8V).toArray

theorem KT.pos {w : World} (hK : KT w) : 0 < w.heap.size := by
  by_cases h : 0 < w.heap.size
  · exact h
  · have := hK 0 (by decide)
    unfold World.cell? at this
    rw [Array.getElem?_eq_none (by simp only at h ⊢; omega)] at this
    cases this
theorem KT.old {w w' : World} (hK : KT w) (h : Below w.heap.size w w') : KT w' := fun i hi => (h.cell (by exact hK.pos)).trans (hK i hi)

theorem index_8 (a b c d e f g h : Value) :
    (∀ w, (Instr.index 112 (.agg #[a, b, c, d, e, f, g, h]) (.int .i64 0)).run Tryd.prog w = .ok a w) ∧ (∀ w, (Instr.index 112 (.agg #[a, b, c, d, e, f, g, h]) (.int .i64 1)).run Tryd.prog w = .ok b w)
    ∧ (∀ w, (Instr.index 112 (.agg #[a, b, c, d, e, f, g, h]) (.int .i64 2)).run Tryd.prog w = .ok c w) ∧ (∀ w, (Instr.index 112 (.agg #[a, b, c, d, e, f, g, h]) (.int .i64 3)).run Tryd.prog w = .ok d w)
    ∧ (∀ w, (Instr.index 112 (.agg #[a, b, c, d, e, f, g, h]) (.int .i64 4)).run Tryd.prog w = .ok e w) ∧ (∀ w, (Instr.index 112 (.agg #[a, b, c, d, e, f, g, h]) (.int .i64 5)).run Tryd.prog w = .ok f w)
    ∧ (∀ w, (Instr.index 112 (.agg #[a, b, c, d, e, f, g, h]) (.int .i64 6)).run Tryd.prog w = .ok g w) ∧ (∀ w, (Instr.index 112 (.agg #[a, b, c, d, e, f, g, h]) (.int .i64 7)).run Tryd.prog w = .ok h w) := by
  refine ⟨fun w => ?_, fun w => ?_, fun w => ?_, fun w => ?_, fun w => ?_, fun w => ?_, fun w => ?_, fun w => ?_⟩
  · exact run_index_agg (i := 0) w Tryd.underlying112 (by kernel_rfl) (by kernel_rfl) (by kernel_rfl) (by decide) rfl
  · exact run_index_agg (i := 1) w Tryd.underlying112 (by kernel_rfl) (by kernel_rfl) (by kernel_rfl) (by decide) rfl
  · exact run_index_agg (i := 2) w Tryd.underlying112 (by kernel_rfl) (by kernel_rfl) (by kernel_rfl) (by decide) rfl
  · exact run_index_agg (i := 3) w Tryd.underlying112 (by kernel_rfl) (by kernel_rfl) (by kernel_rfl) (by decide) rfl
  · exact run_index_agg (i := 4) w Tryd.underlying112 (by kernel_rfl) (by kernel_rfl) (by kernel_rfl) (by decide) rfl
  · exact run_index_agg (i := 5) w Tryd.underlying112 (by kernel_rfl) (by kernel_rfl) (by kernel_rfl) (by decide) rfl
  · exact run_index_agg (i := 6) w Tryd.underlying112 (by kernel_rfl) (by kernel_rfl) (by kernel_rfl) (by decide) rfl
  · exact run_index_agg (i := 7) w Tryd.underlying112 (by kernel_rfl) (by kernel_rfl) (by kernel_rfl) (by decide) rfl

end Go.Proofs.YtollcdalokhjaaaDoor
/-! ## Plain mathematics of SHA-256: a text's blocks, what stands behind a text, the hash of a text, digits. No walk, no program. -/
namespace Go.Proofs.YtollcdalokhjaaaDoor.Sha
open Go

/-- The number of which these are the bytes, the greatest first. -/
def val (l : List UInt8) : Nat := l.foldl (fun a x => a * 256 + x.toNat) 0
theorem val_nil : val [] = 0 := rfl
theorem val_snoc (l : List UInt8) (x : UInt8) : val (l ++ [x]) = val l * 256 + x.toNat := by simp [val]
theorem foldl_lt (l : List UInt8) : ∀ a k : Nat, a < 256 ^ k → l.foldl (fun a x => a * 256 + x.toNat) a < 256 ^ (k + l.length) := by
  induction l with
  | nil => intro a k h; exact h
  | cons x l ih =>
    intro a k h
    have hx : x.toNat < 256 := x.toNat_lt
    have := ih (a * 256 + x.toNat) (k + 1) (by rw [Nat.pow_succ]; omega)
    simp only [List.foldl_cons, List.length_cons]
    rw [show k + (l.length + 1) = k + 1 + l.length by omega]
    exact this
theorem val_lt (l : List UInt8) : val l < 256 ^ l.length := by
  have := foldl_lt l 0 0 (by decide)
  rwa [Nat.zero_add] at this

/-- What of number j of a block is there behind its first i bytes. -/
def part (b : List UInt8) (i j : Nat) : Nat := val ((b.drop (4 * j)).take (min i (4 * j + 4) - 4 * j))
def parts (b : List UInt8) (i : Nat) : List Nat := (List.range 16).map (part b i)
/-- The numbers of a block of 64 bytes. -/
def words (b : List UInt8) : List Nat := (List.range 16).map fun j => val ((b.drop (4 * j)).take 4)

theorem parts_zero (b : List UInt8) : parts b 0 = [0, 0, 0, 0, 0, 0, 0, 0, 0, 0, 0, 0, 0, 0, 0, 0] := by
  have h : ∀ j, part b 0 j = 0 := fun j => by simp [part, val]
  simp [parts, h, List.range, List.range.loop]
theorem parts_length (b : List UInt8) (i : Nat) : (parts b i).length = 16 := by simp [parts]
theorem words_length (b : List UInt8) : (words b).length = 16 := by simp [words]
theorem parts_all (b : List UInt8) : parts b 64 = words b := by
  unfold parts words
  apply List.map_congr_left
  intro j hj
  have : j < 16 := List.mem_range.1 hj
  unfold part
  rw [show min 64 (4 * j + 4) - 4 * j = 4 by omega]
theorem parts_getD (b : List UInt8) (i j : Nat) (h : j < 16) : (parts b i).getD j 0 = part b i j := by
  simp [parts, h]
theorem part_lt (b : List UInt8) (i j : Nat) : part b i j < 4294967296 := by
  unfold part
  refine Nat.lt_of_lt_of_le (val_lt _) ?_
  have : ((b.drop (4 * j)).take (min i (4 * j + 4) - 4 * j)).length ≤ 4 := by rw [List.length_take]; omega
  exact Nat.le_trans (Nat.pow_le_pow_right (by decide) this) (by decide)
theorem parts_lt (b : List UInt8) (i : Nat) : ∀ x ∈ parts b i, x < 4294967296 := by
  intro x hx
  obtain ⟨j, _, rfl⟩ := List.mem_map.1 hx
  exact part_lt b i j
theorem words_lt (b : List UInt8) : ∀ x ∈ words b, x < 4294967296 := by rw [← parts_all]; exact parts_lt b 64
theorem part_small (b : List UInt8) (i : Nat) : part b i (i / 4) < 16777216 := by
  unfold part
  refine Nat.lt_of_lt_of_le (val_lt _) ?_
  have : ((b.drop (4 * (i / 4))).take (min i (4 * (i / 4) + 4) - 4 * (i / 4))).length ≤ 3 := by rw [List.length_take]; omega
  exact Nat.le_trans (Nat.pow_le_pow_right (by decide) this) (by decide)
theorem part_step (b : List UInt8) (i : Nat) (h : i < b.length) : part b (i + 1) (i / 4) = part b i (i / 4) * 256 + (b.getD i 0).toNat := by
  unfold part
  rw [show min (i + 1) (4 * (i / 4) + 4) - 4 * (i / 4) = (min i (4 * (i / 4) + 4) - 4 * (i / 4)) + 1 by omega, List.take_succ_eq_append_getElem (by rw [List.length_drop]; omega), val_snoc]
  congr 2
  rw [List.getElem_drop]
  have : 4 * (i / 4) + (min i (4 * (i / 4) + 4) - 4 * (i / 4)) = i := by omega
  simp [this, h]
theorem part_far (b : List UInt8) (i j : Nat) (h : j ≠ i / 4) : part b (i + 1) j = part b i j := by
  unfold part
  rw [show min (i + 1) (4 * j + 4) - 4 * j = min i (4 * j + 4) - 4 * j by omega]
theorem parts_step (b : List UInt8) (i : Nat) (h : i < b.length) (h64 : i < 64) : (parts b i).set (i / 4) ((parts b i).getD (i / 4) 0 * 256 + (b.getD i 0).toNat) = parts b (i + 1) := by
  apply List.ext_getElem?
  intro j
  rw [List.getElem?_set, parts_getD b i _ (by omega), ← part_step b i h]
  by_cases e : i / 4 = j
  · subst e
    have : i / 4 < 16 := by omega
    simp [parts, this]
  · rw [if_neg e]
    by_cases hj : j < 16
    · simp [parts, hj, part_far b i j (fun x => e x.symm)]
    · rw [List.getElem?_eq_none (by rw [parts_length]; omega), List.getElem?_eq_none (by rw [parts_length]; omega)]
theorem or_byte (a x : Nat) (ha : a < 16777216) (hx : x < 256) : a * 256 % 4294967296 ||| x = a * 256 + x := by
  have := Nat.two_pow_add_eq_or_of_lt (i := 8) (by simpa using hx : x < 2 ^ 8) a
  rw [Nat.mod_eq_of_lt (by omega), Nat.mul_comm a 256]
  exact this.symm

/-- The state behind the first k blocks of a text. -/
def run (v : V) : Nat → List UInt8 → V
  | 0, _ => v
  | k + 1, s => run (step v (words (s.take 64))) k (s.drop 64)
theorem run_snoc (k : Nat) : ∀ (v : V) (s : List UInt8), run v (k + 1) s = step (run v k s) (words ((s.drop (64 * k)).take 64)) := by
  induction k with
  | zero => intro v s; rfl
  | succ k ih =>
    intro v s
    rw [run, ih, run, List.drop_drop, show 64 + 64 * k = 64 * (k + 1) by omega]
theorem run_prefix (k : Nat) : ∀ (v : V) (s t : List UInt8), 64 * k ≤ s.length → run v k (s ++ t) = run v k s := by
  induction k with
  | zero => intro v s t _; rfl
  | succ k ih =>
    intro v s t h
    rw [run, run, List.take_append_of_le_length (by omega), List.drop_append_of_le_length (by omega), ih _ _ _ (by rw [List.length_drop]; omega)]
theorem run_ok (k : Nat) : ∀ (v : V) (s : List UInt8), v.ok → (run v k s).ok := by
  induction k with
  | zero => intro v s h; exact h
  | succ k ih => intro v s _; exact ih _ _ (step_ok _ _)

/-- The eight bytes of a number, the greatest first. -/
def be8 (n : Nat) : List UInt8 := (List.range 8).map fun i => UInt8.ofNat (n / 2 ^ (56 - 8 * i))
def zeros (n : Nat) : Nat := (119 - n % 64) % 64
/-- What stands behind a text of n bytes. -/
def endL (n : Nat) : List UInt8 := 128 :: (List.replicate (zeros n) 0 ++ be8 (8 * n))
theorem be8_length (n : Nat) : (be8 n).length = 8 := by simp [be8]
theorem endL_length (n : Nat) : (endL n).length = zeros n + 9 := by simp [endL, be8_length]
theorem endL_mod (n : Nat) : (n + (endL n).length) % 64 = 0 := by rw [endL_length]; unfold zeros; omega

def bytes4 (x : Nat) : List UInt8 := [UInt8.ofNat (x / 16777216), UInt8.ofNat (x / 65536), UInt8.ofNat (x / 256), UInt8.ofNat x]
def V.bytes (v : V) : List UInt8 := v.list.flatMap bytes4
theorem bytes_length (v : V) : v.bytes.length = 32 := by simp [V.bytes, V.list, bytes4]
/-- The text with what stands behind it. -/
def full (s : List UInt8) : List UInt8 := s ++ endL s.length
theorem full_mod (s : List UInt8) : (full s).length % 64 = 0 := by unfold full; rw [List.length_append]; exact endL_mod _
theorem full_pos (s : List UInt8) : 64 ≤ (full s).length := by
  have h := full_mod s
  have : 9 ≤ (full s).length := by unfold full; rw [List.length_append, endL_length]; omega
  omega
/-- THE HASH OF A TEXT. -/
def digest (s : List UInt8) : List UInt8 := (run start ((full s).length / 64) (full s)).bytes
theorem digest_length (s : List UInt8) : (digest s).length = 32 := bytes_length _

def hexD (x : Nat) : UInt8 := if x < 10 then UInt8.ofNat (48 + x) else UInt8.ofNat (87 + x)
def hexL (l : List UInt8) : List UInt8 := l.flatMap fun x => [hexD (x.toNat / 16), hexD (x.toNat % 16)]

theorem hex_nothing : hexL (digest []) = [101, 51, 98, 48, 99, 52, 52, 50, 57, 56, 102, 99, 49, 99, 49, 52, 57, 97, 102, 98, 102, 52, 99, 56, 57, 57, 54, 102, 98, 57, 50, 52, 50, 55, 97, 101, 52, 49, 101, 52, 54, 52, 57, 98, 57, 51, 52, 99, 97, 52, 57, 53, 57, 57, 49, 98, 55, 56, 53, 50, 98, 56, 53, 53] := by kernel_rfl
theorem hex_abc : hexL (digest [97, 98, 99]) = [98, 97, 55, 56, 49, 54, 98, 102, 56, 102, 48, 49, 99, 102, 101, 97, 52, 49, 52, 49, 52, 48, 100, 101, 53, 100, 97, 101, 50, 50, 50, 51, 98, 48, 48, 51, 54, 49, 97, 51, 57, 54, 49, 55, 55, 97, 57, 99, 98, 52, 49, 48, 102, 102, 54, 49, 102, 50, 48, 48, 49, 53, 97, 100] := by kernel_rfl
end Go.Proofs.YtollcdalokhjaaaDoor.Sha
/-! ## Package sha: what a hash is in memory; its small calls New, Len, Copy; Start. -/
namespace Go.Proofs.YtollcdalokhjaaaDoor
open Go.RowKit

/-- The state and the block of a zero hash. -/
def zV : Sha.V := ⟨0, 0, 0, 0, 0, 0, 0, 0⟩
def zB : List UInt8 := List.replicate 64 0
/-- The cells of a hash: its state, its block, how many bytes. -/
def hL (v : Sha.V) (b : List UInt8) (n : Nat) : List Value := v.list.map u32V ++ (b.map u8V ++ [.int .i64 n])
theorem hL_length (v : Sha.V) (b : List UInt8) (n : Nat) (hb : b.length = 64) : (hL v b n).length = 73 := by simp [hL, Sha.V.list, hb]
/-- Block p is a hash with that state, block and number. -/
def Cells (p : Nat) (v : Sha.V) (b : List UInt8) (n : Nat) (w : World) : Prop := b.length = 64 ∧ v.ok ∧ w.heap[p]? = some (.cells (hL v b n).toArray 127 (0, 0))

theorem info_hash : (Tryd.prog.info? 127).map (·.size) = some 73 := by kernel_rfl
theorem info_hash0 : (Tryd.prog.info? 127).map (fun i => (i.zero, i.size)) = some (some (.agg (hL zV zB 0).toArray), 73) := by kernel_rfl

theorem Cells.at {p : Nat} {v : Sha.V} {b : List UInt8} {n : Nat} {w : World} (h : Cells p v b n w) (i : Nat) : w.cell? ⟨p, i, none⟩ = (hL v b n)[i]? := by
  rw [cell_of h.2.2]; simp
theorem Cells.size {p : Nat} {v : Sha.V} {b : List UInt8} {n : Nat} {w : World} (h : Cells p v b n w) : w.cell? ⟨p, 72, none⟩ = some (.int .i64 n) := by
  have hb := h.1
  rw [h.at]; simp [hL, Sha.V.list, hb]
theorem Cells.fz {p : Nat} {v : Sha.V} {b : List UInt8} {n : Nat} {w : World} (h : Cells p v b n w) (i : Nat) : w.frozen? ⟨p, i, none⟩ = false := fz_of h.2.2 i
theorem Cells.lt {p : Nat} {v : Sha.V} {b : List UInt8} {n : Nat} {w : World} (h : Cells p v b n w) : p < w.heap.size := (Array.getElem?_eq_some_iff.1 h.2.2).1
theorem Cells.kept {p q : Nat} {v : Sha.V} {b : List UInt8} {n : Nat} {w w' : World} (h : Cells p v b n w) (k : Only q w w') (hq : p ≠ q) : Cells p v b n w' := ⟨h.1, h.2.1, (k.block p h.lt hq).trans h.2.2⟩
theorem Cells.old {p B : Nat} {v : Sha.V} {b : List UInt8} {n : Nat} {w w' : World} (h : Cells p v b n w) (k : Below B w w') (hq : p < B) : Cells p v b n w' := ⟨h.1, h.2.1, (k.block p hq).trans h.2.2⟩

theorem zero_ok : zV.ok := by unfold Sha.V.ok zV; decide
theorem Cells.new (w : World) (v : Sha.V) (b : List UInt8) (n : Nat) (hb : b.length = 64) (hv : v.ok) : Cells w.heap.size v b n (w.alloc (.cells (hL v b n).toArray 127)) :=
  ⟨hb, hv, heap_alloc_last w _⟩

theorem start_any (w : World) : Calls Tryd.prog 99 #[] w fun e w' => e = .returned (.agg (vC Sha.start)) ∧ Below w.heap.size w w' := by
  go_enter Tryd.func99, Tryd.ntmps99
  go_wp2
  refine bodyPost_ret (v := .agg (vC Sha.start)) (by simp [results, Tryd.results99, go_sem, vC, Sha.start]) rfl ⟨rfl, ?_⟩
  exact (Below.refl _ _).alloc (Nat.le_refl _) _

theorem hL_one (v : Sha.V) (b : List UInt8) (n : Nat) : (hL v b n).toArray.all (·.oneCell') = true := by
  refine all_oneCell_toArray fun x hx => ?_
  simp only [hL, List.mem_append, List.mem_map, List.mem_singleton] at hx
  rcases hx with ⟨_, _, rfl⟩ | ⟨_, _, rfl⟩ | rfl <;> rfl
theorem Cells.range {p : Nat} {v : Sha.V} {b : List UInt8} {n : Nat} {w : World} (h : Cells p v b n w) : w.rangeAt p 0 (hL v b n) := fun j x hx => by
  rw [Nat.zero_add]; exact (h.at j).trans hx
theorem zL_length : (hL zV zB 0).length = 73 := hL_length _ _ _ (by simp [zB])

end Go.Proofs.YtollcdalokhjaaaDoor
/-! ## Hashes, and states, are compared as arrays. -/
namespace Go.Proofs.YtollcdalokhjaaaDoor
open Go.RowKit
theorem equal_sum (a b : List UInt8) (ha : a.length = 32) (hb : b.length = 32) (w : World) : (Op.equalIn 10000 33 (sumV a) (sumV b)).run Tryd.prog w = .ok (decide (a = b)) w := by
  have ea : sumV a = .agg ((toInts a).map (Value.int .u8)).toArray := by unfold sumV toInts; rw [List.map_map]; rfl
  have eb : sumV b = .agg ((toInts b).map (Value.int .u8)).toArray := by unfold sumV toInts; rw [List.map_map]; rfl
  rw [ea, eb, eql_ints Tryd.underlying33 Tryd.underlying5 (by kernel_rfl) (by kernel_rfl) _ _ (by simpa [toInts] using ha) (by simpa [toInts] using hb) (wf_u8 a) (wf_u8 b) (by kernel_rfl)]
  congr 1
  by_cases e : a = b
  · subst e; simp
  · rw [decide_eq_false e, decide_eq_false (fun h => e (toInts_inj h))]
/-- 'a == b' of two hashes. -/
theorem eql_sum (a b : List UInt8) (ha : a.length = 32) (hb : b.length = 32) (w : World) : (binOp .eql 33 (sumV a) (sumV b)).run Tryd.prog w = .ok (.bool (decide (a = b))) w := by
  unfold sumV
  rw [run_eql_struct]
  have := equal_sum a b ha hb w
  unfold sumV at this
  rw [this]
  rfl
theorem neq_sum (a b : List UInt8) (ha : a.length = 32) (hb : b.length = 32) (w : World) : (binOp .neq 33 (sumV a) (sumV b)).run Tryd.prog w = .ok (.bool (!decide (a = b))) w := by
  have := equal_sum a b ha hb w
  unfold sumV at this ⊢
  simp [binOp, Op.equal, Op.maxDepth, this]
theorem guard_sum : Tryd.prog.eqGuardType Tryd.prog.depth 33 = false := by kernel_rfl
theorem guard_run (op : BinOp) (x y : Operand) (a b : List UInt8) (w : World) : (eqGuard op 33 x y (sumV a) (sumV b)).run Tryd.prog w = .ok () w := run_eqGuard_agg w op 33 x y _ _ guard_sum
end Go.Proofs.YtollcdalokhjaaaDoor
/-! ## Package sha: block p is a hash to which the text s was written; how that goes on. -/
namespace Go.Proofs.YtollcdalokhjaaaDoor
open Go.RowKit

/-- Block p is a hash to which the text s was written. -/
def IsHash (p : Nat) (s : List UInt8) (w : World) : Prop :=
  ∃ v b, Cells p v b s.length w ∧ b.take (s.length % 64) = s.drop (64 * (s.length / 64)) ∧ (64 ≤ s.length → v = Sha.run Sha.start (s.length / 64) s)

theorem IsHash.lt {p : Nat} {s : List UInt8} {w : World} (h : IsHash p s w) : p < w.heap.size := by obtain ⟨v, b, h, _⟩ := h; exact h.lt
theorem IsHash.kept {p q : Nat} {s : List UInt8} {w w' : World} (h : IsHash p s w) (k : Only q w w') (hq : p ≠ q) : IsHash p s w' := by
  obtain ⟨v, b, h, r⟩ := h; exact ⟨v, b, h.kept k hq, r⟩
theorem IsHash.old {p B : Nat} {s : List UInt8} {w w' : World} (h : IsHash p s w) (k : Below B w w') (hq : p < B) : IsHash p s w' := by
  obtain ⟨v, b, h, r⟩ := h; exact ⟨v, b, h.old k hq, r⟩
theorem isHash_zero {p : Nat} {w : World} (h : Cells p zV zB 0 w) : IsHash p [] w := ⟨zV, zB, h, rfl, fun h => absurd h (by decide)⟩

/-- The block behind a copy. -/
def spl (b : List UInt8) (j : Nat) (r : List UInt8) : List UInt8 := b.take j ++ (r ++ b.drop (j + r.length))
theorem spl_length (b : List UInt8) (j : Nat) (r : List UInt8) (hb : b.length = 64) (h : j + r.length ≤ 64) : (spl b j r).length = 64 := by
  simp [spl, hb]; omega
theorem hL_splice (v : Sha.V) (b : List UInt8) (n j : Nat) (r : List UInt8) (hb : b.length = 64) (h : j + r.length ≤ 64) :
    (hL v b n).take (8 + j) ++ (r.map u8V ++ (hL v b n).drop (8 + j + (r.map u8V).length)) = hL v (spl b j r) n := by
  have h8 : (v.list.map u32V).length = 8 := by simp [Sha.V.list]
  unfold hL spl
  rw [List.take_append, List.drop_append, h8, List.take_of_length_le (by omega), List.drop_eq_nil_of_le (by omega), show 8 + j - 8 = j by omega, List.length_map, show 8 + j + r.length - 8 = j + r.length by omega,
    List.take_append_of_le_length (by rw [List.length_map]; omega), List.drop_append_of_le_length (by rw [List.length_map]; omega)]
  simp
theorem Cells.setSize {p : Nat} {v : Sha.V} {b : List UInt8} {n : Nat} {w : World} (h : Cells p v b n w) (m : Nat) : Cells p v b m (w.setCell ⟨p, 72, none⟩ (.int .i64 (m : Int))) := by
  refine ⟨h.1, h.2.1, ?_⟩
  have hb := h.1
  rw [heap_set h.2.2, List.setIfInBounds_toArray]
  congr 3
  unfold hL
  rw [List.set_append_right _ _ (by simp [Sha.V.list]), List.set_append_right _ _ (by simp [Sha.V.list, hb])]
  simp [Sha.V.list, hb]

/-- A text goes on by r, which is no more than what the block has left: the block is not full. -/
theorem isHash_more {p : Nat} {s r : List UInt8} {v : Sha.V} {b : List UInt8} {w : World} (hs : b.take (s.length % 64) = s.drop (64 * (s.length / 64))) (hv : 64 ≤ s.length → v = Sha.run Sha.start (s.length / 64) s)
    (hb : b.length = 64) (hj : s.length % 64 + r.length < 64) (hc : Cells p v (spl b (s.length % 64) r) (s.length + r.length) w) : IsHash p (s ++ r) w := by
  refine ⟨v, spl b (s.length % 64) r, by rw [List.length_append]; exact hc, ?_, ?_⟩
  · rw [List.length_append, show (s.length + r.length) % 64 = s.length % 64 + r.length by omega, show (s.length + r.length) / 64 = s.length / 64 by omega, List.drop_append_of_le_length (by omega), ← hs]
    unfold spl
    rw [← List.append_assoc, List.take_append_of_le_length (by simp [hb]; omega), List.take_of_length_le (by simp [hb]; omega)]
  · intro h
    rw [List.length_append] at h ⊢
    rw [show (s.length + r.length) / 64 = s.length / 64 by omega, Sha.run_prefix _ _ _ _ (by omega)]
    exact hv (by omega)

/-- .. the block is full: it goes into the state. -/
theorem isHash_full {p : Nat} {s r : List UInt8} {v : Sha.V} {b : List UInt8} {w : World} (hs : b.take (s.length % 64) = s.drop (64 * (s.length / 64))) (hv : 64 ≤ s.length → v = Sha.run Sha.start (s.length / 64) s)
    (hb : b.length = 64) (hj : s.length % 64 + r.length = 64)
    (hc : Cells p (Sha.step (if s.length + r.length = 64 then Sha.start else v) (Sha.words (spl b (s.length % 64) r))) (spl b (s.length % 64) r) (s.length + r.length) w) : IsHash p (s ++ r) w := by
  have hsp : spl b (s.length % 64) r = ((s ++ r).drop (64 * (s.length / 64))).take 64 := by
    unfold spl
    rw [List.drop_eq_nil_of_le (by omega), List.append_nil, List.drop_append_of_le_length (by omega), hs, List.take_of_length_le (by simp; omega)]
  refine ⟨_, _, by rw [List.length_append]; exact hc, ?_, ?_⟩
  · rw [List.length_append, show (s.length + r.length) % 64 = 0 by omega, List.take_zero, List.drop_eq_nil_of_le (by rw [List.length_append]; omega)]
  · intro _
    rw [List.length_append, show (s.length + r.length) / 64 = s.length / 64 + 1 by omega, Sha.run_snoc, ← hsp]
    congr 1
    by_cases e : s.length + r.length = 64
    · rw [if_pos e, show s.length / 64 = 0 by omega]; rfl
    · rw [if_neg e, Sha.run_prefix _ _ _ _ (by omega)]
      exact hv (by omega)
end Go.Proofs.YtollcdalokhjaaaDoor
/-! ## Package sha: what Hex and Bytes tell of every hash; ending. -/
namespace Go.Proofs.YtollcdalokhjaaaDoor
open Go.RowKit
/-- The digits. -/
def digitsB : ByteArray := ⟨#[48, 49, 50, 51, 52, 53, 54, 55, 56, 57, 97, 98, 99, 100, 101, 102]⟩

theorem index_sum (l : List UInt8) (hl : l.length = 32) (i : Nat) (hi : i < 32) (w : World) : (Instr.index 33 (.agg (l.map u8V).toArray) (.int .i64 (i : Int))).run Tryd.prog w = .ok (.int .u8 ((l.getD i 0).toNat : Int)) w :=
  run_index_agg w Tryd.underlying33 (by kernel_rfl) (by kernel_rfl) (by kernel_rfl) hi (by simp [u8V, hl, hi])
theorem info_sum : (Tryd.prog.info? 33).map (·.size) = some 32 := by kernel_rfl

theorem box_cells (l : List UInt8) : (Value.agg (l.map u8V).toArray).cells = (l.map u8V).toArray := rfl

set_option maxHeartbeats 1000000 in
set_option maxRecDepth 100000 in
theorem bytes_any (l : List UInt8) (w : World) (hl : l.length = 32) :
    Calls Tryd.prog 94 #[sumV l] w fun e w' => e = .returned (.string ⟨l.toArray⟩) ∧ Below w.heap.size w w' := by
  unfold sumV
  have hcv := convert_bytes (w.alloc (.cells (l.map u8V).toArray 33)) w.heap.size 32 32 l hl (cell_u8 (heap_alloc_last w _))
  clear hl
  go_enter Tryd.func94, Tryd.ntmps94
  go_wp2
  go_ret
  exact ⟨rfl, (Below.refl _ _).alloc (Nat.le_refl _) _⟩

/-- Ahead of byte k. -/
def HexRel (nb : Nat) (l : List UInt8) (w : World) (sv si : Value) (wr : World) : Prop :=
  ∃ k : Nat, ∃ cur : List Value, k ≤ 32 ∧ si = .int .i64 k ∧ sv = .slice (some ⟨nb, 0, none⟩) (2 * k) 64 ∧ cur.length = 64 ∧ cur.take (2 * k) = (Sha.hexL (l.take k)).map u8V ∧ wr.heap[nb]? = some (.cells cur.toArray 5 (0, 0)) ∧ Below w.heap.size w wr

theorem hex_step (l : List UInt8) (k : Nat) (h : k < l.length) : Sha.hexL (l.take (k + 1)) = Sha.hexL (l.take k) ++ [Sha.hexD ((l.getD k 0).toNat / 16), Sha.hexD ((l.getD k 0).toNat % 16)] := by
  unfold Sha.hexL
  rw [List.take_succ_eq_append_getElem h, List.flatMap_append]
  simp [h]
theorem hex_length (l : List UInt8) : (Sha.hexL l).length = 2 * l.length := by
  induction l with
  | nil => rfl
  | cons x l ih => simp only [Sha.hexL, List.flatMap_cons, List.length_append, List.length_cons, List.length_nil] at ih ⊢; omega
theorem hexRel_step {w : World} (l : List UInt8) (hl : l.length = 32) (wr : World) (k : Nat) (cur : List Value) (x : UInt8) (q r : Nat) (o : Obj) (hk : k < 32) (hx : l.getD k 0 = x) (hq : q = x.toNat / 16) (hr : r = x.toNat % 16)
    (hcl : cur.length = 64) (hct : cur.take (2 * k) = (Sha.hexL (l.take k)).map u8V) (hch : wr.heap[w.heap.size + 1]? = some (.cells cur.toArray 5 (0, 0))) (hbl : Below w.heap.size w wr) :
    HexRel (w.heap.size + 1) l w (.slice (some ⟨w.heap.size + 1, 0, none⟩) (2 * k + 2) 64) (.int .i64 ((k : Int) + 1)) ((wr.alloc o).drew.setCells (w.heap.size + 1) (2 * k) [u8V (Sha.hexD q), u8V (Sha.hexD r)]) := by
  have hlt : w.heap.size + 1 < wr.heap.size := (Array.getElem?_eq_some_iff.1 hch).1
  refine ⟨k + 1, cur.take (2 * k) ++ ([u8V (Sha.hexD q), u8V (Sha.hexD r)] ++ cur.drop (2 * k + 2)), by omega, rfl, rfl, ?_, ?_, ?_, ?_⟩
  · simp [hcl]; omega
  · rw [show 2 * (k + 1) = 2 * k + 2 by omega, List.take_append, List.take_of_length_le (by rw [List.length_take]; omega), List.length_take, Nat.min_eq_left (by omega), show 2 * k + 2 - 2 * k = 2 by omega, hct, hex_step l k (by omega), hx, hq, hr]
    simp
  · exact heap_setCells (w.heap.size + 1) 5 [u8V (Sha.hexD q), u8V (Sha.hexD r)] (2 * k) cur (wr.alloc o).drew (by simp [hcl]; omega) ((Below.heap_alloc wr o _ hlt).trans hch)
  · refine below_setCells (by omega) _ _ _ ?_
    have := hbl.alloc hbl.size o
    exact ⟨this.os, this.tape, this.output, this.size, this.block⟩
theorem digit_at (x : Nat) (h : x < 16) (w : World) (k : IntKind) : (Instr.index 9 (.string ⟨#[48, 49, 50, 51, 52, 53, 54, 55, 56, 57, 97, 98, 99, 100, 101, 102]⟩) (.int k (x : Int))).run Tryd.prog w = .ok (.int .u8 ((Sha.hexD x).toNat : Int)) w := by
  rw [run_index_string w _ _ _ _ Tryd.underlying9, dif_pos ⟨by omega, by show (x : Int) < 16; omega⟩]
  have : ∀ x : Fin 16, (⟨#[48, 49, 50, 51, 52, 53, 54, 55, 56, 57, 97, 98, 99, 100, 101, 102]⟩ : ByteArray)[x.val]'(by have := x.2; show _ < 16; exact this) = Sha.hexD x.val := by decide
  have e := this ⟨x, h⟩
  simp only [Int.toNat_natCast]
  rw [e]
theorem and15 (x : UInt8) : bits .and .u8 (x.toNat : Int) 15 = ((x.toNat % 16 : Nat) : Int) := by
  have := u8_and_nat x.toNat 15 x.toNat_lt (by decide)
  rw [show x.toNat &&& 15 = x.toNat % 16 from Nat.and_two_pow_sub_one_eq_mod _ 4] at this
  exact this

end Go.Proofs.YtollcdalokhjaaaDoor
/-! ## Package sha: what stands behind a text (ending). -/
namespace Go.Proofs.YtollcdalokhjaaaDoor
open Go.RowKit
/-- Ahead of byte k of the number. -/
def EndRel (nb z n : Nat) (w : World) (sv si : Value) (wr : World) : Prop :=
  ∃ k : Nat, ∃ cur : List UInt8, k ≤ 8 ∧ si = .int .i64 k ∧ sv = .slice (some ⟨nb, 0, none⟩) (z + 1 + k) (z + 9) ∧ cur.length = z + 9 ∧ cur.take (z + 1 + k) = (Sha.endL n).take (z + 1 + k) ∧ wr.heap[nb]? = some (.cells (cur.map u8V).toArray 5 (0, 0)) ∧ Below w.heap.size w wr

theorem endRel_step {w : World} {z n : Nat} (wr : World) (k : Nat) (cur : List UInt8) (y : UInt8) (o : Obj) (hk : k < 8) (hy : y = UInt8.ofNat (8 * n / 2 ^ (56 - 8 * k))) (hz : z = Sha.zeros n)
    (hcl : cur.length = z + 9) (hct : cur.take (z + 1 + k) = (Sha.endL n).take (z + 1 + k)) (hch : wr.heap[w.heap.size]? = some (.cells (cur.map u8V).toArray 5 (0, 0))) (hbl : Below w.heap.size w wr) :
    EndRel w.heap.size z n w (.slice (some ⟨w.heap.size, 0, none⟩) (z + 1 + k + 1) (z + 9)) (.int .i64 ((k : Int) + 1)) ((wr.alloc o).setCells w.heap.size (z + 1 + k) [u8V y]) := by
  have hlt : w.heap.size < wr.heap.size := (Array.getElem?_eq_some_iff.1 hch).1
  refine ⟨k + 1, cur.take (z + 1 + k) ++ ([y] ++ cur.drop (z + 1 + k + 1)), by omega, rfl, rfl, ?_, ?_, ?_, ?_⟩
  · simp [hcl]; omega
  · have hel := Sha.endL_length n
    rw [show z + 1 + (k + 1) = z + 1 + k + 1 by omega, List.take_append, List.take_of_length_le (by rw [List.length_take]; omega), List.length_take, Nat.min_eq_left (by omega), show z + 1 + k + 1 - (z + 1 + k) = 1 by omega, hct, List.take_succ_eq_append_getElem (l := Sha.endL n) (by omega)]
    congr 1
    have : (Sha.endL n)[z + 1 + k]? = some y := by
      unfold Sha.endL
      rw [show z + 1 + k = (z + k) + 1 by omega, List.getElem?_cons_succ, ← hz, List.getElem?_append_right (by simp), hy]
      simp [Sha.be8, hk]
    rw [List.getElem?_eq_some_iff] at this
    obtain ⟨_, h2⟩ := this
    rw [h2]
    rfl
  · have := heap_setCells w.heap.size 5 [u8V y] (z + 1 + k) (cur.map u8V) (wr.alloc o) (by simp [hcl]; omega) ((Below.heap_alloc wr o _ hlt).trans hch)
    rw [this]
    simp
  · exact below_setCells (by omega) _ _ _ (hbl.alloc hbl.size o)

set_option maxHeartbeats 1000000 in
set_option maxRecDepth 100000 in
theorem ending_any (n : Nat) (w : World) (hn : n < 1152921504606846976) :
    Calls Tryd.prog 93 #[.int .i64 n] w fun e w' => e = .returned (.string ⟨(Sha.endL n).toArray⟩) ∧ Below w.heap.size w w' := by
  obtain ⟨i0, hi, hz0, hz1, hz2⟩ := info_parts info_u8
  obtain ⟨m, hm⟩ : ∃ m, m = n % 64 := ⟨_, rfl⟩
  obtain ⟨z, hz⟩ : ∃ z, z = Sha.zeros n := ⟨_, rfl⟩
  have hm64 : m < 64 := by omega
  have hz64 : z < 64 := by rw [hz]; unfold Sha.zeros; omega
  have e1 : (n : Int) % 64 = (m : Int) := by omega
  have e2 : (55 - (m : Int) + 64) % 64 = (z : Int) := by rw [hz]; unfold Sha.zeros; omega
  have hmk : ∀ W : World, (Instr.makeSlice 110 (.int .i64 (1 + (z : Int))) (.int .i64 (1 + (z : Int) + 8))).run Tryd.prog W = .ok (.slice (some ⟨W.heap.size, 0, none⟩) (z + 1) (z + 9)) (W.alloc (.cells ((List.replicate (z + 9) (0 : UInt8)).map u8V).toArray 5)) := by
    intro W
    rw [show (1 + (z : Int)) = ((z + 1 : Nat) : Int) by omega, show (((z + 1 : Nat) : Int) + 8) = ((z + 9 : Nat) : Int) by omega]
    exact make_bytes (z + 1) (z + 9) (by omega) (by omega) W
  have c0 : (w.alloc (.cells ((List.replicate (z + 9) (0 : UInt8)).map u8V).toArray 5)).cell? ⟨w.heap.size, 0, none⟩ = some (.int .u8 0) := by rw [cell_of (heap_alloc_last w _)]; simp [u8V]
  have f0 : (w.alloc (.cells ((List.replicate (z + 9) (0 : UInt8)).map u8V).toArray 5)).frozen? ⟨w.heap.size, 0, none⟩ = false := fz_of (heap_alloc_last w _) 0
  have HM := Lib.hid hm
  have HZ := Lib.hid hz
  clear hm hz
  go_enter Tryd.func93, Tryd.ntmps93
  go_wp2
  clear hmk c0 f0
  rw [e2, e1]
  clear e2
  go_loopw [4, 19] (EndRel w.heap.size z n w) (fun _ i _ => 8 - (intOf i).toNat)
  case atStart =>
    refine ⟨0, (128 : UInt8) :: List.replicate (z + 8) 0, by omega, rfl, rfl, by simp, ?_, ?_, (Below.refl _ _).alloc (Nat.le_refl _) _⟩
    · unfold Sha.endL
      rw [← HZ.out, Nat.add_zero, List.take_succ_cons, List.take_succ_cons, List.take_append_of_le_length (by simp)]
      simp
    · have := heap_alloc_last w (.cells ((Array.replicate (z + 9) (u8V 0)).setIfInBounds 0 (.int .u8 128)) 5)
      rw [this]
      congr 3
      apply Array.ext_getElem?
      intro j
      cases j with
      | zero => simp [u8V]
      | succ j => simp [List.getElem?_replicate, Array.getElem?_replicate]
  case round =>
    obtain ⟨k, cur, hk, rfl, rfl, hcl, hct, hch, hbl⟩ := hrel
    have HCL := Lib.hid hcl
    have HCT := Lib.hid hct
    have HCH := Lib.hid hch
    clear hcl hct hch
    by_cases hlt : k < 8
    · obtain ⟨y, hy⟩ : ∃ y, y = UInt8.ofNat (8 * n / 2 ^ (56 - 8 * k)) := ⟨_, rfl⟩
      have ey : (n : Int) * 8 / 2 ^ (56 - 8 * k) % 256 = (y.toNat : Int) := by
        rw [hy, UInt8.toNat_ofNat', Nat.mul_comm 8 n]
        simp
      have hth : wr.there w.heap.size (0 + (z + 1 + k) * 1) [u8V y].length := there_of (l := cur.map u8V) HCH.out (by rw [List.length_map, HCL.out]; simp; omega)
      have HTH := Lib.hid hth
      have HY := Lib.hid hy
      clear hth hy
      go_wp2_with (first
        | (at_builtin; refine wpList_append_room rfl (.tmp 22) (.tmp 31) 110 rfl 5 i0 1 Tryd.underlying110 hi hz1 w.heap.size 0 (z + 1 + k) (z + 9) rfl ⟨wr.heap.size, 0, none⟩ 1 1 [u8V y] rfl rfl (cell_one_new wr _ _) (by intro u hu; simp at hu; subst hu; rfl) (by omega) (World.there_alloc HTH.out _) ?_))
      go_roundw
      case rel => exact endRel_step wr k cur y _ hlt HY.out HZ.out HCL.out HCT.out HCH.out hbl
      case measure => simp [intOf]; omega
    · obtain rfl : 8 = k := by omega
      have hcv := convert_bytes wr w.heap.size (z + 9) (z + 9) (Sha.endL n) (by rw [Sha.endL_length, HZ.out]) (by
        intro j x hx
        have ht := HCT.out
        rw [List.take_of_length_le (by have := HCL.out; omega), List.take_of_length_le (by rw [Sha.endL_length, ← HZ.out]; omega)] at ht
        rw [ht] at HCH
        exact cell_u8 HCH.out j x hx)
      go_wp2
      go_ret
      exact ⟨rfl, hbl⟩
end Go.Proofs.YtollcdalokhjaaaDoor
