/-
  bits.OnesCount: how many bits of a number are 1; and how many whole parts a number of leaves has.
-/
import Derived.Test.YtgiakpnkidblpaaDoorFrontPure
import Derived.Test.YtgiakpnkidblpaaDoorMGen
import Derived.Laws.BitsAllLaws
namespace Go.Proofs.YtgiakpnkidblpaaDoor
open Go.RowKit

/-! ### The sums of the bits, side by side -/
namespace Pop
theorem and_split (p q M m : Nat) (hq : q < 256) (hm : m < 256) : (256 * p + q) &&& (256 * M + m) = 256 * (p &&& M) + (q &&& m) := by
  have h1 : ((256 * p + q) &&& (256 * M + m)) / 2 ^ 8 = p &&& M := by
    rw [Nat.and_div_two_pow, show (256 * p + q) / 2 ^ 8 = p by omega, show (256 * M + m) / 2 ^ 8 = M by omega]
  have h2 : ((256 * p + q) &&& (256 * M + m)) % 2 ^ 8 = q &&& m := by
    rw [Nat.and_mod_two_pow, show (256 * p + q) % 2 ^ 8 = q by omega, show (256 * M + m) % 2 ^ 8 = m by omega]
  have h3 := Nat.div_add_mod ((256 * p + q) &&& (256 * M + m)) (2 ^ 8)
  rw [h1, h2] at h3
  rw [← h3]
def rep (m : Nat) : Nat → Nat
  | 0 => 0
  | k + 1 => 256 * rep m k + m
theorem rep85 : rep 85 8 = 6148914691236517205 := by decide
theorem rep51 : rep 51 8 = 3689348814741910323 := by decide
theorem rep15 : rep 15 8 = 1085102592571150095 := by decide
def g1 (b : Nat) : Nat := (b / 2 &&& 85) + (b &&& 85)
def g2 (c : Nat) : Nat := (c / 4 &&& 51) + (c &&& 51)
def pop8 (b : Nat) : Nat := b % 2 + b / 2 % 2 + b / 4 % 2 + b / 8 % 2 + b / 16 % 2 + b / 32 % 2 + b / 64 % 2 + b / 128 % 2
def s1 (k x : Nat) : Nat := (x / 2 &&& rep 85 k) + (x &&& rep 85 k)
def s2 (k x : Nat) : Nat := (x / 4 &&& rep 51 k) + (x &&& rep 51 k)
def s3 (k x : Nat) : Nat := (x / 16 + x) &&& rep 15 k
theorem fact1 : ∀ (c : Fin 2) (d : Fin 128), (c.val * 128 + d.val) &&& 85 = d.val &&& 85 := by decide +kernel
theorem fact2 : ∀ (c : Fin 4) (d : Fin 64), (c.val * 64 + d.val) &&& 51 = d.val &&& 51 := by decide +kernel
theorem fact3 : ∀ b : Fin 256, g1 b.val < 256 ∧ g2 (g1 b.val) ≤ 68 ∧ g2 (g1 b.val) % 16 ≤ 4 := by decide +kernel
theorem fact4 : ∀ (u : Fin 5) (b : Fin 256), (u.val * 16 + (g2 (g1 b.val) / 16 + g2 (g1 b.val))) &&& 15 = pop8 b.val := by decide +kernel
theorem pop8_le (b : Nat) : pop8 b ≤ 8 := by unfold pop8; omega
theorem s1_step (k x b : Nat) (hb : b < 256) : s1 (k + 1) (256 * x + b) = 256 * s1 k x + g1 b := by
  have e : (256 * x + b) / 2 = 256 * (x / 2) + (x % 2 * 128 + b / 2) := by omega
  have f := fact1 ⟨x % 2, by omega⟩ ⟨b / 2, by omega⟩
  simp only at f
  unfold s1 g1
  rw [e, rep, and_split _ _ _ _ (by omega) (by decide), and_split _ _ _ _ hb (by decide), f]
  omega
theorem s2_step (k x b : Nat) (hb : b < 256) : s2 (k + 1) (256 * x + b) = 256 * s2 k x + g2 b := by
  have e : (256 * x + b) / 4 = 256 * (x / 4) + (x % 4 * 64 + b / 4) := by omega
  have f := fact2 ⟨x % 4, by omega⟩ ⟨b / 4, by omega⟩
  simp only at f
  unfold s2 g2
  rw [e, rep, and_split _ _ _ _ (by omega) (by decide), and_split _ _ _ _ hb (by decide), f]
  omega
theorem s3_step (k z b : Nat) (hb : b < 256) (hz : z % 16 ≤ 4) : s3 (k + 1) (256 * z + g2 (g1 b)) = 256 * s3 k z + pop8 b := by
  have f3 := fact3 ⟨b, hb⟩
  have f4 := fact4 ⟨z % 16, by omega⟩ ⟨b, hb⟩
  simp only at f3 f4
  generalize g2 (g1 b) = c at *
  have e : (256 * z + c) / 16 + (256 * z + c) = 256 * (z / 16 + z) + (z % 16 * 16 + (c / 16 + c)) := by omega
  unfold s3
  rw [e, rep, and_split _ _ _ _ (by omega) (by decide), f4]
/-- The sums of the bytes' bits, side by side. -/
def side : Nat → Nat → Nat
  | 0, _ => 0
  | k + 1, x => 256 * side k (x / 256) + pop8 (x % 256)
theorem s2_low (k x : Nat) : s2 k (s1 k x) % 16 ≤ 4 := by
  cases k with
  | zero => simp [s2, s1, rep]
  | succ k =>
    have f3 := fact3 ⟨x % 256, by omega⟩
    simp only at f3
    have e : x = 256 * (x / 256) + x % 256 := by omega
    rw [e, s1_step _ _ _ (by omega), s2_step _ _ _ f3.1]
    omega
theorem s3_side : ∀ k x, s3 k (s2 k (s1 k x)) = side k x
  | 0, x => by simp [s3, rep, side]
  | k + 1, x => by
    have f3 := fact3 ⟨x % 256, by omega⟩
    simp only at f3
    have e : x = 256 * (x / 256) + x % 256 := by omega
    conv => lhs; rw [e, s1_step _ _ _ (by omega), s2_step _ _ _ f3.1, s3_step _ _ _ (by omega) (s2_low _ _), s3_side k (x / 256)]
    rfl
theorem ones_byte (x : Nat) : Tree.ones x = pop8 (x % 256) + Tree.ones (x / 256) := by
  have d2 : x / 2 / 2 = x / 4 := Nat.div_div_eq_div_mul x 2 2
  have d3 : x / 4 / 2 = x / 8 := Nat.div_div_eq_div_mul x 4 2
  have d4 : x / 8 / 2 = x / 16 := Nat.div_div_eq_div_mul x 8 2
  have d5 : x / 16 / 2 = x / 32 := Nat.div_div_eq_div_mul x 16 2
  have d6 : x / 32 / 2 = x / 64 := Nat.div_div_eq_div_mul x 32 2
  have d7 : x / 64 / 2 = x / 128 := Nat.div_div_eq_div_mul x 64 2
  have d8 : x / 128 / 2 = x / 256 := Nat.div_div_eq_div_mul x 128 2
  have e1 : x % 256 % 2 = x % 2 := by omega
  have e2 : x % 256 / 2 % 2 = x / 2 % 2 := by omega
  have e3 : x % 256 / 4 % 2 = x / 4 % 2 := by omega
  have e4 : x % 256 / 8 % 2 = x / 8 % 2 := by omega
  have e5 : x % 256 / 16 % 2 = x / 16 % 2 := by omega
  have e6 : x % 256 / 32 % 2 = x / 32 % 2 := by omega
  have e7 : x % 256 / 64 % 2 = x / 64 % 2 := by omega
  have e8 : x % 256 / 128 % 2 = x / 128 % 2 := by omega
  unfold pop8
  rw [e1, e2, e3, e4, e5, e6, e7, e8, Tree.ones_step x, Tree.ones_step (x / 2), d2, Tree.ones_step (x / 4), d3, Tree.ones_step (x / 8), d4, Tree.ones_step (x / 16), d5, Tree.ones_step (x / 32), d6, Tree.ones_step (x / 64), d7, Tree.ones_step (x / 128), d8]
  simp only [Nat.add_assoc]
theorem lin1 (p0 p1 p2 p3 p4 p5 p6 p7 : Nat) : 256 * (256 * (256 * (256 * (256 * (256 * (256 * p7 + p6) + p5) + p4) + p3) + p2) + p1) + p0 + (256 * (256 * (256 * (256 * (256 * (256 * p7 + p6) + p5) + p4) + p3) + p2) + p1) =
    65536 * (256 * (256 * (256 * (256 * (256 * p7 + (p6 + p7)) + (p5 + p6)) + (p4 + p5)) + (p3 + p4)) + (p2 + p3)) + (256 * (p1 + p2) + (p0 + p1)) := by omega
theorem lin2 (p0 p1 p2 p3 p4 p5 p6 p7 : Nat) : 65536 * (256 * (256 * (256 * (256 * (256 * p7 + (p6 + p7)) + (p5 + p6)) + (p4 + p5)) + (p3 + p4)) + (p2 + p3)) + (256 * (p1 + p2) + (p0 + p1)) + (256 * (256 * (256 * (256 * (256 * p7 + (p6 + p7)) + (p5 + p6)) + (p4 + p5)) + (p3 + p4)) + (p2 + p3)) =
    4294967296 * (256 * (256 * (256 * p7 + (p6 + p7)) + (p5 + p6 + p7)) + (p4 + p5 + p6 + p7)) + (256 * (256 * (256 * (p3 + p4 + p5 + p6) + (p2 + p3 + p4 + p5)) + (p1 + p2 + p3 + p4)) + (p0 + p1 + p2 + p3)) := by omega
theorem lin3 (c h k s p4 p5 p6 p7 : Nat) (hc : c = 256 * k + (p4 + p5 + p6 + p7)) : 4294967296 * c + (256 * h + s) + c = 128 * (33554432 * c + 2 * h + 2 * k) + (s + (p4 + p5 + p6 + p7)) := by omega
theorem fold8 (p0 p1 p2 p3 p4 p5 p6 p7 w t1 t2 t3 : Nat) (l0 : p0 ≤ 8) (l1 : p1 ≤ 8) (l2 : p2 ≤ 8) (l3 : p3 ≤ 8) (l4 : p4 ≤ 8) (l5 : p5 ≤ 8) (l6 : p6 ≤ 8) (l7 : p7 ≤ 8)
    (hw : w = 256 * (256 * (256 * (256 * (256 * (256 * (256 * p7 + p6) + p5) + p4) + p3) + p2) + p1) + p0) (h1 : t1 = w + w / 256) (h2 : t2 = t1 + t1 / 65536) (h3 : t3 = t2 + t2 / 4294967296) :
    t3 % 128 = p0 + (p1 + (p2 + (p3 + (p4 + (p5 + (p6 + p7)))))) ∧ w < 1000000000000000000 ∧ t1 < 2000000000000000000 ∧ t2 < 4000000000000000000 ∧ t3 < 8000000000000000000 := by
  have b0 : w < 1000000000000000000 := by clear h1 h2 h3; omega
  have e1 : w / 256 = 256 * (256 * (256 * (256 * (256 * (256 * p7 + p6) + p5) + p4) + p3) + p2) + p1 := by
    rw [hw, Nat.mul_add_div (by decide), Nat.div_eq_of_lt (a := p0) (by clear hw h1 h2 h3 b0; omega), Nat.add_zero]
  rw [e1, hw, lin1] at h1
  clear e1 hw
  have b1 : t1 < 2000000000000000000 := by clear h2 h3 b0; omega
  have e3 : t1 / 65536 = 256 * (256 * (256 * (256 * (256 * p7 + (p6 + p7)) + (p5 + p6)) + (p4 + p5)) + (p3 + p4)) + (p2 + p3) := by
    rw [h1, Nat.mul_add_div (by decide), Nat.div_eq_of_lt (a := 256 * (p1 + p2) + (p0 + p1)) (by clear h1 h2 h3 b0 b1; omega), Nat.add_zero]
  rw [e3, h1, lin2] at h2
  clear e3 h1
  have b2 : t2 < 4000000000000000000 := by clear h3 b0 b1; omega
  have e5 : t2 / 4294967296 = 256 * (256 * (256 * p7 + (p6 + p7)) + (p5 + p6 + p7)) + (p4 + p5 + p6 + p7) := by
    rw [h2, Nat.mul_add_div (by decide), Nat.div_eq_of_lt (a := 256 * (256 * (256 * (p3 + p4 + p5 + p6) + (p2 + p3 + p4 + p5)) + (p1 + p2 + p3 + p4)) + (p0 + p1 + p2 + p3)) (by clear h2 h3 b0 b1 b2; omega), Nat.add_zero]
  rw [e5, h2, lin3 _ _ (256 * (256 * p7 + (p6 + p7)) + (p5 + p6 + p7)) _ p4 p5 p6 p7 rfl] at h3
  clear e5 h2
  have b3 : t3 < 8000000000000000000 := by clear b0 b1 b2; omega
  refine ⟨?_, b0, b1, b2, b3⟩
  rw [h3, Nat.mul_add_mod, Nat.mod_eq_of_lt (by clear h3 b0 b1 b2 b3; omega)]
  clear h3 b0 b1 b2 b3
  omega
/-- Put together. -/
theorem ones_all (x : Nat) (hx : x < 18446744073709551616) (w t1 t2 t3 : Nat) (hw : w = side 8 x) (h1 : t1 = w + w / 256) (h2 : t2 = t1 + t1 / 65536) (h3 : t3 = t2 + t2 / 4294967296) :
    t3 % 128 = Tree.ones x ∧ w < 1000000000000000000 ∧ t1 < 2000000000000000000 ∧ t2 < 4000000000000000000 ∧ t3 < 8000000000000000000 := by
  have q0 : Tree.ones (x / 256 / 256 / 256 / 256 / 256 / 256 / 256 / 256) = 0 := by
    rw [show x / 256 / 256 / 256 / 256 / 256 / 256 / 256 / 256 = 0 by omega, Tree.ones_zero]
  have o : Tree.ones x = pop8 (x % 256) + (pop8 (x / 256 % 256) + (pop8 (x / 256 / 256 % 256) + (pop8 (x / 256 / 256 / 256 % 256) + (pop8 (x / 256 / 256 / 256 / 256 % 256) + (pop8 (x / 256 / 256 / 256 / 256 / 256 % 256) + (pop8 (x / 256 / 256 / 256 / 256 / 256 / 256 % 256) + pop8 (x / 256 / 256 / 256 / 256 / 256 / 256 / 256 % 256))))))) := by
    rw [ones_byte x, ones_byte (x / 256), ones_byte (x / 256 / 256), ones_byte (x / 256 / 256 / 256), ones_byte (x / 256 / 256 / 256 / 256), ones_byte (x / 256 / 256 / 256 / 256 / 256), ones_byte (x / 256 / 256 / 256 / 256 / 256 / 256), ones_byte (x / 256 / 256 / 256 / 256 / 256 / 256 / 256), q0]
    omega
  simp only [side] at hw
  have l0 := pop8_le (x % 256)
  have l1 := pop8_le (x / 256 % 256)
  have l2 := pop8_le (x / 256 / 256 % 256)
  have l3 := pop8_le (x / 256 / 256 / 256 % 256)
  have l4 := pop8_le (x / 256 / 256 / 256 / 256 % 256)
  have l5 := pop8_le (x / 256 / 256 / 256 / 256 / 256 % 256)
  have l6 := pop8_le (x / 256 / 256 / 256 / 256 / 256 / 256 % 256)
  have l7 := pop8_le (x / 256 / 256 / 256 / 256 / 256 / 256 / 256 % 256)
  rw [o]
  exact fold8 _ _ _ _ _ _ _ _ _ _ _ _ l0 l1 l2 l3 l4 l5 l6 l7 (by rw [hw, Nat.mul_zero, Nat.zero_add]) h1 h2 h3
end Pop
theorem and_lowP (n : Nat) (hn : n < 9223372036854775808) : bits .and .i64 (n : Int) 127 = ((n % 128 : Nat) : Int) := by
  have key : (BitVec.ofInt 64 (n : Int) &&& BitVec.ofInt 64 127).toNat = n % 128 := by
    rw [BitVec.toNat_and, BitVec.ofInt_natCast, BitVec.toNat_ofNat, Nat.mod_eq_of_lt (by omega), show (BitVec.ofInt 64 127).toNat = 2 ^ 7 - 1 by decide, Nat.and_two_pow_sub_one_eq_mod]
  show IntKind.i64.wrap ((BitVec.ofInt 64 (n : Int) &&& BitVec.ofInt 64 127).toNat : Nat) = _
  rw [key]
  exact IntWalk.i64_in _ (by omega)
set_option maxHeartbeats 1600000 in
set_option maxRecDepth 100000 in
theorem ones64_any (x : Nat) (hx : x < 18446744073709551616) (w : World) :
    Calls Tryd.prog 68 #[.int .u64 (x : Int)] w fun e w' => e = .returned (.int .i64 (Tree.ones x : Int)) ∧ w = w' := by
  obtain ⟨N, hN⟩ : ∃ N, N = Tree.ones x := ⟨_, rfl⟩
  rw [← hN]
  obtain ⟨a, ha⟩ : ∃ a, a = x / 2 &&& 6148914691236517205 := ⟨_, rfl⟩
  obtain ⟨b, hb⟩ : ∃ b, b = x &&& 6148914691236517205 := ⟨_, rfl⟩
  have al : a ≤ 6148914691236517205 := by rw [ha]; exact Nat.and_le_right
  have bl : b ≤ 6148914691236517205 := by rw [hb]; exact Nat.and_le_right
  obtain ⟨y, hy⟩ : ∃ y, y = a + b := ⟨_, rfl⟩
  obtain ⟨c, hc⟩ : ∃ c, c = y / 4 &&& 3689348814741910323 := ⟨_, rfl⟩
  obtain ⟨d, hd⟩ : ∃ d, d = y &&& 3689348814741910323 := ⟨_, rfl⟩
  have cl : c ≤ 3689348814741910323 := by rw [hc]; exact Nat.and_le_right
  have dl : d ≤ 3689348814741910323 := by rw [hd]; exact Nat.and_le_right
  obtain ⟨z, hz⟩ : ∃ z, z = c + d := ⟨_, rfl⟩
  obtain ⟨f, hf⟩ : ∃ f, f = z / 16 + z := ⟨_, rfl⟩
  obtain ⟨s, hs⟩ : ∃ s, s = f &&& 1085102592571150095 := ⟨_, rfl⟩
  obtain ⟨t1, h1⟩ : ∃ t, t = s + s / 256 := ⟨_, rfl⟩
  obtain ⟨t2, h2⟩ : ∃ t, t = t1 + t1 / 65536 := ⟨_, rfl⟩
  obtain ⟨t3, h3⟩ : ∃ t, t = t2 + t2 / 4294967296 := ⟨_, rfl⟩
  have hs8 : s = Pop.side 8 x := by
    rw [← Pop.s3_side, hs, hf, hz, hc, hd, hy, ha, hb]
    unfold Pop.s3 Pop.s2 Pop.s1
    rw [Pop.rep85, Pop.rep51, Pop.rep15]
  obtain ⟨k0, k1, k2, k3, k4⟩ := Pop.ones_all x hx s t1 t2 t3 hs8 h1 h2 h3
  have q1 : bits .and .u64 ((x : Int) / 2) 6148914691236517205 = (a : Int) := by
    rw [show (x : Int) / 2 = ((x / 2 : Nat) : Int) by omega, show (6148914691236517205 : Int) = ((6148914691236517205 : Nat) : Int) by rfl, u64_and_nat _ _ (by omega) (by decide), ha]
  have q2 : bits .and .u64 (x : Int) 6148914691236517205 = (b : Int) := by
    rw [show (6148914691236517205 : Int) = ((6148914691236517205 : Nat) : Int) by rfl, u64_and_nat _ _ hx (by decide), hb]
  have q3 : IntKind.u64.wrap ((a : Int) + (b : Int)) = (y : Int) := by rw [IntKind.wrap_u64]; omega
  have q4 : bits .and .u64 ((y : Int) / 4) 3689348814741910323 = (c : Int) := by
    rw [show (y : Int) / 4 = ((y / 4 : Nat) : Int) by omega, show (3689348814741910323 : Int) = ((3689348814741910323 : Nat) : Int) by rfl, u64_and_nat _ _ (by omega) (by decide), hc]
  have q5 : bits .and .u64 (y : Int) 3689348814741910323 = (d : Int) := by
    rw [show (3689348814741910323 : Int) = ((3689348814741910323 : Nat) : Int) by rfl, u64_and_nat _ _ (by omega) (by decide), hd]
  have q6 : IntKind.u64.wrap ((c : Int) + (d : Int)) = (z : Int) := by rw [IntKind.wrap_u64]; omega
  have q7 : IntKind.u64.wrap ((z : Int) / 16 + (z : Int)) = (f : Int) := by rw [IntKind.wrap_u64]; omega
  have q8 : bits .and .u64 (f : Int) 1085102592571150095 = (s : Int) := by
    rw [show (1085102592571150095 : Int) = ((1085102592571150095 : Nat) : Int) by rfl, u64_and_nat _ _ (by omega) (by decide), hs]
  have q9 : IntKind.u64.wrap ((s : Int) + (s : Int) / 256) = (t1 : Int) := by rw [IntKind.wrap_u64]; omega
  have q10 : IntKind.u64.wrap ((t1 : Int) + (t1 : Int) / 65536) = (t2 : Int) := by rw [IntKind.wrap_u64]; omega
  have q11 : IntKind.u64.wrap ((t2 : Int) + (t2 : Int) / 4294967296) = (t3 : Int) := by rw [IntKind.wrap_u64]; omega
  have q12 := IntWalk.i64_in (t3 : Int) (by omega)
  have q13 : bits .and .i64 (t3 : Int) 127 = (N : Int) := by rw [and_lowP _ (by omega), k0, hN]
  clear hN ha hb hy hc hd hz hf hs h1 h2 h3 hs8 k0 k1 k2 k3 k4 al bl cl dl
  go_enter Tryd.func68, Tryd.ntmps68
  go_wp2
  go_ret
  exact ⟨rfl, rfl⟩
set_option maxRecDepth 100000 in
theorem onesC_any (x : Nat) (hx : x < 18446744073709551616) (w : World) :
    Calls Tryd.prog 49 #[.int .u64 (x : Int)] w fun e w' => e = .returned (.int .i64 (Tree.ones x : Int)) ∧ w = w' := by
  have HC := Lib.hid (fun u => ones64_any x hx u)
  go_enter Tryd.func49, Tryd.ntmps49
  go_wp2_with (go_at_call 68; ((with_reducible refine (HC.out _).mono ?_); rintro e w1 ⟨rfl, rfl⟩))
  go_ret
  exact ⟨rfl, rfl⟩
set_option maxRecDepth 100000 in
theorem whole_any (x : Nat) (hx : x < 9223372036854775808) (w : World) :
    Calls Tryd.prog 28 #[.int .i64 (x : Int)] w fun e w' => e = .returned (.int .i64 (Tree.ones x : Int)) ∧ w = w' := by
  have HC := Lib.hid (fun u => onesC_any x (by omega) u)
  go_enter Tryd.func28, Tryd.ntmps28
  go_wp2_with (go_at_call 49; ((with_reducible refine (HC.out _).mono ?_); rintro e w1 ⟨rfl, rfl⟩))
  go_ret
  exact ⟨rfl, rfl⟩
end Go.Proofs.YtgiakpnkidblpaaDoor
