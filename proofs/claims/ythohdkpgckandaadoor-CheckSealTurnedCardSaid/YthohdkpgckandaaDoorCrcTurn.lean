/-
  The statements' own helper turned (scriniumlaw04): a text of which up to 32 bits in a row are turned.
-/
import Derived.Test.YthohdkpgckandaaDoorCrcOpen
namespace Go.Proofs.YthohdkpgckandaaDoor
open Go.RowKit

/-- Where the row of bits begins. -/
def turnAt (size : Nat) (z : Int) : Nat := (if z < 0 then -(z + 1) else z).toNat % (8 * size - 31)
def turnB (S : ByteArray) (z : Int) (b : Nat) : ByteArray := ⟨(Crc.turn S.data.toList (turnAt S.size z) b 32).toArray⟩
theorem turnB_data (S : ByteArray) (z : Int) (b : Nat) : (turnB S z b).data.toList = Crc.turn S.data.toList (turnAt S.size z) b 32 := rfl
theorem turnAt_le (size : Nat) (h : 5 ≤ size) (z : Int) : turnAt size z + 32 ≤ 8 * size := by
  unfold turnAt
  have := Nat.mod_lt (if z < 0 then -(z + 1) else z).toNat (show 0 < 8 * size - 31 by omega)
  omega
theorem turnB_size (S : ByteArray) (z : Int) (b : Nat) : (turnB S z b).size = S.size := by rw [Lib.size_eq, turnB_data, Crc.turn_length, ← Lib.size_eq]

theorem mod_nat (x : Int) (hx : 0 ≤ x) (m : Nat) (M : Int) (hM : M = (m : Int)) : x % M = ((x.toNat % m : Nat) : Int) := by
  subst hM
  rw [Int.natCast_emod, Int.toNat_of_nonneg hx]
theorem bit_and (b i : Nat) (hb : b < 4294967296) (v : Int) (hv : v = if b.testBit i = true then 1 else 0) : bits BinOp.and .u32 ((b : Int) / 2 ^ i) 1 = v := by
  have h1 : b / 2 ^ i < 4294967296 := Nat.lt_of_le_of_lt (Nat.div_le_self _ _) hb
  have h2 := u32_and_nat (b / 2 ^ i) 1 h1 (by decide)
  rw [show (b / 2 ^ i) &&& 1 = b / 2 ^ i % 2 from Nat.and_two_pow_sub_one_eq_mod _ 1] at h2
  have h3 : ((b / 2 ^ i : Nat) : Int) = (b : Int) / 2 ^ i := by rw [Int.natCast_ediv, Int.natCast_pow]; rfl
  rw [h3] at h2
  rw [hv]
  refine h2.trans ?_
  rw [Nat.testBit_eq_decide_div_mod_eq]
  rcases Nat.mod_two_eq_zero_or_one (b / 2 ^ i) with h | h <;> simp [h]
theorem xor_bit (x : UInt8) (r : Nat) : bits BinOp.xor .u8 (x.toNat : Int) (2 ^ r % 256) = ((x ^^^ UInt8.ofNat (2 ^ r)).toNat : Int) := by
  have h := xor_u8 x (UInt8.ofNat (2 ^ r))
  rw [UInt8.toNat_ofNat', Int.natCast_emod, Int.natCast_pow] at h
  exact h
theorem flip_set (l : List UInt8) (j : Nat) (h : j / 8 < l.length) : Crc.flip l j = l.set (j / 8) (l[j / 8] ^^^ UInt8.ofNat (2 ^ (j % 8))) := by
  unfold Crc.flip
  apply List.ext_getElem?
  intro k
  rw [List.getElem?_modify, List.getElem?_set]
  by_cases e : j / 8 = k
  · subst e
    simp [h]
  · simp [e]
/-- Ahead of bit i. -/
def TurnRel (q : Nat) (s : List UInt8) (n b : Nat) (w : World) (si : Value) (wr : World) : Prop :=
  ∃ i : Nat, i ≤ 32 ∧ si = .int .i64 i ∧ Row8 q (Crc.turn s n b i) wr ∧ Below w.heap.size w wr

set_option maxHeartbeats 1000000 in
set_option maxRecDepth 100000 in
theorem turned_any (S : ByteArray) (h5 : 5 ≤ S.size) (hl : S.size ≤ 1000) (z : Int) (lo : -9223372036854775808 ≤ z) (hi : z ≤ 9223372036854775807) (b : Nat) (hb : b < 4294967296) (w : World) :
    Calls Tryd.prog 21 #[.string S, .int .i64 z, .int .u32 b] w fun e w' => e = .returned (.string (turnB S z b)) ∧ Below w.heap.size w w' := by
  have hcv := fun W => run_bytes_of_string (P := Tryd.prog) W 9 41 5 S Tryd.underlying9 Tryd.underlying41 Tryd.underlying5
  obtain ⟨n, hn⟩ : ∃ n, n = turnAt S.size z := ⟨_, rfl⟩
  have hle : n + 32 ≤ 8 * S.size := by rw [hn]; exact turnAt_le S.size h5 z
  obtain ⟨s, hs⟩ : ∃ s, s = S.data.toList := ⟨_, rfl⟩
  have hsl : s.length = S.size := by rw [hs, ← Lib.size_eq]
  have hR : turnB S z b = ⟨(Crc.turn s n b 32).toArray⟩ := by rw [hn, hs]; rfl
  rw [hR]
  have key : (z < 0 ∧ -((z + 1).tmod (8 * (S.size : Int) - 31)) = (n : Int)) ∨ (¬ z < 0 ∧ z % (8 * (S.size : Int) - 31) = (n : Int)) := by
    by_cases hz : z < 0
    · left
      refine ⟨hz, ?_⟩
      rw [hn, ← Int.neg_tmod, Int.tmod_eq_emod_of_nonneg (by omega)]
      unfold turnAt
      rw [if_pos hz]
      exact mod_nat _ (by omega) _ _ (by omega)
    · right
      refine ⟨hz, ?_⟩
      rw [hn]
      unfold turnAt
      rw [if_neg hz]
      exact mod_nat _ (by omega) _ _ (by omega)
  have Hs := Lib.hid hs
  clear hn hs hR
  rcases key with ⟨hz, hm⟩ | ⟨hz, hm⟩
  all_goals
    go_enter Tryd.func21, Tryd.ntmps21
    go_upto_region 7 with (fail)
    obtain ⟨c, hc⟩ : ∃ c, c = grownCap w S.size 0 5 := ⟨_, rfl⟩
    rw [← hc]
    obtain ⟨w1, hw1⟩ : ∃ w1, w1 = (w.alloc (.cells (bytesRow S c) 5 ((bytesRow S c).size, (bytesRow S c).size + 1))).drew := ⟨_, rfl⟩
    have r1 : Row8 w.heap.size s w1 := by rw [hw1, Hs.out]; exact row8_new w S c _
    have b1 : Below w.heap.size w w1 := by rw [hw1]; exact ((Below.refl _ _).alloc (Nat.le_refl _) _).drew
    rw [← hw1]
    clear hw1 hc hcv hm
    go_wp2
    go_loopw [9] (TurnRel w.heap.size s n b w) (fun i _ => 32 - (intOf i).toNat)
    case atStart => exact ⟨0, by omega, rfl, r1, b1⟩
    case round =>
      obtain ⟨i, hi, rfl, hr, hbl⟩ := hrel
      by_cases hlt : i < 32
      · have hi32 : (i : Int) < 32 := by omega
        have hu : Crc.turn s n b (i + 1) = if b.testBit i = true then Crc.flip (Crc.turn s n b i) (n + i) else Crc.turn s n b i := rfl
        have hlen := Crc.turn_length s n b i
        generalize Crc.turn s n b i = l at *
        have HU := Lib.hid hu
        have HR := Lib.hid hr
        clear hu
        have hj : (n + i) / 8 < l.length := by omega
        have hx := hr.cell ((n + i) / 8) _ (List.getElem?_eq_getElem hj)
        have hf := hr.fz ((n + i) / 8) hj
        unfold u8V at hx
        have hset := hr.set ((n + i) / 8) (l[(n + i) / 8] ^^^ UInt8.ofNat (2 ^ ((n + i) % 8)))
        rw [← flip_set l (n + i) hj] at hset
        have HSET := Lib.hid hset
        clear hr hset
        cases hbit : b.testBit i with
        | false =>
          have ea := bit_and b i hb 0 (by rw [hbit]; rfl)
          clear hx hf
          go_wp2
          refine ⟨⟨i + 1, by omega, by go_num, ?_, hbl⟩, by simp [intOf]; omega⟩
          rw [HU.out, hbit]
          exact HR.out
        | true =>
          have ea := bit_and b i hb 1 (by rw [hbit]; rfl)
          have ex := xor_bit l[(n + i) / 8] ((n + i) % 8)
          generalize l[(n + i) / 8] = x at *
          go_wp2
          refine ⟨⟨i + 1, by omega, by go_num, ?_, hbl.setCell (by simp) _⟩, by simp [intOf]; omega⟩
          rw [HU.out, if_pos hbit]
          exact HSET.out
      · obtain rfl : 32 = i := by omega
        have hlen := Crc.turn_length s n b 32
        have hcv := convert_bytes wr w.heap.size S.size c (Crc.turn s n b 32) (hlen.trans hsl) hr.cell
        clear hr
        go_wp2
        go_ret
        exact ⟨rfl, hbl⟩
end Go.Proofs.YthohdkpgckandaaDoor
