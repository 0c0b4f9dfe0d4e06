/-
  CRC-32: what Add tells, the document's own (scriniumref04) and package check's.
-/
import Derived.Test.YthohdkpgckandaaDoorCrcPure
import Derived.Test.YthohdkpgckandaaDoorGenMem
namespace Go.Proofs.YthohdkpgckandaaDoor
open Go.RowKit

theorem run_take (c : Nat) (l : List UInt8) (k : Nat) (h : k < l.length) : Crc.run c (l.take (k + 1)) = Crc.upd (Crc.run c (l.take k)) (l.getD k 0) := by
  have e : l.getD k 0 = l[k] := by rw [List.getD_eq_getElem?_getD, List.getElem?_eq_getElem h]; rfl
  rw [List.take_succ_eq_append_getElem h, Crc.run_append, e]
  rfl
theorem getD_byte (S : ByteArray) (k : Nat) (h : k < S.size) : S.data.toList.getD k 0 = S[k] := by
  have hl : k < S.data.toList.length := by rw [← Lib.size_eq]; exact h
  rw [List.getD_eq_getElem?_getD, List.getElem?_eq_getElem hl]
  rfl
theorem steps_snoc (n c : Nat) : Crc.steps (n + 1) c = Crc.step (Crc.steps n c) := Crc.steps_add n 1 c

/-- Ahead of byte k. -/
def AddRel (c0 : Nat) (s : List UInt8) (sc si : Value) : Prop :=
  ∃ k : Nat, k ≤ s.length ∧ si = .int .i64 k ∧ sc = .int .u32 (Crc.run c0 (s.take k) : Nat)
/-- Ahead of step j. -/
def StepRel (x : Nat) (sc si : Value) : Prop :=
  ∃ j : Nat, j ≤ 8 ∧ si = .int .i64 j ∧ sc = .int .u32 (Crc.steps j x : Nat)

theorem not_u32 (c : Nat) (h : c < 4294967296) : bits BinOp.xor .u32 IntKind.u32.max (c : Int) = (Crc.inv c : Nat) := by
  have := u32_xor_nat 4294967295 c (by decide) h
  rw [← Crc.inv_xor c h] at this
  exact this
theorem xor_b (c : Nat) (h : c < 4294967296) (b : UInt8) : bits BinOp.xor .u32 (c : Int) (b.toNat : Int) = ((c ^^^ b.toNat : Nat) : Int) := u32_xor_nat c b.toNat h (by have := b.toNat_lt; omega)
theorem xor_P (c : Nat) (h : c < 4294967296) : bits BinOp.xor .u32 (c : Int) 3988292384 = ((c ^^^ Crc.P : Nat) : Int) := u32_xor_nat c Crc.P h (by decide)

set_option maxHeartbeats 1000000 in
set_option maxRecDepth 100000 in
theorem radd_any (c : Nat) (hc : c < 4294967296) (S : ByteArray) (s : List UInt8) (hs : S.data.toList = s) (hl : s.length ≤ 9223372036854775807) (w : World) :
    Calls Tryd.prog 15 #[.int .u32 c, .string S] w fun e w' => e = .returned (.int .u32 (Crc.add c s : Nat)) ∧ w = w' := by
  have hz : S.size = s.length := by rw [← hs, Lib.size_eq]
  have h0 := not_u32 c hc
  obtain ⟨c0, hc0⟩ : ∃ c0, c0 = Crc.inv c := ⟨_, rfl⟩
  have hc1 : c0 < 4294967296 := by rw [hc0]; exact Crc.inv_lt c
  rw [← hc0] at h0
  have HC0 := Lib.hid hc0
  have HS := Lib.hid hs
  clear hc0 hs
  go_enter Tryd.func15, Tryd.ntmps15
  go_wp2
  clear h0
  go_loop [0, 5] (AddRel c0 s) (fun _ i => s.length - (intOf i).toNat)
  case atStart => exact ⟨0, by omega, rfl, rfl⟩
  case round =>
    obtain ⟨k, hk, rfl, rfl⟩ := hrel
    have hr := Crc.run_lt (s.take k) c0 hc1
    by_cases hlt : k < s.length
    · have hx := index_str S k k rfl (by omega) _ rfl
      have hst := run_take c0 s k hlt
      rw [← HS.out, getD_byte S k (by omega), HS.out] at hst
      generalize S[k]'(by omega) = x at *
      generalize Crc.run c0 (s.take k) = a at *
      have e0 := xor_b a hr x
      have e8 : (x.toNat : Int) % 4294967296 = (x.toNat : Int) := by have := x.toNat_lt; omega
      have hy : a ^^^ x.toNat < 4294967296 := Nat.xor_lt_two_pow (n := 32) hr (by have := x.toNat_lt; omega)
      have hu : Crc.upd a x = Crc.steps 8 (a ^^^ x.toNat) := rfl
      generalize a ^^^ x.toNat = y at *
      go_wp2
      clear e0 hx e8
      go_loop [0, 6] (StepRel y) (fun _ i => 8 - (intOf i).toNat)
      case atStart => exact ⟨0, by omega, rfl, rfl⟩
      case round =>
        obtain ⟨j, hj, rfl, rfl⟩ := hrel
        by_cases hjt : j < 8
        · have hsn := steps_snoc j y
          have hz1 := Crc.steps_lt j y hy
          generalize Crc.steps j y = z at *
          have HSN := Lib.hid hsn
          clear hsn
          rcases Nat.mod_two_eq_zero_or_one z with ho | ho
          · have ho1 : (z : Int) % 2 = 0 := by omega
            go_wp2
            refine ⟨⟨j + 1, by omega, by go_num, ?_⟩, by simp [intOf]; omega⟩
            rw [HSN.out]
            unfold Crc.step
            rw [if_neg (by omega), Nat.xor_zero]
            rfl
          · have ho1 : (z : Int) % 2 = 1 := by omega
            have e1 : bits BinOp.xor .u32 ((z : Int) / 2) 3988292384 = ((z / 2 ^^^ Crc.P : Nat) : Int) := xor_P (z / 2) (by omega)
            go_wp2
            refine ⟨⟨j + 1, by omega, by go_num, ?_⟩, by simp [intOf]; omega⟩
            rw [HSN.out]
            unfold Crc.step
            rw [if_pos ho]
        · obtain rfl : 8 = j := by omega
          have HU := Lib.hid (hst.trans hu)
          clear hst hu
          go_wp2
          refine ⟨⟨k + 1, by omega, by go_num, by rw [HU.out]⟩, by simp [intOf]; omega⟩
    · obtain rfl : s.length = k := by omega
      rw [List.take_length] at hr ⊢
      have e9 := not_u32 _ hr
      generalize hR : Crc.run c0 s = R at *
      have HR := Lib.hid hR
      clear hR
      go_wp2
      go_ret
      refine ⟨?_, rfl⟩
      unfold Crc.add
      rw [← HC0.out, HR.out]
      rfl

/-! ### Package check: a table of 16 is four steps -/
/-- The table lies in the program's variables. -/
def TW (w : World) : Prop := ∀ i, i < 16 → w.cell? ⟨0, i, none⟩ = some (.int .u32 (Crc.steps 4 i : Nat))
theorem TW.pos {w : World} (h : TW w) : 0 < w.heap.size := by
  have := h 0 (by decide)
  unfold World.cell? at this
  split at this
  · rename_i heq; exact (Array.getElem?_eq_some_iff.1 heq).1
  · cases this
theorem TW.old {w w' : World} (h : TW w) (k : Below w.heap.size w w') : TW w' := fun i hi => (k.cell (by exact h.pos)).trans (h i hi)
theorem TW.alloc {w : World} (h : TW w) (o : Obj) : TW (w.alloc o) := h.old ((Below.refl _ _).alloc (Nat.le_refl _) _)
theorem and15 (a : Nat) (h : a < 4294967296) : bits BinOp.and .u32 (a : Int) 15 = ((a % 16 : Nat) : Int) := by
  have := u32_and_nat a 15 h (by decide)
  rw [show a &&& 15 = a % 16 from Nat.and_two_pow_sub_one_eq_mod _ 4] at this
  exact this
/-- Four steps by the table, as numbers. -/
theorem four_steps (a n q t b : Nat) (hn : n = a % 16) (hq : q = a / 16) (ht : t = Crc.steps 4 n) (hb : b = Crc.steps 4 a) : t ^^^ q = b := by
  subst hn hq ht hb
  exact (Crc.steps_low 4 a).symm

set_option maxHeartbeats 1000000 in
set_option maxRecDepth 100000 in
theorem add_any (c : Nat) (hc : c < 4294967296) (S : ByteArray) (s : List UInt8) (hs : S.data.toList = s) (hl : s.length ≤ 9223372036854775807) (w : World) (hT : TW w) :
    Calls Tryd.prog 14 #[.int .u32 c, .string S] w fun e w' => e = .returned (.int .u32 (Crc.add c s : Nat)) ∧ w = w' := by
  have hz : S.size = s.length := by rw [← hs, Lib.size_eq]
  have h0 := not_u32 c hc
  obtain ⟨c0, hc0⟩ : ∃ c0, c0 = Crc.inv c := ⟨_, rfl⟩
  have hc1 : c0 < 4294967296 := by rw [hc0]; exact Crc.inv_lt c
  rw [← hc0] at h0
  have HC0 := Lib.hid hc0
  have HS := Lib.hid hs
  have HT := Lib.hid hT
  clear hc0 hs hT
  go_enter Tryd.func14, Tryd.ntmps14
  go_wp2
  clear h0
  go_loop [0, 10] (AddRel c0 s) (fun _ i => s.length - (intOf i).toNat)
  case atStart => exact ⟨0, by omega, rfl, rfl⟩
  case round =>
    obtain ⟨k, hk, rfl, rfl⟩ := hrel
    have hr := Crc.run_lt (s.take k) c0 hc1
    by_cases hlt : k < s.length
    · have hx := index_str S k k rfl (by omega) _ rfl
      have hst := run_take c0 s k hlt
      rw [← HS.out, getD_byte S k (by omega), HS.out] at hst
      generalize S[k]'(by omega) = x at *
      generalize Crc.run c0 (s.take k) = a at *
      have e0 := xor_b a hr x
      have e8 : (x.toNat : Int) % 4294967296 = (x.toNat : Int) := by have := x.toNat_lt; omega
      have hy : a ^^^ x.toNat < 4294967296 := Nat.xor_lt_two_pow (n := 32) hr (by have := x.toNat_lt; omega)
      have hu : Crc.upd a x = Crc.steps 4 (Crc.steps 4 (a ^^^ x.toNat)) := Crc.steps_add 4 4 _
      generalize a ^^^ x.toNat = y at *
      obtain ⟨n1, hn1⟩ : ∃ n, n = y % 16 := ⟨_, rfl⟩
      obtain ⟨q1, hq1⟩ : ∃ n, n = y / 16 := ⟨_, rfl⟩
      obtain ⟨t1, ht1⟩ : ∃ n, n = Crc.steps 4 n1 := ⟨_, rfl⟩
      obtain ⟨z, hz1⟩ : ∃ n, n = Crc.steps 4 y := ⟨_, rfl⟩
      have hz2 : z < 4294967296 := by rw [hz1]; exact Crc.steps_lt 4 y hy
      obtain ⟨n2, hn2⟩ : ∃ n, n = z % 16 := ⟨_, rfl⟩
      obtain ⟨q2, hq2⟩ : ∃ n, n = z / 16 := ⟨_, rfl⟩
      obtain ⟨t2, ht2⟩ : ∃ n, n = Crc.steps 4 n2 := ⟨_, rfl⟩
      obtain ⟨u, hu2⟩ : ∃ n, n = Crc.steps 4 z := ⟨_, rfl⟩
      have a1 := and15 y hy
      have a2 := and15 z hz2
      rw [← hn1] at a1
      rw [← hn2] at a2
      have c1 := HT.out n1 (by omega)
      have c2 := HT.out n2 (by omega)
      rw [← ht1] at c1
      rw [← ht2] at c2
      have x1 : bits BinOp.xor .u32 (t1 : Int) (q1 : Int) = (z : Int) := by
        rw [u32_xor_nat t1 q1 (by rw [ht1]; exact Crc.steps_lt _ _ (by omega)) (by omega), four_steps y n1 q1 t1 z hn1 hq1 ht1 hz1]
      have x2 : bits BinOp.xor .u32 (t2 : Int) (q2 : Int) = (u : Int) := by
        rw [u32_xor_nat t2 q2 (by rw [ht2]; exact Crc.steps_lt _ _ (by omega)) (by omega), four_steps z n2 q2 t2 u hn2 hq2 ht2 hu2]
      have d1 : (y : Int) / 16 = (q1 : Int) := by omega
      have d2 : (z : Int) / 16 = (q2 : Int) := by omega
      have HU : Hid (Crc.run c0 (s.take (k + 1)) = u) := Lib.hid (by rw [hst, hu, ← hz1, ← hu2])
      have g1 : (n1 : Int) < 16 := by omega
      have g2 : (n2 : Int) < 16 := by omega
      clear hst hu hn1 hq1 ht1 hz1 hn2 hq2 ht2 hu2
      go_wp2
      refine ⟨⟨k + 1, by omega, by go_num, by rw [HU.out]⟩, by simp [intOf]; omega⟩
    · obtain rfl : s.length = k := by omega
      rw [List.take_length] at hr ⊢
      have e9 := not_u32 _ hr
      generalize hR : Crc.run c0 s = R at *
      have HR := Lib.hid hR
      clear hR
      go_wp2
      go_ret
      refine ⟨?_, rfl⟩
      unfold Crc.add
      rw [← HC0.out, HR.out]
      rfl
end Go.Proofs.YthohdkpgckandaaDoor
