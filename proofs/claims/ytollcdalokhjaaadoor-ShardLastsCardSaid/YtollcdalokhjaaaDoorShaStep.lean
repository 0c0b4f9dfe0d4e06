/-
  Package sha: what Step tells, for every state and every block: the document's own words on a block, by the sixteen numbers that the program keeps.
-/
import Derived.Test.YtollcdalokhjaaaDoorMShaA
namespace Go.Proofs.YtollcdalokhjaaaDoor
open Go.RowKit

/-- What holds ahead of round t. -/
def StepRel (w : World) (v : Sha.V) (b : List Nat) (sa sb sc sd se sf sg sh st : Value) (wr : World) : Prop :=
  ∃ t : Nat, t ≤ 64 ∧ st = .int .i64 t ∧ sa = .int .u32 (Sha.rounds v b t).a ∧ sb = .int .u32 (Sha.rounds v b t).b ∧ sc = .int .u32 (Sha.rounds v b t).c ∧ sd = .int .u32 (Sha.rounds v b t).d
    ∧ se = .int .u32 (Sha.rounds v b t).e ∧ sf = .int .u32 (Sha.rounds v b t).f ∧ sg = .int .u32 (Sha.rounds v b t).g ∧ sh = .int .u32 (Sha.rounds v b t).h
    ∧ wr.heap[w.heap.size]? = some (.cells (vC v) 112 (0, 0)) ∧ wr.heap[w.heap.size + 2]? = some (.cells zC 112 (0, 0)) ∧ wr.heap[w.heap.size + 3]? = some (.cells (bC (Sha.ring b t)) 114 (0, 0)) ∧ Below w.heap.size w wr

theorem heap4 (w : World) (o0 o1 o2 o3 : Obj) (n : Nat) : (((((w.alloc o0).alloc o1).alloc o2).alloc o3).drewN n).heap[w.heap.size]? = some o0 ∧ (((((w.alloc o0).alloc o1).alloc o2).alloc o3).drewN n).heap[w.heap.size + 2]? = some o2
    ∧ (((((w.alloc o0).alloc o1).alloc o2).alloc o3).drewN n).heap[w.heap.size + 3]? = some o3 ∧ Below w.heap.size w (((((w.alloc o0).alloc o1).alloc o2).alloc o3).drewN n) := by
  refine ⟨?_, ?_, ?_, below_drewN (((((Below.refl _ _).alloc (Nat.le_refl _) _).alloc (by simp) _).alloc (by simp; omega) _).alloc (by simp; omega) _) n⟩
  · exact (Below.heap_alloc _ _ _ (by simp; omega)).trans ((Below.heap_alloc _ _ _ (by simp; omega)).trans ((Below.heap_alloc _ _ _ (by simp)).trans (heap_alloc_last w o0)))
  · have := heap_alloc_last ((w.alloc o0).alloc o1) o2
    simp only [World.size_alloc] at this
    exact (Below.heap_alloc _ _ _ (by simp)).trans this
  · have := heap_alloc_last (((w.alloc o0).alloc o1).alloc o2) o3
    simp only [World.size_alloc] at this
    exact this
theorem idx0 (t : Nat) : ∃ j : Nat, (t : Int) % 16 = (j : Int) ∧ j < 16 ∧ j = t % 16 := ⟨t % 16, by omega, by omega, rfl⟩
theorem idx (t d : Nat) (D : Int) (hD : D = (d : Int)) (h16 : 16 ≤ t) (h64 : t < 64) (hd : d ≤ 15) : ∃ u j : Nat, IntKind.i64.wrap ((t : Int) - D) = (u : Int) ∧ (u : Int).tmod 16 = (j : Int) ∧ j < 16 ∧ j = (t - d) % 16 := by
  subst hD
  refine ⟨t - d, (t - d) % 16, ?_, ?_, by omega, rfl⟩
  · rw [IntWalk.i64_in _ (by omega)]; omega
  · rw [Int.tmod_eq_emod_of_nonneg (by omega)]; omega
theorem xor3 {a b c : Nat} (h : a < 4294967296) (k : b < 4294967296) (l : c < 4294967296) : bits .xor .u32 (bits .xor .u32 (a : Nat) (b : Nat)) (c : Nat) = ((a ^^^ b ^^^ c : Nat) : Int) := by
  rw [u32_xor_nat _ _ h k]
  exact u32_xor_nat _ _ (Sha.xor_lt h k) l
theorem not32 (e : Nat) (h : e < 4294967296) : 4294967295 ^^^ e = 4294967295 - e := by
  have := congrArg BitVec.toNat (BitVec.allOnes_xor (x := BitVec.ofNat 32 e))
  simpa [BitVec.toNat_xor, BitVec.toNat_allOnes, BitVec.toNat_not, Nat.mod_eq_of_lt h] using this
theorem t1_form (h e f g k w : Nat) (he : e < 4294967296) (hf : f < 4294967296) (hg : g < 4294967296) :
    ((h : Int) + bits .xor .u32 (bits .xor .u32 (Sha.rotr 6 e : Nat) (Sha.rotr 11 e : Nat)) (Sha.rotr 25 e : Nat) + bits .xor .u32 (bits .and .u32 (e : Nat) (f : Nat)) (bits .and .u32 (bits .xor .u32 (if IntKind.u32.signed = true then -1 else IntKind.u32.max) (e : Nat)) (g : Nat)) + (k : Int) + (w : Int)) % 4294967296 = (Sha.t1 h e f g k w : Nat) := by
  rw [xor3 (Sha.rotr_lt _ _ he) (Sha.rotr_lt _ _ he) (Sha.rotr_lt _ _ he)]
  have hn : bits .xor .u32 (if IntKind.u32.signed = true then -1 else IntKind.u32.max) (e : Nat) = ((4294967295 - e : Nat) : Int) := by
    have e1 : (if IntKind.u32.signed = true then (-1 : Int) else IntKind.u32.max) = ((4294967295 : Nat) : Int) := by decide
    rw [e1, u32_xor_nat _ _ (by decide) he]
    rw [not32 e he]
  rw [hn, u32_and_nat _ _ he hf, u32_and_nat _ _ (by omega) hg, u32_xor_nat _ _ (Sha.and_lt he) (Sha.and_lt (by omega))]
  show _ = (((h + Sha.S1 e + Sha.ch e f g + k + w) % 4294967296 : Nat) : Int)
  unfold Sha.S1 Sha.ch
  omega
theorem t2_form (a b c : Nat) (ha : a < 4294967296) (hb : b < 4294967296) (hc : c < 4294967296) :
    (bits .xor .u32 (bits .xor .u32 (Sha.rotr 2 a : Nat) (Sha.rotr 13 a : Nat)) (Sha.rotr 22 a : Nat) + bits .xor .u32 (bits .xor .u32 (bits .and .u32 (a : Nat) (b : Nat)) (bits .and .u32 (a : Nat) (c : Nat))) (bits .and .u32 (b : Nat) (c : Nat))) % 4294967296 = (Sha.t2 a b c : Nat) := by
  rw [xor3 (Sha.rotr_lt _ _ ha) (Sha.rotr_lt _ _ ha) (Sha.rotr_lt _ _ ha), u32_and_nat _ _ ha hb, u32_and_nat _ _ ha hc, u32_and_nat _ _ hb hc, xor3 (Sha.and_lt ha) (Sha.and_lt ha) (Sha.and_lt hb)]
  show _ = (((Sha.S0 a + Sha.maj a b c) % 4294967296 : Nat) : Int)
  unfold Sha.S0 Sha.maj
  omega
theorem s0_form (x : Nat) (h : x < 4294967296) : bits .xor .u32 (bits .xor .u32 (Sha.rotr 7 x : Nat) (Sha.rotr 18 x : Nat)) ((x : Int) / 8) = (Sha.s0 x : Nat) := by
  rw [u32_xor_nat _ _ (Sha.rotr_lt _ _ h) (Sha.rotr_lt _ _ h)]
  exact u32_xor_nat _ _ (Sha.xor_lt (Sha.rotr_lt _ _ h) (Sha.rotr_lt _ _ h)) (Sha.div_lt 8 h)
theorem s1_form (x : Nat) (h : x < 4294967296) : bits .xor .u32 (bits .xor .u32 (Sha.rotr 17 x : Nat) (Sha.rotr 19 x : Nat)) ((x : Int) / 1024) = (Sha.s1 x : Nat) := by
  rw [u32_xor_nat _ _ (Sha.rotr_lt _ _ h) (Sha.rotr_lt _ _ h)]
  exact u32_xor_nat _ _ (Sha.xor_lt (Sha.rotr_lt _ _ h) (Sha.rotr_lt _ _ h)) (Sha.div_lt 1024 h)

set_option maxHeartbeats 1000000 in
set_option maxRecDepth 100000 in
theorem step_16 (v : Sha.V) (x0 x1 x2 x3 x4 x5 x6 x7 x8 x9 x10 x11 x12 x13 x14 x15 : Nat) (w : World) (hv : v.ok) (hb : ∀ x ∈ [x0, x1, x2, x3, x4, x5, x6, x7, x8, x9, x10, x11, x12, x13, x14, x15], x < 4294967296) (hK : KT w) :
    Calls Tryd.prog 100 #[.agg #[.int .u32 v.a, .int .u32 v.b, .int .u32 v.c, .int .u32 v.d, .int .u32 v.e, .int .u32 v.f, .int .u32 v.g, .int .u32 v.h], .agg #[.int .u32 x0, .int .u32 x1, .int .u32 x2, .int .u32 x3, .int .u32 x4, .int .u32 x5, .int .u32 x6, .int .u32 x7, .int .u32 x8, .int .u32 x9, .int .u32 x10, .int .u32 x11, .int .u32 x12, .int .u32 x13, .int .u32 x14, .int .u32 x15]] w fun e w' => e = .returned (.agg (vC (Sha.step v [x0, x1, x2, x3, x4, x5, x6, x7, x8, x9, x10, x11, x12, x13, x14, x15]))) ∧ Below w.heap.size w w' := by
  have HB := Lib.hid hb
  have HK := Lib.hid hK
  have HV := Lib.hid hv
  have HZ : Hid (0 < w.heap.size) := Lib.hid (by
    by_cases h : 0 < w.heap.size
    · exact h
    · have := hK 0 (by decide)
      unfold World.cell? at this
      rw [Array.getElem?_eq_none (by simp only at h ⊢; omega)] at this
      cases this)
  clear hb hK hv
  go_enter Tryd.func100, Tryd.ntmps100
  go_wp2
  go_quiet (fail)
  go_wp2
  go_loopw [7, 8, 9, 10, 11, 12, 13, 14, 42] (StepRel w v [x0, x1, x2, x3, x4, x5, x6, x7, x8, x9, x10, x11, x12, x13, x14, x15]) (fun _ _ _ _ _ _ _ _ i _ => 64 - (intOf i).toNat)
  case atStart =>
    obtain ⟨q0, q2, q3, qb⟩ := heap4 w _ _ _ _ nq
    exact ⟨0, by omega, rfl, rfl, rfl, rfl, rfl, rfl, rfl, rfl, rfl, q0, q2, q3, qb⟩
  case round =>
    have HBL : Hid ([x0, x1, x2, x3, x4, x5, x6, x7, x8, x9, x10, x11, x12, x13, x14, x15].length = 16) := Lib.hid rfl
    generalize hBe : [x0, x1, x2, x3, x4, x5, x6, x7, x8, x9, x10, x11, x12, x13, x14, x15] = B at *
    have HBe := Lib.hid hBe
    clear hBe
    obtain ⟨t, ht, rfl, rfl, rfl, rfl, rfl, rfl, rfl, rfl, rfl, hh0, hh2, hh3, hbl⟩ := hrel
    have hok := Sha.rounds_ok HV.out B t
    generalize hva : Sha.rounds v B t = V at *
    obtain ⟨a, b, c, d, e, f, g, h⟩ := V
    obtain ⟨ha, hb, hc, hd, he, hf, hg, hh⟩ := hok
    simp only at ha hb hc hd he hf hg hh
    have HVA := Lib.hid hva
    clear hva
    by_cases hlt : t < 64
    · by_cases h16 : 16 ≤ t
      · obtain ⟨j, e0, bj, hj⟩ := idx0 t
        obtain ⟨u15, j15, e15, q15, bj15, hj15⟩ := idx t 15 15 rfl h16 hlt (by decide)
        obtain ⟨u7, j7, e7, q7, bj7, hj7⟩ := idx t 7 7 rfl h16 hlt (by decide)
        obtain ⟨u2, j2, e2, q2, bj2, hj2⟩ := idx t 2 2 rfl h16 hlt (by decide)
        have hlen := Sha.ring_length B HBL.out t
        have cj := cell_bC hh3 j (by omega)
        have cj15 := cell_bC hh3 j15 (by omega)
        have cj7 := cell_bC hh3 j7 (by omega)
        have cj2 := cell_bC hh3 j2 (by omega)
        have lx := Sha.getD_lt _ (Sha.ring_lt B HB.out t) j
        have lx15 := Sha.getD_lt _ (Sha.ring_lt B HB.out t) j15
        have lx7 := Sha.getD_lt _ (Sha.ring_lt B HB.out t) j7
        have lx2 := Sha.getD_lt _ (Sha.ring_lt B HB.out t) j2
        generalize hX : (Sha.ring B t).getD j 0 = X at *
        generalize hX15 : (Sha.ring B t).getD j15 0 = X15 at *
        generalize hX7 : (Sha.ring B t).getD j7 0 = X7 at *
        generalize hX2 : (Sha.ring B t).getD j2 0 = X2 at *
        have Hj := Lib.hid hj
        have Hj15 := Lib.hid hj15
        have Hj7 := Lib.hid hj7
        have Hj2 := Lib.hid hj2
        have HX := Lib.hid hX
        have HX15 := Lib.hid hX15
        have HX7 := Lib.hid hX7
        have HX2 := Lib.hid hX2
        have Hlen := Lib.hid hlen
        have Hh0 := Lib.hid hh0
        have Hh2 := Lib.hid hh2
        have Hh3 := Lib.hid hh3
        have fz := fz_of hh3 j
        have z0 := s0_form X15 lx15
        have z1 := s1_form X2 lx2
        clear hj hj15 hj7 hj2 hX hX15 hX7 hX2 hlen hh0 hh2 hh3
        go_wp2
        go_quiet (fail)
        go_wp2_with (go_at_call 105; refine (turn_any _ _ _ (by unfold Turn; decide) (by assumption)).mono ?_; rintro e w' ⟨rfl, rfl⟩)
        go_region
        go_wp2
        obtain ⟨w1, hw1⟩ : ∃ w1, w1 = (wr.drewN (nq + 1)).setCell ⟨w.heap.size + 1 + 1 + 1, j, none⟩ (.int .u32 (((X : Int) + ((Sha.s1 X2 : Nat) + (X7 : Int) + (Sha.s0 X15 : Nat))) % 4294967296)) := ⟨_, rfl⟩
        have g3 : w1.heap[w.heap.size + 3]? = some (.cells (bC (Sha.ring B (t + 1))) 114 (0, 0)) := by
          rw [hw1]
          refine (heap_set (w := wr.drewN (nq + 1)) Hh3.out _).trans ?_
          have ev : ((X : Int) + ((Sha.s1 X2 : Nat) + (X7 : Int) + (Sha.s0 X15 : Nat))) % 4294967296 = (((X + (Sha.s1 X2 + X7 + Sha.s0 X15)) % 4294967296 : Nat) : Int) := by omega
          rw [ev, bC_set, Sha.ring, if_neg (by omega), ← Hj.out, ← Hj2.out, ← Hj7.out, ← Hj15.out, HX.out, HX2.out, HX7.out, HX15.out]
        have g0 : w1.heap[w.heap.size]? = some (.cells (vC v) 112 (0, 0)) := by rw [hw1]; exact (heap_far (w := wr.drewN (nq + 1)) (by omega) _).trans Hh0.out
        have g2 : w1.heap[w.heap.size + 2]? = some (.cells zC 112 (0, 0)) := by rw [hw1]; exact (heap_far (w := wr.drewN (nq + 1)) (by omega) _).trans Hh2.out
        have gb : Below w.heap.size w w1 := by rw [hw1]; exact (below_drewN hbl (nq + 1)).setCell (by simp; omega) _
        rw [← hw1]
        clear hw1 cj cj15 cj7 cj2 fz z0 z1 e15 e7 e2 q15 q7 q2 hbl HX HX15 HX7 HX2 Hh0 Hh2 Hh3 lx lx15 lx7 lx2 bj15 bj7 bj2 Hj15 Hj7 Hj2
        have Hlen' := Lib.hid (Sha.ring_length B HBL.out (t + 1))
        have cw := cell_bC g3 j (by rw [Hlen'.out]; exact bj)
        have lw := Sha.getD_lt _ (Sha.ring_lt B HB.out (t + 1)) j
        have ew : (Sha.ring B (t + 1)).getD j 0 = (Sha.ws B).getD t 0 := by rw [Hj.out]; exact Sha.ring_w B HBL.out t hlt
        rw [ew] at cw lw
        have ck : w1.cell? ⟨0, t, none⟩ = some (.int .u32 (Sha.K.getD t 0 : Nat)) := (gb.cell (by have := HZ.out; exact this)).trans (HK.out t hlt)
        have lk := Sha.K_lt t
        generalize hW : (Sha.ws B).getD t 0 = W at *
        generalize hKt : Sha.K.getD t 0 = kt at *
        have HW := Lib.hid hW
        have HKt := Lib.hid hKt
        have G0 := Lib.hid g0
        have G2 := Lib.hid g2
        have G3 := Lib.hid g3
        clear ew hW hKt g0 g2 g3
        go_wp2
        go_quiet ((go_at_call 105; exact quiet_left (turn_any _ _ _ (by unfold Turn; decide) (by assumption))))
        go_wp2_with (go_at_call 105; refine (turn_any _ _ _ (by unfold Turn; decide) (by assumption)).mono ?_; rintro e w' ⟨rfl, rfl⟩)
        refine ⟨?_, by simp [intOf]; omega⟩
        rw [t1_form _ _ _ _ _ _ he hf hg, t2_form _ _ _ ha hb hc]
        refine ⟨t + 1, by omega, by go_num, ?_, ?_, ?_, ?_, ?_, ?_, ?_, ?_, G0.out, G2.out, G3.out, below_drewN gb _⟩
        all_goals (rw [Sha.rounds_step v B HBL.out t hlt, HVA.out, HW.out, HKt.out]; rfl)
      · obtain ⟨j, e0, bj, hj⟩ := idx0 t
        have Hj := Lib.hid hj
        have g3 : wr.heap[w.heap.size + 3]? = some (.cells (bC (Sha.ring B (t + 1))) 114 (0, 0)) := by rw [Sha.ring, if_pos (by omega)]; exact hh3
        clear hj hh3
        have g0 := hh0
        have g2 := hh2
        have gb := hbl
        clear hh0 hh2 hbl
        have Hlen' := Lib.hid (Sha.ring_length B HBL.out (t + 1))
        have cw := cell_bC g3 j (by rw [Hlen'.out]; exact bj)
        have lw := Sha.getD_lt _ (Sha.ring_lt B HB.out (t + 1)) j
        have ew : (Sha.ring B (t + 1)).getD j 0 = (Sha.ws B).getD t 0 := by rw [Hj.out]; exact Sha.ring_w B HBL.out t hlt
        rw [ew] at cw lw
        have ck : wr.cell? ⟨0, t, none⟩ = some (.int .u32 (Sha.K.getD t 0 : Nat)) := (gb.cell (by have := HZ.out; exact this)).trans (HK.out t hlt)
        have lk := Sha.K_lt t
        generalize hW : (Sha.ws B).getD t 0 = W at *
        generalize hKt : Sha.K.getD t 0 = kt at *
        have HW := Lib.hid hW
        have HKt := Lib.hid hKt
        have G0 := Lib.hid g0
        have G2 := Lib.hid g2
        have G3 := Lib.hid g3
        clear ew hW hKt g0 g2 g3
        go_wp2
        go_quiet ((go_at_call 105; exact quiet_left (turn_any _ _ _ (by unfold Turn; decide) (by assumption))))
        go_wp2_with (go_at_call 105; refine (turn_any _ _ _ (by unfold Turn; decide) (by assumption)).mono ?_; rintro e w' ⟨rfl, rfl⟩)
        refine ⟨?_, by simp [intOf]; omega⟩
        rw [t1_form _ _ _ _ _ _ he hf hg, t2_form _ _ _ ha hb hc]
        refine ⟨t + 1, by omega, by go_num, ?_, ?_, ?_, ?_, ?_, ?_, ?_, ?_, G0.out, G2.out, G3.out, below_drewN gb _⟩
        all_goals (rw [Sha.rounds_step v B HBL.out t hlt, HVA.out, HW.out, HKt.out]; rfl)
    · obtain rfl : 64 = t := by omega
      have c0 := cell_of hh0 0
      have c1 := cell_of hh0 1
      have c2 := cell_of hh0 2
      have c3 := cell_of hh0 3
      have c4 := cell_of hh0 4
      have c5 := cell_of hh0 5
      have c6 := cell_of hh0 6
      have c7 := cell_of hh0 7
      have f0 := fz_of hh0 0
      have f1 := fz_of hh0 1
      have f2 := fz_of hh0 2
      have f3 := fz_of hh0 3
      have f4 := fz_of hh0 4
      have f5 := fz_of hh0 5
      have f6 := fz_of hh0 6
      have f7 := fz_of hh0 7
      have d0 := cell_of hh2 0
      have d1 := cell_of hh2 1
      have d2 := cell_of hh2 2
      have d3 := cell_of hh2 3
      have d4 := cell_of hh2 4
      have d5 := cell_of hh2 5
      have d6 := cell_of hh2 6
      have d7 := cell_of hh2 7
      have k0 := fz_of hh2 0
      have k1 := fz_of hh2 1
      have k2 := fz_of hh2 2
      have k3 := fz_of hh2 3
      have k4 := fz_of hh2 4
      have k5 := fz_of hh2 5
      have k6 := fz_of hh2 6
      have k7 := fz_of hh2 7
      clear hh0 hh2 hh3
      simp only [zC, List.getElem?_toArray, List.getElem?_cons_zero, List.getElem?_cons_succ] at d0 d1 d2 d3 d4 d5 d6 d7
      simp only [vC, List.getElem?_toArray, List.getElem?_cons_zero, List.getElem?_cons_succ] at c0 c1 c2 c3 c4 c5 c6 c7
      obtain ⟨i0, i1, i2, i3, i4, i5, i6, i7⟩ := index_8 (.int .u32 a) (.int .u32 b) (.int .u32 c) (.int .u32 d) (.int .u32 e) (.int .u32 f) (.int .u32 g) (.int .u32 h)
      go_wp2
      refine wp_loop_rounds 9 ?_
      iterate 9 (rw [rounds_succ]; go_wp2)
      have hs : Value.agg (vC (Sha.step v [x0, x1, x2, x3, x4, x5, x6, x7, x8, x9, x10, x11, x12, x13, x14, x15])) = .agg #[.int .u32 (((v.a : Int) + a) % 4294967296), .int .u32 (((v.b : Int) + b) % 4294967296), .int .u32 (((v.c : Int) + c) % 4294967296), .int .u32 (((v.d : Int) + d) % 4294967296), .int .u32 (((v.e : Int) + e) % 4294967296), .int .u32 (((v.f : Int) + f) % 4294967296), .int .u32 (((v.g : Int) + g) % 4294967296), .int .u32 (((v.h : Int) + h) % 4294967296)] := by
        rw [HBe.out]; unfold Sha.step; rw [HVA.out]; rfl
      rw [hs]
      refine bodyPost_ret (v := .agg #[.int .u32 (((v.a : Int) + a) % 4294967296), .int .u32 (((v.b : Int) + b) % 4294967296), .int .u32 (((v.c : Int) + c) % 4294967296), .int .u32 (((v.d : Int) + d) % 4294967296), .int .u32 (((v.e : Int) + e) % 4294967296), .int .u32 (((v.f : Int) + f) % 4294967296), .int .u32 (((v.g : Int) + g) % 4294967296), .int .u32 (((v.h : Int) + h) % 4294967296)]) (by simp [results, Tryd.results100, go_sem, d0, d1, d2, d3, d4, d5, d6, d7]) rfl ⟨rfl, ?_⟩
      repeat (refine Below.setCell ?_ (by simp; try omega) _)
      exact hbl

/-- WHAT Step TELLS. -/
theorem step_any (v : Sha.V) (B : List Nat) (w : World) (hl : B.length = 16) (hv : v.ok) (hb : ∀ x ∈ B, x < 4294967296) (hK : KT w) :
    Calls Tryd.prog 100 #[.agg (vC v), .agg (bC B)] w fun e w' => e = .returned (.agg (vC (Sha.step v B))) ∧ Below w.heap.size w w' := by
  match B, hl with
  | [x0, x1, x2, x3, x4, x5, x6, x7, x8, x9, x10, x11, x12, x13, x14, x15], _ => exact step_16 v x0 x1 x2 x3 x4 x5 x6 x7 x8 x9 x10 x11 x12 x13 x14 x15 w hv hb hK
end Go.Proofs.YtollcdalokhjaaaDoor
