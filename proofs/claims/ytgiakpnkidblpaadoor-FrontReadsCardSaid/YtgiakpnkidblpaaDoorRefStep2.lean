/-
  The document's own words on a block (scriniumref02): what its Step tells is what the program's tells.
-/
import Derived.Test.YtgiakpnkidblpaaDoorRefStep
import Derived.Test.YtgiakpnkidblpaaDoorShaSum
namespace Go.Proofs.YtgiakpnkidblpaaDoor
open Go.RowKit

/-- The blocks of the call: the state, the block, the result, the numbers K, the numbers W. -/
def Lay (w : World) (v : Sha.V) (B : List Nat) (q5 q6 : Nat) (L : List Nat) (wr : World) : Prop :=
  wr.heap[w.heap.size]? = some (.cells (bC v.list) 76 (0, 0)) ∧ wr.heap[w.heap.size + 1]? = some (.cells (bC B) 78 (0, 0)) ∧ wr.heap[w.heap.size + 2]? = some (.cells zC 76 (0, 0))
    ∧ wr.heap[q5]? = some (.cells (bC Sha.K) 100 (0, 0)) ∧ wr.heap[q6]? = some (.cells (bC L) 100 (0, 0)) ∧ Below w.heap.size w wr
/-- Ahead of number t. -/
def WsRel (w : World) (v : Sha.V) (B : List Nat) (q5 q6 : Nat) (st : Value) (wr : World) : Prop :=
  ∃ t : Nat, t ≤ 64 ∧ st = .int .i64 t ∧ Lay w v B q5 q6 ((Sha.ws B).take t ++ List.replicate (64 - t) 0) wr
/-- Ahead of round t: the state lies in block q. -/
def RoundRel (w : World) (v : Sha.V) (B : List Nat) (q5 q6 q : Nat) (st : Value) (wr : World) : Prop :=
  ∃ t : Nat, t ≤ 64 ∧ st = .int .i64 t ∧ Lay w v B q5 q6 (Sha.ws B) wr ∧ wr.heap[q]? = some (.cells (vC (Sha.rounds v B t)) 76 (0, 0))
/-- Ahead of number i of the sum. -/
def PlusRel (w : World) (v u : Sha.V) (q : Nat) (st : Value) (wr : World) : Prop :=
  ∃ i : Nat, i ≤ 8 ∧ st = .int .i64 i ∧ wr.heap[w.heap.size]? = some (.cells (bC v.list) 76 (0, 0)) ∧ wr.heap[w.heap.size + 2]? = some (.cells zC 76 (0, 0)) ∧ wr.heap[q]? = some (.cells (bC ((v.plus u).list.take i ++ u.list.drop i)) 76 (0, 0)) ∧ Below w.heap.size w wr
theorem plus_step (v u : Sha.V) (i : Nat) (h : i < 8) : ((v.plus u).list.take i ++ u.list.drop i).set i ((u.list.getD i 0 + v.list.getD i 0) % 4294967296) = (v.plus u).list.take (i + 1) ++ u.list.drop (i + 1) := by
  match i, h with
  | 0, _ | 1, _ | 2, _ | 3, _ | 4, _ | 5, _ | 6, _ | 7, _ => simp [Sha.V.list, Sha.V.plus, Nat.add_comm]
  | _ + 8, h => exact absurd h (by omega)
theorem plus_at (v u : Sha.V) (i : Nat) (h : i < 8) : ((v.plus u).list.take i ++ u.list.drop i).getD i 0 = u.list.getD i 0 ∧ ((v.plus u).list.take i ++ u.list.drop i).length = 8 := by
  match i, h with
  | 0, _ | 1, _ | 2, _ | 3, _ | 4, _ | 5, _ | 6, _ | 7, _ => exact ⟨rfl, rfl⟩
  | _ + 8, h => exact absurd h (by omega)

theorem t1_form2 (h e f g k w : Nat) (he : e < 4294967296) (hf : f < 4294967296) (hg : g < 4294967296) :
    (((h : Int) + bits .xor .u32 (bits .xor .u32 (Sha.rotr 6 e : Nat) (Sha.rotr 11 e : Nat)) (Sha.rotr 25 e : Nat) + bits .xor .u32 (bits .and .u32 (e : Nat) (f : Nat)) (bits .and .u32 (bits .xor .u32 (if IntKind.u32.signed = true then -1 else IntKind.u32.max) (e : Nat)) (g : Nat)) + (k : Int)) % 4294967296 + (w : Int)) % 4294967296 = (Sha.t1 h e f g k w : Nat) := by
  rw [Int.emod_add_emod]
  exact t1_form h e f g k w he hf hg
/-- The eight cells of a state, one by one, over another state. -/
theorem put8v {q : Nat} {w : World} (V u : Sha.V) (h : w.heap[q]? = some (.cells (vC V) 76 (0, 0))) : ((((((((w.setCell ⟨q, 0, none⟩ (.int .u32 u.a)).setCell ⟨q, 1, none⟩ (.int .u32 u.b)).setCell ⟨q, 2, none⟩ (.int .u32 u.c)).setCell ⟨q, 3, none⟩ (.int .u32 u.d)).setCell ⟨q, 4, none⟩ (.int .u32 u.e)).setCell ⟨q, 5, none⟩ (.int .u32 u.f)).setCell ⟨q, 6, none⟩ (.int .u32 u.g)).setCell ⟨q, 7, none⟩ (.int .u32 u.h)).heap[q]? = some (.cells (vC u) 76 (0, 0)) := by
  have := heap_setCells q 76 (vC u).toList 0 (vC V).toList w (by simp [vC]) h
  refine Eq.trans ?_ this |>.trans ?_
  · rfl
  · simp [vC]

set_option maxHeartbeats 8000000 in
set_option maxRecDepth 100000 in
theorem refStep_any (v : Sha.V) (B : List Nat) (w : World) (hl : B.length = 16) (hv : v.ok) (hb : ∀ x ∈ B, x < 4294967296) :
    Calls Tryd.prog 54 #[.agg (vC v), .agg (bC B)] w fun e w' => e = .returned (.agg (vC (Sha.step v B))) ∧ Below w.heap.size w w' := by
  have Hl := Lib.hid hl
  have Hb := Lib.hid hb
  have Hv := Lib.hid hv
  rw [vC_eq v]
  clear hl hb hv
  have hz := (zero_of_info info_w64).1
  go_enter Tryd.func54, Tryd.ntmps54
  go_upto_region 1 with (fail)
  obtain ⟨w0, hw0⟩ : ∃ w0, w0 = ((w.alloc (.cells (bC v.list) 76)).alloc (.cells (bC B) 78)).alloc (.cells zC 76) := ⟨_, rfl⟩
  have g2 : w0.heap[w.heap.size]? = some (.cells (bC v.list) 76 (0, 0)) := by rw [hw0]; exact (Below.heap_alloc _ _ _ (by simp; omega)).trans ((Below.heap_alloc _ _ _ (by simp)).trans (heap_alloc_last w _))
  have g3 : w0.heap[w.heap.size + 1]? = some (.cells (bC B) 78 (0, 0)) := by
    rw [hw0]
    have := heap_alloc_last (w.alloc (.cells (bC v.list) 76)) (.cells (bC B) 78)
    simp only [World.size_alloc] at this
    exact (Below.heap_alloc _ _ _ (by simp)).trans this
  have g4 : w0.heap[w.heap.size + 2]? = some (.cells zC 76 (0, 0)) := by
    rw [hw0]
    have := heap_alloc_last ((w.alloc (.cells (bC v.list) 76)).alloc (.cells (bC B) 78)) (.cells zC 76)
    simp only [World.size_alloc] at this
    exact this
  have b0 : Below w.heap.size w w0 := by rw [hw0]; exact (((Below.refl _ _).alloc (Nat.le_refl _) _).alloc (by simp) _).alloc (by simp; omega) _
  have s0 : w0.heap.size = w.heap.size + 3 := by rw [hw0]; simp
  change Code.wp _ _ _ _ (((w.alloc (.cells (bC v.list) 76)).alloc (.cells (bC B) 78)).alloc (.cells zC 76))
  rw [← hw0]
  have G2 := Lib.hid g2
  have G3 := Lib.hid g3
  have G4 := Lib.hid g4
  have S0 := Lib.hid s0
  clear hw0 g2 g3 g4 s0
  have hth : ∀ W : World, (W.alloc (.cells (bC z64) 100)).there W.heap.size 0 (bC Sha.K).size := fun W => by
    rw [bC_size, K_length]; exact there_of (l := z64.map u32V) (heap_alloc_last W _) (by simp [z64])
  have HTH := Lib.hid hth
  clear hth
  go_upto_region 2 with (first
    | (go_at_call 71; refine (keys_any _).mono ?_; rintro e w1 ⟨rfl, b1⟩)
    | refine wpList_store_mid rfl 100 (.tmp 5) (.tmp 19) rfl w1.heap.size 0 (bC Sha.K) rfl rfl (HTH.out w1) (w64_size K_length) (bC_one _) ?_)
  obtain ⟨w2, hw2⟩ : ∃ w2, w2 = (w1.alloc (.cells (bC z64) 100)).setCells w1.heap.size 0 (Sha.K.map u32V) := ⟨_, rfl⟩
  have b2 : Below w1.heap.size w1 w2 := by rw [hw2]; exact below_setCells (Nat.le_refl _) _ _ _ ((Below.refl _ _).alloc (Nat.le_refl _) _)
  have g5 : w2.heap[w1.heap.size]? = some (.cells (bC Sha.K) 100 (0, 0)) := by
    rw [hw2]; exact heap_setCells_all w1 (z64.map u32V) (Sha.K.map u32V) (by rw [List.length_map, List.length_map, K_length]; simp [z64])
  change Code.wp _ _ _ _ ((w1.alloc (.cells (bC z64) 100)).setCells w1.heap.size 0 (Sha.K.map u32V))
  rw [← hw2]
  have l5 : w1.heap.size < w2.heap.size := (Array.getElem?_eq_some_iff.1 g5).1
  have l1 : w.heap.size + 3 ≤ w1.heap.size := by have := S0.out; have := b1.size; omega
  have G5 := Lib.hid g5
  clear hw2 g5 HTH
  go_upto_region 3 with (fail)
  obtain ⟨w3, hw3⟩ : ∃ w3, w3 = w2.alloc (.cells (bC z64) 100) := ⟨_, rfl⟩
  have b3 : Below w2.heap.size w2 w3 := by rw [hw3]; exact (Below.refl _ _).alloc (Nat.le_refl _) _
  have g6 : w3.heap[w2.heap.size]? = some (.cells (bC z64) 100 (0, 0)) := by rw [hw3]; exact heap_alloc_last w2 _
  rw [← hw3]
  have bk : ∀ q, q < w.heap.size + 3 → w3.heap[q]? = w0.heap[q]? := fun q hq => (b3.block _ (by omega)).trans ((b2.block _ (by omega)).trans (b1.block _ (by have := S0.out; omega)))
  have lay0 : Lay w v B w1.heap.size w2.heap.size ((Sha.ws B).take 0 ++ List.replicate (64 - 0) 0) w3 := ⟨(bk _ (by omega)).trans G2.out, (bk _ (by omega)).trans G3.out, (bk _ (by omega)).trans G4.out, (b3.block _ l5).trans G5.out, g6, below_step (below_step (below_step b0 (Nat.le_refl _) b1) (Nat.le_refl _) b2) (Nat.le_refl _) b3⟩
  have LAY := Lib.hid lay0
  clear hw3 g6 bk lay0 hz G2 G3 G4 G5 b0 b1 b2 b3
  have l56 : w1.heap.size < w2.heap.size := l5
  clear l5
  generalize w1.heap.size = q5 at *
  generalize w2.heap.size = q6 at *
  go_wp2
  go_loopw [7] (WsRel w v B q5 q6) (fun i _ => 64 - (intOf i).toNat)
  case atStart => exact ⟨0, by omega, rfl, LAY.out⟩
  case round =>
    clear LAY
    obtain ⟨t, ht, rfl, g2, g3, g4, g5, g6, hbl⟩ := hrel
    by_cases hlt : t < 64
    · have hwl := Sha.ws_length B Hl.out
      by_cases h16 : t < 16
      · have ht64 : (t : Int) < 64 := by omega
        have ht16 : (t : Int) < 16 := by omega
        have cb := cell_bC g3 t (by rw [Hl.out]; exact h16)
        have cw := cell_bC g6 t (by rw [Sha.fill_length _ t 64 (by omega) hwl]; exact hlt)
        have fw := fz_of g6 t
        have st := Sha.fill_set (Sha.ws B) t 64 (by omega) hwl
        rw [Sha.ws_small B Hl.out t h16] at st
        generalize B.getD t 0 = x at *
        have H2 := Lib.hid g2
        have H3 := Lib.hid g3
        have H4 := Lib.hid g4
        have H5 := Lib.hid g5
        have H6 := Lib.hid g6
        have ST := Lib.hid st
        have HWL := Lib.hid hwl
        clear g2 g3 g4 g5 g6 st hwl
        go_wp2
        refine ⟨⟨t + 1, by omega, by go_num, (heap_far (by omega) _).trans H2.out, (heap_far (by omega) _).trans H3.out, (heap_far (by omega) _).trans H4.out, (heap_far (by omega) _).trans H5.out, ?_, hbl.setCell (by show w.heap.size ≤ q6; omega) _⟩, by simp [intOf]; omega⟩
        rw [heap_set H6.out, bC_set, ST.out]
      · obtain ⟨u2, e2, k2, hu2⟩ := sub_nat t 2 2 rfl (by omega) hlt
        obtain ⟨u7, e7, k7, hu7⟩ := sub_nat t 7 7 rfl (by omega) hlt
        obtain ⟨u15, e15, k15, hu15⟩ := sub_nat t 15 15 rfl (by omega) hlt
        obtain ⟨u16, e16, k16, hu16⟩ := sub_nat t 16 16 rfl (by omega) hlt
        have hlen := Sha.fill_length (Sha.ws B) t 64 (by omega) hwl
        have c2 := cell_bC g6 u2 (by omega)
        have c7 := cell_bC g6 u7 (by omega)
        have c15 := cell_bC g6 u15 (by omega)
        have c16 := cell_bC g6 u16 (by omega)
        have cw := cell_bC g6 t (by omega)
        rw [Sha.fill_at _ t 64 u2 (by omega) (by omega)] at c2
        rw [Sha.fill_at _ t 64 u7 (by omega) (by omega)] at c7
        rw [Sha.fill_at _ t 64 u15 (by omega) (by omega)] at c15
        rw [Sha.fill_at _ t 64 u16 (by omega) (by omega)] at c16
        have fw := fz_of g6 t
        have st := Sha.fill_set (Sha.ws B) t 64 (by omega) hwl
        rw [Sha.ws_big B Hl.out t (by omega) hlt, ← hu2, ← hu7, ← hu15, ← hu16] at st
        have lx2 := Sha.ws_lt B Hl.out Hb.out u2
        have lx7 := Sha.ws_lt B Hl.out Hb.out u7
        have lx15 := Sha.ws_lt B Hl.out Hb.out u15
        have lx16 := Sha.ws_lt B Hl.out Hb.out u16
        generalize (Sha.ws B).getD u2 0 = X2 at *
        generalize (Sha.ws B).getD u7 0 = X7 at *
        generalize (Sha.ws B).getD u15 0 = X15 at *
        generalize (Sha.ws B).getD u16 0 = X16 at *
        have z0 := s0_form X15 lx15
        have z1 := s1_form X2 lx2
        have bu2 : u2 < 64 := by omega
        have bu7 : u7 < 64 := by omega
        have bu15 : u15 < 64 := by omega
        have bu16 : u16 < 64 := by omega
        have H2 := Lib.hid g2
        have H3 := Lib.hid g3
        have H4 := Lib.hid g4
        have H5 := Lib.hid g5
        have H6 := Lib.hid g6
        have ST := Lib.hid st
        have HWL := Lib.hid hwl
        have HLEN := Lib.hid hlen
        clear g2 g3 g4 g5 g6 st hwl hlen hu2 hu7 hu15 hu16
        go_wp2_with (go_at_call 72; refine (rref_any _ _ _ (by unfold Turn; decide) (by assumption)).mono ?_; rintro e w' ⟨rfl, rfl⟩)
        go_region
        all_goals (
          go_wp2
          refine ⟨⟨t + 1, by omega, by go_num, (heap_far (w := wr) (by omega) _).trans H2.out, (heap_far (w := wr) (by omega) _).trans H3.out, (heap_far (w := wr) (by omega) _).trans H4.out, (heap_far (w := wr) (by omega) _).trans H5.out, ?_, ?_⟩, by simp [intOf]; omega⟩
          · refine (heap_set (w := wr) H6.out _).trans ?_
            have ev : ((Sha.s1 X2 : Nat) + (X7 : Int) + (Sha.s0 X15 : Nat) + (X16 : Int)) % 4294967296 = (((Sha.s1 X2 + X7 + Sha.s0 X15 + X16) % 4294967296 : Nat) : Int) := by omega
            rw [ev, bC_set, ST.out]
          · have := hbl.setCell (p := ⟨q6, t, none⟩) (by show w.heap.size ≤ q6; omega) (.int .u32 (((Sha.s1 X2 : Nat) + (X7 : Int) + (Sha.s0 X15 : Nat) + (X16 : Int)) % 4294967296))
            exact ⟨this.os, this.tape, this.output, this.size, this.block⟩)
    · obtain rfl : 64 = t := by omega
      have hwl := Sha.ws_length B Hl.out
      rw [List.take_of_length_le (by omega), Nat.sub_self, List.replicate_zero, List.append_nil] at g6
      have lay : Lay w v B q5 q6 (Sha.ws B) wr := ⟨g2, g3, g4, g5, g6, hbl⟩
      have LAY := Lib.hid lay
      have c0 := cell_of g2 0
      have c1 := cell_of g2 1
      have c2 := cell_of g2 2
      have c3 := cell_of g2 3
      have c4 := cell_of g2 4
      have c5 := cell_of g2 5
      have c6 := cell_of g2 6
      have c7 := cell_of g2 7
      simp only [← vC_eq, vC, List.getElem?_toArray, List.getElem?_cons_zero, List.getElem?_cons_succ] at c0 c1 c2 c3 c4 c5 c6 c7
      have hq : q6 < wr.heap.size := (Array.getElem?_eq_some_iff.1 g6).1
      clear g2 g3 g4 g5 g6 lay hlt ht
      go_upto_region 14 with (fail)
      obtain ⟨w4, hw4⟩ : ∃ w4, w4 = wr.alloc (.cells (vC v) 76) := ⟨_, rfl⟩
      have b4 : Below wr.heap.size wr w4 := by rw [hw4]; exact (Below.refl _ _).alloc (Nat.le_refl _) _
      have h4 : w4.heap[wr.heap.size]? = some (.cells (vC v) 76 (0, 0)) := by rw [hw4]; exact heap_alloc_last wr _
      have lay4 : Lay w v B q5 q6 (Sha.ws B) w4 := by
        obtain ⟨g2, g3, g4, g5, g6, gb⟩ := LAY.out
        exact ⟨(b4.block _ (by omega)).trans g2, (b4.block _ (by omega)).trans g3, (b4.block _ (by omega)).trans g4, (b4.block _ (by omega)).trans g5, (b4.block _ hq).trans g6, below_step gb (Nat.le_refl _) b4⟩
      change Code.wp _ _ _ _ (wr.alloc (.cells (vC v) 76))
      rw [← hw4]
      have LAY4 := Lib.hid lay4
      have H4 := Lib.hid h4
      clear hw4 lay4 h4 b4 c0 c1 c2 c3 c4 c5 c6 c7 LAY hbl
      generalize wr.heap.size = q at *
      clear wr
      simp only [Int.cast_ofNat_Int]
      go_wp2
      go_loopw [13] (RoundRel w v B q5 q6 q) (fun i _ => 64 - (intOf i).toNat)
      case atStart => exact ⟨0, by omega, rfl, LAY4.out, H4.out⟩
      case round =>
        clear LAY4 H4
        obtain ⟨t, ht, rfl, ⟨g2, g3, g4, g5, g6, hbl⟩, gq⟩ := hrel
        have hok := Sha.rounds_ok Hv.out B t
        have hstep := Sha.rounds_step v B Hl.out t
        generalize hva : Sha.rounds v B t = V at *
        by_cases hlt : t < 64
        · have HST := Lib.hid (hstep hlt)
          have c0 := cell_of gq 0
          have c1 := cell_of gq 1
          have c2 := cell_of gq 2
          have c3 := cell_of gq 3
          have c4 := cell_of gq 4
          have c5 := cell_of gq 5
          have c6 := cell_of gq 6
          have c7 := cell_of gq 7
          have f0 := fz_of gq 0
          have f1 := fz_of gq 1
          have f2 := fz_of gq 2
          have f3 := fz_of gq 3
          have f4 := fz_of gq 4
          have f5 := fz_of gq 5
          have f6 := fz_of gq 6
          have f7 := fz_of gq 7
          have ck := cell_bC g5 t (by rw [K_length]; exact hlt)
          have cw := cell_bC g6 t (by rw [Sha.ws_length B Hl.out]; exact hlt)
          have lk := Sha.K_lt t
          have lw := Sha.ws_lt B Hl.out Hb.out t
          simp only [vC, List.getElem?_toArray, List.getElem?_cons_zero, List.getElem?_cons_succ] at c0 c1 c2 c3 c4 c5 c6 c7
          have GQ := Lib.hid gq
          have H2 := Lib.hid g2
          have H3 := Lib.hid g3
          have H4 := Lib.hid g4
          have H5 := Lib.hid g5
          have H6 := Lib.hid g6
          have HVA := Lib.hid hva
          have ht64 : (t : Int) < 64 := by omega
          clear gq g2 g3 g4 g5 g6 hstep hva
          obtain ⟨a, b, c, d, e, f, g, y⟩ := V
          obtain ⟨ha, hb, hc, hd, he, hf, hg, hy⟩ := hok
          simp only at ha hb hc hd he hf hg hy c0 c1 c2 c3 c4 c5 c6 c7
          generalize (Sha.ws B).getD t 0 = W at *
          generalize Sha.K.getD t 0 = kt at *
          go_wp2
          go_quiet ((go_at_call 72; exact quiet_left (rref_any _ _ _ (by unfold Turn; decide) (by assumption))))
          go_upto_region 20 with (fail)
          rw [t1_form2 _ _ _ _ _ _ he hf hg]
          obtain ⟨T1, hT1⟩ : ∃ T1, T1 = Sha.t1 y e f g kt W := ⟨_, rfl⟩
          have lt1 : T1 < 4294967296 := by rw [hT1]; exact Nat.mod_lt _ (by decide)
          rw [← hT1]
          have HT1 := Lib.hid hT1
          clear hT1
          have HC : Hid (∀ k, k < wr.heap.size → (wr.drewN nq).heap[k]? = wr.heap[k]?) := Lib.hid fun _ _ => rfl
          have hb5 := below_drewN hbl nq
          rw [← cell_drewN wr nq] at c0 c1 c2 c3 c4 c5 c6 c7 ck cw
          rw [← frozen_drewN wr nq] at f0 f1 f2 f3 f4 f5 f6 f7
          have K2 : Hid ((wr.drewN nq).heap[w.heap.size]? = _) := Lib.hid H2.out
          have K3 : Hid ((wr.drewN nq).heap[w.heap.size + 1]? = _) := Lib.hid H3.out
          have K4 : Hid ((wr.drewN nq).heap[w.heap.size + 2]? = _) := Lib.hid H4.out
          have K5 : Hid ((wr.drewN nq).heap[q5]? = _) := Lib.hid H5.out
          have K6 : Hid ((wr.drewN nq).heap[q6]? = _) := Lib.hid H6.out
          have KQ : Hid ((wr.drewN nq).heap[q]? = _) := Lib.hid GQ.out
          clear H2 H3 H4 H5 H6 GQ HC hbl
          generalize wr.drewN nq = w5 at *
          go_wp2
          go_quiet ((go_at_call 72; exact quiet_left (rref_any _ _ _ (by unfold Turn; decide) (by assumption))))
          go_upto_region 21 with (fail)
          rw [t2_form _ _ _ ha hb hc]
          obtain ⟨T2, hT2⟩ : ∃ T2, T2 = Sha.t2 a b c := ⟨_, rfl⟩
          have lt2 : T2 < 4294967296 := by rw [hT2]; exact Nat.mod_lt _ (by decide)
          rw [← hT2]
          have HT2 := Lib.hid hT2
          clear hT2
          go_wp2
          have oo : Only q w5 ((((((((((w5.drewN nq).setCell ⟨q, 0, none⟩ (.int .u32 (((T1 : Int) + (T2 : Int)) % 4294967296))).setCell ⟨q, 1, none⟩ (.int .u32 a)).setCell ⟨q, 2, none⟩ (.int .u32 b)).setCell ⟨q, 3, none⟩ (.int .u32 c)).setCell ⟨q, 4, none⟩ (.int .u32 (((d : Int) + (T1 : Int)) % 4294967296))).setCell ⟨q, 5, none⟩ (.int .u32 e)).setCell ⟨q, 6, none⟩ (.int .u32 f)).setCell ⟨q, 7, none⟩ (.int .u32 g))) :=
            (((((((Only.setCell (b := q) (u := w5) (w := w5.drewN nq) ⟨rfl, rfl, rfl, Nat.le_refl _, fun _ _ _ => rfl⟩ 0 _).setCell 1 _).setCell 2 _).setCell 3 _).setCell 4 _).setCell 5 _).setCell 6 _).setCell 7 _
          have hq5 : q < w5.heap.size := (Array.getElem?_eq_some_iff.1 KQ.out).1
          refine ⟨⟨t + 1, by omega, by go_num, ⟨(oo.block _ (by omega) (by omega)).trans K2.out, (oo.block _ (by omega) (by omega)).trans K3.out, (oo.block _ (by omega) (by omega)).trans K4.out, (oo.block _ (by omega) (by omega)).trans K5.out, (oo.block _ (by omega) (by omega)).trans K6.out, hb5.trans (oo.below (by omega) hb5.size)⟩, ?_⟩, by simp [intOf]; omega⟩
          rw [HST.out]
          obtain rfl := HT1.out
          obtain rfl := HT2.out
          exact put8v (w := w5.drewN nq) _ (Sha.round ⟨a, b, c, d, e, f, g, y⟩ kt W) KQ.out
        · obtain rfl : 64 = t := by omega
          have HVA := Lib.hid hva
          have uok := hok
          have H2 := Lib.hid g2
          have H4 := Lib.hid g4
          have HQ := Lib.hid gq
          clear g2 g3 g4 g5 g6 gq hstep hva hok hlt ht
          have hqr : q < wr.heap.size := (Array.getElem?_eq_some_iff.1 HQ.out).1
          simp only [Int.cast_ofNat_Int]
          go_wp2
          go_loopw [18] (PlusRel w v V q) (fun i _ => 8 - (intOf i).toNat)
          case atStart => exact ⟨0, by omega, rfl, H2.out, H4.out, HQ.out, hbl⟩
          case round =>
            clear H2 H4 HQ hbl
            obtain ⟨i, hi, rfl, g2, g4, gq, hbl⟩ := hrel
            by_cases hlt : i < 8
            · obtain ⟨pa, pl⟩ := plus_at v V i hlt
              have cq := cell_bC gq i (by rw [pl]; exact hlt)
              rw [pa] at cq
              have cs := cell_bC g2 i (by exact hlt)
              have fq := fz_of gq i
              have st := plus_step v V i hlt
              have lx := list_lt V uok i
              have ly := list_lt v Hv.out i
              generalize V.list.getD i 0 = x at *
              generalize v.list.getD i 0 = z at *
              have hi8 : (i : Int) < 8 := by omega
              have H2 := Lib.hid g2
              have H4 := Lib.hid g4
              have HQ := Lib.hid gq
              have ST := Lib.hid st
              clear g2 g4 gq st pa pl
              go_wp2
              go_region
              all_goals (
                go_wp2
                refine ⟨⟨i + 1, by omega, by go_num, (heap_far (w := wr) (by omega) _).trans H2.out, (heap_far (w := wr) (by omega) _).trans H4.out, ?_, ?_⟩, by simp [intOf]; omega⟩
                · refine (heap_set (w := wr) HQ.out _).trans ?_
                  rw [show ((x : Int) + (z : Int)) % 4294967296 = (((x + z) % 4294967296 : Nat) : Int) by omega, bC_set, ST.out]
                · have := hbl.setCell (p := ⟨q, i, none⟩) (by show w.heap.size ≤ q; omega) (.int .u32 (((x : Int) + (z : Int)) % 4294967296))
                  exact ⟨this.os, this.tape, this.output, this.size, this.block⟩)
            · obtain rfl : 8 = i := by omega
              have hst : (v.plus V) = Sha.step v B := by unfold Sha.step; rw [HVA.out]
              have gq' : wr.heap[q]? = some (.cells (vC (Sha.step v B)) 76 (0, 0)) := by rw [gq, ← hst]; rfl
              obtain ⟨S, hS⟩ : ∃ S, S = Sha.step v B := ⟨_, rfl⟩
              rw [← hS] at gq'
              have HS := Lib.hid hS
              clear hS
              have c0 := cell_of gq' 0
              have c1 := cell_of gq' 1
              have c2 := cell_of gq' 2
              have c3 := cell_of gq' 3
              have c4 := cell_of gq' 4
              have c5 := cell_of gq' 5
              have c6 := cell_of gq' 6
              have c7 := cell_of gq' 7
              simp only [vC, List.getElem?_toArray, List.getElem?_cons_zero, List.getElem?_cons_succ] at c0 c1 c2 c3 c4 c5 c6 c7
              obtain ⟨m0, m1, m2, m3, m4, m5, m6, m7, n0, n1, n2, n3, n4, n5, n6, n7⟩ := z8 g4
              have G4 := Lib.hid g4
              clear g2 g4 gq gq' hst
              go_wp2
              have hp8 := put8 S G4.out
              have hr8 : ((((((((wr.setCell ⟨w.heap.size + 2, 0, none⟩ (.int .u32 S.a)).setCell ⟨w.heap.size + 2, 1, none⟩ (.int .u32 S.b)).setCell ⟨w.heap.size + 2, 2, none⟩ (.int .u32 S.c)).setCell ⟨w.heap.size + 2, 3, none⟩ (.int .u32 S.d)).setCell ⟨w.heap.size + 2, 4, none⟩ (.int .u32 S.e)).setCell ⟨w.heap.size + 2, 5, none⟩ (.int .u32 S.f)).setCell ⟨w.heap.size + 2, 6, none⟩ (.int .u32 S.g)).setCell ⟨w.heap.size + 2, 7, none⟩ (.int .u32 S.h)).rangeAt (w.heap.size + 2) 0 (S.list.map u32V) := fun j x hx => by rw [Nat.zero_add, cell_of hp8, vC_eq]; simpa [bC] using hx
              refine bodyPost_ret (v := .agg (vC S)) (results_cell (t := 4) (ty := 76) (b := w.heap.size + 2) (cs := S.list.map u32V) rfl _ _ _ rfl hr8 Tryd.underlying76 rfl (by kernel_rfl)) rfl ⟨by rw [HS.out], ?_⟩
              exact (((((((hbl.setCell (by show w.heap.size ≤ w.heap.size + 2; omega) _).setCell (by show w.heap.size ≤ w.heap.size + 2; omega) _).setCell (by show w.heap.size ≤ w.heap.size + 2; omega) _).setCell (by show w.heap.size ≤ w.heap.size + 2; omega) _).setCell (by show w.heap.size ≤ w.heap.size + 2; omega) _).setCell (by show w.heap.size ≤ w.heap.size + 2; omega) _).setCell (by show w.heap.size ≤ w.heap.size + 2; omega) _).setCell (by show w.heap.size ≤ w.heap.size + 2; omega) _
end Go.Proofs.YtgiakpnkidblpaaDoor
