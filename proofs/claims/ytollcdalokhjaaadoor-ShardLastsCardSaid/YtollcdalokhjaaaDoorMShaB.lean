/-
  Several texts in one (ShaHStep, ShaWrite, ShaSum, ShaOf, ShaAwake, ShaOneA).
-/
import Derived.Test.YtollcdalokhjaaaDoorMShaA
import Derived.Test.YtollcdalokhjaaaDoorShaStep
import Derived.Deep.RegionWith
import Derived.Deep.Cut
import Derived.Deep.RegionLaw
/-! ## Package sha: what the method step of a hash does: the block, which is full, goes into the state. -/
namespace Go.Proofs.YtollcdalokhjaaaDoor
open Go.RowKit

theorem Cells.state {p : Nat} {v : Sha.V} {b : List UInt8} {n : Nat} {w : World} (h : Cells p v b n w) :
    w.cell? ⟨p, 0, none⟩ = some (.int .u32 v.a) ∧ w.cell? ⟨p, 1, none⟩ = some (.int .u32 v.b) ∧ w.cell? ⟨p, 2, none⟩ = some (.int .u32 v.c) ∧ w.cell? ⟨p, 3, none⟩ = some (.int .u32 v.d)
    ∧ w.cell? ⟨p, 4, none⟩ = some (.int .u32 v.e) ∧ w.cell? ⟨p, 5, none⟩ = some (.int .u32 v.f) ∧ w.cell? ⟨p, 6, none⟩ = some (.int .u32 v.g) ∧ w.cell? ⟨p, 7, none⟩ = some (.int .u32 v.h) :=
  ⟨h.at 0, h.at 1, h.at 2, h.at 3, h.at 4, h.at 5, h.at 6, h.at 7⟩
theorem Cells.block {p : Nat} {v : Sha.V} {b : List UInt8} {n : Nat} {w : World} (h : Cells p v b n w) : w.rangeAt p 8 (b.map u8V) := fun j x hx => by
  rw [h.at]
  have hj : j < (b.map u8V).length := (List.getElem?_eq_some_iff.1 hx).1
  rw [hL, List.getElem?_append_right (by simp [Sha.V.list]), List.getElem?_append_left (by simp [Sha.V.list] at hj ⊢; omega)]
  simpa [Sha.V.list] using hx
theorem Cells.pos {p : Nat} {v : Sha.V} {b : List UInt8} {n : Nat} {w : World} (h : Cells p v b n w) (hK : KT w) : p ≠ 0 := by
  rintro rfl
  have h1 := hK 63 (by decide)
  have hb := h.1
  rw [h.at] at h1
  simp [hL, Sha.V.list, u8V, hb] at h1
theorem KT.only {w w' : World} {p : Nat} (hK : KT w) (h : Only p w w') (hp : p ≠ 0) : KT w' := fun i hi => (h.cell hK.pos (fun e => hp e.symm)).trans (hK i hi)
theorem Cells.setState {p : Nat} {v u : Sha.V} {b : List UInt8} {n : Nat} {w : World} (h : Cells p v b n w) (hu : u.ok) : Cells p u b n (w.setCells p 0 (vC u).toList) := by
  refine ⟨h.1, hu, ?_⟩
  have hb := h.1
  rw [heap_setCells p 127 _ 0 (hL v b n) w (by rw [hL_length v b n h.1]; simp [vC]) h.2.2]
  simp [hL, vC, Sha.V.list, u32V]

theorem info_44 : (Tryd.prog.info? 125).map (·.size) = some 64 := by kernel_rfl
theorem info_23 : (Tryd.prog.info? 112).map (·.size) = some 8 := by kernel_rfl
theorem index_44 (b : List UInt8) (hb : b.length = 64) (i : Nat) (hi : i < 64) (w : World) : (Instr.index 125 (.agg (b.map u8V).toArray) (.int .i64 (i : Int))).run Tryd.prog w = .ok (.int .u8 ((b.getD i 0).toNat : Int)) w :=
  run_index_agg w Tryd.underlying125 (by kernel_rfl) (by kernel_rfl) (by kernel_rfl) hi (by simp [u8V, hb, hi])
theorem or_form (a : Nat) (x : UInt8) (ha : a < 16777216) : bits .or .u32 ((a : Int) * 256) ((x.toNat : Int) % 4294967296) = ((a * 256 + x.toNat : Nat) : Int) := by
  have hx : x.toNat < 256 := x.toNat_lt
  have := u32_or_nat (a * 256 % 4294967296) x.toNat (Nat.mod_lt _ (by decide)) (by omega)
  rw [Sha.or_byte a x.toNat ha hx] at this
  rw [← this]
  congr 1 <;> omega

theorem Only.setNew {b q : Nat} {u w : World} (h : Only b u w) (hq : u.heap.size ≤ q) (o : Nat) (v : Value) : Only b u (w.setCell ⟨q, o, none⟩ v) :=
  ⟨h.os, h.tape, h.output, by simpa [World.setCell] using h.size, fun k hk hb => (Below.heap_setCell _ _ _ _ (show k ≠ q by omega)).trans (h.block k hk hb)⟩
theorem KT.drew {w : World} (h : KT w) : KT w.drew := fun i hi => by simpa using h i hi
theorem step_16e (v : Sha.V) (x0 x1 x2 x3 x4 x5 x6 x7 x8 x9 x10 x11 x12 x13 x14 x15 : Nat) (u : Sha.V) (hu : u = Sha.step v [x0, x1, x2, x3, x4, x5, x6, x7, x8, x9, x10, x11, x12, x13, x14, x15]) (w : World) (hv : v.ok) (hb : ∀ x ∈ [x0, x1, x2, x3, x4, x5, x6, x7, x8, x9, x10, x11, x12, x13, x14, x15], x < 4294967296) (hK : KT w) :
    Calls Tryd.prog 100 #[.agg #[.int .u32 v.a, .int .u32 v.b, .int .u32 v.c, .int .u32 v.d, .int .u32 v.e, .int .u32 v.f, .int .u32 v.g, .int .u32 v.h], .agg #[.int .u32 x0, .int .u32 x1, .int .u32 x2, .int .u32 x3, .int .u32 x4, .int .u32 x5, .int .u32 x6, .int .u32 x7, .int .u32 x8, .int .u32 x9, .int .u32 x10, .int .u32 x11, .int .u32 x12, .int .u32 x13, .int .u32 x14, .int .u32 x15]] w fun e w' => e = .returned (.agg #[.int .u32 u.a, .int .u32 u.b, .int .u32 u.c, .int .u32 u.d, .int .u32 u.e, .int .u32 u.f, .int .u32 u.g, .int .u32 u.h]) ∧ Below w.heap.size w w' := by
  subst hu
  exact step_16 v x0 x1 x2 x3 x4 x5 x6 x7 x8 x9 x10 x11 x12 x13 x14 x15 w hv hb hK
theorem list16 (l : List Nat) (h : l.length = 16) : ∃ x0 x1 x2 x3 x4 x5 x6 x7 x8 x9 x10 x11 x12 x13 x14 x15, l = [x0, x1, x2, x3, x4, x5, x6, x7, x8, x9, x10, x11, x12, x13, x14, x15] := by
  match l, h with
  | [x0, x1, x2, x3, x4, x5, x6, x7, x8, x9, x10, x11, x12, x13, x14, x15], _ => exact ⟨x0, x1, x2, x3, x4, x5, x6, x7, x8, x9, x10, x11, x12, x13, x14, x15, rfl⟩
/-- The cells of a state, one by one, in a world in which they lie in block p. -/
theorem Cells.put8 {p : Nat} {v u : Sha.V} {b : List UInt8} {n : Nat} {w : World} (h : Cells p v b n w) (hu : u.ok) : Cells p u b n ((((((((w.setCell ⟨p, 0, none⟩ (.int .u32 u.a)).setCell ⟨p, 1, none⟩ (.int .u32 u.b)).setCell ⟨p, 2, none⟩ (.int .u32 u.c)).setCell ⟨p, 3, none⟩ (.int .u32 u.d)).setCell ⟨p, 4, none⟩ (.int .u32 u.e)).setCell ⟨p, 5, none⟩ (.int .u32 u.f)).setCell ⟨p, 6, none⟩ (.int .u32 u.g)).setCell ⟨p, 7, none⟩ (.int .u32 u.h)) := h.setState hu

/-- What step comes to, out of a world in which the state is v (the start, if the block is the first one). -/
def StepPost (p : Nat) (v : Sha.V) (b : List UInt8) (n : Nat) (w : World) (e : Ending) (w' : World) : Prop := e = .returned (.tuple #[]) ∧ Cells p (Sha.step v (Sha.words b)) b n w' ∧ Only p w w'

/-- Ahead of byte i of the block. -/
def WordRel (p nb : Nat) (v : Sha.V) (b : List UInt8) (n : Nat) (w : World) (s : Value) (wr : World) : Prop :=
  ∃ i : Nat, i ≤ 64 ∧ s = .int .i64 i ∧ wr.heap[nb]? = some (.cells (bC (Sha.parts b i)) 114 (0, 0)) ∧ Cells p v b n wr ∧ Only p w wr

set_option maxHeartbeats 1000000 in
set_option maxRecDepth 100000 in
theorem hstep_on (p : Nat) (v : Sha.V) (b : List UInt8) (n : Nat) (w : World) (h : Cells p v b n w) (hK : KT w) (hn : n ≠ 64) (_ : n < 9223372036854775808) :
    Calls Tryd.prog 92 #[.pointer (some ⟨p, 0, none⟩)] w (StepPost p v b n w) := by
  have hs := h.size
  have hne : ((n : Int) == 64) = false := by simp; omega
  have hr := World.rangeAt_alloc h.block (.cells (bC (Sha.parts b 0)) 114)
  have hb := h.1
  have hI : (Tryd.prog.info? 125).map (·.size) = some (b.map u8V).length := by rw [List.length_map, hb]; exact info_44
  have HI := Lib.hid hI
  have HR := Lib.hid hr
  have Hb := Lib.hid hb
  clear hI hr hb
  rw [Sha.parts_zero] at HR
  go_enter Tryd.func92, Tryd.ntmps92
  go_wp2_with (first
    | refine wpList_load_mid rfl 125 (.tmp 16) rfl p 8 rfl (b.map u8V) _ HR.out Tryd.underlying125 rfl HI.out ?_)
  go_loopw [18] (WordRel p w.heap.size v b n w) (fun i _ => 64 - (intOf i).toNat)
  case atStart =>
    have hbw : Below w.heap.size w (w.alloc (.cells (bC [0, 0, 0, 0, 0, 0, 0, 0, 0, 0, 0, 0, 0, 0, 0, 0]) 114)) := (Below.refl _ _).alloc (Nat.le_refl _) _
    refine ⟨0, by omega, rfl, ?_, h.old hbw h.lt, Only.of_below hbw⟩
    rw [Sha.parts_zero]
    exact heap_alloc_last w _
  case round =>
    obtain ⟨i, hi, rfl, hh, hc, ho⟩ := hrel
    by_cases hlt : i < 64
    · have hx := index_44 b Hb.out i hlt
      obtain ⟨q, hq⟩ : ∃ q, q = i / 4 := ⟨_, rfl⟩
      have e4 : (i : Int) / 4 = (q : Int) := by omega
      have cq := cell_bC hh q (by rw [Sha.parts_length]; omega)
      have fq := fz_of hh q
      have sq : (Sha.parts b i).getD q 0 < 16777216 := by rw [Sha.parts_getD b i q (by omega), hq]; exact Sha.part_small b i
      have ps := Sha.parts_step b i (by rw [Hb.out]; exact hlt) hlt
      rw [← hq] at ps
      generalize (Sha.parts b i).getD q 0 = W at *
      generalize b.getD i 0 = x at *
      have eo := or_form W x sq
      have bq : q < 16 := by omega
      have Hq := Lib.hid hq
      have HP := Lib.hid ps
      have HH := Lib.hid hh
      clear hq ps hh
      go_wp2
      refine ⟨?_, by simp [intOf]; omega⟩
      refine ⟨i + 1, by omega, by go_num, ?_, ?_, ?_⟩
      · rw [heap_set HH.out, show (W : Int) * 256 + (x.toNat : Int) = ((W * 256 + x.toNat : Nat) : Int) by omega, bC_set, HP.out]
      · exact hc.kept ((Only.refl w.heap.size wr).setCell q _) (by have := h.lt; omega)
      · exact ho.setNew (Nat.le_refl _) _ _
    · obtain rfl : 64 = i := by omega
      rw [Sha.parts_all] at hh
      obtain ⟨c0, c1, c2, c3, c4, c5, c6, c7⟩ := hc.state
      have hKr := hK.only ho (h.pos hK)
      have hwl := Sha.words_lt b
      obtain ⟨y0, y1, y2, y3, y4, y5, y6, y7, y8, y9, y10, y11, y12, y13, y14, y15, hy⟩ := list16 (Sha.words b) (Sha.words_length b)
      rw [hy] at hh hwl
      have d0 := cell_bC hh 0 (by simp)
      have d1 := cell_bC hh 1 (by simp)
      have d2 := cell_bC hh 2 (by simp)
      have d3 := cell_bC hh 3 (by simp)
      have d4 := cell_bC hh 4 (by simp)
      have d5 := cell_bC hh 5 (by simp)
      have d6 := cell_bC hh 6 (by simp)
      have d7 := cell_bC hh 7 (by simp)
      have d8 := cell_bC hh 8 (by simp)
      have d9 := cell_bC hh 9 (by simp)
      have d10 := cell_bC hh 10 (by simp)
      have d11 := cell_bC hh 11 (by simp)
      have d12 := cell_bC hh 12 (by simp)
      have d13 := cell_bC hh 13 (by simp)
      have d14 := cell_bC hh 14 (by simp)
      have d15 := cell_bC hh 15 (by simp)
      simp only [List.getD_cons_zero, List.getD_cons_succ] at d0 d1 d2 d3 d4 d5 d6 d7 d8 d9 d10 d11 d12 d13 d14 d15
      obtain ⟨u, hu⟩ : ∃ u, u = Sha.step v [y0, y1, y2, y3, y4, y5, y6, y7, y8, y9, y10, y11, y12, y13, y14, y15] := ⟨_, rfl⟩
      have uok : u.ok := by rw [hu]; exact Sha.step_ok _ _
      have hlr : p < wr.heap.size := hc.lt
      have HU := Lib.hid hu
      have HY := Lib.hid hy
      have HKr := Lib.hid hKr
      have HWL := Lib.hid hwl
      clear hh hu hy hKr hwl
      go_wp2
      go_region_with (go_at_call 100; refine (step_16e v y0 y1 y2 y3 y4 y5 y6 y7 y8 y9 y10 y11 y12 y13 y14 y15 u HU.out _ hc.2.1 HWL.out HKr.out.drew).mono ?_; rintro e w3 ⟨rfl, hb3⟩; have hc3 : Cells p v b n w3 := Cells.old (w := wr) (B := wr.heap.size) hc ⟨hb3.os, hb3.tape, hb3.output, hb3.size, hb3.block⟩ hlr; obtain ⟨k0, k1, k2, k3, k4, k5, k6, k7⟩ := hc3.state; have f0 := hc3.fz 0; have f1 := hc3.fz 1; have f2 := hc3.fz 2; have f3 := hc3.fz 3; have f4 := hc3.fz 4; have f5 := hc3.fz 5; have f6 := hc3.fz 6; have f7 := hc3.fz 7)
      all_goals (
        go_end0
        have o3 : Only p wr w3 := Only.of_below ⟨hb3.os, hb3.tape, hb3.output, hb3.size, hb3.block⟩
        refine ⟨rfl, ?_, ((((((((ho.trans o3).setCell 0 _).setCell 1 _).setCell 2 _).setCell 3 _).setCell 4 _).setCell 5 _).setCell 6 _).setCell 7 _⟩
        rw [HY.out, ← HU.out]
        exact hc3.put8 uok)

theorem start_e (w : World) : Calls Tryd.prog 99 #[] w fun e w' => e = .returned (.agg #[.int .u32 1779033703, .int .u32 3144134277, .int .u32 1013904242, .int .u32 2773480762, .int .u32 1359893119, .int .u32 2600822924, .int .u32 528734635, .int .u32 1541459225]) ∧ Below w.heap.size w w' := start_any w

set_option maxHeartbeats 1000000 in
set_option maxRecDepth 100000 in
theorem hstep_64 (p : Nat) (v : Sha.V) (b : List UInt8) (w : World) (h : Cells p v b 64 w) (hK : KT w) :
    Calls Tryd.prog 92 #[.pointer (some ⟨p, 0, none⟩)] w (StepPost p Sha.start b 64 w) := by
  have hs : w.cell? ⟨p, 72, none⟩ = some (.int .i64 64) := h.size
  have hb := h.1
  have hI : (Tryd.prog.info? 125).map (·.size) = some (b.map u8V).length := by rw [List.length_map, hb]; exact info_44
  have HI := Lib.hid hI
  have Hb := Lib.hid hb
  clear hI hb
  go_enter Tryd.func92, Tryd.ntmps92
  go_upto_region 2 with (first
    | (go_at_call 99; refine (start_e _).mono ?_; rintro e w1 ⟨rfl, b1⟩; have c1 := h.old b1 h.lt; obtain ⟨k0, k1, k2, k3, k4, k5, k6, k7⟩ := c1.state; have f0 := c1.fz 0; have f1 := c1.fz 1; have f2 := c1.fz 2; have f3 := c1.fz 3; have f4 := c1.fz 4; have f5 := c1.fz 5; have f6 := c1.fz 6; have f7 := c1.fz 7))
  obtain ⟨w2, hw2⟩ : ∃ w2, w2 = ((((((((w1.setCell ⟨p, 0, none⟩ (.int .u32 1779033703)).setCell ⟨p, 1, none⟩ (.int .u32 3144134277)).setCell ⟨p, 2, none⟩ (.int .u32 1013904242)).setCell ⟨p, 3, none⟩ (.int .u32 2773480762)).setCell ⟨p, 4, none⟩ (.int .u32 1359893119)).setCell ⟨p, 5, none⟩ (.int .u32 2600822924)).setCell ⟨p, 6, none⟩ (.int .u32 528734635)).setCell ⟨p, 7, none⟩ (.int .u32 1541459225)) := ⟨_, rfl⟩
  have c2 : Cells p Sha.start b 64 w2 := by rw [hw2]; exact c1.put8 Sha.start_ok
  have o2 : Only p w w2 := by rw [hw2]; exact (((((((((Only.of_below b1 : Only p w w1).setCell 0 _).setCell 1 _).setCell 2 _).setCell 3 _).setCell 4 _).setCell 5 _).setCell 6 _).setCell 7 _)
  rw [← hw2]
  clear hw2 k0 k1 k2 k3 k4 k5 k6 k7 f0 f1 f2 f3 f4 f5 f6 f7 c1 b1
  have hr := World.rangeAt_alloc c2.block (.cells (bC (Sha.parts b 0)) 114)
  rw [Sha.parts_zero] at hr
  have HR := Lib.hid hr
  clear hr
  go_wp2_with (first
    | refine wpList_load_mid rfl 125 (.tmp 16) rfl p 8 rfl (b.map u8V) _ HR.out Tryd.underlying125 rfl HI.out ?_)
  go_loopw [18] (WordRel p w2.heap.size Sha.start b 64 w2) (fun i _ => 64 - (intOf i).toNat)
  case atStart =>
    have hbw : Below w2.heap.size w2 (w2.alloc (.cells (bC [0, 0, 0, 0, 0, 0, 0, 0, 0, 0, 0, 0, 0, 0, 0, 0]) 114)) := (Below.refl _ _).alloc (Nat.le_refl _) _
    refine ⟨0, by omega, rfl, ?_, c2.old hbw c2.lt, Only.of_below hbw⟩
    rw [Sha.parts_zero]
    exact heap_alloc_last w2 _
  case round =>
    obtain ⟨i, hi, rfl, hh, hc, ho⟩ := hrel
    by_cases hlt : i < 64
    · have hx := index_44 b Hb.out i hlt
      obtain ⟨q, hq⟩ : ∃ q, q = i / 4 := ⟨_, rfl⟩
      have e4 : (i : Int) / 4 = (q : Int) := by omega
      have cq := cell_bC hh q (by rw [Sha.parts_length]; omega)
      have fq := fz_of hh q
      have sq : (Sha.parts b i).getD q 0 < 16777216 := by rw [Sha.parts_getD b i q (by omega), hq]; exact Sha.part_small b i
      have ps := Sha.parts_step b i (by rw [Hb.out]; exact hlt) hlt
      rw [← hq] at ps
      generalize (Sha.parts b i).getD q 0 = W at *
      generalize b.getD i 0 = x at *
      have eo := or_form W x sq
      have bq : q < 16 := by omega
      have Hq := Lib.hid hq
      have HP := Lib.hid ps
      have HH := Lib.hid hh
      clear hq ps hh
      go_wp2
      refine ⟨?_, by simp [intOf]; omega⟩
      refine ⟨i + 1, by omega, by go_num, ?_, ?_, ?_⟩
      · rw [heap_set HH.out, show (W : Int) * 256 + (x.toNat : Int) = ((W * 256 + x.toNat : Nat) : Int) by omega, bC_set, HP.out]
      · exact hc.kept ((Only.refl w2.heap.size wr).setCell q _) (by have := c2.lt; omega)
      · exact ho.setNew (Nat.le_refl _) _ _
    · obtain rfl : 64 = i := by omega
      rw [Sha.parts_all] at hh
      obtain ⟨c0, c1, c2, c3, c4, c5, c6, c7⟩ := hc.state
      have hKr := (hK.only o2 (h.pos hK)).only ho (h.pos hK)
      have hwl := Sha.words_lt b
      obtain ⟨y0, y1, y2, y3, y4, y5, y6, y7, y8, y9, y10, y11, y12, y13, y14, y15, hy⟩ := list16 (Sha.words b) (Sha.words_length b)
      rw [hy] at hh hwl
      have d0 := cell_bC hh 0 (by simp)
      have d1 := cell_bC hh 1 (by simp)
      have d2 := cell_bC hh 2 (by simp)
      have d3 := cell_bC hh 3 (by simp)
      have d4 := cell_bC hh 4 (by simp)
      have d5 := cell_bC hh 5 (by simp)
      have d6 := cell_bC hh 6 (by simp)
      have d7 := cell_bC hh 7 (by simp)
      have d8 := cell_bC hh 8 (by simp)
      have d9 := cell_bC hh 9 (by simp)
      have d10 := cell_bC hh 10 (by simp)
      have d11 := cell_bC hh 11 (by simp)
      have d12 := cell_bC hh 12 (by simp)
      have d13 := cell_bC hh 13 (by simp)
      have d14 := cell_bC hh 14 (by simp)
      have d15 := cell_bC hh 15 (by simp)
      simp only [List.getD_cons_zero, List.getD_cons_succ] at d0 d1 d2 d3 d4 d5 d6 d7 d8 d9 d10 d11 d12 d13 d14 d15
      obtain ⟨u, hu⟩ : ∃ u, u = Sha.step Sha.start [y0, y1, y2, y3, y4, y5, y6, y7, y8, y9, y10, y11, y12, y13, y14, y15] := ⟨_, rfl⟩
      have uok : u.ok := by rw [hu]; exact Sha.step_ok _ _
      have hlr : p < wr.heap.size := hc.lt
      have HU := Lib.hid hu
      have HY := Lib.hid hy
      have HKr := Lib.hid hKr
      have HWL := Lib.hid hwl
      clear hh hu hy hKr hwl
      go_wp2
      go_region_with (go_at_call 100; refine (step_16e Sha.start y0 y1 y2 y3 y4 y5 y6 y7 y8 y9 y10 y11 y12 y13 y14 y15 u HU.out _ hc.2.1 HWL.out HKr.out.drew).mono ?_; rintro e w3 ⟨rfl, hb3⟩; have hc3 : Cells p Sha.start b 64 w3 := Cells.old (w := wr) (B := wr.heap.size) hc ⟨hb3.os, hb3.tape, hb3.output, hb3.size, hb3.block⟩ hlr; obtain ⟨k0, k1, k2, k3, k4, k5, k6, k7⟩ := hc3.state; have f0 := hc3.fz 0; have f1 := hc3.fz 1; have f2 := hc3.fz 2; have f3 := hc3.fz 3; have f4 := hc3.fz 4; have f5 := hc3.fz 5; have f6 := hc3.fz 6; have f7 := hc3.fz 7)
      all_goals (
        go_end0
        have o3 : Only p wr w3 := Only.of_below ⟨hb3.os, hb3.tape, hb3.output, hb3.size, hb3.block⟩
        refine ⟨rfl, ?_, ((((((((o2.trans (ho.trans o3)).setCell 0 _).setCell 1 _).setCell 2 _).setCell 3 _).setCell 4 _).setCell 5 _).setCell 6 _).setCell 7 _⟩
        rw [HY.out, ← HU.out]
        exact hc3.put8 uok)

/-- WHAT step DOES. -/
theorem hstep_any (p : Nat) (v : Sha.V) (b : List UInt8) (n : Nat) (w : World) (h : Cells p v b n w) (hK : KT w) (hn : n < 9223372036854775808) :
    Calls Tryd.prog 92 #[.pointer (some ⟨p, 0, none⟩)] w (StepPost p (if n = 64 then Sha.start else v) b n w) := by
  by_cases e : n = 64
  · subst e; rw [if_pos rfl]; exact hstep_64 p v b w h hK
  · rw [if_neg e]; exact hstep_on p v b n w h hK e hn
end Go.Proofs.YtollcdalokhjaaaDoor
/-! ## Package sha: what Write of a hash does, for every text. -/
namespace Go.Proofs.YtollcdalokhjaaaDoor
open Go.RowKit

theorem len_44 : Tryd.prog.arrayLen 125 = 64 := by kernel_rfl
theorem elem_44 : Tryd.prog.elem 125 = 5 := by kernel_rfl
theorem slice_44 (p j : Nat) (hj : j < 64) (w : World) : (Instr.sliceAt 125 (.pointer (some ⟨p, 8, none⟩)) (some (.int .i64 (j : Int))) none none).run Tryd.prog w = .ok (.slice (some ⟨p, 8 + j, none⟩) (64 - j) (64 - j)) w := by
  rw [run_sliceAt_array_l w 125 _ (by rw [len_44, elem_44]; exact Tryd.underlying125) .i64 (j : Int) (by omega) (by rw [len_44]; omega), elem_44, size_u8, len_44]
  simp only [Result.andThen, slicedAt, Int.toNat_natCast, Nat.mul_one]
  rw [if_neg (by omega), Addr.add_mid]

/-- Ahead of a round: what was written, and the rest. -/
def WriteRel (p : Nat) (s t : List UInt8) (w : World) (sr : Value) (wr : World) : Prop :=
  ∃ k : Nat, ∃ R : ByteArray, k ≤ t.length ∧ sr = .string R ∧ R.data.toList = t.drop k ∧ IsHash p (s ++ t.take k) wr ∧ Only p w wr

theorem write_nil (t : ByteArray) (w : World) : Calls Tryd.prog 76 #[.pointer none, .string t] w fun e w' => e = .returned (.int .i64 0) ∧ w = w' := by
  go_enter Tryd.func76, Tryd.ntmps76
  go_wp2
  go_ret
  exact ⟨rfl, rfl⟩

set_option maxHeartbeats 1000000 in
set_option maxRecDepth 100000 in
theorem write_any (p : Nat) (s : List UInt8) (T : ByteArray) (t : List UInt8) (hT : T.data.toList = t) (w : World) (h : IsHash p s w) (hK : KT w) (hlen : s.length + t.length < 1152921504606846976) :
    Calls Tryd.prog 76 #[.pointer (some ⟨p, 0, none⟩), .string T] w fun e w' => e = .returned (.int .i64 t.length) ∧ IsHash p (s ++ t) w' ∧ Only p w w' := by
  have hsz : T.size = t.length := by rw [← hT]; exact Lib.size_eq T
  have HT := Lib.hid hT
  have HSZ := Lib.hid hsz
  clear hT hsz
  go_enter Tryd.func76, Tryd.ntmps76
  go_wp2
  go_loopw [5] (WriteRel p s t w) (fun r _ => match r with | .string R => R.size | _ => 0)
  case atStart => exact ⟨0, T, by omega, rfl, HT.out, by simpa using h, Only.refl _ _⟩
  case round =>
    obtain ⟨k, R, hk, rfl, hR, hh, ho⟩ := hrel
    have hRs : R.size = t.length - k := by have := congrArg List.length hR; rw [← Lib.size_eq, List.length_drop] at this; exact this
    by_cases hlt : k < t.length
    · obtain ⟨v, b, hc, hs, hv⟩ := hh
      obtain ⟨S, hS⟩ : ∃ S, S = s ++ t.take k := ⟨_, rfl⟩
      rw [← hS] at hc hs hv
      have hSl : S.length = s.length + k := by rw [hS, List.length_append, List.length_take]; omega
      obtain ⟨n, hn⟩ : ∃ n, n = S.length := ⟨_, rfl⟩
      rw [← hn] at hc
      obtain ⟨j, hj⟩ : ∃ j, j = n % 64 := ⟨_, rfl⟩
      obtain ⟨m, hm⟩ : ∃ m, m = min R.size (64 - j) := ⟨_, rfl⟩
      have bj : j < 64 := by omega
      have bm : 0 < m := by omega
      have bn : n < 1152921504606846976 := by omega
      have e1 : (n : Int) % 64 = (j : Int) := by omega
      have e2 : (n : Int).tmod 64 = (j : Int) := by rw [Int.tmod_eq_emod_of_nonneg (by omega)]; omega
      have c72 := hc.size
      have hR0 : 0 < R.size := by omega
      obtain ⟨hne, hem⟩ : ¬ R.toList = [] ∧ R.toList.isEmpty = false := toList_ne hR0
      have HHn := Lib.hid hn
      have HHj := Lib.hid hj
      have HHm := Lib.hid hm
      have HHS := Lib.hid hS
      have HHR := Lib.hid hR
      have HHs := Lib.hid hs
      have HHv := Lib.hid hv
      have HSl := Lib.hid hSl
      have HRs := Lib.hid hRs
      clear hn hj hm hS hR hs hv hSl hRs
      have HCH := Lib.hid hc.2.2
      have hsl := slice_44 p j bj
      have hfit : 8 + j + m ≤ (hL v b n).length := by rw [hL_length v b n hc.1]; have := HHm.out; omega
      have hmin : Nat.min R.size (64 - j) = m := HHm.out.symm
      have HFIT := Lib.hid hfit
      have HMIN := Lib.hid hmin
      clear hfit hmin
      go_wp2
      go_region_law (
        (refine step_copy_str rfl (.tmp 20) (.tmp 21) 110 9 rfl 5 Tryd.underlying110 size_u8 p (8 + j) (64 - j) (64 - j) rfl R rfl m HMIN.out (hL v b n) 127 HCH.out HFIT.out ?_)
        intro w1 hw1 o1)
      obtain ⟨r, hr⟩ : ∃ r, r = R.data.toList.take m := ⟨_, rfl⟩
      have hmR : m ≤ R.size := by have := HHm.out; omega
      have hrl : r.length = m := by rw [hr, List.length_take, ← Lib.size_eq]; omega
      have hjm : j + r.length ≤ 64 := by rw [hrl]; have := HHm.out; omega
      have c1 : Cells p v (spl b j r) n w1 := by
        refine ⟨spl_length b j r hc.1 hjm, hc.2.1, ?_⟩
        rw [hw1, ← hr, hL_splice v b n j r hc.1 hjm]
      have o1' : Only p w w1 := ho.trans ⟨o1.os, o1.tape, o1.output, o1.size, o1.block⟩
      have hp0 : p ≠ 0 := by obtain ⟨_, _, hx, _⟩ := h; exact hx.pos hK
      have c2 : Cells p v (spl b j r) (n + m) (w1.setCell ⟨p, 72, none⟩ (.int .i64 ((n : Int) + (m : Int)))) := c1.setSize (n + m)
      have o2 : Only p w (w1.setCell ⟨p, 72, none⟩ (.int .i64 ((n : Int) + (m : Int)))) := o1'.setCell 72 _
      have hK2 := hK.only o2 hp0
      have k72 := c1.size
      have f72 := c1.fz 72
      have hnext : s ++ t.take (k + m) = (s ++ t.take k) ++ r := by
        rw [hr, HHR.out, List.append_assoc, ← List.take_add]
      have hmt : k + m ≤ t.length := by have := HRs.out; omega
      have hRd : (R.extract m R.size).data.toList = t.drop (k + m) := by
        rw [Lib.extract_eq, HHR.out, List.drop_drop]
        rw [List.take_of_length_le (by rw [List.length_drop]; have := HRs.out; omega)]
      have hms : (R.extract m R.size).size < R.size := by rw [ByteArray.size_extract]; omega
      have bnm : n + m < 9223372036854775808 := by have := HHn.out; have := HSl.out; omega
      have HR := Lib.hid hr
      have HRL := Lib.hid hrl
      have HW1 := Lib.hid hw1
      have HNX := Lib.hid hnext
      have HRD := Lib.hid hRd
      have HC2 := Lib.hid c2
      have HMS := Lib.hid hms
      clear hr hrl hw1 hnext hRd c72 hsl e2 hms
      by_cases hful : j + m = 64
      · have ht0 : (((n : Int) + (m : Int)) % 64 == 0) = true := by have := HHj.out; simp; omega
        go_wp2_with (first
          | (go_at_call 92; refine (hstep_any p v (spl b j r) (n + m) _ HC2.out hK2 bnm).mono ?_; rintro e w3 ⟨rfl, h3, o3⟩))
        go_roundw
        case rel =>
          refine ⟨k + m, R.extract m R.size, hmt, rfl, HRD.out, ?_, o2.trans o3⟩
          rw [HNX.out, ← HHS.out]
          have hnl := HHn.out
          have hjl := HHj.out
          have hrl := HRL.out
          rw [hnl] at hjl
          refine isHash_full HHs.out HHv.out hc.1 (by omega) ?_
          rw [← hjl, ← hnl, hrl]
          exact h3
        case measure => exact HMS.out
      · have ht0 : (((n : Int) + (m : Int)) % 64 == 0) = false := by have := HHj.out; have := HHm.out; simp; omega
        go_wp2
        go_roundw
        case rel =>
          refine ⟨k + m, R.extract m R.size, hmt, rfl, HRD.out, ?_, o2⟩
          rw [HNX.out, ← HHS.out]
          have hnl := HHn.out
          have hjl := HHj.out
          have hrl := HRL.out
          have hml := HHm.out
          rw [hnl] at hjl
          refine isHash_more HHs.out HHv.out hc.1 (by omega) ?_
          rw [← hjl, ← hnl, hrl]
          exact HC2.out
        case measure => exact HMS.out
    · obtain rfl : t.length = k := by omega
      have hR0 : R.size = 0 := by omega
      have hne : R.toList = [] := toList_nil hR0
      rw [List.take_length] at hh
      have hszT : (T.size : Int) = t.length := by rw [HSZ.out]
      clear hR hRs hR0
      go_wp2
      go_ret
      exact ⟨rfl, hh, ho⟩
end Go.Proofs.YtollcdalokhjaaaDoor
/-! ## Package sha: what Sum of a hash tells; Of, of any parts. -/
namespace Go.Proofs.YtollcdalokhjaaaDoor
open Go.RowKit

theorem bytes_at (v : Sha.V) (i : Nat) (h : i < 32) : v.bytes.getD i 0 = UInt8.ofNat (v.list.getD (i / 4) 0 / 2 ^ (24 - 8 * (i % 4))) := by
  match i, h with
  | 0, _ | 1, _ | 2, _ | 4, _ | 5, _ | 6, _ | 8, _ | 9, _ | 10, _ | 12, _ | 13, _ | 14, _ | 16, _ | 17, _ | 18, _ | 20, _ | 21, _ | 22, _ | 24, _ | 25, _ | 26, _ | 28, _ | 29, _ | 30, _ => rfl
  | 3, _ => exact congrArg UInt8.ofNat (Nat.div_one v.a).symm
  | 7, _ => exact congrArg UInt8.ofNat (Nat.div_one v.b).symm
  | 11, _ => exact congrArg UInt8.ofNat (Nat.div_one v.c).symm
  | 15, _ => exact congrArg UInt8.ofNat (Nat.div_one v.d).symm
  | 19, _ => exact congrArg UInt8.ofNat (Nat.div_one v.e).symm
  | 23, _ => exact congrArg UInt8.ofNat (Nat.div_one v.f).symm
  | 27, _ => exact congrArg UInt8.ofNat (Nat.div_one v.g).symm
  | 31, _ => exact congrArg UInt8.ofNat (Nat.div_one v.h).symm
  | _ + 32, h => exact absurd h (by omega)
theorem Cells.word {p : Nat} {v : Sha.V} {b : List UInt8} {n : Nat} {w : World} (h : Cells p v b n w) (i : Nat) (hi : i < 8) : w.cell? ⟨p, i, none⟩ = some (.int .u32 (v.list.getD i 0 : Nat)) := by
  rw [h.at, hL, List.getElem?_append_left (by simpa [Sha.V.list] using hi)]
  have : i < v.list.length := hi
  simp [u32V, this]
theorem list_lt (v : Sha.V) (h : v.ok) (i : Nat) : v.list.getD i 0 < 4294967296 := by
  refine Sha.getD_lt _ ?_ i
  obtain ⟨h1, h2, h3, h4, h5, h6, h7, h8⟩ := h
  simp only [Sha.V.list, List.mem_cons, List.not_mem_nil, or_false]
  rintro x (rfl | rfl | rfl | rfl | rfl | rfl | rfl | rfl) <;> assumption

theorem sum_step (v : Sha.V) (i : Nat) (h : i < 32) : (((v.bytes.take i ++ List.replicate (32 - i) 0).map u8V).toArray).setIfInBounds i (.int .u8 ((v.bytes.getD i 0).toNat : Int)) = ((v.bytes.take (i + 1) ++ List.replicate (32 - (i + 1)) 0).map u8V).toArray := by
  have hl := Sha.bytes_length v
  rw [List.setIfInBounds_toArray]
  congr 1
  rw [show (Value.int .u8 ((v.bytes.getD i 0).toNat : Int)) = u8V (v.bytes.getD i 0) from rfl, ← List.map_set, List.set_append_right _ _ (by rw [List.length_take]; omega), List.length_take, Nat.min_eq_left (by omega), Nat.sub_self, List.take_succ_eq_append_getElem (by omega), show 32 - i = (32 - (i + 1)) + 1 by omega, List.replicate_succ, List.set_cons_zero]
  congr 1
  rw [List.append_assoc]
  have e : v.bytes.getD i 0 = v.bytes[i] := by rw [List.getD_eq_getElem?_getD, List.getElem?_eq_getElem (by omega)]; rfl
  rw [e]
  rfl
/-- Ahead of byte i of the hash. -/
def SumRel (z q q2 : Nat) (v : Sha.V) (b : List UInt8) (n : Nat) (w : World) (si : Value) (wr : World) : Prop :=
  ∃ i : Nat, i ≤ 32 ∧ si = .int .i64 i ∧ wr.heap[q2]? = some (.cells ((v.bytes.take i ++ List.replicate (32 - i) 0).map u8V).toArray 33 (0, 0)) ∧ Cells q v b n wr
    ∧ wr.heap[z]? = some (.cells ((List.replicate 32 (0 : UInt8)).map u8V).toArray 33 (0, 0)) ∧ Below w.heap.size w wr

set_option maxHeartbeats 1000000 in
set_option maxRecDepth 100000 in
theorem sum_any (p : Nat) (s : List UInt8) (w : World) (h : IsHash p s w) (hK : KT w) (hlen : s.length < 576460752303423488) :
    Calls Tryd.prog 77 #[.pointer (some ⟨p, 0, none⟩)] w fun e w' => e = .returned (sumV (Sha.digest s)) ∧ Below w.heap.size w w' := by
  go_enter Tryd.func77, Tryd.ntmps77
  go_upto_region 1 with (fail)
  obtain ⟨w0, hw0⟩ : ∃ w0, w0 = w.alloc (.cells #[.int .u8 0, .int .u8 0, .int .u8 0, .int .u8 0, .int .u8 0, .int .u8 0, .int .u8 0, .int .u8 0, .int .u8 0, .int .u8 0, .int .u8 0, .int .u8 0, .int .u8 0, .int .u8 0, .int .u8 0, .int .u8 0, .int .u8 0, .int .u8 0, .int .u8 0, .int .u8 0, .int .u8 0, .int .u8 0, .int .u8 0, .int .u8 0, .int .u8 0, .int .u8 0, .int .u8 0, .int .u8 0, .int .u8 0, .int .u8 0, .int .u8 0, .int .u8 0] 33) := ⟨_, rfl⟩
  have b0 : Below w.heap.size w w0 := by rw [hw0]; exact (Below.refl _ _).alloc (Nat.le_refl _) _
  have z0 : w0.heap[w.heap.size]? = some (.cells ((List.replicate 32 (0 : UInt8)).map u8V).toArray 33 (0, 0)) := by rw [hw0]; exact heap_alloc_last w _
  have s0 : w0.heap.size = w.heap.size + 1 := by rw [hw0]; exact World.size_alloc ..
  rw [← hw0]
  have h0 := h.old b0 h.lt
  have hK0 := hK.old b0
  obtain ⟨v, b, hc, hs, hv⟩ := h0
  have hz := (zero_of_info info_hash0).1
  have hl := hL_length v b s.length hc.1
  have hI : (Tryd.prog.info? 127).map (·.size) = some (hL v b s.length).length := by rw [hl]; exact info_hash
  have hI2 : (Tryd.prog.info? 127).map (·.size) = some (hL v b s.length).toArray.size := by rw [List.size_toArray]; exact hI
  have HR := Lib.hid hc.range
  have ht : (w0.alloc (.cells (hL zV zB 0).toArray 127)).there w0.heap.size 0 (hL v b s.length).toArray.size := by
    rw [show (hL v b s.length).toArray.size = 73 from (List.size_toArray).trans hl]; exact there_new _ zL_length
  have HI := Lib.hid hI
  have HI2 := Lib.hid hI2
  have HT := Lib.hid ht
  have Hs := Lib.hid hs
  have Hv := Lib.hid hv
  have Hl := Lib.hid hl
  have Hz0 := Lib.hid z0
  have Hs0 := Lib.hid s0
  clear hI hI2 ht hs hv hl hw0 z0 s0
  go_upto_region 4 with (first
    | refine wpList_load_mid rfl 127 (.tmp 10) rfl p 0 rfl (hL v b s.length) _ HR.out Tryd.underlying127 rfl HI.out ?_
    | refine wpList_store_mid rfl 127 (.tmp 3) (.tmp 11) rfl w0.heap.size 0 (hL v b s.length).toArray rfl rfl HT.out HI2.out (hL_one v b s.length) ?_)
  obtain ⟨w1, hw1⟩ : ∃ w1, w1 = (w0.alloc (.cells (hL zV zB 0).toArray 127)).setCells w0.heap.size 0 (hL v b s.length) := ⟨_, rfl⟩
  have b1 : Below w0.heap.size w0 w1 := by rw [hw1]; exact below_setCells (Nat.le_refl _) _ _ _ ((Below.refl _ _).alloc (Nat.le_refl _) _)
  have c1 : Cells w0.heap.size v b s.length w1 := by
    refine ⟨hc.1, hc.2.1, ?_⟩
    rw [hw1, heap_setCells_all w0 _ _ (by rw [zL_length, Hl.out])]
  have i1 : IsHash w0.heap.size s w1 := ⟨v, b, c1, Hs.out, Hv.out⟩
  have k72 := (hc.old b1 hc.lt).size
  have hK1 := hK0.old b1
  rw [← hw1]
  clear hw1 hz
  have hlE : s.length + (Sha.endL s.length).length < 1152921504606846976 := by rw [Sha.endL_length]; unfold Sha.zeros; omega
  have HlE := Lib.hid hlE
  clear hlE
  go_upto_region 5 with (first
    | (go_at_call 93; refine (ending_any s.length _ (by omega)).mono ?_; rintro e w2 ⟨rfl, b2⟩; have i2 := i1.old b2 i1.lt; have hK2 := hK1.old b2)
    | (go_at_call 76; refine (write_any w0.heap.size s ⟨(Sha.endL s.length).toArray⟩ (Sha.endL s.length) rfl _ i2 hK2 HlE.out).mono ?_; rintro e w3 ⟨rfl, i3, o3⟩))
  obtain ⟨V, B, c3, _, hV3⟩ := i3
  have hdig : V.bytes = Sha.digest s := by
    have hp := Sha.full_pos s
    unfold Sha.digest
    rw [hV3 hp]
    rfl
  have b3 : Below w.heap.size w w3 := by
    have q1 := below_step b0 (Nat.le_refl _) b1
    have q2 := below_step q1 (Nat.le_refl _) b2
    exact q2.trans (o3.below (by have := Hs0.out; omega) q2.size)
  have z3 : w3.heap[w.heap.size]? = some (.cells ((List.replicate 32 (0 : UInt8)).map u8V).toArray 33 (0, 0)) := by
    have hlt : w.heap.size < w0.heap.size := by have := Hs0.out; omega
    have q1 := (b1.block _ hlt).trans Hz0.out
    have q2 := (b2.block _ (Nat.lt_of_lt_of_le hlt b1.size)).trans q1
    exact (o3.block _ (Nat.lt_of_lt_of_le hlt (Nat.le_trans b1.size b2.size)) (by omega)).trans q2
  have HDIG := Lib.hid hdig
  have Z3 := Lib.hid z3
  have hq3 : w0.heap.size < w3.heap.size := c3.lt
  have Vok := c3.2.1
  clear hdig z3 hV3 HR HI HI2 HT Hs Hv Hl Hz0 k72 b1 b2 i1 i2 c1
  generalize (s ++ Sha.endL s.length).length = N3 at c3
  go_wp2
  go_loopw [18] (SumRel w.heap.size w0.heap.size w3.heap.size V B N3 w) (fun i _ => 32 - (intOf i).toNat)
  case atStart =>
    have hba : Below w3.heap.size w3 (w3.alloc (.cells ((List.replicate 32 (0 : UInt8)).map u8V).toArray 33)) := (Below.refl _ _).alloc (Nat.le_refl _) _
    exact ⟨0, by omega, rfl, heap_alloc_last w3 _, c3.old hba hq3, (hba.block _ (by have := Hs0.out; omega)).trans Z3.out, below_step b3 (Nat.le_refl _) hba⟩
  case round =>
    obtain ⟨i, hi, rfl, hh, hci, hzi, hbi⟩ := hrel
    by_cases hlt : i < 32
    · obtain ⟨q, hq⟩ : ∃ q, q = i / 4 := ⟨_, rfl⟩
      obtain ⟨r, hr⟩ : ∃ r, r = i % 4 := ⟨_, rfl⟩
      have e4 : (i : Int) / 4 = (q : Int) := by omega
      have er : (i : Int) % 4 = (r : Int) := by omega
      have bq : q < 8 := by omega
      have br : r < 4 := by omega
      have cw := hci.word q bq
      have lw := list_lt V Vok q
      have ey := bytes_at V i hlt
      rw [← hq, ← hr] at ey
      generalize V.list.getD q 0 = x at *
      have hst := sum_step V i hlt
      generalize V.bytes.getD i 0 = y at *
      have ev : (x : Int) / 2 ^ (24 - 8 * r) % 256 = (y.toNat : Int) := by
        rw [ey, UInt8.toNat_ofNat']
        simp
      have ci : wr.cell? ⟨w3.heap.size, i, none⟩ = some (.int .u8 0) := by
        have hbl := Sha.bytes_length V
        rw [cell_of hh, List.getElem?_toArray, List.getElem?_map, List.getElem?_append_right (by rw [List.length_take]; omega), List.length_take, Nat.min_eq_left (by omega), Nat.sub_self, List.getElem?_replicate, if_pos (by omega)]
        rfl
      have fi := fz_of hh i
      have HST := Lib.hid hst
      have HH := Lib.hid hh
      have HZI := Lib.hid hzi
      have hq' := Lib.hid hq
      have hr' := Lib.hid hr
      have hey' := Lib.hid ey
      clear hst hh hq hr ey hzi
      go_wp2
      have hlt0 : w.heap.size < w0.heap.size := by have := Hs0.out; omega
      refine ⟨⟨i + 1, by omega, by go_num, (heap_set HH.out _).trans (by rw [HST.out]), hci.kept ((Only.refl w3.heap.size wr).setCell i _) (by omega), (heap_far (by omega) _).trans HZI.out, hbi.setCell (by show w.heap.size ≤ w3.heap.size; omega) _⟩, by simp [intOf]; omega⟩
    · obtain rfl : 32 = i := by omega
      have hbl := Sha.bytes_length V
      rw [List.take_of_length_le (by omega), Nat.sub_self, List.replicate_zero, List.append_nil, HDIG.out] at hh
      rw [HDIG.out] at hbl
      obtain ⟨D, hD⟩ : ∃ D, D = Sha.digest s := ⟨_, rfl⟩
      rw [← hD] at hh hbl
      have HD := Lib.hid hD
      clear hD
      have hI : (Tryd.prog.info? 33).map (·.size) = some (D.map u8V).length := by rw [List.length_map, hbl]; exact info_sum
      have hI2 : (Tryd.prog.info? 33).map (·.size) = some (D.map u8V).toArray.size := by rw [List.size_toArray]; exact hI
      have hR : wr.rangeAt w3.heap.size 0 (D.map u8V) := fun j x hx => by rw [Nat.zero_add, cell_of hh]; simpa using hx
      have hT : wr.there w.heap.size 0 (D.map u8V).toArray.size := by rw [show (D.map u8V).toArray.size = 32 from (List.size_toArray).trans (by rw [List.length_map, hbl])]; exact there_of hzi (by simp)
      have hO : (D.map u8V).toArray.all (·.oneCell') = true := all_oneCell_toArray (fun x hx => by obtain ⟨_, _, rfl⟩ := List.mem_map.1 hx; rfl)
      have HI := Lib.hid hI
      have HI2 := Lib.hid hI2
      have HR := Lib.hid hR
      have HT := Lib.hid hT
      have HO := Lib.hid hO
      have HBL := Lib.hid hbl
      have HZI := Lib.hid hzi
      clear hI hI2 hR hT hO hbl hh hzi HDIG
      go_wp2_with (first
        | refine wpList_load_mid rfl 33 (.tmp 4) rfl w3.heap.size 0 rfl (D.map u8V) _ HR.out Tryd.underlying33 rfl HI.out ?_
        | refine wpList_store_mid rfl 33 (.tmp 2) (.tmp 35) rfl w.heap.size 0 (D.map u8V).toArray rfl rfl HT.out HI2.out HO.out ?_)
      have hfin : (wr.setCells w.heap.size 0 (D.map u8V)).rangeAt w.heap.size 0 (D.map u8V) := World.rangeAt_setCells_same wr w.heap.size 0 _ (by have := HT.out; rwa [List.size_toArray] at this)
      refine bodyPost_ret (v := sumV D) (results_cell (t := 2) (ty := 33) (b := w.heap.size) (cs := D.map u8V) rfl _ _ _ rfl hfin Tryd.underlying33 rfl HI.out) rfl ⟨by rw [HD.out], below_setCells (Nat.le_refl _) _ _ _ hbi⟩
end Go.Proofs.YtollcdalokhjaaaDoor
/-! ## Package sha: what Of tells of any parts; Sum of no hash. -/
namespace Go.Proofs.YtollcdalokhjaaaDoor
open Go.RowKit

theorem sum_info' {D : List UInt8} (h : D.length = 32) : (Tryd.prog.info? 33).map (·.size) = some (D.map u8V).length := by rw [List.length_map, h]; exact info_sum
theorem sum_info {D : List UInt8} (h : D.length = 32) : (Tryd.prog.info? 33).map (·.size) = some (D.map u8V).toArray.size := by rw [List.size_toArray]; exact sum_info' h
theorem sum_one (D : List UInt8) : (D.map u8V).toArray.all (·.oneCell') = true := all_oneCell_toArray (fun x hx => by obtain ⟨_, _, rfl⟩ := List.mem_map.1 hx; rfl)
theorem sum_there {D : List UInt8} {w : World} {p : Nat} (hz : w.heap[p]? = some (.cells ((List.replicate 32 (0 : UInt8)).map u8V).toArray 33 (0, 0))) (h : D.length = 32) : w.there p 0 (D.map u8V).toArray.size := by
  rw [show (D.map u8V).toArray.size = 32 from (List.size_toArray).trans (by rw [List.length_map, h])]; exact there_of hz (by simp)
theorem sum_range {D : List UInt8} {w : World} {p : Nat} (hz : w.heap[p]? = some (.cells ((List.replicate 32 (0 : UInt8)).map u8V).toArray 33 (0, 0))) (h : D.length = 32) : (w.setCells p 0 (D.map u8V)).rangeAt p 0 (D.map u8V) :=
  World.rangeAt_setCells_same w p 0 _ (by have := sum_there hz h; rwa [List.size_toArray] at this)

/-- Ahead of part k. -/
def OfRel (q : Nat) (ts : List ByteArray) (w1 : World) (si : Value) (wr : World) : Prop :=
  ∃ k : Nat, k ≤ ts.length ∧ si = .int .i64 k ∧ IsHash q (flat (ts.take k)) wr ∧ Only q w1 wr

set_option maxHeartbeats 1000000 in
set_option maxRecDepth 100000 in
theorem of_any (v : Value) (ts : List ByteArray) (w : World) (h : StrRow w v ts) (hK : KT w) (hlen : (flat ts).length < 576460752303423488) :
    Calls Tryd.prog 54 #[v] w fun e w' => e = .returned (sumV (Sha.digest (flat ts))) ∧ Below w.heap.size w w' := by
  obtain ⟨a, cap, rfl, hl, hc⟩ := h
  have hz := (zero_of_info info_hash0).1
  go_enter Tryd.func54, Tryd.ntmps54
  go_upto_region 1 with (fail)
  obtain ⟨w0, hw0⟩ : ∃ w0, w0 = w.alloc (.cells #[.int .u8 0, .int .u8 0, .int .u8 0, .int .u8 0, .int .u8 0, .int .u8 0, .int .u8 0, .int .u8 0, .int .u8 0, .int .u8 0, .int .u8 0, .int .u8 0, .int .u8 0, .int .u8 0, .int .u8 0, .int .u8 0, .int .u8 0, .int .u8 0, .int .u8 0, .int .u8 0, .int .u8 0, .int .u8 0, .int .u8 0, .int .u8 0, .int .u8 0, .int .u8 0, .int .u8 0, .int .u8 0, .int .u8 0, .int .u8 0, .int .u8 0, .int .u8 0] 33) := ⟨_, rfl⟩
  have b0 : Below w.heap.size w w0 := by rw [hw0]; exact (Below.refl _ _).alloc (Nat.le_refl _) _
  have z0 : w0.heap[w.heap.size]? = some (.cells ((List.replicate 32 (0 : UInt8)).map u8V).toArray 33 (0, 0)) := by rw [hw0]; exact heap_alloc_last w _
  have s0 : w0.heap.size = w.heap.size + 1 := by rw [hw0]; exact World.size_alloc ..
  rw [← hw0]
  have Hz0 := Lib.hid z0
  have Hs0 := Lib.hid s0
  have HC := Lib.hid hc
  clear hw0 z0 s0 hc
  go_upto_region 2 with (fail)
  obtain ⟨w1, hw1⟩ : ∃ w1, w1 = w0.alloc (.cells (hL zV zB 0).toArray 127) := ⟨_, rfl⟩
  have b1 : Below w0.heap.size w0 w1 := by rw [hw1]; exact (Below.refl _ _).alloc (Nat.le_refl _) _
  have i1 : IsHash w0.heap.size [] w1 := by rw [hw1]; exact isHash_zero (Cells.new w0 _ _ 0 (by simp [zB]) zero_ok)
  have bb : Below w.heap.size w w1 := below_step b0 (Nat.le_refl _) b1
  have z1 : w1.heap[w.heap.size]? = some (.cells ((List.replicate 32 (0 : UInt8)).map u8V).toArray 33 (0, 0)) := (b1.block _ (by have := Hs0.out; omega)).trans Hz0.out
  have hK1 := hK.old bb
  rw [← hw1]
  have Hz1 := Lib.hid z1
  clear hw1 hz z1 Hz0 b1
  go_wp2
  go_loopw [8] (OfRel w0.heap.size ts w1) (fun i _ => ts.length - (intOf i).toNat)
  case atStart => exact ⟨0, by omega, rfl, i1, Only.refl _ _⟩
  case round =>
    obtain ⟨k, hk, rfl, ik, ok⟩ := hrel
    have hKr := hK1.only ok (by have := Hs0.out; have := hK.pos; omega)
    by_cases hlt : k < ts.length
    · obtain ⟨b, off, rfl, hb, hj⟩ := HC.out (by intro e; rw [e] at hlt; simp at hlt)
      have hcx := hj k hlt
      have hft := flat_take ts k hlt
      have hfl := flat_le ts (k + 1)
      rw [hft, List.length_append] at hfl
      generalize ts.getD k ByteArray.empty = X at *
      have hcx1 : wr.cell? ⟨b, off + k, none⟩ = some (.string X) := (ok.cell (Nat.lt_of_lt_of_le hb bb.size) (by have := Hs0.out; omega)).trans ((bb.cell (by exact hb)).trans hcx)
      have HFT := Lib.hid hft
      have HJ := Lib.hid hj
      clear hft hj hcx
      go_wp2_with (first
        | (go_at_call 76; refine (write_any w0.heap.size _ X X.data.toList rfl _ ik hKr (by omega)).mono ?_; rintro e w3 ⟨rfl, i3, o3⟩))
      refine ⟨⟨k + 1, by omega, by go_num, by rw [HFT.out]; exact i3, ok.trans o3⟩, by simp [intOf]; omega⟩
    · obtain rfl : ts.length = k := by omega
      rw [List.take_length] at ik
      have zr := (ok.block _ (by have := i1.lt; have := Hs0.out; omega) (by have := Hs0.out; omega)).trans Hz1.out
      have br : Below w.heap.size w wr := bb.trans (ok.below (by have := Hs0.out; omega) (by have := i1.lt; have := Hs0.out; omega))
      have HZR := Lib.hid zr
      clear zr
      obtain ⟨D, hD⟩ : ∃ D, D = Sha.digest (flat ts) := ⟨_, rfl⟩
      have hDl : D.length = 32 := by rw [hD]; exact Sha.digest_length _
      have HD := Lib.hid hD
      have HDl := Lib.hid hDl
      clear hD hDl
      go_wp2_with (first
        | (go_at_call 77; refine (sum_any w0.heap.size (flat ts) _ ik hKr hlen).mono ?_; rintro e w5 ⟨rfl, b5⟩; rw [← HD.out]; have z5 := Lib.hid ((b5.block _ (Nat.lt_of_lt_of_le (by have := i1.lt; have := Hs0.out; omega) ok.size)).trans HZR.out))
        | refine wpList_store_mid rfl 33 (.tmp 2) (.tmp 15) rfl w.heap.size 0 (D.map u8V).toArray rfl rfl (sum_there z5.out HDl.out) (sum_info HDl.out) (sum_one D) ?_)
      exact bodyPost_ret (v := sumV D) (results_cell (t := 2) (ty := 33) (b := w.heap.size) (cs := D.map u8V) rfl _ _ _ rfl (sum_range z5.out HDl.out) Tryd.underlying33 rfl (sum_info' HDl.out)) rfl ⟨by rw [HD.out], below_setCells (Nat.le_refl _) _ _ _ (below_step br (Nat.le_refl _) b5)⟩

theorem of_nothing (w : World) (hK : KT w) : Calls Tryd.prog 54 #[.slice none 0 0] w fun e w' => e = .returned (sumV (Sha.digest [])) ∧ Below w.heap.size w w' :=
  of_any _ [] w (StrRow.nil w) hK (by decide)

set_option maxHeartbeats 1000000 in
set_option maxRecDepth 100000 in
theorem sum_nil (w : World) (hK : KT w) :
    Calls Tryd.prog 77 #[.pointer none] w fun e w' => e = .returned (sumV (Sha.digest [])) ∧ Below w.heap.size w w' := by
  obtain ⟨D, hD⟩ : ∃ D, D = Sha.digest [] := ⟨_, rfl⟩
  have hDl : D.length = 32 := by rw [hD]; exact Sha.digest_length _
  have HD := Lib.hid hD
  have HDl := Lib.hid hDl
  rw [← hD]
  clear hD hDl
  go_enter Tryd.func77, Tryd.ntmps77
  go_upto_region 1 with (fail)
  obtain ⟨w0, hw0⟩ : ∃ w0, w0 = w.alloc (.cells #[.int .u8 0, .int .u8 0, .int .u8 0, .int .u8 0, .int .u8 0, .int .u8 0, .int .u8 0, .int .u8 0, .int .u8 0, .int .u8 0, .int .u8 0, .int .u8 0, .int .u8 0, .int .u8 0, .int .u8 0, .int .u8 0, .int .u8 0, .int .u8 0, .int .u8 0, .int .u8 0, .int .u8 0, .int .u8 0, .int .u8 0, .int .u8 0, .int .u8 0, .int .u8 0, .int .u8 0, .int .u8 0, .int .u8 0, .int .u8 0, .int .u8 0, .int .u8 0] 33) := ⟨_, rfl⟩
  have b0 : Below w.heap.size w w0 := by rw [hw0]; exact (Below.refl _ _).alloc (Nat.le_refl _) _
  have z0 : w0.heap[w.heap.size]? = some (.cells ((List.replicate 32 (0 : UInt8)).map u8V).toArray 33 (0, 0)) := by rw [hw0]; exact heap_alloc_last w _
  have s0 : w0.heap.size = w.heap.size + 1 := by rw [hw0]; exact World.size_alloc ..
  rw [← hw0]
  have hK0 := hK.old b0
  have Hz0 := Lib.hid z0
  have Hs0 := Lib.hid s0
  clear hw0 z0 s0
  go_wp2_with (first
    | (go_at_call 54; refine (of_nothing _ hK0).mono ?_; rintro e w5 ⟨rfl, b5⟩; rw [← HD.out]; have z5 := Lib.hid ((b5.block _ (by have := Hs0.out; omega)).trans Hz0.out))
    | refine wpList_store_mid rfl 33 (.tmp 2) (.tmp 8) rfl w.heap.size 0 (D.map u8V).toArray rfl rfl (sum_there z5.out HDl.out) (sum_info HDl.out) (sum_one D) ?_)
  exact bodyPost_ret (v := sumV D) (results_cell (t := 2) (ty := 33) (b := w.heap.size) (cs := D.map u8V) rfl _ _ _ rfl (sum_range z5.out HDl.out) Tryd.underlying33 rfl (sum_info' HDl.out)) rfl ⟨rfl, below_setCells (Nat.le_refl _) _ _ _ (below_step b0 (Nat.le_refl _) b5)⟩
end Go.Proofs.YtollcdalokhjaaaDoor
/-! ## Package sha: Of of one text and of two; the statements' own helper awake answers true. -/
namespace Go.Proofs.YtollcdalokhjaaaDoor
open Go.RowKit
theorem KT.alloc {w : World} (h : KT w) (o : Obj) : KT (w.alloc o) := h.old ((Below.refl _ _).alloc (Nat.le_refl _) _)

/-- Of of one text, as it is called. -/
theorem of_one (s : ByteArray) (l : List UInt8) (hs : s.data.toList = l) (w : World) (hK : KT w) (hl : l.length < 576460752303423488) :
    Calls Tryd.prog 54 #[.slice (some ⟨w.heap.size, 0, none⟩) 1 1] (w.alloc (.cells #[.string s] 9)) fun e w' => e = .returned (sumV (Sha.digest l)) ∧ Below w.heap.size w w' := by
  subst hs
  rw [← flat_one] at hl ⊢
  exact (of_any _ [s] _ (StrRow.one w s) (hK.alloc _) hl).mono fun e w' ⟨he, hb⟩ => ⟨he, ((Below.refl _ _).alloc (Nat.le_refl _) _).trans (hb.mono (by simp))⟩
theorem of_two (s t : ByteArray) (l : List UInt8) (hs : s.data.toList ++ t.data.toList = l) (w : World) (hK : KT w) (hl : l.length < 576460752303423488) :
    Calls Tryd.prog 54 #[.slice (some ⟨w.heap.size, 0, none⟩) 2 2] (w.alloc (.cells #[.string s, .string t] 9)) fun e w' => e = .returned (sumV (Sha.digest l)) ∧ Below w.heap.size w w' := by
  subst hs
  rw [← flat_two] at hl ⊢
  exact (of_any _ [s, t] _ (StrRow.two w s t) (hK.alloc _) hl).mono fun e w' ⟨he, hb⟩ => ⟨he, ((Below.refl _ _).alloc (Nat.le_refl _) _).trans (hb.mono (by simp))⟩

end Go.Proofs.YtollcdalokhjaaaDoor
/-! ## The blocks that the statements on short texts lay out by hand are those of the document. -/
namespace Go.Proofs.YtollcdalokhjaaaDoor
open Go.RowKit

/-- The last block of a text of n bytes, n of which (modulo 64) are T, no more than 55: as it is laid out by hand. -/
theorem last_block (T : List UInt8) (n : Nat) (hT : T.length ≤ 55) (hn : n % 64 = T.length) (hn' : n < 8192) :
    (((T ++ List.replicate (64 - T.length) 0).set T.length 128).set 62 (UInt8.ofNat (8 * n / 256))).set 63 (UInt8.ofNat (8 * n)) = T ++ Sha.endL n := by
  have hz : Sha.zeros n = 55 - T.length := by unfold Sha.zeros; omega
  have hb : Sha.be8 (8 * n) = [0, 0, 0, 0, 0, 0, UInt8.ofNat (8 * n / 256), UInt8.ofNat (8 * n)] := by
    have e : ∀ k, 65536 ≤ k → 8 * n / k = 0 := fun k hk => Nat.div_eq_of_lt (by omega)
    simp only [Sha.be8, List.range, List.range.loop, List.map_cons, List.map_nil]
    rw [e _ (by decide), e _ (by decide), e _ (by decide), e _ (by decide), e _ (by decide), e _ (by decide)]
    simp
  rw [Sha.endL, hz, hb, show 64 - T.length = (55 - T.length + 8) + 1 by omega, List.replicate_succ, List.set_append_right _ _ (by omega), Nat.sub_self, List.set_cons_zero, List.set_append_right _ _ (by omega), List.set_append_right _ _ (by omega),
    show 62 - T.length = (55 - T.length + 6) + 1 by omega, show 63 - T.length = (55 - T.length + 7) + 1 by omega, List.set_cons_succ, List.set_cons_succ, ← List.replicate_append_replicate, List.set_append_right _ _ (by simp), List.set_append_right _ _ (by simp)]
  simp
theorem full_one (T : List UInt8) (hT : T.length ≤ 55) : (Sha.full T).length = 64 := by
  unfold Sha.full
  rw [List.length_append, Sha.endL_length]
  unfold Sha.zeros
  omega
theorem digest_one (T : List UInt8) (hT : T.length ≤ 55) : Sha.digest T = (Sha.step Sha.start (Sha.words (Sha.full T))).bytes := by
  unfold Sha.digest
  rw [full_one T hT]
  show (Sha.run Sha.start 1 (Sha.full T)).bytes = _
  rw [Sha.run, Sha.run, List.take_of_length_le (by rw [full_one T hT]; exact Nat.le_refl _)]

theorem or_form2 (a : Nat) (x : UInt8) (ha : a < 16777216) : bits .or .u32 ((a : Int) * 256) (x.toNat : Int) = ((a * 256 + x.toNat : Nat) : Int) := by
  have hx : x.toNat < 256 := x.toNat_lt
  rw [← or_form a x ha]
  congr 1
  omega
/-- The eight cells of a state, one by one, in a block of eight cells. -/
theorem put8 {q : Nat} {w : World} (u : Sha.V) (h : w.heap[q]? = some (.cells zC 112 (0, 0))) : ((((((((w.setCell ⟨q, 0, none⟩ (.int .u32 u.a)).setCell ⟨q, 1, none⟩ (.int .u32 u.b)).setCell ⟨q, 2, none⟩ (.int .u32 u.c)).setCell ⟨q, 3, none⟩ (.int .u32 u.d)).setCell ⟨q, 4, none⟩ (.int .u32 u.e)).setCell ⟨q, 5, none⟩ (.int .u32 u.f)).setCell ⟨q, 6, none⟩ (.int .u32 u.g)).setCell ⟨q, 7, none⟩ (.int .u32 u.h)).heap[q]? = some (.cells (vC u) 112 (0, 0)) := by
  have := heap_setCells q 112 (vC u).toList 0 zC.toList w (by simp [vC, zC]) h
  refine Eq.trans ?_ this |>.trans ?_
  · rfl
  · simp [vC, zC]
theorem z8 {q : Nat} {w : World} (h : w.heap[q]? = some (.cells zC 112 (0, 0))) : w.cell? ⟨q, 0, none⟩ = some (.int .u32 0) ∧ w.cell? ⟨q, 1, none⟩ = some (.int .u32 0) ∧ w.cell? ⟨q, 2, none⟩ = some (.int .u32 0) ∧ w.cell? ⟨q, 3, none⟩ = some (.int .u32 0) ∧ w.cell? ⟨q, 4, none⟩ = some (.int .u32 0) ∧ w.cell? ⟨q, 5, none⟩ = some (.int .u32 0) ∧ w.cell? ⟨q, 6, none⟩ = some (.int .u32 0) ∧ w.cell? ⟨q, 7, none⟩ = some (.int .u32 0) ∧ w.frozen? ⟨q, 0, none⟩ = false ∧ w.frozen? ⟨q, 1, none⟩ = false ∧ w.frozen? ⟨q, 2, none⟩ = false ∧ w.frozen? ⟨q, 3, none⟩ = false ∧ w.frozen? ⟨q, 4, none⟩ = false ∧ w.frozen? ⟨q, 5, none⟩ = false ∧ w.frozen? ⟨q, 6, none⟩ = false ∧ w.frozen? ⟨q, 7, none⟩ = false :=
  ⟨cell_of h 0, cell_of h 1, cell_of h 2, cell_of h 3, cell_of h 4, cell_of h 5, cell_of h 6, cell_of h 7, fz_of h 0, fz_of h 1, fz_of h 2, fz_of h 3, fz_of h 4, fz_of h 5, fz_of h 6, fz_of h 7⟩
theorem info_24 : (Tryd.prog.info? 114).map (·.size) = some 16 := by kernel_rfl
theorem vC_at (u : Sha.V) (q : Nat) (h : q < 8) : (vC u)[q]? = some (.int .u32 (u.list.getD q 0 : Nat)) := by
  match q, h with
  | 0, _ | 1, _ | 2, _ | 3, _ | 4, _ | 5, _ | 6, _ | 7, _ => rfl
  | _ + 8, h => exact absurd h (by omega)
theorem range_put8 {w : World} {b o q : Nat} {cs : List Value} {v0 v1 v2 v3 v4 v5 v6 v7 : Value} (h : w.rangeAt b o cs) (hne : b ≠ q) : ((((((((w.setCell ⟨q, 0, none⟩ v0).setCell ⟨q, 1, none⟩ v1).setCell ⟨q, 2, none⟩ v2).setCell ⟨q, 3, none⟩ v3).setCell ⟨q, 4, none⟩ v4).setCell ⟨q, 5, none⟩ v5).setCell ⟨q, 6, none⟩ v6).setCell ⟨q, 7, none⟩ v7).rangeAt b o cs :=
  range_set (range_set (range_set (range_set (range_set (range_set (range_set (range_set h hne) hne) hne) hne) hne) hne) hne) hne
/-- Block q holds the state u. -/
def StateAt (u : Sha.V) (w : World) (x : Value) (wx : World) : Prop := ∃ q, x = .pointer (some ⟨q, 0, none⟩) ∧ wx.heap[q]? = some (.cells (vC u) 112 (0, 0)) ∧ Below w.heap.size w wx
theorem stateAt_new (u : Sha.V) {w w6 : World} (h : Below w.heap.size w w6) : StateAt u w (.pointer (some ⟨w6.heap.size, 0, none⟩)) (w6.alloc (.cells #[.int .u32 u.a, .int .u32 u.b, .int .u32 u.c, .int .u32 u.d, .int .u32 u.e, .int .u32 u.f, .int .u32 u.g, .int .u32 u.h] 112)) :=
  ⟨_, rfl, heap_alloc_last w6 _, h.alloc h.size _⟩
theorem stateAt_put (u : Sha.V) {w w6 : World} {q : Nat} (h : Below w.heap.size w w6) (hq : w.heap.size ≤ q) (hh : w6.heap[q]? = some (.cells zC 112 (0, 0))) : StateAt u w (.pointer (some ⟨q, 0, none⟩)) ((((((((w6.setCell ⟨q, 0, none⟩ (.int .u32 u.a)).setCell ⟨q, 1, none⟩ (.int .u32 u.b)).setCell ⟨q, 2, none⟩ (.int .u32 u.c)).setCell ⟨q, 3, none⟩ (.int .u32 u.d)).setCell ⟨q, 4, none⟩ (.int .u32 u.e)).setCell ⟨q, 5, none⟩ (.int .u32 u.f)).setCell ⟨q, 6, none⟩ (.int .u32 u.g)).setCell ⟨q, 7, none⟩ (.int .u32 u.h)) :=
  ⟨q, rfl, put8 u hh, (((((((h.setCell hq _).setCell hq _).setCell hq _).setCell hq _).setCell hq _).setCell hq _).setCell hq _).setCell hq _⟩
/-- Ahead of byte k of the text that is laid into block B. -/
def FillRel (B : Nat) (T : List UInt8) (w : World) (si : Value) (wr : World) : Prop :=
  ∃ k : Nat, k ≤ T.length ∧ si = .int .i64 k ∧ wr.heap[B]? = some (.cells ((T.take k ++ List.replicate (64 - k) 0).map u8V).toArray 125 (0, 0)) ∧ Below w.heap.size w wr
/-- Ahead of byte i of block B, whose numbers are laid into block C. -/
def NumRel (B C : Nat) (P : List UInt8) (w : World) (si : Value) (wr : World) : Prop :=
  ∃ i : Nat, i ≤ 64 ∧ si = .int .i64 i ∧ wr.heap[B]? = some (.cells (P.map u8V).toArray 125 (0, 0)) ∧ wr.heap[C]? = some (.cells (bC (Sha.parts P i)) 114 (0, 0)) ∧ Below w.heap.size w wr
/-- Ahead of byte i: block p holds the hash D, block q the state u. -/
def CmpRel (p q : Nat) (D : List UInt8) (u : Sha.V) (w : World) (si : Value) (wr : World) : Prop :=
  ∃ i : Nat, i ≤ 32 ∧ si = .int .i64 i ∧ wr.heap[p]? = some (.cells (D.map u8V).toArray 33 (0, 0)) ∧ wr.heap[q]? = some (.cells (vC u) 112 (0, 0)) ∧ Below w.heap.size w wr
end Go.Proofs.YtollcdalokhjaaaDoor
