/-
  Package sha: what the method step of a hash does: the block, which is full, goes into the state.
-/
import Derived.Test.YtgiakpnkidblpaaDoorShaMem
import Derived.Test.YtgiakpnkidblpaaDoorShaStep
import Derived.Deep.RegionWith
import Derived.Deep.Cut
namespace Go.Proofs.YtgiakpnkidblpaaDoor
open Go.RowKit

theorem Cells.state {p : Nat} {v : Sha.V} {b : List UInt8} {n : Nat} {w : World} (h : Cells p v b n w) :
    w.cell? ⟨p, 0, none⟩ = some (.int .u32 v.a) ∧ w.cell? ⟨p, 1, none⟩ = some (.int .u32 v.b) ∧ w.cell? ⟨p, 2, none⟩ = some (.int .u32 v.c) ∧ w.cell? ⟨p, 3, none⟩ = some (.int .u32 v.d)
    ∧ w.cell? ⟨p, 4, none⟩ = some (.int .u32 v.e) ∧ w.cell? ⟨p, 5, none⟩ = some (.int .u32 v.f) ∧ w.cell? ⟨p, 6, none⟩ = some (.int .u32 v.g) ∧ w.cell? ⟨p, 7, none⟩ = some (.int .u32 v.h) :=
  ⟨h.at 0, h.at 1, h.at 2, h.at 3, h.at 4, h.at 5, h.at 6, h.at 7⟩
theorem Cells.block {p : Nat} {v : Sha.V} {b : List UInt8} {n : Nat} {w : World} (h : Cells p v b n w) : w.rangeAt p 8 (b.map u8V) := fun j x hx => by
  rw [h.at]
  have hj : j < (b.map u8V).length := (List.getElem?_eq_some_iff.1 hx).1
  rw [hL, List.getElem?_append_right (by simp [Sha.V.list]), List.getElem?_append_left (by simp [Sha.V.list] at hj ⊢; omega)]
  simpa [Sha.V.list] using hx
theorem Cells.pos {p : Nat} {v : Sha.V} {b : List UInt8} {n : Nat} {w : World} (h : Cells p v b n w) (hK : KT w) : p ≠ 0 := by
  rintro rfl
  have h1 := hK 63 (by decide)
  have hb := h.1
  rw [h.at] at h1
  simp [hL, Sha.V.list, u8V, hb] at h1
theorem KT.only {w w' : World} {p : Nat} (hK : KT w) (h : Only p w w') (hp : p ≠ 0) : KT w' := fun i hi => (h.cell hK.pos (fun e => hp e.symm)).trans (hK i hi)
theorem Cells.setState {p : Nat} {v u : Sha.V} {b : List UInt8} {n : Nat} {w : World} (h : Cells p v b n w) (hu : u.ok) : Cells p u b n (w.setCells p 0 (vC u).toList) := by
  refine ⟨h.1, hu, ?_⟩
  have hb := h.1
  rw [heap_setCells p 98 _ 0 (hL v b n) w (by rw [hL_length v b n h.1]; simp [vC]) h.2.2]
  simp [hL, vC, Sha.V.list, u32V]

theorem info_44 : (Tryd.prog.info? 96).map (·.size) = some 64 := by kernel_rfl
theorem info_23 : (Tryd.prog.info? 76).map (·.size) = some 8 := by kernel_rfl
theorem index_44 (b : List UInt8) (hb : b.length = 64) (i : Nat) (hi : i < 64) (w : World) : (Instr.index 96 (.agg (b.map u8V).toArray) (.int .i64 (i : Int))).run Tryd.prog w = .ok (.int .u8 ((b.getD i 0).toNat : Int)) w :=
  run_index_agg w Tryd.underlying96 (by kernel_rfl) (by kernel_rfl) (by kernel_rfl) hi (by simp [u8V, hb, hi])
theorem or_form (a : Nat) (x : UInt8) (ha : a < 16777216) : bits .or .u32 ((a : Int) * 256) ((x.toNat : Int) % 4294967296) = ((a * 256 + x.toNat : Nat) : Int) := by
  have hx : x.toNat < 256 := x.toNat_lt
  have := u32_or_nat (a * 256 % 4294967296) x.toNat (Nat.mod_lt _ (by decide)) (by omega)
  rw [Sha.or_byte a x.toNat ha hx] at this
  rw [← this]
  congr 1 <;> omega

theorem Only.setNew {b q : Nat} {u w : World} (h : Only b u w) (hq : u.heap.size ≤ q) (o : Nat) (v : Value) : Only b u (w.setCell ⟨q, o, none⟩ v) :=
  ⟨h.os, h.tape, h.output, by simpa [World.setCell] using h.size, fun k hk hb => (Below.heap_setCell _ _ _ _ (show k ≠ q by omega)).trans (h.block k hk hb)⟩
theorem KT.drew {w : World} (h : KT w) : KT w.drew := fun i hi => by simpa using h i hi
theorem step_16e (v : Sha.V) (x0 x1 x2 x3 x4 x5 x6 x7 x8 x9 x10 x11 x12 x13 x14 x15 : Nat) (u : Sha.V) (hu : u = Sha.step v [x0, x1, x2, x3, x4, x5, x6, x7, x8, x9, x10, x11, x12, x13, x14, x15]) (w : World) (hv : v.ok) (hb : ∀ x ∈ [x0, x1, x2, x3, x4, x5, x6, x7, x8, x9, x10, x11, x12, x13, x14, x15], x < 4294967296) (hK : KT w) :
    Calls Tryd.prog 81 #[.agg #[.int .u32 v.a, .int .u32 v.b, .int .u32 v.c, .int .u32 v.d, .int .u32 v.e, .int .u32 v.f, .int .u32 v.g, .int .u32 v.h], .agg #[.int .u32 x0, .int .u32 x1, .int .u32 x2, .int .u32 x3, .int .u32 x4, .int .u32 x5, .int .u32 x6, .int .u32 x7, .int .u32 x8, .int .u32 x9, .int .u32 x10, .int .u32 x11, .int .u32 x12, .int .u32 x13, .int .u32 x14, .int .u32 x15]] w fun e w' => e = .returned (.agg #[.int .u32 u.a, .int .u32 u.b, .int .u32 u.c, .int .u32 u.d, .int .u32 u.e, .int .u32 u.f, .int .u32 u.g, .int .u32 u.h]) ∧ Below w.heap.size w w' := by
  subst hu
  exact step_16 v x0 x1 x2 x3 x4 x5 x6 x7 x8 x9 x10 x11 x12 x13 x14 x15 w hv hb hK
theorem list16 (l : List Nat) (h : l.length = 16) : ∃ x0 x1 x2 x3 x4 x5 x6 x7 x8 x9 x10 x11 x12 x13 x14 x15, l = [x0, x1, x2, x3, x4, x5, x6, x7, x8, x9, x10, x11, x12, x13, x14, x15] := by
  match l, h with
  | [x0, x1, x2, x3, x4, x5, x6, x7, x8, x9, x10, x11, x12, x13, x14, x15], _ => exact ⟨x0, x1, x2, x3, x4, x5, x6, x7, x8, x9, x10, x11, x12, x13, x14, x15, rfl⟩
/-- The cells of a state, one by one, in a world in which they lie in block p. -/
theorem Cells.put8 {p : Nat} {v u : Sha.V} {b : List UInt8} {n : Nat} {w : World} (h : Cells p v b n w) (hu : u.ok) : Cells p u b n ((((((((w.setCell ⟨p, 0, none⟩ (.int .u32 u.a)).setCell ⟨p, 1, none⟩ (.int .u32 u.b)).setCell ⟨p, 2, none⟩ (.int .u32 u.c)).setCell ⟨p, 3, none⟩ (.int .u32 u.d)).setCell ⟨p, 4, none⟩ (.int .u32 u.e)).setCell ⟨p, 5, none⟩ (.int .u32 u.f)).setCell ⟨p, 6, none⟩ (.int .u32 u.g)).setCell ⟨p, 7, none⟩ (.int .u32 u.h)) := h.setState hu

/-- What step comes to, out of a world in which the state is v (the start, if the block is the first one). -/
def StepPost (p : Nat) (v : Sha.V) (b : List UInt8) (n : Nat) (w : World) (e : Ending) (w' : World) : Prop := e = .returned (.tuple #[]) ∧ Cells p (Sha.step v (Sha.words b)) b n w' ∧ Only p w w'

/-- Ahead of byte i of the block. -/
def WordRel (p nb : Nat) (v : Sha.V) (b : List UInt8) (n : Nat) (w : World) (s : Value) (wr : World) : Prop :=
  ∃ i : Nat, i ≤ 64 ∧ s = .int .i64 i ∧ wr.heap[nb]? = some (.cells (bC (Sha.parts b i)) 78 (0, 0)) ∧ Cells p v b n wr ∧ Only p w wr

set_option maxHeartbeats 1000000 in
set_option maxRecDepth 100000 in
theorem hstep_on (p : Nat) (v : Sha.V) (b : List UInt8) (n : Nat) (w : World) (h : Cells p v b n w) (hK : KT w) (hn : n ≠ 64) (_ : n < 9223372036854775808) :
    Calls Tryd.prog 77 #[.pointer (some ⟨p, 0, none⟩)] w (StepPost p v b n w) := by
  have hs := h.size
  have hne : ((n : Int) == 64) = false := by simp; omega
  have hr := World.rangeAt_alloc h.block (.cells (bC (Sha.parts b 0)) 78)
  have hb := h.1
  have hI : (Tryd.prog.info? 96).map (·.size) = some (b.map u8V).length := by rw [List.length_map, hb]; exact info_44
  have HI := Lib.hid hI
  have HR := Lib.hid hr
  have Hb := Lib.hid hb
  clear hI hr hb
  rw [Sha.parts_zero] at HR
  go_enter Tryd.func77, Tryd.ntmps77
  go_wp2_with (first
    | refine wpList_load_mid rfl 96 (.tmp 16) rfl p 8 rfl (b.map u8V) _ HR.out Tryd.underlying96 rfl HI.out ?_)
  go_loopw [18] (WordRel p w.heap.size v b n w) (fun i _ => 64 - (intOf i).toNat)
  case atStart =>
    have hbw : Below w.heap.size w (w.alloc (.cells (bC [0, 0, 0, 0, 0, 0, 0, 0, 0, 0, 0, 0, 0, 0, 0, 0]) 78)) := (Below.refl _ _).alloc (Nat.le_refl _) _
    refine ⟨0, by omega, rfl, ?_, h.old hbw h.lt, Only.of_below hbw⟩
    rw [Sha.parts_zero]
    exact heap_alloc_last w _
  case round =>
    obtain ⟨i, hi, rfl, hh, hc, ho⟩ := hrel
    by_cases hlt : i < 64
    · have hx := index_44 b Hb.out i hlt
      obtain ⟨q, hq⟩ : ∃ q, q = i / 4 := ⟨_, rfl⟩
      have e4 : (i : Int) / 4 = (q : Int) := by omega
      have cq := cell_bC hh q (by rw [Sha.parts_length]; omega)
      have fq := fz_of hh q
      have sq : (Sha.parts b i).getD q 0 < 16777216 := by rw [Sha.parts_getD b i q (by omega), hq]; exact Sha.part_small b i
      have ps := Sha.parts_step b i (by rw [Hb.out]; exact hlt) hlt
      rw [← hq] at ps
      generalize (Sha.parts b i).getD q 0 = W at *
      generalize b.getD i 0 = x at *
      have eo := or_form W x sq
      have bq : q < 16 := by omega
      have Hq := Lib.hid hq
      have HP := Lib.hid ps
      have HH := Lib.hid hh
      clear hq ps hh
      go_wp2
      refine ⟨?_, by simp [intOf]; omega⟩
      refine ⟨i + 1, by omega, by go_num, ?_, ?_, ?_⟩
      · rw [heap_set HH.out, show (W : Int) * 256 + (x.toNat : Int) = ((W * 256 + x.toNat : Nat) : Int) by omega, bC_set, HP.out]
      · exact hc.kept ((Only.refl w.heap.size wr).setCell q _) (by have := h.lt; omega)
      · exact ho.setNew (Nat.le_refl _) _ _
    · obtain rfl : 64 = i := by omega
      rw [Sha.parts_all] at hh
      obtain ⟨c0, c1, c2, c3, c4, c5, c6, c7⟩ := hc.state
      have hKr := hK.only ho (h.pos hK)
      have hwl := Sha.words_lt b
      obtain ⟨y0, y1, y2, y3, y4, y5, y6, y7, y8, y9, y10, y11, y12, y13, y14, y15, hy⟩ := list16 (Sha.words b) (Sha.words_length b)
      rw [hy] at hh hwl
      have d0 := cell_bC hh 0 (by simp)
      have d1 := cell_bC hh 1 (by simp)
      have d2 := cell_bC hh 2 (by simp)
      have d3 := cell_bC hh 3 (by simp)
      have d4 := cell_bC hh 4 (by simp)
      have d5 := cell_bC hh 5 (by simp)
      have d6 := cell_bC hh 6 (by simp)
      have d7 := cell_bC hh 7 (by simp)
      have d8 := cell_bC hh 8 (by simp)
      have d9 := cell_bC hh 9 (by simp)
      have d10 := cell_bC hh 10 (by simp)
      have d11 := cell_bC hh 11 (by simp)
      have d12 := cell_bC hh 12 (by simp)
      have d13 := cell_bC hh 13 (by simp)
      have d14 := cell_bC hh 14 (by simp)
      have d15 := cell_bC hh 15 (by simp)
      simp only [List.getD_cons_zero, List.getD_cons_succ] at d0 d1 d2 d3 d4 d5 d6 d7 d8 d9 d10 d11 d12 d13 d14 d15
      obtain ⟨u, hu⟩ : ∃ u, u = Sha.step v [y0, y1, y2, y3, y4, y5, y6, y7, y8, y9, y10, y11, y12, y13, y14, y15] := ⟨_, rfl⟩
      have uok : u.ok := by rw [hu]; exact Sha.step_ok _ _
      have hlr : p < wr.heap.size := hc.lt
      have HU := Lib.hid hu
      have HY := Lib.hid hy
      have HKr := Lib.hid hKr
      have HWL := Lib.hid hwl
      clear hh hu hy hKr hwl
      go_wp2
      go_region_with (go_at_call 81; refine (step_16e v y0 y1 y2 y3 y4 y5 y6 y7 y8 y9 y10 y11 y12 y13 y14 y15 u HU.out _ hc.2.1 HWL.out HKr.out.drew).mono ?_; rintro e w3 ⟨rfl, hb3⟩; have hc3 : Cells p v b n w3 := Cells.old (w := wr) (B := wr.heap.size) hc ⟨hb3.os, hb3.tape, hb3.output, hb3.size, hb3.block⟩ hlr; obtain ⟨k0, k1, k2, k3, k4, k5, k6, k7⟩ := hc3.state; have f0 := hc3.fz 0; have f1 := hc3.fz 1; have f2 := hc3.fz 2; have f3 := hc3.fz 3; have f4 := hc3.fz 4; have f5 := hc3.fz 5; have f6 := hc3.fz 6; have f7 := hc3.fz 7)
      all_goals (
        go_end0
        have o3 : Only p wr w3 := Only.of_below ⟨hb3.os, hb3.tape, hb3.output, hb3.size, hb3.block⟩
        refine ⟨rfl, ?_, ((((((((ho.trans o3).setCell 0 _).setCell 1 _).setCell 2 _).setCell 3 _).setCell 4 _).setCell 5 _).setCell 6 _).setCell 7 _⟩
        rw [HY.out, ← HU.out]
        exact hc3.put8 uok)

theorem start_e (w : World) : Calls Tryd.prog 80 #[] w fun e w' => e = .returned (.agg #[.int .u32 1779033703, .int .u32 3144134277, .int .u32 1013904242, .int .u32 2773480762, .int .u32 1359893119, .int .u32 2600822924, .int .u32 528734635, .int .u32 1541459225]) ∧ Below w.heap.size w w' := start_any w

set_option maxHeartbeats 1000000 in
set_option maxRecDepth 100000 in
theorem hstep_64 (p : Nat) (v : Sha.V) (b : List UInt8) (w : World) (h : Cells p v b 64 w) (hK : KT w) :
    Calls Tryd.prog 77 #[.pointer (some ⟨p, 0, none⟩)] w (StepPost p Sha.start b 64 w) := by
  have hs : w.cell? ⟨p, 72, none⟩ = some (.int .i64 64) := h.size
  have hb := h.1
  have hI : (Tryd.prog.info? 96).map (·.size) = some (b.map u8V).length := by rw [List.length_map, hb]; exact info_44
  have HI := Lib.hid hI
  have Hb := Lib.hid hb
  clear hI hb
  go_enter Tryd.func77, Tryd.ntmps77
  go_upto_region 2 with (first
    | (go_at_call 80; refine (start_e _).mono ?_; rintro e w1 ⟨rfl, b1⟩; have c1 := h.old b1 h.lt; obtain ⟨k0, k1, k2, k3, k4, k5, k6, k7⟩ := c1.state; have f0 := c1.fz 0; have f1 := c1.fz 1; have f2 := c1.fz 2; have f3 := c1.fz 3; have f4 := c1.fz 4; have f5 := c1.fz 5; have f6 := c1.fz 6; have f7 := c1.fz 7))
  obtain ⟨w2, hw2⟩ : ∃ w2, w2 = ((((((((w1.setCell ⟨p, 0, none⟩ (.int .u32 1779033703)).setCell ⟨p, 1, none⟩ (.int .u32 3144134277)).setCell ⟨p, 2, none⟩ (.int .u32 1013904242)).setCell ⟨p, 3, none⟩ (.int .u32 2773480762)).setCell ⟨p, 4, none⟩ (.int .u32 1359893119)).setCell ⟨p, 5, none⟩ (.int .u32 2600822924)).setCell ⟨p, 6, none⟩ (.int .u32 528734635)).setCell ⟨p, 7, none⟩ (.int .u32 1541459225)) := ⟨_, rfl⟩
  have c2 : Cells p Sha.start b 64 w2 := by rw [hw2]; exact c1.put8 Sha.start_ok
  have o2 : Only p w w2 := by rw [hw2]; exact (((((((((Only.of_below b1 : Only p w w1).setCell 0 _).setCell 1 _).setCell 2 _).setCell 3 _).setCell 4 _).setCell 5 _).setCell 6 _).setCell 7 _)
  rw [← hw2]
  clear hw2 k0 k1 k2 k3 k4 k5 k6 k7 f0 f1 f2 f3 f4 f5 f6 f7 c1 b1
  have hr := World.rangeAt_alloc c2.block (.cells (bC (Sha.parts b 0)) 78)
  rw [Sha.parts_zero] at hr
  have HR := Lib.hid hr
  clear hr
  go_wp2_with (first
    | refine wpList_load_mid rfl 96 (.tmp 16) rfl p 8 rfl (b.map u8V) _ HR.out Tryd.underlying96 rfl HI.out ?_)
  go_loopw [18] (WordRel p w2.heap.size Sha.start b 64 w2) (fun i _ => 64 - (intOf i).toNat)
  case atStart =>
    have hbw : Below w2.heap.size w2 (w2.alloc (.cells (bC [0, 0, 0, 0, 0, 0, 0, 0, 0, 0, 0, 0, 0, 0, 0, 0]) 78)) := (Below.refl _ _).alloc (Nat.le_refl _) _
    refine ⟨0, by omega, rfl, ?_, c2.old hbw c2.lt, Only.of_below hbw⟩
    rw [Sha.parts_zero]
    exact heap_alloc_last w2 _
  case round =>
    obtain ⟨i, hi, rfl, hh, hc, ho⟩ := hrel
    by_cases hlt : i < 64
    · have hx := index_44 b Hb.out i hlt
      obtain ⟨q, hq⟩ : ∃ q, q = i / 4 := ⟨_, rfl⟩
      have e4 : (i : Int) / 4 = (q : Int) := by omega
      have cq := cell_bC hh q (by rw [Sha.parts_length]; omega)
      have fq := fz_of hh q
      have sq : (Sha.parts b i).getD q 0 < 16777216 := by rw [Sha.parts_getD b i q (by omega), hq]; exact Sha.part_small b i
      have ps := Sha.parts_step b i (by rw [Hb.out]; exact hlt) hlt
      rw [← hq] at ps
      generalize (Sha.parts b i).getD q 0 = W at *
      generalize b.getD i 0 = x at *
      have eo := or_form W x sq
      have bq : q < 16 := by omega
      have Hq := Lib.hid hq
      have HP := Lib.hid ps
      have HH := Lib.hid hh
      clear hq ps hh
      go_wp2
      refine ⟨?_, by simp [intOf]; omega⟩
      refine ⟨i + 1, by omega, by go_num, ?_, ?_, ?_⟩
      · rw [heap_set HH.out, show (W : Int) * 256 + (x.toNat : Int) = ((W * 256 + x.toNat : Nat) : Int) by omega, bC_set, HP.out]
      · exact hc.kept ((Only.refl w2.heap.size wr).setCell q _) (by have := c2.lt; omega)
      · exact ho.setNew (Nat.le_refl _) _ _
    · obtain rfl : 64 = i := by omega
      rw [Sha.parts_all] at hh
      obtain ⟨c0, c1, c2, c3, c4, c5, c6, c7⟩ := hc.state
      have hKr := (hK.only o2 (h.pos hK)).only ho (h.pos hK)
      have hwl := Sha.words_lt b
      obtain ⟨y0, y1, y2, y3, y4, y5, y6, y7, y8, y9, y10, y11, y12, y13, y14, y15, hy⟩ := list16 (Sha.words b) (Sha.words_length b)
      rw [hy] at hh hwl
      have d0 := cell_bC hh 0 (by simp)
      have d1 := cell_bC hh 1 (by simp)
      have d2 := cell_bC hh 2 (by simp)
      have d3 := cell_bC hh 3 (by simp)
      have d4 := cell_bC hh 4 (by simp)
      have d5 := cell_bC hh 5 (by simp)
      have d6 := cell_bC hh 6 (by simp)
      have d7 := cell_bC hh 7 (by simp)
      have d8 := cell_bC hh 8 (by simp)
      have d9 := cell_bC hh 9 (by simp)
      have d10 := cell_bC hh 10 (by simp)
      have d11 := cell_bC hh 11 (by simp)
      have d12 := cell_bC hh 12 (by simp)
      have d13 := cell_bC hh 13 (by simp)
      have d14 := cell_bC hh 14 (by simp)
      have d15 := cell_bC hh 15 (by simp)
      simp only [List.getD_cons_zero, List.getD_cons_succ] at d0 d1 d2 d3 d4 d5 d6 d7 d8 d9 d10 d11 d12 d13 d14 d15
      obtain ⟨u, hu⟩ : ∃ u, u = Sha.step Sha.start [y0, y1, y2, y3, y4, y5, y6, y7, y8, y9, y10, y11, y12, y13, y14, y15] := ⟨_, rfl⟩
      have uok : u.ok := by rw [hu]; exact Sha.step_ok _ _
      have hlr : p < wr.heap.size := hc.lt
      have HU := Lib.hid hu
      have HY := Lib.hid hy
      have HKr := Lib.hid hKr
      have HWL := Lib.hid hwl
      clear hh hu hy hKr hwl
      go_wp2
      go_region_with (go_at_call 81; refine (step_16e Sha.start y0 y1 y2 y3 y4 y5 y6 y7 y8 y9 y10 y11 y12 y13 y14 y15 u HU.out _ hc.2.1 HWL.out HKr.out.drew).mono ?_; rintro e w3 ⟨rfl, hb3⟩; have hc3 : Cells p Sha.start b 64 w3 := Cells.old (w := wr) (B := wr.heap.size) hc ⟨hb3.os, hb3.tape, hb3.output, hb3.size, hb3.block⟩ hlr; obtain ⟨k0, k1, k2, k3, k4, k5, k6, k7⟩ := hc3.state; have f0 := hc3.fz 0; have f1 := hc3.fz 1; have f2 := hc3.fz 2; have f3 := hc3.fz 3; have f4 := hc3.fz 4; have f5 := hc3.fz 5; have f6 := hc3.fz 6; have f7 := hc3.fz 7)
      all_goals (
        go_end0
        have o3 : Only p wr w3 := Only.of_below ⟨hb3.os, hb3.tape, hb3.output, hb3.size, hb3.block⟩
        refine ⟨rfl, ?_, ((((((((o2.trans (ho.trans o3)).setCell 0 _).setCell 1 _).setCell 2 _).setCell 3 _).setCell 4 _).setCell 5 _).setCell 6 _).setCell 7 _⟩
        rw [HY.out, ← HU.out]
        exact hc3.put8 uok)

/-- WHAT step DOES. -/
theorem hstep_any (p : Nat) (v : Sha.V) (b : List UInt8) (n : Nat) (w : World) (h : Cells p v b n w) (hK : KT w) (hn : n < 9223372036854775808) :
    Calls Tryd.prog 77 #[.pointer (some ⟨p, 0, none⟩)] w (StepPost p (if n = 64 then Sha.start else v) b n w) := by
  by_cases e : n = 64
  · subst e; rw [if_pos rfl]; exact hstep_64 p v b w h hK
  · rw [if_neg e]; exact hstep_on p v b n w h hK e hn
end Go.Proofs.YtgiakpnkidblpaaDoor
