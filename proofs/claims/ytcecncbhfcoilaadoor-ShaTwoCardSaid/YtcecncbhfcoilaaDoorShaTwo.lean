/-
  ShaTwo: a text of 64 to 119 bytes is two blocks: its first 64 bytes; and the others, a byte 80, bytes 0, and how many bits it has. For any 64 bytes and every text behind them (its first 55 bytes); the numbers K are as the program's text lays them.
-/
import Derived.Test.YtcecncbhfcoilaaDoorShaLaw
import Derived.Test.YtcecncbhfcoilaaDoorShaOneA
import Derived.Test.YtcecncbhfcoilaaDoorMacNew
import Derived.Test.YtcecncbhfcoilaaDoorRefStep2
namespace Go.Proofs.YtcecncbhfcoilaaDoor.shaTwo
open Go.ChangeShapes Go.WideShapes Go.ChangeAt Go.RowKit

def z128 : List UInt8 := List.replicate 128 0
theorem info_128 : (Tryd.prog.info? 38).map (fun i => (i.zero, i.size)) = some (some (.agg (z128.map u8V).toArray), 128) := by kernel_rfl
/-- Ahead of byte k of the first 64, which are laid into block B. -/
def Fill1 (A B : Nat) (a : List UInt8) (w : World) (si : Value) (wr : World) : Prop :=
  ∃ k : Nat, k ≤ 64 ∧ si = .int .i64 k ∧ wr.heap[B]? = some (.cells ((a.take k ++ List.replicate (128 - k) 0).map u8V).toArray 38 (0, 0)) ∧ wr.heap[A]? = some (.cells (a.map u8V).toArray 37 (0, 0)) ∧ Below w.heap.size w wr
/-- Ahead of byte k of the text behind them. -/
def Fill2 (A B : Nat) (a T : List UInt8) (w : World) (si : Value) (wr : World) : Prop :=
  ∃ k : Nat, k ≤ T.length ∧ si = .int .i64 k ∧ wr.heap[B]? = some (.cells ((a ++ (T.take k ++ List.replicate (64 - k) 0)).map u8V).toArray 38 (0, 0)) ∧ wr.heap[A]? = some (.cells (a.map u8V).toArray 37 (0, 0)) ∧ Below w.heap.size w wr

/-- Ahead of block k of the text F, which lies in block B. -/
def TwoRel (A B q : Nat) (a F : List UInt8) (w : World) (si : Value) (wr : World) : Prop :=
  ∃ k : Nat, k ≤ 2 ∧ si = .int .i64 k ∧ wr.heap[q]? = some (.cells (vC (Sha.run Sha.start k F)) 23 (0, 0)) ∧ wr.heap[B]? = some (.cells (F.map u8V).toArray 38 (0, 0)) ∧ wr.heap[A]? = some (.cells (a.map u8V).toArray 37 (0, 0)) ∧ Below w.heap.size w wr
/-- Ahead of byte i of it. -/
def BlkRel (A B q C : Nat) (a F : List UInt8) (V : Sha.V) (P : List UInt8) (w : World) (si : Value) (wr : World) : Prop :=
  ∃ i : Nat, i ≤ 64 ∧ si = .int .i64 i ∧ wr.heap[C]? = some (.cells (bC (Sha.parts P i)) 24 (0, 0)) ∧ wr.heap[q]? = some (.cells (vC V) 23 (0, 0)) ∧ wr.heap[B]? = some (.cells (F.map u8V).toArray 38 (0, 0)) ∧ wr.heap[A]? = some (.cells (a.map u8V).toArray 37 (0, 0)) ∧ Below w.heap.size w wr

set_option maxHeartbeats 8000000 in
set_option maxRecDepth 100000 in
theorem walk {w : World} (hK : KT w) (a : List UInt8) (ha : a.length = 64) (s : ByteArray) (_ : s.size ≤ maxLen) :
    Calls Tryd.prog 6 #[.agg (a.map u8V).toArray, .string s] w fun e w' => e = .returned (.bool true) ∧ Below w.heap.size w w' := by
  obtain ⟨t, ht⟩ : ∃ t, t = shortB s 55 := ⟨_, rfl⟩
  have ht55 : t.size ≤ 55 := by rw [ht]; exact shortB_size s 55
  obtain ⟨T, hT⟩ : ∃ T, T = t.data.toList := ⟨_, rfl⟩
  have hTl : T.length = t.size := by rw [hT]; exact (Lib.size_eq t).symm
  have Ht := Lib.hid ht
  have HT := Lib.hid hT
  have HTl := Lib.hid hTl
  have Ha := Lib.hid ha
  clear ht hT hTl ha
  go_enter Tryd.func6, Tryd.ntmps6
  go_upto_region 1 with (fail)
  obtain ⟨w0, hw0⟩ : ∃ w0, w0 = w.alloc (.cells (a.map u8V).toArray 37) := ⟨_, rfl⟩
  have b0 : Below w.heap.size w w0 := by rw [hw0]; exact (Below.refl _ _).alloc (Nat.le_refl _) _
  have h0 : w0.heap[w.heap.size]? = some (.cells (a.map u8V).toArray 37 (0, 0)) := by rw [hw0]; exact heap_alloc_last w _
  rw [← hw0]
  have hK0 := hK.old b0
  have l0 : w.heap.size < w0.heap.size := (Array.getElem?_eq_some_iff.1 h0).1
  have H0 := Lib.hid h0
  clear hw0 h0
  go_upto_region 3 with (first
    | (go_at_call 12; refine (awake_any _ hK0).mono ?_; rintro e w1 ⟨rfl, b1⟩)
    | (go_at_call 17; refine (short_any s 55 55 rfl _).mono ?_; rintro e w2 ⟨rfl, rfl⟩; rw [← Ht.out]))
  have hz := (zero_of_info info_128).1
  go_upto_region 4 with (fail)
  obtain ⟨w2, hw2⟩ : ∃ w2, w2 = w1.alloc (.cells (z128.map u8V).toArray 38) := ⟨_, rfl⟩
  have b2 : Below w1.heap.size w1 w2 := by rw [hw2]; exact (Below.refl _ _).alloc (Nat.le_refl _) _
  have h2 : w2.heap[w1.heap.size]? = some (.cells ((a.take 0 ++ List.replicate (128 - 0) 0).map u8V).toArray 38 (0, 0)) := by rw [hw2]; exact heap_alloc_last w1 _
  have h2a : w2.heap[w.heap.size]? = some (.cells (a.map u8V).toArray 37 (0, 0)) := (b2.block _ (Nat.lt_of_lt_of_le l0 b1.size)).trans ((b1.block _ l0).trans H0.out)
  have bb2 : Below w.heap.size w w2 := below_step (below_step b0 (Nat.le_refl _) b1) (Nat.le_refl _) b2
  rw [← hw2]
  have hAB : w.heap.size < w1.heap.size := Nat.lt_of_lt_of_le l0 b1.size
  have HH2 := Lib.hid h2
  have HH2a := Lib.hid h2a
  clear hw2 h2 h2a hz b2 b1
  go_wp2
  go_loopw [7] (Fill1 w.heap.size w1.heap.size a w) (fun i _ => 64 - (intOf i).toNat)
  case atStart => exact ⟨0, by omega, rfl, HH2.out, HH2a.out, bb2⟩
  case round =>
    obtain ⟨k, hk, rfl, hh, hA, hbl⟩ := hrel
    by_cases hlt : k < 64
    · have hk64 : (k : Int) < 64 := by omega
      have hk128 : (k : Int) < 128 := by omega
      have hl : (a.take k ++ List.replicate (128 - k) (0 : UInt8)).length = 128 := by rw [List.length_append, List.length_take, List.length_replicate, Ha.out]; omega
      have ck := cell_u8D hh k (by omega)
      have fk := fz_of hh k
      have cx := cell_u8D hA k (by rw [Ha.out]; exact hlt)
      have fs := fill_step a k 128 (by rw [Ha.out]; exact hlt) (by rw [Ha.out]; omega)
      generalize a.getD k 0 = x at *
      have HH := Lib.hid hh
      have HA := Lib.hid hA
      have FS := Lib.hid fs
      clear hh hA fs hl
      go_wp2
      refine ⟨⟨k + 1, by omega, by go_num, ?_, (heap_far (by omega) _).trans HA.out, hbl.setCell (by show w.heap.size ≤ w1.heap.size; omega) _⟩, by simp [intOf]; omega⟩
      rw [heap_set HH.out, u8_set, FS.out]
    · obtain rfl : 64 = k := by omega
      have hB : wr.heap[w1.heap.size]? = some (.cells ((a ++ (T.take 0 ++ List.replicate (64 - 0) 0)).map u8V).toArray 38 (0, 0)) := by
        rw [List.take_of_length_le (by rw [Ha.out]; exact Nat.le_refl _)] at hh
        exact hh
      have HB := Lib.hid hB
      have HA := Lib.hid hA
      clear hh hA hB HH2 HH2a bb2
      go_wp2
      go_loopw [8] (Fill2 w.heap.size w1.heap.size a T w) (fun i _ => T.length - (intOf i).toNat)
      case atStart => exact ⟨0, by omega, rfl, HB.out, HA.out, hbl⟩
      case round =>
        obtain ⟨k, hk2, rfl, hh, hA, hbl2⟩ := hrel
        by_cases hlt2 : k < T.length
        · have hks : k < t.size := by have := HTl.out; omega
          have hks' : (k : Int) < t.size := by omega
          have hk64 : (64 : Int) + (k : Int) < 128 := by omega
          have hl : (a ++ (T.take k ++ List.replicate (64 - k) (0 : UInt8))).length = 128 := by rw [List.length_append, List.length_append, List.length_take, List.length_replicate, Ha.out]; have := HTl.out; omega
          have ck := cell_u8D hh (64 + k) (by have := HTl.out; omega)
          have fk := fz_of hh (64 + k)
          have hx : t[k] = T.getD k 0 := by
            have e := HT.out
            subst e
            rw [List.getD_eq_getElem?_getD, List.getElem?_eq_getElem (by rw [HTl.out]; exact hks)]
            rfl
          have fs := fill_step T k 64 hlt2 (by have := HTl.out; omega)
          have HH := Lib.hid hh
          have HA2 := Lib.hid hA
          have HX := Lib.hid hx
          have FS := Lib.hid fs
          clear hh hA hx fs hl
          go_wp2
          refine ⟨⟨k + 1, by omega, by go_num, ?_, (heap_far (by omega) _).trans HA2.out, hbl2.setCell (by show w.heap.size ≤ w1.heap.size; omega) _⟩, by simp [intOf]; omega⟩
          rw [heap_set HH.out, HX.out, u8_set, List.set_append_right _ _ (by rw [Ha.out]; omega), Ha.out, Nat.add_sub_cancel_left, FS.out]
        · obtain rfl : T.length = k := by omega
          have hTn := HTl.out
          rw [List.take_length] at hh
          obtain ⟨P0, hP0⟩ : ∃ P0, P0 = a ++ (T ++ List.replicate (64 - T.length) (0 : UInt8)) := ⟨_, rfl⟩
          rw [← hP0] at hh
          have hPl : P0.length = 128 := by rw [hP0, List.length_append, List.length_append, List.length_replicate, Ha.out]; omega
          have hns : ¬ T.length < t.size := by omega
          have hns' : ¬ (T.length : Int) < t.size := by omega
          have cn := cell_u8D hh (64 + t.size) (by omega)
          have c126 := cell_u8D hh 126 (by omega)
          have c127 := cell_u8D hh 127 (by omega)
          have fn := fz_of hh (64 + t.size)
          have f126 := fz_of hh 126
          have f127 := fz_of hh 127
          have q126 : 64 + t.size ≠ 126 := by omega
          have q127 : 64 + t.size ≠ 127 := by omega
          have q126' : ¬ 126 = 64 + t.size := by omega
          have q127' : ¬ 127 = 64 + t.size := by omega
          have hn64 : (64 : Int) + (t.size : Int) < 128 := by omega
          have HH := Lib.hid hh
          have HP0 := Lib.hid hP0
          have HPl := Lib.hid hPl
          have HA2 := Lib.hid hA
          clear hh hP0 hPl hTn hA
          go_upto_region 16 with (fail)
          obtain ⟨w3, hw3⟩ : ∃ w3, w3 = ((wr.setCell ⟨w1.heap.size, 64 + t.size, none⟩ (.int .u8 128)).setCell ⟨w1.heap.size, 126, none⟩ (.int .u8 (8 * (64 + (t.size : Int)) / 256))).setCell ⟨w1.heap.size, 127, none⟩ (.int .u8 (8 * (64 + (t.size : Int)) % 256)) := ⟨_, rfl⟩
          obtain ⟨P, hP⟩ : ∃ P, P = T ++ Sha.endL (64 + t.size) := ⟨_, rfl⟩
          have h3 : w3.heap[w1.heap.size]? = some (.cells ((a ++ P).map u8V).toArray 38 (0, 0)) := by
            rw [hw3, heap_set (heap_set (heap_set HH.out _) _) _]
            have e1 : 8 * (64 + (t.size : Int)) / 256 = ((UInt8.ofNat (8 * (64 + t.size) / 256)).toNat : Int) := by rw [UInt8.toNat_ofNat']; omega
            have e2 : 8 * (64 + (t.size : Int)) % 256 = ((UInt8.ofNat (8 * (64 + t.size))).toNat : Int) := by rw [UInt8.toNat_ofNat']; omega
            rw [show Value.int .u8 128 = .int .u8 ((128 : UInt8).toNat : Int) from rfl, e1, e2, u8_set, u8_set, u8_set, HP0.out, List.set_append_right _ _ (by rw [Ha.out]; omega), List.set_append_right _ _ (by rw [Ha.out]; omega), List.set_append_right _ _ (by rw [Ha.out]; omega), Ha.out, Nat.add_sub_cancel_left, show 126 - 64 = 62 from rfl, show 127 - 64 = 63 from rfl]
            have lb := last_block T (64 + t.size) (by rw [HTl.out]; exact ht55) (by have := HTl.out; omega) (by omega)
            rw [HTl.out] at lb ⊢
            rw [lb, hP]
          have hPl : P.length = 64 := by rw [hP, List.length_append, Sha.endL_length, HTl.out]; unfold Sha.zeros; omega
          have h3a : w3.heap[w.heap.size]? = some (.cells (a.map u8V).toArray 37 (0, 0)) := by rw [hw3]; exact (heap_far (by omega) _).trans ((heap_far (by omega) _).trans ((heap_far (by omega) _).trans HA2.out))
          have hle : w.heap.size ≤ w1.heap.size := by omega
          have b3 : Below w.heap.size w w3 := by rw [hw3]; exact ((hbl2.setCell (by show w.heap.size ≤ w1.heap.size; exact hle) _).setCell (by show w.heap.size ≤ w1.heap.size; exact hle) _).setCell (by show w.heap.size ≤ w1.heap.size; exact hle) _
          have hlt3 : w1.heap.size < w3.heap.size := (Array.getElem?_eq_some_iff.1 h3).1
          rw [← hw3]
          have H3 := Lib.hid h3
          have H3A := Lib.hid h3a
          have HP := Lib.hid hP
          have HPL := Lib.hid hPl
          clear hw3 h3 h3a hP hPl cn c126 c127 fn f126 f127 q126 q127 q126' q127' HH HP0 HPl HA2
          go_upto_region 17 with (first
            | (go_at_call 15; refine (start_e _).mono ?_; rintro e w4 ⟨rfl, b4⟩))
          obtain ⟨w5, hw5⟩ : ∃ w5, w5 = w4.alloc (.cells (vC Sha.start) 23) := ⟨_, rfl⟩
          have b5 : Below w4.heap.size w4 w5 := by rw [hw5]; exact (Below.refl _ _).alloc (Nat.le_refl _) _
          have h5 : w5.heap[w4.heap.size]? = some (.cells (vC Sha.start) 23 (0, 0)) := by rw [hw5]; exact heap_alloc_last w4 _
          change Code.wp _ _ _ _ (w4.alloc (.cells (vC Sha.start) 23))
          rw [← hw5]
          obtain ⟨F, hF⟩ : ∃ F, F = a ++ P := ⟨_, rfl⟩
          have hFl : F.length = 128 := by rw [hF, List.length_append, Ha.out, HPL.out]
          have hFf : F = Sha.full (a ++ T) := by rw [hF, HP.out]; unfold Sha.full; rw [List.length_append, Ha.out, HTl.out, List.append_assoc]
          have b45 := below_step b4 (Nat.le_refl _) b5
          have l34 : w1.heap.size < w4.heap.size := Nat.lt_of_lt_of_le hlt3 b4.size
          have F5 : Hid (w5.heap[w1.heap.size]? = some (.cells (F.map u8V).toArray 38 (0, 0))) := Lib.hid (by rw [hF]; exact (b45.block _ hlt3).trans H3.out)
          have A5 : Hid (w5.heap[w.heap.size]? = some (.cells (a.map u8V).toArray 37 (0, 0))) := Lib.hid ((b45.block _ (by omega)).trans H3A.out)
          have bb5 := below_step b3 (Nat.le_refl _) b45
          have H5 := Lib.hid h5
          have HFl := Lib.hid hFl
          have HFf := Lib.hid hFf
          clear hw5 h5 hF hFl hFf H3 H3A HP HPL b3 b4 b5 b45
          generalize w1.heap.size = B at *
          generalize w4.heap.size = q at *
          go_wp2
          go_loopw [11] (TwoRel w.heap.size B q a F w) (fun i _ => 2 - (intOf i).toNat)
          case atStart => exact ⟨0, by omega, rfl, H5.out, F5.out, A5.out, bb5⟩
          case round =>
            clear H5 F5 A5 bb5
            obtain ⟨k, hk, rfl, hq, hB, hA, hbl⟩ := hrel
            by_cases hltk : k < 2
            · obtain ⟨P, hP⟩ : ∃ P, P = (F.drop (64 * k)).take 64 := ⟨_, rfl⟩
              have hPl : P.length = 64 := by rw [hP, List.length_take, List.length_drop, HFl.out]; omega
              have hsn := Sha.run_snoc k Sha.start F
              rw [← hP] at hsn
              have hVok := Sha.run_ok k Sha.start F Sha.start_ok
              generalize Sha.run Sha.start k F = V at *
              have hqr : q < wr.heap.size := (Array.getElem?_eq_some_iff.1 hq).1
              have hk2 : (k : Int) < 2 := by omega
              have HQ := Lib.hid hq
              have HB := Lib.hid hB
              have HA := Lib.hid hA
              have HP := Lib.hid hP
              have HPl := Lib.hid hPl
              have HSN := Lib.hid hsn
              clear hq hB hA hP hPl hsn
              go_upto_region 21 with (fail)
              obtain ⟨w6, hw6⟩ : ∃ w6, w6 = wr.alloc (.cells (bC (Sha.parts P 0)) 24) := ⟨_, rfl⟩
              have b6 : Below wr.heap.size wr w6 := by rw [hw6]; exact (Below.refl _ _).alloc (Nat.le_refl _) _
              have h6 : w6.heap[wr.heap.size]? = some (.cells (bC (Sha.parts P 0)) 24 (0, 0)) := by rw [hw6]; exact heap_alloc_last wr _
              have hw6' : w6 = wr.alloc (.cells (bC [0, 0, 0, 0, 0, 0, 0, 0, 0, 0, 0, 0, 0, 0, 0, 0]) 24) := by rw [hw6, Sha.parts_zero]
              change Code.wp _ _ _ _ (wr.alloc (.cells (bC [0, 0, 0, 0, 0, 0, 0, 0, 0, 0, 0, 0, 0, 0, 0, 0]) 24))
              rw [← hw6']
              have H6 := Lib.hid h6
              have HQ6 := Lib.hid ((b6.block _ hqr).trans HQ.out)
              have HB6 := Lib.hid ((b6.block _ (by omega)).trans HB.out)
              have HA6 := Lib.hid ((b6.block _ (by omega)).trans HA.out)
              have bb6 := below_step hbl (Nat.le_refl _) b6
              clear hw6 hw6' h6 HQ HB HA hbl b6
              generalize wr.heap.size = C at *
              go_wp2
              go_loopw [13] (BlkRel w.heap.size B q C a F V P w) (fun i _ => 64 - (intOf i).toNat)
              case atStart => exact ⟨0, by omega, rfl, H6.out, HQ6.out, HB6.out, HA6.out, bb6⟩
              case round =>
                clear H6 HQ6 HB6 HA6 bb6
                obtain ⟨i, hi, rfl, hC, hq, hB, hA, hbi⟩ := hrel
                by_cases hlt2 : i < 64
                · obtain ⟨u, hu⟩ : ∃ u, u = i / 4 := ⟨_, rfl⟩
                  have e4 : (i : Int) / 4 = (u : Int) := by omega
                  have e4' : (i : Int).tdiv 4 = (u : Int) := by rw [Int.tdiv_eq_ediv_of_nonneg (by omega)]; omega
                  have cu := cell_bC hC u (by rw [Sha.parts_length]; omega)
                  have fu := fz_of hC u
                  have sq : (Sha.parts P i).getD u 0 < 16777216 := by rw [Sha.parts_getD P i u (by omega), hu]; exact Sha.part_small P i
                  have ps := Sha.parts_step P i (by rw [HPl.out]; exact hlt2) hlt2
                  rw [← hu] at ps
                  generalize (Sha.parts P i).getD u 0 = N at *
                  obtain ⟨j, hj⟩ : ∃ j, j = 64 * k + i := ⟨_, rfl⟩
                  have hj128 : j < 128 := by omega
                  have ej : (64 : Int) * (k : Int) + (i : Int) = (j : Int) := by omega
                  have cx := cell_u8D hB j (by rw [HFl.out]; exact hj128)
                  have hx : F.getD j 0 = P.getD i 0 := by
                    rw [HP.out, List.getD_eq_getElem?_getD, List.getD_eq_getElem?_getD, List.getElem?_take_of_lt hlt2, List.getElem?_drop, hj]
                  rw [hx] at cx
                  have bu : u < 16 := by omega
                  generalize P.getD i 0 = x at *
                  have hx8 : x.toNat < 256 := x.toNat_lt
                  have eo := or_form2 N x sq
                  have Hu := Lib.hid hu
                  have Hj := Lib.hid hj
                  have HPS := Lib.hid ps
                  have HC := Lib.hid hC
                  have HQ := Lib.hid hq
                  have HB := Lib.hid hB
                  have HA := Lib.hid hA
                  clear hu ps hC hq hB hA hx hj
                  go_wp2
                  go_region
                  all_goals (
                    go_wp2
                    refine ⟨⟨i + 1, by omega, by go_num, ?_, (heap_far (w := wr) (by omega) _).trans HQ.out, (heap_far (w := wr) (by omega) _).trans HB.out, (heap_far (w := wr) (by omega) _).trans HA.out, ?_⟩, by simp [intOf]; omega⟩
                    · refine (heap_set (w := wr) HC.out _).trans ?_
                      rw [show (N : Int) * 256 + (x.toNat : Int) = ((N * 256 + x.toNat : Nat) : Int) by omega, bC_set, HPS.out]
                    · have := hbi.setCell (p := ⟨C, u, none⟩) (by show w.heap.size ≤ C; omega) (.int .u32 ((N : Int) * 256 + (x.toNat : Int)))
                      exact ⟨this.os, this.tape, this.output, this.size, this.block⟩)
                · obtain rfl : 64 = i := by omega
                  rw [Sha.parts_all] at hC
                  have hwl := Sha.words_lt P
                  have hWl := Sha.words_length P
                  have hrC : wr.rangeAt C 0 ((Sha.words P).map u32V) := fun j x hx => by rw [Nat.zero_add, cell_of hC]; simpa [bC] using hx
                  have hiW : (Tryd.prog.info? 24).map (·.size) = some ((Sha.words P).map u32V).length := by rw [List.length_map, hWl]; exact info_24
                  obtain ⟨U, hU⟩ : ∃ U, U = Sha.step V (Sha.words P) := ⟨_, rfl⟩
                  have c0 := cell_of hq 0
                  have c1 := cell_of hq 1
                  have c2 := cell_of hq 2
                  have c3 := cell_of hq 3
                  have c4 := cell_of hq 4
                  have c5 := cell_of hq 5
                  have c6 := cell_of hq 6
                  have c7 := cell_of hq 7
                  simp only [vC, List.getElem?_toArray, List.getElem?_cons_zero, List.getElem?_cons_succ] at c0 c1 c2 c3 c4 c5 c6 c7
                  have hst := step_any V (Sha.words P) wr hWl hVok hwl (hK.old hbi)
                  rw [← hU] at hst
                  unfold vC at hst
                  have HST2 := Lib.hid hst
                  have HRC := Lib.hid hrC
                  have HIW := Lib.hid hiW
                  have HQ := Lib.hid hq
                  have HB := Lib.hid hB
                  have HA := Lib.hid hA
                  have HU := Lib.hid hU
                  have hqr : q < wr.heap.size := (Array.getElem?_eq_some_iff.1 hq).1
                  clear hC hwl hWl hrC hiW hst hq hB hA hU
                  simp only [Int.cast_ofNat_Int]
                  go_upto_region 19 with (first
                    | refine wpList_load_mid rfl 24 (.tmp 12) rfl C 0 rfl ((Sha.words P).map u32V) _ HRC.out Tryd.underlying24 rfl HIW.out ?_
                    | (go_at_call 13; refine HST2.out.mono ?_; rintro e w6 ⟨rfl, b6⟩; have q6 := (b6.block _ hqr).trans HQ.out; have k0 := (cell_of q6 0); have k1 := (cell_of q6 1); have k2 := (cell_of q6 2); have k3 := (cell_of q6 3); have k4 := (cell_of q6 4); have k5 := (cell_of q6 5); have k6 := (cell_of q6 6); have k7 := (cell_of q6 7); have f0 := fz_of q6 0; have f1 := fz_of q6 1; have f2 := fz_of q6 2; have f3 := fz_of q6 3; have f4 := fz_of q6 4; have f5 := fz_of q6 5; have f6 := fz_of q6 6; have f7 := fz_of q6 7; have Q6 := Lib.hid q6; clear q6; simp only [vC, List.getElem?_toArray, List.getElem?_cons_zero, List.getElem?_cons_succ] at k0 k1 k2 k3 k4 k5 k6 k7))
                  obtain ⟨w7, hw7⟩ : ∃ w7, w7 = (((((((w6.setCell ⟨q, 0, none⟩ (.int .u32 U.a)).setCell ⟨q, 1, none⟩ (.int .u32 U.b)).setCell ⟨q, 2, none⟩ (.int .u32 U.c)).setCell ⟨q, 3, none⟩ (.int .u32 U.d)).setCell ⟨q, 4, none⟩ (.int .u32 U.e)).setCell ⟨q, 5, none⟩ (.int .u32 U.f)).setCell ⟨q, 6, none⟩ (.int .u32 U.g)).setCell ⟨q, 7, none⟩ (.int .u32 U.h) := ⟨_, rfl⟩
                  have oo : Only q w6 w7 := by rw [hw7]; exact ((((((((Only.refl q w6).setCell 0 _).setCell 1 _).setCell 2 _).setCell 3 _).setCell 4 _).setCell 5 _).setCell 6 _).setCell 7 _
                  have q7 : w7.heap[q]? = some (.cells (vC U) 23 (0, 0)) := by rw [hw7]; exact put8v V U Q6.out
                  rw [← hw7]
                  have bb6 : Below w.heap.size w w6 := below_step hbi (Nat.le_refl _) b6
                  have hq6 := (Array.getElem?_eq_some_iff.1 Q6.out).1
                  have B7 := Lib.hid ((oo.block _ (by omega) (by omega)).trans ((b6.block _ (by omega)).trans HB.out))
                  have A7 := Lib.hid ((oo.block _ (by omega) (by omega)).trans ((b6.block _ (by omega)).trans HA.out))
                  have bb7 : Below w.heap.size w w7 := bb6.trans (oo.below (by omega) bb6.size)
                  have Q7 := Lib.hid q7
                  clear hw7 q7 k0 k1 k2 k3 k4 k5 k6 k7 f0 f1 f2 f3 f4 f5 f6 f7 c0 c1 c2 c3 c4 c5 c6 c7
                  go_wp2
                  refine ⟨⟨k + 1, by omega, by go_num, ?_, B7.out, A7.out, bb7⟩, by simp [intOf]; omega⟩
                  rw [HSN.out, ← HU.out]; exact Q7.out
            · obtain rfl : 2 = k := by omega
              obtain ⟨u, hu⟩ : ∃ u, u = Sha.run Sha.start 2 F := ⟨_, rfl⟩
              rw [← hu] at hq
              have uok : u.ok := by rw [hu]; exact Sha.run_ok 2 Sha.start F Sha.start_ok
              obtain ⟨D, hD⟩ : ∃ D, D = Sha.digest (a ++ T) := ⟨_, rfl⟩
              have hDl : D.length = 32 := by rw [hD]; exact Sha.digest_length _
              have hDu : D = u.bytes := by rw [hD, hu]; unfold Sha.digest; rw [← HFf.out, HFl.out]
              have hcv := convert_bytes wr w.heap.size 64 64 a Ha.out (cell_u8 hA)
              have hsl := slice_all64
              have hqr : q < wr.heap.size := (Array.getElem?_eq_some_iff.1 hq).1
              have hof := of_two ⟨a.toArray⟩ t (a ++ T) (by rw [HT.out]) wr (hK.old hbl) (by rw [List.length_append, Ha.out, HTl.out]; omega)
              rw [← hD] at hof
              have HOF := Lib.hid hof
              have HQ := Lib.hid hq
              have HDl := Lib.hid hDl
              have HDu := Lib.hid hDu
              clear hq hB hA hu hD hDl hDu hof
              simp only [Int.cast_ofNat_Int]
              go_upto_region 27 with (first
                | (go_at_call 18; ((with_reducible refine HOF.out.mono ?_); rintro e w7 ⟨rfl, b7⟩))
                | refine wpList_store_mid rfl 30 (.tmp 14) (.tmp 87) rfl w7.heap.size 0 (D.map u8V).toArray rfl rfl (sum_there (heap_alloc_last w7 _) HDl.out) (sum_info HDl.out) (sum_one D) ?_)
              obtain ⟨w8, hw8⟩ : ∃ w8, w8 = (w7.alloc (.cells ((List.replicate 32 (0 : UInt8)).map u8V).toArray 30)).setCells w7.heap.size 0 (D.map u8V) := ⟨_, rfl⟩
              have b8 : Below w7.heap.size w7 w8 := by rw [hw8]; exact below_setCells (Nat.le_refl _) _ _ _ ((Below.refl _ _).alloc (Nat.le_refl _) _)
              have h8 : w8.heap[w7.heap.size]? = some (.cells (D.map u8V).toArray 30 (0, 0)) := by
                rw [hw8]; exact heap_setCells_all w7 ((List.replicate 32 (0 : UInt8)).map u8V) (D.map u8V) (by rw [List.length_map, List.length_map, HDl.out]; rfl)
              have h98 : w8.heap[q]? = some (.cells (vC u) 23 (0, 0)) := (b8.block _ (Nat.lt_of_lt_of_le hqr b7.size)).trans ((b7.block _ hqr).trans HQ.out)
              have bb8 : Below w.heap.size w w8 := below_step (below_step hbl (Nat.le_refl _) b7) (Nat.le_refl _) b8
              change Code.wp _ _ _ _ ((w7.alloc (.cells ((List.replicate 32 (0 : UInt8)).map u8V).toArray 30)).setCells w7.heap.size 0 (D.map u8V))
              rw [← hw8]
              have H8 := Lib.hid h8
              have H98 := Lib.hid h98
              clear hw8 h8 h98 b7 b8 hcv hsl
              go_wp2
              go_loopw [15] (CmpRel w7.heap.size q D u w) (fun i _ => 32 - (intOf i).toNat)
              case atStart => exact ⟨0, by omega, rfl, H8.out, H98.out, bb8⟩
              case round =>
                obtain ⟨i, hi, rfl, hp, hq, hbi3⟩ := hrel
                by_cases hlt : i < 32
                · obtain ⟨j, hj⟩ : ∃ j, j = i / 4 := ⟨_, rfl⟩
                  obtain ⟨r, hr⟩ : ∃ r, r = i % 4 := ⟨_, rfl⟩
                  have bj : j < 8 := by omega
                  have br : r < 4 := by omega
                  have e4 : (i : Int).tdiv 4 = (j : Int) := by rw [Int.tdiv_eq_ediv_of_nonneg (by omega)]; omega
                  have e4r : (i : Int).tmod 4 = (r : Int) := by rw [Int.tmod_eq_emod_of_nonneg (by omega)]; omega
                  have cx := cell_u8D hp i (by rw [HDl.out]; exact hlt)
                  have cy : wr.cell? ⟨q, j, none⟩ = some (.int .u32 (u.list.getD j 0 : Nat)) := by rw [cell_of hq]; exact vC_at u j bj
                  have ey := bytes_at u i hlt
                  rw [← HDu.out, ← hj, ← hr] at ey
                  have lx := list_lt u uok j
                  generalize u.list.getD j 0 = x at *
                  generalize D.getD i 0 = y at *
                  have ev : (x : Int) / 2 ^ (24 - 8 * r) % 256 = (y.toNat : Int) := by
                    rw [ey, UInt8.toNat_ofNat']
                    simp
                  have HP8 := Lib.hid hp
                  have HQ8 := Lib.hid hq
                  have Hj := Lib.hid hj
                  have Hr := Lib.hid hr
                  have Hey := Lib.hid ey
                  have g0 : IntKind.i64.wrap 0 = 0 := by decide
                  have g8 : IntKind.i64.wrap 8 = 8 := by decide
                  have g16 : IntKind.i64.wrap 16 = 16 := by decide
                  have g24 : IntKind.i64.wrap 24 = 24 := by decide
                  have f0 : IntKind.u64.wrap 0 = 0 := by decide
                  have f8 : IntKind.u64.wrap 8 = 8 := by decide
                  have f16 : IntKind.u64.wrap 16 = 16 := by decide
                  have f24 : IntKind.u64.wrap 24 = 24 := by decide
                  clear hp hq hj hr ey
                  have hrr : r = 0 ∨ r = 1 ∨ r = 2 ∨ r = 3 := by omega
                  rcases hrr with rfl | rfl | rfl | rfl
                  all_goals (
                    simp only [Nat.reduceMul, Nat.reduceSub, Int.reducePow, Int.ediv_one, Int.pow_zero, Int.cast_ofNat_Int] at ev e4r
                    go_wp2
                    go_quiet (fail)
                    go_wp2
                    exact ⟨⟨i + 1, by omega, by go_num, HP8.out, HQ8.out, below_drewN hbi3 _⟩, by simp [intOf]; omega⟩)
                · go_wp2
                  go_ret
                  exact ⟨rfl, hbi3⟩

set_option maxRecDepth 100000 in
theorem lifted (os : Os) (started : os.Started) (H : Type) (enc : TypeId × Value → H) :
    ReturnsInHanded {} Tryd.checked os 6 .any (fun w args => (Rows.shaTwoSpec.pre enc Tryd.prog Tryd.f6 [] false w args ∧ laidMetH Tryd.prog [("scrinium/sha.k", Rows.laid_scrinium_sha_k)] w) ∧ sizedMet enc Tryd.prog Tryd.f6 (OpenSpec.ofChange Rows.shaTwoSpec) false w args)
      (Rows.shaTwoSpec.post enc Tryd.prog Tryd.f6 false true false false) := by
  refine returnsInHanded_of_change_and (C := Tryd.checked) (X := fun w _ => laidMetH Tryd.prog [("scrinium/sha.k", Rows.laid_scrinium_sha_k)] w) (fun _ _ _ hh h => h.of_heap hh) lawOwn started (by kernel_rfl) Tryd.func6
    (ChangeSpec.witness_shaped (enc := enc) (C := Tryd.checked) (os := os) (X := fun w _ => laidMetH Tryd.prog [("scrinium/sha.k", Rows.laid_scrinium_sha_k)] w) false (World.doorLaid Tryd.prog 400 os) #[.agg ((List.replicate 64 (0 : UInt8)).map u8V).toArray, .string .empty] 8 rfl (World.shaped_of_RefB (by kernel_rfl) (by kernel_rfl)) (by kernel_rfl) (by kernel_rfl) (by kernel_rfl) (door_met os _)) ?_
  intro W base args ds gs before hval0 hW _ _ hL _
  have hval : ∀ (j : Nat) t v, Tryd.f6.params[j]? = some t → args[j]? = some v → Value.okWide Tryd.prog W .any base t v := hval0
  have hW' := hW
  obtain ⟨p, q, hA0, hV, rfl, hfz, hnd⟩ := hW
  have hA : DataW.TrodAll enc Tryd.prog W 0 (fun _ => true) true Tryd.f6.params.toList args.toList ds p := hA0
  rw [Tryd.params6] at hA hval
  obtain ⟨v0, vs0, d0, ds0, p0, q0, hargs, rfl, rfl, h0, r0⟩ := trodAll_cons hA
  obtain ⟨v1, vs1, d1, ds1, p1, q1, rfl, rfl, rfl, h1, r1⟩ := trodAll_cons r0
  obtain ⟨rfl, rfl, rfl⟩ := trodAll_nil r1
  obtain rfl : args = #[v0, v1] := by cases args; simp_all
  obtain ⟨rfl, rfl⟩ := trodVars_none hV
  have hKT := KT_of_laid hL
  obtain ⟨x0, rfl, w0⟩ := open_64 (hval 0 37 v0 rfl rfl) h0
  obtain ⟨s1, rfl, rfl, rfl, w1⟩ := Go.ChangeMaps.open_string Tryd.underlying9 (hval 1 9 v1 rfl rfl) h1
  clear hA0 hval0
  refine (walk (w := W) hKT x0 w0 s1 w1).mono fun e W' ⟨he, bel⟩ => ?_
  subst he
  exact ⟨_, rfl, law_post rfl rfl (by kernel_rfl) hW' rfl bel⟩

theorem row_holds : Rows.ShaTwoSaid :=
  OpenClaim.holds_of_wide 6 Tryd.f6 rfl rfl rfl rfl rfl rfl rfl ⟨rfl, rfl, rfl, rfl, rfl⟩ rfl rfl rfl rfl rfl (by kernel_rfl) Tryd.func6 (by kernel_rfl)
    (of_decide_eq_true (by kernel_rfl)) (by unfold Func.isWrapper; first | (rw [if_pos (by decide +kernel)]; kernel_rfl) | (rw [if_neg (by decide +kernel)]; exact ⟨rfl, rfl⟩))
    (fun os started H enc _ => lifted os started H enc)

theorem holds : Rows.ShaTwoCardSaid :=
  Claim7.holds_tied_plain_at .later [] [.data] true Rows.shaTwoCard.stood.harness false
    row_holds (fun _ h => by cases h) (by kernel_rfl) (fun _ h => by cases h) shaTwo_row_tie rfl ⟨rfl, rfl⟩ (by kernel_rfl) rfl
    (fun f fn hf hfn => by
      obtain rfl : f = 6 := Option.some.inj ((show Tryd.prog.funcNamed "scrinium/scriniumlaw02.ShaTwo" = some 6 by kernel_rfl).symm.trans hf) |>.symm
      obtain rfl : fn = Tryd.f6 := (Option.some.inj (Tryd.func6.symm.trans hfn)).symm
      exact ⟨by kernel_rfl, fun j t ht => by
        rw [Tryd.params6] at ht
        have hm : t ∈ [37, 9] := by simpa using Array.mem_of_getElem? ht
        have hall : ([37, 9].all fun u => !Tryd.prog.wantsStandIn u) = true := by kernel_rfl
        exact (show Tryd.prog.wantsStandIn t = false by simpa using List.all_eq_true.1 hall t hm)⟩)
    (by kernel_rfl)
end Go.Proofs.YtcecncbhfcoilaaDoor.shaTwo

theorem Go.Proofs.YtcecncbhfcoilaaDoor.shaTwo_holds : Go.Proofs.YtcecncbhfcoilaaDoor.Rows.ShaTwoCardSaid := Go.Proofs.YtcecncbhfcoilaaDoor.shaTwo.holds
#print axioms Go.Proofs.YtcecncbhfcoilaaDoor.shaTwo_holds
