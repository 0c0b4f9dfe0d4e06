/-
  ShaOne: a text of at most 55 bytes is one block: its bytes, a byte 80, bytes 0, and how many bits it has. For every text (its first 55 bytes); the numbers K are as the program's text lays them.
-/
import Derived.Test.YtcodioodckojnaaDoorShaLaw
import Derived.Test.YtcodioodckojnaaDoorShaOneA
import Derived.Deep.CutRange
import Derived.Deep.RegionHeld3
namespace Go.Proofs.YtcodioodckojnaaDoor.shaOne
open Go.ChangeShapes Go.WideShapes Go.ChangeAt Go.RowKit

set_option maxHeartbeats 8000000 in
set_option maxRecDepth 100000 in
theorem walk {w : World} (hK : KT w) (s : ByteArray) (_ : s.size ≤ maxLen) :
    Calls Tryd.prog 6 #[.string s] w fun e w' => e = .returned (.bool true) ∧ Below w.heap.size w w' := by
  obtain ⟨t, ht⟩ : ∃ t, t = shortB s 55 := ⟨_, rfl⟩
  have ht55 : t.size ≤ 55 := by rw [ht]; exact shortB_size s 55
  obtain ⟨T, hT⟩ : ∃ T, T = t.data.toList := ⟨_, rfl⟩
  have hTl : T.length = t.size := by rw [hT]; exact (Lib.size_eq t).symm
  have Ht := Lib.hid ht
  have HT := Lib.hid hT
  have HTl := Lib.hid hTl
  clear ht hT hTl
  go_enter Tryd.func6, Tryd.ntmps6
  go_upto_region 3 with (first
    | (go_at_call 10; refine (awake_any _ hK).mono ?_; rintro e w1 ⟨rfl, b1⟩)
    | (go_at_call 15; refine (short_any s 55 55 rfl _).mono ?_; rintro e w2 ⟨rfl, rfl⟩; rw [← Ht.out]))
  have hK1 := hK.old b1
  go_upto_region 4 with (fail)
  obtain ⟨w2, hw2⟩ : ∃ w2, w2 = w1.alloc (.cells #[.int .u8 0, .int .u8 0, .int .u8 0, .int .u8 0, .int .u8 0, .int .u8 0, .int .u8 0, .int .u8 0, .int .u8 0, .int .u8 0, .int .u8 0, .int .u8 0, .int .u8 0, .int .u8 0, .int .u8 0, .int .u8 0, .int .u8 0, .int .u8 0, .int .u8 0, .int .u8 0, .int .u8 0, .int .u8 0, .int .u8 0, .int .u8 0, .int .u8 0, .int .u8 0, .int .u8 0, .int .u8 0, .int .u8 0, .int .u8 0, .int .u8 0, .int .u8 0, .int .u8 0, .int .u8 0, .int .u8 0, .int .u8 0, .int .u8 0, .int .u8 0, .int .u8 0, .int .u8 0, .int .u8 0, .int .u8 0, .int .u8 0, .int .u8 0, .int .u8 0, .int .u8 0, .int .u8 0, .int .u8 0, .int .u8 0, .int .u8 0, .int .u8 0, .int .u8 0, .int .u8 0, .int .u8 0, .int .u8 0, .int .u8 0, .int .u8 0, .int .u8 0, .int .u8 0, .int .u8 0, .int .u8 0, .int .u8 0, .int .u8 0, .int .u8 0] 44) := ⟨_, rfl⟩
  have b2 : Below w1.heap.size w1 w2 := by rw [hw2]; exact (Below.refl _ _).alloc (Nat.le_refl _) _
  have h2 : w2.heap[w1.heap.size]? = some (.cells ((T.take 0 ++ List.replicate (64 - 0) 0).map u8V).toArray 44 (0, 0)) := by rw [hw2]; exact heap_alloc_last w1 _
  have bb2 : Below w.heap.size w w2 := below_step b1 (Nat.le_refl _) b2
  rw [← hw2]
  have HH2 := Lib.hid h2
  clear hw2 h2
  have hb1s : w.heap.size ≤ w1.heap.size := b1.size
  go_wp2
  go_loopw [5] (FillRel w1.heap.size T w) (fun i _ => T.length - (intOf i).toNat)
  case atStart => exact ⟨0, by omega, rfl, HH2.out, bb2⟩
  case round =>
    obtain ⟨k, hk, rfl, hh, hbl⟩ := hrel
    by_cases hlt : k < T.length
    · have hks : k < t.size := by have := HTl.out; omega
      have hks' : (k : Int) < t.size := by omega
      have hk64 : (k : Int) < 64 := by omega
      have hl : (T.take k ++ List.replicate (64 - k) (0 : UInt8)).length = 64 := by rw [List.length_append, List.length_take, List.length_replicate]; omega
      have ck := cell_u8D hh k (by omega)
      have fk := fz_of hh k
      have hx : t[k] = T.getD k 0 := by
        have e := HT.out
        subst e
        rw [List.getD_eq_getElem?_getD, List.getElem?_eq_getElem (by rw [HTl.out]; exact hks)]
        rfl
      have fs := fill_step T k 64 hlt (by have := HTl.out; omega)
      have HH := Lib.hid hh
      have HX := Lib.hid hx
      have FS := Lib.hid fs
      clear hh hx fs hl
      go_wp2
      refine ⟨⟨k + 1, by omega, by go_num, ?_, hbl.setCell (by show w.heap.size ≤ w1.heap.size; exact hb1s) _⟩, by simp [intOf]; omega⟩
      rw [heap_set HH.out, HX.out, u8_set, FS.out]
    · obtain rfl : T.length = k := by omega
      have hTn := HTl.out
      rw [List.take_length] at hh
      obtain ⟨P0, hP0⟩ : ∃ P0, P0 = T ++ List.replicate (64 - T.length) (0 : UInt8) := ⟨_, rfl⟩
      rw [← hP0] at hh
      have hPl : P0.length = 64 := by rw [hP0, List.length_append, List.length_replicate]; omega
      have hns : ¬ T.length < t.size := by omega
      have hns' : ¬ (T.length : Int) < t.size := by omega
      have cn := cell_u8D hh t.size (by omega)
      have c62 := cell_u8D hh 62 (by omega)
      have c63 := cell_u8D hh 63 (by omega)
      have fn := fz_of hh t.size
      have f62 := fz_of hh 62
      have f63 := fz_of hh 63
      have q62 : t.size ≠ 62 := by omega
      have q63 : t.size ≠ 63 := by omega
      have q62' : ¬ 62 = t.size := by omega
      have q63' : ¬ 63 = t.size := by omega
      have hn64 : (t.size : Int) < 64 := by omega
      have HH := Lib.hid hh
      have HP0 := Lib.hid hP0
      have HPl := Lib.hid hPl
      clear hh hP0 hPl hTn
      go_upto_region 12 with (fail)
      obtain ⟨w3, hw3⟩ : ∃ w3, w3 = ((wr.setCell ⟨w1.heap.size, t.size, none⟩ (.int .u8 128)).setCell ⟨w1.heap.size, 62, none⟩ (.int .u8 (8 * (t.size : Int) / 256))).setCell ⟨w1.heap.size, 63, none⟩ (.int .u8 (8 * (t.size : Int) % 256)) := ⟨_, rfl⟩
      obtain ⟨P, hP⟩ : ∃ P, P = Sha.full T := ⟨_, rfl⟩
      have h3 : w3.heap[w1.heap.size]? = some (.cells (P.map u8V).toArray 44 (0, 0)) := by
        rw [hw3, heap_set (heap_set (heap_set HH.out _) _) _]
        have e1 : 8 * (t.size : Int) / 256 = ((UInt8.ofNat (8 * t.size / 256)).toNat : Int) := by rw [UInt8.toNat_ofNat']; omega
        have e2 : 8 * (t.size : Int) % 256 = ((UInt8.ofNat (8 * t.size)).toNat : Int) := by rw [UInt8.toNat_ofNat']; omega
        rw [show Value.int .u8 128 = .int .u8 ((128 : UInt8).toNat : Int) from rfl, e1, e2, u8_set, u8_set, u8_set, HP0.out, ← HTl.out, last_block T T.length (by rw [HTl.out]; exact ht55) (by have := HTl.out; omega) (by have := HTl.out; omega), hP]
        rfl
      have hPl : P.length = 64 := by rw [hP]; exact full_one T (by rw [HTl.out]; exact ht55)
      have b3 : Below w.heap.size w w3 := by rw [hw3]; exact ((hbl.setCell (by show w.heap.size ≤ w1.heap.size; exact hb1s) _).setCell (by show w.heap.size ≤ w1.heap.size; exact hb1s) _).setCell (by show w.heap.size ≤ w1.heap.size; exact hb1s) _
      have hlt3 : w1.heap.size < w3.heap.size := (Array.getElem?_eq_some_iff.1 h3).1
      rw [← hw3]
      have H3 := Lib.hid h3
      have HP := Lib.hid hP
      have HPL := Lib.hid hPl
      clear hw3 h3 hP hPl cn c62 c63 fn f62 f63 q62 q63 q62' q63' HH HP0 HPl hbl hk hlt
      go_wp2
      go_loopw [8] (NumRel w1.heap.size w3.heap.size P w) (fun i _ => 64 - (intOf i).toNat)
      case atStart =>
        have hba : Below w3.heap.size w3 (w3.alloc (.cells (bC (Sha.parts P 0)) 24)) := (Below.refl _ _).alloc (Nat.le_refl _) _
        rw [Sha.parts_zero] at hba
        refine ⟨0, by omega, rfl, (hba.block _ hlt3).trans H3.out, ?_, below_step b3 (Nat.le_refl _) hba⟩
        rw [Sha.parts_zero]
        exact heap_alloc_last w3 _
      case round =>
        obtain ⟨i, hi, rfl, hB, hC, hbi⟩ := hrel
        by_cases hlt : i < 64
        · obtain ⟨q, hq⟩ : ∃ q, q = i / 4 := ⟨_, rfl⟩
          have e4 : (i : Int) / 4 = (q : Int) := by omega
          have e4' : (i : Int).tdiv 4 = (q : Int) := by rw [Int.tdiv_eq_ediv_of_nonneg (by omega)]; omega
          have cq := cell_bC hC q (by rw [Sha.parts_length]; omega)
          have fq := fz_of hC q
          have cx := cell_u8D hB i (by rw [HPL.out]; exact hlt)
          have sq : (Sha.parts P i).getD q 0 < 16777216 := by rw [Sha.parts_getD P i q (by omega), hq]; exact Sha.part_small P i
          have ps := Sha.parts_step P i (by rw [HPL.out]; exact hlt) hlt
          rw [← hq] at ps
          generalize (Sha.parts P i).getD q 0 = N at *
          generalize P.getD i 0 = x at *
          have hx8 : x.toNat < 256 := x.toNat_lt
          have eo := or_form2 N x sq
          have bq : q < 16 := by omega
          have Hq := Lib.hid hq
          have HPS := Lib.hid ps
          have HB := Lib.hid hB
          have HC := Lib.hid hC
          clear hq ps hB hC
          go_wp2
          go_region
          all_goals (
            go_wp2
            refine ⟨⟨i + 1, by omega, by go_num, ?_, ?_, ?_⟩, by simp [intOf]; omega⟩
            · exact (heap_far (w := wr) (by omega) _).trans HB.out
            · refine (heap_set (w := wr) HC.out _).trans ?_
              rw [show (N : Int) * 256 + (x.toNat : Int) = ((N * 256 + x.toNat : Nat) : Int) by omega, bC_set, HPS.out]
            · have := hbi.setCell (p := ⟨w3.heap.size, q, none⟩) (by show w.heap.size ≤ w3.heap.size; exact b3.size) (.int .u32 ((N : Int) * 256 + (x.toNat : Int)))
              exact ⟨this.os, this.tape, this.output, this.size, this.block⟩)
        · obtain rfl : 64 = i := by omega
          rw [Sha.parts_all] at hC
          have hKi := hK.old hbi
          have hwl := Sha.words_lt P
          obtain ⟨u, hu⟩ : ∃ u, u = Sha.step Sha.start (Sha.words P) := ⟨_, rfl⟩
          have hrC : wr.rangeAt w3.heap.size 0 ((Sha.words P).map u32V) := fun j x hx => by rw [Nat.zero_add, cell_of hC]; simpa [bC] using hx
          have hWl := Sha.words_length P
          have hiW : (Tryd.prog.info? 24).map (·.size) = some ((Sha.words P).map u32V).length := by rw [List.length_map, hWl]; exact info_24
          have hstep : ∀ W : World, KT W → Calls Tryd.prog 11 #[.agg #[.int .u32 1779033703, .int .u32 3144134277, .int .u32 1013904242, .int .u32 2773480762, .int .u32 1359893119, .int .u32 2600822924, .int .u32 528734635, .int .u32 1541459225], .agg ((Sha.words P).map u32V).toArray] W fun e w' => e = .returned (.agg #[.int .u32 u.a, .int .u32 u.b, .int .u32 u.c, .int .u32 u.d, .int .u32 u.e, .int .u32 u.f, .int .u32 u.g, .int .u32 u.h]) ∧ Below W.heap.size W w' := fun W hW => by
            rw [hu]; exact step_any Sha.start (Sha.words P) W hWl Sha.start_ok hwl hW
          have hun := Tryd.underlying24
          have HU := Lib.hid hu
          have HSTEP := Lib.hid hstep
          have hiB : w1.heap.size < wr.heap.size := (Array.getElem?_eq_some_iff.1 hB).1
          have hiC : w3.heap.size < wr.heap.size := (Array.getElem?_eq_some_iff.1 hC).1
          clear hB hC hu hwl hKi hstep
          generalize (Sha.words P).map u32V = WL at *
          go_upto_region 17 with (fail)
          go_cut [9] from 56 to 58 (StateAt u w)
          case first =>
            go_region_held3 (fun w' => w'.rangeAt w3.heap.size 0 WL) (first | ((with_reducible refine range_alloc_drew ?_); assumption) | (with_reducible apply World.rangeAt_alloc; assumption) | ((with_reducible refine range_put8 ?_ ?_); assumption; omega) | go_keep)
              (first
              | (go_at_call 13; ((with_reducible refine (start_e wr.drew).mono ?_); rintro e w5 ⟨rfl, b5⟩; have bb5 : Below w.heap.size w w5 := below_step (below_drew hbi) (Nat.le_refl _) b5; have d5 : Below wr.heap.size wr w5 := ⟨b5.os, b5.tape, b5.output, b5.size, b5.block⟩; have r5 : w5.rangeAt w3.heap.size 0 WL := (fun j v hv => (d5.cell (p := ⟨w3.heap.size, 0 + j, none⟩) hiC).trans (hrC j v hv)); have l5 : w3.heap.size < w5.heap.size := Nat.lt_of_lt_of_le hiC d5.size))
              | (go_at_call 13; ((with_reducible refine (start_e (wr.alloc (.cells #[.int .u32 0, .int .u32 0, .int .u32 0, .int .u32 0, .int .u32 0, .int .u32 0, .int .u32 0, .int .u32 0] 23)).drew).mono ?_); rintro e w5 ⟨rfl, b5⟩; have bb5 : Below w.heap.size w w5 := below_step (below_drew (hbi.alloc hbi.size _)) (Nat.le_refl _) b5; have d5 : Below (wr.heap.size + 1) (wr.alloc (.cells #[.int .u32 0, .int .u32 0, .int .u32 0, .int .u32 0, .int .u32 0, .int .u32 0, .int .u32 0, .int .u32 0] 23)) w5 := ⟨b5.os, b5.tape, b5.output, b5.size, fun k hk => b5.block k (by simpa using hk)⟩; have r5 : w5.rangeAt w3.heap.size 0 WL := (fun j v hv => (d5.cell (p := ⟨w3.heap.size, 0 + j, none⟩) (by show w3.heap.size < wr.heap.size + 1; omega)).trans ((World.cell?_alloc_lt wr _ _ hiC).trans (hrC j v hv))); have hz5 : wr.heap.size + 1 ≤ w5.heap.size := (by have := d5.size; simpa using this); have l5 : w3.heap.size < w5.heap.size := (by omega); have hq5 : w5.heap[wr.heap.size]? = some (.cells zC 23 (0, 0)) := (d5.block _ (by omega)).trans (heap_alloc_last wr _)))
              | (go_at_call 13; ((with_reducible refine (start_e (wr.drew.alloc (.cells #[.int .u32 0, .int .u32 0, .int .u32 0, .int .u32 0, .int .u32 0, .int .u32 0, .int .u32 0, .int .u32 0] 23))).mono ?_); rintro e w5 ⟨rfl, b5⟩; have bb5 : Below w.heap.size w w5 := below_step ((below_drew hbi).alloc hbi.size _) (Nat.le_refl _) b5; have d5 : Below (wr.heap.size + 1) (wr.alloc (.cells #[.int .u32 0, .int .u32 0, .int .u32 0, .int .u32 0, .int .u32 0, .int .u32 0, .int .u32 0, .int .u32 0] 23)) w5 := ⟨b5.os, b5.tape, b5.output, b5.size, fun k hk => b5.block k (by simpa using hk)⟩; have r5 : w5.rangeAt w3.heap.size 0 WL := (fun j v hv => (d5.cell (p := ⟨w3.heap.size, 0 + j, none⟩) (by show w3.heap.size < wr.heap.size + 1; omega)).trans ((World.cell?_alloc_lt wr _ _ hiC).trans (hrC j v hv))); have hz5 : wr.heap.size + 1 ≤ w5.heap.size := (by have := d5.size; simpa using this); have l5 : w3.heap.size < w5.heap.size := (by omega); have hq5 : w5.heap[wr.heap.size]? = some (.cells zC 23 (0, 0)) := (d5.block _ (by omega)).trans (heap_alloc_last wr _)))
              | (go_at_call 11; have hqx := hq5; ((with_reducible refine (HSTEP.out w5 (hK.old bb5)).mono ?_); rintro e w6 ⟨rfl, b6⟩; have bq : Below w.heap.size w w6 := below_step bb5 (Nat.le_refl _) b6; have hqle : w.heap.size ≤ wr.heap.size := hbi.size; have hq6 : w6.heap[wr.heap.size]? = some (.cells zC 23 (0, 0)) := (b6.block _ (by omega)).trans hqx; have r6 : w6.rangeAt w3.heap.size 0 WL := (fun j v hv => (b6.cell (p := ⟨w3.heap.size, 0 + j, none⟩) l5).trans (r5 j v hv)); obtain ⟨m0, m1, m2, m3, m4, m5, m6, m7, n0, n1, n2, n3, n4, n5, n6, n7⟩ := z8 hq6))
              | (go_at_call 11; ((with_reducible refine (HSTEP.out w5 (hK.old bb5)).mono ?_); rintro e w6 ⟨rfl, b6⟩; have bq : Below w.heap.size w w6 := below_step bb5 (Nat.le_refl _) b6; have r6 : w6.rangeAt w3.heap.size 0 WL := (fun j v hv => (b6.cell (p := ⟨w3.heap.size, 0 + j, none⟩) l5).trans (r5 j v hv))))
              | (go_at_call 11; ((with_reducible refine (HSTEP.out (w5.alloc (.cells #[.int .u32 0, .int .u32 0, .int .u32 0, .int .u32 0, .int .u32 0, .int .u32 0, .int .u32 0, .int .u32 0] 23)) ((hK.old bb5).alloc _)).mono ?_); rintro e w6 ⟨rfl, b6⟩; have bq : Below w.heap.size w w6 := below_step (bb5.alloc bb5.size _) (Nat.le_refl _) b6; have hqle : w.heap.size ≤ w5.heap.size := bb5.size; have hq6 : w6.heap[w5.heap.size]? = some (.cells zC 23 (0, 0)) := (b6.block _ (by simp)).trans (heap_alloc_last w5 _); have r6 : w6.rangeAt w3.heap.size 0 WL := (fun j v hv => (b6.cell (p := ⟨w3.heap.size, 0 + j, none⟩) (Nat.lt_of_lt_of_le hiC (Nat.le_trans b5.size (by simp)))).trans ((World.cell?_alloc_lt _ _ _ l5).trans (r5 j v hv))); obtain ⟨m0, m1, m2, m3, m4, m5, m6, m7, n0, n1, n2, n3, n4, n5, n6, n7⟩ := z8 hq6)))
            all_goals (
              go_wp2_with fail
              go_meet
              first
                | (have hq := hq6; exact stateAt_put u bq hqle hq)
                | exact stateAt_new u bq)
          case rest =>
            obtain ⟨q9, rfl, h9, b9⟩ := hcut
            have hq9 : q9 < wc.heap.size := (Array.getElem?_eq_some_iff.1 h9).1
            have H9 := Lib.hid h9
            clear h9 hrC hiW hun
            obtain ⟨D, hD⟩ : ∃ D, D = Sha.digest T := ⟨_, rfl⟩
            have hDl : D.length = 32 := by rw [hD]; exact Sha.digest_length _
            have hDu : D = u.bytes := by rw [hD, digest_one T (by rw [HTl.out]; exact ht55), ← HP.out, ← HU.out]
            have HD := Lib.hid hD
            have HDl := Lib.hid hDl
            have HDu := Lib.hid hDu
            clear hD hDl hDu
            go_upto_region 19 with (first
              | (go_at_call 16; ((with_reducible refine (of_one t T HT.out.symm wc (hK.old b9) (by have := HTl.out; omega)).mono ?_); rintro e w7 ⟨rfl, b7⟩; rw [← HD.out]))
              | refine wpList_store_mid rfl 30 (.tmp 10) (.tmp 61) rfl w7.heap.size 0 (D.map u8V).toArray rfl rfl (sum_there (heap_alloc_last w7 _) HDl.out) (sum_info HDl.out) (sum_one D) ?_)
            obtain ⟨w8, hw8⟩ : ∃ w8, w8 = (w7.alloc (.cells #[.int .u8 0, .int .u8 0, .int .u8 0, .int .u8 0, .int .u8 0, .int .u8 0, .int .u8 0, .int .u8 0, .int .u8 0, .int .u8 0, .int .u8 0, .int .u8 0, .int .u8 0, .int .u8 0, .int .u8 0, .int .u8 0, .int .u8 0, .int .u8 0, .int .u8 0, .int .u8 0, .int .u8 0, .int .u8 0, .int .u8 0, .int .u8 0, .int .u8 0, .int .u8 0, .int .u8 0, .int .u8 0, .int .u8 0, .int .u8 0, .int .u8 0, .int .u8 0] 30)).setCells w7.heap.size 0 (D.map u8V) := ⟨_, rfl⟩
            have b8 : Below w7.heap.size w7 w8 := by rw [hw8]; exact below_setCells (Nat.le_refl _) _ _ _ ((Below.refl _ _).alloc (Nat.le_refl _) _)
            have h8 : w8.heap[w7.heap.size]? = some (.cells (D.map u8V).toArray 30 (0, 0)) := by
              rw [hw8]; exact heap_setCells_all w7 ((List.replicate 32 (0 : UInt8)).map u8V) (D.map u8V) (by rw [List.length_map, List.length_map, HDl.out]; rfl)
            have h98 : w8.heap[q9]? = some (.cells (vC u) 23 (0, 0)) := (b8.block _ (Nat.lt_of_lt_of_le hq9 b7.size)).trans ((b7.block _ hq9).trans H9.out)
            have bb8 : Below w.heap.size w w8 := below_step (below_step b9 (Nat.le_refl _) b7) (Nat.le_refl _) b8
            rw [← hw8]
            have uok : u.ok := by rw [HU.out]; exact Sha.step_ok _ _
            have H8 := Lib.hid h8
            have H98 := Lib.hid h98
            clear hw8 h8 h98 b7 b8
            go_wp2
            go_loopw [11] (CmpRel w7.heap.size q9 D u w) (fun i _ => 32 - (intOf i).toNat)
            case atStart => exact ⟨0, by omega, rfl, H8.out, H98.out, bb8⟩
            case round =>
              obtain ⟨i, hi, rfl, hp, hq, hbi3⟩ := hrel
              by_cases hlt : i < 32
              · obtain ⟨j, hj⟩ : ∃ j, j = i / 4 := ⟨_, rfl⟩
                obtain ⟨r, hr⟩ : ∃ r, r = i % 4 := ⟨_, rfl⟩
                have bj : j < 8 := by omega
                have br : r < 4 := by omega
                have e4 : (i : Int).tdiv 4 = (j : Int) := by rw [Int.tdiv_eq_ediv_of_nonneg (by omega)]; omega
                have e4r : (i : Int).tmod 4 = (r : Int) := by rw [Int.tmod_eq_emod_of_nonneg (by omega)]; omega
                have cx := cell_u8D hp i (by rw [HDl.out]; exact hlt)
                have cy : wr.cell? ⟨q9, j, none⟩ = some (.int .u32 (u.list.getD j 0 : Nat)) := by rw [cell_of hq]; exact vC_at u j bj
                have ey := bytes_at u i hlt
                rw [← HDu.out, ← hj, ← hr] at ey
                have lx := list_lt u uok j
                generalize u.list.getD j 0 = x at *
                generalize D.getD i 0 = y at *
                have ev : (x : Int) / 2 ^ (24 - 8 * r) % 256 = (y.toNat : Int) := by
                  rw [ey, UInt8.toNat_ofNat']
                  simp
                have HP8 := Lib.hid hp
                have HQ8 := Lib.hid hq
                have Hj := Lib.hid hj
                have Hr := Lib.hid hr
                have Hey := Lib.hid ey
                have g0 : IntKind.i64.wrap 0 = 0 := by decide
                have g8 : IntKind.i64.wrap 8 = 8 := by decide
                have g16 : IntKind.i64.wrap 16 = 16 := by decide
                have g24 : IntKind.i64.wrap 24 = 24 := by decide
                have f0 : IntKind.u64.wrap 0 = 0 := by decide
                have f8 : IntKind.u64.wrap 8 = 8 := by decide
                have f16 : IntKind.u64.wrap 16 = 16 := by decide
                have f24 : IntKind.u64.wrap 24 = 24 := by decide
                clear hp hq hj hr ey
                have hrr : r = 0 ∨ r = 1 ∨ r = 2 ∨ r = 3 := by omega
                rcases hrr with rfl | rfl | rfl | rfl
                all_goals (
                  simp only [Nat.reduceMul, Nat.reduceSub, Int.reducePow, Int.ediv_one, Int.pow_zero, Int.cast_ofNat_Int] at ev e4r
                  go_wp2
                  go_quiet (fail)
                  go_wp2
                  exact ⟨⟨i + 1, by omega, by go_num, HP8.out, HQ8.out, below_drewN hbi3 _⟩, by simp [intOf]; omega⟩)
              · go_wp2
                go_ret
                exact ⟨rfl, hbi3⟩

set_option maxRecDepth 100000 in
theorem lifted (os : Os) (started : os.Started) (H : Type) (enc : TypeId × Value → H) :
    ReturnsInHanded {} Tryd.checked os 6 .any (fun w args => (Rows.shaOneSpec.pre enc Tryd.prog Tryd.f6 [] false w args ∧ laidMetH Tryd.prog [("scrinium/sha.k", Rows.laid_scrinium_sha_k)] w) ∧ sizedMet enc Tryd.prog Tryd.f6 (OpenSpec.ofChange Rows.shaOneSpec) false w args)
      (Rows.shaOneSpec.post enc Tryd.prog Tryd.f6 false true false false) := by
  refine returnsInHanded_of_change_and (C := Tryd.checked) (X := fun w _ => laidMetH Tryd.prog [("scrinium/sha.k", Rows.laid_scrinium_sha_k)] w) (fun _ _ _ hh h => h.of_heap hh) lawOwn started (by kernel_rfl) Tryd.func6
    (ChangeSpec.witness_shaped (enc := enc) (C := Tryd.checked) (os := os) (X := fun w _ => laidMetH Tryd.prog [("scrinium/sha.k", Rows.laid_scrinium_sha_k)] w) false (World.doorLaid Tryd.prog 400 os) #[.string .empty] 8 rfl (World.shaped_of_RefB (by kernel_rfl) (by kernel_rfl)) (by kernel_rfl) (by kernel_rfl) (by kernel_rfl) (door_met os _)) ?_
  intro W base args ds gs before hval0 hW _ _ hL _
  have hval : ∀ (j : Nat) t v, Tryd.f6.params[j]? = some t → args[j]? = some v → Value.okWide Tryd.prog W .any base t v := hval0
  have hW' := hW
  obtain ⟨p, q, hA0, hV, rfl, hfz, hnd⟩ := hW
  have hA : DataW.TrodAll enc Tryd.prog W 0 (fun _ => true) true Tryd.f6.params.toList args.toList ds p := hA0
  rw [Tryd.params6] at hA hval
  obtain ⟨v0, vs0, d0, ds0, p0, q0, hargs, rfl, rfl, h0, r0⟩ := trodAll_cons hA
  obtain ⟨rfl, rfl, rfl⟩ := trodAll_nil r0
  obtain rfl : args = #[v0] := by cases args; simp_all
  obtain ⟨rfl, rfl⟩ := trodVars_none hV
  have hKT := KT_of_laid hL
  obtain ⟨s0, rfl, rfl, rfl, w0⟩ := Go.ChangeMaps.open_string Tryd.underlying9 (hval 0 9 v0 rfl rfl) h0
  clear hA0 hval0
  refine (walk (w := W) hKT s0 w0).mono fun e W' ⟨he, bel⟩ => ?_
  subst he
  exact ⟨_, rfl, law_post rfl rfl (by kernel_rfl) hW' rfl bel⟩

theorem row_holds : Rows.ShaOneSaid :=
  OpenClaim.holds_of_wide 6 Tryd.f6 rfl rfl rfl rfl rfl rfl rfl ⟨rfl, rfl, rfl, rfl, rfl⟩ rfl rfl rfl rfl rfl (by kernel_rfl) Tryd.func6 (by kernel_rfl)
    (of_decide_eq_true (by kernel_rfl)) (by unfold Func.isWrapper; first | (rw [if_pos (by decide +kernel)]; kernel_rfl) | (rw [if_neg (by decide +kernel)]; exact ⟨rfl, rfl⟩))
    (fun os started H enc _ => lifted os started H enc)

theorem holds : Rows.ShaOneCardSaid :=
  Claim7.holds_tied_plain_at .later [] [.data] true Rows.shaOneCard.stood.harness false
    row_holds (fun _ h => by cases h) (by kernel_rfl) (fun _ h => by cases h) shaOne_row_tie rfl ⟨rfl, rfl⟩ (by kernel_rfl) rfl
    (fun f fn hf hfn => by
      obtain rfl : f = 6 := Option.some.inj ((show Tryd.prog.funcNamed "scrinium/scriniumlaw02.ShaOne" = some 6 by kernel_rfl).symm.trans hf) |>.symm
      obtain rfl : fn = Tryd.f6 := (Option.some.inj (Tryd.func6.symm.trans hfn)).symm
      exact ⟨by kernel_rfl, fun j t ht => by
        rw [Tryd.params6] at ht
        have hm : t ∈ [9] := by simpa using Array.mem_of_getElem? ht
        have hall : ([9].all fun u => !Tryd.prog.wantsStandIn u) = true := by kernel_rfl
        exact (show Tryd.prog.wantsStandIn t = false by simpa using List.all_eq_true.1 hall t hm)⟩)
    (by kernel_rfl)
end Go.Proofs.YtcodioodckojnaaDoor.shaOne

theorem Go.Proofs.YtcodioodckojnaaDoor.shaOne_holds : Go.Proofs.YtcodioodckojnaaDoor.Rows.ShaOneCardSaid := Go.Proofs.YtcodioodckojnaaDoor.shaOne.holds
#print axioms Go.Proofs.YtcodioodckojnaaDoor.shaOne_holds
