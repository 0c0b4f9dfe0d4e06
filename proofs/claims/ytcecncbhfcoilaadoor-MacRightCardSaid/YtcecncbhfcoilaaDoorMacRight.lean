/-
  MacRight: a sum is right just if it is the one that the key makes: with any bits of it turned it is not. For every key (its first 100 bytes), every text (its first 200), any 32 bytes; the numbers K are as the program's text lays them.
-/
import Derived.Test.YtcecncbhfcoilaaDoorShaLaw
import Derived.Test.YtcecncbhfcoilaaDoorMacAwake
import Derived.Test.YtcecncbhfcoilaaDoorRegOps
namespace Go.Proofs.YtcecncbhfcoilaaDoor.macRight
open Go.ChangeShapes Go.WideShapes Go.ChangeAt Go.RowKit

def zipX (a b : List UInt8) : List UInt8 := List.zipWith (fun x y => x ^^^ y) a b
theorem zipX_length (a b : List UInt8) (ha : a.length = 32) (hb : b.length = 32) : (zipX a b).length = 32 := by simp [zipX, ha, hb]
theorem zip_step (a b : List UInt8) (ha : a.length = 32) (hb : b.length = 32) (i : Nat) (h : i < 32) : ((zipX a b).take i ++ a.drop i).set i (a.getD i 0 ^^^ b.getD i 0) = (zipX a b).take (i + 1) ++ a.drop (i + 1) := by
  have hz := zipX_length a b ha hb
  have ea : a.getD i 0 = a[i] := by rw [List.getD_eq_getElem?_getD, List.getElem?_eq_getElem (by omega)]; rfl
  have eb : b.getD i 0 = b[i] := by rw [List.getD_eq_getElem?_getD, List.getElem?_eq_getElem (by omega)]; rfl
  rw [List.set_append_right _ _ (by rw [List.length_take]; omega), List.length_take, Nat.min_eq_left (by omega), Nat.sub_self, List.drop_eq_getElem_cons (by omega), List.set_cons_zero, List.take_succ_eq_append_getElem (by omega), ea, eb, List.append_assoc]
  congr 1
  simp [zipX]
theorem zip_at (a b : List UInt8) (ha : a.length = 32) (hb : b.length = 32) (i : Nat) (h : i < 32) : ((zipX a b).take i ++ a.drop i).getD i 0 = a.getD i 0 := by
  have hz := zipX_length a b ha hb
  rw [List.getD_eq_getElem?_getD, List.getElem?_append_right (by rw [List.length_take]; omega), List.length_take, Nat.min_eq_left (by omega), Nat.sub_self, List.getElem?_drop, Nat.add_zero, List.getD_eq_getElem?_getD]
theorem zip_len (a b : List UInt8) (ha : a.length = 32) (hb : b.length = 32) (i : Nat) (h : i ≤ 32) : ((zipX a b).take i ++ a.drop i).length = 32 := by
  have hz := zipX_length a b ha hb
  rw [List.length_append, List.length_take, List.length_drop]; omega
/-- Ahead of byte i. -/
def TurnRel (q5 q8 q9 : Nat) (X D : List UInt8) (w : World) (si : Value) (wr : World) : Prop :=
  ∃ i : Nat, i ≤ 32 ∧ si = .int .i64 i ∧ wr.heap[q9]? = some (.cells (((zipX D X).take i ++ D.drop i).map u8V).toArray 30 (0, 0)) ∧ wr.heap[q8]? = some (.cells (D.map u8V).toArray 30 (0, 0)) ∧ wr.heap[q5]? = some (.cells (X.map u8V).toArray 30 (0, 0)) ∧ Below w.heap.size w wr

set_option maxHeartbeats 4000000 in
set_option maxRecDepth 100000 in
theorem walk {w : World} (hK : KT w) (s0 : ByteArray) (_ : s0.size ≤ maxLen) (s1 : ByteArray) (_ : s1.size ≤ maxLen) (X : List UInt8) (hX : X.length = 32) :
    Calls Tryd.prog 10 #[.string s0, .string s1, sumV X] w fun e w' => e = .returned (.bool true) ∧ Below w.heap.size w w' := by
  obtain ⟨kB, hkB⟩ : ∃ t, t = shortB s0 100 := ⟨_, rfl⟩
  obtain ⟨t, ht⟩ : ∃ t, t = shortB s1 200 := ⟨_, rfl⟩
  obtain ⟨k, hk⟩ : ∃ k, k = kB.data.toList := ⟨_, rfl⟩
  obtain ⟨T, hT⟩ : ∃ T, T = t.data.toList := ⟨_, rfl⟩
  have hkl : Hid (k.length < 288230376151711744) := Lib.hid (by have := shortB_size s0 100; rw [hk, ← Lib.size_eq, hkB]; omega)
  have htl : Hid (T.length < 288230376151711744) := Lib.hid (by have := shortB_size s1 200; rw [hT, ← Lib.size_eq, ht]; omega)
  obtain ⟨D, hD⟩ : ∃ D, D = Mac.mac k T := ⟨_, rfl⟩
  have hDl : D.length = 32 := by rw [hD]; exact Mac.mac_length _ _
  have Hk := Lib.hid hkB
  have Ht := Lib.hid ht
  have HkB : Hid (kB.data.toList = k) := Lib.hid hk.symm
  have HT : Hid (flat [t] = T) := Lib.hid (by rw [flat_one, hT])
  have HD := Lib.hid hD
  have HDl := Lib.hid hDl
  have HX := Lib.hid hX
  clear hkB ht hk hT hD hDl hX
  unfold sumV
  go_enter Tryd.func10, Tryd.ntmps10
  go_upto_region 1 with (fail)
  obtain ⟨w0, hw0⟩ : ∃ w0, w0 = w.alloc (.cells (X.map u8V).toArray 30) := ⟨_, rfl⟩
  have b0 : Below w.heap.size w w0 := by rw [hw0]; exact (Below.refl _ _).alloc (Nat.le_refl _) _
  have h0 : w0.heap[w.heap.size]? = some (.cells (X.map u8V).toArray 30 (0, 0)) := by rw [hw0]; exact heap_alloc_last w _
  have l0 : w.heap.size < w0.heap.size := by rw [hw0]; simp
  rw [← hw0]
  have H0 := Lib.hid h0
  clear hw0 h0
  go_upto_region 4 with (first
    | (go_at_call 24; refine (awake3_any _ (hK.old b0)).mono ?_; rintro e w1 ⟨rfl, b1⟩)
    | (go_at_call 25; ((with_reducible refine (short3_any s0 100 100 rfl _).mono ?_); rintro e w2 ⟨rfl, rfl⟩; rw [← Hk.out]))
    | (go_at_call 25; ((with_reducible refine (short3_any s1 200 200 rfl _).mono ?_); rintro e w2 ⟨rfl, rfl⟩; rw [← Ht.out])))
  have bb1 := below_step b0 (Nat.le_refl _) b1
  have hK1 := hK.old bb1
  have ba : Below w1.heap.size w1 (w1.alloc (.cells #[.string t] 9)) := (Below.refl _ _).alloc (Nat.le_refl _) _
  have HOF := Lib.hid (macOf_any kB k HkB.out _ [t] T HT.out _ (StrRow.one w1 t) (hK1.old ba) hkl.out htl.out)
  go_upto_region 5 with (first
    | (go_at_call 29; refine HOF.out.mono ?_; rintro e w2 ⟨rfl, b2⟩; rw [← HD.out])
    | refine wpList_store_mid rfl 30 (.tmp 8) (.tmp 19) rfl w2.heap.size 0 (D.map u8V).toArray rfl rfl (sum_there (heap_alloc_last w2 _) HDl.out) (sum_info HDl.out) (sum_one D) ?_)
  obtain ⟨w3, hw3⟩ : ∃ w3, w3 = (w2.alloc (.cells ((List.replicate 32 (0 : UInt8)).map u8V).toArray 30)).setCells w2.heap.size 0 (D.map u8V) := ⟨_, rfl⟩
  have b3 : Below w2.heap.size w2 w3 := by rw [hw3]; exact below_setCells (Nat.le_refl _) _ _ _ ((Below.refl _ _).alloc (Nat.le_refl _) _)
  have h3 : w3.heap[w2.heap.size]? = some (.cells (D.map u8V).toArray 30 (0, 0)) := by
    rw [hw3]; exact heap_setCells_all w2 ((List.replicate 32 (0 : UInt8)).map u8V) (D.map u8V) (by rw [List.length_map, List.length_map, HDl.out]; rfl)
  have l3 : w2.heap.size < w3.heap.size := (Array.getElem?_eq_some_iff.1 h3).1
  change Code.wp _ _ _ _ ((w2.alloc (.cells ((List.replicate 32 (0 : UInt8)).map u8V).toArray 30)).setCells w2.heap.size 0 (D.map u8V))
  rw [← hw3]
  have hr3 : w3.rangeAt w2.heap.size 0 (D.map u8V) := fun j x hx => by rw [Nat.zero_add, cell_of h3]; simpa using hx
  have HR3 := Lib.hid hr3
  have H3 := Lib.hid h3
  clear hw3 h3 hr3
  have bb2 : Below w.heap.size w w2 := below_step (below_step bb1 (Nat.le_refl _) ba) (Nat.le_refl _) b2
  have l02 : w.heap.size < w2.heap.size := Nat.lt_of_lt_of_le l0 (Nat.le_trans b1.size (Nat.le_trans ba.size b2.size))
  have h03 : w3.heap[w.heap.size]? = some (.cells (X.map u8V).toArray 30 (0, 0)) := (b3.block _ l02).trans ((b2.block _ (Nat.lt_of_lt_of_le l0 (Nat.le_trans b1.size ba.size))).trans ((ba.block _ (Nat.lt_of_lt_of_le l0 b1.size)).trans ((b1.block _ l0).trans H0.out)))
  have H03 := Lib.hid h03
  clear h03
  go_upto_region 6 with (first
    | refine wpList_load_mid rfl 30 (.tmp 8) rfl w2.heap.size 0 rfl (D.map u8V) _ HR3.out Tryd.underlying30 rfl (sum_info' HDl.out) ?_
    | refine wpList_store_mid rfl 30 (.tmp 9) (.tmp 20) rfl w3.heap.size 0 (D.map u8V).toArray rfl rfl (sum_there (heap_alloc_last w3 _) HDl.out) (sum_info HDl.out) (sum_one D) ?_)
  obtain ⟨w4, hw4⟩ : ∃ w4, w4 = (w3.alloc (.cells ((List.replicate 32 (0 : UInt8)).map u8V).toArray 30)).setCells w3.heap.size 0 (D.map u8V) := ⟨_, rfl⟩
  have b4 : Below w3.heap.size w3 w4 := by rw [hw4]; exact below_setCells (Nat.le_refl _) _ _ _ ((Below.refl _ _).alloc (Nat.le_refl _) _)
  have h4 : w4.heap[w3.heap.size]? = some (.cells (D.map u8V).toArray 30 (0, 0)) := by
    rw [hw4]; exact heap_setCells_all w3 ((List.replicate 32 (0 : UInt8)).map u8V) (D.map u8V) (by rw [List.length_map, List.length_map, HDl.out]; rfl)
  change Code.wp _ _ _ _ ((w3.alloc (.cells ((List.replicate 32 (0 : UInt8)).map u8V).toArray 30)).setCells w3.heap.size 0 (D.map u8V))
  rw [← hw4]
  have H4 := Lib.hid h4
  clear hw4 h4
  go_wp2
  go_loopw [10] (TurnRel w.heap.size w2.heap.size w3.heap.size X D w) (fun i _ => 32 - (intOf i).toNat)
  case atStart => exact ⟨0, by omega, rfl, H4.out, (b4.block _ l3).trans H3.out, (b4.block _ (by omega)).trans H03.out, below_step (below_step bb2 (Nat.le_refl _) b3) (Nat.le_refl _) b4⟩
  case round =>
    obtain ⟨i, hi, rfl, h9, h8, h5, hbl⟩ := hrel
    by_cases hlt : i < 32
    · have hi32 : (i : Int) < 32 := by omega
      have c9 := cell_u8D h9 i (by rw [zip_len D X HDl.out HX.out i hi]; exact hlt)
      rw [zip_at D X HDl.out HX.out i hlt] at c9
      have f9 := fz_of h9 i
      have c5 := cell_u8D h5 i (by rw [HX.out]; exact hlt)
      have st := zip_step D X HDl.out HX.out i hlt
      generalize D.getD i 0 = x at *
      generalize X.getD i 0 = y at *
      have ex := xor_u8 x y
      have H9 := Lib.hid h9
      have H8 := Lib.hid h8
      have H5 := Lib.hid h5
      have ST := Lib.hid st
      clear h9 h8 h5 st
      go_wp2
      go_region
      all_goals (
        go_wp2
        refine ⟨⟨i + 1, by omega, by go_num, ?_, ?_, ?_, ?_⟩, by simp [intOf]; omega⟩
        · refine (heap_set (w := wr) H9.out _).trans ?_
          rw [show (((x.toNat ^^^ y.toNat : Nat)) : Int) = ((x ^^^ y).toNat : Int) by rw [UInt8.toNat_xor], u8_set, ST.out]
        · exact (heap_far (w := wr) (by omega) _).trans H8.out
        · exact (heap_far (w := wr) (by omega) _).trans H5.out
        · have := hbl.setCell (p := ⟨w3.heap.size, i, none⟩) (by show w.heap.size ≤ w3.heap.size; omega) (.int .u8 ((x ^^^ y).toNat : Int))
          exact ⟨this.os, this.tape, this.output, this.size, this.block⟩)
    · obtain rfl : 32 = i := by omega
      obtain ⟨Y, hY⟩ : ∃ Y, Y = zipX D X := ⟨_, rfl⟩
      have hYl : Y.length = 32 := by rw [hY]; exact zipX_length D X HDl.out HX.out
      rw [← hY, List.take_of_length_le (by omega), List.drop_eq_nil_of_le (by rw [HDl.out]; exact Nat.le_refl _), List.append_nil] at h9
      have HYl := Lib.hid hYl
      have hKr := hK.old hbl
      have l8 : w2.heap.size < wr.heap.size := (Array.getElem?_eq_some_iff.1 h8).1
      have l9 : w3.heap.size < wr.heap.size := (Array.getElem?_eq_some_iff.1 h9).1
      have r8 : Hid (∀ w', Below wr.heap.size wr w' → w'.rangeAt w2.heap.size 0 (D.map u8V)) := Lib.hid fun w' h j y hy => (h.cell (p := ⟨w2.heap.size, 0 + j, none⟩) l8).trans (by rw [Nat.zero_add, cell_of h8]; simpa using hy)
      have r9 : Hid (∀ w', Below wr.heap.size wr w' → w'.rangeAt w3.heap.size 0 (Y.map u8V)) := Lib.hid fun w' h j y hy => (h.cell (p := ⟨w3.heap.size, 0 + j, none⟩) l9).trans (by rw [Nat.zero_add, cell_of h9]; simpa using hy)
      have HRY : Hid (∀ (v : Value) (w' : World), StrRow w' v [t] → KT w' → Calls Tryd.prog 30 #[.string kB, sumV Y, v] w' fun e w2 => e = .returned (.bool (decide (D = Y))) ∧ Below w'.heap.size w' w2) := Lib.hid fun v w' hr hk => by
        rw [HD.out]; exact macRightF_any kB k HkB.out Y hYl v [t] T HT.out w' hr hk hkl.out htl.out
      clear h9 h8 h5 hY hYl
      go_upto_region 10 with (fail)
      refine wp_region_tab [RT.is (.bool true), RT.is (.bool true), RT.is (.string kB), RT.is (sumV D), RT.is (.string t), RT.row [t], RT.is (.bool true), RT.is (.bool true), RT.is (.bool true), RT.is (.string kB), RT.is (sumV Y), RT.is (.string t), RT.row [t], RT.is (.bool (decide (D = Y))), RT.is (sumV Y), RT.is (sumV D), RT.is (.bool (decide (Y = D))), RT.is (.bool true), RT.is (.bool true), RT.is (.bool true)] (by kernel_rfl) (by kernel_rfl) (by kernel_rfl) (by kernel_rfl) ⟨?_, ?_, ?_, ?_, ?_, ?_, ?_, ?_, ?_, ?_, ?_, ?_, ?_, ?_, ?_, ?_, ?_, ?_, ?_, ?_, trivial⟩ ?_
      · intro a w' hF hL hP hU K hK
        have hB := below_undrew hL
        have e7 : a.eval (.tmp 7) = .bool true := hF.at 7 (by kernel_rfl)
        exact rop_move _ rfl e7 (wanted_none rfl) (hK _ _ (le8_refl _) rfl)
      · intro a w' hF hL hP hU K hK
        have hB := below_undrew hL
        have e34 : a.eval (.tmp 34) = .bool true := hP 0 (by kernel_rfl)
        exact rop_move _ rfl e34 (wanted_none rfl) (hK _ _ (le8_refl _) rfl)
      · intro a w' hF hL hP hU K hK
        have hB := below_undrew hL
        have e0 : a.eval (.tmp 0) = .string kB := hF.at 0 (by kernel_rfl)
        have e35 : a.eval (.tmp 35) = .bool true := hP 1 (by kernel_rfl)
        exact rop_move _ rfl e0 (wanted_of (j := 1) (b := true) rfl rfl e35) (hK _ _ (le8_refl _) rfl)
      · intro a w' hF hL hP hU K hK
        have hB := below_undrew hL
        have e8 : a.eval (.tmp 8) = .pointer (some ⟨w2.heap.size, 0, none⟩) := hF.at 8 (by kernel_rfl)
        have e35 : a.eval (.tmp 35) = .bool true := hP 1 (by kernel_rfl)
        exact rop_load _ _ rfl w2.heap.size 0 e8 (D.map u8V) _ (r8.out w' hB) Tryd.underlying30 rfl (sum_info' HDl.out) (wanted_of (j := 1) (b := true) rfl rfl e35) (hK _ _ (le8_refl _) rfl)
      · intro a w' hF hL hP hU K hK
        have hB := below_undrew hL
        have e1 : a.eval (.tmp 1) = .string t := hF.at 1 (by kernel_rfl)
        have e35 : a.eval (.tmp 35) = .bool true := hP 1 (by kernel_rfl)
        exact rop_move _ rfl e1 (wanted_of (j := 1) (b := true) rfl rfl e35) (hK _ _ (le8_refl _) rfl)
      · intro a w' hF hL hP hU K hK
        have hB := below_undrew hL
        have e38 : a.eval (.tmp 38) = .string t := hP 4 (by kernel_rfl)
        have e35 : a.eval (.tmp 35) = .bool true := hP 1 (by kernel_rfl)
        refine rop_texts 1 _ rfl [t] ?_ rfl (by decide) (by decide) (wanted_of (j := 1) (b := true) rfl rfl e35) (fun v w2 hb hr => hK v w2 hb hr)
        simp [e38, List.range, List.range.loop]
      · intro a w' hF hL hP hU K hK
        have hB := below_undrew hL
        have e36 : a.eval (.tmp 36) = .string kB := hP 2 (by kernel_rfl)
        have e37 : a.eval (.tmp 37) = sumV D := hP 3 (by kernel_rfl)
        have e39 : StrRow w' (a.eval (.tmp 39)) [t] := hP 5 (by kernel_rfl)
        have e35 : a.eval (.tmp 35) = .bool true := hP 1 (by kernel_rfl)
        refine rop_call 30 _ _ rfl #[.string kB, sumV D, a.eval (.tmp 39)] (by simp [e36, e37]) (by kernel_rfl) (wanted_of (j := 1) (b := true) rfl rfl e35) ?_
        refine (macRightF_t kB k HkB.out D HDl.out _ [t] T HT.out w' HD.out.symm e39 (hKr.old hB) hkl.out htl.out).mono ?_
        rintro e w2 ⟨rfl, hb⟩
        exact ⟨_, rfl, hK _ _ hb rfl⟩
      · intro a w' hF hL hP hU K hK
        have hB := below_undrew hL
        have e35 : a.eval (.tmp 35) = .bool true := hP 1 (by kernel_rfl)
        have e40 : a.eval (.tmp 40) = .bool true := hP 6 (by kernel_rfl)
        exact rop_pick _ _ _ rfl true e35 (by simpa using e40) (wanted_none rfl) (hK _ _ (le8_refl _) rfl)
      · intro a w' hF hL hP hU K hK
        have hB := below_undrew hL
        have e41 : a.eval (.tmp 41) = .bool true := hP 7 (by kernel_rfl)
        exact rop_move _ rfl e41 (wanted_none rfl) (hK _ _ (le8_refl _) rfl)
      · intro a w' hF hL hP hU K hK
        have hB := below_undrew hL
        have e0 : a.eval (.tmp 0) = .string kB := hF.at 0 (by kernel_rfl)
        have e42 : a.eval (.tmp 42) = .bool true := hP 8 (by kernel_rfl)
        exact rop_move _ rfl e0 (wanted_of (j := 8) (b := true) rfl rfl e42) (hK _ _ (le8_refl _) rfl)
      · intro a w' hF hL hP hU K hK
        have hB := below_undrew hL
        have e9 : a.eval (.tmp 9) = .pointer (some ⟨w3.heap.size, 0, none⟩) := hF.at 9 (by kernel_rfl)
        have e42 : a.eval (.tmp 42) = .bool true := hP 8 (by kernel_rfl)
        exact rop_load _ _ rfl w3.heap.size 0 e9 (Y.map u8V) _ (r9.out w' hB) Tryd.underlying30 rfl (sum_info' HYl.out) (wanted_of (j := 8) (b := true) rfl rfl e42) (hK _ _ (le8_refl _) rfl)
      · intro a w' hF hL hP hU K hK
        have hB := below_undrew hL
        have e1 : a.eval (.tmp 1) = .string t := hF.at 1 (by kernel_rfl)
        have e42 : a.eval (.tmp 42) = .bool true := hP 8 (by kernel_rfl)
        exact rop_move _ rfl e1 (wanted_of (j := 8) (b := true) rfl rfl e42) (hK _ _ (le8_refl _) rfl)
      · intro a w' hF hL hP hU K hK
        have hB := below_undrew hL
        have e45 : a.eval (.tmp 45) = .string t := hP 11 (by kernel_rfl)
        have e42 : a.eval (.tmp 42) = .bool true := hP 8 (by kernel_rfl)
        refine rop_texts 1 _ rfl [t] ?_ rfl (by decide) (by decide) (wanted_of (j := 8) (b := true) rfl rfl e42) (fun v w2 hb hr => hK v w2 hb hr)
        simp [e45, List.range, List.range.loop]
      · intro a w' hF hL hP hU K hK
        have hB := below_undrew hL
        have e43 : a.eval (.tmp 43) = .string kB := hP 9 (by kernel_rfl)
        have e44 : a.eval (.tmp 44) = sumV Y := hP 10 (by kernel_rfl)
        have e46 : StrRow w' (a.eval (.tmp 46)) [t] := hP 12 (by kernel_rfl)
        have e42 : a.eval (.tmp 42) = .bool true := hP 8 (by kernel_rfl)
        refine rop_call 30 _ _ rfl #[.string kB, sumV Y, a.eval (.tmp 46)] (by simp [e43, e44]) (by kernel_rfl) (wanted_of (j := 8) (b := true) rfl rfl e42) ?_
        refine ((HRY.out _ w' e46 (hKr.old hB))).mono ?_
        rintro e w2 ⟨rfl, hb⟩
        exact ⟨_, rfl, hK _ _ hb rfl⟩
      · intro a w' hF hL hP hU K hK
        have hB := below_undrew hL
        have e9 : a.eval (.tmp 9) = .pointer (some ⟨w3.heap.size, 0, none⟩) := hF.at 9 (by kernel_rfl)
        have e42 : a.eval (.tmp 42) = .bool true := hP 8 (by kernel_rfl)
        exact rop_load _ _ rfl w3.heap.size 0 e9 (Y.map u8V) _ (r9.out w' hB) Tryd.underlying30 rfl (sum_info' HYl.out) (wanted_of (j := 8) (b := true) rfl rfl e42) (hK _ _ (le8_refl _) rfl)
      · intro a w' hF hL hP hU K hK
        have hB := below_undrew hL
        have e8 : a.eval (.tmp 8) = .pointer (some ⟨w2.heap.size, 0, none⟩) := hF.at 8 (by kernel_rfl)
        have e42 : a.eval (.tmp 42) = .bool true := hP 8 (by kernel_rfl)
        exact rop_load _ _ rfl w2.heap.size 0 e8 (D.map u8V) _ (r8.out w' hB) Tryd.underlying30 rfl (sum_info' HDl.out) (wanted_of (j := 8) (b := true) rfl rfl e42) (hK _ _ (le8_refl _) rfl)
      · intro a w' hF hL hP hU K hK
        have hB := below_undrew hL
        have e48 : a.eval (.tmp 48) = sumV Y := hP 14 (by kernel_rfl)
        have e49 : a.eval (.tmp 49) = sumV D := hP 15 (by kernel_rfl)
        have e42 : a.eval (.tmp 42) = .bool true := hP 8 (by kernel_rfl)
        exact rop_bin _ _ _ _ _ rfl e48 e49 (guard_run .eql _ _ Y D w') (eql_sum Y D HYl.out HDl.out w') (wanted_of (j := 8) (b := true) rfl rfl e42) (hK _ _ (le8_refl _) rfl)
      · intro a w' hF hL hP hU K hK
        have hB := below_undrew hL
        have e47 : a.eval (.tmp 47) = .bool (decide (D = Y)) := hP 13 (by kernel_rfl)
        have e50 : a.eval (.tmp 50) = .bool (decide (Y = D)) := hP 16 (by kernel_rfl)
        have e42 : a.eval (.tmp 42) = .bool true := hP 8 (by kernel_rfl)
        exact rop_bin _ _ _ _ _ rfl e47 e50 (guard_bool _ _ _ _ _ _ w') (eql_bool_t _ _ (decide_eq_decide.2 eq_comm) w') (wanted_of (j := 8) (b := true) rfl rfl e42) (hK _ _ (le8_refl _) rfl)
      · intro a w' hF hL hP hU K hK
        have hB := below_undrew hL
        have e42 : a.eval (.tmp 42) = .bool true := hP 8 (by kernel_rfl)
        have e51 : a.eval (.tmp 51) = .bool true := hP 17 (by kernel_rfl)
        exact rop_pick _ _ _ rfl true e42 (by simpa using e51) (wanted_none rfl) (hK _ _ (le8_refl _) rfl)
      · intro a w' hF hL hP hU K hK
        have hB := below_undrew hL
        have e52 : a.eval (.tmp 52) = .bool true := hP 18 (by kernel_rfl)
        exact rop_assign _ rfl e52 (wanted_none rfl) (hK _ _ (le8_refl _) rfl)
      · intro a w' hF hB hT
        have e6 : a.eval (.tmp 6) = .bool true := hT 19 (by decide)
        rw [hF.lit 53 rfl]
        simp only [List.range, List.range.loop, List.map_cons, List.map_nil, e6]
        go_wp2
        go_ret
        exact ⟨rfl, below_step hbl (Nat.le_refl _) hB⟩

set_option maxRecDepth 100000 in
theorem lifted (os : Os) (started : os.Started) (H : Type) (enc : TypeId × Value → H) :
    ReturnsInHanded {} Tryd.checked os 10 .any (fun w args => (Rows.macRightSpec.pre enc Tryd.prog Tryd.f10 [] false w args ∧ laidMetH Tryd.prog [("scrinium/sha.k", Rows.laid_scrinium_sha_k)] w) ∧ sizedMet enc Tryd.prog Tryd.f10 (OpenSpec.ofChange Rows.macRightSpec) false w args)
      (Rows.macRightSpec.post enc Tryd.prog Tryd.f10 false true false false) := by
  refine returnsInHanded_of_change_and (C := Tryd.checked) (X := fun w _ => laidMetH Tryd.prog [("scrinium/sha.k", Rows.laid_scrinium_sha_k)] w) (fun _ _ _ hh h => h.of_heap hh) lawOwn started (by kernel_rfl) Tryd.func10
    (ChangeSpec.witness_shaped (enc := enc) (C := Tryd.checked) (os := os) (X := fun w _ => laidMetH Tryd.prog [("scrinium/sha.k", Rows.laid_scrinium_sha_k)] w) false (World.doorLaid Tryd.prog 400 os) #[.string .empty, .string .empty, sumV (List.replicate 32 0)] 8 rfl (World.shaped_of_RefB (by kernel_rfl) (by kernel_rfl)) (by kernel_rfl) (by kernel_rfl) (by kernel_rfl) (door_met os _)) ?_
  intro W base args ds gs before hval0 hW _ _ hL _
  have hval : ∀ (j : Nat) t v, Tryd.f10.params[j]? = some t → args[j]? = some v → Value.okWide Tryd.prog W .any base t v := hval0
  have hW' := hW
  obtain ⟨p, q, hA0, hV, rfl, hfz, hnd⟩ := hW
  have hA : DataW.TrodAll enc Tryd.prog W 0 (fun _ => true) true Tryd.f10.params.toList args.toList ds p := hA0
  rw [Tryd.params10] at hA hval
  obtain ⟨v0, vs0, d0, ds0, p0, q0, hargs, rfl, rfl, h0, r0⟩ := trodAll_cons hA
  obtain ⟨v1, vs1, d1, ds1, p1, q1, rfl, rfl, rfl, h1, r1⟩ := trodAll_cons r0
  obtain ⟨v2, vs2, d2, ds2, p2, q2, rfl, rfl, rfl, h2, r2⟩ := trodAll_cons r1
  obtain ⟨rfl, rfl, rfl⟩ := trodAll_nil r2
  obtain rfl : args = #[v0, v1, v2] := by cases args; simp_all
  obtain ⟨rfl, rfl⟩ := trodVars_none hV
  have hKT := KT_of_laid hL
  obtain ⟨s0, rfl, rfl, rfl, w0⟩ := Go.ChangeMaps.open_string Tryd.underlying9 (hval 0 9 v0 rfl rfl) h0
  obtain ⟨s1, rfl, rfl, rfl, w1⟩ := Go.ChangeMaps.open_string Tryd.underlying9 (hval 1 9 v1 rfl rfl) h1
  obtain ⟨x2, rfl, w2⟩ := open_sum (hval 2 30 v2 rfl rfl) h2
  clear hA0 hval0
  refine (walk (w := W) hKT s0 w0 s1 w1 x2 w2).mono fun e W' ⟨he, bel⟩ => ?_
  subst he
  exact ⟨_, rfl, law_post rfl rfl (by kernel_rfl) hW' rfl bel⟩

theorem row_holds : Rows.MacRightSaid :=
  OpenClaim.holds_of_wide 10 Tryd.f10 rfl rfl rfl rfl rfl rfl rfl ⟨rfl, rfl, rfl, rfl, rfl⟩ rfl rfl rfl rfl rfl (by kernel_rfl) Tryd.func10 (by kernel_rfl)
    (of_decide_eq_true (by kernel_rfl)) (by unfold Func.isWrapper; first | (rw [if_pos (by decide +kernel)]; kernel_rfl) | (rw [if_neg (by decide +kernel)]; exact ⟨rfl, rfl⟩))
    (fun os started H enc _ => lifted os started H enc)

theorem holds : Rows.MacRightCardSaid :=
  Claim7.holds_tied_plain_at .later [] [.data] true Rows.macRightCard.stood.harness false
    row_holds (fun _ h => by cases h) (by kernel_rfl) (fun _ h => by cases h) macRight_row_tie rfl ⟨rfl, rfl⟩ (by kernel_rfl) rfl
    (fun f fn hf hfn => by
      obtain rfl : f = 10 := Option.some.inj ((show Tryd.prog.funcNamed "scrinium/scriniumlaw03.MacRight" = some 10 by kernel_rfl).symm.trans hf) |>.symm
      obtain rfl : fn = Tryd.f10 := (Option.some.inj (Tryd.func10.symm.trans hfn)).symm
      exact ⟨by kernel_rfl, fun j t ht => by
        rw [Tryd.params10] at ht
        have hm : t ∈ [9, 9, 30] := by simpa using Array.mem_of_getElem? ht
        have hall : ([9, 9, 30].all fun u => !Tryd.prog.wantsStandIn u) = true := by kernel_rfl
        exact (show Tryd.prog.wantsStandIn t = false by simpa using List.all_eq_true.1 hall t hm)⟩)
    (by kernel_rfl)
end Go.Proofs.YtcecncbhfcoilaaDoor.macRight

theorem Go.Proofs.YtcecncbhfcoilaaDoor.macRight_holds : Go.Proofs.YtcecncbhfcoilaaDoor.Rows.MacRightCardSaid := Go.Proofs.YtcecncbhfcoilaaDoor.macRight.holds
#print axioms Go.Proofs.YtcecncbhfcoilaaDoor.macRight_holds
