/-
  MacSums: keys are padded, and sums made, as the document says: the program's Pad, Of and Right, and the document's own Pad and Of, tell the same. For every key (its first 200 bytes), every text (its first 300), any 32 bytes; the numbers K are as the program's text lays them.
-/
import Derived.Test.YtcecncbhfcoilaaDoorShaLaw
import Derived.Test.YtcecncbhfcoilaaDoorMacAwake
import Derived.Test.YtcecncbhfcoilaaDoorRefMac
namespace Go.Proofs.YtcecncbhfcoilaaDoor.macSums
open Go.ChangeShapes Go.WideShapes Go.ChangeAt Go.RowKit

set_option maxHeartbeats 4000000 in
set_option maxRecDepth 100000 in
theorem walk {w : World} (hK : KT w) (s0 : ByteArray) (_ : s0.size ≤ maxLen) (s1 : ByteArray) (_ : s1.size ≤ maxLen) (X : List UInt8) (hX : X.length = 32) :
    Calls Tryd.prog 7 #[.string s0, .string s1, sumV X] w fun e w' => e = .returned (.bool true) ∧ Below w.heap.size w w' := by
  obtain ⟨kB, hkB⟩ : ∃ t, t = shortB s0 200 := ⟨_, rfl⟩
  obtain ⟨t, ht⟩ : ∃ t, t = shortB s1 300 := ⟨_, rfl⟩
  obtain ⟨k, hk⟩ : ∃ k, k = kB.data.toList := ⟨_, rfl⟩
  obtain ⟨T, hT⟩ : ∃ T, T = t.data.toList := ⟨_, rfl⟩
  have hkl : Hid (k.length < 288230376151711744) := Lib.hid (by have := shortB_size s0 200; rw [hk, ← Lib.size_eq, hkB]; omega)
  have hkl2 : Hid (k.length < 576460752303423488) := Lib.hid (by have := hkl.out; omega)
  have hkl3 : Hid (k.length < 1152921504606846976) := Lib.hid (by have := hkl.out; omega)
  have htl : Hid (T.length < 288230376151711744) := Lib.hid (by have := shortB_size s1 300; rw [hT, ← Lib.size_eq, ht]; omega)
  obtain ⟨D, hD⟩ : ∃ D, D = Mac.mac k T := ⟨_, rfl⟩
  have hDl : D.length = 32 := by rw [hD]; exact Mac.mac_length _ _
  have Hk := Lib.hid hkB
  have Ht := Lib.hid ht
  have HkB : Hid (kB.data.toList = k) := Lib.hid hk.symm
  have HtB : Hid (t.data.toList = T) := Lib.hid hT.symm
  have HT : Hid (flat [t] = T) := Lib.hid (by rw [flat_one, hT])
  have HD := Lib.hid hD
  have HDl := Lib.hid hDl
  have HX := Lib.hid hX
  clear hkB ht hk hT hD hDl hX
  unfold sumV
  go_enter Tryd.func7, Tryd.ntmps7
  go_upto_region 1 with (fail)
  obtain ⟨w0, hw0⟩ : ∃ w0, w0 = w.alloc (.cells (X.map u8V).toArray 30) := ⟨_, rfl⟩
  have b0 : Below w.heap.size w w0 := by rw [hw0]; exact (Below.refl _ _).alloc (Nat.le_refl _) _
  have h0 : w0.heap[w.heap.size]? = some (.cells (X.map u8V).toArray 30 (0, 0)) := by rw [hw0]; exact heap_alloc_last w _
  have l0 : w.heap.size < w0.heap.size := by rw [hw0]; simp
  rw [← hw0]
  have H0 := Lib.hid h0
  clear hw0 h0
  go_upto_region 5 with (first
    | (go_at_call 24; refine (awake3_any _ (hK.old b0)).mono ?_; rintro e w1 ⟨rfl, b1⟩)
    | (go_at_call 25; ((with_reducible refine (short3_any s0 200 200 rfl _).mono ?_); rintro e w2 ⟨rfl, rfl⟩; rw [← Hk.out]))
    | (go_at_call 25; ((with_reducible refine (short3_any s1 300 300 rfl _).mono ?_); rintro e w2 ⟨rfl, rfl⟩; rw [← Ht.out]))
    | (go_at_call 26; refine (rmac_any kB k HkB.out t T HtB.out _ hkl3.out htl.out).mono ?_; rintro e w2 ⟨rfl, b2⟩; rw [← HD.out])
    | refine wpList_store_mid rfl 30 (.tmp 8) (.tmp 16) rfl w2.heap.size 0 (D.map u8V).toArray rfl rfl (sum_there (heap_alloc_last w2 _) HDl.out) (sum_info HDl.out) (sum_one D) ?_)
  obtain ⟨w3, hw3⟩ : ∃ w3, w3 = (w2.alloc (.cells ((List.replicate 32 (0 : UInt8)).map u8V).toArray 30)).setCells w2.heap.size 0 (D.map u8V) := ⟨_, rfl⟩
  have b3 : Below w2.heap.size w2 w3 := by rw [hw3]; exact below_setCells (Nat.le_refl _) _ _ _ ((Below.refl _ _).alloc (Nat.le_refl _) _)
  have h3 : w3.heap[w2.heap.size]? = some (.cells (D.map u8V).toArray 30 (0, 0)) := by
    rw [hw3]; exact heap_setCells_all w2 ((List.replicate 32 (0 : UInt8)).map u8V) (D.map u8V) (by rw [List.length_map, List.length_map, HDl.out]; rfl)
  change Code.wp _ _ _ _ ((w2.alloc (.cells ((List.replicate 32 (0 : UInt8)).map u8V).toArray 30)).setCells w2.heap.size 0 (D.map u8V))
  rw [← hw3]
  have b02 := below_step b1 (Nat.le_refl _) b2
  have l2 : w.heap.size < w2.heap.size := Nat.lt_of_lt_of_le l0 b02.size
  have h03 := (b3.block _ l2).trans ((b02.block _ l0).trans H0.out)
  have l3 : w2.heap.size < w3.heap.size := (Array.getElem?_eq_some_iff.1 h3).1
  have l03 : w.heap.size < w3.heap.size := Nat.lt_trans l2 l3
  have bb3 := below_step (below_step b0 (Nat.le_refl _) b02) (Nat.le_refl _) b3
  have hK3 := hK.old bb3
  have r5 : Hid (∀ w', Below w3.heap.size w3 w' → w'.rangeAt w.heap.size 0 (X.map u8V)) := Lib.hid fun w' h j y hy => (h.cell (p := ⟨w.heap.size, 0 + j, none⟩) l03).trans (by rw [Nat.zero_add, cell_of h03]; simpa using hy)
  have r8 : Hid (∀ w', Below w3.heap.size w3 w' → w'.rangeAt w2.heap.size 0 (D.map u8V)) := Lib.hid fun w' h j y hy => (h.cell (p := ⟨w2.heap.size, 0 + j, none⟩) l3).trans (by rw [Nat.zero_add, cell_of h3]; simpa using hy)
  have HOF : Hid (∀ (v : Value) (w' : World), StrRow w' v [t] → KT w' → Calls Tryd.prog 29 #[.string kB, v] w' fun e w2 => e = .returned (sumV D) ∧ Below w'.heap.size w' w2) := Lib.hid fun v w' hr hk => by
    rw [HD.out]; exact macOf_any kB k HkB.out v [t] T HT.out w' hr hk hkl.out htl.out
  have HRX : Hid (∀ (v : Value) (w' : World), StrRow w' v [t] → KT w' → Calls Tryd.prog 30 #[.string kB, sumV X, v] w' fun e w2 => e = .returned (.bool (decide (D = X))) ∧ Below w'.heap.size w' w2) := Lib.hid fun v w' hr hk => by
    rw [HD.out]; exact macRightF_any kB k HkB.out X HX.out v [t] T HT.out w' hr hk hkl.out htl.out
  clear hw3 h3 h03
  try simp only [Act.put]
  refine wp_region_tab [RT.is (.bool true), RT.is (.bool true), RT.is (.string kB), RT.is (.string ⟨(Mac.pad k).toArray⟩), RT.is (.string kB), RT.is (.string ⟨(Mac.pad k).toArray⟩), RT.is (.bool true), RT.is (.bool true), RT.is (.bool true), RT.is (.string kB), RT.is (.string t), RT.row [t], RT.is (sumV D), RT.is (sumV D), RT.is (.bool true), RT.is (.bool true), RT.is (.bool true), RT.is (.string kB), RT.is (sumV X), RT.is (.string t), RT.row [t], RT.is (.bool (decide (D = X))), RT.is (sumV X), RT.is (sumV D), RT.is (.bool (decide (X = D))), RT.is (.bool true), RT.is (.bool true), RT.is (.bool true), RT.is (.string kB), RT.is (sumV D), RT.is (.string t), RT.row [t], RT.is (.bool true), RT.is (.bool true), RT.is (.bool true)] (by kernel_rfl) (by kernel_rfl) (by kernel_rfl) (by kernel_rfl) ⟨?_, ?_, ?_, ?_, ?_, ?_, ?_, ?_, ?_, ?_, ?_, ?_, ?_, ?_, ?_, ?_, ?_, ?_, ?_, ?_, ?_, ?_, ?_, ?_, ?_, ?_, ?_, ?_, ?_, ?_, ?_, ?_, ?_, ?_, ?_, trivial⟩ ?_
  · intro ac w' hF hL hP hU K hK
    have hB := below_undrew hL
    have e7 : ac.eval (.tmp 7) = .bool true := hF.at 7 (by kernel_rfl)
    exact rop_move _ rfl e7 (wanted_none rfl) (hK _ _ (le8_refl _) rfl)
  · intro ac w' hF hL hP hU K hK
    have hB := below_undrew hL
    have e17 : ac.eval (.tmp 17) = .bool true := hP 0 (by kernel_rfl)
    exact rop_move _ rfl e17 (wanted_none rfl) (hK _ _ (le8_refl _) rfl)
  · intro ac w' hF hL hP hU K hK
    have hB := below_undrew hL
    have e0 : ac.eval (.tmp 0) = .string kB := hF.at 0 (by kernel_rfl)
    have e18 : ac.eval (.tmp 18) = .bool true := hP 1 (by kernel_rfl)
    exact rop_move _ rfl e0 (wanted_of (j := 1) (b := true) rfl rfl e18) (hK _ _ (le8_refl _) rfl)
  · intro ac w' hF hL hP hU K hK
    have hB := below_undrew hL
    have e19 : ac.eval (.tmp 19) = .string kB := hP 2 (by kernel_rfl)
    have e18 : ac.eval (.tmp 18) = .bool true := hP 1 (by kernel_rfl)
    refine rop_call 27 _ _ rfl #[.string kB] (by simp [e19]) (by kernel_rfl) (wanted_of (j := 1) (b := true) rfl rfl e18) ?_
    refine (pad_any kB k HkB.out w' (hK3.old hB) hkl2.out).mono ?_
    rintro e w2 ⟨rfl, hb⟩
    exact ⟨_, rfl, hK _ _ hb rfl⟩
  · intro ac w' hF hL hP hU K hK
    have hB := below_undrew hL
    have e0 : ac.eval (.tmp 0) = .string kB := hF.at 0 (by kernel_rfl)
    have e18 : ac.eval (.tmp 18) = .bool true := hP 1 (by kernel_rfl)
    exact rop_move _ rfl e0 (wanted_of (j := 1) (b := true) rfl rfl e18) (hK _ _ (le8_refl _) rfl)
  · intro ac w' hF hL hP hU K hK
    have hB := below_undrew hL
    have e21 : ac.eval (.tmp 21) = .string kB := hP 4 (by kernel_rfl)
    have e18 : ac.eval (.tmp 18) = .bool true := hP 1 (by kernel_rfl)
    refine rop_call 28 _ _ rfl #[.string kB] (by simp [e21]) (by kernel_rfl) (wanted_of (j := 1) (b := true) rfl rfl e18) ?_
    refine (rpad_any kB k HkB.out w' hkl3.out).mono ?_
    rintro e w2 ⟨rfl, hb⟩
    exact ⟨_, rfl, hK _ _ hb rfl⟩
  · intro ac w' hF hL hP hU K hK
    have hB := below_undrew hL
    have e20 : ac.eval (.tmp 20) = .string ⟨(Mac.pad k).toArray⟩ := hP 3 (by kernel_rfl)
    have e22 : ac.eval (.tmp 22) = .string ⟨(Mac.pad k).toArray⟩ := hP 5 (by kernel_rfl)
    have e18 : ac.eval (.tmp 18) = .bool true := hP 1 (by kernel_rfl)
    exact rop_bin _ _ _ _ _ rfl e20 e22 (guard_str _ _ _ _ _ _ w') (eql_str_t _ _ rfl w') (wanted_of (j := 1) (b := true) rfl rfl e18) (hK _ _ (le8_refl _) rfl)
  · intro ac w' hF hL hP hU K hK
    have hB := below_undrew hL
    have e18 : ac.eval (.tmp 18) = .bool true := hP 1 (by kernel_rfl)
    have e23 : ac.eval (.tmp 23) = .bool true := hP 6 (by kernel_rfl)
    exact rop_pick _ _ _ rfl true e18 (by simpa using e23) (wanted_none rfl) (hK _ _ (le8_refl _) rfl)
  · intro ac w' hF hL hP hU K hK
    have hB := below_undrew hL
    have e24 : ac.eval (.tmp 24) = .bool true := hP 7 (by kernel_rfl)
    exact rop_move _ rfl e24 (wanted_none rfl) (hK _ _ (le8_refl _) rfl)
  · intro ac w' hF hL hP hU K hK
    have hB := below_undrew hL
    have e0 : ac.eval (.tmp 0) = .string kB := hF.at 0 (by kernel_rfl)
    have e25 : ac.eval (.tmp 25) = .bool true := hP 8 (by kernel_rfl)
    exact rop_move _ rfl e0 (wanted_of (j := 8) (b := true) rfl rfl e25) (hK _ _ (le8_refl _) rfl)
  · intro ac w' hF hL hP hU K hK
    have hB := below_undrew hL
    have e1 : ac.eval (.tmp 1) = .string t := hF.at 1 (by kernel_rfl)
    have e25 : ac.eval (.tmp 25) = .bool true := hP 8 (by kernel_rfl)
    exact rop_move _ rfl e1 (wanted_of (j := 8) (b := true) rfl rfl e25) (hK _ _ (le8_refl _) rfl)
  · intro ac w' hF hL hP hU K hK
    have hB := below_undrew hL
    have e27 : ac.eval (.tmp 27) = .string t := hP 10 (by kernel_rfl)
    have e25 : ac.eval (.tmp 25) = .bool true := hP 8 (by kernel_rfl)
    refine rop_texts 1 _ rfl [t] ?_ rfl (by decide) (by decide) (wanted_of (j := 8) (b := true) rfl rfl e25) (fun v w2 hb hr => hK v w2 hb hr)
    simp [e27, List.range, List.range.loop]
  · intro ac w' hF hL hP hU K hK
    have hB := below_undrew hL
    have e26 : ac.eval (.tmp 26) = .string kB := hP 9 (by kernel_rfl)
    have e28 : StrRow w' (ac.eval (.tmp 28)) [t] := hP 11 (by kernel_rfl)
    have e25 : ac.eval (.tmp 25) = .bool true := hP 8 (by kernel_rfl)
    refine rop_call 29 _ _ rfl #[.string kB, ac.eval (.tmp 28)] (by simp [e26]) (by kernel_rfl) (wanted_of (j := 8) (b := true) rfl rfl e25) ?_
    refine (HOF.out _ w' e28 (hK3.old hB)).mono ?_
    rintro e w2 ⟨rfl, hb⟩
    exact ⟨_, rfl, hK _ _ hb rfl⟩
  · intro ac w' hF hL hP hU K hK
    have hB := below_undrew hL
    have e8 : ac.eval (.tmp 8) = .pointer (some ⟨w2.heap.size, 0, none⟩) := hF.at 8 (by kernel_rfl)
    have e25 : ac.eval (.tmp 25) = .bool true := hP 8 (by kernel_rfl)
    exact rop_load _ _ rfl w2.heap.size 0 e8 (D.map u8V) _ (r8.out w' hB) Tryd.underlying30 rfl (sum_info' HDl.out) (wanted_of (j := 8) (b := true) rfl rfl e25) (hK _ _ (le8_refl _) rfl)
  · intro ac w' hF hL hP hU K hK
    have hB := below_undrew hL
    have e29 : ac.eval (.tmp 29) = sumV D := hP 12 (by kernel_rfl)
    have e30 : ac.eval (.tmp 30) = sumV D := hP 13 (by kernel_rfl)
    have e25 : ac.eval (.tmp 25) = .bool true := hP 8 (by kernel_rfl)
    exact rop_bin _ _ _ _ _ rfl e29 e30 (guard_run .eql _ _ _ _ w') (eql_sum_t D D HDl.out HDl.out rfl w') (wanted_of (j := 8) (b := true) rfl rfl e25) (hK _ _ (le8_refl _) rfl)
  · intro ac w' hF hL hP hU K hK
    have hB := below_undrew hL
    have e25 : ac.eval (.tmp 25) = .bool true := hP 8 (by kernel_rfl)
    have e31 : ac.eval (.tmp 31) = .bool true := hP 14 (by kernel_rfl)
    exact rop_pick _ _ _ rfl true e25 (by simpa using e31) (wanted_none rfl) (hK _ _ (le8_refl _) rfl)
  · intro ac w' hF hL hP hU K hK
    have hB := below_undrew hL
    have e32 : ac.eval (.tmp 32) = .bool true := hP 15 (by kernel_rfl)
    exact rop_move _ rfl e32 (wanted_none rfl) (hK _ _ (le8_refl _) rfl)
  · intro ac w' hF hL hP hU K hK
    have hB := below_undrew hL
    have e0 : ac.eval (.tmp 0) = .string kB := hF.at 0 (by kernel_rfl)
    have e33 : ac.eval (.tmp 33) = .bool true := hP 16 (by kernel_rfl)
    exact rop_move _ rfl e0 (wanted_of (j := 16) (b := true) rfl rfl e33) (hK _ _ (le8_refl _) rfl)
  · intro ac w' hF hL hP hU K hK
    have hB := below_undrew hL
    have e5 : ac.eval (.tmp 5) = .pointer (some ⟨w.heap.size, 0, none⟩) := hF.at 5 (by kernel_rfl)
    have e33 : ac.eval (.tmp 33) = .bool true := hP 16 (by kernel_rfl)
    exact rop_load _ _ rfl w.heap.size 0 e5 (X.map u8V) _ (r5.out w' hB) Tryd.underlying30 rfl (sum_info' HX.out) (wanted_of (j := 16) (b := true) rfl rfl e33) (hK _ _ (le8_refl _) rfl)
  · intro ac w' hF hL hP hU K hK
    have hB := below_undrew hL
    have e1 : ac.eval (.tmp 1) = .string t := hF.at 1 (by kernel_rfl)
    have e33 : ac.eval (.tmp 33) = .bool true := hP 16 (by kernel_rfl)
    exact rop_move _ rfl e1 (wanted_of (j := 16) (b := true) rfl rfl e33) (hK _ _ (le8_refl _) rfl)
  · intro ac w' hF hL hP hU K hK
    have hB := below_undrew hL
    have e36 : ac.eval (.tmp 36) = .string t := hP 19 (by kernel_rfl)
    have e33 : ac.eval (.tmp 33) = .bool true := hP 16 (by kernel_rfl)
    refine rop_texts 1 _ rfl [t] ?_ rfl (by decide) (by decide) (wanted_of (j := 16) (b := true) rfl rfl e33) (fun v w2 hb hr => hK v w2 hb hr)
    simp [e36, List.range, List.range.loop]
  · intro ac w' hF hL hP hU K hK
    have hB := below_undrew hL
    have e34 : ac.eval (.tmp 34) = .string kB := hP 17 (by kernel_rfl)
    have e35 : ac.eval (.tmp 35) = sumV X := hP 18 (by kernel_rfl)
    have e37 : StrRow w' (ac.eval (.tmp 37)) [t] := hP 20 (by kernel_rfl)
    have e33 : ac.eval (.tmp 33) = .bool true := hP 16 (by kernel_rfl)
    refine rop_call 30 _ _ rfl #[.string kB, sumV X, ac.eval (.tmp 37)] (by simp [e34, e35]) (by kernel_rfl) (wanted_of (j := 16) (b := true) rfl rfl e33) ?_
    refine (HRX.out _ w' e37 (hK3.old hB)).mono ?_
    rintro e w2 ⟨rfl, hb⟩
    exact ⟨_, rfl, hK _ _ hb rfl⟩
  · intro ac w' hF hL hP hU K hK
    have hB := below_undrew hL
    have e5 : ac.eval (.tmp 5) = .pointer (some ⟨w.heap.size, 0, none⟩) := hF.at 5 (by kernel_rfl)
    have e33 : ac.eval (.tmp 33) = .bool true := hP 16 (by kernel_rfl)
    exact rop_load _ _ rfl w.heap.size 0 e5 (X.map u8V) _ (r5.out w' hB) Tryd.underlying30 rfl (sum_info' HX.out) (wanted_of (j := 16) (b := true) rfl rfl e33) (hK _ _ (le8_refl _) rfl)
  · intro ac w' hF hL hP hU K hK
    have hB := below_undrew hL
    have e8 : ac.eval (.tmp 8) = .pointer (some ⟨w2.heap.size, 0, none⟩) := hF.at 8 (by kernel_rfl)
    have e33 : ac.eval (.tmp 33) = .bool true := hP 16 (by kernel_rfl)
    exact rop_load _ _ rfl w2.heap.size 0 e8 (D.map u8V) _ (r8.out w' hB) Tryd.underlying30 rfl (sum_info' HDl.out) (wanted_of (j := 16) (b := true) rfl rfl e33) (hK _ _ (le8_refl _) rfl)
  · intro ac w' hF hL hP hU K hK
    have hB := below_undrew hL
    have e39 : ac.eval (.tmp 39) = sumV X := hP 22 (by kernel_rfl)
    have e40 : ac.eval (.tmp 40) = sumV D := hP 23 (by kernel_rfl)
    have e33 : ac.eval (.tmp 33) = .bool true := hP 16 (by kernel_rfl)
    exact rop_bin _ _ _ _ _ rfl e39 e40 (guard_run .eql _ _ X D w') (eql_sum X D HX.out HDl.out w') (wanted_of (j := 16) (b := true) rfl rfl e33) (hK _ _ (le8_refl _) rfl)
  · intro ac w' hF hL hP hU K hK
    have hB := below_undrew hL
    have e38 : ac.eval (.tmp 38) = .bool (decide (D = X)) := hP 21 (by kernel_rfl)
    have e41 : ac.eval (.tmp 41) = .bool (decide (X = D)) := hP 24 (by kernel_rfl)
    have e33 : ac.eval (.tmp 33) = .bool true := hP 16 (by kernel_rfl)
    exact rop_bin _ _ _ _ _ rfl e38 e41 (guard_bool _ _ _ _ _ _ w') (eql_bool_t _ _ (decide_eq_decide.2 eq_comm) w') (wanted_of (j := 16) (b := true) rfl rfl e33) (hK _ _ (le8_refl _) rfl)
  · intro ac w' hF hL hP hU K hK
    have hB := below_undrew hL
    have e33 : ac.eval (.tmp 33) = .bool true := hP 16 (by kernel_rfl)
    have e42 : ac.eval (.tmp 42) = .bool true := hP 25 (by kernel_rfl)
    exact rop_pick _ _ _ rfl true e33 (by simpa using e42) (wanted_none rfl) (hK _ _ (le8_refl _) rfl)
  · intro ac w' hF hL hP hU K hK
    have hB := below_undrew hL
    have e43 : ac.eval (.tmp 43) = .bool true := hP 26 (by kernel_rfl)
    exact rop_move _ rfl e43 (wanted_none rfl) (hK _ _ (le8_refl _) rfl)
  · intro ac w' hF hL hP hU K hK
    have hB := below_undrew hL
    have e0 : ac.eval (.tmp 0) = .string kB := hF.at 0 (by kernel_rfl)
    have e44 : ac.eval (.tmp 44) = .bool true := hP 27 (by kernel_rfl)
    exact rop_move _ rfl e0 (wanted_of (j := 27) (b := true) rfl rfl e44) (hK _ _ (le8_refl _) rfl)
  · intro ac w' hF hL hP hU K hK
    have hB := below_undrew hL
    have e8 : ac.eval (.tmp 8) = .pointer (some ⟨w2.heap.size, 0, none⟩) := hF.at 8 (by kernel_rfl)
    have e44 : ac.eval (.tmp 44) = .bool true := hP 27 (by kernel_rfl)
    exact rop_load _ _ rfl w2.heap.size 0 e8 (D.map u8V) _ (r8.out w' hB) Tryd.underlying30 rfl (sum_info' HDl.out) (wanted_of (j := 27) (b := true) rfl rfl e44) (hK _ _ (le8_refl _) rfl)
  · intro ac w' hF hL hP hU K hK
    have hB := below_undrew hL
    have e1 : ac.eval (.tmp 1) = .string t := hF.at 1 (by kernel_rfl)
    have e44 : ac.eval (.tmp 44) = .bool true := hP 27 (by kernel_rfl)
    exact rop_move _ rfl e1 (wanted_of (j := 27) (b := true) rfl rfl e44) (hK _ _ (le8_refl _) rfl)
  · intro ac w' hF hL hP hU K hK
    have hB := below_undrew hL
    have e47 : ac.eval (.tmp 47) = .string t := hP 30 (by kernel_rfl)
    have e44 : ac.eval (.tmp 44) = .bool true := hP 27 (by kernel_rfl)
    refine rop_texts 1 _ rfl [t] ?_ rfl (by decide) (by decide) (wanted_of (j := 27) (b := true) rfl rfl e44) (fun v w2 hb hr => hK v w2 hb hr)
    simp [e47, List.range, List.range.loop]
  · intro ac w' hF hL hP hU K hK
    have hB := below_undrew hL
    have e45 : ac.eval (.tmp 45) = .string kB := hP 28 (by kernel_rfl)
    have e46 : ac.eval (.tmp 46) = sumV D := hP 29 (by kernel_rfl)
    have e48 : StrRow w' (ac.eval (.tmp 48)) [t] := hP 31 (by kernel_rfl)
    have e44 : ac.eval (.tmp 44) = .bool true := hP 27 (by kernel_rfl)
    refine rop_call 30 _ _ rfl #[.string kB, sumV D, ac.eval (.tmp 48)] (by simp [e45, e46]) (by kernel_rfl) (wanted_of (j := 27) (b := true) rfl rfl e44) ?_
    refine (macRightF_t kB k HkB.out D HDl.out _ [t] T HT.out w' HD.out.symm e48 (hK3.old hB) hkl.out htl.out).mono ?_
    rintro e w2 ⟨rfl, hb⟩
    exact ⟨_, rfl, hK _ _ hb rfl⟩
  · intro ac w' hF hL hP hU K hK
    have hB := below_undrew hL
    have e44 : ac.eval (.tmp 44) = .bool true := hP 27 (by kernel_rfl)
    have e49 : ac.eval (.tmp 49) = .bool true := hP 32 (by kernel_rfl)
    exact rop_pick _ _ _ rfl true e44 (by simpa using e49) (wanted_none rfl) (hK _ _ (le8_refl _) rfl)
  · intro ac w' hF hL hP hU K hK
    have hB := below_undrew hL
    have e50 : ac.eval (.tmp 50) = .bool true := hP 33 (by kernel_rfl)
    exact rop_assign _ rfl e50 (wanted_none rfl) (hK _ _ (le8_refl _) rfl)
  · intro ac w' hF hB hT
    have e6 : ac.eval (.tmp 6) = .bool true := hT 34 (by decide)
    rw [hF.lit 51 rfl]
    simp only [List.range, List.range.loop, List.map_cons, List.map_nil, e6]
    go_wp2
    go_ret
    exact ⟨rfl, below_step bb3 (Nat.le_refl _) hB⟩

set_option maxRecDepth 100000 in
theorem lifted (os : Os) (started : os.Started) (H : Type) (enc : TypeId × Value → H) :
    ReturnsInHanded {} Tryd.checked os 7 .any (fun w args => (Rows.macSumsSpec.pre enc Tryd.prog Tryd.f7 [] false w args ∧ laidMetH Tryd.prog [("scrinium/sha.k", Rows.laid_scrinium_sha_k)] w) ∧ sizedMet enc Tryd.prog Tryd.f7 (OpenSpec.ofChange Rows.macSumsSpec) false w args)
      (Rows.macSumsSpec.post enc Tryd.prog Tryd.f7 false true false false) := by
  refine returnsInHanded_of_change_and (C := Tryd.checked) (X := fun w _ => laidMetH Tryd.prog [("scrinium/sha.k", Rows.laid_scrinium_sha_k)] w) (fun _ _ _ hh h => h.of_heap hh) lawOwn started (by kernel_rfl) Tryd.func7
    (ChangeSpec.witness_shaped (enc := enc) (C := Tryd.checked) (os := os) (X := fun w _ => laidMetH Tryd.prog [("scrinium/sha.k", Rows.laid_scrinium_sha_k)] w) false (World.doorLaid Tryd.prog 400 os) #[.string .empty, .string .empty, sumV (List.replicate 32 0)] 8 rfl (World.shaped_of_RefB (by kernel_rfl) (by kernel_rfl)) (by kernel_rfl) (by kernel_rfl) (by kernel_rfl) (door_met os _)) ?_
  intro W base args ds gs before hval0 hW _ _ hL _
  have hval : ∀ (j : Nat) t v, Tryd.f7.params[j]? = some t → args[j]? = some v → Value.okWide Tryd.prog W .any base t v := hval0
  have hW' := hW
  obtain ⟨p, q, hA0, hV, rfl, hfz, hnd⟩ := hW
  have hA : DataW.TrodAll enc Tryd.prog W 0 (fun _ => true) true Tryd.f7.params.toList args.toList ds p := hA0
  rw [Tryd.params7] at hA hval
  obtain ⟨v0, vs0, d0, ds0, p0, q0, hargs, rfl, rfl, h0, r0⟩ := trodAll_cons hA
  obtain ⟨v1, vs1, d1, ds1, p1, q1, rfl, rfl, rfl, h1, r1⟩ := trodAll_cons r0
  obtain ⟨v2, vs2, d2, ds2, p2, q2, rfl, rfl, rfl, h2, r2⟩ := trodAll_cons r1
  obtain ⟨rfl, rfl, rfl⟩ := trodAll_nil r2
  obtain rfl : args = #[v0, v1, v2] := by cases args; simp_all
  obtain ⟨rfl, rfl⟩ := trodVars_none hV
  have hKT := KT_of_laid hL
  obtain ⟨s0, rfl, rfl, rfl, w0⟩ := Go.ChangeMaps.open_string Tryd.underlying9 (hval 0 9 v0 rfl rfl) h0
  obtain ⟨s1, rfl, rfl, rfl, w1⟩ := Go.ChangeMaps.open_string Tryd.underlying9 (hval 1 9 v1 rfl rfl) h1
  obtain ⟨x2, rfl, w2⟩ := open_sum (hval 2 30 v2 rfl rfl) h2
  clear hA0 hval0
  refine (walk (w := W) hKT s0 w0 s1 w1 x2 w2).mono fun e W' ⟨he, bel⟩ => ?_
  subst he
  exact ⟨_, rfl, law_post rfl rfl (by kernel_rfl) hW' rfl bel⟩

theorem row_holds : Rows.MacSumsSaid :=
  OpenClaim.holds_of_wide 7 Tryd.f7 rfl rfl rfl rfl rfl rfl rfl ⟨rfl, rfl, rfl, rfl, rfl⟩ rfl rfl rfl rfl rfl (by kernel_rfl) Tryd.func7 (by kernel_rfl)
    (of_decide_eq_true (by kernel_rfl)) (by unfold Func.isWrapper; first | (rw [if_pos (by decide +kernel)]; kernel_rfl) | (rw [if_neg (by decide +kernel)]; exact ⟨rfl, rfl⟩))
    (fun os started H enc _ => lifted os started H enc)

theorem holds : Rows.MacSumsCardSaid :=
  Claim7.holds_tied_plain_at .later [] [.data] true Rows.macSumsCard.stood.harness false
    row_holds (fun _ h => by cases h) (by kernel_rfl) (fun _ h => by cases h) macSums_row_tie rfl ⟨rfl, rfl⟩ (by kernel_rfl) rfl
    (fun f fn hf hfn => by
      obtain rfl : f = 7 := Option.some.inj ((show Tryd.prog.funcNamed "scrinium/scriniumlaw03.MacSums" = some 7 by kernel_rfl).symm.trans hf) |>.symm
      obtain rfl : fn = Tryd.f7 := (Option.some.inj (Tryd.func7.symm.trans hfn)).symm
      exact ⟨by kernel_rfl, fun j t ht => by
        rw [Tryd.params7] at ht
        have hm : t ∈ [9, 9, 30] := by simpa using Array.mem_of_getElem? ht
        have hall : ([9, 9, 30].all fun u => !Tryd.prog.wantsStandIn u) = true := by kernel_rfl
        exact (show Tryd.prog.wantsStandIn t = false by simpa using List.all_eq_true.1 hall t hm)⟩)
    (by kernel_rfl)
end Go.Proofs.YtcecncbhfcoilaaDoor.macSums

theorem Go.Proofs.YtcecncbhfcoilaaDoor.macSums_holds : Go.Proofs.YtcecncbhfcoilaaDoor.Rows.MacSumsCardSaid := Go.Proofs.YtcecncbhfcoilaaDoor.macSums.holds
#print axioms Go.Proofs.YtcecncbhfcoilaaDoor.macSums_holds
