/-
  MacNil: of no maker nothing is right; a zero one has the empty key. For every text (its first 100 bytes); the numbers K are as the program's text lays them.
-/
import Derived.Test.YtcecncbhfcoilaaDoorShaLaw
import Derived.Test.YtcecncbhfcoilaaDoorMacAwake
import Derived.Test.YtcecncbhfcoilaaDoorRegOps
namespace Go.Proofs.YtcecncbhfcoilaaDoor.macNil
open Go.ChangeShapes Go.WideShapes Go.ChangeAt Go.RowKit

set_option maxHeartbeats 4000000 in
set_option maxRecDepth 100000 in
theorem walk {w : World} (hK : KT w) (s : ByteArray) (_ : s.size ≤ maxLen) :
    Calls Tryd.prog 11 #[.string s] w fun e w' => e = .returned (.bool true) ∧ Below w.heap.size w w' := by
  obtain ⟨t, ht⟩ : ∃ t, t = shortB s 100 := ⟨_, rfl⟩
  have ht100 : t.size ≤ 100 := by rw [ht]; exact shortB_size s 100
  have hlt : Hid ((flat [t]).length < 288230376151711744) := Lib.hid (by rw [flat_one, ← Lib.size_eq]; omega)
  have Ht := Lib.hid ht
  clear ht
  go_enter Tryd.func11, Tryd.ntmps11
  go_upto_region 3 with (first
    | refine wpList_build_at rfl 58 #[] rfl (hL zV zB 0 ++ hL zV zB 0).toArray [] (by simp) (by kernel_rfl) ?_)
  obtain ⟨w0, hw0⟩ : ∃ w0, w0 = w.alloc (.cells (hL zV zB 0 ++ hL zV zB 0).toArray 58) := ⟨_, rfl⟩
  have b0 : Below w.heap.size w w0 := by rw [hw0]; exact (Below.refl _ _).alloc (Nat.le_refl _) _
  have z0 : ZeroMaker w.heap.size w0 := by
    rw [hw0]
    obtain ⟨r1, r2⟩ := range_split (heap_alloc_last w (.cells (hL zV zB 0 ++ hL zV zB 0).toArray 58))
    rw [zL_length] at r2
    exact ⟨⟨zV, zB, hv_zero, by simp, r1⟩, ⟨zV, zB, hv_zero, by simp, r2⟩⟩
  rw [← hw0]
  clear hw0
  go_upto_region 5 with (first
    | (go_at_call 25; refine (short3_any s 100 100 rfl _).mono ?_; rintro e w2 ⟨rfl, rfl⟩; rw [← Ht.out]))
  obtain ⟨w1, hw1⟩ : ∃ w1, w1 = w0.alloc (.cells (zS.map u8V).toArray 30) := ⟨_, rfl⟩
  have b1 : Below w0.heap.size w0 w1 := by rw [hw1]; exact (Below.refl _ _).alloc (Nat.le_refl _) _
  have bb : Below w.heap.size w w1 := below_step b0 (Nat.le_refl _) b1
  have l1 : w0.heap.size < w1.heap.size := by rw [hw1]; simp
  have hK1 := hK.old bb
  have r1 : w1.rangeAt w0.heap.size 0 (zS.map u8V) := by rw [hw1]; exact range_box _ _ _
  have z1 : ZeroMaker w.heap.size w1 := z0.old b1 z0.lt
  have r5 : Hid (∀ w', Below w1.heap.size w1 w' → w'.rangeAt w0.heap.size 0 (zS.map u8V)) := Lib.hid fun w' h j y hy => (h.cell (p := ⟨w0.heap.size, 0 + j, none⟩) l1).trans (r1 j y hy)
  have hzm : Hid (∀ w', Below w1.heap.size w1 w' → ZeroMaker w.heap.size w') := Lib.hid fun w' h => z1.old h z1.lt
  change Code.wp _ _ _ _ (w0.alloc (.cells (zS.map u8V).toArray 30))
  rw [← hw1]
  clear hw1
  refine wp_region_tab [RT.is (.bool true), RT.is (.bool true), RT.is (.pointer none), RT.is (.string t), RT.row [t], RT.is (sumV zS), RT.is (sumV zS), RT.is (.bool true), RT.is (.bool true), RT.is (.bool true), RT.is (.pointer none), RT.is (sumV zS), RT.is (.string t), RT.row [t], RT.is (.bool false), RT.is (.bool true), RT.is (.bool true), RT.is (.bool true), RT.is (.pointer none), RT.is (sumV zS), RT.is (sumV zS), RT.is (.bool true), RT.is (.bool true), RT.is (.bool true), RT.is (.pointer (some ⟨w.heap.size, 0, none⟩)), RT.is (.string t), RT.row [t], RT.is (sumV (Mac.mac [] (flat [t]))), RT.is (.string t), RT.row [t], RT.is (sumV (Mac.mac [] (flat [t]))), RT.is (.bool true), RT.is (.bool true), RT.is (.bool true), RT.is (.pointer (some ⟨w.heap.size, 0, none⟩)), RT.is (.string t), RT.row [t], RT.is (sumV (Mac.mac [] (flat [t]))), RT.is (.string t), RT.row [t], RT.is (.bool true), RT.is (.bool true), RT.is (.bool true)] (by kernel_rfl) (by kernel_rfl) (by kernel_rfl) (by kernel_rfl) ⟨?_, ?_, ?_, ?_, ?_, ?_, ?_, ?_, ?_, ?_, ?_, ?_, ?_, ?_, ?_, ?_, ?_, ?_, ?_, ?_, ?_, ?_, ?_, ?_, ?_, ?_, ?_, ?_, ?_, ?_, ?_, ?_, ?_, ?_, ?_, ?_, ?_, ?_, ?_, ?_, ?_, ?_, ?_, trivial⟩ ?_
  · intro a w' hF hL hP hU K hK
    have hB := below_undrew hL
    refine rop_call 24 _ _ rfl #[] (by simp) (by kernel_rfl) (wanted_none rfl) ?_
    refine (awake3_any w' (hK1.old hB)).mono ?_
    rintro e w2 ⟨rfl, hb⟩
    exact ⟨_, rfl, hK _ _ hb rfl⟩
  · intro a w' hF hL hP hU K hK
    have hB := below_undrew hL
    have e10 : a.eval (.tmp 10) = .bool true := hP 0 (by kernel_rfl)
    exact rop_move _ rfl e10 (wanted_none rfl) (hK _ _ (le8_refl _) rfl)
  · intro a w' hF hL hP hU K hK
    have hB := below_undrew hL
    have e3 : a.eval (.tmp 3) = .pointer none := hF.at 3 (by kernel_rfl)
    have e11 : a.eval (.tmp 11) = .bool true := hP 1 (by kernel_rfl)
    exact rop_move _ rfl e3 (wanted_of (j := 1) (b := true) rfl rfl e11) (hK _ _ (le8_refl _) rfl)
  · intro a w' hF hL hP hU K hK
    have hB := below_undrew hL
    have e0 : a.eval (.tmp 0) = .string t := hF.at 0 (by kernel_rfl)
    have e11 : a.eval (.tmp 11) = .bool true := hP 1 (by kernel_rfl)
    exact rop_move _ rfl e0 (wanted_of (j := 1) (b := true) rfl rfl e11) (hK _ _ (le8_refl _) rfl)
  · intro a w' hF hL hP hU K hK
    have hB := below_undrew hL
    have e13 : a.eval (.tmp 13) = .string t := hP 3 (by kernel_rfl)
    have e11 : a.eval (.tmp 11) = .bool true := hP 1 (by kernel_rfl)
    refine rop_texts 1 _ rfl [t] ?_ rfl (by decide) (by decide) (wanted_of (j := 1) (b := true) rfl rfl e11) (fun v w2 hb hr => hK v w2 hb hr)
    simp [e13, List.range, List.range.loop]
  · intro a w' hF hL hP hU K hK
    have hB := below_undrew hL
    have e12 : a.eval (.tmp 12) = .pointer none := hP 2 (by kernel_rfl)
    have e14 : StrRow w' (a.eval (.tmp 14)) [t] := hP 4 (by kernel_rfl)
    have e11 : a.eval (.tmp 11) = .bool true := hP 1 (by kernel_rfl)
    refine rop_call 32 _ _ rfl #[.pointer none, a.eval (.tmp 14)] (by simp [e12]) (by kernel_rfl) (wanted_of (j := 1) (b := true) rfl rfl e11) ?_
    refine (macSum_nil _ w').mono ?_
    rintro e w2 ⟨rfl, hb⟩
    exact ⟨_, rfl, hK _ _ hb rfl⟩
  · intro a w' hF hL hP hU K hK
    have hB := below_undrew hL
    have e5 : a.eval (.tmp 5) = .pointer (some ⟨w0.heap.size, 0, none⟩) := hF.at 5 (by kernel_rfl)
    have e11 : a.eval (.tmp 11) = .bool true := hP 1 (by kernel_rfl)
    exact rop_load _ _ rfl w0.heap.size 0 e5 (zS.map u8V) _ (r5.out w' hB) Tryd.underlying30 rfl (sum_info' zS_length) (wanted_of (j := 1) (b := true) rfl rfl e11) (hK _ _ (le8_refl _) rfl)
  · intro a w' hF hL hP hU K hK
    have hB := below_undrew hL
    have e15 : a.eval (.tmp 15) = sumV zS := hP 5 (by kernel_rfl)
    have e16 : a.eval (.tmp 16) = sumV zS := hP 6 (by kernel_rfl)
    have e11 : a.eval (.tmp 11) = .bool true := hP 1 (by kernel_rfl)
    exact rop_bin _ _ _ _ _ rfl e15 e16 (guard_run .eql _ _ zS zS w') (eql_sum_t zS zS zS_length zS_length rfl w') (wanted_of (j := 1) (b := true) rfl rfl e11) (hK _ _ (le8_refl _) rfl)
  · intro a w' hF hL hP hU K hK
    have hB := below_undrew hL
    have e11 : a.eval (.tmp 11) = .bool true := hP 1 (by kernel_rfl)
    have e17 : a.eval (.tmp 17) = .bool true := hP 7 (by kernel_rfl)
    exact rop_pick _ _ _ rfl true e11 (by simpa using e17) (wanted_none rfl) (hK _ _ (le8_refl _) rfl)
  · intro a w' hF hL hP hU K hK
    have hB := below_undrew hL
    have e18 : a.eval (.tmp 18) = .bool true := hP 8 (by kernel_rfl)
    exact rop_move _ rfl e18 (wanted_none rfl) (hK _ _ (le8_refl _) rfl)
  · intro a w' hF hL hP hU K hK
    have hB := below_undrew hL
    have e3 : a.eval (.tmp 3) = .pointer none := hF.at 3 (by kernel_rfl)
    have e19 : a.eval (.tmp 19) = .bool true := hP 9 (by kernel_rfl)
    exact rop_move _ rfl e3 (wanted_of (j := 9) (b := true) rfl rfl e19) (hK _ _ (le8_refl _) rfl)
  · intro a w' hF hL hP hU K hK
    have hB := below_undrew hL
    have e5 : a.eval (.tmp 5) = .pointer (some ⟨w0.heap.size, 0, none⟩) := hF.at 5 (by kernel_rfl)
    have e19 : a.eval (.tmp 19) = .bool true := hP 9 (by kernel_rfl)
    exact rop_load _ _ rfl w0.heap.size 0 e5 (zS.map u8V) _ (r5.out w' hB) Tryd.underlying30 rfl (sum_info' zS_length) (wanted_of (j := 9) (b := true) rfl rfl e19) (hK _ _ (le8_refl _) rfl)
  · intro a w' hF hL hP hU K hK
    have hB := below_undrew hL
    have e0 : a.eval (.tmp 0) = .string t := hF.at 0 (by kernel_rfl)
    have e19 : a.eval (.tmp 19) = .bool true := hP 9 (by kernel_rfl)
    exact rop_move _ rfl e0 (wanted_of (j := 9) (b := true) rfl rfl e19) (hK _ _ (le8_refl _) rfl)
  · intro a w' hF hL hP hU K hK
    have hB := below_undrew hL
    have e22 : a.eval (.tmp 22) = .string t := hP 12 (by kernel_rfl)
    have e19 : a.eval (.tmp 19) = .bool true := hP 9 (by kernel_rfl)
    refine rop_texts 1 _ rfl [t] ?_ rfl (by decide) (by decide) (wanted_of (j := 9) (b := true) rfl rfl e19) (fun v w2 hb hr => hK v w2 hb hr)
    simp [e22, List.range, List.range.loop]
  · intro a w' hF hL hP hU K hK
    have hB := below_undrew hL
    have e20 : a.eval (.tmp 20) = .pointer none := hP 10 (by kernel_rfl)
    have e21 : a.eval (.tmp 21) = sumV zS := hP 11 (by kernel_rfl)
    have e23 : StrRow w' (a.eval (.tmp 23)) [t] := hP 13 (by kernel_rfl)
    have e19 : a.eval (.tmp 19) = .bool true := hP 9 (by kernel_rfl)
    refine rop_call 33 _ _ rfl #[.pointer none, sumV zS, a.eval (.tmp 23)] (by simp [e20, e21]) (by kernel_rfl) (wanted_of (j := 9) (b := true) rfl rfl e19) ?_
    refine (macRight_nil zS _ w').mono ?_
    rintro e w2 ⟨rfl, hb⟩
    exact ⟨_, rfl, hK _ _ hb rfl⟩
  · intro a w' hF hL hP hU K hK
    have hB := below_undrew hL
    have e24 : a.eval (.tmp 24) = .bool false := hP 14 (by kernel_rfl)
    have e19 : a.eval (.tmp 19) = .bool true := hP 9 (by kernel_rfl)
    exact rop_not _ _ rfl false e24 (wanted_of (j := 9) (b := true) rfl rfl e19) (hK _ _ (le8_refl _) rfl)
  · intro a w' hF hL hP hU K hK
    have hB := below_undrew hL
    have e19 : a.eval (.tmp 19) = .bool true := hP 9 (by kernel_rfl)
    have e25 : a.eval (.tmp 25) = .bool true := hP 15 (by kernel_rfl)
    exact rop_pick _ _ _ rfl true e19 (by simpa using e25) (wanted_none rfl) (hK _ _ (le8_refl _) rfl)
  · intro a w' hF hL hP hU K hK
    have hB := below_undrew hL
    have e26 : a.eval (.tmp 26) = .bool true := hP 16 (by kernel_rfl)
    exact rop_move _ rfl e26 (wanted_none rfl) (hK _ _ (le8_refl _) rfl)
  · intro a w' hF hL hP hU K hK
    have hB := below_undrew hL
    have e3 : a.eval (.tmp 3) = .pointer none := hF.at 3 (by kernel_rfl)
    have e27 : a.eval (.tmp 27) = .bool true := hP 17 (by kernel_rfl)
    exact rop_move _ rfl e3 (wanted_of (j := 17) (b := true) rfl rfl e27) (hK _ _ (le8_refl _) rfl)
  · intro a w' hF hL hP hU K hK
    have hB := below_undrew hL
    have e28 : a.eval (.tmp 28) = .pointer none := hP 18 (by kernel_rfl)
    have e27 : a.eval (.tmp 27) = .bool true := hP 17 (by kernel_rfl)
    refine rop_call 34 _ _ rfl #[.pointer none] (by simp [e28]) (by kernel_rfl) (wanted_of (j := 17) (b := true) rfl rfl e27) ?_
    refine (macName_nil w').mono ?_
    rintro e w2 ⟨rfl, hb⟩
    exact ⟨_, rfl, hK _ _ hb rfl⟩
  · intro a w' hF hL hP hU K hK
    have hB := below_undrew hL
    have e5 : a.eval (.tmp 5) = .pointer (some ⟨w0.heap.size, 0, none⟩) := hF.at 5 (by kernel_rfl)
    have e27 : a.eval (.tmp 27) = .bool true := hP 17 (by kernel_rfl)
    exact rop_load _ _ rfl w0.heap.size 0 e5 (zS.map u8V) _ (r5.out w' hB) Tryd.underlying30 rfl (sum_info' zS_length) (wanted_of (j := 17) (b := true) rfl rfl e27) (hK _ _ (le8_refl _) rfl)
  · intro a w' hF hL hP hU K hK
    have hB := below_undrew hL
    have e29 : a.eval (.tmp 29) = sumV zS := hP 19 (by kernel_rfl)
    have e30 : a.eval (.tmp 30) = sumV zS := hP 20 (by kernel_rfl)
    have e27 : a.eval (.tmp 27) = .bool true := hP 17 (by kernel_rfl)
    exact rop_bin _ _ _ _ _ rfl e29 e30 (guard_run .eql _ _ zS zS w') (eql_sum_t zS zS zS_length zS_length rfl w') (wanted_of (j := 17) (b := true) rfl rfl e27) (hK _ _ (le8_refl _) rfl)
  · intro a w' hF hL hP hU K hK
    have hB := below_undrew hL
    have e27 : a.eval (.tmp 27) = .bool true := hP 17 (by kernel_rfl)
    have e31 : a.eval (.tmp 31) = .bool true := hP 21 (by kernel_rfl)
    exact rop_pick _ _ _ rfl true e27 (by simpa using e31) (wanted_none rfl) (hK _ _ (le8_refl _) rfl)
  · intro a w' hF hL hP hU K hK
    have hB := below_undrew hL
    have e32 : a.eval (.tmp 32) = .bool true := hP 22 (by kernel_rfl)
    exact rop_move _ rfl e32 (wanted_none rfl) (hK _ _ (le8_refl _) rfl)
  · intro a w' hF hL hP hU K hK
    have hB := below_undrew hL
    have e4 : a.eval (.tmp 4) = .pointer (some ⟨w.heap.size, 0, none⟩) := hF.at 4 (by kernel_rfl)
    have e33 : a.eval (.tmp 33) = .bool true := hP 23 (by kernel_rfl)
    exact rop_move _ rfl e4 (wanted_of (j := 23) (b := true) rfl rfl e33) (hK _ _ (le8_refl _) rfl)
  · intro a w' hF hL hP hU K hK
    have hB := below_undrew hL
    have e0 : a.eval (.tmp 0) = .string t := hF.at 0 (by kernel_rfl)
    have e33 : a.eval (.tmp 33) = .bool true := hP 23 (by kernel_rfl)
    exact rop_move _ rfl e0 (wanted_of (j := 23) (b := true) rfl rfl e33) (hK _ _ (le8_refl _) rfl)
  · intro a w' hF hL hP hU K hK
    have hB := below_undrew hL
    have e35 : a.eval (.tmp 35) = .string t := hP 25 (by kernel_rfl)
    have e33 : a.eval (.tmp 33) = .bool true := hP 23 (by kernel_rfl)
    refine rop_texts 1 _ rfl [t] ?_ rfl (by decide) (by decide) (wanted_of (j := 23) (b := true) rfl rfl e33) (fun v w2 hb hr => hK v w2 hb hr)
    simp [e35, List.range, List.range.loop]
  · intro a w' hF hL hP hU K hK
    have hB := below_undrew hL
    have e34 : a.eval (.tmp 34) = .pointer (some ⟨w.heap.size, 0, none⟩) := hP 24 (by kernel_rfl)
    have e36 : StrRow w' (a.eval (.tmp 36)) [t] := hP 26 (by kernel_rfl)
    have e33 : a.eval (.tmp 33) = .bool true := hP 23 (by kernel_rfl)
    refine rop_call 32 _ _ rfl #[.pointer (some ⟨w.heap.size, 0, none⟩), a.eval (.tmp 36)] (by simp [e34]) (by kernel_rfl) (wanted_of (j := 23) (b := true) rfl rfl e33) ?_
    refine (macSum_any w.heap.size [] _ [t] w' (.inr ⟨hzm.out w' hB, rfl⟩) e36 (hK1.old hB) hlt.out).mono ?_
    rintro e w2 ⟨rfl, hb⟩
    exact ⟨_, rfl, hK _ _ hb rfl⟩
  · intro a w' hF hL hP hU K hK
    have hB := below_undrew hL
    have e0 : a.eval (.tmp 0) = .string t := hF.at 0 (by kernel_rfl)
    have e33 : a.eval (.tmp 33) = .bool true := hP 23 (by kernel_rfl)
    exact rop_move _ rfl e0 (wanted_of (j := 23) (b := true) rfl rfl e33) (hK _ _ (le8_refl _) rfl)
  · intro a w' hF hL hP hU K hK
    have hB := below_undrew hL
    have e38 : a.eval (.tmp 38) = .string t := hP 28 (by kernel_rfl)
    have e33 : a.eval (.tmp 33) = .bool true := hP 23 (by kernel_rfl)
    refine rop_texts 1 _ rfl [t] ?_ rfl (by decide) (by decide) (wanted_of (j := 23) (b := true) rfl rfl e33) (fun v w2 hb hr => hK v w2 hb hr)
    simp [e38, List.range, List.range.loop]
  · intro a w' hF hL hP hU K hK
    have hB := below_undrew hL
    have e39 : StrRow w' (a.eval (.tmp 39)) [t] := hP 29 (by kernel_rfl)
    have e33 : a.eval (.tmp 33) = .bool true := hP 23 (by kernel_rfl)
    refine rop_call 29 _ _ rfl #[.string { data := #[] }, a.eval (.tmp 39)] (by simp [eval_const]) (by kernel_rfl) (wanted_of (j := 23) (b := true) rfl rfl e33) ?_
    refine (macOf_any ⟨#[]⟩ [] rfl _ [t] (flat [t]) rfl w' e39 (hK1.old hB) (by decide) hlt.out).mono ?_
    rintro e w2 ⟨rfl, hb⟩
    exact ⟨_, rfl, hK _ _ hb rfl⟩
  · intro a w' hF hL hP hU K hK
    have hB := below_undrew hL
    have e37 : a.eval (.tmp 37) = sumV (Mac.mac [] (flat [t])) := hP 27 (by kernel_rfl)
    have e40 : a.eval (.tmp 40) = sumV (Mac.mac [] (flat [t])) := hP 30 (by kernel_rfl)
    have e33 : a.eval (.tmp 33) = .bool true := hP 23 (by kernel_rfl)
    exact rop_bin _ _ _ _ _ rfl e37 e40 (guard_run .eql _ _ _ _ w') (eql_sum_t _ _ (Mac.mac_length _ _) (Mac.mac_length _ _) rfl w') (wanted_of (j := 23) (b := true) rfl rfl e33) (hK _ _ (le8_refl _) rfl)
  · intro a w' hF hL hP hU K hK
    have hB := below_undrew hL
    have e33 : a.eval (.tmp 33) = .bool true := hP 23 (by kernel_rfl)
    have e41 : a.eval (.tmp 41) = .bool true := hP 31 (by kernel_rfl)
    exact rop_pick _ _ _ rfl true e33 (by simpa using e41) (wanted_none rfl) (hK _ _ (le8_refl _) rfl)
  · intro a w' hF hL hP hU K hK
    have hB := below_undrew hL
    have e42 : a.eval (.tmp 42) = .bool true := hP 32 (by kernel_rfl)
    exact rop_move _ rfl e42 (wanted_none rfl) (hK _ _ (le8_refl _) rfl)
  · intro a w' hF hL hP hU K hK
    have hB := below_undrew hL
    have e4 : a.eval (.tmp 4) = .pointer (some ⟨w.heap.size, 0, none⟩) := hF.at 4 (by kernel_rfl)
    have e43 : a.eval (.tmp 43) = .bool true := hP 33 (by kernel_rfl)
    exact rop_move _ rfl e4 (wanted_of (j := 33) (b := true) rfl rfl e43) (hK _ _ (le8_refl _) rfl)
  · intro a w' hF hL hP hU K hK
    have hB := below_undrew hL
    have e0 : a.eval (.tmp 0) = .string t := hF.at 0 (by kernel_rfl)
    have e43 : a.eval (.tmp 43) = .bool true := hP 33 (by kernel_rfl)
    exact rop_move _ rfl e0 (wanted_of (j := 33) (b := true) rfl rfl e43) (hK _ _ (le8_refl _) rfl)
  · intro a w' hF hL hP hU K hK
    have hB := below_undrew hL
    have e45 : a.eval (.tmp 45) = .string t := hP 35 (by kernel_rfl)
    have e43 : a.eval (.tmp 43) = .bool true := hP 33 (by kernel_rfl)
    refine rop_texts 1 _ rfl [t] ?_ rfl (by decide) (by decide) (wanted_of (j := 33) (b := true) rfl rfl e43) (fun v w2 hb hr => hK v w2 hb hr)
    simp [e45, List.range, List.range.loop]
  · intro a w' hF hL hP hU K hK
    have hB := below_undrew hL
    have e46 : StrRow w' (a.eval (.tmp 46)) [t] := hP 36 (by kernel_rfl)
    have e43 : a.eval (.tmp 43) = .bool true := hP 33 (by kernel_rfl)
    refine rop_call 29 _ _ rfl #[.string { data := #[] }, a.eval (.tmp 46)] (by simp [eval_const]) (by kernel_rfl) (wanted_of (j := 33) (b := true) rfl rfl e43) ?_
    refine (macOf_any ⟨#[]⟩ [] rfl _ [t] (flat [t]) rfl w' e46 (hK1.old hB) (by decide) hlt.out).mono ?_
    rintro e w2 ⟨rfl, hb⟩
    exact ⟨_, rfl, hK _ _ hb rfl⟩
  · intro a w' hF hL hP hU K hK
    have hB := below_undrew hL
    have e0 : a.eval (.tmp 0) = .string t := hF.at 0 (by kernel_rfl)
    have e43 : a.eval (.tmp 43) = .bool true := hP 33 (by kernel_rfl)
    exact rop_move _ rfl e0 (wanted_of (j := 33) (b := true) rfl rfl e43) (hK _ _ (le8_refl _) rfl)
  · intro a w' hF hL hP hU K hK
    have hB := below_undrew hL
    have e48 : a.eval (.tmp 48) = .string t := hP 38 (by kernel_rfl)
    have e43 : a.eval (.tmp 43) = .bool true := hP 33 (by kernel_rfl)
    refine rop_texts 1 _ rfl [t] ?_ rfl (by decide) (by decide) (wanted_of (j := 33) (b := true) rfl rfl e43) (fun v w2 hb hr => hK v w2 hb hr)
    simp [e48, List.range, List.range.loop]
  · intro a w' hF hL hP hU K hK
    have hB := below_undrew hL
    have e44 : a.eval (.tmp 44) = .pointer (some ⟨w.heap.size, 0, none⟩) := hP 34 (by kernel_rfl)
    have e47 : a.eval (.tmp 47) = sumV (Mac.mac [] (flat [t])) := hP 37 (by kernel_rfl)
    have e49 : StrRow w' (a.eval (.tmp 49)) [t] := hP 39 (by kernel_rfl)
    have e43 : a.eval (.tmp 43) = .bool true := hP 33 (by kernel_rfl)
    refine rop_call 33 _ _ rfl #[.pointer (some ⟨w.heap.size, 0, none⟩), sumV (Mac.mac [] (flat [t])), a.eval (.tmp 49)] (by simp [e44, e47]) (by kernel_rfl) (wanted_of (j := 33) (b := true) rfl rfl e43) ?_
    refine (macRight_t w.heap.size [] (Mac.mac [] (flat [t])) (Mac.mac_length _ _) _ [t] w' rfl (.inr ⟨hzm.out w' hB, rfl⟩) e49 (hK1.old hB) hlt.out).mono ?_
    rintro e w2 ⟨rfl, hb⟩
    exact ⟨_, rfl, hK _ _ hb rfl⟩
  · intro a w' hF hL hP hU K hK
    have hB := below_undrew hL
    have e43 : a.eval (.tmp 43) = .bool true := hP 33 (by kernel_rfl)
    have e50 : a.eval (.tmp 50) = .bool true := hP 40 (by kernel_rfl)
    exact rop_pick _ _ _ rfl true e43 (by simpa using e50) (wanted_none rfl) (hK _ _ (le8_refl _) rfl)
  · intro a w' hF hL hP hU K hK
    have hB := below_undrew hL
    have e51 : a.eval (.tmp 51) = .bool true := hP 41 (by kernel_rfl)
    exact rop_assign _ rfl e51 (wanted_none rfl) (hK _ _ (le8_refl _) rfl)
  · intro a w' hF hB hT
    have e2 : a.eval (.tmp 2) = .bool true := hT 42 (by decide)
    rw [hF.lit 52 rfl]
    simp only [List.range, List.range.loop, List.map_cons, List.map_nil, e2]
    go_wp2
    go_ret
    exact ⟨rfl, below_step bb (Nat.le_refl _) hB⟩

set_option maxRecDepth 100000 in
theorem lifted (os : Os) (started : os.Started) (H : Type) (enc : TypeId × Value → H) :
    ReturnsInHanded {} Tryd.checked os 11 .any (fun w args => (Rows.macNilSpec.pre enc Tryd.prog Tryd.f11 [] false w args ∧ laidMetH Tryd.prog [("scrinium/sha.k", Rows.laid_scrinium_sha_k)] w) ∧ sizedMet enc Tryd.prog Tryd.f11 (OpenSpec.ofChange Rows.macNilSpec) false w args)
      (Rows.macNilSpec.post enc Tryd.prog Tryd.f11 false true false false) := by
  refine returnsInHanded_of_change_and (C := Tryd.checked) (X := fun w _ => laidMetH Tryd.prog [("scrinium/sha.k", Rows.laid_scrinium_sha_k)] w) (fun _ _ _ hh h => h.of_heap hh) lawOwn started (by kernel_rfl) Tryd.func11
    (ChangeSpec.witness_shaped (enc := enc) (C := Tryd.checked) (os := os) (X := fun w _ => laidMetH Tryd.prog [("scrinium/sha.k", Rows.laid_scrinium_sha_k)] w) false (World.doorLaid Tryd.prog 400 os) #[.string .empty] 8 rfl (World.shaped_of_RefB (by kernel_rfl) (by kernel_rfl)) (by kernel_rfl) (by kernel_rfl) (by kernel_rfl) (door_met os _)) ?_
  intro W base args ds gs before hval0 hW _ _ hL _
  have hval : ∀ (j : Nat) t v, Tryd.f11.params[j]? = some t → args[j]? = some v → Value.okWide Tryd.prog W .any base t v := hval0
  have hW' := hW
  obtain ⟨p, q, hA0, hV, rfl, hfz, hnd⟩ := hW
  have hA : DataW.TrodAll enc Tryd.prog W 0 (fun _ => true) true Tryd.f11.params.toList args.toList ds p := hA0
  rw [Tryd.params11] at hA hval
  obtain ⟨v0, vs0, d0, ds0, p0, q0, hargs, rfl, rfl, h0, r0⟩ := trodAll_cons hA
  obtain ⟨rfl, rfl, rfl⟩ := trodAll_nil r0
  obtain rfl : args = #[v0] := by cases args; simp_all
  obtain ⟨rfl, rfl⟩ := trodVars_none hV
  have hKT := KT_of_laid hL
  obtain ⟨s0, rfl, rfl, rfl, w0⟩ := Go.ChangeMaps.open_string Tryd.underlying9 (hval 0 9 v0 rfl rfl) h0
  clear hA0 hval0
  refine (walk (w := W) hKT s0 w0).mono fun e W' ⟨he, bel⟩ => ?_
  subst he
  exact ⟨_, rfl, law_post rfl rfl (by kernel_rfl) hW' rfl bel⟩

theorem row_holds : Rows.MacNilSaid :=
  OpenClaim.holds_of_wide 11 Tryd.f11 rfl rfl rfl rfl rfl rfl rfl ⟨rfl, rfl, rfl, rfl, rfl⟩ rfl rfl rfl rfl rfl (by kernel_rfl) Tryd.func11 (by kernel_rfl)
    (of_decide_eq_true (by kernel_rfl)) (by unfold Func.isWrapper; first | (rw [if_pos (by decide +kernel)]; kernel_rfl) | (rw [if_neg (by decide +kernel)]; exact ⟨rfl, rfl⟩))
    (fun os started H enc _ => lifted os started H enc)

theorem holds : Rows.MacNilCardSaid :=
  Claim7.holds_tied_plain_at .later [] [.data] true Rows.macNilCard.stood.harness false
    row_holds (fun _ h => by cases h) (by kernel_rfl) (fun _ h => by cases h) macNil_row_tie rfl ⟨rfl, rfl⟩ (by kernel_rfl) rfl
    (fun f fn hf hfn => by
      obtain rfl : f = 11 := Option.some.inj ((show Tryd.prog.funcNamed "scrinium/scriniumlaw03.MacNil" = some 11 by kernel_rfl).symm.trans hf) |>.symm
      obtain rfl : fn = Tryd.f11 := (Option.some.inj (Tryd.func11.symm.trans hfn)).symm
      exact ⟨by kernel_rfl, fun j t ht => by
        rw [Tryd.params11] at ht
        have hm : t ∈ [9] := by simpa using Array.mem_of_getElem? ht
        have hall : ([9].all fun u => !Tryd.prog.wantsStandIn u) = true := by kernel_rfl
        exact (show Tryd.prog.wantsStandIn t = false by simpa using List.all_eq_true.1 hall t hm)⟩)
    (by kernel_rfl)
end Go.Proofs.YtcecncbhfcoilaaDoor.macNil

theorem Go.Proofs.YtcecncbhfcoilaaDoor.macNil_holds : Go.Proofs.YtcecncbhfcoilaaDoor.Rows.MacNilCardSaid := Go.Proofs.YtcecncbhfcoilaaDoor.macNil.holds
#print axioms Go.Proofs.YtcecncbhfcoilaaDoor.macNil_holds
