/-
  ProofSizes: a path of another length than it should have is never right, nor are links. For any two hashes, any two numbers, any hashes (the first 50 of them); the numbers K of the package sha are as the program's own start lays them.
-/
import Derived.Test.YtjdhcncjcencbaaDoorProofHelp
namespace Go.Proofs.YtjdhcncjcencbaaDoor.proofSizes
open Go.ChangeShapes Go.WideShapes Go.ChangeAt Go.RowKit

set_option maxHeartbeats 8000000 in
set_option maxRecDepth 100000 in
theorem walk {w : World} (hK : KT w) (x0 x1 : List UInt8) (hx0 : x0.length = 32) (hx1 : x1.length = 32) (m n : Int) (hm : -9223372036854775808 ≤ m ∧ m ≤ 9223372036854775807) (hn : -9223372036854775808 ≤ n ∧ n ≤ 9223372036854775807) (v : Value) (l : Hs) (hv : Sums w v l) :
    Calls Tryd.prog 8 #[.agg (sc [x0, x1]).toArray, .agg #[.int .i64 m, .int .i64 n], v] w fun e w' => e = .returned (.bool true) ∧ Below w.heap.size w w' := by
  obtain ⟨P, hP⟩ : ∃ P, P = l.take 50 := ⟨_, rfl⟩
  have hPl : P.length ≤ 1000 := by rw [hP, List.length_take]; omega
  obtain ⟨z1, hz1⟩ : ∃ z1, z1 = (if okP m n then ((Tree.long m.toNat n.toNat : Nat) : Int) else -1) := ⟨_, rfl⟩
  obtain ⟨z2, hz2⟩ : ∃ z2, z2 = (if okL m n then ((Tree.llong m.toNat n.toNat true : Nat) : Int) else -1) := ⟨_, rfl⟩
  obtain ⟨k, hk⟩ : ∃ k, k = P.length := ⟨_, rfl⟩
  have HX0l := Lib.hid hx0
  have HX1l := Lib.hid hx1
  have HXo : Hid (all32 [x0, x1]) := Lib.hid (by
    intro x hx
    simp at hx
    rcases hx with rfl | rfl
    · exact hx0
    · exact hx1)
  have HL : Hid (∀ u, Calls Tryd.prog 22 #[.int .i64 m, .int .i64 n] u fun e w' => e = .returned (.int .i64 z1) ∧ Below u.heap.size u w') := Lib.hid fun u => by rw [hz1]; exact rlong_any m n u hm.2 hn.2
  have HM : Hid (∀ u, Calls Tryd.prog 27 #[.int .i64 m, .int .i64 n] u fun e w' => e = .returned (.int .i64 z2) ∧ Below u.heap.size u w') := Lib.hid fun u => by rw [hz2]; exact (rlinksLong_any m n u hm.2 hn.2).mono fun e w' ⟨h1, h2⟩ => ⟨h1, h2 ▸ Below.refl _ _⟩
  have HRI0 : Hid (¬ z1 = (k : Int) → ∀ v u, KT u → Sums u v P → Calls Tryd.prog 16 #[sumV x0, sumV x1, .int .i64 m, .int .i64 n, v] u fun e w' => e = .returned (.bool false) ∧ Below u.heap.size u w') := Lib.hid fun hne v u hk0 hv => by
    have := right_any x0 x1 hx0 hx1 m n hm.2 hn.2 v P u hv hPl hk0
    rw [rightF (by rw [foldLen_eq, ← hz1, ← hk]; exact decide_eq_false (fun e => hne e.symm))] at this
    exact this
  have HGO0 : Hid (¬ z2 = (k : Int) → ∀ v u, KT u → Sums u v P → Calls Tryd.prog 17 #[sumV x0, .int .i64 m, sumV x1, .int .i64 n, v] u fun e w' => e = .returned (.bool false) ∧ Below u.heap.size u w') := Lib.hid fun hne v u hk0 hv => by
    have := goes_any x0 x1 hx0 hx1 m n hm.2 hn.2 v P u hv hPl hk0
    rw [goesF (by rw [bothLen_eq, ← hz2, ← hk]; exact decide_eq_false (fun e => hne e.symm))] at this
    exact this
  have hkw : ∀ u, Below w.heap.size w u → KT u := fun u hu => hK.old hu
  obtain ⟨w0, hw0⟩ : ∃ w0, w0 = (w.alloc (.cells (sc [x0, x1]).toArray 41)).alloc (.cells #[.int .i64 m, .int .i64 n] 24) := ⟨_, rfl⟩
  have b0 : Below w.heap.size w w0 := by rw [hw0]; exact ((Below.refl _ _).alloc (Nat.le_refl _) _).alloc (by simp) _
  have j3 : w0.heap[w.heap.size]? = some (.cells (sc [x0, x1]).toArray 41 (0, 0)) := by
    rw [hw0]
    exact (((Below.refl (w.alloc (.cells (sc [x0, x1]).toArray 41)).heap.size _).alloc (Nat.le_refl _) _).block w.heap.size (by simp)).trans (heap_alloc_last w _)
  have j4 : w0.heap[w.heap.size + 1]? = some (.cells #[.int .i64 m, .int .i64 n] 24 (0, 0)) := by
    have := heap_alloc_last (w.alloc (.cells (sc [x0, x1]).toArray 41)) (.cells #[.int .i64 m, .int .i64 n] 24)
    rwa [World.size_alloc, ← hw0] at this
  have HAW := Lib.hid (awake12_any w0 (hkw _ b0))
  have HFW : Hid (∀ u, Below w.heap.size w u → Calls Tryd.prog 11 #[v, .int .i64 50] u fun e w' => ∃ v', e = .returned v' ∧ SumsB u.heap.size u v' (l.take 50) ∧ u = w') := Lib.hid fun u hu => few12_any v l 50 (by decide) u (hv.old hu)
  have HJ3 := Lib.hid j3
  have HJ4 := Lib.hid j4
  have HPE := Lib.hid hP
  have Hk := Lib.hid hk
  clear hP hPl hz1 hz2 hk hx0 hx1 hv hK j3 j4
  obtain ⟨XX, hXX⟩ : ∃ XX, XX = (sc [x0, x1]).toArray := ⟨_, rfl⟩
  rw [← hXX] at hw0 ⊢
  have HXX := Lib.hid hXX
  clear hXX
  go_enter Tryd.func8, Tryd.ntmps8
  go_upto_region 1 with (fail)
  rw [← hw0]
  clear hw0
  go_upto_region 3 with (first
    | (go_at_call 10; ((with_reducible refine HAW.out.mono ?_); rintro e w1 ⟨rfl, b1⟩; have b2 := below_step b0 (Nat.le_refl _) b1))
    | (go_at_call 11; refine (HFW.out _ b2).mono ?_; rintro e w2 ⟨v6, rfl, h6, rfl⟩; rw [← HPE.out] at h6; have HP6 := Lib.hid h6.1; clear h6))
  obtain ⟨w2, hw2⟩ : ∃ w2, w2 = w1 := ⟨_, rfl⟩
  subst hw2
  have JX' : Hid (w2.heap[w.heap.size]? = some (.cells (sc [x0, x1]).toArray 41 (0, 0))) := Lib.hid (heap_oldP HJ3.out b1)
  have JQ' : Hid (w2.heap[w.heap.size + 1]? = some (.cells #[.int .i64 m, .int .i64 n] 24 (0, 0))) := Lib.hid (heap_oldP HJ4.out b1)
  obtain ⟨ap, cp, rfl⟩ : ∃ a c, v6 = .slice a k c := by obtain ⟨a, c, e, -, -⟩ := HP6.out.slice; exact ⟨_, _, by rw [e, Hk.out]⟩
  obtain ⟨q4, hq4⟩ : ∃ q4, q4 = w.heap.size + 1 := ⟨_, rfl⟩
  obtain ⟨q3, hq3⟩ : ∃ q3, q3 = w.heap.size := ⟨_, rfl⟩
  rw [← hq4] at JQ' ⊢
  rw [← hq3] at JX' ⊢
  have JX := JX'
  have JQ := JQ'
  have HBW := Lib.hid b2
  have HP := HP6
  have hkw2 : ∀ u, Below w2.heap.size w2 u → KT u := fun u hu => hkw u (below_step HBW.out (Nat.le_refl _) hu)
  clear hq3 hq4 JX' JQ' HP6 HJ3 HJ4 b0 b1 b2 hkw HAW HFW HXX
  obtain ⟨W, hW⟩ : ∃ W, W = w2 := ⟨_, rfl⟩
  subst hW
  have HRI : Hid (¬ z1 = (k : Int) → ∀ u, Below W.heap.size W u → Calls Tryd.prog 16 #[sumV x0, sumV x1, .int .i64 m, .int .i64 n, .slice ap k cp] u fun e w' => e = .returned (.bool false) ∧ Below u.heap.size u w') := Lib.hid fun h u hu => HRI0.out h _ u (hkw2 u hu) (HP.out.old hu)
  have HGO : Hid (¬ z2 = (k : Int) → ∀ u, Below W.heap.size W u → Calls Tryd.prog 17 #[sumV x0, .int .i64 m, sumV x1, .int .i64 n, .slice ap k cp] u fun e w' => e = .returned (.bool false) ∧ Below u.heap.size u w') := Lib.hid fun h u hu => HGO0.out h _ u (hkw2 u hu) (HP.out.old hu)
  clear hkw2 HRI0 HGO0
  go_cut [9] from 11 to 34 (fun s wx => s = .bool true ∧ Below W.heap.size W wx)
  case first =>
    by_cases hne : z1 = (k : Int)
    · skip
      try simp only [Act.put]
      refine wp_region_tab0 [RT.is (.pointer (some ⟨q4, 0, none⟩)), RT.is (.int .i64 m), RT.is (.pointer (some ⟨q4, 1, none⟩)), RT.is (.int .i64 n), RT.is (.int .i64 z1), RT.is (.slice ap k cp), RT.is (.int .i64 (k : Int)), RT.is (.bool true), RT.is (.bool true), RT.any, RT.any, RT.any, RT.any, RT.any, RT.any, RT.any, RT.any, RT.any, RT.any, RT.any, RT.is (.bool true), RT.is (.bool true)] (by kernel_rfl) (by kernel_rfl) (by kernel_rfl) ⟨?_, ?_, ?_, ?_, ?_, ?_, ?_, ?_, ?_, ?_, ?_, ?_, ?_, ?_, ?_, ?_, ?_, ?_, ?_, ?_, ?_, ?_, trivial⟩ ?_
      · intro ac w' hF hL hP hU K hK
        have hB : Below _ _ _ := hL
        have e4 : ac.eval (.tmp 4) = .pointer (some ⟨q4, 0, none⟩) := hF.at 4 (by kernel_rfl)
        exact rop_idx _ _ _ rfl e4 rfl (idx2i q4 0 _ rfl (by decide) w') (wanted_none rfl) (hK _ _ (le8_refl _) rfl)
      · intro ac w' hF hL hP hU K hK
        have hB : Below _ _ _ := hL
        have e14 : ac.eval (.tmp 14) = .pointer (some ⟨q4, 0, none⟩) := hP 0 (by kernel_rfl)
        exact rop_ld _ _ rfl e14 (load_intP (cell_of (heap_oldP JQ.out hB) 0)) (wanted_none rfl) (hK _ _ (le8_refl _) rfl)
      · intro ac w' hF hL hP hU K hK
        have hB : Below _ _ _ := hL
        have e4 : ac.eval (.tmp 4) = .pointer (some ⟨q4, 0, none⟩) := hF.at 4 (by kernel_rfl)
        exact rop_idx _ _ _ rfl e4 rfl (idx2i q4 1 _ rfl (by decide) w') (wanted_none rfl) (hK _ _ (le8_refl _) rfl)
      · intro ac w' hF hL hP hU K hK
        have hB : Below _ _ _ := hL
        have e16 : ac.eval (.tmp 16) = .pointer (some ⟨q4, 1, none⟩) := hP 2 (by kernel_rfl)
        exact rop_ld _ _ rfl e16 (load_intP (cell_of (heap_oldP JQ.out hB) 1)) (wanted_none rfl) (hK _ _ (le8_refl _) rfl)
      · intro ac w' hF hL hP hU K hK
        have hB : Below _ _ _ := hL
        have e15 : ac.eval (.tmp 15) = .int .i64 m := hP 1 (by kernel_rfl)
        have e17 : ac.eval (.tmp 17) = .int .i64 n := hP 3 (by kernel_rfl)
        refine rop_call 22 _ _ rfl #[.int .i64 m, .int .i64 n] (by simp [e15, e17]) (by kernel_rfl) (wanted_none rfl) ?_
        refine (HL.out w').mono ?_
        rintro e w2 ⟨rfl, hb⟩
        exact ⟨_, rfl, hK _ _ hb rfl⟩
      · intro ac w' hF hL hP hU K hK
        have hB : Below _ _ _ := hL
        have e8 : ac.eval (.tmp 8) = .slice ap k cp := hF.at 8 (by kernel_rfl)
        exact rop_move _ rfl e8 (wanted_none rfl) (hK _ _ (le8_refl _) rfl)
      · intro ac w' hF hL hP hU K hK
        have hB : Below _ _ _ := hL
        have e19 : ac.eval (.tmp 19) = .slice ap k cp := hP 5 (by kernel_rfl)
        exact rop_lenG _ Tryd.underlying25 rfl e19 (wanted_none rfl) (hK _ _ (le8_refl _) rfl)
      · intro ac w' hF hL hP hU K hK
        have hB : Below _ _ _ := hL
        have e18 : ac.eval (.tmp 18) = .int .i64 z1 := hP 4 (by kernel_rfl)
        have e20 : ac.eval (.tmp 20) = .int .i64 (k : Int) := hP 6 (by kernel_rfl)
        exact rop_bin _ _ _ _ _ rfl e18 e20 (guard_int _ _ _ _ _ _ _ w') (eql_iG _ _ _ (by simpa using hne) w') (wanted_none rfl) (hK _ _ (le8_refl _) rfl)
      · intro ac w' hF hL hP hU K hK
        have hB : Below _ _ _ := hL
        have e21 : ac.eval (.tmp 21) = .bool true := hP 7 (by kernel_rfl)
        exact rop_move _ rfl e21 (wanted_none rfl) (hK _ _ (le8_refl _) rfl)
      · intro ac w' hF hL hP hU K hK
        have hB : Below _ _ _ := hL
        have e22 : ac.eval (.tmp 22) = .bool true := hP 8 (by kernel_rfl)
        exact rop_offG (j := 8) (b := false) rfl rfl e22 (by decide) (hK _ _ (le8_refl _) trivial)
      · intro ac w' hF hL hP hU K hK
        have hB : Below _ _ _ := hL
        have e22 : ac.eval (.tmp 22) = .bool true := hP 8 (by kernel_rfl)
        exact rop_offG (j := 8) (b := false) rfl rfl e22 (by decide) (hK _ _ (le8_refl _) trivial)
      · intro ac w' hF hL hP hU K hK
        have hB : Below _ _ _ := hL
        have e22 : ac.eval (.tmp 22) = .bool true := hP 8 (by kernel_rfl)
        exact rop_offG (j := 8) (b := false) rfl rfl e22 (by decide) (hK _ _ (le8_refl _) trivial)
      · intro ac w' hF hL hP hU K hK
        have hB : Below _ _ _ := hL
        have e22 : ac.eval (.tmp 22) = .bool true := hP 8 (by kernel_rfl)
        exact rop_offG (j := 8) (b := false) rfl rfl e22 (by decide) (hK _ _ (le8_refl _) trivial)
      · intro ac w' hF hL hP hU K hK
        have hB : Below _ _ _ := hL
        have e22 : ac.eval (.tmp 22) = .bool true := hP 8 (by kernel_rfl)
        exact rop_offG (j := 8) (b := false) rfl rfl e22 (by decide) (hK _ _ (le8_refl _) trivial)
      · intro ac w' hF hL hP hU K hK
        have hB : Below _ _ _ := hL
        have e22 : ac.eval (.tmp 22) = .bool true := hP 8 (by kernel_rfl)
        exact rop_offG (j := 8) (b := false) rfl rfl e22 (by decide) (hK _ _ (le8_refl _) trivial)
      · intro ac w' hF hL hP hU K hK
        have hB : Below _ _ _ := hL
        have e22 : ac.eval (.tmp 22) = .bool true := hP 8 (by kernel_rfl)
        exact rop_offG (j := 8) (b := false) rfl rfl e22 (by decide) (hK _ _ (le8_refl _) trivial)
      · intro ac w' hF hL hP hU K hK
        have hB : Below _ _ _ := hL
        have e22 : ac.eval (.tmp 22) = .bool true := hP 8 (by kernel_rfl)
        exact rop_offG (j := 8) (b := false) rfl rfl e22 (by decide) (hK _ _ (le8_refl _) trivial)
      · intro ac w' hF hL hP hU K hK
        have hB : Below _ _ _ := hL
        have e22 : ac.eval (.tmp 22) = .bool true := hP 8 (by kernel_rfl)
        exact rop_offG (j := 8) (b := false) rfl rfl e22 (by decide) (hK _ _ (le8_refl _) trivial)
      · intro ac w' hF hL hP hU K hK
        have hB : Below _ _ _ := hL
        have e22 : ac.eval (.tmp 22) = .bool true := hP 8 (by kernel_rfl)
        exact rop_offG (j := 8) (b := false) rfl rfl e22 (by decide) (hK _ _ (le8_refl _) trivial)
      · intro ac w' hF hL hP hU K hK
        have hB : Below _ _ _ := hL
        have e22 : ac.eval (.tmp 22) = .bool true := hP 8 (by kernel_rfl)
        exact rop_offG (j := 8) (b := false) rfl rfl e22 (by decide) (hK _ _ (le8_refl _) trivial)
      · intro ac w' hF hL hP hU K hK
        have hB : Below _ _ _ := hL
        have e22 : ac.eval (.tmp 22) = .bool true := hP 8 (by kernel_rfl)
        exact rop_pick _ _ _ rfl true e22 (by rfl) (wanted_none rfl) (hK _ _ (le8_refl _) rfl)
      · intro ac w' hF hL hP hU K hK
        have hB : Below _ _ _ := hL
        have e34 : ac.eval (.tmp 34) = .bool true := hP 20 (by kernel_rfl)
        exact rop_assign _ rfl e34 (wanted_none rfl) (hK _ _ (le8_refl _) rfl)
      · intro ac w' hF hB hT
        have e34 : ac.eval (.tmp 34) = .bool true := hT 20 (by decide)
        have e9 : ac.eval (.tmp 9) = .bool true := hT 21 (by decide)
        rw [hF.setsG [14, 15, 16, 17, 18, 19, 20, 21, 22, 23, 24, 25, 26, 27, 28, 29, 30, 31, 32, 33, 34, 9] (by kernel_rfl)]
        simp only [List.foldl_cons, List.foldl_nil, List.setIfInBounds_toArray, List.set_cons_succ, List.set_cons_zero, e34, e9]
        generalize ac.eval (.tmp 14) = u14
        generalize ac.eval (.tmp 15) = u15
        generalize ac.eval (.tmp 16) = u16
        generalize ac.eval (.tmp 17) = u17
        generalize ac.eval (.tmp 18) = u18
        generalize ac.eval (.tmp 19) = u19
        generalize ac.eval (.tmp 20) = u20
        generalize ac.eval (.tmp 21) = u21
        generalize ac.eval (.tmp 22) = u22
        generalize ac.eval (.tmp 23) = u23
        generalize ac.eval (.tmp 24) = u24
        generalize ac.eval (.tmp 25) = u25
        generalize ac.eval (.tmp 26) = u26
        generalize ac.eval (.tmp 27) = u27
        generalize ac.eval (.tmp 28) = u28
        generalize ac.eval (.tmp 29) = u29
        generalize ac.eval (.tmp 30) = u30
        generalize ac.eval (.tmp 31) = u31
        generalize ac.eval (.tmp 32) = u32
        generalize ac.eval (.tmp 33) = u33
        clear e34 e9 hT hF ac
        clear hne
        go_wp2_with fail
        go_meet
        exact ⟨rfl, hB⟩
    · skip
      try simp only [Act.put]
      refine wp_region_tab0 [RT.is (.pointer (some ⟨q4, 0, none⟩)), RT.is (.int .i64 m), RT.is (.pointer (some ⟨q4, 1, none⟩)), RT.is (.int .i64 n), RT.is (.int .i64 z1), RT.is (.slice ap k cp), RT.is (.int .i64 (k : Int)), RT.is (.bool false), RT.is (.bool false), RT.is (.pointer (some ⟨q3, 0 * 32, none⟩)), RT.is (sumV x0), RT.is (.pointer (some ⟨q3, 1 * 32, none⟩)), RT.is (sumV x1), RT.is (.pointer (some ⟨q4, 0, none⟩)), RT.is (.int .i64 m), RT.is (.pointer (some ⟨q4, 1, none⟩)), RT.is (.int .i64 n), RT.is (.slice ap k cp), RT.is (.bool false), RT.is (.bool true), RT.is (.bool true), RT.is (.bool true)] (by kernel_rfl) (by kernel_rfl) (by kernel_rfl) ⟨?_, ?_, ?_, ?_, ?_, ?_, ?_, ?_, ?_, ?_, ?_, ?_, ?_, ?_, ?_, ?_, ?_, ?_, ?_, ?_, ?_, ?_, trivial⟩ ?_
      · intro ac w' hF hL hP hU K hK
        have hB : Below _ _ _ := hL
        have e4 : ac.eval (.tmp 4) = .pointer (some ⟨q4, 0, none⟩) := hF.at 4 (by kernel_rfl)
        exact rop_idx _ _ _ rfl e4 rfl (idx2i q4 0 _ rfl (by decide) w') (wanted_none rfl) (hK _ _ (le8_refl _) rfl)
      · intro ac w' hF hL hP hU K hK
        have hB : Below _ _ _ := hL
        have e14 : ac.eval (.tmp 14) = .pointer (some ⟨q4, 0, none⟩) := hP 0 (by kernel_rfl)
        exact rop_ld _ _ rfl e14 (load_intP (cell_of (heap_oldP JQ.out hB) 0)) (wanted_none rfl) (hK _ _ (le8_refl _) rfl)
      · intro ac w' hF hL hP hU K hK
        have hB : Below _ _ _ := hL
        have e4 : ac.eval (.tmp 4) = .pointer (some ⟨q4, 0, none⟩) := hF.at 4 (by kernel_rfl)
        exact rop_idx _ _ _ rfl e4 rfl (idx2i q4 1 _ rfl (by decide) w') (wanted_none rfl) (hK _ _ (le8_refl _) rfl)
      · intro ac w' hF hL hP hU K hK
        have hB : Below _ _ _ := hL
        have e16 : ac.eval (.tmp 16) = .pointer (some ⟨q4, 1, none⟩) := hP 2 (by kernel_rfl)
        exact rop_ld _ _ rfl e16 (load_intP (cell_of (heap_oldP JQ.out hB) 1)) (wanted_none rfl) (hK _ _ (le8_refl _) rfl)
      · intro ac w' hF hL hP hU K hK
        have hB : Below _ _ _ := hL
        have e15 : ac.eval (.tmp 15) = .int .i64 m := hP 1 (by kernel_rfl)
        have e17 : ac.eval (.tmp 17) = .int .i64 n := hP 3 (by kernel_rfl)
        refine rop_call 22 _ _ rfl #[.int .i64 m, .int .i64 n] (by simp [e15, e17]) (by kernel_rfl) (wanted_none rfl) ?_
        refine (HL.out w').mono ?_
        rintro e w2 ⟨rfl, hb⟩
        exact ⟨_, rfl, hK _ _ hb rfl⟩
      · intro ac w' hF hL hP hU K hK
        have hB : Below _ _ _ := hL
        have e8 : ac.eval (.tmp 8) = .slice ap k cp := hF.at 8 (by kernel_rfl)
        exact rop_move _ rfl e8 (wanted_none rfl) (hK _ _ (le8_refl _) rfl)
      · intro ac w' hF hL hP hU K hK
        have hB : Below _ _ _ := hL
        have e19 : ac.eval (.tmp 19) = .slice ap k cp := hP 5 (by kernel_rfl)
        exact rop_lenG _ Tryd.underlying25 rfl e19 (wanted_none rfl) (hK _ _ (le8_refl _) rfl)
      · intro ac w' hF hL hP hU K hK
        have hB : Below _ _ _ := hL
        have e18 : ac.eval (.tmp 18) = .int .i64 z1 := hP 4 (by kernel_rfl)
        have e20 : ac.eval (.tmp 20) = .int .i64 (k : Int) := hP 6 (by kernel_rfl)
        exact rop_bin _ _ _ _ _ rfl e18 e20 (guard_int _ _ _ _ _ _ _ w') (eql_iG _ _ _ (by simpa using hne) w') (wanted_none rfl) (hK _ _ (le8_refl _) rfl)
      · intro ac w' hF hL hP hU K hK
        have hB : Below _ _ _ := hL
        have e21 : ac.eval (.tmp 21) = .bool false := hP 7 (by kernel_rfl)
        exact rop_move _ rfl e21 (wanted_none rfl) (hK _ _ (le8_refl _) rfl)
      · intro ac w' hF hL hP hU K hK
        have hB : Below _ _ _ := hL
        have e3 : ac.eval (.tmp 3) = .pointer (some ⟨q3, 0, none⟩) := hF.at 3 (by kernel_rfl)
        have e22 : ac.eval (.tmp 22) = .bool false := hP 8 (by kernel_rfl)
        exact rop_idx _ _ _ rfl e3 rfl (idx2S q3 0 _ rfl (by decide) w') (wanted_of (j := 8) (b := false) rfl rfl e22) (hK _ _ (le8_refl _) rfl)
      · intro ac w' hF hL hP hU K hK
        have hB : Below _ _ _ := hL
        have e23 : ac.eval (.tmp 23) = .pointer (some ⟨q3, 0 * 32, none⟩) := hP 9 (by kernel_rfl)
        have e22 : ac.eval (.tmp 22) = .bool false := hP 8 (by kernel_rfl)
        exact rop_ld _ _ rfl e23 (load_sumP HX0l.out (sc_rangeAt (heap_oldP JX.out hB) HXo.out 0 x0 rfl)) (wanted_of (j := 8) (b := false) rfl rfl e22) (hK _ _ (le8_refl _) rfl)
      · intro ac w' hF hL hP hU K hK
        have hB : Below _ _ _ := hL
        have e3 : ac.eval (.tmp 3) = .pointer (some ⟨q3, 0, none⟩) := hF.at 3 (by kernel_rfl)
        have e22 : ac.eval (.tmp 22) = .bool false := hP 8 (by kernel_rfl)
        exact rop_idx _ _ _ rfl e3 rfl (idx2S q3 1 _ rfl (by decide) w') (wanted_of (j := 8) (b := false) rfl rfl e22) (hK _ _ (le8_refl _) rfl)
      · intro ac w' hF hL hP hU K hK
        have hB : Below _ _ _ := hL
        have e25 : ac.eval (.tmp 25) = .pointer (some ⟨q3, 1 * 32, none⟩) := hP 11 (by kernel_rfl)
        have e22 : ac.eval (.tmp 22) = .bool false := hP 8 (by kernel_rfl)
        exact rop_ld _ _ rfl e25 (load_sumP HX1l.out (sc_rangeAt (heap_oldP JX.out hB) HXo.out 1 x1 rfl)) (wanted_of (j := 8) (b := false) rfl rfl e22) (hK _ _ (le8_refl _) rfl)
      · intro ac w' hF hL hP hU K hK
        have hB : Below _ _ _ := hL
        have e4 : ac.eval (.tmp 4) = .pointer (some ⟨q4, 0, none⟩) := hF.at 4 (by kernel_rfl)
        have e22 : ac.eval (.tmp 22) = .bool false := hP 8 (by kernel_rfl)
        exact rop_idx _ _ _ rfl e4 rfl (idx2i q4 0 _ rfl (by decide) w') (wanted_of (j := 8) (b := false) rfl rfl e22) (hK _ _ (le8_refl _) rfl)
      · intro ac w' hF hL hP hU K hK
        have hB : Below _ _ _ := hL
        have e27 : ac.eval (.tmp 27) = .pointer (some ⟨q4, 0, none⟩) := hP 13 (by kernel_rfl)
        have e22 : ac.eval (.tmp 22) = .bool false := hP 8 (by kernel_rfl)
        exact rop_ld _ _ rfl e27 (load_intP (cell_of (heap_oldP JQ.out hB) 0)) (wanted_of (j := 8) (b := false) rfl rfl e22) (hK _ _ (le8_refl _) rfl)
      · intro ac w' hF hL hP hU K hK
        have hB : Below _ _ _ := hL
        have e4 : ac.eval (.tmp 4) = .pointer (some ⟨q4, 0, none⟩) := hF.at 4 (by kernel_rfl)
        have e22 : ac.eval (.tmp 22) = .bool false := hP 8 (by kernel_rfl)
        exact rop_idx _ _ _ rfl e4 rfl (idx2i q4 1 _ rfl (by decide) w') (wanted_of (j := 8) (b := false) rfl rfl e22) (hK _ _ (le8_refl _) rfl)
      · intro ac w' hF hL hP hU K hK
        have hB : Below _ _ _ := hL
        have e29 : ac.eval (.tmp 29) = .pointer (some ⟨q4, 1, none⟩) := hP 15 (by kernel_rfl)
        have e22 : ac.eval (.tmp 22) = .bool false := hP 8 (by kernel_rfl)
        exact rop_ld _ _ rfl e29 (load_intP (cell_of (heap_oldP JQ.out hB) 1)) (wanted_of (j := 8) (b := false) rfl rfl e22) (hK _ _ (le8_refl _) rfl)
      · intro ac w' hF hL hP hU K hK
        have hB : Below _ _ _ := hL
        have e8 : ac.eval (.tmp 8) = .slice ap k cp := hF.at 8 (by kernel_rfl)
        have e22 : ac.eval (.tmp 22) = .bool false := hP 8 (by kernel_rfl)
        exact rop_move _ rfl e8 (wanted_of (j := 8) (b := false) rfl rfl e22) (hK _ _ (le8_refl _) rfl)
      · intro ac w' hF hL hP hU K hK
        have hB : Below _ _ _ := hL
        have e24 : ac.eval (.tmp 24) = sumV x0 := hP 10 (by kernel_rfl)
        have e26 : ac.eval (.tmp 26) = sumV x1 := hP 12 (by kernel_rfl)
        have e28 : ac.eval (.tmp 28) = .int .i64 m := hP 14 (by kernel_rfl)
        have e30 : ac.eval (.tmp 30) = .int .i64 n := hP 16 (by kernel_rfl)
        have e31 : ac.eval (.tmp 31) = .slice ap k cp := hP 17 (by kernel_rfl)
        have e22 : ac.eval (.tmp 22) = .bool false := hP 8 (by kernel_rfl)
        refine rop_call 16 _ _ rfl #[sumV x0, sumV x1, .int .i64 m, .int .i64 n, .slice ap k cp] (by simp [e24, e26, e28, e30, e31]) (by kernel_rfl) (wanted_of (j := 8) (b := false) rfl rfl e22) ?_
        refine (HRI.out hne w' hB).mono ?_
        rintro e w2 ⟨rfl, hb⟩
        exact ⟨_, rfl, hK _ _ hb rfl⟩
      · intro ac w' hF hL hP hU K hK
        have hB : Below _ _ _ := hL
        have e32 : ac.eval (.tmp 32) = .bool false := hP 18 (by kernel_rfl)
        have e22 : ac.eval (.tmp 22) = .bool false := hP 8 (by kernel_rfl)
        exact rop_not _ _ rfl false e32 (wanted_of (j := 8) (b := false) rfl rfl e22) (hK _ _ (le8_refl _) rfl)
      · intro ac w' hF hL hP hU K hK
        have hB : Below _ _ _ := hL
        have e22 : ac.eval (.tmp 22) = .bool false := hP 8 (by kernel_rfl)
        have e33 : ac.eval (.tmp 33) = .bool true := hP 19 (by kernel_rfl)
        exact rop_pick _ _ _ rfl false e22 (by simpa using e33) (wanted_none rfl) (hK _ _ (le8_refl _) rfl)
      · intro ac w' hF hL hP hU K hK
        have hB : Below _ _ _ := hL
        have e34 : ac.eval (.tmp 34) = .bool true := hP 20 (by kernel_rfl)
        exact rop_assign _ rfl e34 (wanted_none rfl) (hK _ _ (le8_refl _) rfl)
      · intro ac w' hF hB hT
        have e34 : ac.eval (.tmp 34) = .bool true := hT 20 (by decide)
        have e9 : ac.eval (.tmp 9) = .bool true := hT 21 (by decide)
        rw [hF.setsG [14, 15, 16, 17, 18, 19, 20, 21, 22, 23, 24, 25, 26, 27, 28, 29, 30, 31, 32, 33, 34, 9] (by kernel_rfl)]
        simp only [List.foldl_cons, List.foldl_nil, List.setIfInBounds_toArray, List.set_cons_succ, List.set_cons_zero, e34, e9]
        generalize ac.eval (.tmp 14) = u14
        generalize ac.eval (.tmp 15) = u15
        generalize ac.eval (.tmp 16) = u16
        generalize ac.eval (.tmp 17) = u17
        generalize ac.eval (.tmp 18) = u18
        generalize ac.eval (.tmp 19) = u19
        generalize ac.eval (.tmp 20) = u20
        generalize ac.eval (.tmp 21) = u21
        generalize ac.eval (.tmp 22) = u22
        generalize ac.eval (.tmp 23) = u23
        generalize ac.eval (.tmp 24) = u24
        generalize ac.eval (.tmp 25) = u25
        generalize ac.eval (.tmp 26) = u26
        generalize ac.eval (.tmp 27) = u27
        generalize ac.eval (.tmp 28) = u28
        generalize ac.eval (.tmp 29) = u29
        generalize ac.eval (.tmp 30) = u30
        generalize ac.eval (.tmp 31) = u31
        generalize ac.eval (.tmp 32) = u32
        generalize ac.eval (.tmp 33) = u33
        clear e34 e9 hT hF ac
        clear hne
        go_wp2_with fail
        go_meet
        exact ⟨rfl, hB⟩
  case rest =>
  obtain ⟨rfl, hBc⟩ := hcut
  obtain ⟨W2, hW2⟩ : ∃ W2, W2 = wc := ⟨_, rfl⟩
  subst hW2
  replace HGO : Hid (¬ z2 = (k : Int) → ∀ u, Below W2.heap.size W2 u → Calls Tryd.prog 17 #[sumV x0, .int .i64 m, sumV x1, .int .i64 n, .slice ap k cp] u fun e w' => e = .returned (.bool false) ∧ Below u.heap.size u w') := Lib.hid fun h u hu => HGO.out h u (below_step hBc (Nat.le_refl _) hu)
  replace JX : Hid (W2.heap[q3]? = some (.cells (sc [x0, x1]).toArray 41 (0, 0))) := Lib.hid (heap_oldP JX.out hBc)
  replace JQ : Hid (W2.heap[q4]? = some (.cells #[.int .i64 m, .int .i64 n] 24 (0, 0))) := Lib.hid (heap_oldP JQ.out hBc)
  have HB2 := Lib.hid (below_step HBW.out (Nat.le_refl _) hBc)
  clear hBc
  go_upto_region 4 with (fail)
  obtain ⟨W, hW⟩ : ∃ W, W = W2 := ⟨_, rfl⟩
  subst hW
  go_cut [10] from 35 to 55 (fun s wx => s = .bool true ∧ Below W.heap.size W wx)
  case first =>
    by_cases hne : z2 = (k : Int)
    · skip
      try simp only [Act.put]
      refine wp_region_tab0 [RT.is (.pointer (some ⟨q4, 0, none⟩)), RT.is (.int .i64 m), RT.is (.pointer (some ⟨q4, 1, none⟩)), RT.is (.int .i64 n), RT.is (.int .i64 z2), RT.is (.slice ap k cp), RT.is (.int .i64 (k : Int)), RT.is (.bool true), RT.is (.bool true), RT.any, RT.any, RT.any, RT.any, RT.any, RT.any, RT.any, RT.any, RT.any, RT.any, RT.any, RT.is (.bool true), RT.is (.bool true)] (by kernel_rfl) (by kernel_rfl) (by kernel_rfl) ⟨?_, ?_, ?_, ?_, ?_, ?_, ?_, ?_, ?_, ?_, ?_, ?_, ?_, ?_, ?_, ?_, ?_, ?_, ?_, ?_, ?_, ?_, trivial⟩ ?_
      · intro ac w' hF hL hP hU K hK
        have hB : Below _ _ _ := hL
        have e4 : ac.eval (.tmp 4) = .pointer (some ⟨q4, 0, none⟩) := hF.at 4 (by kernel_rfl)
        exact rop_idx _ _ _ rfl e4 rfl (idx2i q4 0 _ rfl (by decide) w') (wanted_none rfl) (hK _ _ (le8_refl _) rfl)
      · intro ac w' hF hL hP hU K hK
        have hB : Below _ _ _ := hL
        have e35 : ac.eval (.tmp 35) = .pointer (some ⟨q4, 0, none⟩) := hP 0 (by kernel_rfl)
        exact rop_ld _ _ rfl e35 (load_intP (cell_of (heap_oldP JQ.out hB) 0)) (wanted_none rfl) (hK _ _ (le8_refl _) rfl)
      · intro ac w' hF hL hP hU K hK
        have hB : Below _ _ _ := hL
        have e4 : ac.eval (.tmp 4) = .pointer (some ⟨q4, 0, none⟩) := hF.at 4 (by kernel_rfl)
        exact rop_idx _ _ _ rfl e4 rfl (idx2i q4 1 _ rfl (by decide) w') (wanted_none rfl) (hK _ _ (le8_refl _) rfl)
      · intro ac w' hF hL hP hU K hK
        have hB : Below _ _ _ := hL
        have e37 : ac.eval (.tmp 37) = .pointer (some ⟨q4, 1, none⟩) := hP 2 (by kernel_rfl)
        exact rop_ld _ _ rfl e37 (load_intP (cell_of (heap_oldP JQ.out hB) 1)) (wanted_none rfl) (hK _ _ (le8_refl _) rfl)
      · intro ac w' hF hL hP hU K hK
        have hB : Below _ _ _ := hL
        have e36 : ac.eval (.tmp 36) = .int .i64 m := hP 1 (by kernel_rfl)
        have e38 : ac.eval (.tmp 38) = .int .i64 n := hP 3 (by kernel_rfl)
        refine rop_call 27 _ _ rfl #[.int .i64 m, .int .i64 n] (by simp [e36, e38]) (by kernel_rfl) (wanted_none rfl) ?_
        refine (HM.out w').mono ?_
        rintro e w2 ⟨rfl, hb⟩
        exact ⟨_, rfl, hK _ _ hb rfl⟩
      · intro ac w' hF hL hP hU K hK
        have hB : Below _ _ _ := hL
        have e8 : ac.eval (.tmp 8) = .slice ap k cp := hF.at 8 (by kernel_rfl)
        exact rop_move _ rfl e8 (wanted_none rfl) (hK _ _ (le8_refl _) rfl)
      · intro ac w' hF hL hP hU K hK
        have hB : Below _ _ _ := hL
        have e40 : ac.eval (.tmp 40) = .slice ap k cp := hP 5 (by kernel_rfl)
        exact rop_lenG _ Tryd.underlying25 rfl e40 (wanted_none rfl) (hK _ _ (le8_refl _) rfl)
      · intro ac w' hF hL hP hU K hK
        have hB : Below _ _ _ := hL
        have e39 : ac.eval (.tmp 39) = .int .i64 z2 := hP 4 (by kernel_rfl)
        have e41 : ac.eval (.tmp 41) = .int .i64 (k : Int) := hP 6 (by kernel_rfl)
        exact rop_bin _ _ _ _ _ rfl e39 e41 (guard_int _ _ _ _ _ _ _ w') (eql_iG _ _ _ (by simpa using hne) w') (wanted_none rfl) (hK _ _ (le8_refl _) rfl)
      · intro ac w' hF hL hP hU K hK
        have hB : Below _ _ _ := hL
        have e42 : ac.eval (.tmp 42) = .bool true := hP 7 (by kernel_rfl)
        exact rop_move _ rfl e42 (wanted_none rfl) (hK _ _ (le8_refl _) rfl)
      · intro ac w' hF hL hP hU K hK
        have hB : Below _ _ _ := hL
        have e43 : ac.eval (.tmp 43) = .bool true := hP 8 (by kernel_rfl)
        exact rop_offG (j := 8) (b := false) rfl rfl e43 (by decide) (hK _ _ (le8_refl _) trivial)
      · intro ac w' hF hL hP hU K hK
        have hB : Below _ _ _ := hL
        have e43 : ac.eval (.tmp 43) = .bool true := hP 8 (by kernel_rfl)
        exact rop_offG (j := 8) (b := false) rfl rfl e43 (by decide) (hK _ _ (le8_refl _) trivial)
      · intro ac w' hF hL hP hU K hK
        have hB : Below _ _ _ := hL
        have e43 : ac.eval (.tmp 43) = .bool true := hP 8 (by kernel_rfl)
        exact rop_offG (j := 8) (b := false) rfl rfl e43 (by decide) (hK _ _ (le8_refl _) trivial)
      · intro ac w' hF hL hP hU K hK
        have hB : Below _ _ _ := hL
        have e43 : ac.eval (.tmp 43) = .bool true := hP 8 (by kernel_rfl)
        exact rop_offG (j := 8) (b := false) rfl rfl e43 (by decide) (hK _ _ (le8_refl _) trivial)
      · intro ac w' hF hL hP hU K hK
        have hB : Below _ _ _ := hL
        have e43 : ac.eval (.tmp 43) = .bool true := hP 8 (by kernel_rfl)
        exact rop_offG (j := 8) (b := false) rfl rfl e43 (by decide) (hK _ _ (le8_refl _) trivial)
      · intro ac w' hF hL hP hU K hK
        have hB : Below _ _ _ := hL
        have e43 : ac.eval (.tmp 43) = .bool true := hP 8 (by kernel_rfl)
        exact rop_offG (j := 8) (b := false) rfl rfl e43 (by decide) (hK _ _ (le8_refl _) trivial)
      · intro ac w' hF hL hP hU K hK
        have hB : Below _ _ _ := hL
        have e43 : ac.eval (.tmp 43) = .bool true := hP 8 (by kernel_rfl)
        exact rop_offG (j := 8) (b := false) rfl rfl e43 (by decide) (hK _ _ (le8_refl _) trivial)
      · intro ac w' hF hL hP hU K hK
        have hB : Below _ _ _ := hL
        have e43 : ac.eval (.tmp 43) = .bool true := hP 8 (by kernel_rfl)
        exact rop_offG (j := 8) (b := false) rfl rfl e43 (by decide) (hK _ _ (le8_refl _) trivial)
      · intro ac w' hF hL hP hU K hK
        have hB : Below _ _ _ := hL
        have e43 : ac.eval (.tmp 43) = .bool true := hP 8 (by kernel_rfl)
        exact rop_offG (j := 8) (b := false) rfl rfl e43 (by decide) (hK _ _ (le8_refl _) trivial)
      · intro ac w' hF hL hP hU K hK
        have hB : Below _ _ _ := hL
        have e43 : ac.eval (.tmp 43) = .bool true := hP 8 (by kernel_rfl)
        exact rop_offG (j := 8) (b := false) rfl rfl e43 (by decide) (hK _ _ (le8_refl _) trivial)
      · intro ac w' hF hL hP hU K hK
        have hB : Below _ _ _ := hL
        have e43 : ac.eval (.tmp 43) = .bool true := hP 8 (by kernel_rfl)
        exact rop_offG (j := 8) (b := false) rfl rfl e43 (by decide) (hK _ _ (le8_refl _) trivial)
      · intro ac w' hF hL hP hU K hK
        have hB : Below _ _ _ := hL
        have e43 : ac.eval (.tmp 43) = .bool true := hP 8 (by kernel_rfl)
        exact rop_pick _ _ _ rfl true e43 (by rfl) (wanted_none rfl) (hK _ _ (le8_refl _) rfl)
      · intro ac w' hF hL hP hU K hK
        have hB : Below _ _ _ := hL
        have e55 : ac.eval (.tmp 55) = .bool true := hP 20 (by kernel_rfl)
        exact rop_assign _ rfl e55 (wanted_none rfl) (hK _ _ (le8_refl _) rfl)
      · intro ac w' hF hB hT
        have e55 : ac.eval (.tmp 55) = .bool true := hT 20 (by decide)
        have e10 : ac.eval (.tmp 10) = .bool true := hT 21 (by decide)
        rw [hF.setsG [35, 36, 37, 38, 39, 40, 41, 42, 43, 44, 45, 46, 47, 48, 49, 50, 51, 52, 53, 54, 55, 10] (by kernel_rfl)]
        simp only [List.foldl_cons, List.foldl_nil, List.setIfInBounds_toArray, List.set_cons_succ, List.set_cons_zero, e55, e10]
        generalize ac.eval (.tmp 35) = u35
        generalize ac.eval (.tmp 36) = u36
        generalize ac.eval (.tmp 37) = u37
        generalize ac.eval (.tmp 38) = u38
        generalize ac.eval (.tmp 39) = u39
        generalize ac.eval (.tmp 40) = u40
        generalize ac.eval (.tmp 41) = u41
        generalize ac.eval (.tmp 42) = u42
        generalize ac.eval (.tmp 43) = u43
        generalize ac.eval (.tmp 44) = u44
        generalize ac.eval (.tmp 45) = u45
        generalize ac.eval (.tmp 46) = u46
        generalize ac.eval (.tmp 47) = u47
        generalize ac.eval (.tmp 48) = u48
        generalize ac.eval (.tmp 49) = u49
        generalize ac.eval (.tmp 50) = u50
        generalize ac.eval (.tmp 51) = u51
        generalize ac.eval (.tmp 52) = u52
        generalize ac.eval (.tmp 53) = u53
        generalize ac.eval (.tmp 54) = u54
        clear e55 e10 hT hF ac
        clear hne
        go_wp2_with fail
        go_meet
        exact ⟨rfl, hB⟩
    · skip
      try simp only [Act.put]
      refine wp_region_tab0 [RT.is (.pointer (some ⟨q4, 0, none⟩)), RT.is (.int .i64 m), RT.is (.pointer (some ⟨q4, 1, none⟩)), RT.is (.int .i64 n), RT.is (.int .i64 z2), RT.is (.slice ap k cp), RT.is (.int .i64 (k : Int)), RT.is (.bool false), RT.is (.bool false), RT.is (.pointer (some ⟨q3, 0 * 32, none⟩)), RT.is (sumV x0), RT.is (.pointer (some ⟨q4, 0, none⟩)), RT.is (.int .i64 m), RT.is (.pointer (some ⟨q3, 1 * 32, none⟩)), RT.is (sumV x1), RT.is (.pointer (some ⟨q4, 1, none⟩)), RT.is (.int .i64 n), RT.is (.slice ap k cp), RT.is (.bool false), RT.is (.bool true), RT.is (.bool true), RT.is (.bool true)] (by kernel_rfl) (by kernel_rfl) (by kernel_rfl) ⟨?_, ?_, ?_, ?_, ?_, ?_, ?_, ?_, ?_, ?_, ?_, ?_, ?_, ?_, ?_, ?_, ?_, ?_, ?_, ?_, ?_, ?_, trivial⟩ ?_
      · intro ac w' hF hL hP hU K hK
        have hB : Below _ _ _ := hL
        have e4 : ac.eval (.tmp 4) = .pointer (some ⟨q4, 0, none⟩) := hF.at 4 (by kernel_rfl)
        exact rop_idx _ _ _ rfl e4 rfl (idx2i q4 0 _ rfl (by decide) w') (wanted_none rfl) (hK _ _ (le8_refl _) rfl)
      · intro ac w' hF hL hP hU K hK
        have hB : Below _ _ _ := hL
        have e35 : ac.eval (.tmp 35) = .pointer (some ⟨q4, 0, none⟩) := hP 0 (by kernel_rfl)
        exact rop_ld _ _ rfl e35 (load_intP (cell_of (heap_oldP JQ.out hB) 0)) (wanted_none rfl) (hK _ _ (le8_refl _) rfl)
      · intro ac w' hF hL hP hU K hK
        have hB : Below _ _ _ := hL
        have e4 : ac.eval (.tmp 4) = .pointer (some ⟨q4, 0, none⟩) := hF.at 4 (by kernel_rfl)
        exact rop_idx _ _ _ rfl e4 rfl (idx2i q4 1 _ rfl (by decide) w') (wanted_none rfl) (hK _ _ (le8_refl _) rfl)
      · intro ac w' hF hL hP hU K hK
        have hB : Below _ _ _ := hL
        have e37 : ac.eval (.tmp 37) = .pointer (some ⟨q4, 1, none⟩) := hP 2 (by kernel_rfl)
        exact rop_ld _ _ rfl e37 (load_intP (cell_of (heap_oldP JQ.out hB) 1)) (wanted_none rfl) (hK _ _ (le8_refl _) rfl)
      · intro ac w' hF hL hP hU K hK
        have hB : Below _ _ _ := hL
        have e36 : ac.eval (.tmp 36) = .int .i64 m := hP 1 (by kernel_rfl)
        have e38 : ac.eval (.tmp 38) = .int .i64 n := hP 3 (by kernel_rfl)
        refine rop_call 27 _ _ rfl #[.int .i64 m, .int .i64 n] (by simp [e36, e38]) (by kernel_rfl) (wanted_none rfl) ?_
        refine (HM.out w').mono ?_
        rintro e w2 ⟨rfl, hb⟩
        exact ⟨_, rfl, hK _ _ hb rfl⟩
      · intro ac w' hF hL hP hU K hK
        have hB : Below _ _ _ := hL
        have e8 : ac.eval (.tmp 8) = .slice ap k cp := hF.at 8 (by kernel_rfl)
        exact rop_move _ rfl e8 (wanted_none rfl) (hK _ _ (le8_refl _) rfl)
      · intro ac w' hF hL hP hU K hK
        have hB : Below _ _ _ := hL
        have e40 : ac.eval (.tmp 40) = .slice ap k cp := hP 5 (by kernel_rfl)
        exact rop_lenG _ Tryd.underlying25 rfl e40 (wanted_none rfl) (hK _ _ (le8_refl _) rfl)
      · intro ac w' hF hL hP hU K hK
        have hB : Below _ _ _ := hL
        have e39 : ac.eval (.tmp 39) = .int .i64 z2 := hP 4 (by kernel_rfl)
        have e41 : ac.eval (.tmp 41) = .int .i64 (k : Int) := hP 6 (by kernel_rfl)
        exact rop_bin _ _ _ _ _ rfl e39 e41 (guard_int _ _ _ _ _ _ _ w') (eql_iG _ _ _ (by simpa using hne) w') (wanted_none rfl) (hK _ _ (le8_refl _) rfl)
      · intro ac w' hF hL hP hU K hK
        have hB : Below _ _ _ := hL
        have e42 : ac.eval (.tmp 42) = .bool false := hP 7 (by kernel_rfl)
        exact rop_move _ rfl e42 (wanted_none rfl) (hK _ _ (le8_refl _) rfl)
      · intro ac w' hF hL hP hU K hK
        have hB : Below _ _ _ := hL
        have e3 : ac.eval (.tmp 3) = .pointer (some ⟨q3, 0, none⟩) := hF.at 3 (by kernel_rfl)
        have e43 : ac.eval (.tmp 43) = .bool false := hP 8 (by kernel_rfl)
        exact rop_idx _ _ _ rfl e3 rfl (idx2S q3 0 _ rfl (by decide) w') (wanted_of (j := 8) (b := false) rfl rfl e43) (hK _ _ (le8_refl _) rfl)
      · intro ac w' hF hL hP hU K hK
        have hB : Below _ _ _ := hL
        have e44 : ac.eval (.tmp 44) = .pointer (some ⟨q3, 0 * 32, none⟩) := hP 9 (by kernel_rfl)
        have e43 : ac.eval (.tmp 43) = .bool false := hP 8 (by kernel_rfl)
        exact rop_ld _ _ rfl e44 (load_sumP HX0l.out (sc_rangeAt (heap_oldP JX.out hB) HXo.out 0 x0 rfl)) (wanted_of (j := 8) (b := false) rfl rfl e43) (hK _ _ (le8_refl _) rfl)
      · intro ac w' hF hL hP hU K hK
        have hB : Below _ _ _ := hL
        have e4 : ac.eval (.tmp 4) = .pointer (some ⟨q4, 0, none⟩) := hF.at 4 (by kernel_rfl)
        have e43 : ac.eval (.tmp 43) = .bool false := hP 8 (by kernel_rfl)
        exact rop_idx _ _ _ rfl e4 rfl (idx2i q4 0 _ rfl (by decide) w') (wanted_of (j := 8) (b := false) rfl rfl e43) (hK _ _ (le8_refl _) rfl)
      · intro ac w' hF hL hP hU K hK
        have hB : Below _ _ _ := hL
        have e46 : ac.eval (.tmp 46) = .pointer (some ⟨q4, 0, none⟩) := hP 11 (by kernel_rfl)
        have e43 : ac.eval (.tmp 43) = .bool false := hP 8 (by kernel_rfl)
        exact rop_ld _ _ rfl e46 (load_intP (cell_of (heap_oldP JQ.out hB) 0)) (wanted_of (j := 8) (b := false) rfl rfl e43) (hK _ _ (le8_refl _) rfl)
      · intro ac w' hF hL hP hU K hK
        have hB : Below _ _ _ := hL
        have e3 : ac.eval (.tmp 3) = .pointer (some ⟨q3, 0, none⟩) := hF.at 3 (by kernel_rfl)
        have e43 : ac.eval (.tmp 43) = .bool false := hP 8 (by kernel_rfl)
        exact rop_idx _ _ _ rfl e3 rfl (idx2S q3 1 _ rfl (by decide) w') (wanted_of (j := 8) (b := false) rfl rfl e43) (hK _ _ (le8_refl _) rfl)
      · intro ac w' hF hL hP hU K hK
        have hB : Below _ _ _ := hL
        have e48 : ac.eval (.tmp 48) = .pointer (some ⟨q3, 1 * 32, none⟩) := hP 13 (by kernel_rfl)
        have e43 : ac.eval (.tmp 43) = .bool false := hP 8 (by kernel_rfl)
        exact rop_ld _ _ rfl e48 (load_sumP HX1l.out (sc_rangeAt (heap_oldP JX.out hB) HXo.out 1 x1 rfl)) (wanted_of (j := 8) (b := false) rfl rfl e43) (hK _ _ (le8_refl _) rfl)
      · intro ac w' hF hL hP hU K hK
        have hB : Below _ _ _ := hL
        have e4 : ac.eval (.tmp 4) = .pointer (some ⟨q4, 0, none⟩) := hF.at 4 (by kernel_rfl)
        have e43 : ac.eval (.tmp 43) = .bool false := hP 8 (by kernel_rfl)
        exact rop_idx _ _ _ rfl e4 rfl (idx2i q4 1 _ rfl (by decide) w') (wanted_of (j := 8) (b := false) rfl rfl e43) (hK _ _ (le8_refl _) rfl)
      · intro ac w' hF hL hP hU K hK
        have hB : Below _ _ _ := hL
        have e50 : ac.eval (.tmp 50) = .pointer (some ⟨q4, 1, none⟩) := hP 15 (by kernel_rfl)
        have e43 : ac.eval (.tmp 43) = .bool false := hP 8 (by kernel_rfl)
        exact rop_ld _ _ rfl e50 (load_intP (cell_of (heap_oldP JQ.out hB) 1)) (wanted_of (j := 8) (b := false) rfl rfl e43) (hK _ _ (le8_refl _) rfl)
      · intro ac w' hF hL hP hU K hK
        have hB : Below _ _ _ := hL
        have e8 : ac.eval (.tmp 8) = .slice ap k cp := hF.at 8 (by kernel_rfl)
        have e43 : ac.eval (.tmp 43) = .bool false := hP 8 (by kernel_rfl)
        exact rop_move _ rfl e8 (wanted_of (j := 8) (b := false) rfl rfl e43) (hK _ _ (le8_refl _) rfl)
      · intro ac w' hF hL hP hU K hK
        have hB : Below _ _ _ := hL
        have e45 : ac.eval (.tmp 45) = sumV x0 := hP 10 (by kernel_rfl)
        have e47 : ac.eval (.tmp 47) = .int .i64 m := hP 12 (by kernel_rfl)
        have e49 : ac.eval (.tmp 49) = sumV x1 := hP 14 (by kernel_rfl)
        have e51 : ac.eval (.tmp 51) = .int .i64 n := hP 16 (by kernel_rfl)
        have e52 : ac.eval (.tmp 52) = .slice ap k cp := hP 17 (by kernel_rfl)
        have e43 : ac.eval (.tmp 43) = .bool false := hP 8 (by kernel_rfl)
        refine rop_call 17 _ _ rfl #[sumV x0, .int .i64 m, sumV x1, .int .i64 n, .slice ap k cp] (by simp [e45, e47, e49, e51, e52]) (by kernel_rfl) (wanted_of (j := 8) (b := false) rfl rfl e43) ?_
        refine (HGO.out hne w' hB).mono ?_
        rintro e w2 ⟨rfl, hb⟩
        exact ⟨_, rfl, hK _ _ hb rfl⟩
      · intro ac w' hF hL hP hU K hK
        have hB : Below _ _ _ := hL
        have e53 : ac.eval (.tmp 53) = .bool false := hP 18 (by kernel_rfl)
        have e43 : ac.eval (.tmp 43) = .bool false := hP 8 (by kernel_rfl)
        exact rop_not _ _ rfl false e53 (wanted_of (j := 8) (b := false) rfl rfl e43) (hK _ _ (le8_refl _) rfl)
      · intro ac w' hF hL hP hU K hK
        have hB : Below _ _ _ := hL
        have e43 : ac.eval (.tmp 43) = .bool false := hP 8 (by kernel_rfl)
        have e54 : ac.eval (.tmp 54) = .bool true := hP 19 (by kernel_rfl)
        exact rop_pick _ _ _ rfl false e43 (by simpa using e54) (wanted_none rfl) (hK _ _ (le8_refl _) rfl)
      · intro ac w' hF hL hP hU K hK
        have hB : Below _ _ _ := hL
        have e55 : ac.eval (.tmp 55) = .bool true := hP 20 (by kernel_rfl)
        exact rop_assign _ rfl e55 (wanted_none rfl) (hK _ _ (le8_refl _) rfl)
      · intro ac w' hF hB hT
        have e55 : ac.eval (.tmp 55) = .bool true := hT 20 (by decide)
        have e10 : ac.eval (.tmp 10) = .bool true := hT 21 (by decide)
        rw [hF.setsG [35, 36, 37, 38, 39, 40, 41, 42, 43, 44, 45, 46, 47, 48, 49, 50, 51, 52, 53, 54, 55, 10] (by kernel_rfl)]
        simp only [List.foldl_cons, List.foldl_nil, List.setIfInBounds_toArray, List.set_cons_succ, List.set_cons_zero, e55, e10]
        generalize ac.eval (.tmp 35) = u35
        generalize ac.eval (.tmp 36) = u36
        generalize ac.eval (.tmp 37) = u37
        generalize ac.eval (.tmp 38) = u38
        generalize ac.eval (.tmp 39) = u39
        generalize ac.eval (.tmp 40) = u40
        generalize ac.eval (.tmp 41) = u41
        generalize ac.eval (.tmp 42) = u42
        generalize ac.eval (.tmp 43) = u43
        generalize ac.eval (.tmp 44) = u44
        generalize ac.eval (.tmp 45) = u45
        generalize ac.eval (.tmp 46) = u46
        generalize ac.eval (.tmp 47) = u47
        generalize ac.eval (.tmp 48) = u48
        generalize ac.eval (.tmp 49) = u49
        generalize ac.eval (.tmp 50) = u50
        generalize ac.eval (.tmp 51) = u51
        generalize ac.eval (.tmp 52) = u52
        generalize ac.eval (.tmp 53) = u53
        generalize ac.eval (.tmp 54) = u54
        clear e55 e10 hT hF ac
        clear hne
        go_wp2_with fail
        go_meet
        exact ⟨rfl, hB⟩
  case rest =>
  obtain ⟨rfl, hBd⟩ := hcut
  have HB3 := Lib.hid (below_step HB2.out (Nat.le_refl _) hBd)
  clear hBd
  go_upto_region 5 with (fail)
  try simp only [Act.put]
  refine wp_region_tab0 [RT.is (.bool true), RT.is (.bool true), RT.is (.bool true), RT.is (.bool true), RT.is (.bool true), RT.is (.bool true), RT.is (.bool true), RT.is (.bool true)] (by kernel_rfl) (by kernel_rfl) (by kernel_rfl) ⟨?_, ?_, ?_, ?_, ?_, ?_, ?_, ?_, trivial⟩ ?_
  · intro ac w' hF hL hP hU K hK
    have hB : Below _ _ _ := hL
    have e7 : ac.eval (.tmp 7) = .bool true := hF.at 7 (by kernel_rfl)
    exact rop_move _ rfl e7 (wanted_none rfl) (hK _ _ (le8_refl _) rfl)
  · intro ac w' hF hL hP hU K hK
    have hB : Below _ _ _ := hL
    have e56 : ac.eval (.tmp 56) = .bool true := hP 0 (by kernel_rfl)
    exact rop_move _ rfl e56 (wanted_none rfl) (hK _ _ (le8_refl _) rfl)
  · intro ac w' hF hL hP hU K hK
    have hB : Below _ _ _ := hL
    have e9 : ac.eval (.tmp 9) = .bool true := hF.at 9 (by kernel_rfl)
    have e57 : ac.eval (.tmp 57) = .bool true := hP 1 (by kernel_rfl)
    exact rop_move _ rfl e9 (wanted_of (j := 1) (b := true) rfl rfl e57) (hK _ _ (le8_refl _) rfl)
  · intro ac w' hF hL hP hU K hK
    have hB : Below _ _ _ := hL
    have e57 : ac.eval (.tmp 57) = .bool true := hP 1 (by kernel_rfl)
    have e58 : ac.eval (.tmp 58) = .bool true := hP 2 (by kernel_rfl)
    exact rop_pick _ _ _ rfl true e57 (by simpa using e58) (wanted_none rfl) (hK _ _ (le8_refl _) rfl)
  · intro ac w' hF hL hP hU K hK
    have hB : Below _ _ _ := hL
    have e59 : ac.eval (.tmp 59) = .bool true := hP 3 (by kernel_rfl)
    exact rop_move _ rfl e59 (wanted_none rfl) (hK _ _ (le8_refl _) rfl)
  · intro ac w' hF hL hP hU K hK
    have hB : Below _ _ _ := hL
    have e10 : ac.eval (.tmp 10) = .bool true := hF.at 10 (by kernel_rfl)
    have e60 : ac.eval (.tmp 60) = .bool true := hP 4 (by kernel_rfl)
    exact rop_move _ rfl e10 (wanted_of (j := 4) (b := true) rfl rfl e60) (hK _ _ (le8_refl _) rfl)
  · intro ac w' hF hL hP hU K hK
    have hB : Below _ _ _ := hL
    have e60 : ac.eval (.tmp 60) = .bool true := hP 4 (by kernel_rfl)
    have e61 : ac.eval (.tmp 61) = .bool true := hP 5 (by kernel_rfl)
    exact rop_pick _ _ _ rfl true e60 (by simpa using e61) (wanted_none rfl) (hK _ _ (le8_refl _) rfl)
  · intro ac w' hF hL hP hU K hK
    have hB : Below _ _ _ := hL
    have e62 : ac.eval (.tmp 62) = .bool true := hP 6 (by kernel_rfl)
    exact rop_assign _ rfl e62 (wanted_none rfl) (hK _ _ (le8_refl _) rfl)
  · intro ac w' hF hB hT
    have e62 : ac.eval (.tmp 62) = .bool true := hT 6 (by decide)
    have e6 : ac.eval (.tmp 6) = .bool true := hT 7 (by decide)
    rw [hF.setsG [56, 57, 58, 59, 60, 61, 62, 6] (by kernel_rfl)]
    simp only [List.foldl_cons, List.foldl_nil, List.setIfInBounds_toArray, List.set_cons_succ, List.set_cons_zero, e62, e6]
    generalize ac.eval (.tmp 56) = u56
    generalize ac.eval (.tmp 57) = u57
    generalize ac.eval (.tmp 58) = u58
    generalize ac.eval (.tmp 59) = u59
    generalize ac.eval (.tmp 60) = u60
    generalize ac.eval (.tmp 61) = u61
    clear e62 e6 hT hF ac
    have HF := Lib.hid (below_step HB3.out (Nat.le_refl _) hB)
    clear hB
    go_wp2
    go_ret
    exact ⟨rfl, HF.out⟩

set_option maxRecDepth 100000 in
theorem lifted (os : Os) (started : os.Started) (H : Type) (enc : TypeId × Value → H) :
    ReturnsInHanded {} Tryd.checked os 8 .any (fun w args => (Rows.proofSizesSpec.pre enc Tryd.prog Tryd.f8 [] false w args ∧ laidMetH Tryd.prog [("scrinium/sha.k", Rows.laid_scrinium_sha_k)] w) ∧ sizedMet enc Tryd.prog Tryd.f8 (OpenSpec.ofChange Rows.proofSizesSpec) false w args)
      (Rows.proofSizesSpec.post enc Tryd.prog Tryd.f8 false true false false) := by
  refine returnsInHanded_of_change_and (C := Tryd.checked) (X := fun w _ => laidMetH Tryd.prog [("scrinium/sha.k", Rows.laid_scrinium_sha_k)] w) (fun _ _ _ hh h => h.of_heap hh) lawOwn started (by kernel_rfl) Tryd.func8
    (ChangeSpec.witness_shaped (enc := enc) (C := Tryd.checked) (os := os) (X := fun w _ => laidMetH Tryd.prog [("scrinium/sha.k", Rows.laid_scrinium_sha_k)] w) false (World.doorLaid Tryd.prog 400 os) #[.agg (sc [List.replicate 32 0, List.replicate 32 0]).toArray, .agg #[.int .i64 0, .int .i64 0], .slice none 0 0] 8 rfl (World.shaped_of_RefB (by kernel_rfl) (by kernel_rfl)) (by kernel_rfl) (by kernel_rfl) (by kernel_rfl) (door_met os _)) ?_
  intro W base args ds gs before hval0 hW _ _ hL _
  have hval : ∀ (j : Nat) t v, Tryd.f8.params[j]? = some t → args[j]? = some v → Value.okWide Tryd.prog W .any base t v := hval0
  have hW' := hW
  obtain ⟨p, q, hA0, hV, rfl, hfz, hnd⟩ := hW
  have hA : DataW.TrodAll enc Tryd.prog W 0 (fun _ => true) true Tryd.f8.params.toList args.toList ds p := hA0
  rw [Tryd.params8] at hA hval
  obtain ⟨v0, vs0, d0, ds0, p0, q0, hargs, rfl, rfl, h0, r0⟩ := trodAll_cons hA
  obtain ⟨v1, vs1, d1, ds1, p1, q1, rfl, rfl, rfl, h1, r1⟩ := trodAll_cons r0
  obtain ⟨v2, vs2, d2, ds2, p2, q2, rfl, rfl, rfl, h2, r2⟩ := trodAll_cons r1
  obtain ⟨rfl, rfl, rfl⟩ := trodAll_nil r2
  obtain rfl : args = #[v0, v1, v2] := by cases args; simp_all
  obtain ⟨rfl, rfl⟩ := trodVars_none hV
  have hKT := KT_of_laid hL
  obtain ⟨l0, rfl, w0, u0⟩ := open_sumsN Tryd.underlying41 (by kernel_rfl) (hval 0 41 v0 rfl rfl) h0
  obtain ⟨x0a, x0b, rfl⟩ := len2P w0
  obtain ⟨z1, y1, rfl, w1, w1b⟩ := ints2_argP (hval 1 24 v1 rfl rfl) h1
  obtain ⟨a2, len2, cap2, rfl⟩ := okWide_slice Tryd.underlying25 (hval 2 25 v2 rfl rfl)
  obtain ⟨l2, w2⟩ := sums_of h2
  clear hA0 hval0
  refine (walk (w := W) hKT x0a x0b (u0 x0a (by simp)) (u0 x0b (by simp)) z1 y1 w1 w1b _ l2 w2).mono fun e W' ⟨he, bel⟩ => ?_
  subst he
  exact ⟨_, rfl, law_post rfl rfl (by kernel_rfl) hW' rfl bel⟩

theorem row_holds : Rows.ProofSizesSaid :=
  OpenClaim.holds_of_wide 8 Tryd.f8 rfl rfl rfl rfl rfl rfl rfl ⟨rfl, rfl, rfl, rfl, rfl⟩ rfl rfl rfl rfl rfl (by kernel_rfl) Tryd.func8 (by kernel_rfl)
    (of_decide_eq_true (by kernel_rfl)) (by unfold Func.isWrapper; first | (rw [if_pos (by decide +kernel)]; kernel_rfl) | (rw [if_neg (by decide +kernel)]; exact ⟨rfl, rfl⟩))
    (fun os started H enc _ => lifted os started H enc)

theorem holds : Rows.ProofSizesCardSaid :=
  Claim7.holds_tied_plain_at .later [] [.data] true Rows.proofSizesCard.stood.harness false
    row_holds (fun _ h => by cases h) (by kernel_rfl) (fun _ h => by cases h) proofSizes_row_tie rfl ⟨rfl, rfl⟩ (by kernel_rfl) rfl
    (fun f fn hf hfn => by
      obtain rfl : f = 8 := Option.some.inj ((show Tryd.prog.funcNamed "scrinium/scriniumlaw12.ProofSizes" = some 8 by kernel_rfl).symm.trans hf) |>.symm
      obtain rfl : fn = Tryd.f8 := (Option.some.inj (Tryd.func8.symm.trans hfn)).symm
      exact ⟨by kernel_rfl, fun j t ht => by
        rw [Tryd.params8] at ht
        have hm : t ∈ [41, 24, 25] := by simpa using Array.mem_of_getElem? ht
        have hall : ([41, 24, 25].all fun u => !Tryd.prog.wantsStandIn u) = true := by kernel_rfl
        exact (show Tryd.prog.wantsStandIn t = false by simpa using List.all_eq_true.1 hall t hm)⟩)
    (by kernel_rfl)
end Go.Proofs.YtjdhcncjcencbaaDoor.proofSizes

theorem Go.Proofs.YtjdhcncjcencbaaDoor.proofSizes_holds : Go.Proofs.YtjdhcncjcencbaaDoor.Rows.ProofSizesCardSaid := Go.Proofs.YtjdhcncjcencbaaDoor.proofSizes.holds
#print axioms Go.Proofs.YtjdhcncjcencbaaDoor.proofSizes_holds
