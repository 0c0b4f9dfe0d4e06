/-
  ProofSame: a tree goes on from itself with nothing, and from nothing other. For any two hashes, any number, any row of hashes (the first 5 of them); the numbers K of the package sha are as the program's own start lays them.
-/
import Derived.Test.YtjdhcncjcencbaaDoorProofHelp
namespace Go.Proofs.YtjdhcncjcencbaaDoor.proofSame
open Go.ChangeShapes Go.WideShapes Go.ChangeAt Go.RowKit

set_option maxHeartbeats 8000000 in
set_option maxRecDepth 100000 in
theorem walk {w : World} (hK : KT w) (a : List UInt8) (ha : a.length = 32) (b : List UInt8) (hb : b.length = 32) (n : Int) (hn : -9223372036854775808 ≤ n ∧ n ≤ 9223372036854775807) (v : Value) (l : Hs) (hv : Sums w v l) :
    Calls Tryd.prog 9 #[sumV a, sumV b, .agg #[.int .i64 n, v]] w fun e w' => e = .returned (.bool true) ∧ Below w.heap.size w w' := by
  obtain ⟨L, hL⟩ : ∃ L, L = l.take 5 := ⟨_, rfl⟩
  have hLl : L.length ≤ 1000 := by rw [hL, List.length_take]; omega
  obtain ⟨k, hk⟩ : ∃ k, k = L.length := ⟨_, rfl⟩
  obtain ⟨r0, hr0⟩ : ∃ r0, r0 = decide (a = b) := ⟨_, rfl⟩
  have HAl := Lib.hid ha
  have HBl := Lib.hid hb
  have eql_r0 : Hid (∀ u, (binOp .eql 23 (sumV a) (sumV b)).run Tryd.prog u = .ok (.bool r0) u) := Lib.hid fun u => by rw [hr0]; exact eql_sum a b ha hb u
  have hbl : ∀ P : Hs, 1 ≤ n ∧ n ≤ 1099511627776 → bothLen n n P = decide (P.length = 0) := fun P h => by
    have okl : okL n n = true := by simp [okL]; omega
    rw [bothLen_eq, if_pos okl, Tree.llong_end (by omega)]
    simp
  have hbf : ∀ P : Hs, ¬ (1 ≤ n ∧ n ≤ 1099511627776) → bothLen n n P = false := fun P h => by
    have okl : okL n n = false := by
      cases e : okL n n with
      | false => rfl
      | true => have := okL_t e; omega
    rw [bothLen_eq, okl, if_neg (by decide)]
    exact decide_eq_false (by omega)
  have HG10 : Hid (∀ u, KT u → Calls Tryd.prog 17 #[sumV a, .int .i64 n, sumV b, .int .i64 n, .slice none 0 0] u fun e w' => e = .returned (.bool (okL n n && r0)) ∧ Below u.heap.size u w') := Lib.hid fun u hk0 => by
    have := goes_any a b ha hb n n hn.2 hn.2 (.slice none 0 0) [] u (Sums.nil u) (by decide) hk0
    have e : goesZ a n b n [] = (okL n n && r0) := by
      by_cases h : 1 ≤ n ∧ n ≤ 1099511627776
      · have okl : okL n n = true := by simp [okL]; omega
        have e1 := hbl [] h
        unfold goesZ bothZ
        rw [e1, okl, show decide (([] : Hs).length = 0) = true from rfl, if_pos rfl, Tree.boths_end, hr0]
        simp
      · have okl : okL n n = false := by
          cases e : okL n n with
          | false => rfl
          | true => have := okL_t e; omega
        rw [goesF (hbf [] h), okl]
        rfl
    rw [e] at this
    exact this
  have HG20 : Hid (¬ (k : Int) = 0 → ∀ v u, KT u → Sums u v L → Calls Tryd.prog 17 #[sumV a, .int .i64 n, sumV a, .int .i64 n, v] u fun e w' => e = .returned (.bool false) ∧ Below u.heap.size u w') := Lib.hid fun hz v u hk0 hv => by
    have := goes_any a a ha ha n n hn.2 hn.2 v L u hv hLl hk0
    have e : bothLen n n L = false := by
      by_cases h : 1 ≤ n ∧ n ≤ 1099511627776
      · rw [hbl L h]
        exact decide_eq_false (by omega)
      · exact hbf L h
    rw [goesF e] at this
    exact this
  have Hmay : Hid (okL n n = decide (1 ≤ n ∧ n ≤ 1099511627776)) := Lib.hid (by
    by_cases h : 1 ≤ n ∧ n ≤ 1099511627776
    · rw [decide_eq_true h]; simp [okL]; omega
    · rw [decide_eq_false h]
      cases e : okL n n with
      | false => rfl
      | true => have := okL_t e; omega)
  have hkw : ∀ u, Below w.heap.size w u → KT u := fun u hu => hK.old hu
  obtain ⟨av, lv, cv, rfl⟩ : ∃ a n c, v = .slice a n c := by obtain ⟨a, c, e, -, -⟩ := hv.slice; exact ⟨_, _, _, e⟩
  obtain ⟨w0, hw0⟩ : ∃ w0, w0 = ((w.alloc (.cells (a.map u8V).toArray 23)).alloc (.cells (b.map u8V).toArray 23)).alloc (.cells #[.int .i64 n, .slice av lv cv] 52) := ⟨_, rfl⟩
  have b0 : Below w.heap.size w w0 := by rw [hw0]; exact (((Below.refl _ _).alloc (Nat.le_refl _) _).alloc (by simp) _).alloc (by simp; omega) _
  have j3 : IsH a w0 w.heap.size := by
    rw [hw0]
    exact ((((Below.refl (w.alloc (.cells (a.map u8V).toArray 23)).heap.size _).alloc (Nat.le_refl _) _).alloc (by simp) _).block w.heap.size (by simp)).trans (heap_alloc_last w _)
  have j4 : IsH b w0 (w.heap.size + 1) := by
    rw [hw0]
    refine (Below.heap_alloc _ _ _ (by simp)).trans ?_
    have := heap_alloc_last (w.alloc (.cells (a.map u8V).toArray 23)) (.cells (b.map u8V).toArray 23)
    rwa [World.size_alloc] at this
  have j5 : w0.heap[w.heap.size + 1 + 1]? = some (.cells #[.int .i64 n, .slice av lv cv] 52 (0, 0)) := by
    have := heap_alloc_last ((w.alloc (.cells (a.map u8V).toArray 23)).alloc (.cells (b.map u8V).toArray 23)) (.cells #[.int .i64 n, .slice av lv cv] 52)
    rwa [World.size_alloc, World.size_alloc, ← hw0] at this
  have HAW := Lib.hid (awake12_any w0 (hkw _ b0))
  have HFW : Hid (∀ u, Below w.heap.size w u → Calls Tryd.prog 11 #[.slice av lv cv, .int .i64 5] u fun e w' => ∃ v', e = .returned v' ∧ SumsB u.heap.size u v' (l.take 5) ∧ u = w') := Lib.hid fun u hu => few12_any (.slice av lv cv) l 5 (by decide) u (hv.old hu)
  have HJ3 := Lib.hid j3
  have HJ4 := Lib.hid j4
  have HJ5 := Lib.hid j5
  have HLE := Lib.hid hL
  have Hk := Lib.hid hk
  clear hL hLl hk hr0 ha hb hbl hbf hv hK j3 j4 j5
  unfold sumV
  go_enter Tryd.func9, Tryd.ntmps9
  go_upto_region 1 with (fail)
  rw [← hw0]
  clear hw0
  go_upto_region 4 with (first
    | (go_at_call 10; ((with_reducible refine HAW.out.mono ?_); rintro e w1 ⟨rfl, b1⟩; have b2 := below_step b0 (Nat.le_refl _) b1; have d1 : w1.cell? ⟨w.heap.size + 1 + 1, 1, none⟩ = some (.slice av lv cv) := cell_of (heap_oldP HJ5.out b1) 1; have d0 : w1.cell? ⟨w.heap.size + 1 + 1, 0, none⟩ = some (.int .i64 n) := cell_of (heap_oldP HJ5.out b1) 0))
    | (go_at_call 11; refine (HFW.out _ b2).mono ?_; rintro e w2 ⟨v6, rfl, h6, rfl⟩; rw [← HLE.out] at h6; have HP6 := Lib.hid h6.1; clear h6))
  obtain ⟨w2, hw2⟩ : ∃ w2, w2 = w1 := ⟨_, rfl⟩
  subst hw2
  have Jq3' : Hid (IsH a w2 w.heap.size) := Lib.hid (HJ3.out.old b1)
  have Jq4' : Hid (IsH b w2 (w.heap.size + 1)) := Lib.hid (HJ4.out.old b1)
  obtain ⟨ap, cp, rfl⟩ : ∃ a c, v6 = .slice a k c := by obtain ⟨a, c, e, -, -⟩ := HP6.out.slice; exact ⟨_, _, by rw [e, Hk.out]⟩
  obtain ⟨q4, hq4⟩ : ∃ q4, q4 = w.heap.size + 1 := ⟨_, rfl⟩
  rw [← hq4] at Jq4' ⊢
  obtain ⟨q3, hq3⟩ : ∃ q3, q3 = w.heap.size := ⟨_, rfl⟩
  rw [← hq3] at Jq3' ⊢
  have Jq3 := Jq3'
  have Jq4 := Jq4'
  have HBW := Lib.hid b2
  have HP := HP6
  have hkw2 : ∀ u, Below w2.heap.size w2 u → KT u := fun u hu => hkw u (below_step HBW.out (Nat.le_refl _) hu)
  clear hq3 hq4 Jq3' Jq4' HP6 HJ3 HJ4 HJ5 b0 b1 b2 hkw HAW HFW d0 d1
  obtain ⟨W, hW⟩ : ∃ W, W = w2 := ⟨_, rfl⟩
  subst hW
  have HG1 : Hid (∀ u, Below W.heap.size W u → Calls Tryd.prog 17 #[sumV a, .int .i64 n, sumV b, .int .i64 n, .slice none 0 0] u fun e w' => e = .returned (.bool (okL n n && r0)) ∧ Below u.heap.size u w') := Lib.hid fun u hu => HG10.out u (hkw2 u hu)
  have HG2 : Hid (¬ (k : Int) = 0 → ∀ u, Below W.heap.size W u → Calls Tryd.prog 17 #[sumV a, .int .i64 n, sumV a, .int .i64 n, .slice ap k cp] u fun e w' => e = .returned (.bool false) ∧ Below u.heap.size u w') := Lib.hid fun hz u hu => HG20.out hz _ u (hkw2 u hu) (HP.out.old hu)
  obtain ⟨may, hmay⟩ : ∃ may, may = okL n n := ⟨_, rfl⟩
  rw [← hmay] at HG1 Hmay
  clear hkw2 HG10 HG20 hmay
  go_cut [10] from 17 to 22 (fun s wx => s = .bool may ∧ Below W.heap.size W wx)
  case first =>
    by_cases h1 : 1 ≤ n
    · by_cases h2 : n ≤ 1099511627776
      · have hm : may = true := Hmay.out.trans (decide_eq_true ⟨h1, h2⟩)
        try simp only [Act.put]
        refine wp_region_tab0 [RT.is (.int .i64 n), RT.is (.bool true), RT.is (.bool true), RT.is (.int .i64 n), RT.is (.bool true), RT.is (.bool true), RT.is (.bool true)] (by kernel_rfl) (by kernel_rfl) (by kernel_rfl) ⟨?_, ?_, ?_, ?_, ?_, ?_, ?_, trivial⟩ ?_
        · intro ac w' hF hL hP hU K hK
          have hB : Below _ _ _ := hL
          have e9 : ac.eval (.tmp 9) = .int .i64 n := hF.at 9 (by kernel_rfl)
          exact rop_move _ rfl e9 (wanted_none rfl) (hK _ _ (le8_refl _) rfl)
        · intro ac w' hF hL hP hU K hK
          have hB : Below _ _ _ := hL
          have e17 : ac.eval (.tmp 17) = .int .i64 n := hP 0 (by kernel_rfl)
          exact rop_bin _ _ _ _ _ rfl e17 rfl (guard_int _ _ _ _ _ _ _ w') (geq_iG _ _ _ (decide_eq_true h1) w') (wanted_none rfl) (hK _ _ (le8_refl _) rfl)
        · intro ac w' hF hL hP hU K hK
          have hB : Below _ _ _ := hL
          have e18 : ac.eval (.tmp 18) = .bool true := hP 1 (by kernel_rfl)
          exact rop_move _ rfl e18 (wanted_none rfl) (hK _ _ (le8_refl _) rfl)
        · intro ac w' hF hL hP hU K hK
          have hB : Below _ _ _ := hL
          have e9 : ac.eval (.tmp 9) = .int .i64 n := hF.at 9 (by kernel_rfl)
          have e19 : ac.eval (.tmp 19) = .bool true := hP 2 (by kernel_rfl)
          exact rop_move _ rfl e9 (wanted_of (j := 2) (b := true) rfl rfl e19) (hK _ _ (le8_refl _) rfl)
        · intro ac w' hF hL hP hU K hK
          have hB : Below _ _ _ := hL
          have e20 : ac.eval (.tmp 20) = .int .i64 n := hP 3 (by kernel_rfl)
          have e19 : ac.eval (.tmp 19) = .bool true := hP 2 (by kernel_rfl)
          exact rop_bin _ _ _ _ _ rfl e20 rfl (guard_int _ _ _ _ _ _ _ w') (leq_iG _ _ _ (decide_eq_true h2) w') (wanted_of (j := 2) (b := true) rfl rfl e19) (hK _ _ (le8_refl _) rfl)
        · intro ac w' hF hL hP hU K hK
          have hB : Below _ _ _ := hL
          have e19 : ac.eval (.tmp 19) = .bool true := hP 2 (by kernel_rfl)
          have e21 : ac.eval (.tmp 21) = .bool true := hP 4 (by kernel_rfl)
          exact rop_pick _ _ _ rfl true e19 (by simpa using e21) (wanted_none rfl) (hK _ _ (le8_refl _) rfl)
        · intro ac w' hF hL hP hU K hK
          have hB : Below _ _ _ := hL
          have e22 : ac.eval (.tmp 22) = .bool true := hP 5 (by kernel_rfl)
          exact rop_assign _ rfl e22 (wanted_none rfl) (hK _ _ (le8_refl _) rfl)
        · intro ac w' hF hB hT
          have e22 : ac.eval (.tmp 22) = .bool true := hT 5 (by decide)
          have e10 : ac.eval (.tmp 10) = .bool true := hT 6 (by decide)
          rw [hF.setsG [17, 18, 19, 20, 21, 22, 10] (by kernel_rfl)]
          simp only [List.foldl_cons, List.foldl_nil, List.setIfInBounds_toArray, List.set_cons_succ, List.set_cons_zero, e22, e10]
          generalize ac.eval (.tmp 17) = u17
          generalize ac.eval (.tmp 18) = u18
          generalize ac.eval (.tmp 19) = u19
          generalize ac.eval (.tmp 20) = u20
          generalize ac.eval (.tmp 21) = u21
          clear e22 e10 hT hF ac
          have HM := Lib.hid hm
          clear h1 h2 hm
          go_wp2_with fail
          go_meet
          exact ⟨by rw [HM.out], hB⟩
      · have hm : may = false := Hmay.out.trans (decide_eq_false (fun h => h2 h.2))
        try simp only [Act.put]
        refine wp_region_tab0 [RT.is (.int .i64 n), RT.is (.bool true), RT.is (.bool true), RT.is (.int .i64 n), RT.is (.bool false), RT.is (.bool false), RT.is (.bool false)] (by kernel_rfl) (by kernel_rfl) (by kernel_rfl) ⟨?_, ?_, ?_, ?_, ?_, ?_, ?_, trivial⟩ ?_
        · intro ac w' hF hL hP hU K hK
          have hB : Below _ _ _ := hL
          have e9 : ac.eval (.tmp 9) = .int .i64 n := hF.at 9 (by kernel_rfl)
          exact rop_move _ rfl e9 (wanted_none rfl) (hK _ _ (le8_refl _) rfl)
        · intro ac w' hF hL hP hU K hK
          have hB : Below _ _ _ := hL
          have e17 : ac.eval (.tmp 17) = .int .i64 n := hP 0 (by kernel_rfl)
          exact rop_bin _ _ _ _ _ rfl e17 rfl (guard_int _ _ _ _ _ _ _ w') (geq_iG _ _ _ (decide_eq_true h1) w') (wanted_none rfl) (hK _ _ (le8_refl _) rfl)
        · intro ac w' hF hL hP hU K hK
          have hB : Below _ _ _ := hL
          have e18 : ac.eval (.tmp 18) = .bool true := hP 1 (by kernel_rfl)
          exact rop_move _ rfl e18 (wanted_none rfl) (hK _ _ (le8_refl _) rfl)
        · intro ac w' hF hL hP hU K hK
          have hB : Below _ _ _ := hL
          have e9 : ac.eval (.tmp 9) = .int .i64 n := hF.at 9 (by kernel_rfl)
          have e19 : ac.eval (.tmp 19) = .bool true := hP 2 (by kernel_rfl)
          exact rop_move _ rfl e9 (wanted_of (j := 2) (b := true) rfl rfl e19) (hK _ _ (le8_refl _) rfl)
        · intro ac w' hF hL hP hU K hK
          have hB : Below _ _ _ := hL
          have e20 : ac.eval (.tmp 20) = .int .i64 n := hP 3 (by kernel_rfl)
          have e19 : ac.eval (.tmp 19) = .bool true := hP 2 (by kernel_rfl)
          exact rop_bin _ _ _ _ _ rfl e20 rfl (guard_int _ _ _ _ _ _ _ w') (leq_iG _ _ _ (decide_eq_false h2) w') (wanted_of (j := 2) (b := true) rfl rfl e19) (hK _ _ (le8_refl _) rfl)
        · intro ac w' hF hL hP hU K hK
          have hB : Below _ _ _ := hL
          have e19 : ac.eval (.tmp 19) = .bool true := hP 2 (by kernel_rfl)
          have e21 : ac.eval (.tmp 21) = .bool false := hP 4 (by kernel_rfl)
          exact rop_pick _ _ _ rfl true e19 (by simpa using e21) (wanted_none rfl) (hK _ _ (le8_refl _) rfl)
        · intro ac w' hF hL hP hU K hK
          have hB : Below _ _ _ := hL
          have e22 : ac.eval (.tmp 22) = .bool false := hP 5 (by kernel_rfl)
          exact rop_assign _ rfl e22 (wanted_none rfl) (hK _ _ (le8_refl _) rfl)
        · intro ac w' hF hB hT
          have e22 : ac.eval (.tmp 22) = .bool false := hT 5 (by decide)
          have e10 : ac.eval (.tmp 10) = .bool false := hT 6 (by decide)
          rw [hF.setsG [17, 18, 19, 20, 21, 22, 10] (by kernel_rfl)]
          simp only [List.foldl_cons, List.foldl_nil, List.setIfInBounds_toArray, List.set_cons_succ, List.set_cons_zero, e22, e10]
          generalize ac.eval (.tmp 17) = u17
          generalize ac.eval (.tmp 18) = u18
          generalize ac.eval (.tmp 19) = u19
          generalize ac.eval (.tmp 20) = u20
          generalize ac.eval (.tmp 21) = u21
          clear e22 e10 hT hF ac
          have HM := Lib.hid hm
          clear h1 h2 hm
          go_wp2_with fail
          go_meet
          exact ⟨by rw [HM.out], hB⟩
    · have hm : may = false := Hmay.out.trans (decide_eq_false (fun h => h1 h.1))
      try simp only [Act.put]
      refine wp_region_tab0 [RT.is (.int .i64 n), RT.is (.bool false), RT.is (.bool false), RT.any, RT.any, RT.is (.bool false), RT.is (.bool false)] (by kernel_rfl) (by kernel_rfl) (by kernel_rfl) ⟨?_, ?_, ?_, ?_, ?_, ?_, ?_, trivial⟩ ?_
      · intro ac w' hF hL hP hU K hK
        have hB : Below _ _ _ := hL
        have e9 : ac.eval (.tmp 9) = .int .i64 n := hF.at 9 (by kernel_rfl)
        exact rop_move _ rfl e9 (wanted_none rfl) (hK _ _ (le8_refl _) rfl)
      · intro ac w' hF hL hP hU K hK
        have hB : Below _ _ _ := hL
        have e17 : ac.eval (.tmp 17) = .int .i64 n := hP 0 (by kernel_rfl)
        exact rop_bin _ _ _ _ _ rfl e17 rfl (guard_int _ _ _ _ _ _ _ w') (geq_iG _ _ _ (decide_eq_false h1) w') (wanted_none rfl) (hK _ _ (le8_refl _) rfl)
      · intro ac w' hF hL hP hU K hK
        have hB : Below _ _ _ := hL
        have e18 : ac.eval (.tmp 18) = .bool false := hP 1 (by kernel_rfl)
        exact rop_move _ rfl e18 (wanted_none rfl) (hK _ _ (le8_refl _) rfl)
      · intro ac w' hF hL hP hU K hK
        have hB : Below _ _ _ := hL
        have e19 : ac.eval (.tmp 19) = .bool false := hP 2 (by kernel_rfl)
        exact rop_offG (j := 2) (b := true) rfl rfl e19 (by decide) (hK _ _ (le8_refl _) trivial)
      · intro ac w' hF hL hP hU K hK
        have hB : Below _ _ _ := hL
        have e19 : ac.eval (.tmp 19) = .bool false := hP 2 (by kernel_rfl)
        exact rop_offG (j := 2) (b := true) rfl rfl e19 (by decide) (hK _ _ (le8_refl _) trivial)
      · intro ac w' hF hL hP hU K hK
        have hB : Below _ _ _ := hL
        have e19 : ac.eval (.tmp 19) = .bool false := hP 2 (by kernel_rfl)
        exact rop_pick _ _ _ rfl false e19 (by rfl) (wanted_none rfl) (hK _ _ (le8_refl _) rfl)
      · intro ac w' hF hL hP hU K hK
        have hB : Below _ _ _ := hL
        have e22 : ac.eval (.tmp 22) = .bool false := hP 5 (by kernel_rfl)
        exact rop_assign _ rfl e22 (wanted_none rfl) (hK _ _ (le8_refl _) rfl)
      · intro ac w' hF hB hT
        have e22 : ac.eval (.tmp 22) = .bool false := hT 5 (by decide)
        have e10 : ac.eval (.tmp 10) = .bool false := hT 6 (by decide)
        rw [hF.setsG [17, 18, 19, 20, 21, 22, 10] (by kernel_rfl)]
        simp only [List.foldl_cons, List.foldl_nil, List.setIfInBounds_toArray, List.set_cons_succ, List.set_cons_zero, e22, e10]
        generalize ac.eval (.tmp 17) = u17
        generalize ac.eval (.tmp 18) = u18
        generalize ac.eval (.tmp 19) = u19
        generalize ac.eval (.tmp 20) = u20
        generalize ac.eval (.tmp 21) = u21
        clear e22 e10 hT hF ac
        have HM := Lib.hid hm
        clear h1  hm
        go_wp2_with fail
        go_meet
        exact ⟨by rw [HM.out], hB⟩
  case rest =>
  obtain ⟨rfl, hBc⟩ := hcut
  obtain ⟨W2, hW2⟩ : ∃ W2, W2 = wc := ⟨_, rfl⟩
  subst hW2
  replace HG1 : Hid (∀ u, Below W2.heap.size W2 u → Calls Tryd.prog 17 #[sumV a, .int .i64 n, sumV b, .int .i64 n, .slice none 0 0] u fun e w' => e = .returned (.bool (may && r0)) ∧ Below u.heap.size u w') := Lib.hid fun u hu => HG1.out u (below_step hBc (Nat.le_refl _) hu)
  replace HG2 : Hid (¬ (k : Int) = 0 → ∀ u, Below W2.heap.size W2 u → Calls Tryd.prog 17 #[sumV a, .int .i64 n, sumV a, .int .i64 n, .slice ap k cp] u fun e w' => e = .returned (.bool false) ∧ Below u.heap.size u w') := Lib.hid fun hz u hu => HG2.out hz u (below_step hBc (Nat.le_refl _) hu)
  replace Jq3 : Hid (IsH a W2 q3) := Lib.hid (IsH.old Jq3.out hBc)
  replace Jq4 : Hid (IsH b W2 q4) := Lib.hid (IsH.old Jq4.out hBc)
  have HB2 := Lib.hid (below_step HBW.out (Nat.le_refl _) hBc)
  clear hBc Hmay
  go_upto_region 5 with (fail)
  obtain ⟨W, hW⟩ : ∃ W, W = W2 := ⟨_, rfl⟩
  subst hW
  cases may with
  | true =>
    replace HG1 : Hid (∀ u, Below W.heap.size W u → Calls Tryd.prog 17 #[sumV a, .int .i64 n, sumV b, .int .i64 n, .slice none 0 0] u fun e w' => e = .returned (.bool r0) ∧ Below u.heap.size u w') := HG1
    by_cases hz : (k : Int) = 0
    · skip
      try simp only [Act.put]
      refine wp_region_tab0 [RT.is (.bool true), RT.is (.bool true), RT.is (sumV a), RT.is (.int .i64 n), RT.is (sumV b), RT.is (.int .i64 n), RT.is (.bool r0), RT.is (.bool true), RT.is (.bool true), RT.is (sumV a), RT.is (sumV b), RT.is (.bool r0), RT.is (.bool r0), RT.is (.bool true), RT.is (.bool true), RT.is (.bool true), RT.is (.slice ap k cp), RT.is (.int .i64 (k : Int)), RT.is (.bool true), RT.is (.bool true), RT.any, RT.any, RT.any, RT.any, RT.any, RT.any, RT.any, RT.is (.bool true), RT.is (.bool true), RT.is (.bool true)] (by kernel_rfl) (by kernel_rfl) (by kernel_rfl) ⟨?_, ?_, ?_, ?_, ?_, ?_, ?_, ?_, ?_, ?_, ?_, ?_, ?_, ?_, ?_, ?_, ?_, ?_, ?_, ?_, ?_, ?_, ?_, ?_, ?_, ?_, ?_, ?_, ?_, ?_, trivial⟩ ?_
      · intro ac w' hF hL hP hU K hK
        have hB : Below _ _ _ := hL
        have e7 : ac.eval (.tmp 7) = .bool true := hF.at 7 (by kernel_rfl)
        exact rop_move _ rfl e7 (wanted_none rfl) (hK _ _ (le8_refl _) rfl)
      · intro ac w' hF hL hP hU K hK
        have hB : Below _ _ _ := hL
        have e23 : ac.eval (.tmp 23) = .bool true := hP 0 (by kernel_rfl)
        exact rop_move _ rfl e23 (wanted_none rfl) (hK _ _ (le8_refl _) rfl)
      · intro ac w' hF hL hP hU K hK
        have hB : Below _ _ _ := hL
        have e3 : ac.eval (.tmp 3) = .pointer (some ⟨q3, 0, none⟩) := hF.at 3 (by kernel_rfl)
        have e24 : ac.eval (.tmp 24) = .bool true := hP 1 (by kernel_rfl)
        exact rop_ld _ _ rfl e3 (load_sumP HAl.out (range_var (IsH.old Jq3.out hB))) (wanted_of (j := 1) (b := true) rfl rfl e24) (hK _ _ (le8_refl _) rfl)
      · intro ac w' hF hL hP hU K hK
        have hB : Below _ _ _ := hL
        have e9 : ac.eval (.tmp 9) = .int .i64 n := hF.at 9 (by kernel_rfl)
        have e24 : ac.eval (.tmp 24) = .bool true := hP 1 (by kernel_rfl)
        exact rop_move _ rfl e9 (wanted_of (j := 1) (b := true) rfl rfl e24) (hK _ _ (le8_refl _) rfl)
      · intro ac w' hF hL hP hU K hK
        have hB : Below _ _ _ := hL
        have e4 : ac.eval (.tmp 4) = .pointer (some ⟨q4, 0, none⟩) := hF.at 4 (by kernel_rfl)
        have e24 : ac.eval (.tmp 24) = .bool true := hP 1 (by kernel_rfl)
        exact rop_ld _ _ rfl e4 (load_sumP HBl.out (range_var (IsH.old Jq4.out hB))) (wanted_of (j := 1) (b := true) rfl rfl e24) (hK _ _ (le8_refl _) rfl)
      · intro ac w' hF hL hP hU K hK
        have hB : Below _ _ _ := hL
        have e9 : ac.eval (.tmp 9) = .int .i64 n := hF.at 9 (by kernel_rfl)
        have e24 : ac.eval (.tmp 24) = .bool true := hP 1 (by kernel_rfl)
        exact rop_move _ rfl e9 (wanted_of (j := 1) (b := true) rfl rfl e24) (hK _ _ (le8_refl _) rfl)
      · intro ac w' hF hL hP hU K hK
        have hB : Below _ _ _ := hL
        have e25 : ac.eval (.tmp 25) = sumV a := hP 2 (by kernel_rfl)
        have e26 : ac.eval (.tmp 26) = .int .i64 n := hP 3 (by kernel_rfl)
        have e27 : ac.eval (.tmp 27) = sumV b := hP 4 (by kernel_rfl)
        have e28 : ac.eval (.tmp 28) = .int .i64 n := hP 5 (by kernel_rfl)
        have e24 : ac.eval (.tmp 24) = .bool true := hP 1 (by kernel_rfl)
        refine rop_call 17 _ _ rfl #[sumV a, .int .i64 n, sumV b, .int .i64 n, .slice none 0 0] (by simp [e25, e26, e27, e28, eval_const]) (by kernel_rfl) (wanted_of (j := 1) (b := true) rfl rfl e24) ?_
        refine (HG1.out w' hB).mono ?_
        rintro e w2 ⟨rfl, hb⟩
        exact ⟨_, rfl, hK _ _ hb rfl⟩
      · intro ac w' hF hL hP hU K hK
        have hB : Below _ _ _ := hL
        have e10 : ac.eval (.tmp 10) = .bool true := hF.at 10 (by kernel_rfl)
        have e24 : ac.eval (.tmp 24) = .bool true := hP 1 (by kernel_rfl)
        exact rop_move _ rfl e10 (wanted_of (j := 1) (b := true) rfl rfl e24) (hK _ _ (le8_refl _) rfl)
      · intro ac w' hF hL hP hU K hK
        have hB : Below _ _ _ := hL
        have e30 : ac.eval (.tmp 30) = .bool true := hP 7 (by kernel_rfl)
        have e24 : ac.eval (.tmp 24) = .bool true := hP 1 (by kernel_rfl)
        exact rop_move _ rfl e30 (wanted_of (j := 1) (b := true) rfl rfl e24) (hK _ _ (le8_refl _) rfl)
      · intro ac w' hF hL hP hU K hK
        have hB : Below _ _ _ := hL
        have e3 : ac.eval (.tmp 3) = .pointer (some ⟨q3, 0, none⟩) := hF.at 3 (by kernel_rfl)
        have e31 : ac.eval (.tmp 31) = .bool true := hP 8 (by kernel_rfl)
        exact rop_ld _ _ rfl e3 (load_sumP HAl.out (range_var (IsH.old Jq3.out hB))) (wanted_of (j := 8) (b := true) rfl rfl e31) (hK _ _ (le8_refl _) rfl)
      · intro ac w' hF hL hP hU K hK
        have hB : Below _ _ _ := hL
        have e4 : ac.eval (.tmp 4) = .pointer (some ⟨q4, 0, none⟩) := hF.at 4 (by kernel_rfl)
        have e31 : ac.eval (.tmp 31) = .bool true := hP 8 (by kernel_rfl)
        exact rop_ld _ _ rfl e4 (load_sumP HBl.out (range_var (IsH.old Jq4.out hB))) (wanted_of (j := 8) (b := true) rfl rfl e31) (hK _ _ (le8_refl _) rfl)
      · intro ac w' hF hL hP hU K hK
        have hB : Below _ _ _ := hL
        have e32 : ac.eval (.tmp 32) = sumV a := hP 9 (by kernel_rfl)
        have e33 : ac.eval (.tmp 33) = sumV b := hP 10 (by kernel_rfl)
        have e31 : ac.eval (.tmp 31) = .bool true := hP 8 (by kernel_rfl)
        exact rop_bin _ _ _ _ _ rfl e32 e33 (guard_run _ _ _ _ _ w') (eql_r0.out w') (wanted_of (j := 8) (b := true) rfl rfl e31) (hK _ _ (le8_refl _) rfl)
      · intro ac w' hF hL hP hU K hK
        have hB : Below _ _ _ := hL
        have e31 : ac.eval (.tmp 31) = .bool true := hP 8 (by kernel_rfl)
        have e34 : ac.eval (.tmp 34) = .bool r0 := hP 11 (by kernel_rfl)
        have e24 : ac.eval (.tmp 24) = .bool true := hP 1 (by kernel_rfl)
        exact rop_pick _ _ _ rfl true e31 (by simpa using e34) (wanted_of (j := 1) (b := true) rfl rfl e24) (hK _ _ (le8_refl _) rfl)
      · intro ac w' hF hL hP hU K hK
        have hB : Below _ _ _ := hL
        have e29 : ac.eval (.tmp 29) = .bool r0 := hP 6 (by kernel_rfl)
        have e35 : ac.eval (.tmp 35) = .bool r0 := hP 12 (by kernel_rfl)
        have e24 : ac.eval (.tmp 24) = .bool true := hP 1 (by kernel_rfl)
        exact rop_bin _ _ _ _ _ rfl e29 e35 (guard_bool _ _ _ _ _ _ w') (eql_bool_sameP r0 w') (wanted_of (j := 1) (b := true) rfl rfl e24) (hK _ _ (le8_refl _) rfl)
      · intro ac w' hF hL hP hU K hK
        have hB : Below _ _ _ := hL
        have e24 : ac.eval (.tmp 24) = .bool true := hP 1 (by kernel_rfl)
        have e36 : ac.eval (.tmp 36) = .bool true := hP 13 (by kernel_rfl)
        exact rop_pick _ _ _ rfl true e24 (by simpa using e36) (wanted_none rfl) (hK _ _ (le8_refl _) rfl)
      · intro ac w' hF hL hP hU K hK
        have hB : Below _ _ _ := hL
        have e37 : ac.eval (.tmp 37) = .bool true := hP 14 (by kernel_rfl)
        exact rop_move _ rfl e37 (wanted_none rfl) (hK _ _ (le8_refl _) rfl)
      · intro ac w' hF hL hP hU K hK
        have hB : Below _ _ _ := hL
        have e8 : ac.eval (.tmp 8) = .slice ap k cp := hF.at 8 (by kernel_rfl)
        have e38 : ac.eval (.tmp 38) = .bool true := hP 15 (by kernel_rfl)
        exact rop_move _ rfl e8 (wanted_of (j := 15) (b := true) rfl rfl e38) (hK _ _ (le8_refl _) rfl)
      · intro ac w' hF hL hP hU K hK
        have hB : Below _ _ _ := hL
        have e39 : ac.eval (.tmp 39) = .slice ap k cp := hP 16 (by kernel_rfl)
        have e38 : ac.eval (.tmp 38) = .bool true := hP 15 (by kernel_rfl)
        exact rop_lenG _ Tryd.underlying25 rfl e39 (wanted_of (j := 15) (b := true) rfl rfl e38) (hK _ _ (le8_refl _) rfl)
      · intro ac w' hF hL hP hU K hK
        have hB : Below _ _ _ := hL
        have e40 : ac.eval (.tmp 40) = .int .i64 (k : Int) := hP 17 (by kernel_rfl)
        have e38 : ac.eval (.tmp 38) = .bool true := hP 15 (by kernel_rfl)
        exact rop_bin _ _ _ _ _ rfl e40 rfl (guard_int _ _ _ _ _ _ _ w') (eql_iG _ _ _ (decide_eq_true hz) w') (wanted_of (j := 15) (b := true) rfl rfl e38) (hK _ _ (le8_refl _) rfl)
      · intro ac w' hF hL hP hU K hK
        have hB : Below _ _ _ := hL
        have e41 : ac.eval (.tmp 41) = .bool true := hP 18 (by kernel_rfl)
        have e38 : ac.eval (.tmp 38) = .bool true := hP 15 (by kernel_rfl)
        exact rop_move _ rfl e41 (wanted_of (j := 15) (b := true) rfl rfl e38) (hK _ _ (le8_refl _) rfl)
      · intro ac w' hF hL hP hU K hK
        have hB : Below _ _ _ := hL
        have e42 : ac.eval (.tmp 42) = .bool true := hP 19 (by kernel_rfl)
        exact rop_offG (j := 19) (b := false) rfl rfl e42 (by decide) (hK _ _ (le8_refl _) trivial)
      · intro ac w' hF hL hP hU K hK
        have hB : Below _ _ _ := hL
        have e42 : ac.eval (.tmp 42) = .bool true := hP 19 (by kernel_rfl)
        exact rop_offG (j := 19) (b := false) rfl rfl e42 (by decide) (hK _ _ (le8_refl _) trivial)
      · intro ac w' hF hL hP hU K hK
        have hB : Below _ _ _ := hL
        have e42 : ac.eval (.tmp 42) = .bool true := hP 19 (by kernel_rfl)
        exact rop_offG (j := 19) (b := false) rfl rfl e42 (by decide) (hK _ _ (le8_refl _) trivial)
      · intro ac w' hF hL hP hU K hK
        have hB : Below _ _ _ := hL
        have e42 : ac.eval (.tmp 42) = .bool true := hP 19 (by kernel_rfl)
        exact rop_offG (j := 19) (b := false) rfl rfl e42 (by decide) (hK _ _ (le8_refl _) trivial)
      · intro ac w' hF hL hP hU K hK
        have hB : Below _ _ _ := hL
        have e42 : ac.eval (.tmp 42) = .bool true := hP 19 (by kernel_rfl)
        exact rop_offG (j := 19) (b := false) rfl rfl e42 (by decide) (hK _ _ (le8_refl _) trivial)
      · intro ac w' hF hL hP hU K hK
        have hB : Below _ _ _ := hL
        have e42 : ac.eval (.tmp 42) = .bool true := hP 19 (by kernel_rfl)
        exact rop_offG (j := 19) (b := false) rfl rfl e42 (by decide) (hK _ _ (le8_refl _) trivial)
      · intro ac w' hF hL hP hU K hK
        have hB : Below _ _ _ := hL
        have e42 : ac.eval (.tmp 42) = .bool true := hP 19 (by kernel_rfl)
        exact rop_offG (j := 19) (b := false) rfl rfl e42 (by decide) (hK _ _ (le8_refl _) trivial)
      · intro ac w' hF hL hP hU K hK
        have hB : Below _ _ _ := hL
        have e42 : ac.eval (.tmp 42) = .bool true := hP 19 (by kernel_rfl)
        have e38 : ac.eval (.tmp 38) = .bool true := hP 15 (by kernel_rfl)
        exact rop_pick _ _ _ rfl true e42 (by rfl) (wanted_of (j := 15) (b := true) rfl rfl e38) (hK _ _ (le8_refl _) rfl)
      · intro ac w' hF hL hP hU K hK
        have hB : Below _ _ _ := hL
        have e38 : ac.eval (.tmp 38) = .bool true := hP 15 (by kernel_rfl)
        have e50 : ac.eval (.tmp 50) = .bool true := hP 27 (by kernel_rfl)
        exact rop_pick _ _ _ rfl true e38 (by simpa using e50) (wanted_none rfl) (hK _ _ (le8_refl _) rfl)
      · intro ac w' hF hL hP hU K hK
        have hB : Below _ _ _ := hL
        have e51 : ac.eval (.tmp 51) = .bool true := hP 28 (by kernel_rfl)
        exact rop_assign _ rfl e51 (wanted_none rfl) (hK _ _ (le8_refl _) rfl)
      · intro ac w' hF hB hT
        have e51 : ac.eval (.tmp 51) = .bool true := hT 28 (by decide)
        have e6 : ac.eval (.tmp 6) = .bool true := hT 29 (by decide)
        rw [hF.setsG [23, 24, 25, 26, 27, 28, 29, 30, 31, 32, 33, 34, 35, 36, 37, 38, 39, 40, 41, 42, 43, 44, 45, 46, 47, 48, 49, 50, 51, 6] (by kernel_rfl)]
        simp only [List.foldl_cons, List.foldl_nil, List.setIfInBounds_toArray, List.set_cons_succ, List.set_cons_zero, e51, e6]
        generalize ac.eval (.tmp 23) = u23
        generalize ac.eval (.tmp 24) = u24
        generalize ac.eval (.tmp 25) = u25
        generalize ac.eval (.tmp 26) = u26
        generalize ac.eval (.tmp 27) = u27
        generalize ac.eval (.tmp 28) = u28
        generalize ac.eval (.tmp 29) = u29
        generalize ac.eval (.tmp 30) = u30
        generalize ac.eval (.tmp 31) = u31
        generalize ac.eval (.tmp 32) = u32
        generalize ac.eval (.tmp 33) = u33
        generalize ac.eval (.tmp 34) = u34
        generalize ac.eval (.tmp 35) = u35
        generalize ac.eval (.tmp 36) = u36
        generalize ac.eval (.tmp 37) = u37
        generalize ac.eval (.tmp 38) = u38
        generalize ac.eval (.tmp 39) = u39
        generalize ac.eval (.tmp 40) = u40
        generalize ac.eval (.tmp 41) = u41
        generalize ac.eval (.tmp 42) = u42
        generalize ac.eval (.tmp 43) = u43
        generalize ac.eval (.tmp 44) = u44
        generalize ac.eval (.tmp 45) = u45
        generalize ac.eval (.tmp 46) = u46
        generalize ac.eval (.tmp 47) = u47
        generalize ac.eval (.tmp 48) = u48
        generalize ac.eval (.tmp 49) = u49
        generalize ac.eval (.tmp 50) = u50
        clear e51 e6 hT hF ac
        have HF := Lib.hid (below_step HB2.out (Nat.le_refl _) hB)
        clear hB hz
        go_wp2
        go_ret
        exact ⟨rfl, HF.out⟩
    · skip
      try simp only [Act.put]
      refine wp_region_tab0 [RT.is (.bool true), RT.is (.bool true), RT.is (sumV a), RT.is (.int .i64 n), RT.is (sumV b), RT.is (.int .i64 n), RT.is (.bool r0), RT.is (.bool true), RT.is (.bool true), RT.is (sumV a), RT.is (sumV b), RT.is (.bool r0), RT.is (.bool r0), RT.is (.bool true), RT.is (.bool true), RT.is (.bool true), RT.is (.slice ap k cp), RT.is (.int .i64 (k : Int)), RT.is (.bool false), RT.is (.bool false), RT.is (sumV a), RT.is (.int .i64 n), RT.is (sumV a), RT.is (.int .i64 n), RT.is (.slice ap k cp), RT.is (.bool false), RT.is (.bool true), RT.is (.bool true), RT.is (.bool true), RT.is (.bool true)] (by kernel_rfl) (by kernel_rfl) (by kernel_rfl) ⟨?_, ?_, ?_, ?_, ?_, ?_, ?_, ?_, ?_, ?_, ?_, ?_, ?_, ?_, ?_, ?_, ?_, ?_, ?_, ?_, ?_, ?_, ?_, ?_, ?_, ?_, ?_, ?_, ?_, ?_, trivial⟩ ?_
      · intro ac w' hF hL hP hU K hK
        have hB : Below _ _ _ := hL
        have e7 : ac.eval (.tmp 7) = .bool true := hF.at 7 (by kernel_rfl)
        exact rop_move _ rfl e7 (wanted_none rfl) (hK _ _ (le8_refl _) rfl)
      · intro ac w' hF hL hP hU K hK
        have hB : Below _ _ _ := hL
        have e23 : ac.eval (.tmp 23) = .bool true := hP 0 (by kernel_rfl)
        exact rop_move _ rfl e23 (wanted_none rfl) (hK _ _ (le8_refl _) rfl)
      · intro ac w' hF hL hP hU K hK
        have hB : Below _ _ _ := hL
        have e3 : ac.eval (.tmp 3) = .pointer (some ⟨q3, 0, none⟩) := hF.at 3 (by kernel_rfl)
        have e24 : ac.eval (.tmp 24) = .bool true := hP 1 (by kernel_rfl)
        exact rop_ld _ _ rfl e3 (load_sumP HAl.out (range_var (IsH.old Jq3.out hB))) (wanted_of (j := 1) (b := true) rfl rfl e24) (hK _ _ (le8_refl _) rfl)
      · intro ac w' hF hL hP hU K hK
        have hB : Below _ _ _ := hL
        have e9 : ac.eval (.tmp 9) = .int .i64 n := hF.at 9 (by kernel_rfl)
        have e24 : ac.eval (.tmp 24) = .bool true := hP 1 (by kernel_rfl)
        exact rop_move _ rfl e9 (wanted_of (j := 1) (b := true) rfl rfl e24) (hK _ _ (le8_refl _) rfl)
      · intro ac w' hF hL hP hU K hK
        have hB : Below _ _ _ := hL
        have e4 : ac.eval (.tmp 4) = .pointer (some ⟨q4, 0, none⟩) := hF.at 4 (by kernel_rfl)
        have e24 : ac.eval (.tmp 24) = .bool true := hP 1 (by kernel_rfl)
        exact rop_ld _ _ rfl e4 (load_sumP HBl.out (range_var (IsH.old Jq4.out hB))) (wanted_of (j := 1) (b := true) rfl rfl e24) (hK _ _ (le8_refl _) rfl)
      · intro ac w' hF hL hP hU K hK
        have hB : Below _ _ _ := hL
        have e9 : ac.eval (.tmp 9) = .int .i64 n := hF.at 9 (by kernel_rfl)
        have e24 : ac.eval (.tmp 24) = .bool true := hP 1 (by kernel_rfl)
        exact rop_move _ rfl e9 (wanted_of (j := 1) (b := true) rfl rfl e24) (hK _ _ (le8_refl _) rfl)
      · intro ac w' hF hL hP hU K hK
        have hB : Below _ _ _ := hL
        have e25 : ac.eval (.tmp 25) = sumV a := hP 2 (by kernel_rfl)
        have e26 : ac.eval (.tmp 26) = .int .i64 n := hP 3 (by kernel_rfl)
        have e27 : ac.eval (.tmp 27) = sumV b := hP 4 (by kernel_rfl)
        have e28 : ac.eval (.tmp 28) = .int .i64 n := hP 5 (by kernel_rfl)
        have e24 : ac.eval (.tmp 24) = .bool true := hP 1 (by kernel_rfl)
        refine rop_call 17 _ _ rfl #[sumV a, .int .i64 n, sumV b, .int .i64 n, .slice none 0 0] (by simp [e25, e26, e27, e28, eval_const]) (by kernel_rfl) (wanted_of (j := 1) (b := true) rfl rfl e24) ?_
        refine (HG1.out w' hB).mono ?_
        rintro e w2 ⟨rfl, hb⟩
        exact ⟨_, rfl, hK _ _ hb rfl⟩
      · intro ac w' hF hL hP hU K hK
        have hB : Below _ _ _ := hL
        have e10 : ac.eval (.tmp 10) = .bool true := hF.at 10 (by kernel_rfl)
        have e24 : ac.eval (.tmp 24) = .bool true := hP 1 (by kernel_rfl)
        exact rop_move _ rfl e10 (wanted_of (j := 1) (b := true) rfl rfl e24) (hK _ _ (le8_refl _) rfl)
      · intro ac w' hF hL hP hU K hK
        have hB : Below _ _ _ := hL
        have e30 : ac.eval (.tmp 30) = .bool true := hP 7 (by kernel_rfl)
        have e24 : ac.eval (.tmp 24) = .bool true := hP 1 (by kernel_rfl)
        exact rop_move _ rfl e30 (wanted_of (j := 1) (b := true) rfl rfl e24) (hK _ _ (le8_refl _) rfl)
      · intro ac w' hF hL hP hU K hK
        have hB : Below _ _ _ := hL
        have e3 : ac.eval (.tmp 3) = .pointer (some ⟨q3, 0, none⟩) := hF.at 3 (by kernel_rfl)
        have e31 : ac.eval (.tmp 31) = .bool true := hP 8 (by kernel_rfl)
        exact rop_ld _ _ rfl e3 (load_sumP HAl.out (range_var (IsH.old Jq3.out hB))) (wanted_of (j := 8) (b := true) rfl rfl e31) (hK _ _ (le8_refl _) rfl)
      · intro ac w' hF hL hP hU K hK
        have hB : Below _ _ _ := hL
        have e4 : ac.eval (.tmp 4) = .pointer (some ⟨q4, 0, none⟩) := hF.at 4 (by kernel_rfl)
        have e31 : ac.eval (.tmp 31) = .bool true := hP 8 (by kernel_rfl)
        exact rop_ld _ _ rfl e4 (load_sumP HBl.out (range_var (IsH.old Jq4.out hB))) (wanted_of (j := 8) (b := true) rfl rfl e31) (hK _ _ (le8_refl _) rfl)
      · intro ac w' hF hL hP hU K hK
        have hB : Below _ _ _ := hL
        have e32 : ac.eval (.tmp 32) = sumV a := hP 9 (by kernel_rfl)
        have e33 : ac.eval (.tmp 33) = sumV b := hP 10 (by kernel_rfl)
        have e31 : ac.eval (.tmp 31) = .bool true := hP 8 (by kernel_rfl)
        exact rop_bin _ _ _ _ _ rfl e32 e33 (guard_run _ _ _ _ _ w') (eql_r0.out w') (wanted_of (j := 8) (b := true) rfl rfl e31) (hK _ _ (le8_refl _) rfl)
      · intro ac w' hF hL hP hU K hK
        have hB : Below _ _ _ := hL
        have e31 : ac.eval (.tmp 31) = .bool true := hP 8 (by kernel_rfl)
        have e34 : ac.eval (.tmp 34) = .bool r0 := hP 11 (by kernel_rfl)
        have e24 : ac.eval (.tmp 24) = .bool true := hP 1 (by kernel_rfl)
        exact rop_pick _ _ _ rfl true e31 (by simpa using e34) (wanted_of (j := 1) (b := true) rfl rfl e24) (hK _ _ (le8_refl _) rfl)
      · intro ac w' hF hL hP hU K hK
        have hB : Below _ _ _ := hL
        have e29 : ac.eval (.tmp 29) = .bool r0 := hP 6 (by kernel_rfl)
        have e35 : ac.eval (.tmp 35) = .bool r0 := hP 12 (by kernel_rfl)
        have e24 : ac.eval (.tmp 24) = .bool true := hP 1 (by kernel_rfl)
        exact rop_bin _ _ _ _ _ rfl e29 e35 (guard_bool _ _ _ _ _ _ w') (eql_bool_sameP r0 w') (wanted_of (j := 1) (b := true) rfl rfl e24) (hK _ _ (le8_refl _) rfl)
      · intro ac w' hF hL hP hU K hK
        have hB : Below _ _ _ := hL
        have e24 : ac.eval (.tmp 24) = .bool true := hP 1 (by kernel_rfl)
        have e36 : ac.eval (.tmp 36) = .bool true := hP 13 (by kernel_rfl)
        exact rop_pick _ _ _ rfl true e24 (by simpa using e36) (wanted_none rfl) (hK _ _ (le8_refl _) rfl)
      · intro ac w' hF hL hP hU K hK
        have hB : Below _ _ _ := hL
        have e37 : ac.eval (.tmp 37) = .bool true := hP 14 (by kernel_rfl)
        exact rop_move _ rfl e37 (wanted_none rfl) (hK _ _ (le8_refl _) rfl)
      · intro ac w' hF hL hP hU K hK
        have hB : Below _ _ _ := hL
        have e8 : ac.eval (.tmp 8) = .slice ap k cp := hF.at 8 (by kernel_rfl)
        have e38 : ac.eval (.tmp 38) = .bool true := hP 15 (by kernel_rfl)
        exact rop_move _ rfl e8 (wanted_of (j := 15) (b := true) rfl rfl e38) (hK _ _ (le8_refl _) rfl)
      · intro ac w' hF hL hP hU K hK
        have hB : Below _ _ _ := hL
        have e39 : ac.eval (.tmp 39) = .slice ap k cp := hP 16 (by kernel_rfl)
        have e38 : ac.eval (.tmp 38) = .bool true := hP 15 (by kernel_rfl)
        exact rop_lenG _ Tryd.underlying25 rfl e39 (wanted_of (j := 15) (b := true) rfl rfl e38) (hK _ _ (le8_refl _) rfl)
      · intro ac w' hF hL hP hU K hK
        have hB : Below _ _ _ := hL
        have e40 : ac.eval (.tmp 40) = .int .i64 (k : Int) := hP 17 (by kernel_rfl)
        have e38 : ac.eval (.tmp 38) = .bool true := hP 15 (by kernel_rfl)
        exact rop_bin _ _ _ _ _ rfl e40 rfl (guard_int _ _ _ _ _ _ _ w') (eql_iG _ _ _ (decide_eq_false hz) w') (wanted_of (j := 15) (b := true) rfl rfl e38) (hK _ _ (le8_refl _) rfl)
      · intro ac w' hF hL hP hU K hK
        have hB : Below _ _ _ := hL
        have e41 : ac.eval (.tmp 41) = .bool false := hP 18 (by kernel_rfl)
        have e38 : ac.eval (.tmp 38) = .bool true := hP 15 (by kernel_rfl)
        exact rop_move _ rfl e41 (wanted_of (j := 15) (b := true) rfl rfl e38) (hK _ _ (le8_refl _) rfl)
      · intro ac w' hF hL hP hU K hK
        have hB : Below _ _ _ := hL
        have e3 : ac.eval (.tmp 3) = .pointer (some ⟨q3, 0, none⟩) := hF.at 3 (by kernel_rfl)
        have e42 : ac.eval (.tmp 42) = .bool false := hP 19 (by kernel_rfl)
        exact rop_ld _ _ rfl e3 (load_sumP HAl.out (range_var (IsH.old Jq3.out hB))) (wanted_of (j := 19) (b := false) rfl rfl e42) (hK _ _ (le8_refl _) rfl)
      · intro ac w' hF hL hP hU K hK
        have hB : Below _ _ _ := hL
        have e9 : ac.eval (.tmp 9) = .int .i64 n := hF.at 9 (by kernel_rfl)
        have e42 : ac.eval (.tmp 42) = .bool false := hP 19 (by kernel_rfl)
        exact rop_move _ rfl e9 (wanted_of (j := 19) (b := false) rfl rfl e42) (hK _ _ (le8_refl _) rfl)
      · intro ac w' hF hL hP hU K hK
        have hB : Below _ _ _ := hL
        have e3 : ac.eval (.tmp 3) = .pointer (some ⟨q3, 0, none⟩) := hF.at 3 (by kernel_rfl)
        have e42 : ac.eval (.tmp 42) = .bool false := hP 19 (by kernel_rfl)
        exact rop_ld _ _ rfl e3 (load_sumP HAl.out (range_var (IsH.old Jq3.out hB))) (wanted_of (j := 19) (b := false) rfl rfl e42) (hK _ _ (le8_refl _) rfl)
      · intro ac w' hF hL hP hU K hK
        have hB : Below _ _ _ := hL
        have e9 : ac.eval (.tmp 9) = .int .i64 n := hF.at 9 (by kernel_rfl)
        have e42 : ac.eval (.tmp 42) = .bool false := hP 19 (by kernel_rfl)
        exact rop_move _ rfl e9 (wanted_of (j := 19) (b := false) rfl rfl e42) (hK _ _ (le8_refl _) rfl)
      · intro ac w' hF hL hP hU K hK
        have hB : Below _ _ _ := hL
        have e8 : ac.eval (.tmp 8) = .slice ap k cp := hF.at 8 (by kernel_rfl)
        have e42 : ac.eval (.tmp 42) = .bool false := hP 19 (by kernel_rfl)
        exact rop_move _ rfl e8 (wanted_of (j := 19) (b := false) rfl rfl e42) (hK _ _ (le8_refl _) rfl)
      · intro ac w' hF hL hP hU K hK
        have hB : Below _ _ _ := hL
        have e43 : ac.eval (.tmp 43) = sumV a := hP 20 (by kernel_rfl)
        have e44 : ac.eval (.tmp 44) = .int .i64 n := hP 21 (by kernel_rfl)
        have e45 : ac.eval (.tmp 45) = sumV a := hP 22 (by kernel_rfl)
        have e46 : ac.eval (.tmp 46) = .int .i64 n := hP 23 (by kernel_rfl)
        have e47 : ac.eval (.tmp 47) = .slice ap k cp := hP 24 (by kernel_rfl)
        have e42 : ac.eval (.tmp 42) = .bool false := hP 19 (by kernel_rfl)
        refine rop_call 17 _ _ rfl #[sumV a, .int .i64 n, sumV a, .int .i64 n, .slice ap k cp] (by simp [e43, e44, e45, e46, e47]) (by kernel_rfl) (wanted_of (j := 19) (b := false) rfl rfl e42) ?_
        refine (HG2.out hz w' hB).mono ?_
        rintro e w2 ⟨rfl, hb⟩
        exact ⟨_, rfl, hK _ _ hb rfl⟩
      · intro ac w' hF hL hP hU K hK
        have hB : Below _ _ _ := hL
        have e48 : ac.eval (.tmp 48) = .bool false := hP 25 (by kernel_rfl)
        have e42 : ac.eval (.tmp 42) = .bool false := hP 19 (by kernel_rfl)
        exact rop_not _ _ rfl false e48 (wanted_of (j := 19) (b := false) rfl rfl e42) (hK _ _ (le8_refl _) rfl)
      · intro ac w' hF hL hP hU K hK
        have hB : Below _ _ _ := hL
        have e42 : ac.eval (.tmp 42) = .bool false := hP 19 (by kernel_rfl)
        have e49 : ac.eval (.tmp 49) = .bool true := hP 26 (by kernel_rfl)
        have e38 : ac.eval (.tmp 38) = .bool true := hP 15 (by kernel_rfl)
        exact rop_pick _ _ _ rfl false e42 (by simpa using e49) (wanted_of (j := 15) (b := true) rfl rfl e38) (hK _ _ (le8_refl _) rfl)
      · intro ac w' hF hL hP hU K hK
        have hB : Below _ _ _ := hL
        have e38 : ac.eval (.tmp 38) = .bool true := hP 15 (by kernel_rfl)
        have e50 : ac.eval (.tmp 50) = .bool true := hP 27 (by kernel_rfl)
        exact rop_pick _ _ _ rfl true e38 (by simpa using e50) (wanted_none rfl) (hK _ _ (le8_refl _) rfl)
      · intro ac w' hF hL hP hU K hK
        have hB : Below _ _ _ := hL
        have e51 : ac.eval (.tmp 51) = .bool true := hP 28 (by kernel_rfl)
        exact rop_assign _ rfl e51 (wanted_none rfl) (hK _ _ (le8_refl _) rfl)
      · intro ac w' hF hB hT
        have e51 : ac.eval (.tmp 51) = .bool true := hT 28 (by decide)
        have e6 : ac.eval (.tmp 6) = .bool true := hT 29 (by decide)
        rw [hF.setsG [23, 24, 25, 26, 27, 28, 29, 30, 31, 32, 33, 34, 35, 36, 37, 38, 39, 40, 41, 42, 43, 44, 45, 46, 47, 48, 49, 50, 51, 6] (by kernel_rfl)]
        simp only [List.foldl_cons, List.foldl_nil, List.setIfInBounds_toArray, List.set_cons_succ, List.set_cons_zero, e51, e6]
        generalize ac.eval (.tmp 23) = u23
        generalize ac.eval (.tmp 24) = u24
        generalize ac.eval (.tmp 25) = u25
        generalize ac.eval (.tmp 26) = u26
        generalize ac.eval (.tmp 27) = u27
        generalize ac.eval (.tmp 28) = u28
        generalize ac.eval (.tmp 29) = u29
        generalize ac.eval (.tmp 30) = u30
        generalize ac.eval (.tmp 31) = u31
        generalize ac.eval (.tmp 32) = u32
        generalize ac.eval (.tmp 33) = u33
        generalize ac.eval (.tmp 34) = u34
        generalize ac.eval (.tmp 35) = u35
        generalize ac.eval (.tmp 36) = u36
        generalize ac.eval (.tmp 37) = u37
        generalize ac.eval (.tmp 38) = u38
        generalize ac.eval (.tmp 39) = u39
        generalize ac.eval (.tmp 40) = u40
        generalize ac.eval (.tmp 41) = u41
        generalize ac.eval (.tmp 42) = u42
        generalize ac.eval (.tmp 43) = u43
        generalize ac.eval (.tmp 44) = u44
        generalize ac.eval (.tmp 45) = u45
        generalize ac.eval (.tmp 46) = u46
        generalize ac.eval (.tmp 47) = u47
        generalize ac.eval (.tmp 48) = u48
        generalize ac.eval (.tmp 49) = u49
        generalize ac.eval (.tmp 50) = u50
        clear e51 e6 hT hF ac
        have HF := Lib.hid (below_step HB2.out (Nat.le_refl _) hB)
        clear hB hz
        go_wp2
        go_ret
        exact ⟨rfl, HF.out⟩
  | false =>
    replace HG1 : Hid (∀ u, Below W.heap.size W u → Calls Tryd.prog 17 #[sumV a, .int .i64 n, sumV b, .int .i64 n, .slice none 0 0] u fun e w' => e = .returned (.bool false) ∧ Below u.heap.size u w') := HG1
    by_cases hz : (k : Int) = 0
    · skip
      try simp only [Act.put]
      refine wp_region_tab0 [RT.is (.bool true), RT.is (.bool true), RT.is (sumV a), RT.is (.int .i64 n), RT.is (sumV b), RT.is (.int .i64 n), RT.is (.bool false), RT.is (.bool false), RT.is (.bool false), RT.any, RT.any, RT.any, RT.is (.bool false), RT.is (.bool true), RT.is (.bool true), RT.is (.bool true), RT.is (.slice ap k cp), RT.is (.int .i64 (k : Int)), RT.is (.bool true), RT.is (.bool true), RT.any, RT.any, RT.any, RT.any, RT.any, RT.any, RT.any, RT.is (.bool true), RT.is (.bool true), RT.is (.bool true)] (by kernel_rfl) (by kernel_rfl) (by kernel_rfl) ⟨?_, ?_, ?_, ?_, ?_, ?_, ?_, ?_, ?_, ?_, ?_, ?_, ?_, ?_, ?_, ?_, ?_, ?_, ?_, ?_, ?_, ?_, ?_, ?_, ?_, ?_, ?_, ?_, ?_, ?_, trivial⟩ ?_
      · intro ac w' hF hL hP hU K hK
        have hB : Below _ _ _ := hL
        have e7 : ac.eval (.tmp 7) = .bool true := hF.at 7 (by kernel_rfl)
        exact rop_move _ rfl e7 (wanted_none rfl) (hK _ _ (le8_refl _) rfl)
      · intro ac w' hF hL hP hU K hK
        have hB : Below _ _ _ := hL
        have e23 : ac.eval (.tmp 23) = .bool true := hP 0 (by kernel_rfl)
        exact rop_move _ rfl e23 (wanted_none rfl) (hK _ _ (le8_refl _) rfl)
      · intro ac w' hF hL hP hU K hK
        have hB : Below _ _ _ := hL
        have e3 : ac.eval (.tmp 3) = .pointer (some ⟨q3, 0, none⟩) := hF.at 3 (by kernel_rfl)
        have e24 : ac.eval (.tmp 24) = .bool true := hP 1 (by kernel_rfl)
        exact rop_ld _ _ rfl e3 (load_sumP HAl.out (range_var (IsH.old Jq3.out hB))) (wanted_of (j := 1) (b := true) rfl rfl e24) (hK _ _ (le8_refl _) rfl)
      · intro ac w' hF hL hP hU K hK
        have hB : Below _ _ _ := hL
        have e9 : ac.eval (.tmp 9) = .int .i64 n := hF.at 9 (by kernel_rfl)
        have e24 : ac.eval (.tmp 24) = .bool true := hP 1 (by kernel_rfl)
        exact rop_move _ rfl e9 (wanted_of (j := 1) (b := true) rfl rfl e24) (hK _ _ (le8_refl _) rfl)
      · intro ac w' hF hL hP hU K hK
        have hB : Below _ _ _ := hL
        have e4 : ac.eval (.tmp 4) = .pointer (some ⟨q4, 0, none⟩) := hF.at 4 (by kernel_rfl)
        have e24 : ac.eval (.tmp 24) = .bool true := hP 1 (by kernel_rfl)
        exact rop_ld _ _ rfl e4 (load_sumP HBl.out (range_var (IsH.old Jq4.out hB))) (wanted_of (j := 1) (b := true) rfl rfl e24) (hK _ _ (le8_refl _) rfl)
      · intro ac w' hF hL hP hU K hK
        have hB : Below _ _ _ := hL
        have e9 : ac.eval (.tmp 9) = .int .i64 n := hF.at 9 (by kernel_rfl)
        have e24 : ac.eval (.tmp 24) = .bool true := hP 1 (by kernel_rfl)
        exact rop_move _ rfl e9 (wanted_of (j := 1) (b := true) rfl rfl e24) (hK _ _ (le8_refl _) rfl)
      · intro ac w' hF hL hP hU K hK
        have hB : Below _ _ _ := hL
        have e25 : ac.eval (.tmp 25) = sumV a := hP 2 (by kernel_rfl)
        have e26 : ac.eval (.tmp 26) = .int .i64 n := hP 3 (by kernel_rfl)
        have e27 : ac.eval (.tmp 27) = sumV b := hP 4 (by kernel_rfl)
        have e28 : ac.eval (.tmp 28) = .int .i64 n := hP 5 (by kernel_rfl)
        have e24 : ac.eval (.tmp 24) = .bool true := hP 1 (by kernel_rfl)
        refine rop_call 17 _ _ rfl #[sumV a, .int .i64 n, sumV b, .int .i64 n, .slice none 0 0] (by simp [e25, e26, e27, e28, eval_const]) (by kernel_rfl) (wanted_of (j := 1) (b := true) rfl rfl e24) ?_
        refine (HG1.out w' hB).mono ?_
        rintro e w2 ⟨rfl, hb⟩
        exact ⟨_, rfl, hK _ _ hb rfl⟩
      · intro ac w' hF hL hP hU K hK
        have hB : Below _ _ _ := hL
        have e10 : ac.eval (.tmp 10) = .bool false := hF.at 10 (by kernel_rfl)
        have e24 : ac.eval (.tmp 24) = .bool true := hP 1 (by kernel_rfl)
        exact rop_move _ rfl e10 (wanted_of (j := 1) (b := true) rfl rfl e24) (hK _ _ (le8_refl _) rfl)
      · intro ac w' hF hL hP hU K hK
        have hB : Below _ _ _ := hL
        have e30 : ac.eval (.tmp 30) = .bool false := hP 7 (by kernel_rfl)
        have e24 : ac.eval (.tmp 24) = .bool true := hP 1 (by kernel_rfl)
        exact rop_move _ rfl e30 (wanted_of (j := 1) (b := true) rfl rfl e24) (hK _ _ (le8_refl _) rfl)
      · intro ac w' hF hL hP hU K hK
        have hB : Below _ _ _ := hL
        have e31 : ac.eval (.tmp 31) = .bool false := hP 8 (by kernel_rfl)
        exact rop_offG (j := 8) (b := true) rfl rfl e31 (by decide) (hK _ _ (le8_refl _) trivial)
      · intro ac w' hF hL hP hU K hK
        have hB : Below _ _ _ := hL
        have e31 : ac.eval (.tmp 31) = .bool false := hP 8 (by kernel_rfl)
        exact rop_offG (j := 8) (b := true) rfl rfl e31 (by decide) (hK _ _ (le8_refl _) trivial)
      · intro ac w' hF hL hP hU K hK
        have hB : Below _ _ _ := hL
        have e31 : ac.eval (.tmp 31) = .bool false := hP 8 (by kernel_rfl)
        exact rop_offG (j := 8) (b := true) rfl rfl e31 (by decide) (hK _ _ (le8_refl _) trivial)
      · intro ac w' hF hL hP hU K hK
        have hB : Below _ _ _ := hL
        have e31 : ac.eval (.tmp 31) = .bool false := hP 8 (by kernel_rfl)
        have e24 : ac.eval (.tmp 24) = .bool true := hP 1 (by kernel_rfl)
        exact rop_pick _ _ _ rfl false e31 (by rfl) (wanted_of (j := 1) (b := true) rfl rfl e24) (hK _ _ (le8_refl _) rfl)
      · intro ac w' hF hL hP hU K hK
        have hB : Below _ _ _ := hL
        have e29 : ac.eval (.tmp 29) = .bool false := hP 6 (by kernel_rfl)
        have e35 : ac.eval (.tmp 35) = .bool false := hP 12 (by kernel_rfl)
        have e24 : ac.eval (.tmp 24) = .bool true := hP 1 (by kernel_rfl)
        exact rop_bin _ _ _ _ _ rfl e29 e35 (guard_bool _ _ _ _ _ _ w') (eql_bool_sameP false w') (wanted_of (j := 1) (b := true) rfl rfl e24) (hK _ _ (le8_refl _) rfl)
      · intro ac w' hF hL hP hU K hK
        have hB : Below _ _ _ := hL
        have e24 : ac.eval (.tmp 24) = .bool true := hP 1 (by kernel_rfl)
        have e36 : ac.eval (.tmp 36) = .bool true := hP 13 (by kernel_rfl)
        exact rop_pick _ _ _ rfl true e24 (by simpa using e36) (wanted_none rfl) (hK _ _ (le8_refl _) rfl)
      · intro ac w' hF hL hP hU K hK
        have hB : Below _ _ _ := hL
        have e37 : ac.eval (.tmp 37) = .bool true := hP 14 (by kernel_rfl)
        exact rop_move _ rfl e37 (wanted_none rfl) (hK _ _ (le8_refl _) rfl)
      · intro ac w' hF hL hP hU K hK
        have hB : Below _ _ _ := hL
        have e8 : ac.eval (.tmp 8) = .slice ap k cp := hF.at 8 (by kernel_rfl)
        have e38 : ac.eval (.tmp 38) = .bool true := hP 15 (by kernel_rfl)
        exact rop_move _ rfl e8 (wanted_of (j := 15) (b := true) rfl rfl e38) (hK _ _ (le8_refl _) rfl)
      · intro ac w' hF hL hP hU K hK
        have hB : Below _ _ _ := hL
        have e39 : ac.eval (.tmp 39) = .slice ap k cp := hP 16 (by kernel_rfl)
        have e38 : ac.eval (.tmp 38) = .bool true := hP 15 (by kernel_rfl)
        exact rop_lenG _ Tryd.underlying25 rfl e39 (wanted_of (j := 15) (b := true) rfl rfl e38) (hK _ _ (le8_refl _) rfl)
      · intro ac w' hF hL hP hU K hK
        have hB : Below _ _ _ := hL
        have e40 : ac.eval (.tmp 40) = .int .i64 (k : Int) := hP 17 (by kernel_rfl)
        have e38 : ac.eval (.tmp 38) = .bool true := hP 15 (by kernel_rfl)
        exact rop_bin _ _ _ _ _ rfl e40 rfl (guard_int _ _ _ _ _ _ _ w') (eql_iG _ _ _ (decide_eq_true hz) w') (wanted_of (j := 15) (b := true) rfl rfl e38) (hK _ _ (le8_refl _) rfl)
      · intro ac w' hF hL hP hU K hK
        have hB : Below _ _ _ := hL
        have e41 : ac.eval (.tmp 41) = .bool true := hP 18 (by kernel_rfl)
        have e38 : ac.eval (.tmp 38) = .bool true := hP 15 (by kernel_rfl)
        exact rop_move _ rfl e41 (wanted_of (j := 15) (b := true) rfl rfl e38) (hK _ _ (le8_refl _) rfl)
      · intro ac w' hF hL hP hU K hK
        have hB : Below _ _ _ := hL
        have e42 : ac.eval (.tmp 42) = .bool true := hP 19 (by kernel_rfl)
        exact rop_offG (j := 19) (b := false) rfl rfl e42 (by decide) (hK _ _ (le8_refl _) trivial)
      · intro ac w' hF hL hP hU K hK
        have hB : Below _ _ _ := hL
        have e42 : ac.eval (.tmp 42) = .bool true := hP 19 (by kernel_rfl)
        exact rop_offG (j := 19) (b := false) rfl rfl e42 (by decide) (hK _ _ (le8_refl _) trivial)
      · intro ac w' hF hL hP hU K hK
        have hB : Below _ _ _ := hL
        have e42 : ac.eval (.tmp 42) = .bool true := hP 19 (by kernel_rfl)
        exact rop_offG (j := 19) (b := false) rfl rfl e42 (by decide) (hK _ _ (le8_refl _) trivial)
      · intro ac w' hF hL hP hU K hK
        have hB : Below _ _ _ := hL
        have e42 : ac.eval (.tmp 42) = .bool true := hP 19 (by kernel_rfl)
        exact rop_offG (j := 19) (b := false) rfl rfl e42 (by decide) (hK _ _ (le8_refl _) trivial)
      · intro ac w' hF hL hP hU K hK
        have hB : Below _ _ _ := hL
        have e42 : ac.eval (.tmp 42) = .bool true := hP 19 (by kernel_rfl)
        exact rop_offG (j := 19) (b := false) rfl rfl e42 (by decide) (hK _ _ (le8_refl _) trivial)
      · intro ac w' hF hL hP hU K hK
        have hB : Below _ _ _ := hL
        have e42 : ac.eval (.tmp 42) = .bool true := hP 19 (by kernel_rfl)
        exact rop_offG (j := 19) (b := false) rfl rfl e42 (by decide) (hK _ _ (le8_refl _) trivial)
      · intro ac w' hF hL hP hU K hK
        have hB : Below _ _ _ := hL
        have e42 : ac.eval (.tmp 42) = .bool true := hP 19 (by kernel_rfl)
        exact rop_offG (j := 19) (b := false) rfl rfl e42 (by decide) (hK _ _ (le8_refl _) trivial)
      · intro ac w' hF hL hP hU K hK
        have hB : Below _ _ _ := hL
        have e42 : ac.eval (.tmp 42) = .bool true := hP 19 (by kernel_rfl)
        have e38 : ac.eval (.tmp 38) = .bool true := hP 15 (by kernel_rfl)
        exact rop_pick _ _ _ rfl true e42 (by rfl) (wanted_of (j := 15) (b := true) rfl rfl e38) (hK _ _ (le8_refl _) rfl)
      · intro ac w' hF hL hP hU K hK
        have hB : Below _ _ _ := hL
        have e38 : ac.eval (.tmp 38) = .bool true := hP 15 (by kernel_rfl)
        have e50 : ac.eval (.tmp 50) = .bool true := hP 27 (by kernel_rfl)
        exact rop_pick _ _ _ rfl true e38 (by simpa using e50) (wanted_none rfl) (hK _ _ (le8_refl _) rfl)
      · intro ac w' hF hL hP hU K hK
        have hB : Below _ _ _ := hL
        have e51 : ac.eval (.tmp 51) = .bool true := hP 28 (by kernel_rfl)
        exact rop_assign _ rfl e51 (wanted_none rfl) (hK _ _ (le8_refl _) rfl)
      · intro ac w' hF hB hT
        have e51 : ac.eval (.tmp 51) = .bool true := hT 28 (by decide)
        have e6 : ac.eval (.tmp 6) = .bool true := hT 29 (by decide)
        rw [hF.setsG [23, 24, 25, 26, 27, 28, 29, 30, 31, 32, 33, 34, 35, 36, 37, 38, 39, 40, 41, 42, 43, 44, 45, 46, 47, 48, 49, 50, 51, 6] (by kernel_rfl)]
        simp only [List.foldl_cons, List.foldl_nil, List.setIfInBounds_toArray, List.set_cons_succ, List.set_cons_zero, e51, e6]
        generalize ac.eval (.tmp 23) = u23
        generalize ac.eval (.tmp 24) = u24
        generalize ac.eval (.tmp 25) = u25
        generalize ac.eval (.tmp 26) = u26
        generalize ac.eval (.tmp 27) = u27
        generalize ac.eval (.tmp 28) = u28
        generalize ac.eval (.tmp 29) = u29
        generalize ac.eval (.tmp 30) = u30
        generalize ac.eval (.tmp 31) = u31
        generalize ac.eval (.tmp 32) = u32
        generalize ac.eval (.tmp 33) = u33
        generalize ac.eval (.tmp 34) = u34
        generalize ac.eval (.tmp 35) = u35
        generalize ac.eval (.tmp 36) = u36
        generalize ac.eval (.tmp 37) = u37
        generalize ac.eval (.tmp 38) = u38
        generalize ac.eval (.tmp 39) = u39
        generalize ac.eval (.tmp 40) = u40
        generalize ac.eval (.tmp 41) = u41
        generalize ac.eval (.tmp 42) = u42
        generalize ac.eval (.tmp 43) = u43
        generalize ac.eval (.tmp 44) = u44
        generalize ac.eval (.tmp 45) = u45
        generalize ac.eval (.tmp 46) = u46
        generalize ac.eval (.tmp 47) = u47
        generalize ac.eval (.tmp 48) = u48
        generalize ac.eval (.tmp 49) = u49
        generalize ac.eval (.tmp 50) = u50
        clear e51 e6 hT hF ac
        have HF := Lib.hid (below_step HB2.out (Nat.le_refl _) hB)
        clear hB hz
        go_wp2
        go_ret
        exact ⟨rfl, HF.out⟩
    · skip
      try simp only [Act.put]
      refine wp_region_tab0 [RT.is (.bool true), RT.is (.bool true), RT.is (sumV a), RT.is (.int .i64 n), RT.is (sumV b), RT.is (.int .i64 n), RT.is (.bool false), RT.is (.bool false), RT.is (.bool false), RT.any, RT.any, RT.any, RT.is (.bool false), RT.is (.bool true), RT.is (.bool true), RT.is (.bool true), RT.is (.slice ap k cp), RT.is (.int .i64 (k : Int)), RT.is (.bool false), RT.is (.bool false), RT.is (sumV a), RT.is (.int .i64 n), RT.is (sumV a), RT.is (.int .i64 n), RT.is (.slice ap k cp), RT.is (.bool false), RT.is (.bool true), RT.is (.bool true), RT.is (.bool true), RT.is (.bool true)] (by kernel_rfl) (by kernel_rfl) (by kernel_rfl) ⟨?_, ?_, ?_, ?_, ?_, ?_, ?_, ?_, ?_, ?_, ?_, ?_, ?_, ?_, ?_, ?_, ?_, ?_, ?_, ?_, ?_, ?_, ?_, ?_, ?_, ?_, ?_, ?_, ?_, ?_, trivial⟩ ?_
      · intro ac w' hF hL hP hU K hK
        have hB : Below _ _ _ := hL
        have e7 : ac.eval (.tmp 7) = .bool true := hF.at 7 (by kernel_rfl)
        exact rop_move _ rfl e7 (wanted_none rfl) (hK _ _ (le8_refl _) rfl)
      · intro ac w' hF hL hP hU K hK
        have hB : Below _ _ _ := hL
        have e23 : ac.eval (.tmp 23) = .bool true := hP 0 (by kernel_rfl)
        exact rop_move _ rfl e23 (wanted_none rfl) (hK _ _ (le8_refl _) rfl)
      · intro ac w' hF hL hP hU K hK
        have hB : Below _ _ _ := hL
        have e3 : ac.eval (.tmp 3) = .pointer (some ⟨q3, 0, none⟩) := hF.at 3 (by kernel_rfl)
        have e24 : ac.eval (.tmp 24) = .bool true := hP 1 (by kernel_rfl)
        exact rop_ld _ _ rfl e3 (load_sumP HAl.out (range_var (IsH.old Jq3.out hB))) (wanted_of (j := 1) (b := true) rfl rfl e24) (hK _ _ (le8_refl _) rfl)
      · intro ac w' hF hL hP hU K hK
        have hB : Below _ _ _ := hL
        have e9 : ac.eval (.tmp 9) = .int .i64 n := hF.at 9 (by kernel_rfl)
        have e24 : ac.eval (.tmp 24) = .bool true := hP 1 (by kernel_rfl)
        exact rop_move _ rfl e9 (wanted_of (j := 1) (b := true) rfl rfl e24) (hK _ _ (le8_refl _) rfl)
      · intro ac w' hF hL hP hU K hK
        have hB : Below _ _ _ := hL
        have e4 : ac.eval (.tmp 4) = .pointer (some ⟨q4, 0, none⟩) := hF.at 4 (by kernel_rfl)
        have e24 : ac.eval (.tmp 24) = .bool true := hP 1 (by kernel_rfl)
        exact rop_ld _ _ rfl e4 (load_sumP HBl.out (range_var (IsH.old Jq4.out hB))) (wanted_of (j := 1) (b := true) rfl rfl e24) (hK _ _ (le8_refl _) rfl)
      · intro ac w' hF hL hP hU K hK
        have hB : Below _ _ _ := hL
        have e9 : ac.eval (.tmp 9) = .int .i64 n := hF.at 9 (by kernel_rfl)
        have e24 : ac.eval (.tmp 24) = .bool true := hP 1 (by kernel_rfl)
        exact rop_move _ rfl e9 (wanted_of (j := 1) (b := true) rfl rfl e24) (hK _ _ (le8_refl _) rfl)
      · intro ac w' hF hL hP hU K hK
        have hB : Below _ _ _ := hL
        have e25 : ac.eval (.tmp 25) = sumV a := hP 2 (by kernel_rfl)
        have e26 : ac.eval (.tmp 26) = .int .i64 n := hP 3 (by kernel_rfl)
        have e27 : ac.eval (.tmp 27) = sumV b := hP 4 (by kernel_rfl)
        have e28 : ac.eval (.tmp 28) = .int .i64 n := hP 5 (by kernel_rfl)
        have e24 : ac.eval (.tmp 24) = .bool true := hP 1 (by kernel_rfl)
        refine rop_call 17 _ _ rfl #[sumV a, .int .i64 n, sumV b, .int .i64 n, .slice none 0 0] (by simp [e25, e26, e27, e28, eval_const]) (by kernel_rfl) (wanted_of (j := 1) (b := true) rfl rfl e24) ?_
        refine (HG1.out w' hB).mono ?_
        rintro e w2 ⟨rfl, hb⟩
        exact ⟨_, rfl, hK _ _ hb rfl⟩
      · intro ac w' hF hL hP hU K hK
        have hB : Below _ _ _ := hL
        have e10 : ac.eval (.tmp 10) = .bool false := hF.at 10 (by kernel_rfl)
        have e24 : ac.eval (.tmp 24) = .bool true := hP 1 (by kernel_rfl)
        exact rop_move _ rfl e10 (wanted_of (j := 1) (b := true) rfl rfl e24) (hK _ _ (le8_refl _) rfl)
      · intro ac w' hF hL hP hU K hK
        have hB : Below _ _ _ := hL
        have e30 : ac.eval (.tmp 30) = .bool false := hP 7 (by kernel_rfl)
        have e24 : ac.eval (.tmp 24) = .bool true := hP 1 (by kernel_rfl)
        exact rop_move _ rfl e30 (wanted_of (j := 1) (b := true) rfl rfl e24) (hK _ _ (le8_refl _) rfl)
      · intro ac w' hF hL hP hU K hK
        have hB : Below _ _ _ := hL
        have e31 : ac.eval (.tmp 31) = .bool false := hP 8 (by kernel_rfl)
        exact rop_offG (j := 8) (b := true) rfl rfl e31 (by decide) (hK _ _ (le8_refl _) trivial)
      · intro ac w' hF hL hP hU K hK
        have hB : Below _ _ _ := hL
        have e31 : ac.eval (.tmp 31) = .bool false := hP 8 (by kernel_rfl)
        exact rop_offG (j := 8) (b := true) rfl rfl e31 (by decide) (hK _ _ (le8_refl _) trivial)
      · intro ac w' hF hL hP hU K hK
        have hB : Below _ _ _ := hL
        have e31 : ac.eval (.tmp 31) = .bool false := hP 8 (by kernel_rfl)
        exact rop_offG (j := 8) (b := true) rfl rfl e31 (by decide) (hK _ _ (le8_refl _) trivial)
      · intro ac w' hF hL hP hU K hK
        have hB : Below _ _ _ := hL
        have e31 : ac.eval (.tmp 31) = .bool false := hP 8 (by kernel_rfl)
        have e24 : ac.eval (.tmp 24) = .bool true := hP 1 (by kernel_rfl)
        exact rop_pick _ _ _ rfl false e31 (by rfl) (wanted_of (j := 1) (b := true) rfl rfl e24) (hK _ _ (le8_refl _) rfl)
      · intro ac w' hF hL hP hU K hK
        have hB : Below _ _ _ := hL
        have e29 : ac.eval (.tmp 29) = .bool false := hP 6 (by kernel_rfl)
        have e35 : ac.eval (.tmp 35) = .bool false := hP 12 (by kernel_rfl)
        have e24 : ac.eval (.tmp 24) = .bool true := hP 1 (by kernel_rfl)
        exact rop_bin _ _ _ _ _ rfl e29 e35 (guard_bool _ _ _ _ _ _ w') (eql_bool_sameP false w') (wanted_of (j := 1) (b := true) rfl rfl e24) (hK _ _ (le8_refl _) rfl)
      · intro ac w' hF hL hP hU K hK
        have hB : Below _ _ _ := hL
        have e24 : ac.eval (.tmp 24) = .bool true := hP 1 (by kernel_rfl)
        have e36 : ac.eval (.tmp 36) = .bool true := hP 13 (by kernel_rfl)
        exact rop_pick _ _ _ rfl true e24 (by simpa using e36) (wanted_none rfl) (hK _ _ (le8_refl _) rfl)
      · intro ac w' hF hL hP hU K hK
        have hB : Below _ _ _ := hL
        have e37 : ac.eval (.tmp 37) = .bool true := hP 14 (by kernel_rfl)
        exact rop_move _ rfl e37 (wanted_none rfl) (hK _ _ (le8_refl _) rfl)
      · intro ac w' hF hL hP hU K hK
        have hB : Below _ _ _ := hL
        have e8 : ac.eval (.tmp 8) = .slice ap k cp := hF.at 8 (by kernel_rfl)
        have e38 : ac.eval (.tmp 38) = .bool true := hP 15 (by kernel_rfl)
        exact rop_move _ rfl e8 (wanted_of (j := 15) (b := true) rfl rfl e38) (hK _ _ (le8_refl _) rfl)
      · intro ac w' hF hL hP hU K hK
        have hB : Below _ _ _ := hL
        have e39 : ac.eval (.tmp 39) = .slice ap k cp := hP 16 (by kernel_rfl)
        have e38 : ac.eval (.tmp 38) = .bool true := hP 15 (by kernel_rfl)
        exact rop_lenG _ Tryd.underlying25 rfl e39 (wanted_of (j := 15) (b := true) rfl rfl e38) (hK _ _ (le8_refl _) rfl)
      · intro ac w' hF hL hP hU K hK
        have hB : Below _ _ _ := hL
        have e40 : ac.eval (.tmp 40) = .int .i64 (k : Int) := hP 17 (by kernel_rfl)
        have e38 : ac.eval (.tmp 38) = .bool true := hP 15 (by kernel_rfl)
        exact rop_bin _ _ _ _ _ rfl e40 rfl (guard_int _ _ _ _ _ _ _ w') (eql_iG _ _ _ (decide_eq_false hz) w') (wanted_of (j := 15) (b := true) rfl rfl e38) (hK _ _ (le8_refl _) rfl)
      · intro ac w' hF hL hP hU K hK
        have hB : Below _ _ _ := hL
        have e41 : ac.eval (.tmp 41) = .bool false := hP 18 (by kernel_rfl)
        have e38 : ac.eval (.tmp 38) = .bool true := hP 15 (by kernel_rfl)
        exact rop_move _ rfl e41 (wanted_of (j := 15) (b := true) rfl rfl e38) (hK _ _ (le8_refl _) rfl)
      · intro ac w' hF hL hP hU K hK
        have hB : Below _ _ _ := hL
        have e3 : ac.eval (.tmp 3) = .pointer (some ⟨q3, 0, none⟩) := hF.at 3 (by kernel_rfl)
        have e42 : ac.eval (.tmp 42) = .bool false := hP 19 (by kernel_rfl)
        exact rop_ld _ _ rfl e3 (load_sumP HAl.out (range_var (IsH.old Jq3.out hB))) (wanted_of (j := 19) (b := false) rfl rfl e42) (hK _ _ (le8_refl _) rfl)
      · intro ac w' hF hL hP hU K hK
        have hB : Below _ _ _ := hL
        have e9 : ac.eval (.tmp 9) = .int .i64 n := hF.at 9 (by kernel_rfl)
        have e42 : ac.eval (.tmp 42) = .bool false := hP 19 (by kernel_rfl)
        exact rop_move _ rfl e9 (wanted_of (j := 19) (b := false) rfl rfl e42) (hK _ _ (le8_refl _) rfl)
      · intro ac w' hF hL hP hU K hK
        have hB : Below _ _ _ := hL
        have e3 : ac.eval (.tmp 3) = .pointer (some ⟨q3, 0, none⟩) := hF.at 3 (by kernel_rfl)
        have e42 : ac.eval (.tmp 42) = .bool false := hP 19 (by kernel_rfl)
        exact rop_ld _ _ rfl e3 (load_sumP HAl.out (range_var (IsH.old Jq3.out hB))) (wanted_of (j := 19) (b := false) rfl rfl e42) (hK _ _ (le8_refl _) rfl)
      · intro ac w' hF hL hP hU K hK
        have hB : Below _ _ _ := hL
        have e9 : ac.eval (.tmp 9) = .int .i64 n := hF.at 9 (by kernel_rfl)
        have e42 : ac.eval (.tmp 42) = .bool false := hP 19 (by kernel_rfl)
        exact rop_move _ rfl e9 (wanted_of (j := 19) (b := false) rfl rfl e42) (hK _ _ (le8_refl _) rfl)
      · intro ac w' hF hL hP hU K hK
        have hB : Below _ _ _ := hL
        have e8 : ac.eval (.tmp 8) = .slice ap k cp := hF.at 8 (by kernel_rfl)
        have e42 : ac.eval (.tmp 42) = .bool false := hP 19 (by kernel_rfl)
        exact rop_move _ rfl e8 (wanted_of (j := 19) (b := false) rfl rfl e42) (hK _ _ (le8_refl _) rfl)
      · intro ac w' hF hL hP hU K hK
        have hB : Below _ _ _ := hL
        have e43 : ac.eval (.tmp 43) = sumV a := hP 20 (by kernel_rfl)
        have e44 : ac.eval (.tmp 44) = .int .i64 n := hP 21 (by kernel_rfl)
        have e45 : ac.eval (.tmp 45) = sumV a := hP 22 (by kernel_rfl)
        have e46 : ac.eval (.tmp 46) = .int .i64 n := hP 23 (by kernel_rfl)
        have e47 : ac.eval (.tmp 47) = .slice ap k cp := hP 24 (by kernel_rfl)
        have e42 : ac.eval (.tmp 42) = .bool false := hP 19 (by kernel_rfl)
        refine rop_call 17 _ _ rfl #[sumV a, .int .i64 n, sumV a, .int .i64 n, .slice ap k cp] (by simp [e43, e44, e45, e46, e47]) (by kernel_rfl) (wanted_of (j := 19) (b := false) rfl rfl e42) ?_
        refine (HG2.out hz w' hB).mono ?_
        rintro e w2 ⟨rfl, hb⟩
        exact ⟨_, rfl, hK _ _ hb rfl⟩
      · intro ac w' hF hL hP hU K hK
        have hB : Below _ _ _ := hL
        have e48 : ac.eval (.tmp 48) = .bool false := hP 25 (by kernel_rfl)
        have e42 : ac.eval (.tmp 42) = .bool false := hP 19 (by kernel_rfl)
        exact rop_not _ _ rfl false e48 (wanted_of (j := 19) (b := false) rfl rfl e42) (hK _ _ (le8_refl _) rfl)
      · intro ac w' hF hL hP hU K hK
        have hB : Below _ _ _ := hL
        have e42 : ac.eval (.tmp 42) = .bool false := hP 19 (by kernel_rfl)
        have e49 : ac.eval (.tmp 49) = .bool true := hP 26 (by kernel_rfl)
        have e38 : ac.eval (.tmp 38) = .bool true := hP 15 (by kernel_rfl)
        exact rop_pick _ _ _ rfl false e42 (by simpa using e49) (wanted_of (j := 15) (b := true) rfl rfl e38) (hK _ _ (le8_refl _) rfl)
      · intro ac w' hF hL hP hU K hK
        have hB : Below _ _ _ := hL
        have e38 : ac.eval (.tmp 38) = .bool true := hP 15 (by kernel_rfl)
        have e50 : ac.eval (.tmp 50) = .bool true := hP 27 (by kernel_rfl)
        exact rop_pick _ _ _ rfl true e38 (by simpa using e50) (wanted_none rfl) (hK _ _ (le8_refl _) rfl)
      · intro ac w' hF hL hP hU K hK
        have hB : Below _ _ _ := hL
        have e51 : ac.eval (.tmp 51) = .bool true := hP 28 (by kernel_rfl)
        exact rop_assign _ rfl e51 (wanted_none rfl) (hK _ _ (le8_refl _) rfl)
      · intro ac w' hF hB hT
        have e51 : ac.eval (.tmp 51) = .bool true := hT 28 (by decide)
        have e6 : ac.eval (.tmp 6) = .bool true := hT 29 (by decide)
        rw [hF.setsG [23, 24, 25, 26, 27, 28, 29, 30, 31, 32, 33, 34, 35, 36, 37, 38, 39, 40, 41, 42, 43, 44, 45, 46, 47, 48, 49, 50, 51, 6] (by kernel_rfl)]
        simp only [List.foldl_cons, List.foldl_nil, List.setIfInBounds_toArray, List.set_cons_succ, List.set_cons_zero, e51, e6]
        generalize ac.eval (.tmp 23) = u23
        generalize ac.eval (.tmp 24) = u24
        generalize ac.eval (.tmp 25) = u25
        generalize ac.eval (.tmp 26) = u26
        generalize ac.eval (.tmp 27) = u27
        generalize ac.eval (.tmp 28) = u28
        generalize ac.eval (.tmp 29) = u29
        generalize ac.eval (.tmp 30) = u30
        generalize ac.eval (.tmp 31) = u31
        generalize ac.eval (.tmp 32) = u32
        generalize ac.eval (.tmp 33) = u33
        generalize ac.eval (.tmp 34) = u34
        generalize ac.eval (.tmp 35) = u35
        generalize ac.eval (.tmp 36) = u36
        generalize ac.eval (.tmp 37) = u37
        generalize ac.eval (.tmp 38) = u38
        generalize ac.eval (.tmp 39) = u39
        generalize ac.eval (.tmp 40) = u40
        generalize ac.eval (.tmp 41) = u41
        generalize ac.eval (.tmp 42) = u42
        generalize ac.eval (.tmp 43) = u43
        generalize ac.eval (.tmp 44) = u44
        generalize ac.eval (.tmp 45) = u45
        generalize ac.eval (.tmp 46) = u46
        generalize ac.eval (.tmp 47) = u47
        generalize ac.eval (.tmp 48) = u48
        generalize ac.eval (.tmp 49) = u49
        generalize ac.eval (.tmp 50) = u50
        clear e51 e6 hT hF ac
        have HF := Lib.hid (below_step HB2.out (Nat.le_refl _) hB)
        clear hB hz
        go_wp2
        go_ret
        exact ⟨rfl, HF.out⟩

set_option maxRecDepth 100000 in
theorem lifted (os : Os) (started : os.Started) (H : Type) (enc : TypeId × Value → H) :
    ReturnsInHanded {} Tryd.checked os 9 .any (fun w args => (Rows.proofSameSpec.pre enc Tryd.prog Tryd.f9 [] false w args ∧ laidMetH Tryd.prog [("scrinium/sha.k", Rows.laid_scrinium_sha_k)] w) ∧ sizedMet enc Tryd.prog Tryd.f9 (OpenSpec.ofChange Rows.proofSameSpec) false w args)
      (Rows.proofSameSpec.post enc Tryd.prog Tryd.f9 false true false false) := by
  refine returnsInHanded_of_change_and (C := Tryd.checked) (X := fun w _ => laidMetH Tryd.prog [("scrinium/sha.k", Rows.laid_scrinium_sha_k)] w) (fun _ _ _ hh h => h.of_heap hh) lawOwn started (by kernel_rfl) Tryd.func9
    (ChangeSpec.witness_shaped (enc := enc) (C := Tryd.checked) (os := os) (X := fun w _ => laidMetH Tryd.prog [("scrinium/sha.k", Rows.laid_scrinium_sha_k)] w) false (World.doorLaid Tryd.prog 400 os) #[sumV (List.replicate 32 0), sumV (List.replicate 32 0), .agg #[.int .i64 0, .slice none 0 0]] 8 rfl (World.shaped_of_RefB (by kernel_rfl) (by kernel_rfl)) (by kernel_rfl) (by kernel_rfl) (by kernel_rfl) (door_met os _)) ?_
  intro W base args ds gs before hval0 hW _ _ hL _
  have hval : ∀ (j : Nat) t v, Tryd.f9.params[j]? = some t → args[j]? = some v → Value.okWide Tryd.prog W .any base t v := hval0
  have hW' := hW
  obtain ⟨p, q, hA0, hV, rfl, hfz, hnd⟩ := hW
  have hA : DataW.TrodAll enc Tryd.prog W 0 (fun _ => true) true Tryd.f9.params.toList args.toList ds p := hA0
  rw [Tryd.params9] at hA hval
  obtain ⟨v0, vs0, d0, ds0, p0, q0, hargs, rfl, rfl, h0, r0⟩ := trodAll_cons hA
  obtain ⟨v1, vs1, d1, ds1, p1, q1, rfl, rfl, rfl, h1, r1⟩ := trodAll_cons r0
  obtain ⟨v2, vs2, d2, ds2, p2, q2, rfl, rfl, rfl, h2, r2⟩ := trodAll_cons r1
  obtain ⟨rfl, rfl, rfl⟩ := trodAll_nil r2
  obtain rfl : args = #[v0, v1, v2] := by cases args; simp_all
  obtain ⟨rfl, rfl⟩ := trodVars_none hV
  have hKT := KT_of_laid hL
  obtain ⟨x0, rfl, w0⟩ := open_sum (hval 0 23 v0 rfl rfl) h0
  obtain ⟨x1, rfl, w1⟩ := open_sum (hval 1 23 v1 rfl rfl) h1
  obtain ⟨n2, r2v, l2, rfl, w2, u2⟩ := open_rest (hval 2 52 v2 rfl rfl) h2
  clear hA0 hval0
  refine (walk (w := W) hKT x0 w0 x1 w1 n2 w2 r2v l2 u2).mono fun e W' ⟨he, bel⟩ => ?_
  subst he
  exact ⟨_, rfl, law_post rfl rfl (by kernel_rfl) hW' rfl bel⟩

theorem row_holds : Rows.ProofSameSaid :=
  OpenClaim.holds_of_wide 9 Tryd.f9 rfl rfl rfl rfl rfl rfl rfl ⟨rfl, rfl, rfl, rfl, rfl⟩ rfl rfl rfl rfl rfl (by kernel_rfl) Tryd.func9 (by kernel_rfl)
    (of_decide_eq_true (by kernel_rfl)) (by unfold Func.isWrapper; first | (rw [if_pos (by decide +kernel)]; kernel_rfl) | (rw [if_neg (by decide +kernel)]; exact ⟨rfl, rfl⟩))
    (fun os started H enc _ => lifted os started H enc)

theorem holds : Rows.ProofSameCardSaid :=
  Claim7.holds_tied_plain_at .later [] [.data] true Rows.proofSameCard.stood.harness false
    row_holds (fun _ h => by cases h) (by kernel_rfl) (fun _ h => by cases h) proofSame_row_tie rfl ⟨rfl, rfl⟩ (by kernel_rfl) rfl
    (fun f fn hf hfn => by
      obtain rfl : f = 9 := Option.some.inj ((show Tryd.prog.funcNamed "scrinium/scriniumlaw12.ProofSame" = some 9 by kernel_rfl).symm.trans hf) |>.symm
      obtain rfl : fn = Tryd.f9 := (Option.some.inj (Tryd.func9.symm.trans hfn)).symm
      exact ⟨by kernel_rfl, fun j t ht => by
        rw [Tryd.params9] at ht
        have hm : t ∈ [23, 23, 52] := by simpa using Array.mem_of_getElem? ht
        have hall : ([23, 23, 52].all fun u => !Tryd.prog.wantsStandIn u) = true := by kernel_rfl
        exact (show Tryd.prog.wantsStandIn t = false by simpa using List.all_eq_true.1 hall t hm)⟩)
    (by kernel_rfl)
end Go.Proofs.YtjdhcncjcencbaaDoor.proofSame

theorem Go.Proofs.YtjdhcncjcencbaaDoor.proofSame_holds : Go.Proofs.YtjdhcncjcencbaaDoor.Rows.ProofSameCardSaid := Go.Proofs.YtjdhcncjcencbaaDoor.proofSame.holds
#print axioms Go.Proofs.YtjdhcncjcencbaaDoor.proofSame_holds
