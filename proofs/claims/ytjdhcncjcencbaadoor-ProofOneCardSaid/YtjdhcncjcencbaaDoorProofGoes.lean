/-
  Package proof: Goes.
-/
import Derived.Test.YtjdhcncjcencbaaDoorProofBoth
import Derived.Test.YtjdhcncjcencbaaDoorMLeafL
import Derived.Test.YtjdhcncjcencbaaDoorMGen
namespace Go.Proofs.YtjdhcncjcencbaaDoor
open Go.RowKit

theorem eql_sum_ff (a b : List UInt8) (ha : a.length = 32) (hb : b.length = 32) (h : ¬ a = b) (w : World) : (binOp .eql 23 (sumV a) (sumV b)).run Tryd.prog w = .ok (.bool false) w := by
  have := eql_sum a b ha hb w
  rwa [decide_eq_false h] at this
/-- What Goes tells. -/
def goesZ (a : List UInt8) (m : Int) (b : List UInt8) (n : Int) (P : Hs) : Bool := (bothZ a m n P).2 && (decide ((bothZ a m n P).1.1 = a) && decide ((bothZ a m n P).1.2 = b))
set_option maxHeartbeats 4000000 in
set_option maxRecDepth 100000 in
theorem goes_any (a b : List UInt8) (ha : a.length = 32) (hb : b.length = 32) (m n : Int) (l1 : m ≤ 9223372036854775807) (l2 : n ≤ 9223372036854775807) (v : Value) (P : Hs) (w : World) (hv : Sums w v P) (hP : P.length ≤ 1000) (hK : KT w) :
    Calls Tryd.prog 17 #[sumV a, .int .i64 m, sumV b, .int .i64 n, v] w fun e w' => e = .returned (.bool (goesZ a m b n P)) ∧ Below w.heap.size w w' := by
  have hfz := fun u hu hk => both_any a ha m n l1 l2 v P u hu hP hk
  have hDl := bothZ_length a m n P ha hv.ok
  unfold goesZ
  obtain ⟨D1, hD1⟩ : ∃ D1, D1 = (bothZ a m n P).1.1 := ⟨_, rfl⟩
  obtain ⟨D2, hD2⟩ : ∃ D2, D2 = (bothZ a m n P).1.2 := ⟨_, rfl⟩
  obtain ⟨ok, hok⟩ : ∃ ok, ok = (bothZ a m n P).2 := ⟨_, rfl⟩
  rw [← hD1, ← hD2] at hDl hfz
  rw [← hok] at hfz
  rw [← hok, ← hD1, ← hD2]
  obtain ⟨va, cap, rfl, hlc, hcap⟩ := hv.slice
  obtain ⟨k, hk⟩ : ∃ k, k = P.length := ⟨_, rfl⟩
  rw [← hk] at hfz hv ⊢
  obtain ⟨w0, hw0⟩ : ∃ w0, w0 = (w.alloc (.cells (a.map u8V).toArray 23)).alloc (.cells (b.map u8V).toArray 23) := ⟨_, rfl⟩
  have b0 : Below w.heap.size w w0 := by rw [hw0]; exact ((Below.refl _ _).alloc (Nat.le_refl _) _).alloc (by simp) _
  have h1 : IsH a w0 w.heap.size := by
    rw [hw0]
    exact (((Below.refl (w.alloc (.cells (a.map u8V).toArray 23)).heap.size _).alloc (Nat.le_refl _) _).block w.heap.size (by simp)).trans (heap_alloc_last w _)
  have h2 : IsH b w0 (w.heap.size + 1) := by
    have := heap_alloc_last (w.alloc (.cells (a.map u8V).toArray 23)) (.cells (b.map u8V).toArray 23)
    rwa [World.size_alloc, ← hw0] at this
  have l0 : w.heap.size < w0.heap.size := (Array.getElem?_eq_some_iff.1 h1).1
  have l1' : w.heap.size + 1 < w0.heap.size := (Array.getElem?_eq_some_iff.1 h2).1
  have HFO := Lib.hid (hfz w0 (hv.old b0) (hK.old b0))
  have HB := Lib.hid b0
  have HDl1 := Lib.hid hDl.1
  have HDl2 := Lib.hid hDl.2
  have HAl := Lib.hid ha
  have HBl := Lib.hid hb
  have H1 := Lib.hid h1
  have H2 := Lib.hid h2
  clear hfz hDl hD1 hD2 hok hk ha hb h1 h2 b0 hv hK l1 l2 hP hlc hcap
  unfold sumV
  go_enter Tryd.func17, Tryd.ntmps17
  go_upto_region 1 with (fail)
  rw [← hw0]
  clear hw0
  go_upto_region 2 with (first
    | refine wpList_load_mid rfl 23 (.tmp 5) rfl w.heap.size 0 rfl (a.map u8V) _ (range_var H1.out) Tryd.underlying23 rfl (sum_info' HAl.out) ?_
    | (go_at_call 14; (refine HFO.out.mono ?_); rintro e w2 ⟨rfl, b2⟩; have z1 := Lib.hid ((b2.block _ l0).trans H1.out); have z2 := Lib.hid ((b2.block _ l1').trans H2.out); have hz0 := two_new w2 D1 HDl1.out)
    | refine wpList_store_mid rfl 23 (.tmp 11) (.tmp 20) rfl w2.heap.size 0 (D1.map u8V).toArray rfl rfl (sum_there hz0.1 HDl1.out) (sum_info HDl1.out) (sum_one D1) ?_
    | refine wpList_store_mid rfl 23 (.tmp 12) (.tmp 21) rfl (w2.heap.size + 1) 0 (D2.map u8V).toArray rfl rfl (sum_there hz0.2.1 HDl2.out) (sum_info HDl2.out) (sum_one D2) ?_)
  change Code.wp _ _ _ _ ((((w2.alloc zSum).alloc zSum).setCells w2.heap.size 0 (D1.map u8V)).setCells (w2.heap.size + 1) 0 (D2.map u8V))
  obtain ⟨W, hW⟩ : ∃ u, u = (((w2.alloc zSum).alloc zSum).setCells w2.heap.size 0 (D1.map u8V)).setCells (w2.heap.size + 1) 0 (D2.map u8V) := ⟨_, rfl⟩
  have lp : w.heap.size < w2.heap.size := Nat.lt_of_lt_of_le l0 b2.size
  have ls : w.heap.size + 1 < w2.heap.size := Nat.lt_of_lt_of_le l1' b2.size
  have k6 : Below w2.heap.size w2 W := by
    rw [hW]
    exact below_setCells (Nat.le_succ _) _ _ _ (below_setCells (Nat.le_refl _) _ _ _ (((Below.refl _ _).alloc (Nat.le_refl _) _).alloc (by simp) _))
  have z6 : IsH D1 W w2.heap.size := by rw [hW]; exact hz0.2.2.far (by omega)
  have z8 : IsH D2 W (w2.heap.size + 1) := by rw [hW]; exact set_sumP _ _ _ D2 (by simp) HDl2.out hz0.2.1
  have z7 := (k6.block _ lp).trans z1.out
  have z9 := (k6.block _ ls).trans z2.out
  have b7 := below_step (below_step HB.out (Nat.le_refl _) b2) (Nat.le_refl _) k6
  rw [← hW]
  obtain ⟨r, hr⟩ : ∃ r, r = w2.heap.size + 1 := ⟨_, rfl⟩
  obtain ⟨q, hq⟩ : ∃ q, q = w2.heap.size := ⟨_, rfl⟩
  obtain ⟨s, hs⟩ : ∃ s, s = w.heap.size + 1 := ⟨_, rfl⟩
  obtain ⟨p, hp⟩ : ∃ p, p = w.heap.size := ⟨_, rfl⟩
  rw [← hr] at z8 ⊢
  rw [← hq] at z6 ⊢
  rw [← hs] at z9 ⊢
  rw [← hp] at z7 ⊢
  have hqW := (Array.getElem?_eq_some_iff.1 z6).1
  have hpW := (Array.getElem?_eq_some_iff.1 z7).1
  have hrW := (Array.getElem?_eq_some_iff.1 z8).1
  have hsW := (Array.getElem?_eq_some_iff.1 z9).1
  have HZQ := Lib.hid z6
  have HZP := Lib.hid z7
  have HZR := Lib.hid z8
  have HZS := Lib.hid z9
  have HB7 := Lib.hid b7
  clear hr hq hs hp z6 z7 z8 z9 b7 k6 hW hz0 lp ls b2 l0 l1' z1 z2 H1 H2 HFO HB
  cases ok with
  | false =>
    have h1 : True := trivial
    try simp only [Act.put]
    refine wp_region_tab0 [RT.is (.bool false), RT.is (.bool false), RT.any, RT.any, RT.any, RT.is (.bool false), RT.is (.bool false), RT.any, RT.any, RT.any, RT.is (.bool false), RT.is (.bool false)] (by kernel_rfl) (by kernel_rfl) (by kernel_rfl) ⟨?_, ?_, ?_, ?_, ?_, ?_, ?_, ?_, ?_, ?_, ?_, ?_, trivial⟩ ?_
    · intro ac w' hF hL hP hU K hK
      have hB : Below _ _ _ := hL
      have e13 : ac.eval (.tmp 13) = .bool false := hF.at 13 (by kernel_rfl)
      exact rop_move _ rfl e13 (wanted_none rfl) (hK _ _ (le8_refl _) rfl)
    · intro ac w' hF hL hP hU K hK
      have hB : Below _ _ _ := hL
      have e23 : ac.eval (.tmp 23) = .bool false := hP 0 (by kernel_rfl)
      exact rop_move _ rfl e23 (wanted_none rfl) (hK _ _ (le8_refl _) rfl)
    · intro ac w' hF hL hP hU K hK
      have hB : Below _ _ _ := hL
      have e24 : ac.eval (.tmp 24) = .bool false := hP 1 (by kernel_rfl)
      exact rop_offG (j := 1) (b := true) rfl rfl e24 (by decide) (hK _ _ (le8_refl _) trivial)
    · intro ac w' hF hL hP hU K hK
      have hB : Below _ _ _ := hL
      have e24 : ac.eval (.tmp 24) = .bool false := hP 1 (by kernel_rfl)
      exact rop_offG (j := 1) (b := true) rfl rfl e24 (by decide) (hK _ _ (le8_refl _) trivial)
    · intro ac w' hF hL hP hU K hK
      have hB : Below _ _ _ := hL
      have e24 : ac.eval (.tmp 24) = .bool false := hP 1 (by kernel_rfl)
      exact rop_offG (j := 1) (b := true) rfl rfl e24 (by decide) (hK _ _ (le8_refl _) trivial)
    · intro ac w' hF hL hP hU K hK
      have hB : Below _ _ _ := hL
      have e24 : ac.eval (.tmp 24) = .bool false := hP 1 (by kernel_rfl)
      exact rop_pick _ _ _ rfl false e24 (by rfl) (wanted_none rfl) (hK _ _ (le8_refl _) rfl)
    · intro ac w' hF hL hP hU K hK
      have hB : Below _ _ _ := hL
      have e28 : ac.eval (.tmp 28) = .bool false := hP 5 (by kernel_rfl)
      exact rop_move _ rfl e28 (wanted_none rfl) (hK _ _ (le8_refl _) rfl)
    · intro ac w' hF hL hP hU K hK
      have hB : Below _ _ _ := hL
      have e29 : ac.eval (.tmp 29) = .bool false := hP 6 (by kernel_rfl)
      exact rop_offG (j := 6) (b := true) rfl rfl e29 (by decide) (hK _ _ (le8_refl _) trivial)
    · intro ac w' hF hL hP hU K hK
      have hB : Below _ _ _ := hL
      have e29 : ac.eval (.tmp 29) = .bool false := hP 6 (by kernel_rfl)
      exact rop_offG (j := 6) (b := true) rfl rfl e29 (by decide) (hK _ _ (le8_refl _) trivial)
    · intro ac w' hF hL hP hU K hK
      have hB : Below _ _ _ := hL
      have e29 : ac.eval (.tmp 29) = .bool false := hP 6 (by kernel_rfl)
      exact rop_offG (j := 6) (b := true) rfl rfl e29 (by decide) (hK _ _ (le8_refl _) trivial)
    · intro ac w' hF hL hP hU K hK
      have hB : Below _ _ _ := hL
      have e29 : ac.eval (.tmp 29) = .bool false := hP 6 (by kernel_rfl)
      exact rop_pick _ _ _ rfl false e29 (by rfl) (wanted_none rfl) (hK _ _ (le8_refl _) rfl)
    · intro ac w' hF hL hP hU K hK
      have hB : Below _ _ _ := hL
      have e33 : ac.eval (.tmp 33) = .bool false := hP 10 (by kernel_rfl)
      exact rop_assign _ rfl e33 (wanted_none rfl) (hK _ _ (le8_refl _) rfl)
    · intro ac w' hF hB hT
      have e28 : ac.eval (.tmp 28) = .bool false := hT 5 (by decide)
      have e33 : ac.eval (.tmp 33) = .bool false := hT 10 (by decide)
      have e10 : ac.eval (.tmp 10) = .bool false := hT 11 (by decide)
      rw [hF.setsG [23, 24, 25, 26, 27, 28, 29, 30, 31, 32, 33, 10] (by kernel_rfl)]
      simp only [List.foldl_cons, List.foldl_nil, List.setIfInBounds_toArray, List.set_cons_succ, List.set_cons_zero, e28, e33, e10]
      generalize ac.eval (.tmp 23) = u23
      generalize ac.eval (.tmp 24) = u24
      generalize ac.eval (.tmp 25) = u25
      generalize ac.eval (.tmp 26) = u26
      generalize ac.eval (.tmp 27) = u27
      generalize ac.eval (.tmp 29) = u29
      generalize ac.eval (.tmp 30) = u30
      generalize ac.eval (.tmp 31) = u31
      generalize ac.eval (.tmp 32) = u32
      clear e28 e33 e10 hT hF ac
      have HF := Lib.hid (below_step HB7.out (Nat.le_refl _) hB)
      clear hB
      go_wp2
      go_ret
      exact ⟨(by rw [Bool.false_and]; rfl), HF.out⟩
  | true =>
    by_cases h1 : D1 = a
    · have e1 := Lib.hid (decide_eq_true h1)
      try simp only [Act.put]
      refine wp_region_tab0 [RT.is (.bool true), RT.is (.bool true), RT.is (sumV D1), RT.is (sumV a), RT.is (.bool true), RT.is (.bool true), RT.is (.bool true), RT.is (sumV D2), RT.is (sumV b), RT.is (.bool (decide (D2 = b))), RT.is (.bool (decide (D2 = b))), RT.is (.bool (decide (D2 = b)))] (by kernel_rfl) (by kernel_rfl) (by kernel_rfl) ⟨?_, ?_, ?_, ?_, ?_, ?_, ?_, ?_, ?_, ?_, ?_, ?_, trivial⟩ ?_
      · intro ac w' hF hL hP hU K hK
        have hB : Below _ _ _ := hL
        have e13 : ac.eval (.tmp 13) = .bool true := hF.at 13 (by kernel_rfl)
        exact rop_move _ rfl e13 (wanted_none rfl) (hK _ _ (le8_refl _) rfl)
      · intro ac w' hF hL hP hU K hK
        have hB : Below _ _ _ := hL
        have e23 : ac.eval (.tmp 23) = .bool true := hP 0 (by kernel_rfl)
        exact rop_move _ rfl e23 (wanted_none rfl) (hK _ _ (le8_refl _) rfl)
      · intro ac w' hF hL hP hU K hK
        have hB : Below _ _ _ := hL
        have e11 : ac.eval (.tmp 11) = .pointer (some ⟨q, 0, none⟩) := hF.at 11 (by kernel_rfl)
        have e24 : ac.eval (.tmp 24) = .bool true := hP 1 (by kernel_rfl)
        exact rop_ld _ _ rfl e11 (load_sumP HDl1.out (below_range hB hqW (range_var HZQ.out))) (wanted_of (j := 1) (b := true) rfl rfl e24) (hK _ _ (le8_refl _) rfl)
      · intro ac w' hF hL hP hU K hK
        have hB : Below _ _ _ := hL
        have e5 : ac.eval (.tmp 5) = .pointer (some ⟨p, 0, none⟩) := hF.at 5 (by kernel_rfl)
        have e24 : ac.eval (.tmp 24) = .bool true := hP 1 (by kernel_rfl)
        exact rop_ld _ _ rfl e5 (load_sumP HAl.out (below_range hB hpW (range_var HZP.out))) (wanted_of (j := 1) (b := true) rfl rfl e24) (hK _ _ (le8_refl _) rfl)
      · intro ac w' hF hL hP hU K hK
        have hB : Below _ _ _ := hL
        have e25 : ac.eval (.tmp 25) = sumV D1 := hP 2 (by kernel_rfl)
        have e26 : ac.eval (.tmp 26) = sumV a := hP 3 (by kernel_rfl)
        have e24 : ac.eval (.tmp 24) = .bool true := hP 1 (by kernel_rfl)
        exact rop_bin _ _ _ _ _ rfl e25 e26 (guard_run _ _ _ _ _ w') (eql_sum_tt D1 a HDl1.out HAl.out h1 w') (wanted_of (j := 1) (b := true) rfl rfl e24) (hK _ _ (le8_refl _) rfl)
      · intro ac w' hF hL hP hU K hK
        have hB : Below _ _ _ := hL
        have e24 : ac.eval (.tmp 24) = .bool true := hP 1 (by kernel_rfl)
        have e27 : ac.eval (.tmp 27) = .bool true := hP 4 (by kernel_rfl)
        exact rop_pick _ _ _ rfl true e24 (by simpa using e27) (wanted_none rfl) (hK _ _ (le8_refl _) rfl)
      · intro ac w' hF hL hP hU K hK
        have hB : Below _ _ _ := hL
        have e28 : ac.eval (.tmp 28) = .bool true := hP 5 (by kernel_rfl)
        exact rop_move _ rfl e28 (wanted_none rfl) (hK _ _ (le8_refl _) rfl)
      · intro ac w' hF hL hP hU K hK
        have hB : Below _ _ _ := hL
        have e12 : ac.eval (.tmp 12) = .pointer (some ⟨r, 0, none⟩) := hF.at 12 (by kernel_rfl)
        have e29 : ac.eval (.tmp 29) = .bool true := hP 6 (by kernel_rfl)
        exact rop_ld _ _ rfl e12 (load_sumP HDl2.out (below_range hB hrW (range_var HZR.out))) (wanted_of (j := 6) (b := true) rfl rfl e29) (hK _ _ (le8_refl _) rfl)
      · intro ac w' hF hL hP hU K hK
        have hB : Below _ _ _ := hL
        have e7 : ac.eval (.tmp 7) = .pointer (some ⟨s, 0, none⟩) := hF.at 7 (by kernel_rfl)
        have e29 : ac.eval (.tmp 29) = .bool true := hP 6 (by kernel_rfl)
        exact rop_ld _ _ rfl e7 (load_sumP HBl.out (below_range hB hsW (range_var HZS.out))) (wanted_of (j := 6) (b := true) rfl rfl e29) (hK _ _ (le8_refl _) rfl)
      · intro ac w' hF hL hP hU K hK
        have hB : Below _ _ _ := hL
        have e30 : ac.eval (.tmp 30) = sumV D2 := hP 7 (by kernel_rfl)
        have e31 : ac.eval (.tmp 31) = sumV b := hP 8 (by kernel_rfl)
        have e29 : ac.eval (.tmp 29) = .bool true := hP 6 (by kernel_rfl)
        exact rop_bin _ _ _ _ _ rfl e30 e31 (guard_run _ _ _ _ _ w') (eql_sum D2 b HDl2.out HBl.out w') (wanted_of (j := 6) (b := true) rfl rfl e29) (hK _ _ (le8_refl _) rfl)
      · intro ac w' hF hL hP hU K hK
        have hB : Below _ _ _ := hL
        have e29 : ac.eval (.tmp 29) = .bool true := hP 6 (by kernel_rfl)
        have e32 : ac.eval (.tmp 32) = .bool (decide (D2 = b)) := hP 9 (by kernel_rfl)
        exact rop_pick _ _ _ rfl true e29 (by simpa using e32) (wanted_none rfl) (hK _ _ (le8_refl _) rfl)
      · intro ac w' hF hL hP hU K hK
        have hB : Below _ _ _ := hL
        have e33 : ac.eval (.tmp 33) = .bool (decide (D2 = b)) := hP 10 (by kernel_rfl)
        exact rop_assign _ rfl e33 (wanted_none rfl) (hK _ _ (le8_refl _) rfl)
      · intro ac w' hF hB hT
        have e28 : ac.eval (.tmp 28) = .bool true := hT 5 (by decide)
        have e33 : ac.eval (.tmp 33) = .bool (decide (D2 = b)) := hT 10 (by decide)
        have e10 : ac.eval (.tmp 10) = .bool (decide (D2 = b)) := hT 11 (by decide)
        rw [hF.setsG [23, 24, 25, 26, 27, 28, 29, 30, 31, 32, 33, 10] (by kernel_rfl)]
        simp only [List.foldl_cons, List.foldl_nil, List.setIfInBounds_toArray, List.set_cons_succ, List.set_cons_zero, e28, e33, e10]
        generalize ac.eval (.tmp 23) = u23
        generalize ac.eval (.tmp 24) = u24
        generalize ac.eval (.tmp 25) = u25
        generalize ac.eval (.tmp 26) = u26
        generalize ac.eval (.tmp 27) = u27
        generalize ac.eval (.tmp 29) = u29
        generalize ac.eval (.tmp 30) = u30
        generalize ac.eval (.tmp 31) = u31
        generalize ac.eval (.tmp 32) = u32
        clear e28 e33 e10 hT hF ac
        have HF := Lib.hid (below_step HB7.out (Nat.le_refl _) hB)
        clear hB
        go_wp2
        go_ret
        exact ⟨(by rw [Bool.true_and, e1.out, Bool.true_and]; rfl), HF.out⟩
    · have e1 := Lib.hid (decide_eq_false h1)
      try simp only [Act.put]
      refine wp_region_tab0 [RT.is (.bool true), RT.is (.bool true), RT.is (sumV D1), RT.is (sumV a), RT.is (.bool false), RT.is (.bool false), RT.is (.bool false), RT.any, RT.any, RT.any, RT.is (.bool false), RT.is (.bool false)] (by kernel_rfl) (by kernel_rfl) (by kernel_rfl) ⟨?_, ?_, ?_, ?_, ?_, ?_, ?_, ?_, ?_, ?_, ?_, ?_, trivial⟩ ?_
      · intro ac w' hF hL hP hU K hK
        have hB : Below _ _ _ := hL
        have e13 : ac.eval (.tmp 13) = .bool true := hF.at 13 (by kernel_rfl)
        exact rop_move _ rfl e13 (wanted_none rfl) (hK _ _ (le8_refl _) rfl)
      · intro ac w' hF hL hP hU K hK
        have hB : Below _ _ _ := hL
        have e23 : ac.eval (.tmp 23) = .bool true := hP 0 (by kernel_rfl)
        exact rop_move _ rfl e23 (wanted_none rfl) (hK _ _ (le8_refl _) rfl)
      · intro ac w' hF hL hP hU K hK
        have hB : Below _ _ _ := hL
        have e11 : ac.eval (.tmp 11) = .pointer (some ⟨q, 0, none⟩) := hF.at 11 (by kernel_rfl)
        have e24 : ac.eval (.tmp 24) = .bool true := hP 1 (by kernel_rfl)
        exact rop_ld _ _ rfl e11 (load_sumP HDl1.out (below_range hB hqW (range_var HZQ.out))) (wanted_of (j := 1) (b := true) rfl rfl e24) (hK _ _ (le8_refl _) rfl)
      · intro ac w' hF hL hP hU K hK
        have hB : Below _ _ _ := hL
        have e5 : ac.eval (.tmp 5) = .pointer (some ⟨p, 0, none⟩) := hF.at 5 (by kernel_rfl)
        have e24 : ac.eval (.tmp 24) = .bool true := hP 1 (by kernel_rfl)
        exact rop_ld _ _ rfl e5 (load_sumP HAl.out (below_range hB hpW (range_var HZP.out))) (wanted_of (j := 1) (b := true) rfl rfl e24) (hK _ _ (le8_refl _) rfl)
      · intro ac w' hF hL hP hU K hK
        have hB : Below _ _ _ := hL
        have e25 : ac.eval (.tmp 25) = sumV D1 := hP 2 (by kernel_rfl)
        have e26 : ac.eval (.tmp 26) = sumV a := hP 3 (by kernel_rfl)
        have e24 : ac.eval (.tmp 24) = .bool true := hP 1 (by kernel_rfl)
        exact rop_bin _ _ _ _ _ rfl e25 e26 (guard_run _ _ _ _ _ w') (eql_sum_ff D1 a HDl1.out HAl.out h1 w') (wanted_of (j := 1) (b := true) rfl rfl e24) (hK _ _ (le8_refl _) rfl)
      · intro ac w' hF hL hP hU K hK
        have hB : Below _ _ _ := hL
        have e24 : ac.eval (.tmp 24) = .bool true := hP 1 (by kernel_rfl)
        have e27 : ac.eval (.tmp 27) = .bool false := hP 4 (by kernel_rfl)
        exact rop_pick _ _ _ rfl true e24 (by simpa using e27) (wanted_none rfl) (hK _ _ (le8_refl _) rfl)
      · intro ac w' hF hL hP hU K hK
        have hB : Below _ _ _ := hL
        have e28 : ac.eval (.tmp 28) = .bool false := hP 5 (by kernel_rfl)
        exact rop_move _ rfl e28 (wanted_none rfl) (hK _ _ (le8_refl _) rfl)
      · intro ac w' hF hL hP hU K hK
        have hB : Below _ _ _ := hL
        have e29 : ac.eval (.tmp 29) = .bool false := hP 6 (by kernel_rfl)
        exact rop_offG (j := 6) (b := true) rfl rfl e29 (by decide) (hK _ _ (le8_refl _) trivial)
      · intro ac w' hF hL hP hU K hK
        have hB : Below _ _ _ := hL
        have e29 : ac.eval (.tmp 29) = .bool false := hP 6 (by kernel_rfl)
        exact rop_offG (j := 6) (b := true) rfl rfl e29 (by decide) (hK _ _ (le8_refl _) trivial)
      · intro ac w' hF hL hP hU K hK
        have hB : Below _ _ _ := hL
        have e29 : ac.eval (.tmp 29) = .bool false := hP 6 (by kernel_rfl)
        exact rop_offG (j := 6) (b := true) rfl rfl e29 (by decide) (hK _ _ (le8_refl _) trivial)
      · intro ac w' hF hL hP hU K hK
        have hB : Below _ _ _ := hL
        have e29 : ac.eval (.tmp 29) = .bool false := hP 6 (by kernel_rfl)
        exact rop_pick _ _ _ rfl false e29 (by rfl) (wanted_none rfl) (hK _ _ (le8_refl _) rfl)
      · intro ac w' hF hL hP hU K hK
        have hB : Below _ _ _ := hL
        have e33 : ac.eval (.tmp 33) = .bool false := hP 10 (by kernel_rfl)
        exact rop_assign _ rfl e33 (wanted_none rfl) (hK _ _ (le8_refl _) rfl)
      · intro ac w' hF hB hT
        have e28 : ac.eval (.tmp 28) = .bool false := hT 5 (by decide)
        have e33 : ac.eval (.tmp 33) = .bool false := hT 10 (by decide)
        have e10 : ac.eval (.tmp 10) = .bool false := hT 11 (by decide)
        rw [hF.setsG [23, 24, 25, 26, 27, 28, 29, 30, 31, 32, 33, 10] (by kernel_rfl)]
        simp only [List.foldl_cons, List.foldl_nil, List.setIfInBounds_toArray, List.set_cons_succ, List.set_cons_zero, e28, e33, e10]
        generalize ac.eval (.tmp 23) = u23
        generalize ac.eval (.tmp 24) = u24
        generalize ac.eval (.tmp 25) = u25
        generalize ac.eval (.tmp 26) = u26
        generalize ac.eval (.tmp 27) = u27
        generalize ac.eval (.tmp 29) = u29
        generalize ac.eval (.tmp 30) = u30
        generalize ac.eval (.tmp 31) = u31
        generalize ac.eval (.tmp 32) = u32
        clear e28 e33 e10 hT hF ac
        have HF := Lib.hid (below_step HB7.out (Nat.le_refl _) hB)
        clear hB
        go_wp2
        go_ret
        exact ⟨(by rw [Bool.true_and, e1.out, Bool.false_and]; rfl), HF.out⟩
end Go.Proofs.YtjdhcncjcencbaaDoor
