/-
  Package twin: Leaves.
-/
import Derived.Test.YtdcebdleneieeaaDoorTwinWays
namespace Go.Proofs.YtdcebdleneieeaaDoor
open Go.RowKit

set_option maxHeartbeats 8000000 in
set_option maxRecDepth 100000 in
theorem Leaves_any (x y : List UInt8) (hx : x.length = 32) (hy : y.length = 32) (m n : Int) (l1 : m ≤ 9223372036854775807) (l2 : n ≤ 9223372036854775807) (v v' : Value) (A B : Hs) (w : World) (hv : Sums w v A) (hv' : Sums w v' B) (hA : A.length ≤ 1000) (hBl : B.length ≤ 1000) (hK : KT w) :
    Calls Tryd.prog 11 #[.int .i64 m, .int .i64 n, sumV x, sumV y, v, v'] w fun e w' => e = .returned (twR (leavesZ x y m n A B)) ∧ Below w.heap.size w w' := by
  obtain ⟨va, ca, rfl, -, -⟩ := hv.slice
  obtain ⟨vb, cb, rfl, -, -⟩ := hv'.slice
  obtain ⟨Dn, hDn⟩ : ∃ D, D = (foldZ x m n A).1 := ⟨_, rfl⟩
  obtain ⟨ok1, hok1⟩ : ∃ b, b = (foldZ x m n A).2 := ⟨_, rfl⟩
  obtain ⟨En, hEn⟩ : ∃ D, D = (foldZ y m n B).1 := ⟨_, rfl⟩
  obtain ⟨ok2, hok2⟩ : ∃ b, b = (foldZ y m n B).2 := ⟨_, rfl⟩
  have HDnl : Hid (Dn.length = 32) := Lib.hid (by rw [hDn]; exact foldZ_length x m n A hx)
  have HEnl : Hid (En.length = 32) := Lib.hid (by rw [hEn]; exact foldZ_length y m n B hy)
  obtain ⟨ka, hka⟩ : ∃ k, k = A.length := ⟨_, rfl⟩
  obtain ⟨kb, hkb⟩ : ∃ k, k = B.length := ⟨_, rfl⟩
  obtain ⟨L1, hL1⟩ : ∃ L, L = wayZ x m n A := ⟨_, rfl⟩
  obtain ⟨L2, hL2⟩ : ∃ L, L = wayZ y m n B := ⟨_, rfl⟩
  obtain ⟨Res, hRes⟩ : ∃ r, r = leavesZ x y m n A B := ⟨_, rfl⟩
  have hR2 : Res = if ok1 && (ok2 && decide (En = Dn)) then Tree.firstT L1 L2 else none := by
    rw [hRes, hok1, hok2, hDn, hEn, hL1, hL2]
    rfl
  rw [← hRes]
  clear hRes
  have HC1 : Hid (∀ u, Below w.heap.size w u → Calls Tryd.prog 29 #[sumV x, .int .i64 m, .int .i64 n, .slice va ka ca] u fun e w' => e = .returned (.tuple #[sumV Dn, .bool ok1]) ∧ Below u.heap.size u w') := Lib.hid fun u hu => by
    rw [hDn, hok1, hka]
    exact fold_any x hx m n l1 l2 _ A u (hv.old hu) hA (hK.old hu)
  have HC2 : Hid (∀ u, Below w.heap.size w u → Calls Tryd.prog 29 #[sumV y, .int .i64 m, .int .i64 n, .slice vb kb cb] u fun e w' => e = .returned (.tuple #[sumV En, .bool ok2]) ∧ Below u.heap.size u w') := Lib.hid fun u hu => by
    rw [hEn, hok2, hkb]
    exact fold_any y hy m n l1 l2 _ B u (hv'.old hu) hBl (hK.old hu)
  have HRI0 : Hid (∀ u, Below w.heap.size w u → Calls Tryd.prog 30 #[sumV Dn, sumV y, .int .i64 m, .int .i64 n, .slice vb kb cb] u fun e w' => e = .returned (.bool (ok2 && decide (En = Dn))) ∧ Below u.heap.size u w') := Lib.hid fun u hu => by
    rw [hok2, hEn, hkb]
    exact right_any Dn y HDnl.out hy m n l1 l2 _ B u (hv'.old hu) hBl (hK.old hu)
  have HWA1 : Hid (ok1 = true → ∀ u, Below w.heap.size w u → Calls Tryd.prog 26 #[.int .i64 m, .int .i64 n, sumV x, .slice va ka ca] u fun e w' => ∃ v', e = .returned v' ∧ Texts w' v' L1 ∧ Below u.heap.size u w') := Lib.hid fun ho u hu => by
    rw [hL1, hka]
    exact Way_any x hx m n l1 l2 _ A u (hv.old hu) hA (hK.old hu)
  have HWA2 : Hid (ok2 = true → ∀ u, Below w.heap.size w u → Calls Tryd.prog 26 #[.int .i64 m, .int .i64 n, sumV y, .slice vb kb cb] u fun e w' => ∃ v', e = .returned v' ∧ Texts w' v' L2 ∧ Below u.heap.size u w') := Lib.hid fun ho u hu => by
    rw [hL2, hkb]
    exact Way_any y hy m n l1 l2 _ B u (hv'.old hu) hBl (hK.old hu)
  have HFA : Hid (ok1 = true → ok2 = true → ∀ a b u, Below w.heap.size w u → Texts u a L1 → Texts u b L2 → Calls Tryd.prog 31 #[a, b] u fun e w' => e = .returned (twR (Tree.firstT L1 L2)) ∧ Below u.heap.size u w') := Lib.hid fun ho1 ho2 a b u hu ha hb => by
    have le1 : L1.length ≤ 1000000 := by rw [hL1]; exact Nat.le_trans wayZ_le (by omega)
    have le2 : L2.length ≤ 1000000 := by rw [hL2]; exact Nat.le_trans wayZ_le (by omega)
    have sm1 : ∀ t ∈ L1, t.length ≤ 1000000 := by rw [hL1]; exact wayZ_small hx hv.ok
    have sm2 : ∀ t ∈ L2, t.length ≤ 1000000 := by rw [hL2]; exact wayZ_small hy hv'.ok
    exact first_any a b L1 L2 u ha hb le1 le2 sm1 sm2 (hK.old hu)
  obtain ⟨w0, hw0⟩ : ∃ w0, w0 = ((w.alloc (.cells (x.map u8V).toArray 24)).alloc (.cells (y.map u8V).toArray 24)).alloc (.cells #[tV [], tV []] 32) := ⟨_, rfl⟩
  have b0 : Below w.heap.size w w0 := by rw [hw0]; exact (((Below.refl _ _).alloc (Nat.le_refl _) _).alloc (by simp) _).alloc (by simp; omega) _
  have z8 : IsH x w0 w.heap.size := by
    rw [hw0]
    exact ((((Below.refl (w.alloc (.cells (x.map u8V).toArray 24)).heap.size _).alloc (Nat.le_refl _) _).alloc (by simp) _).block w.heap.size (by simp)).trans (heap_alloc_last w _)
  have z9 : IsH y w0 (w.heap.size + 1) := by
    rw [hw0]
    refine (Below.heap_alloc _ _ _ (by simp)).trans ?_
    have := heap_alloc_last (w.alloc (.cells (x.map u8V).toArray 24)) (.cells (y.map u8V).toArray 24)
    rwa [World.size_alloc] at this
  have z12 : IsTw ([], []) w0 (w.heap.size + 1 + 1) := by
    have := heap_alloc_last ((w.alloc (.cells (x.map u8V).toArray 24)).alloc (.cells (y.map u8V).toArray 24)) (.cells #[tV [], tV []] 32)
    rwa [World.size_alloc, World.size_alloc, ← hw0] at this
  have HZ8 := Lib.hid z8
  have HZ9 := Lib.hid z9
  have HZ12 := Lib.hid z12
  have HB := Lib.hid b0
  have HXl := Lib.hid hx
  have HYl := Lib.hid hy
  have HRes := Lib.hid hR2
  rw [← hka, ← hkb]
  clear z8 z9 z12 b0 hx hy hv hv' hA hBl hK l1 l2 hok1 hok2 hka hkb hL1 hL2 hR2 hDn hEn
  unfold sumV
  go_enter Tryd.func11, Tryd.ntmps11
  go_upto_region 1 with (fail)
  change Code.wp _ _ _ _ (((w.alloc (.cells (x.map u8V).toArray 24)).alloc (.cells (y.map u8V).toArray 24)).alloc (.cells #[tV [], tV []] 32))
  rw [← hw0]
  clear hw0
  obtain ⟨q12, hq12⟩ : ∃ q, q = w.heap.size + 1 + 1 := ⟨_, rfl⟩
  rw [← hq12] at HZ12 ⊢
  have hq12w : w.heap.size ≤ q12 := by omega
  obtain ⟨q9, hq9⟩ : ∃ q, q = w.heap.size + 1 := ⟨_, rfl⟩
  rw [← hq9] at HZ9 ⊢
  obtain ⟨q8, hq8⟩ : ∃ q, q = w.heap.size := ⟨_, rfl⟩
  rw [← hq8] at HZ8 ⊢
  clear hq12 hq9 hq8
  go_upto_region 2 with (first
    | refine wpList_load_mid rfl 24 (.tmp 8) rfl q8 0 rfl (x.map u8V) _ (range_var HZ8.out) Tryd.underlying24 rfl (sum_info' HXl.out) ?_
    | (go_at_call 29; (refine (HC1.out _ HB.out).mono ?_); rintro e u1 ⟨rfl, bu1⟩; have hzu1 := heap_alloc_last u1 zSum)
    | refine wpList_store_mid rfl 24 (.tmp 14) (.tmp 22) rfl u1.heap.size 0 (Dn.map u8V).toArray rfl rfl (sum_there hzu1 HDnl.out) (sum_info HDnl.out) (sum_one Dn) ?_)
  change Code.wp _ _ _ _ ((u1.alloc zSum).setCells u1.heap.size 0 (Dn.map u8V))
  obtain ⟨nW1, kW1⟩ := var_sum u1 Dn HDnl.out
  obtain ⟨W1, hW1⟩ : ∃ u, u = (u1.alloc zSum).setCells u1.heap.size 0 (Dn.map u8V) := ⟨_, rfl⟩
  rw [← hW1] at nW1 kW1
  rw [← hW1]
  have bbW1 : Below w0.heap.size w0 W1 := below_step bu1 (Nat.le_refl _) kW1
  replace HZ8 := Lib.hid (IsH.old HZ8.out bbW1)
  replace HZ9 := Lib.hid (IsH.old HZ9.out bbW1)
  replace HZ12 := Lib.hid (HZ12.out.old bbW1)
  replace HB := Lib.hid (below_step HB.out (Nat.le_refl _) bbW1)
  obtain ⟨q14, hq14⟩ : ∃ q, q = u1.heap.size := ⟨_, rfl⟩
  rw [← hq14] at nW1 ⊢
  have HZ14 := Lib.hid nW1
  clear hW1 kW1 nW1 hq14 bu1 hzu1 bbW1
  obtain ⟨W, hW⟩ : ∃ W, W = W1 := ⟨_, rfl⟩
  subst hW
  have HBQ : Hid (Below w.heap.size w W) := HB
  clear HC1 HC2
  obtain ⟨rr, hrr⟩ : ∃ b, b = (ok2 && decide (En = Dn)) := ⟨_, rfl⟩
  rw [← hrr] at HRI0
  have HRI : Hid (∀ u, Below W.heap.size W u → Calls Tryd.prog 30 #[sumV Dn, sumV y, .int .i64 m, .int .i64 n, .slice vb kb cb] u fun e w' => e = .returned (.bool rr) ∧ Below u.heap.size u w') := Lib.hid fun u hu => HRI0.out u (below_step HB.out (Nat.le_refl _) hu)
  clear HRI0
  cases ok1 with
  | false =>
    have hzz : (if false && (ok2 && decide (En = Dn)) then Tree.firstT L1 L2 else none) = none := by rw [Bool.false_and]; rfl
    have HZZ := Lib.hid hzz
    clear hzz hrr
    try simp only [Act.put]
    refine wp_region_tab0 [RT.is (.bool false), RT.is (.bool true), RT.is (.bool true), RT.any, RT.any, RT.any, RT.any, RT.any, RT.any, RT.any, RT.is (.bool true)] (by kernel_rfl) (by kernel_rfl) (by kernel_rfl) ⟨?_, ?_, ?_, ?_, ?_, ?_, ?_, ?_, ?_, ?_, ?_, trivial⟩ ?_
    · intro ac w' hF hL hP hU K hK
      have hB : Below _ _ _ := hL
      have e15 : ac.eval (.tmp 15) = .bool false := hF.at 15 (by kernel_rfl)
      exact rop_move _ rfl e15 (wanted_none rfl) (hK _ _ (le8_refl _) rfl)
    · intro ac w' hF hL hP hU K hK
      have hB : Below _ _ _ := hL
      have e24 : ac.eval (.tmp 24) = .bool false := hP 0 (by kernel_rfl)
      exact rop_not _ _ rfl false e24 (wanted_none rfl) (hK _ _ (le8_refl _) rfl)
    · intro ac w' hF hL hP hU K hK
      have hB : Below _ _ _ := hL
      have e25 : ac.eval (.tmp 25) = .bool true := hP 1 (by kernel_rfl)
      exact rop_move _ rfl e25 (wanted_none rfl) (hK _ _ (le8_refl _) rfl)
    · intro ac w' hF hL hP hU K hK
      have hB : Below _ _ _ := hL
      have e26 : ac.eval (.tmp 26) = .bool true := hP 2 (by kernel_rfl)
      exact rop_offG (j := 2) (b := false) rfl rfl e26 (by decide) (hK _ _ (le8_refl _) trivial)
    · intro ac w' hF hL hP hU K hK
      have hB : Below _ _ _ := hL
      have e26 : ac.eval (.tmp 26) = .bool true := hP 2 (by kernel_rfl)
      exact rop_offG (j := 2) (b := false) rfl rfl e26 (by decide) (hK _ _ (le8_refl _) trivial)
    · intro ac w' hF hL hP hU K hK
      have hB : Below _ _ _ := hL
      have e26 : ac.eval (.tmp 26) = .bool true := hP 2 (by kernel_rfl)
      exact rop_offG (j := 2) (b := false) rfl rfl e26 (by decide) (hK _ _ (le8_refl _) trivial)
    · intro ac w' hF hL hP hU K hK
      have hB : Below _ _ _ := hL
      have e26 : ac.eval (.tmp 26) = .bool true := hP 2 (by kernel_rfl)
      exact rop_offG (j := 2) (b := false) rfl rfl e26 (by decide) (hK _ _ (le8_refl _) trivial)
    · intro ac w' hF hL hP hU K hK
      have hB : Below _ _ _ := hL
      have e26 : ac.eval (.tmp 26) = .bool true := hP 2 (by kernel_rfl)
      exact rop_offG (j := 2) (b := false) rfl rfl e26 (by decide) (hK _ _ (le8_refl _) trivial)
    · intro ac w' hF hL hP hU K hK
      have hB : Below _ _ _ := hL
      have e26 : ac.eval (.tmp 26) = .bool true := hP 2 (by kernel_rfl)
      exact rop_offG (j := 2) (b := false) rfl rfl e26 (by decide) (hK _ _ (le8_refl _) trivial)
    · intro ac w' hF hL hP hU K hK
      have hB : Below _ _ _ := hL
      have e26 : ac.eval (.tmp 26) = .bool true := hP 2 (by kernel_rfl)
      exact rop_offG (j := 2) (b := false) rfl rfl e26 (by decide) (hK _ _ (le8_refl _) trivial)
    · intro ac w' hF hL hP hU K hK
      have hB : Below _ _ _ := hL
      have e26 : ac.eval (.tmp 26) = .bool true := hP 2 (by kernel_rfl)
      exact rop_pick _ _ _ rfl true e26 (by rfl) (wanted_none rfl) (hK _ _ (le8_refl _) rfl)
    · intro ac w' hF hB hT
      have e34 : ac.eval (.tmp 34) = .bool true := hT 10 (by decide)
      rw [hF.setsG [24, 25, 26, 27, 28, 29, 30, 31, 32, 33, 34] (by kernel_rfl)]
      simp only [List.foldl_cons, List.foldl_nil, List.setIfInBounds_toArray, List.set_cons_succ, List.set_cons_zero, e34]
      generalize ac.eval (.tmp 24) = u24
      generalize ac.eval (.tmp 25) = u25
      generalize ac.eval (.tmp 26) = u26
      generalize ac.eval (.tmp 27) = u27
      generalize ac.eval (.tmp 28) = u28
      generalize ac.eval (.tmp 29) = u29
      generalize ac.eval (.tmp 30) = u30
      generalize ac.eval (.tmp 31) = u31
      generalize ac.eval (.tmp 32) = u32
      generalize ac.eval (.tmp 33) = u33
      clear e34 hT hF ac
      have HFB := Lib.hid (below_step HB.out (Nat.le_refl _) hB)
      have HF12 := HZ12.out.old hB
      have c40 : w'.cell? ⟨q12, 0, none⟩ = some (tV []) := HF12.c0
      have c41 : w'.cell? ⟨q12, 1, none⟩ = some (tV []) := HF12.c1
      have f40 : w'.frozen? ⟨q12, 0, none⟩ = false := fz_of HF12 0
      have f41 : w'.frozen? ⟨q12, 1, none⟩ = false := fz_of HF12 1
      have HFQ := Lib.hid HF12
      clear hB HF12
      go_wp2
      refine bodyPost_ret (results_ct (t := 12) (u := 13) (ty := 32) (b := q12) (cs := [.string ⟨#[]⟩, .string ⟨#[]⟩]) rfl _ _ _ rfl (fun j u hu => by
        rw [Nat.zero_add, cell_of (heap_set (heap_set HFQ.out _) _)]
        simpa using hu) Tryd.underlying32 rfl tw_info) rfl ⟨?_, ?_⟩
      · rw [HRes.out, HZZ.out]
        rfl
      · exact (HFB.out.setCell (p := ⟨q12, 0, none⟩) hq12w _).setCell (p := ⟨q12, 1, none⟩) hq12w _
  | true =>
    cases rr with
    | false =>
      have hzz : (if true && (ok2 && decide (En = Dn)) then Tree.firstT L1 L2 else none) = none := by rw [← hrr]; rfl
      have HZZ := Lib.hid hzz
      clear hzz hrr
      try simp only [Act.put]
      refine wp_region_tab0 [RT.is (.bool true), RT.is (.bool false), RT.is (.bool false), RT.is (sumV Dn), RT.is (sumV y), RT.is (.int .i64 m), RT.is (.int .i64 n), RT.is (.slice vb kb cb), RT.is (.bool false), RT.is (.bool true), RT.is (.bool true)] (by kernel_rfl) (by kernel_rfl) (by kernel_rfl) ⟨?_, ?_, ?_, ?_, ?_, ?_, ?_, ?_, ?_, ?_, ?_, trivial⟩ ?_
      · intro ac w' hF hL hP hU K hK
        have hB : Below _ _ _ := hL
        have e15 : ac.eval (.tmp 15) = .bool true := hF.at 15 (by kernel_rfl)
        exact rop_move _ rfl e15 (wanted_none rfl) (hK _ _ (le8_refl _) rfl)
      · intro ac w' hF hL hP hU K hK
        have hB : Below _ _ _ := hL
        have e24 : ac.eval (.tmp 24) = .bool true := hP 0 (by kernel_rfl)
        exact rop_not _ _ rfl true e24 (wanted_none rfl) (hK _ _ (le8_refl _) rfl)
      · intro ac w' hF hL hP hU K hK
        have hB : Below _ _ _ := hL
        have e25 : ac.eval (.tmp 25) = .bool false := hP 1 (by kernel_rfl)
        exact rop_move _ rfl e25 (wanted_none rfl) (hK _ _ (le8_refl _) rfl)
      · intro ac w' hF hL hP hU K hK
        have hB : Below _ _ _ := hL
        have e14 : ac.eval (.tmp 14) = .pointer (some ⟨q14, 0, none⟩) := hF.at 14 (by kernel_rfl)
        have e26 : ac.eval (.tmp 26) = .bool false := hP 2 (by kernel_rfl)
        exact rop_ld _ _ rfl e14 (load_sumP HDnl.out (range_var (IsH.old HZ14.out hB))) (wanted_of (j := 2) (b := false) rfl rfl e26) (hK _ _ (le8_refl _) rfl)
      · intro ac w' hF hL hP hU K hK
        have hB : Below _ _ _ := hL
        have e9 : ac.eval (.tmp 9) = .pointer (some ⟨q9, 0, none⟩) := hF.at 9 (by kernel_rfl)
        have e26 : ac.eval (.tmp 26) = .bool false := hP 2 (by kernel_rfl)
        exact rop_ld _ _ rfl e9 (load_sumP HYl.out (range_var (IsH.old HZ9.out hB))) (wanted_of (j := 2) (b := false) rfl rfl e26) (hK _ _ (le8_refl _) rfl)
      · intro ac w' hF hL hP hU K hK
        have hB : Below _ _ _ := hL
        have e0 : ac.eval (.tmp 0) = .int .i64 m := hF.at 0 (by kernel_rfl)
        have e26 : ac.eval (.tmp 26) = .bool false := hP 2 (by kernel_rfl)
        exact rop_move _ rfl e0 (wanted_of (j := 2) (b := false) rfl rfl e26) (hK _ _ (le8_refl _) rfl)
      · intro ac w' hF hL hP hU K hK
        have hB : Below _ _ _ := hL
        have e1 : ac.eval (.tmp 1) = .int .i64 n := hF.at 1 (by kernel_rfl)
        have e26 : ac.eval (.tmp 26) = .bool false := hP 2 (by kernel_rfl)
        exact rop_move _ rfl e1 (wanted_of (j := 2) (b := false) rfl rfl e26) (hK _ _ (le8_refl _) rfl)
      · intro ac w' hF hL hP hU K hK
        have hB : Below _ _ _ := hL
        have e5 : ac.eval (.tmp 5) = .slice vb kb cb := hF.at 5 (by kernel_rfl)
        have e26 : ac.eval (.tmp 26) = .bool false := hP 2 (by kernel_rfl)
        exact rop_move _ rfl e5 (wanted_of (j := 2) (b := false) rfl rfl e26) (hK _ _ (le8_refl _) rfl)
      · intro ac w' hF hL hP hU K hK
        have hB : Below _ _ _ := hL
        have e27 : ac.eval (.tmp 27) = sumV Dn := hP 3 (by kernel_rfl)
        have e28 : ac.eval (.tmp 28) = sumV y := hP 4 (by kernel_rfl)
        have e29 : ac.eval (.tmp 29) = .int .i64 m := hP 5 (by kernel_rfl)
        have e30 : ac.eval (.tmp 30) = .int .i64 n := hP 6 (by kernel_rfl)
        have e31 : ac.eval (.tmp 31) = .slice vb kb cb := hP 7 (by kernel_rfl)
        have e26 : ac.eval (.tmp 26) = .bool false := hP 2 (by kernel_rfl)
        refine rop_call 30 _ _ rfl #[sumV Dn, sumV y, .int .i64 m, .int .i64 n, .slice vb kb cb] (by simp [e27, e28, e29, e30, e31]) (by kernel_rfl) (wanted_of (j := 2) (b := false) rfl rfl e26) ?_
        refine (HRI.out w' hB).mono ?_
        rintro e w2 ⟨rfl, hb⟩
        exact ⟨_, rfl, hK _ _ hb rfl⟩
      · intro ac w' hF hL hP hU K hK
        have hB : Below _ _ _ := hL
        have e32 : ac.eval (.tmp 32) = .bool false := hP 8 (by kernel_rfl)
        have e26 : ac.eval (.tmp 26) = .bool false := hP 2 (by kernel_rfl)
        exact rop_not _ _ rfl false e32 (wanted_of (j := 2) (b := false) rfl rfl e26) (hK _ _ (le8_refl _) rfl)
      · intro ac w' hF hL hP hU K hK
        have hB : Below _ _ _ := hL
        have e26 : ac.eval (.tmp 26) = .bool false := hP 2 (by kernel_rfl)
        have e33 : ac.eval (.tmp 33) = .bool true := hP 9 (by kernel_rfl)
        exact rop_pick _ _ _ rfl false e26 (by simpa using e33) (wanted_none rfl) (hK _ _ (le8_refl _) rfl)
      · intro ac w' hF hB hT
        have e34 : ac.eval (.tmp 34) = .bool true := hT 10 (by decide)
        rw [hF.setsG [24, 25, 26, 27, 28, 29, 30, 31, 32, 33, 34] (by kernel_rfl)]
        simp only [List.foldl_cons, List.foldl_nil, List.setIfInBounds_toArray, List.set_cons_succ, List.set_cons_zero, e34]
        generalize ac.eval (.tmp 24) = u24
        generalize ac.eval (.tmp 25) = u25
        generalize ac.eval (.tmp 26) = u26
        generalize ac.eval (.tmp 27) = u27
        generalize ac.eval (.tmp 28) = u28
        generalize ac.eval (.tmp 29) = u29
        generalize ac.eval (.tmp 30) = u30
        generalize ac.eval (.tmp 31) = u31
        generalize ac.eval (.tmp 32) = u32
        generalize ac.eval (.tmp 33) = u33
        clear e34 hT hF ac
        have HFB := Lib.hid (below_step HB.out (Nat.le_refl _) hB)
        have HF12 := HZ12.out.old hB
        have c40 : w'.cell? ⟨q12, 0, none⟩ = some (tV []) := HF12.c0
        have c41 : w'.cell? ⟨q12, 1, none⟩ = some (tV []) := HF12.c1
        have f40 : w'.frozen? ⟨q12, 0, none⟩ = false := fz_of HF12 0
        have f41 : w'.frozen? ⟨q12, 1, none⟩ = false := fz_of HF12 1
        have HFQ := Lib.hid HF12
        clear hB HF12
        go_wp2
        refine bodyPost_ret (results_ct (t := 12) (u := 13) (ty := 32) (b := q12) (cs := [.string ⟨#[]⟩, .string ⟨#[]⟩]) rfl _ _ _ rfl (fun j u hu => by
          rw [Nat.zero_add, cell_of (heap_set (heap_set HFQ.out _) _)]
          simpa using hu) Tryd.underlying32 rfl tw_info) rfl ⟨?_, ?_⟩
        · rw [HRes.out, HZZ.out]
          rfl
        · exact (HFB.out.setCell (p := ⟨q12, 0, none⟩) hq12w _).setCell (p := ⟨q12, 1, none⟩) hq12w _
    | true =>
      have hzz : (if true && (ok2 && decide (En = Dn)) then Tree.firstT L1 L2 else none) = Tree.firstT L1 L2 := by rw [← hrr]; rfl
      have hok2 : ok2 = true := by cases ok2 with
        | true => rfl
        | false => cases hrr
      have HZZ := Lib.hid hzz
      have HO2 := Lib.hid hok2
      clear hzz hrr hok2
      try simp only [Act.put]
      refine wp_region_tab0 [RT.is (.bool true), RT.is (.bool false), RT.is (.bool false), RT.is (sumV Dn), RT.is (sumV y), RT.is (.int .i64 m), RT.is (.int .i64 n), RT.is (.slice vb kb cb), RT.is (.bool true), RT.is (.bool false), RT.is (.bool false)] (by kernel_rfl) (by kernel_rfl) (by kernel_rfl) ⟨?_, ?_, ?_, ?_, ?_, ?_, ?_, ?_, ?_, ?_, ?_, trivial⟩ ?_
      · intro ac w' hF hL hP hU K hK
        have hB : Below _ _ _ := hL
        have e15 : ac.eval (.tmp 15) = .bool true := hF.at 15 (by kernel_rfl)
        exact rop_move _ rfl e15 (wanted_none rfl) (hK _ _ (le8_refl _) rfl)
      · intro ac w' hF hL hP hU K hK
        have hB : Below _ _ _ := hL
        have e24 : ac.eval (.tmp 24) = .bool true := hP 0 (by kernel_rfl)
        exact rop_not _ _ rfl true e24 (wanted_none rfl) (hK _ _ (le8_refl _) rfl)
      · intro ac w' hF hL hP hU K hK
        have hB : Below _ _ _ := hL
        have e25 : ac.eval (.tmp 25) = .bool false := hP 1 (by kernel_rfl)
        exact rop_move _ rfl e25 (wanted_none rfl) (hK _ _ (le8_refl _) rfl)
      · intro ac w' hF hL hP hU K hK
        have hB : Below _ _ _ := hL
        have e14 : ac.eval (.tmp 14) = .pointer (some ⟨q14, 0, none⟩) := hF.at 14 (by kernel_rfl)
        have e26 : ac.eval (.tmp 26) = .bool false := hP 2 (by kernel_rfl)
        exact rop_ld _ _ rfl e14 (load_sumP HDnl.out (range_var (IsH.old HZ14.out hB))) (wanted_of (j := 2) (b := false) rfl rfl e26) (hK _ _ (le8_refl _) rfl)
      · intro ac w' hF hL hP hU K hK
        have hB : Below _ _ _ := hL
        have e9 : ac.eval (.tmp 9) = .pointer (some ⟨q9, 0, none⟩) := hF.at 9 (by kernel_rfl)
        have e26 : ac.eval (.tmp 26) = .bool false := hP 2 (by kernel_rfl)
        exact rop_ld _ _ rfl e9 (load_sumP HYl.out (range_var (IsH.old HZ9.out hB))) (wanted_of (j := 2) (b := false) rfl rfl e26) (hK _ _ (le8_refl _) rfl)
      · intro ac w' hF hL hP hU K hK
        have hB : Below _ _ _ := hL
        have e0 : ac.eval (.tmp 0) = .int .i64 m := hF.at 0 (by kernel_rfl)
        have e26 : ac.eval (.tmp 26) = .bool false := hP 2 (by kernel_rfl)
        exact rop_move _ rfl e0 (wanted_of (j := 2) (b := false) rfl rfl e26) (hK _ _ (le8_refl _) rfl)
      · intro ac w' hF hL hP hU K hK
        have hB : Below _ _ _ := hL
        have e1 : ac.eval (.tmp 1) = .int .i64 n := hF.at 1 (by kernel_rfl)
        have e26 : ac.eval (.tmp 26) = .bool false := hP 2 (by kernel_rfl)
        exact rop_move _ rfl e1 (wanted_of (j := 2) (b := false) rfl rfl e26) (hK _ _ (le8_refl _) rfl)
      · intro ac w' hF hL hP hU K hK
        have hB : Below _ _ _ := hL
        have e5 : ac.eval (.tmp 5) = .slice vb kb cb := hF.at 5 (by kernel_rfl)
        have e26 : ac.eval (.tmp 26) = .bool false := hP 2 (by kernel_rfl)
        exact rop_move _ rfl e5 (wanted_of (j := 2) (b := false) rfl rfl e26) (hK _ _ (le8_refl _) rfl)
      · intro ac w' hF hL hP hU K hK
        have hB : Below _ _ _ := hL
        have e27 : ac.eval (.tmp 27) = sumV Dn := hP 3 (by kernel_rfl)
        have e28 : ac.eval (.tmp 28) = sumV y := hP 4 (by kernel_rfl)
        have e29 : ac.eval (.tmp 29) = .int .i64 m := hP 5 (by kernel_rfl)
        have e30 : ac.eval (.tmp 30) = .int .i64 n := hP 6 (by kernel_rfl)
        have e31 : ac.eval (.tmp 31) = .slice vb kb cb := hP 7 (by kernel_rfl)
        have e26 : ac.eval (.tmp 26) = .bool false := hP 2 (by kernel_rfl)
        refine rop_call 30 _ _ rfl #[sumV Dn, sumV y, .int .i64 m, .int .i64 n, .slice vb kb cb] (by simp [e27, e28, e29, e30, e31]) (by kernel_rfl) (wanted_of (j := 2) (b := false) rfl rfl e26) ?_
        refine (HRI.out w' hB).mono ?_
        rintro e w2 ⟨rfl, hb⟩
        exact ⟨_, rfl, hK _ _ hb rfl⟩
      · intro ac w' hF hL hP hU K hK
        have hB : Below _ _ _ := hL
        have e32 : ac.eval (.tmp 32) = .bool true := hP 8 (by kernel_rfl)
        have e26 : ac.eval (.tmp 26) = .bool false := hP 2 (by kernel_rfl)
        exact rop_not _ _ rfl true e32 (wanted_of (j := 2) (b := false) rfl rfl e26) (hK _ _ (le8_refl _) rfl)
      · intro ac w' hF hL hP hU K hK
        have hB : Below _ _ _ := hL
        have e26 : ac.eval (.tmp 26) = .bool false := hP 2 (by kernel_rfl)
        have e33 : ac.eval (.tmp 33) = .bool false := hP 9 (by kernel_rfl)
        exact rop_pick _ _ _ rfl false e26 (by simpa using e33) (wanted_none rfl) (hK _ _ (le8_refl _) rfl)
      · intro ac w' hF hB hT
        have e34 : ac.eval (.tmp 34) = .bool false := hT 10 (by decide)
        rw [hF.setsG [24, 25, 26, 27, 28, 29, 30, 31, 32, 33, 34] (by kernel_rfl)]
        simp only [List.foldl_cons, List.foldl_nil, List.setIfInBounds_toArray, List.set_cons_succ, List.set_cons_zero, e34]
        generalize ac.eval (.tmp 24) = u24
        generalize ac.eval (.tmp 25) = u25
        generalize ac.eval (.tmp 26) = u26
        generalize ac.eval (.tmp 27) = u27
        generalize ac.eval (.tmp 28) = u28
        generalize ac.eval (.tmp 29) = u29
        generalize ac.eval (.tmp 30) = u30
        generalize ac.eval (.tmp 31) = u31
        generalize ac.eval (.tmp 32) = u32
        generalize ac.eval (.tmp 33) = u33
        clear e34 hT hF ac
        have b8 := hB
        obtain ⟨V, hV⟩ : ∃ V, V = w' := ⟨_, rfl⟩
        subst hV
        replace HZ8 := Lib.hid (IsH.old HZ8.out b8)
        replace HZ9 := Lib.hid (IsH.old HZ9.out b8)
        replace HZ12 := Lib.hid (HZ12.out.old b8)
        replace HB := Lib.hid (below_step HB.out (Nat.le_refl _) b8)
        obtain ⟨p, hp⟩ : ∃ p, p = (Tree.firstT L1 L2).getD ([], []) := ⟨_, rfl⟩
        obtain ⟨s, hs⟩ : ∃ s, s = (Tree.firstT L1 L2).isSome := ⟨_, rfl⟩
        have htw : twR (Tree.firstT L1 L2) = .tuple #[twV p, .bool s] := by rw [hp, hs]; rfl
        have HTW := Lib.hid htw
        have HW1 : Hid (∀ u, Below V.heap.size V u → Calls Tryd.prog 26 #[.int .i64 m, .int .i64 n, sumV x, .slice va ka ca] u fun e w' => ∃ v', e = .returned v' ∧ Texts w' v' L1 ∧ Below u.heap.size u w') := Lib.hid fun u hu => HWA1.out rfl u (below_step HB.out (Nat.le_refl _) hu)
        have HW2 : Hid (∀ u, Below V.heap.size V u → Calls Tryd.prog 26 #[.int .i64 m, .int .i64 n, sumV y, .slice vb kb cb] u fun e w' => ∃ v', e = .returned v' ∧ Texts w' v' L2 ∧ Below u.heap.size u w') := Lib.hid fun u hu => HWA2.out HO2.out u (below_step HB.out (Nat.le_refl _) hu)
        have HFI : Hid (∀ a b u, Below V.heap.size V u → Texts u a L1 → Texts u b L2 → Calls Tryd.prog 31 #[a, b] u fun e w' => e = .returned (.tuple #[twV p, .bool s]) ∧ Below u.heap.size u w') := Lib.hid fun a b u hu ha hb => by
          rw [← htw]
          exact HFA.out rfl HO2.out a b u (below_step HB.out (Nat.le_refl _) hu) ha hb
        clear hB b8 hp hs htw HWA1 HWA2 HFA HBQ
        go_upto_region 4 with (fail)
        obtain ⟨W, hW⟩ : ∃ W, W = V := ⟨_, rfl⟩
        subst hW
        try simp only [Act.put]
        refine wp_region_ph (Lx := GLx 4) [RXP.is (.int .i64 m), RXP.is (.int .i64 n), RXP.is (sumV x), RXP.is (.slice va ka ca), RXP.till (fun v w => Texts w v L1) (fun _ _ _ h k => h.old k), RXP.is (.int .i64 m), RXP.is (.int .i64 n), RXP.is (sumV y), RXP.is (.slice vb kb cb), RXP.till (fun v w => Texts w v L2) (fun _ _ _ h k => h.old k), RXP.is (.tuple #[twV p, .bool s]), RXP.is (twV p), RXP.is (.bool s), RXP.any, RXP.is (.bool s)] [4, 9, 10, 13] (fun k w' => (k < 4 → Below W.heap.size W w') ∧ (k = 4 → ∃ u, Below W.heap.size W u ∧ w' = u.setCells q12 0 [tV p.1, tV p.2])) (by kernel_rfl) (by kernel_rfl) (by kernel_rfl) (by kernel_rfl) (by kernel_rfl) (⟨fun _ => below_drew (Below.refl _ _), fun h => by cases h⟩) ⟨?_, ?_, ?_, ?_, ?_, ?_, ?_, ?_, ?_, ?_, ?_, ?_, ?_, ?_, ?_, trivial⟩ ?_
        · intro ac w' ph hF hPh hlt hP hU K hK0
          have e0 : ac.eval (.tmp 0) = .int .i64 m := hF.at 0 (by kernel_rfl)
          exact rop_move _ rfl e0 (wanted_none rfl) (hK0 _ _ GLx.same hPh rfl)
        · intro ac w' ph hF hPh hlt hP hU K hK0
          have e1 : ac.eval (.tmp 1) = .int .i64 n := hF.at 1 (by kernel_rfl)
          exact rop_move _ rfl e1 (wanted_none rfl) (hK0 _ _ GLx.same hPh rfl)
        · intro ac w' ph hF hPh hlt hP hU K hK0
          have hph : ph ≤ 0 := (hlt 0 4 rfl).2 (by kernel_rfl)
          have e8 : ac.eval (.tmp 8) = .pointer (some ⟨q8, 0, none⟩) := hF.at 8 (by kernel_rfl)
          exact rop_ld _ _ rfl e8 (load_sumP HXl.out (range_var (IsH.old HZ8.out (hPh.1 (by omega))))) (wanted_none rfl) (hK0 _ _ GLx.same hPh rfl)
        · intro ac w' ph hF hPh hlt hP hU K hK0
          have e4 : ac.eval (.tmp 4) = .slice va ka ca := hF.at 4 (by kernel_rfl)
          exact rop_move _ rfl e4 (wanted_none rfl) (hK0 _ _ GLx.same hPh rfl)
        · intro ac w' ph hF hPh hlt hP hU K hK0
          obtain rfl : ph = 0 := (hlt 0 4 rfl).1 rfl
          have e36 : ac.eval (.tmp 36) = .int .i64 m := hP 0 (by kernel_rfl)
          have e37 : ac.eval (.tmp 37) = .int .i64 n := hP 1 (by kernel_rfl)
          have e38 : ac.eval (.tmp 38) = sumV x := hP 2 (by kernel_rfl)
          have e39 : ac.eval (.tmp 39) = .slice va ka ca := hP 3 (by kernel_rfl)
          have hB : Below W.heap.size W w' := hPh.1 (by decide)
          refine rop_call 26 _ _ rfl #[.int .i64 m, .int .i64 n, sumV x, .slice va ka ca] (by simp [e36, e37, e38, e39]) (by kernel_rfl) (wanted_none rfl) ?_
          refine (HW1.out w' hB).mono ?_
          rintro e w2 ⟨v2, rfl, hr2, hb⟩
          exact ⟨_, rfl, hK0 _ _ (GLx.old (by decide) hb) ⟨fun _ => below_step hB (Nat.le_refl _) hb, fun h => by cases h⟩ (fun _ => hr2)⟩
        · intro ac w' ph hF hPh hlt hP hU K hK0
          have e0 : ac.eval (.tmp 0) = .int .i64 m := hF.at 0 (by kernel_rfl)
          exact rop_move _ rfl e0 (wanted_none rfl) (hK0 _ _ GLx.same hPh rfl)
        · intro ac w' ph hF hPh hlt hP hU K hK0
          have e1 : ac.eval (.tmp 1) = .int .i64 n := hF.at 1 (by kernel_rfl)
          exact rop_move _ rfl e1 (wanted_none rfl) (hK0 _ _ GLx.same hPh rfl)
        · intro ac w' ph hF hPh hlt hP hU K hK0
          have hph : ph ≤ 1 := (hlt 1 9 rfl).2 (by kernel_rfl)
          have e9 : ac.eval (.tmp 9) = .pointer (some ⟨q9, 0, none⟩) := hF.at 9 (by kernel_rfl)
          exact rop_ld _ _ rfl e9 (load_sumP HYl.out (range_var (IsH.old HZ9.out (hPh.1 (by omega))))) (wanted_none rfl) (hK0 _ _ GLx.same hPh rfl)
        · intro ac w' ph hF hPh hlt hP hU K hK0
          have e5 : ac.eval (.tmp 5) = .slice vb kb cb := hF.at 5 (by kernel_rfl)
          exact rop_move _ rfl e5 (wanted_none rfl) (hK0 _ _ GLx.same hPh rfl)
        · intro ac w' ph hF hPh hlt hP hU K hK0
          obtain rfl : ph = 1 := (hlt 1 9 rfl).1 rfl
          have e41 : ac.eval (.tmp 41) = .int .i64 m := hP 5 (by kernel_rfl)
          have e42 : ac.eval (.tmp 42) = .int .i64 n := hP 6 (by kernel_rfl)
          have e43 : ac.eval (.tmp 43) = sumV y := hP 7 (by kernel_rfl)
          have e44 : ac.eval (.tmp 44) = .slice vb kb cb := hP 8 (by kernel_rfl)
          have hB : Below W.heap.size W w' := hPh.1 (by decide)
          refine rop_call 26 _ _ rfl #[.int .i64 m, .int .i64 n, sumV y, .slice vb kb cb] (by simp [e41, e42, e43, e44]) (by kernel_rfl) (wanted_none rfl) ?_
          refine (HW2.out w' hB).mono ?_
          rintro e w2 ⟨v2, rfl, hr2, hb⟩
          exact ⟨_, rfl, hK0 _ _ (GLx.old (by decide) hb) ⟨fun _ => below_step hB (Nat.le_refl _) hb, fun h => by cases h⟩ (fun _ => hr2)⟩
        · intro ac w' ph hF hPh hlt hP hU K hK0
          obtain rfl : ph = 2 := (hlt 2 10 rfl).1 rfl
          have e40 : 2 < 4 → Texts w' (ac.eval (.tmp 40)) L1 := hP 4 (by kernel_rfl)
          have e45 : 2 < 4 → Texts w' (ac.eval (.tmp 45)) L2 := hP 9 (by kernel_rfl)
          have hB : Below W.heap.size W w' := hPh.1 (by decide)
          refine rop_call 31 _ _ rfl #[ac.eval (.tmp 40), ac.eval (.tmp 45)] (by simp) (by kernel_rfl) (wanted_none rfl) ?_
          refine (HFI.out _ _ w' hB (e40 (by decide)) (e45 (by decide))).mono ?_
          rintro e w2 ⟨rfl, hb⟩
          exact ⟨_, rfl, hK0 _ _ (GLx.old (by decide) hb) ⟨fun _ => below_step hB (Nat.le_refl _) hb, fun h => by cases h⟩ rfl⟩
        · intro ac w' ph hF hPh hlt hP hU K hK0
          have e46 : ac.eval (.tmp 46) = .tuple #[twV p, .bool s] := hP 10 (by kernel_rfl)
          exact rop_extractT _ 0 rfl e46 rfl (wanted_none rfl) (hK0 _ _ GLx.same hPh rfl)
        · intro ac w' ph hF hPh hlt hP hU K hK0
          have e46 : ac.eval (.tmp 46) = .tuple #[twV p, .bool s] := hP 10 (by kernel_rfl)
          exact rop_extractT _ 1 rfl e46 rfl (wanted_none rfl) (hK0 _ _ GLx.same hPh rfl)
        · intro ac w' ph hF hPh hlt hP hU K hK0
          obtain rfl : ph = 3 := (hlt 3 13 rfl).1 rfl
          have e12 : ac.eval (.tmp 12) = .pointer (some ⟨q12, 0, none⟩) := hF.at 12 (by kernel_rfl)
          have e47 : ac.eval (.tmp 47) = twV p := hP 11 (by kernel_rfl)
          have hB : Below W.heap.size W w' := hPh.1 (by decide)
          exact rop_storeG _ _ _ rfl e12 e47 (store_tw (HZ12.out.old hB)) (wanted_none rfl) (hK0 _ _ (GLx.last rfl) ⟨fun h => absurd h (by decide), fun _ => ⟨w', hB, rfl⟩⟩ trivial)
        · intro ac w' ph hF hPh hlt hP hU K hK0
          have e48 : ac.eval (.tmp 48) = .bool s := hP 12 (by kernel_rfl)
          exact rop_assign _ rfl e48 (wanted_none rfl) (hK0 _ _ GLx.same hPh rfl)
        · intro ac w' hF hPh hT
          have e13 : ac.eval (.tmp 13) = .bool s := hT 14 (by decide)
          rw [hF.setsG [36, 37, 38, 39, 40, 41, 42, 43, 44, 45, 46, 47, 48, 13] (by kernel_rfl)]
          simp only [List.foldl_cons, List.foldl_nil, List.setIfInBounds_toArray, List.set_cons_succ, List.set_cons_zero, e13]
          generalize ac.eval (.tmp 36) = u36
          generalize ac.eval (.tmp 37) = u37
          generalize ac.eval (.tmp 38) = u38
          generalize ac.eval (.tmp 39) = u39
          generalize ac.eval (.tmp 40) = u40
          generalize ac.eval (.tmp 41) = u41
          generalize ac.eval (.tmp 42) = u42
          generalize ac.eval (.tmp 43) = u43
          generalize ac.eval (.tmp 44) = u44
          generalize ac.eval (.tmp 45) = u45
          generalize ac.eval (.tmp 46) = u46
          generalize ac.eval (.tmp 47) = u47
          generalize ac.eval (.tmp 48) = u48
          clear e13 hT hF ac
          obtain ⟨u, hu, rfl⟩ := hPh.2 rfl
          have HU12 := HZ12.out.old hu
          have HUB := Lib.hid (below_step HB.out (Nat.le_refl _) hu)
          have HUS := Lib.hid (HU12.set (r := p))
          clear hPh hu HU12
          go_wp2
          refine bodyPost_ret (results_ct (t := 12) (u := 13) (ty := 32) (b := q12) (cs := [tV p.1, tV p.2]) rfl _ _ _ rfl HUS.out.range Tryd.underlying32 rfl tw_info) rfl ⟨?_, ?_⟩
          · rw [HRes.out, HZZ.out, HTW.out]
            rfl
          · exact below_setCells hq12w _ _ _ HUB.out
end Go.Proofs.YtdcebdleneieeaaDoor
