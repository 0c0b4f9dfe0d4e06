/-
  LeafRoots: the package's Split and Root, and the document's own, tell the same. For every number, and all hashes (the first 20 of them); the numbers K of the package sha are as the program's own start lays them.
-/
import Derived.Test.YtldknddgcbhllaaDoorLeafLaw
namespace Go.Proofs.YtldknddgcbhllaaDoor.leafRoots
open Go.ChangeShapes Go.WideShapes Go.ChangeAt Go.RowKit

set_option maxHeartbeats 2000000 in
set_option maxRecDepth 100000 in
theorem walk {w : World} (hK : KT w) (a : Int) (l0 : -9223372036854775808 ≤ a) (m0 : a ≤ 9223372036854775807) (v : Value) (l : Hs) (hv : Sums w v l) :
    Calls Tryd.prog 4 #[.int .i64 a, v] w fun e w' => e = .returned (.bool true) ∧ Below w.heap.size w w' := by
  have HAW := Lib.hid (awake9_any w hK)
  have HV := Lib.hid hv
  obtain ⟨S0, hKk⟩ : ∃ S0, S0 = Tree.split a.toNat := ⟨_, rfl⟩
  have HSP : Hid (∀ u : World, Calls Tryd.prog 18 #[.int .i64 a] u fun e w' => e = .returned (.int .i64 (S0 : Int)) ∧ Below u.heap.size u w') := Lib.hid fun u => (leafSplit_any a m0 u).mono fun e w' ⟨h1, h2⟩ => ⟨by rw [h1, hKk], h2 ▸ Below.refl _ _⟩
  have HRS : Hid (∀ u : World, Calls Tryd.prog 19 #[.int .i64 a] u fun e w' => e = .returned (.int .i64 (S0 : Int)) ∧ Below u.heap.size u w') := Lib.hid fun u => (rleafSplit_any a l0 m0 u).mono fun e w' ⟨h1, h2⟩ => ⟨by rw [h1, hKk], h2 ▸ Below.refl _ _⟩
  obtain ⟨D, hD⟩ : ∃ D, D = Tree.root (l.take 20) := ⟨_, rfl⟩
  have HDl : Hid (D.length = 32) := Lib.hid (by rw [hD]; exact Tree.root_length _ (hv.ok.take 20))
  have HD := Lib.hid hD
  have HKW := Lib.hid hK
  clear hKk hD hv hK
  go_enter Tryd.func4, Tryd.ntmps4
  go_upto_region 3 with (first
    | (go_at_call 10; ((with_reducible refine HAW.out.mono ?_); rintro e w1 ⟨rfl, b1⟩))
    | (go_at_call 17; refine (few9_any _ l _ (HV.out.old b1)).mono ?_; rintro e w2 ⟨v6, rfl, h6, rfl⟩))
  have HRT : Hid (∀ u : World, Below w1.heap.size w1 u → Calls Tryd.prog 20 #[v6] u fun e w' => e = .returned (sumV D) ∧ Below u.heap.size u w') := Lib.hid fun u hu => by
    rw [HD.out]
    exact leafRoot_any _ (l.take 20) v6 u rfl (by rw [List.length_take]; omega) (h6.1.old hu) ((HKW.out.old b1).old hu)
  have HRR : Hid (∀ u : World, Below w1.heap.size w1 u → Calls Tryd.prog 21 #[v6] u fun e w' => e = .returned (sumV D) ∧ Below u.heap.size u w') := Lib.hid fun u hu => by
    rw [HD.out]
    exact rleafRoot_any _ (l.take 20) v6 u rfl (by rw [List.length_take]; omega) (h6.1.old hu)
  try simp only [Act.put]
  refine wp_region_tab0 [RT.is (.bool true), RT.is (.bool true), RT.is (.int .i64 a), RT.is (.int .i64 (S0 : Int)), RT.is (.int .i64 a), RT.is (.int .i64 (S0 : Int)), RT.is (.bool true), RT.is (.bool true), RT.is (.bool true), RT.is (v6), RT.is (sumV D), RT.is (v6), RT.is (sumV D), RT.is (.bool true), RT.is (.bool true), RT.is (.bool true)] (by kernel_rfl) (by kernel_rfl) (by kernel_rfl) ⟨?_, ?_, ?_, ?_, ?_, ?_, ?_, ?_, ?_, ?_, ?_, ?_, ?_, ?_, ?_, ?_, trivial⟩ ?_
  · intro ac w' hF hL hP hU K hK
    have hB : Below _ _ _ := hL
    have e5 : ac.eval (.tmp 5) = .bool true := hF.at 5 (by kernel_rfl)
    exact rop_move _ rfl e5 (wanted_none rfl) (hK _ _ (le8_refl _) rfl)
  · intro ac w' hF hL hP hU K hK
    have hB : Below _ _ _ := hL
    have e10 : ac.eval (.tmp 10) = .bool true := hP 0 (by kernel_rfl)
    exact rop_move _ rfl e10 (wanted_none rfl) (hK _ _ (le8_refl _) rfl)
  · intro ac w' hF hL hP hU K hK
    have hB : Below _ _ _ := hL
    have e0 : ac.eval (.tmp 0) = .int .i64 a := hF.at 0 (by kernel_rfl)
    have e11 : ac.eval (.tmp 11) = .bool true := hP 1 (by kernel_rfl)
    exact rop_move _ rfl e0 (wanted_of (j := 1) (b := true) rfl rfl e11) (hK _ _ (le8_refl _) rfl)
  · intro ac w' hF hL hP hU K hK
    have hB : Below _ _ _ := hL
    have e12 : ac.eval (.tmp 12) = .int .i64 a := hP 2 (by kernel_rfl)
    have e11 : ac.eval (.tmp 11) = .bool true := hP 1 (by kernel_rfl)
    refine rop_call 18 _ _ rfl #[.int .i64 a] (by simp [e12]) (by kernel_rfl) (wanted_of (j := 1) (b := true) rfl rfl e11) ?_
    refine (HSP.out w').mono ?_
    rintro e w2 ⟨rfl, hb⟩
    exact ⟨_, rfl, hK _ _ hb rfl⟩
  · intro ac w' hF hL hP hU K hK
    have hB : Below _ _ _ := hL
    have e0 : ac.eval (.tmp 0) = .int .i64 a := hF.at 0 (by kernel_rfl)
    have e11 : ac.eval (.tmp 11) = .bool true := hP 1 (by kernel_rfl)
    exact rop_move _ rfl e0 (wanted_of (j := 1) (b := true) rfl rfl e11) (hK _ _ (le8_refl _) rfl)
  · intro ac w' hF hL hP hU K hK
    have hB : Below _ _ _ := hL
    have e14 : ac.eval (.tmp 14) = .int .i64 a := hP 4 (by kernel_rfl)
    have e11 : ac.eval (.tmp 11) = .bool true := hP 1 (by kernel_rfl)
    refine rop_call 19 _ _ rfl #[.int .i64 a] (by simp [e14]) (by kernel_rfl) (wanted_of (j := 1) (b := true) rfl rfl e11) ?_
    refine (HRS.out w').mono ?_
    rintro e w2 ⟨rfl, hb⟩
    exact ⟨_, rfl, hK _ _ hb rfl⟩
  · intro ac w' hF hL hP hU K hK
    have hB : Below _ _ _ := hL
    have e13 : ac.eval (.tmp 13) = .int .i64 (S0 : Int) := hP 3 (by kernel_rfl)
    have e15 : ac.eval (.tmp 15) = .int .i64 (S0 : Int) := hP 5 (by kernel_rfl)
    have e11 : ac.eval (.tmp 11) = .bool true := hP 1 (by kernel_rfl)
    exact rop_bin _ _ _ _ _ rfl e13 e15 (guard_int _ _ _ _ _ _ _ w') (eql_iG _ _ _ (decide_eq_true rfl) w') (wanted_of (j := 1) (b := true) rfl rfl e11) (hK _ _ (le8_refl _) rfl)
  · intro ac w' hF hL hP hU K hK
    have hB : Below _ _ _ := hL
    have e11 : ac.eval (.tmp 11) = .bool true := hP 1 (by kernel_rfl)
    have e16 : ac.eval (.tmp 16) = .bool true := hP 6 (by kernel_rfl)
    exact rop_pick _ _ _ rfl true e11 (by simpa using e16) (wanted_none rfl) (hK _ _ (le8_refl _) rfl)
  · intro ac w' hF hL hP hU K hK
    have hB : Below _ _ _ := hL
    have e17 : ac.eval (.tmp 17) = .bool true := hP 7 (by kernel_rfl)
    exact rop_move _ rfl e17 (wanted_none rfl) (hK _ _ (le8_refl _) rfl)
  · intro ac w' hF hL hP hU K hK
    have hB : Below _ _ _ := hL
    have e6 : ac.eval (.tmp 6) = v6 := hF.at 6 (by kernel_rfl)
    have e18 : ac.eval (.tmp 18) = .bool true := hP 8 (by kernel_rfl)
    exact rop_move _ rfl e6 (wanted_of (j := 8) (b := true) rfl rfl e18) (hK _ _ (le8_refl _) rfl)
  · intro ac w' hF hL hP hU K hK
    have hB : Below _ _ _ := hL
    have e19 : ac.eval (.tmp 19) = v6 := hP 9 (by kernel_rfl)
    have e18 : ac.eval (.tmp 18) = .bool true := hP 8 (by kernel_rfl)
    refine rop_call 20 _ _ rfl #[v6] (by simp [e19]) (by kernel_rfl) (wanted_of (j := 8) (b := true) rfl rfl e18) ?_
    refine (HRT.out w' hB).mono ?_
    rintro e w2 ⟨rfl, hb⟩
    exact ⟨_, rfl, hK _ _ hb rfl⟩
  · intro ac w' hF hL hP hU K hK
    have hB : Below _ _ _ := hL
    have e6 : ac.eval (.tmp 6) = v6 := hF.at 6 (by kernel_rfl)
    have e18 : ac.eval (.tmp 18) = .bool true := hP 8 (by kernel_rfl)
    exact rop_move _ rfl e6 (wanted_of (j := 8) (b := true) rfl rfl e18) (hK _ _ (le8_refl _) rfl)
  · intro ac w' hF hL hP hU K hK
    have hB : Below _ _ _ := hL
    have e21 : ac.eval (.tmp 21) = v6 := hP 11 (by kernel_rfl)
    have e18 : ac.eval (.tmp 18) = .bool true := hP 8 (by kernel_rfl)
    refine rop_call 21 _ _ rfl #[v6] (by simp [e21]) (by kernel_rfl) (wanted_of (j := 8) (b := true) rfl rfl e18) ?_
    refine (HRR.out w' hB).mono ?_
    rintro e w2 ⟨rfl, hb⟩
    exact ⟨_, rfl, hK _ _ hb rfl⟩
  · intro ac w' hF hL hP hU K hK
    have hB : Below _ _ _ := hL
    have e20 : ac.eval (.tmp 20) = sumV D := hP 10 (by kernel_rfl)
    have e22 : ac.eval (.tmp 22) = sumV D := hP 12 (by kernel_rfl)
    have e18 : ac.eval (.tmp 18) = .bool true := hP 8 (by kernel_rfl)
    exact rop_bin _ _ _ _ _ rfl e20 e22 (guard_run .eql _ _ _ _ w') (eql_sum_tt D D HDl.out HDl.out rfl w') (wanted_of (j := 8) (b := true) rfl rfl e18) (hK _ _ (le8_refl _) rfl)
  · intro ac w' hF hL hP hU K hK
    have hB : Below _ _ _ := hL
    have e18 : ac.eval (.tmp 18) = .bool true := hP 8 (by kernel_rfl)
    have e23 : ac.eval (.tmp 23) = .bool true := hP 13 (by kernel_rfl)
    exact rop_pick _ _ _ rfl true e18 (by simpa using e23) (wanted_none rfl) (hK _ _ (le8_refl _) rfl)
  · intro ac w' hF hL hP hU K hK
    have hB : Below _ _ _ := hL
    have e24 : ac.eval (.tmp 24) = .bool true := hP 14 (by kernel_rfl)
    exact rop_assign _ rfl e24 (wanted_none rfl) (hK _ _ (le8_refl _) rfl)
  · intro ac w' hF hB hT
    have e4 : ac.eval (.tmp 4) = .bool true := hT 15 (by decide)
    rw [hF.setsG [10, 11, 12, 13, 14, 15, 16, 17, 18, 19, 20, 21, 22, 23, 24, 4] (by kernel_rfl)]
    simp only [List.foldl_cons, List.foldl_nil, List.setIfInBounds_toArray, List.set_cons_succ, List.set_cons_zero, e4]
    generalize ac.eval (.tmp 10) = u10
    generalize ac.eval (.tmp 11) = u11
    generalize ac.eval (.tmp 12) = u12
    generalize ac.eval (.tmp 13) = u13
    generalize ac.eval (.tmp 14) = u14
    generalize ac.eval (.tmp 15) = u15
    generalize ac.eval (.tmp 16) = u16
    generalize ac.eval (.tmp 17) = u17
    generalize ac.eval (.tmp 18) = u18
    generalize ac.eval (.tmp 19) = u19
    generalize ac.eval (.tmp 20) = u20
    generalize ac.eval (.tmp 21) = u21
    generalize ac.eval (.tmp 22) = u22
    generalize ac.eval (.tmp 23) = u23
    generalize ac.eval (.tmp 24) = u24
    clear e4 hT hF ac
    go_wp2
    go_ret
    exact ⟨rfl, below_step b1 (Nat.le_refl _) hB⟩

set_option maxRecDepth 100000 in
theorem lifted (os : Os) (started : os.Started) (H : Type) (enc : TypeId × Value → H) :
    ReturnsInHanded {} Tryd.checked os 4 .any (fun w args => (Rows.leafRootsSpec.pre enc Tryd.prog Tryd.f4 [] false w args ∧ laidMetH Tryd.prog [("scrinium/sha.k", Rows.laid_scrinium_sha_k)] w) ∧ sizedMet enc Tryd.prog Tryd.f4 (OpenSpec.ofChange Rows.leafRootsSpec) false w args)
      (Rows.leafRootsSpec.post enc Tryd.prog Tryd.f4 false true false false) := by
  refine returnsInHanded_of_change_and (C := Tryd.checked) (X := fun w _ => laidMetH Tryd.prog [("scrinium/sha.k", Rows.laid_scrinium_sha_k)] w) (fun _ _ _ hh h => h.of_heap hh) lawOwn started (by kernel_rfl) Tryd.func4
    (ChangeSpec.witness_shaped (enc := enc) (C := Tryd.checked) (os := os) (X := fun w _ => laidMetH Tryd.prog [("scrinium/sha.k", Rows.laid_scrinium_sha_k)] w) false (World.doorLaid Tryd.prog 400 os) #[.int .i64 0, .slice none 0 0] 8 rfl (World.shaped_of_RefB (by kernel_rfl) (by kernel_rfl)) (by kernel_rfl) (by kernel_rfl) (by kernel_rfl) (door_met os _)) ?_
  intro W base args ds gs before hval0 hW _ _ hL _
  have hval : ∀ (j : Nat) t v, Tryd.f4.params[j]? = some t → args[j]? = some v → Value.okWide Tryd.prog W .any base t v := hval0
  have hW' := hW
  obtain ⟨p, q, hA0, hV, rfl, hfz, hnd⟩ := hW
  have hA : DataW.TrodAll enc Tryd.prog W 0 (fun _ => true) true Tryd.f4.params.toList args.toList ds p := hA0
  rw [Tryd.params4] at hA hval
  obtain ⟨v0, vs0, d0, ds0, p0, q0, hargs, rfl, rfl, h0, r0⟩ := trodAll_cons hA
  obtain ⟨v1, vs1, d1, ds1, p1, q1, rfl, rfl, rfl, h1, r1⟩ := trodAll_cons r0
  obtain ⟨rfl, rfl, rfl⟩ := trodAll_nil r1
  obtain rfl : args = #[v0, v1] := by cases args; simp_all
  obtain ⟨rfl, rfl⟩ := trodVars_none hV
  have hKT := KT_of_laid hL
  obtain ⟨a0, rfl, rfl, rfl, w0⟩ := open_int Tryd.underlying3 (hval 0 3 v0 rfl rfl) h0
  obtain ⟨a1, len1, cap1, rfl⟩ := okWide_slice Tryd.underlying29 (hval 1 29 v1 rfl rfl)
  obtain ⟨l1, w1⟩ := sums_of h1
  clear hA0 hval0
  obtain ⟨l0, m0⟩ := i64_bounds w0
  refine (walk (w := W) hKT a0 l0 m0 _ l1 w1).mono fun e W' ⟨he, bel⟩ => ?_
  subst he
  exact ⟨_, rfl, law_post rfl rfl (by kernel_rfl) hW' rfl bel⟩

theorem row_holds : Rows.LeafRootsSaid :=
  OpenClaim.holds_of_wide 4 Tryd.f4 rfl rfl rfl rfl rfl rfl rfl ⟨rfl, rfl, rfl, rfl, rfl⟩ rfl rfl rfl rfl rfl (by kernel_rfl) Tryd.func4 (by kernel_rfl)
    (of_decide_eq_true (by kernel_rfl)) (by unfold Func.isWrapper; first | (rw [if_pos (by decide +kernel)]; kernel_rfl) | (rw [if_neg (by decide +kernel)]; exact ⟨rfl, rfl⟩))
    (fun os started H enc _ => lifted os started H enc)

theorem holds : Rows.LeafRootsCardSaid :=
  Claim7.holds_tied_plain_at .later [] [.data] true Rows.leafRootsCard.stood.harness false
    row_holds (fun _ h => by cases h) (by kernel_rfl) (fun _ h => by cases h) leafRoots_row_tie rfl ⟨rfl, rfl⟩ (by kernel_rfl) rfl
    (fun f fn hf hfn => by
      obtain rfl : f = 4 := Option.some.inj ((show Tryd.prog.funcNamed "scrinium/scriniumlaw09.LeafRoots" = some 4 by kernel_rfl).symm.trans hf) |>.symm
      obtain rfl : fn = Tryd.f4 := (Option.some.inj (Tryd.func4.symm.trans hfn)).symm
      exact ⟨by kernel_rfl, fun j t ht => by
        rw [Tryd.params4] at ht
        have hm : t ∈ [3, 29] := by simpa using Array.mem_of_getElem? ht
        have hall : ([3, 29].all fun u => !Tryd.prog.wantsStandIn u) = true := by kernel_rfl
        exact (show Tryd.prog.wantsStandIn t = false by simpa using List.all_eq_true.1 hall t hm)⟩)
    (by kernel_rfl)
end Go.Proofs.YtldknddgcbhllaaDoor.leafRoots

theorem Go.Proofs.YtldknddgcbhllaaDoor.leafRoots_holds : Go.Proofs.YtldknddgcbhllaaDoor.Rows.LeafRootsCardSaid := Go.Proofs.YtldknddgcbhllaaDoor.leafRoots.holds
#print axioms Go.Proofs.YtldknddgcbhllaaDoor.leafRoots_holds
