/-
  CheckSeals: texts are sealed, and any bytes opened, as P4.2 says. For every text (its first 500 bytes); the table is as the program's text lays it.
-/
import Derived.Test.YthohdkpgckandaaDoorCrcLaw
import Derived.Test.YthohdkpgckandaaDoorCrcAwake
namespace Go.Proofs.YthohdkpgckandaaDoor.checkSeals
open Go.ChangeShapes Go.WideShapes Go.ChangeAt Go.RowKit

set_option maxHeartbeats 1000000 in
set_option maxRecDepth 100000 in
theorem walk {w : World} (hT : TW w) (s0 : ByteArray) (_ : s0.size ≤ maxLen) :
    Calls Tryd.prog 4 #[.string s0] w fun e w' => e = .returned (.bool true) ∧ Below w.heap.size w w' := by
  obtain ⟨S, hS⟩ : ∃ S, S = shortB s0 500 := ⟨_, rfl⟩
  obtain ⟨Z, hZ⟩ : ∃ Z, Z = sealB S := ⟨_, rfl⟩
  obtain ⟨O, hO⟩ : ∃ O, O = openB S := ⟨_, rfl⟩
  obtain ⟨b, hb⟩ : ∃ b, b = sealed S := ⟨_, rfl⟩
  have hl : S.size ≤ 500 := by have := shortB_size s0 500; rw [hS]; omega
  have HZ : Hid (∀ w, TW w → Calls Tryd.prog 18 #[.string S] w fun e w' => e = .returned (.string Z) ∧ Below w.heap.size w w') := Lib.hid fun w h => by rw [hZ]; exact seal_any S (by omega) w h
  have HY : Hid (∀ w, Calls Tryd.prog 19 #[.string S] w fun e w' => e = .returned (.string Z) ∧ Below w.heap.size w w') := Lib.hid fun w => by rw [hZ]; exact rseal_any S (by omega) w
  have HO : Hid (∀ w, TW w → Calls Tryd.prog 16 #[.string S] w fun e w' => e = .returned (.tuple #[.string O, .bool b]) ∧ Below w.heap.size w w') := Lib.hid fun w h => by rw [hO, hb]; exact open_any S w h (by omega)
  have HR : Hid (∀ w, Calls Tryd.prog 17 #[.string S] w fun e w' => e = .returned (.tuple #[.string O, .bool b]) ∧ Below w.heap.size w w') := Lib.hid fun w => by rw [hO, hb]; exact ropen_any S w (by omega)
  have HB : Hid (∀ w, TW w → Calls Tryd.prog 16 #[.string Z] w fun e w' => e = .returned (.tuple #[.string S, .bool true]) ∧ Below w.heap.size w w') := Lib.hid fun w h => by
    have := open_any (sealB S) w h (by rw [sealB_size]; omega)
    rw [openB_sealB, sealed_sealB] at this
    rw [hZ]; exact this
  have Hb := Lib.hid hS
  clear hS hZ hO hb hl
  go_enter Tryd.func4, Tryd.ntmps4
  go_upto_region 6 with (first
    | (go_at_call 10; refine (awake4_any w hT).mono ?_; rintro e w1 ⟨rfl, b1⟩; have hT1 := hT.old b1)
    | (go_at_call 11; refine (short4_any s0 500 500 rfl _).mono ?_; rintro e w2 ⟨rfl, rfl⟩; rw [← Hb.out])
    | (go_at_call 16; ((with_reducible refine (HO.out w1 hT1).mono ?_); rintro e w2 ⟨rfl, b2⟩; have hT2 := hT1.old b2))
    | (go_at_call 17; refine (HR.out w2).mono ?_; rintro e w3 ⟨rfl, b3⟩; have hT3 := hT2.old b3)
    | (go_at_call 18; refine (HZ.out w3 hT3).mono ?_; rintro e w4 ⟨rfl, b4⟩; have hT4 := hT3.old b4)
    | (go_at_call 16; ((with_reducible refine (HB.out w4 hT4).mono ?_); rintro e w5 ⟨rfl, b5⟩)))
  have bb := below_step (below_step (below_step (below_step b1 (Nat.le_refl _) b2) (Nat.le_refl _) b3) (Nat.le_refl _) b4) (Nat.le_refl _) b5
  replace hT4 := hT4.old b5
  try simp only [Act.put]
  refine wp_region_tab0 [RT.is (.bool true), RT.is (.bool true), RT.is (.string S), RT.is (.string Z), RT.is (.string S), RT.is (.string Z), RT.is (.bool true), RT.is (.bool true), RT.is (.bool true), RT.is (.string O), RT.is (.string O), RT.is (.bool true), RT.is (.bool true), RT.is (.bool true), RT.is (.bool b), RT.is (.bool b), RT.is (.bool true), RT.is (.bool true), RT.is (.bool true), RT.is (.string S), RT.is (.string S), RT.is (.bool true), RT.is (.bool true), RT.is (.bool true), RT.is (.bool true), RT.is (.bool true), RT.is (.bool true)] (by kernel_rfl) (by kernel_rfl) (by kernel_rfl) ⟨?_, ?_, ?_, ?_, ?_, ?_, ?_, ?_, ?_, ?_, ?_, ?_, ?_, ?_, ?_, ?_, ?_, ?_, ?_, ?_, ?_, ?_, ?_, ?_, ?_, ?_, ?_, trivial⟩ ?_
  · intro ac w' hF hL hP hU K hK
    have hB : Below _ _ _ := hL
    have e3 : ac.eval (.tmp 3) = .bool true := hF.at 3 (by kernel_rfl)
    exact rop_move _ rfl e3 (wanted_none rfl) (hK _ _ (le8_refl _) rfl)
  · intro ac w' hF hL hP hU K hK
    have hB : Below _ _ _ := hL
    have e29 : ac.eval (.tmp 29) = .bool true := hP 0 (by kernel_rfl)
    exact rop_move _ rfl e29 (wanted_none rfl) (hK _ _ (le8_refl _) rfl)
  · intro ac w' hF hL hP hU K hK
    have hB : Below _ _ _ := hL
    have e0 : ac.eval (.tmp 0) = .string S := hF.at 0 (by kernel_rfl)
    have e30 : ac.eval (.tmp 30) = .bool true := hP 1 (by kernel_rfl)
    exact rop_move _ rfl e0 (wanted_of (j := 1) (b := true) rfl rfl e30) (hK _ _ (le8_refl _) rfl)
  · intro ac w' hF hL hP hU K hK
    have hB : Below _ _ _ := hL
    have e31 : ac.eval (.tmp 31) = .string S := hP 2 (by kernel_rfl)
    have e30 : ac.eval (.tmp 30) = .bool true := hP 1 (by kernel_rfl)
    refine rop_call 18 _ _ rfl #[.string S] (by simp [e31]) (by kernel_rfl) (wanted_of (j := 1) (b := true) rfl rfl e30) ?_
    refine (HZ.out w' (hT4.old hB)).mono ?_
    rintro e w2 ⟨rfl, hb⟩
    exact ⟨_, rfl, hK _ _ hb rfl⟩
  · intro ac w' hF hL hP hU K hK
    have hB : Below _ _ _ := hL
    have e0 : ac.eval (.tmp 0) = .string S := hF.at 0 (by kernel_rfl)
    have e30 : ac.eval (.tmp 30) = .bool true := hP 1 (by kernel_rfl)
    exact rop_move _ rfl e0 (wanted_of (j := 1) (b := true) rfl rfl e30) (hK _ _ (le8_refl _) rfl)
  · intro ac w' hF hL hP hU K hK
    have hB : Below _ _ _ := hL
    have e33 : ac.eval (.tmp 33) = .string S := hP 4 (by kernel_rfl)
    have e30 : ac.eval (.tmp 30) = .bool true := hP 1 (by kernel_rfl)
    refine rop_call 19 _ _ rfl #[.string S] (by simp [e33]) (by kernel_rfl) (wanted_of (j := 1) (b := true) rfl rfl e30) ?_
    refine (HY.out w').mono ?_
    rintro e w2 ⟨rfl, hb⟩
    exact ⟨_, rfl, hK _ _ hb rfl⟩
  · intro ac w' hF hL hP hU K hK
    have hB : Below _ _ _ := hL
    have e32 : ac.eval (.tmp 32) = .string Z := hP 3 (by kernel_rfl)
    have e34 : ac.eval (.tmp 34) = .string Z := hP 5 (by kernel_rfl)
    have e30 : ac.eval (.tmp 30) = .bool true := hP 1 (by kernel_rfl)
    exact rop_bin _ _ _ _ _ rfl e32 e34 (guard_str _ _ _ _ _ _ w') (eql_str_t _ _ rfl w') (wanted_of (j := 1) (b := true) rfl rfl e30) (hK _ _ (le8_refl _) rfl)
  · intro ac w' hF hL hP hU K hK
    have hB : Below _ _ _ := hL
    have e30 : ac.eval (.tmp 30) = .bool true := hP 1 (by kernel_rfl)
    have e35 : ac.eval (.tmp 35) = .bool true := hP 6 (by kernel_rfl)
    exact rop_pick _ _ _ rfl true e30 (by simpa using e35) (wanted_none rfl) (hK _ _ (le8_refl _) rfl)
  · intro ac w' hF hL hP hU K hK
    have hB : Below _ _ _ := hL
    have e36 : ac.eval (.tmp 36) = .bool true := hP 7 (by kernel_rfl)
    exact rop_move _ rfl e36 (wanted_none rfl) (hK _ _ (le8_refl _) rfl)
  · intro ac w' hF hL hP hU K hK
    have hB : Below _ _ _ := hL
    have e4 : ac.eval (.tmp 4) = .string O := hF.at 4 (by kernel_rfl)
    have e37 : ac.eval (.tmp 37) = .bool true := hP 8 (by kernel_rfl)
    exact rop_move _ rfl e4 (wanted_of (j := 8) (b := true) rfl rfl e37) (hK _ _ (le8_refl _) rfl)
  · intro ac w' hF hL hP hU K hK
    have hB : Below _ _ _ := hL
    have e6 : ac.eval (.tmp 6) = .string O := hF.at 6 (by kernel_rfl)
    have e37 : ac.eval (.tmp 37) = .bool true := hP 8 (by kernel_rfl)
    exact rop_move _ rfl e6 (wanted_of (j := 8) (b := true) rfl rfl e37) (hK _ _ (le8_refl _) rfl)
  · intro ac w' hF hL hP hU K hK
    have hB : Below _ _ _ := hL
    have e38 : ac.eval (.tmp 38) = .string O := hP 9 (by kernel_rfl)
    have e39 : ac.eval (.tmp 39) = .string O := hP 10 (by kernel_rfl)
    have e37 : ac.eval (.tmp 37) = .bool true := hP 8 (by kernel_rfl)
    exact rop_bin _ _ _ _ _ rfl e38 e39 (guard_str _ _ _ _ _ _ w') (eql_str_t _ _ rfl w') (wanted_of (j := 8) (b := true) rfl rfl e37) (hK _ _ (le8_refl _) rfl)
  · intro ac w' hF hL hP hU K hK
    have hB : Below _ _ _ := hL
    have e37 : ac.eval (.tmp 37) = .bool true := hP 8 (by kernel_rfl)
    have e40 : ac.eval (.tmp 40) = .bool true := hP 11 (by kernel_rfl)
    exact rop_pick _ _ _ rfl true e37 (by simpa using e40) (wanted_none rfl) (hK _ _ (le8_refl _) rfl)
  · intro ac w' hF hL hP hU K hK
    have hB : Below _ _ _ := hL
    have e41 : ac.eval (.tmp 41) = .bool true := hP 12 (by kernel_rfl)
    exact rop_move _ rfl e41 (wanted_none rfl) (hK _ _ (le8_refl _) rfl)
  · intro ac w' hF hL hP hU K hK
    have hB : Below _ _ _ := hL
    have e5 : ac.eval (.tmp 5) = .bool b := hF.at 5 (by kernel_rfl)
    have e42 : ac.eval (.tmp 42) = .bool true := hP 13 (by kernel_rfl)
    exact rop_move _ rfl e5 (wanted_of (j := 13) (b := true) rfl rfl e42) (hK _ _ (le8_refl _) rfl)
  · intro ac w' hF hL hP hU K hK
    have hB : Below _ _ _ := hL
    have e7 : ac.eval (.tmp 7) = .bool b := hF.at 7 (by kernel_rfl)
    have e42 : ac.eval (.tmp 42) = .bool true := hP 13 (by kernel_rfl)
    exact rop_move _ rfl e7 (wanted_of (j := 13) (b := true) rfl rfl e42) (hK _ _ (le8_refl _) rfl)
  · intro ac w' hF hL hP hU K hK
    have hB : Below _ _ _ := hL
    have e43 : ac.eval (.tmp 43) = .bool b := hP 14 (by kernel_rfl)
    have e44 : ac.eval (.tmp 44) = .bool b := hP 15 (by kernel_rfl)
    have e42 : ac.eval (.tmp 42) = .bool true := hP 13 (by kernel_rfl)
    exact rop_bin _ _ _ _ _ rfl e43 e44 (guard_bool _ _ _ _ _ _ w') (eql_bool_t _ _ rfl w') (wanted_of (j := 13) (b := true) rfl rfl e42) (hK _ _ (le8_refl _) rfl)
  · intro ac w' hF hL hP hU K hK
    have hB : Below _ _ _ := hL
    have e42 : ac.eval (.tmp 42) = .bool true := hP 13 (by kernel_rfl)
    have e45 : ac.eval (.tmp 45) = .bool true := hP 16 (by kernel_rfl)
    exact rop_pick _ _ _ rfl true e42 (by simpa using e45) (wanted_none rfl) (hK _ _ (le8_refl _) rfl)
  · intro ac w' hF hL hP hU K hK
    have hB : Below _ _ _ := hL
    have e46 : ac.eval (.tmp 46) = .bool true := hP 17 (by kernel_rfl)
    exact rop_move _ rfl e46 (wanted_none rfl) (hK _ _ (le8_refl _) rfl)
  · intro ac w' hF hL hP hU K hK
    have hB : Below _ _ _ := hL
    have e8 : ac.eval (.tmp 8) = .string S := hF.at 8 (by kernel_rfl)
    have e47 : ac.eval (.tmp 47) = .bool true := hP 18 (by kernel_rfl)
    exact rop_move _ rfl e8 (wanted_of (j := 18) (b := true) rfl rfl e47) (hK _ _ (le8_refl _) rfl)
  · intro ac w' hF hL hP hU K hK
    have hB : Below _ _ _ := hL
    have e0 : ac.eval (.tmp 0) = .string S := hF.at 0 (by kernel_rfl)
    have e47 : ac.eval (.tmp 47) = .bool true := hP 18 (by kernel_rfl)
    exact rop_move _ rfl e0 (wanted_of (j := 18) (b := true) rfl rfl e47) (hK _ _ (le8_refl _) rfl)
  · intro ac w' hF hL hP hU K hK
    have hB : Below _ _ _ := hL
    have e48 : ac.eval (.tmp 48) = .string S := hP 19 (by kernel_rfl)
    have e49 : ac.eval (.tmp 49) = .string S := hP 20 (by kernel_rfl)
    have e47 : ac.eval (.tmp 47) = .bool true := hP 18 (by kernel_rfl)
    exact rop_bin _ _ _ _ _ rfl e48 e49 (guard_str _ _ _ _ _ _ w') (eql_str_t _ _ rfl w') (wanted_of (j := 18) (b := true) rfl rfl e47) (hK _ _ (le8_refl _) rfl)
  · intro ac w' hF hL hP hU K hK
    have hB : Below _ _ _ := hL
    have e47 : ac.eval (.tmp 47) = .bool true := hP 18 (by kernel_rfl)
    have e50 : ac.eval (.tmp 50) = .bool true := hP 21 (by kernel_rfl)
    exact rop_pick _ _ _ rfl true e47 (by simpa using e50) (wanted_none rfl) (hK _ _ (le8_refl _) rfl)
  · intro ac w' hF hL hP hU K hK
    have hB : Below _ _ _ := hL
    have e51 : ac.eval (.tmp 51) = .bool true := hP 22 (by kernel_rfl)
    exact rop_move _ rfl e51 (wanted_none rfl) (hK _ _ (le8_refl _) rfl)
  · intro ac w' hF hL hP hU K hK
    have hB : Below _ _ _ := hL
    have e9 : ac.eval (.tmp 9) = .bool true := hF.at 9 (by kernel_rfl)
    have e52 : ac.eval (.tmp 52) = .bool true := hP 23 (by kernel_rfl)
    exact rop_move _ rfl e9 (wanted_of (j := 23) (b := true) rfl rfl e52) (hK _ _ (le8_refl _) rfl)
  · intro ac w' hF hL hP hU K hK
    have hB : Below _ _ _ := hL
    have e52 : ac.eval (.tmp 52) = .bool true := hP 23 (by kernel_rfl)
    have e53 : ac.eval (.tmp 53) = .bool true := hP 24 (by kernel_rfl)
    exact rop_pick _ _ _ rfl true e52 (by simpa using e53) (wanted_none rfl) (hK _ _ (le8_refl _) rfl)
  · intro ac w' hF hL hP hU K hK
    have hB : Below _ _ _ := hL
    have e54 : ac.eval (.tmp 54) = .bool true := hP 25 (by kernel_rfl)
    exact rop_assign _ rfl e54 (wanted_none rfl) (hK _ _ (le8_refl _) rfl)
  · intro ac w' hF hB hT
    have e2 : ac.eval (.tmp 2) = .bool true := hT 26 (by decide)
    rw [hF.lit 55 rfl]
    simp only [List.range, List.range.loop, List.map_cons, List.map_nil, e2]
    go_wp2
    go_ret
    exact ⟨rfl, below_step bb (Nat.le_refl _) hB⟩

set_option maxRecDepth 100000 in
theorem lifted (os : Os) (started : os.Started) (H : Type) (enc : TypeId × Value → H) :
    ReturnsInHanded {} Tryd.checked os 4 .any (fun w args => (Rows.checkSealsSpec.pre enc Tryd.prog Tryd.f4 [] false w args ∧ laidMetH Tryd.prog [("scrinium/check.fourSteps", Rows.laid_scrinium_check_fourSteps)] w) ∧ sizedMet enc Tryd.prog Tryd.f4 (OpenSpec.ofChange Rows.checkSealsSpec) false w args)
      (Rows.checkSealsSpec.post enc Tryd.prog Tryd.f4 false true false false) := by
  refine returnsInHanded_of_change_and (C := Tryd.checked) (X := fun w _ => laidMetH Tryd.prog [("scrinium/check.fourSteps", Rows.laid_scrinium_check_fourSteps)] w) (fun _ _ _ hh h => h.of_heap hh) lawOwn started (by kernel_rfl) Tryd.func4
    (ChangeSpec.witness_shaped (enc := enc) (C := Tryd.checked) (os := os) (X := fun w _ => laidMetH Tryd.prog [("scrinium/check.fourSteps", Rows.laid_scrinium_check_fourSteps)] w) false (World.doorLaid Tryd.prog 400 os) #[.string .empty] 8 rfl (World.shaped_of_RefB (by kernel_rfl) (by kernel_rfl)) (by kernel_rfl) (by kernel_rfl) (by kernel_rfl) (door_met os _)) ?_
  intro W base args ds gs before hval0 hW _ _ hL _
  have hval : ∀ (j : Nat) t v, Tryd.f4.params[j]? = some t → args[j]? = some v → Value.okWide Tryd.prog W .any base t v := hval0
  have hW' := hW
  obtain ⟨p, q, hA0, hV, rfl, hfz, hnd⟩ := hW
  have hA : DataW.TrodAll enc Tryd.prog W 0 (fun _ => true) true Tryd.f4.params.toList args.toList ds p := hA0
  rw [Tryd.params4] at hA hval
  obtain ⟨v0, vs0, d0, ds0, p0, q0, hargs, rfl, rfl, h0, r0⟩ := trodAll_cons hA
  obtain ⟨rfl, rfl, rfl⟩ := trodAll_nil r0
  obtain rfl : args = #[v0] := by cases args; simp_all
  obtain ⟨rfl, rfl⟩ := trodVars_none hV
  have hKT := KT_of_laid hL
  obtain ⟨s0, rfl, rfl, rfl, w0⟩ := Go.ChangeMaps.open_string Tryd.underlying9 (hval 0 9 v0 rfl rfl) h0
  clear hA0 hval0
  refine (walk (w := W) hKT s0 w0).mono fun e W' ⟨he, bel⟩ => ?_
  subst he
  exact ⟨_, rfl, law_post rfl rfl (by kernel_rfl) hW' rfl bel⟩

theorem row_holds : Rows.CheckSealsSaid :=
  OpenClaim.holds_of_wide 4 Tryd.f4 rfl rfl rfl rfl rfl rfl rfl ⟨rfl, rfl, rfl, rfl, rfl⟩ rfl rfl rfl rfl rfl (by kernel_rfl) Tryd.func4 (by kernel_rfl)
    (of_decide_eq_true (by kernel_rfl)) (by unfold Func.isWrapper; first | (rw [if_pos (by decide +kernel)]; kernel_rfl) | (rw [if_neg (by decide +kernel)]; exact ⟨rfl, rfl⟩))
    (fun os started H enc _ => lifted os started H enc)

theorem holds : Rows.CheckSealsCardSaid :=
  Claim7.holds_tied_plain_at .later [] [.data] true Rows.checkSealsCard.stood.harness false
    row_holds (fun _ h => by cases h) (by kernel_rfl) (fun _ h => by cases h) checkSeals_row_tie rfl ⟨rfl, rfl⟩ (by kernel_rfl) rfl
    (fun f fn hf hfn => by
      obtain rfl : f = 4 := Option.some.inj ((show Tryd.prog.funcNamed "scrinium/scriniumlaw04.CheckSeals" = some 4 by kernel_rfl).symm.trans hf) |>.symm
      obtain rfl : fn = Tryd.f4 := (Option.some.inj (Tryd.func4.symm.trans hfn)).symm
      exact ⟨by kernel_rfl, fun j t ht => by
        rw [Tryd.params4] at ht
        have hm : t ∈ [9] := by simpa using Array.mem_of_getElem? ht
        have hall : ([9].all fun u => !Tryd.prog.wantsStandIn u) = true := by kernel_rfl
        exact (show Tryd.prog.wantsStandIn t = false by simpa using List.all_eq_true.1 hall t hm)⟩)
    (by kernel_rfl)
end Go.Proofs.YthohdkpgckandaaDoor.checkSeals

theorem Go.Proofs.YthohdkpgckandaaDoor.checkSeals_holds : Go.Proofs.YthohdkpgckandaaDoor.Rows.CheckSealsCardSaid := Go.Proofs.YthohdkpgckandaaDoor.checkSeals.holds
#print axioms Go.Proofs.YthohdkpgckandaaDoor.checkSeals_holds
