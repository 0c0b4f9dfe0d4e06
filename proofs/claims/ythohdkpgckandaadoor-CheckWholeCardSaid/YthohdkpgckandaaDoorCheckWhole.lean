/-
  CheckWhole: a text of 4 bytes and more is whole just if it is sealed. For every text (its first 500 bytes); the table is as the program's text lays it.
-/
import Derived.Test.YthohdkpgckandaaDoorCrcLaw
import Derived.Test.YthohdkpgckandaaDoorCrcAwake
namespace Go.Proofs.YthohdkpgckandaaDoor.checkWhole
open Go.ChangeShapes Go.WideShapes Go.ChangeAt Go.RowKit

set_option maxHeartbeats 1000000 in
set_option maxRecDepth 100000 in
theorem walk {w : World} (hT : TW w) (s0 : ByteArray) (_ : s0.size ≤ maxLen) :
    Calls Tryd.prog 5 #[.string s0] w fun e w' => e = .returned (.bool true) ∧ Below w.heap.size w w' := by
  obtain ⟨S, hS⟩ : ∃ S, S = shortB s0 500 := ⟨_, rfl⟩
  have hl : S.size ≤ 500 := by have := shortB_size s0 500; rw [hS]; omega
  have Hb := Lib.hid hS
  clear hS
  by_cases h4 : S.size < 4
  · go_enter Tryd.func5, Tryd.ntmps5
    go_wp2_with (first
      | (go_at_call 10; refine (awake4_any w hT).mono ?_; rintro e w1 ⟨rfl, b1⟩)
      | (go_at_call 11; refine (short4_any s0 500 500 rfl _).mono ?_; rintro e w2 ⟨rfl, rfl⟩; rw [← Hb.out]))
    go_ret
    exact ⟨rfl, b1⟩
  have h4' : 4 ≤ S.size := by omega
  obtain ⟨n, hn⟩ : ∃ n, n = S.size - 4 := ⟨_, rfl⟩
  obtain ⟨X, hX⟩ : ∃ X, X = S.extract 0 n := ⟨_, rfl⟩
  obtain ⟨Z, hZ⟩ : ∃ Z, Z = sealB X := ⟨_, rfl⟩
  obtain ⟨O, hO⟩ : ∃ O, O = openB S := ⟨_, rfl⟩
  obtain ⟨b, hb⟩ : ∃ b, b = sealed S := ⟨_, rfl⟩
  have Hd : Hid (b = decide (Z = S)) := Lib.hid (by rw [hb, hZ, hX, hn, sealed_iff h4'])
  have HZ : Hid (∀ w, TW w → Calls Tryd.prog 18 #[.string X] w fun e w' => e = .returned (.string Z) ∧ Below w.heap.size w w') := Lib.hid fun w h => by rw [hZ]; exact seal_any X (by rw [hX, ByteArray.size_extract]; omega) w h
  have HO : Hid (∀ w, TW w → Calls Tryd.prog 16 #[.string S] w fun e w' => e = .returned (.tuple #[.string O, .bool b]) ∧ Below w.heap.size w w') := Lib.hid fun w h => by rw [hO, hb]; exact open_any S w h (by omega)
  have HW : Hid (∀ w, TW w → Calls Tryd.prog 20 #[.string S] w fun e w' => e = .returned (.bool b) ∧ Below w.heap.size w w') := Lib.hid fun w h => by
    rw [hb, sealed_long h4']; exact whole_any S _ rfl w h (by rw [← Lib.size_eq]; omega)
  have Hn : Hid ((S.size : Int) - 4 = (n : Int)) := Lib.hid (by omega)
  have Hr : Hid (-9223372036854775808 ≤ (n : Int) ∧ (n : Int) ≤ 9223372036854775807) := Lib.hid (by omega)
  have Hle : Hid (n ≤ S.size) := Lib.hid (by omega)
  have HX := Lib.hid hX.symm
  clear hn hX hZ hO hb
  go_enter Tryd.func5, Tryd.ntmps5
  go_upto_region 6 with (first
    | (go_at_call 10; refine (awake4_any w hT).mono ?_; rintro e w1 ⟨rfl, b1⟩; have hT1 := hT.old b1)
    | (go_at_call 11; refine (short4_any s0 500 500 rfl _).mono ?_; rintro e w2 ⟨rfl, rfl⟩; rw [← Hb.out])
    | (go_at_call 16; refine (HO.out w1 hT1).mono ?_; rintro e w2 ⟨rfl, b2⟩; have hT2 := hT1.old b2))
  try simp only [Act.put]
  refine wp_region_tab0 [RT.is (.bool true), RT.is (.bool true), RT.is (.string S), RT.is (.bool b), RT.is (.bool b), RT.is (.bool true), RT.is (.bool true), RT.is (.bool true), RT.is (.bool b), RT.is (.string S), RT.is (.string S), RT.is (.int .i64 S.size), RT.is (.int .i64 (n : Nat)), RT.is (.string X), RT.is (.string Z), RT.is (.string S), RT.is (.bool (decide (Z = S))), RT.is (.bool true), RT.is (.bool true), RT.is (.bool true)] (by kernel_rfl) (by kernel_rfl) (by kernel_rfl) ⟨?_, ?_, ?_, ?_, ?_, ?_, ?_, ?_, ?_, ?_, ?_, ?_, ?_, ?_, ?_, ?_, ?_, ?_, ?_, ?_, trivial⟩ ?_
  · intro ac w' hF hL hP hU K hK
    have hB : Below _ _ _ := hL
    have e3 : ac.eval (.tmp 3) = .bool true := hF.at 3 (by kernel_rfl)
    exact rop_move _ rfl e3 (wanted_none rfl) (hK _ _ (le8_refl _) rfl)
  · intro ac w' hF hL hP hU K hK
    have hB : Below _ _ _ := hL
    have e18 : ac.eval (.tmp 18) = .bool true := hP 0 (by kernel_rfl)
    exact rop_move _ rfl e18 (wanted_none rfl) (hK _ _ (le8_refl _) rfl)
  · intro ac w' hF hL hP hU K hK
    have hB : Below _ _ _ := hL
    have e0 : ac.eval (.tmp 0) = .string S := hF.at 0 (by kernel_rfl)
    have e19 : ac.eval (.tmp 19) = .bool true := hP 1 (by kernel_rfl)
    exact rop_move _ rfl e0 (wanted_of (j := 1) (b := true) rfl rfl e19) (hK _ _ (le8_refl _) rfl)
  · intro ac w' hF hL hP hU K hK
    have hB : Below _ _ _ := hL
    have e20 : ac.eval (.tmp 20) = .string S := hP 2 (by kernel_rfl)
    have e19 : ac.eval (.tmp 19) = .bool true := hP 1 (by kernel_rfl)
    refine rop_call 20 _ _ rfl #[.string S] (by simp [e20]) (by kernel_rfl) (wanted_of (j := 1) (b := true) rfl rfl e19) ?_
    refine (HW.out w' (hT2.old hB)).mono ?_
    rintro e w2 ⟨rfl, hb⟩
    exact ⟨_, rfl, hK _ _ hb rfl⟩
  · intro ac w' hF hL hP hU K hK
    have hB : Below _ _ _ := hL
    have e5 : ac.eval (.tmp 5) = .bool b := hF.at 5 (by kernel_rfl)
    have e19 : ac.eval (.tmp 19) = .bool true := hP 1 (by kernel_rfl)
    exact rop_move _ rfl e5 (wanted_of (j := 1) (b := true) rfl rfl e19) (hK _ _ (le8_refl _) rfl)
  · intro ac w' hF hL hP hU K hK
    have hB : Below _ _ _ := hL
    have e21 : ac.eval (.tmp 21) = .bool b := hP 3 (by kernel_rfl)
    have e22 : ac.eval (.tmp 22) = .bool b := hP 4 (by kernel_rfl)
    have e19 : ac.eval (.tmp 19) = .bool true := hP 1 (by kernel_rfl)
    exact rop_bin _ _ _ _ _ rfl e21 e22 (guard_bool _ _ _ _ _ _ w') (eql_bool_t _ _ rfl w') (wanted_of (j := 1) (b := true) rfl rfl e19) (hK _ _ (le8_refl _) rfl)
  · intro ac w' hF hL hP hU K hK
    have hB : Below _ _ _ := hL
    have e19 : ac.eval (.tmp 19) = .bool true := hP 1 (by kernel_rfl)
    have e23 : ac.eval (.tmp 23) = .bool true := hP 5 (by kernel_rfl)
    exact rop_pick _ _ _ rfl true e19 (by simpa using e23) (wanted_none rfl) (hK _ _ (le8_refl _) rfl)
  · intro ac w' hF hL hP hU K hK
    have hB : Below _ _ _ := hL
    have e24 : ac.eval (.tmp 24) = .bool true := hP 6 (by kernel_rfl)
    exact rop_move _ rfl e24 (wanted_none rfl) (hK _ _ (le8_refl _) rfl)
  · intro ac w' hF hL hP hU K hK
    have hB : Below _ _ _ := hL
    have e5 : ac.eval (.tmp 5) = .bool b := hF.at 5 (by kernel_rfl)
    have e25 : ac.eval (.tmp 25) = .bool true := hP 7 (by kernel_rfl)
    exact rop_move _ rfl e5 (wanted_of (j := 7) (b := true) rfl rfl e25) (hK _ _ (le8_refl _) rfl)
  · intro ac w' hF hL hP hU K hK
    have hB : Below _ _ _ := hL
    have e0 : ac.eval (.tmp 0) = .string S := hF.at 0 (by kernel_rfl)
    have e25 : ac.eval (.tmp 25) = .bool true := hP 7 (by kernel_rfl)
    exact rop_move _ rfl e0 (wanted_of (j := 7) (b := true) rfl rfl e25) (hK _ _ (le8_refl _) rfl)
  · intro ac w' hF hL hP hU K hK
    have hB : Below _ _ _ := hL
    have e0 : ac.eval (.tmp 0) = .string S := hF.at 0 (by kernel_rfl)
    have e25 : ac.eval (.tmp 25) = .bool true := hP 7 (by kernel_rfl)
    exact rop_move _ rfl e0 (wanted_of (j := 7) (b := true) rfl rfl e25) (hK _ _ (le8_refl _) rfl)
  · intro ac w' hF hL hP hU K hK
    have hB : Below _ _ _ := hL
    have e28 : ac.eval (.tmp 28) = .string S := hP 10 (by kernel_rfl)
    have e25 : ac.eval (.tmp 25) = .bool true := hP 7 (by kernel_rfl)
    exact rop_len_str _ rfl _ e28 (wanted_of (j := 7) (b := true) rfl rfl e25) (hK _ _ (le8_refl _) rfl)
  · intro ac w' hF hL hP hU K hK
    have hB : Below _ _ _ := hL
    have e29 : ac.eval (.tmp 29) = .int .i64 S.size := hP 11 (by kernel_rfl)
    have e25 : ac.eval (.tmp 25) = .bool true := hP 7 (by kernel_rfl)
    exact rop_bin _ _ _ _ _ rfl e29 rfl (guard_int _ _ _ _ _ _ _ w') (sub_int _ _ _ Hn.out Hr.out w') (wanted_of (j := 7) (b := true) rfl rfl e25) (hK _ _ (le8_refl _) rfl)
  · intro ac w' hF hL hP hU K hK
    have hB : Below _ _ _ := hL
    have e27 : ac.eval (.tmp 27) = .string S := hP 9 (by kernel_rfl)
    have e30 : ac.eval (.tmp 30) = .int .i64 (n : Nat) := hP 12 (by kernel_rfl)
    have e25 : ac.eval (.tmp 25) = .bool true := hP 7 (by kernel_rfl)
    exact rop_cut _ _ rfl S n e27 e30 Hle.out (wanted_of (j := 7) (b := true) rfl rfl e25) (hK _ _ (le8_refl _) (congrArg Value.string HX.out))
  · intro ac w' hF hL hP hU K hK
    have hB : Below _ _ _ := hL
    have e31 : ac.eval (.tmp 31) = .string X := hP 13 (by kernel_rfl)
    have e25 : ac.eval (.tmp 25) = .bool true := hP 7 (by kernel_rfl)
    refine rop_call 18 _ _ rfl #[.string X] (by simp [e31]) (by kernel_rfl) (wanted_of (j := 7) (b := true) rfl rfl e25) ?_
    refine (HZ.out w' (hT2.old hB)).mono ?_
    rintro e w2 ⟨rfl, hb⟩
    exact ⟨_, rfl, hK _ _ hb rfl⟩
  · intro ac w' hF hL hP hU K hK
    have hB : Below _ _ _ := hL
    have e0 : ac.eval (.tmp 0) = .string S := hF.at 0 (by kernel_rfl)
    have e25 : ac.eval (.tmp 25) = .bool true := hP 7 (by kernel_rfl)
    exact rop_move _ rfl e0 (wanted_of (j := 7) (b := true) rfl rfl e25) (hK _ _ (le8_refl _) rfl)
  · intro ac w' hF hL hP hU K hK
    have hB : Below _ _ _ := hL
    have e32 : ac.eval (.tmp 32) = .string Z := hP 14 (by kernel_rfl)
    have e33 : ac.eval (.tmp 33) = .string S := hP 15 (by kernel_rfl)
    have e25 : ac.eval (.tmp 25) = .bool true := hP 7 (by kernel_rfl)
    exact rop_bin _ _ _ _ _ rfl e32 e33 (guard_str _ _ _ _ _ _ w') (eql_str _ _ w') (wanted_of (j := 7) (b := true) rfl rfl e25) (hK _ _ (le8_refl _) rfl)
  · intro ac w' hF hL hP hU K hK
    have hB : Below _ _ _ := hL
    have e26 : ac.eval (.tmp 26) = .bool b := hP 8 (by kernel_rfl)
    have e34 : ac.eval (.tmp 34) = .bool (decide (Z = S)) := hP 16 (by kernel_rfl)
    have e25 : ac.eval (.tmp 25) = .bool true := hP 7 (by kernel_rfl)
    exact rop_bin _ _ _ _ _ rfl e26 e34 (guard_bool _ _ _ _ _ _ w') (eql_bool_t _ _ Hd.out w') (wanted_of (j := 7) (b := true) rfl rfl e25) (hK _ _ (le8_refl _) rfl)
  · intro ac w' hF hL hP hU K hK
    have hB : Below _ _ _ := hL
    have e25 : ac.eval (.tmp 25) = .bool true := hP 7 (by kernel_rfl)
    have e35 : ac.eval (.tmp 35) = .bool true := hP 17 (by kernel_rfl)
    exact rop_pick _ _ _ rfl true e25 (by simpa using e35) (wanted_none rfl) (hK _ _ (le8_refl _) rfl)
  · intro ac w' hF hL hP hU K hK
    have hB : Below _ _ _ := hL
    have e36 : ac.eval (.tmp 36) = .bool true := hP 18 (by kernel_rfl)
    exact rop_assign _ rfl e36 (wanted_none rfl) (hK _ _ (le8_refl _) rfl)
  · intro ac w' hF hB hT
    have e2 : ac.eval (.tmp 2) = .bool true := hT 19 (by decide)
    rw [hF.lit 37 rfl]
    simp only [List.range, List.range.loop, List.map_cons, List.map_nil, e2]
    go_wp2
    go_ret
    exact ⟨rfl, below_step (below_step b1 (Nat.le_refl _) b2) (Nat.le_refl _) hB⟩

set_option maxRecDepth 100000 in
theorem lifted (os : Os) (started : os.Started) (H : Type) (enc : TypeId × Value → H) :
    ReturnsInHanded {} Tryd.checked os 5 .any (fun w args => (Rows.checkWholeSpec.pre enc Tryd.prog Tryd.f5 [] false w args ∧ laidMetH Tryd.prog [("scrinium/check.fourSteps", Rows.laid_scrinium_check_fourSteps)] w) ∧ sizedMet enc Tryd.prog Tryd.f5 (OpenSpec.ofChange Rows.checkWholeSpec) false w args)
      (Rows.checkWholeSpec.post enc Tryd.prog Tryd.f5 false true false false) := by
  refine returnsInHanded_of_change_and (C := Tryd.checked) (X := fun w _ => laidMetH Tryd.prog [("scrinium/check.fourSteps", Rows.laid_scrinium_check_fourSteps)] w) (fun _ _ _ hh h => h.of_heap hh) lawOwn started (by kernel_rfl) Tryd.func5
    (ChangeSpec.witness_shaped (enc := enc) (C := Tryd.checked) (os := os) (X := fun w _ => laidMetH Tryd.prog [("scrinium/check.fourSteps", Rows.laid_scrinium_check_fourSteps)] w) false (World.doorLaid Tryd.prog 400 os) #[.string .empty] 8 rfl (World.shaped_of_RefB (by kernel_rfl) (by kernel_rfl)) (by kernel_rfl) (by kernel_rfl) (by kernel_rfl) (door_met os _)) ?_
  intro W base args ds gs before hval0 hW _ _ hL _
  have hval : ∀ (j : Nat) t v, Tryd.f5.params[j]? = some t → args[j]? = some v → Value.okWide Tryd.prog W .any base t v := hval0
  have hW' := hW
  obtain ⟨p, q, hA0, hV, rfl, hfz, hnd⟩ := hW
  have hA : DataW.TrodAll enc Tryd.prog W 0 (fun _ => true) true Tryd.f5.params.toList args.toList ds p := hA0
  rw [Tryd.params5] at hA hval
  obtain ⟨v0, vs0, d0, ds0, p0, q0, hargs, rfl, rfl, h0, r0⟩ := trodAll_cons hA
  obtain ⟨rfl, rfl, rfl⟩ := trodAll_nil r0
  obtain rfl : args = #[v0] := by cases args; simp_all
  obtain ⟨rfl, rfl⟩ := trodVars_none hV
  have hKT := KT_of_laid hL
  obtain ⟨s0, rfl, rfl, rfl, w0⟩ := Go.ChangeMaps.open_string Tryd.underlying9 (hval 0 9 v0 rfl rfl) h0
  clear hA0 hval0
  refine (walk (w := W) hKT s0 w0).mono fun e W' ⟨he, bel⟩ => ?_
  subst he
  exact ⟨_, rfl, law_post rfl rfl (by kernel_rfl) hW' rfl bel⟩

theorem row_holds : Rows.CheckWholeSaid :=
  OpenClaim.holds_of_wide 5 Tryd.f5 rfl rfl rfl rfl rfl rfl rfl ⟨rfl, rfl, rfl, rfl, rfl⟩ rfl rfl rfl rfl rfl (by kernel_rfl) Tryd.func5 (by kernel_rfl)
    (of_decide_eq_true (by kernel_rfl)) (by unfold Func.isWrapper; first | (rw [if_pos (by decide +kernel)]; kernel_rfl) | (rw [if_neg (by decide +kernel)]; exact ⟨rfl, rfl⟩))
    (fun os started H enc _ => lifted os started H enc)

theorem holds : Rows.CheckWholeCardSaid :=
  Claim7.holds_tied_plain_at .later [] [.data] true Rows.checkWholeCard.stood.harness false
    row_holds (fun _ h => by cases h) (by kernel_rfl) (fun _ h => by cases h) checkWhole_row_tie rfl ⟨rfl, rfl⟩ (by kernel_rfl) rfl
    (fun f fn hf hfn => by
      obtain rfl : f = 5 := Option.some.inj ((show Tryd.prog.funcNamed "scrinium/scriniumlaw04.CheckWhole" = some 5 by kernel_rfl).symm.trans hf) |>.symm
      obtain rfl : fn = Tryd.f5 := (Option.some.inj (Tryd.func5.symm.trans hfn)).symm
      exact ⟨by kernel_rfl, fun j t ht => by
        rw [Tryd.params5] at ht
        have hm : t ∈ [9] := by simpa using Array.mem_of_getElem? ht
        have hall : ([9].all fun u => !Tryd.prog.wantsStandIn u) = true := by kernel_rfl
        exact (show Tryd.prog.wantsStandIn t = false by simpa using List.all_eq_true.1 hall t hm)⟩)
    (by kernel_rfl)
end Go.Proofs.YthohdkpgckandaaDoor.checkWhole

theorem Go.Proofs.YthohdkpgckandaaDoor.checkWhole_holds : Go.Proofs.YthohdkpgckandaaDoor.Rows.CheckWholeCardSaid := Go.Proofs.YthohdkpgckandaaDoor.checkWhole.holds
#print axioms Go.Proofs.YthohdkpgckandaaDoor.checkWhole_holds
