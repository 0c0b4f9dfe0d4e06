/-
  CheckConst: each sealed text has one and the same sum. For every text (its first 500 bytes); the table is as the program's text lays it.
-/
import Derived.Test.YthohdkpgckandaaDoorCrcLaw
import Derived.Test.YthohdkpgckandaaDoorCrcAwake
namespace Go.Proofs.YthohdkpgckandaaDoor.checkConst
open Go.ChangeShapes Go.WideShapes Go.ChangeAt Go.RowKit

set_option maxHeartbeats 1000000 in
set_option maxRecDepth 100000 in
theorem walk {w : World} (hT : TW w) (s0 : ByteArray) (_ : s0.size ≤ maxLen) :
    Calls Tryd.prog 9 #[.string s0] w fun e w' => e = .returned (.bool true) ∧ Below w.heap.size w w' := by
  obtain ⟨S, hS⟩ : ∃ S, S = shortB s0 500 := ⟨_, rfl⟩
  obtain ⟨Z, hZ⟩ : ∃ Z, Z = sealB S := ⟨_, rfl⟩
  obtain ⟨g, hg⟩ : ∃ g, g = Crc.good := ⟨_, rfl⟩
  have hl : S.size ≤ 500 := by have := shortB_size s0 500; rw [hS]; omega
  have hz : Z.size = S.size + 4 := by rw [hZ, sealB_size]
  have ho : Crc.of Z.data.toList = g := by rw [hZ, sealB_data, Crc.of_seals, hg]
  have HZ : Hid (∀ w, TW w → Calls Tryd.prog 18 #[.string S] w fun e w' => e = .returned (.string Z) ∧ Below w.heap.size w w') := Lib.hid fun w h => by rw [hZ]; exact seal_any S (by omega) w h
  have HG : Hid (∀ v w, StrRow w v [Z] → TW w → Calls Tryd.prog 12 #[v] w fun e w' => e = .returned (.int .u32 (g : Nat)) ∧ Below w.heap.size w w') := Lib.hid fun v w h hT => by
    rw [← ho]; exact ofB_any v [Z] _ (flat_one Z) w h hT (by rw [← Lib.size_eq]; omega)
  have HE : Hid (∀ v w, StrRow w v [⟨#[0, 0, 0, 0]⟩] → TW w → Calls Tryd.prog 12 #[v] w fun e w' => e = .returned (.int .u32 (g : Nat)) ∧ Below w.heap.size w w') := Lib.hid fun v w h hT => by
    have e : Crc.of (sealB ⟨#[]⟩).data.toList = g := by rw [sealB_data, Crc.of_seals, hg]
    rw [sealB_nil] at e
    rw [← e]
    exact ofB_any v _ _ (flat_one _) w h hT (by decide)
  have HW : Hid (∀ w, TW w → Calls Tryd.prog 20 #[.string Z] w fun e w' => e = .returned (.bool true) ∧ Below w.heap.size w w') := Lib.hid fun w h => by
    have := whole_any Z _ rfl w h (by rw [← Lib.size_eq]; omega)
    rwa [decide_eq_true (ho.trans hg)] at this
  have Hn : Hid ((S.size : Int) + 4 = (Z.size : Int)) := Lib.hid (by omega)
  have Hr : Hid (-9223372036854775808 ≤ (Z.size : Int) ∧ (Z.size : Int) ≤ 9223372036854775807) := Lib.hid (by omega)
  have Hb := Lib.hid hS
  clear hS hZ hg hl hz ho
  go_enter Tryd.func9, Tryd.ntmps9
  go_upto_region 3 with (first
    | (go_at_call 10; refine (awake4_any w hT).mono ?_; rintro e w1 ⟨rfl, b1⟩)
    | (go_at_call 11; refine (short4_any s0 500 500 rfl _).mono ?_; rintro e w2 ⟨rfl, rfl⟩; rw [← Hb.out]))
  have hT1 := hT.old b1
  try simp only [Act.put]
  refine wp_region_tab0 [RT.is (.bool true), RT.is (.bool true), RT.is (.string S), RT.is (.string Z), RT.row [Z], RT.is (.int .u32 (g : Nat)), RT.is (.string ⟨#[0, 0, 0, 0]⟩), RT.row [⟨#[0, 0, 0, 0]⟩], RT.is (.int .u32 (g : Nat)), RT.is (.bool true), RT.is (.bool true), RT.is (.bool true), RT.is (.string S), RT.is (.string Z), RT.is (.bool true), RT.is (.bool true), RT.is (.bool true), RT.is (.string S), RT.is (.string Z), RT.is (.int .i64 Z.size), RT.is (.string S), RT.is (.int .i64 S.size), RT.is (.int .i64 (Z.size : Nat)), RT.is (.bool true), RT.is (.bool true), RT.is (.bool true)] (by kernel_rfl) (by kernel_rfl) (by kernel_rfl) ⟨?_, ?_, ?_, ?_, ?_, ?_, ?_, ?_, ?_, ?_, ?_, ?_, ?_, ?_, ?_, ?_, ?_, ?_, ?_, ?_, ?_, ?_, ?_, ?_, ?_, ?_, trivial⟩ ?_
  · intro ac w' hF hL hP hU K hK
    have hB : Below _ _ _ := hL
    have e3 : ac.eval (.tmp 3) = .bool true := hF.at 3 (by kernel_rfl)
    exact rop_move _ rfl e3 (wanted_none rfl) (hK _ _ (le8_refl _) rfl)
  · intro ac w' hF hL hP hU K hK
    have hB : Below _ _ _ := hL
    have e7 : ac.eval (.tmp 7) = .bool true := hP 0 (by kernel_rfl)
    exact rop_move _ rfl e7 (wanted_none rfl) (hK _ _ (le8_refl _) rfl)
  · intro ac w' hF hL hP hU K hK
    have hB : Below _ _ _ := hL
    have e0 : ac.eval (.tmp 0) = .string S := hF.at 0 (by kernel_rfl)
    have e8 : ac.eval (.tmp 8) = .bool true := hP 1 (by kernel_rfl)
    exact rop_move _ rfl e0 (wanted_of (j := 1) (b := true) rfl rfl e8) (hK _ _ (le8_refl _) rfl)
  · intro ac w' hF hL hP hU K hK
    have hB : Below _ _ _ := hL
    have e9 : ac.eval (.tmp 9) = .string S := hP 2 (by kernel_rfl)
    have e8 : ac.eval (.tmp 8) = .bool true := hP 1 (by kernel_rfl)
    refine rop_call 18 _ _ rfl #[.string S] (by simp [e9]) (by kernel_rfl) (wanted_of (j := 1) (b := true) rfl rfl e8) ?_
    refine (HZ.out w' (hT1.old hB)).mono ?_
    rintro e w2 ⟨rfl, hb⟩
    exact ⟨_, rfl, hK _ _ hb rfl⟩
  · intro ac w' hF hL hP hU K hK
    have hB : Below _ _ _ := hL
    have e10 : ac.eval (.tmp 10) = .string Z := hP 3 (by kernel_rfl)
    have e8 : ac.eval (.tmp 8) = .bool true := hP 1 (by kernel_rfl)
    refine rop_texts 1 _ rfl [Z] ?_ rfl (by decide) (by decide) (wanted_of (j := 1) (b := true) rfl rfl e8) (fun v w2 hb hr => hK v w2 hb hr)
    simp [e10, List.range, List.range.loop]
  · intro ac w' hF hL hP hU K hK
    have hB : Below _ _ _ := hL
    have e11 : StrRow w' (ac.eval (.tmp 11)) [Z] := hP 4 (by kernel_rfl)
    have e8 : ac.eval (.tmp 8) = .bool true := hP 1 (by kernel_rfl)
    refine rop_call 12 _ _ rfl #[ac.eval (.tmp 11)] (by simp [Act.eval]) (by kernel_rfl) (wanted_of (j := 1) (b := true) rfl rfl e8) ?_
    refine (HG.out _ w' e11 (hT1.old hB)).mono ?_
    rintro e w2 ⟨rfl, hb⟩
    exact ⟨_, rfl, hK _ _ hb rfl⟩
  · intro ac w' hF hL hP hU K hK
    have hB : Below _ _ _ := hL
    have e8 : ac.eval (.tmp 8) = .bool true := hP 1 (by kernel_rfl)
    refine rop_call 18 _ _ rfl #[.string { data := #[] }] (by simp [eval_const]) (by kernel_rfl) (wanted_of (j := 1) (b := true) rfl rfl e8) ?_
    refine (seal_nothing w' (hT1.old hB)).mono ?_
    rintro e w2 ⟨rfl, hb⟩
    exact ⟨_, rfl, hK _ _ hb rfl⟩
  · intro ac w' hF hL hP hU K hK
    have hB : Below _ _ _ := hL
    have e13 : ac.eval (.tmp 13) = .string ⟨#[0, 0, 0, 0]⟩ := hP 6 (by kernel_rfl)
    have e8 : ac.eval (.tmp 8) = .bool true := hP 1 (by kernel_rfl)
    refine rop_texts 1 _ rfl [⟨#[0, 0, 0, 0]⟩] ?_ rfl (by decide) (by decide) (wanted_of (j := 1) (b := true) rfl rfl e8) (fun v w2 hb hr => hK v w2 hb hr)
    simp [e13, List.range, List.range.loop]
  · intro ac w' hF hL hP hU K hK
    have hB : Below _ _ _ := hL
    have e14 : StrRow w' (ac.eval (.tmp 14)) [⟨#[0, 0, 0, 0]⟩] := hP 7 (by kernel_rfl)
    have e8 : ac.eval (.tmp 8) = .bool true := hP 1 (by kernel_rfl)
    refine rop_call 12 _ _ rfl #[ac.eval (.tmp 14)] (by simp [Act.eval]) (by kernel_rfl) (wanted_of (j := 1) (b := true) rfl rfl e8) ?_
    refine (HE.out _ w' e14 (hT1.old hB)).mono ?_
    rintro e w2 ⟨rfl, hb⟩
    exact ⟨_, rfl, hK _ _ hb rfl⟩
  · intro ac w' hF hL hP hU K hK
    have hB : Below _ _ _ := hL
    have e12 : ac.eval (.tmp 12) = .int .u32 (g : Nat) := hP 5 (by kernel_rfl)
    have e15 : ac.eval (.tmp 15) = .int .u32 (g : Nat) := hP 8 (by kernel_rfl)
    have e8 : ac.eval (.tmp 8) = .bool true := hP 1 (by kernel_rfl)
    exact rop_bin _ _ _ _ _ rfl e12 e15 (guard_int _ _ _ _ _ _ _ w') (eql_u32_t _ _ rfl w') (wanted_of (j := 1) (b := true) rfl rfl e8) (hK _ _ (le8_refl _) rfl)
  · intro ac w' hF hL hP hU K hK
    have hB : Below _ _ _ := hL
    have e8 : ac.eval (.tmp 8) = .bool true := hP 1 (by kernel_rfl)
    have e16 : ac.eval (.tmp 16) = .bool true := hP 9 (by kernel_rfl)
    exact rop_pick _ _ _ rfl true e8 (by simpa using e16) (wanted_none rfl) (hK _ _ (le8_refl _) rfl)
  · intro ac w' hF hL hP hU K hK
    have hB : Below _ _ _ := hL
    have e17 : ac.eval (.tmp 17) = .bool true := hP 10 (by kernel_rfl)
    exact rop_move _ rfl e17 (wanted_none rfl) (hK _ _ (le8_refl _) rfl)
  · intro ac w' hF hL hP hU K hK
    have hB : Below _ _ _ := hL
    have e0 : ac.eval (.tmp 0) = .string S := hF.at 0 (by kernel_rfl)
    have e18 : ac.eval (.tmp 18) = .bool true := hP 11 (by kernel_rfl)
    exact rop_move _ rfl e0 (wanted_of (j := 11) (b := true) rfl rfl e18) (hK _ _ (le8_refl _) rfl)
  · intro ac w' hF hL hP hU K hK
    have hB : Below _ _ _ := hL
    have e19 : ac.eval (.tmp 19) = .string S := hP 12 (by kernel_rfl)
    have e18 : ac.eval (.tmp 18) = .bool true := hP 11 (by kernel_rfl)
    refine rop_call 18 _ _ rfl #[.string S] (by simp [e19]) (by kernel_rfl) (wanted_of (j := 11) (b := true) rfl rfl e18) ?_
    refine (HZ.out w' (hT1.old hB)).mono ?_
    rintro e w2 ⟨rfl, hb⟩
    exact ⟨_, rfl, hK _ _ hb rfl⟩
  · intro ac w' hF hL hP hU K hK
    have hB : Below _ _ _ := hL
    have e20 : ac.eval (.tmp 20) = .string Z := hP 13 (by kernel_rfl)
    have e18 : ac.eval (.tmp 18) = .bool true := hP 11 (by kernel_rfl)
    refine rop_call 20 _ _ rfl #[.string Z] (by simp [e20]) (by kernel_rfl) (wanted_of (j := 11) (b := true) rfl rfl e18) ?_
    refine (HW.out w' (hT1.old hB)).mono ?_
    rintro e w2 ⟨rfl, hb⟩
    exact ⟨_, rfl, hK _ _ hb rfl⟩
  · intro ac w' hF hL hP hU K hK
    have hB : Below _ _ _ := hL
    have e18 : ac.eval (.tmp 18) = .bool true := hP 11 (by kernel_rfl)
    have e21 : ac.eval (.tmp 21) = .bool true := hP 14 (by kernel_rfl)
    exact rop_pick _ _ _ rfl true e18 (by simpa using e21) (wanted_none rfl) (hK _ _ (le8_refl _) rfl)
  · intro ac w' hF hL hP hU K hK
    have hB : Below _ _ _ := hL
    have e22 : ac.eval (.tmp 22) = .bool true := hP 15 (by kernel_rfl)
    exact rop_move _ rfl e22 (wanted_none rfl) (hK _ _ (le8_refl _) rfl)
  · intro ac w' hF hL hP hU K hK
    have hB : Below _ _ _ := hL
    have e0 : ac.eval (.tmp 0) = .string S := hF.at 0 (by kernel_rfl)
    have e23 : ac.eval (.tmp 23) = .bool true := hP 16 (by kernel_rfl)
    exact rop_move _ rfl e0 (wanted_of (j := 16) (b := true) rfl rfl e23) (hK _ _ (le8_refl _) rfl)
  · intro ac w' hF hL hP hU K hK
    have hB : Below _ _ _ := hL
    have e24 : ac.eval (.tmp 24) = .string S := hP 17 (by kernel_rfl)
    have e23 : ac.eval (.tmp 23) = .bool true := hP 16 (by kernel_rfl)
    refine rop_call 18 _ _ rfl #[.string S] (by simp [e24]) (by kernel_rfl) (wanted_of (j := 16) (b := true) rfl rfl e23) ?_
    refine (HZ.out w' (hT1.old hB)).mono ?_
    rintro e w2 ⟨rfl, hb⟩
    exact ⟨_, rfl, hK _ _ hb rfl⟩
  · intro ac w' hF hL hP hU K hK
    have hB : Below _ _ _ := hL
    have e25 : ac.eval (.tmp 25) = .string Z := hP 18 (by kernel_rfl)
    have e23 : ac.eval (.tmp 23) = .bool true := hP 16 (by kernel_rfl)
    exact rop_len_str _ rfl _ e25 (wanted_of (j := 16) (b := true) rfl rfl e23) (hK _ _ (le8_refl _) rfl)
  · intro ac w' hF hL hP hU K hK
    have hB : Below _ _ _ := hL
    have e0 : ac.eval (.tmp 0) = .string S := hF.at 0 (by kernel_rfl)
    have e23 : ac.eval (.tmp 23) = .bool true := hP 16 (by kernel_rfl)
    exact rop_move _ rfl e0 (wanted_of (j := 16) (b := true) rfl rfl e23) (hK _ _ (le8_refl _) rfl)
  · intro ac w' hF hL hP hU K hK
    have hB : Below _ _ _ := hL
    have e27 : ac.eval (.tmp 27) = .string S := hP 20 (by kernel_rfl)
    have e23 : ac.eval (.tmp 23) = .bool true := hP 16 (by kernel_rfl)
    exact rop_len_str _ rfl _ e27 (wanted_of (j := 16) (b := true) rfl rfl e23) (hK _ _ (le8_refl _) rfl)
  · intro ac w' hF hL hP hU K hK
    have hB : Below _ _ _ := hL
    have e28 : ac.eval (.tmp 28) = .int .i64 S.size := hP 21 (by kernel_rfl)
    have e23 : ac.eval (.tmp 23) = .bool true := hP 16 (by kernel_rfl)
    exact rop_bin _ _ _ _ _ rfl e28 rfl (guard_int _ _ _ _ _ _ _ w') (add_int _ _ _ Hn.out Hr.out w') (wanted_of (j := 16) (b := true) rfl rfl e23) (hK _ _ (le8_refl _) rfl)
  · intro ac w' hF hL hP hU K hK
    have hB : Below _ _ _ := hL
    have e26 : ac.eval (.tmp 26) = .int .i64 Z.size := hP 19 (by kernel_rfl)
    have e29 : ac.eval (.tmp 29) = .int .i64 (Z.size : Nat) := hP 22 (by kernel_rfl)
    have e23 : ac.eval (.tmp 23) = .bool true := hP 16 (by kernel_rfl)
    exact rop_bin _ _ _ _ _ rfl e26 e29 (guard_int _ _ _ _ _ _ _ w') (eql_int_t _ _ rfl w') (wanted_of (j := 16) (b := true) rfl rfl e23) (hK _ _ (le8_refl _) rfl)
  · intro ac w' hF hL hP hU K hK
    have hB : Below _ _ _ := hL
    have e23 : ac.eval (.tmp 23) = .bool true := hP 16 (by kernel_rfl)
    have e30 : ac.eval (.tmp 30) = .bool true := hP 23 (by kernel_rfl)
    exact rop_pick _ _ _ rfl true e23 (by simpa using e30) (wanted_none rfl) (hK _ _ (le8_refl _) rfl)
  · intro ac w' hF hL hP hU K hK
    have hB : Below _ _ _ := hL
    have e31 : ac.eval (.tmp 31) = .bool true := hP 24 (by kernel_rfl)
    exact rop_assign _ rfl e31 (wanted_none rfl) (hK _ _ (le8_refl _) rfl)
  · intro ac w' hF hB hT
    have e2 : ac.eval (.tmp 2) = .bool true := hT 25 (by decide)
    rw [hF.lit 32 rfl]
    simp only [List.range, List.range.loop, List.map_cons, List.map_nil, e2]
    go_wp2
    go_ret
    exact ⟨rfl, below_step b1 (Nat.le_refl _) hB⟩

set_option maxRecDepth 100000 in
theorem lifted (os : Os) (started : os.Started) (H : Type) (enc : TypeId × Value → H) :
    ReturnsInHanded {} Tryd.checked os 9 .any (fun w args => (Rows.checkConstSpec.pre enc Tryd.prog Tryd.f9 [] false w args ∧ laidMetH Tryd.prog [("scrinium/check.fourSteps", Rows.laid_scrinium_check_fourSteps)] w) ∧ sizedMet enc Tryd.prog Tryd.f9 (OpenSpec.ofChange Rows.checkConstSpec) false w args)
      (Rows.checkConstSpec.post enc Tryd.prog Tryd.f9 false true false false) := by
  refine returnsInHanded_of_change_and (C := Tryd.checked) (X := fun w _ => laidMetH Tryd.prog [("scrinium/check.fourSteps", Rows.laid_scrinium_check_fourSteps)] w) (fun _ _ _ hh h => h.of_heap hh) lawOwn started (by kernel_rfl) Tryd.func9
    (ChangeSpec.witness_shaped (enc := enc) (C := Tryd.checked) (os := os) (X := fun w _ => laidMetH Tryd.prog [("scrinium/check.fourSteps", Rows.laid_scrinium_check_fourSteps)] w) false (World.doorLaid Tryd.prog 400 os) #[.string .empty] 8 rfl (World.shaped_of_RefB (by kernel_rfl) (by kernel_rfl)) (by kernel_rfl) (by kernel_rfl) (by kernel_rfl) (door_met os _)) ?_
  intro W base args ds gs before hval0 hW _ _ hL _
  have hval : ∀ (j : Nat) t v, Tryd.f9.params[j]? = some t → args[j]? = some v → Value.okWide Tryd.prog W .any base t v := hval0
  have hW' := hW
  obtain ⟨p, q, hA0, hV, rfl, hfz, hnd⟩ := hW
  have hA : DataW.TrodAll enc Tryd.prog W 0 (fun _ => true) true Tryd.f9.params.toList args.toList ds p := hA0
  rw [Tryd.params9] at hA hval
  obtain ⟨v0, vs0, d0, ds0, p0, q0, hargs, rfl, rfl, h0, r0⟩ := trodAll_cons hA
  obtain ⟨rfl, rfl, rfl⟩ := trodAll_nil r0
  obtain rfl : args = #[v0] := by cases args; simp_all
  obtain ⟨rfl, rfl⟩ := trodVars_none hV
  have hKT := KT_of_laid hL
  obtain ⟨s0, rfl, rfl, rfl, w0⟩ := Go.ChangeMaps.open_string Tryd.underlying9 (hval 0 9 v0 rfl rfl) h0
  clear hA0 hval0
  refine (walk (w := W) hKT s0 w0).mono fun e W' ⟨he, bel⟩ => ?_
  subst he
  exact ⟨_, rfl, law_post rfl rfl (by kernel_rfl) hW' rfl bel⟩

theorem row_holds : Rows.CheckConstSaid :=
  OpenClaim.holds_of_wide 9 Tryd.f9 rfl rfl rfl rfl rfl rfl rfl ⟨rfl, rfl, rfl, rfl, rfl⟩ rfl rfl rfl rfl rfl (by kernel_rfl) Tryd.func9 (by kernel_rfl)
    (of_decide_eq_true (by kernel_rfl)) (by unfold Func.isWrapper; first | (rw [if_pos (by decide +kernel)]; kernel_rfl) | (rw [if_neg (by decide +kernel)]; exact ⟨rfl, rfl⟩))
    (fun os started H enc _ => lifted os started H enc)

theorem holds : Rows.CheckConstCardSaid :=
  Claim7.holds_tied_plain_at .later [] [.data] true Rows.checkConstCard.stood.harness false
    row_holds (fun _ h => by cases h) (by kernel_rfl) (fun _ h => by cases h) checkConst_row_tie rfl ⟨rfl, rfl⟩ (by kernel_rfl) rfl
    (fun f fn hf hfn => by
      obtain rfl : f = 9 := Option.some.inj ((show Tryd.prog.funcNamed "scrinium/scriniumlaw04.CheckConst" = some 9 by kernel_rfl).symm.trans hf) |>.symm
      obtain rfl : fn = Tryd.f9 := (Option.some.inj (Tryd.func9.symm.trans hfn)).symm
      exact ⟨by kernel_rfl, fun j t ht => by
        rw [Tryd.params9] at ht
        have hm : t ∈ [9] := by simpa using Array.mem_of_getElem? ht
        have hall : ([9].all fun u => !Tryd.prog.wantsStandIn u) = true := by kernel_rfl
        exact (show Tryd.prog.wantsStandIn t = false by simpa using List.all_eq_true.1 hall t hm)⟩)
    (by kernel_rfl)
end Go.Proofs.YthohdkpgckandaaDoor.checkConst

theorem Go.Proofs.YthohdkpgckandaaDoor.checkConst_holds : Go.Proofs.YthohdkpgckandaaDoor.Rows.CheckConstCardSaid := Go.Proofs.YthohdkpgckandaaDoor.checkConst.holds
#print axioms Go.Proofs.YthohdkpgckandaaDoor.checkConst_holds
