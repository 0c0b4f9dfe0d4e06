/-
  CheckSums: sums are as P4.1 says. For every number and every text (its first 1000 bytes); the table is as the program's text lays it.
-/
import Derived.Test.YthohdkpgckandaaDoorCrcLaw
import Derived.Test.YthohdkpgckandaaDoorCrcAwake
namespace Go.Proofs.YthohdkpgckandaaDoor.checkSums
open Go.ChangeShapes Go.WideShapes Go.ChangeAt Go.RowKit

set_option maxHeartbeats 1000000 in
set_option maxRecDepth 100000 in
theorem walk {w : World} (hT : TW w) (c : Nat) (hc : c < 4294967296) (s0 : ByteArray) (_ : s0.size ≤ maxLen) :
    Calls Tryd.prog 3 #[.int .u32 c, .string s0] w fun e w' => e = .returned (.bool true) ∧ Below w.heap.size w w' := by
  obtain ⟨S, hS⟩ : ∃ S, S = shortB s0 1000 := ⟨_, rfl⟩
  obtain ⟨s, hs⟩ : ∃ s, s = S.data.toList := ⟨_, rfl⟩
  have hl : Hid (s.length ≤ 9223372036854775807) := Lib.hid (by have := shortB_size s0 1000; rw [hs, ← Lib.size_eq, hS]; omega)
  have Hb := Lib.hid hS
  have Hs := Lib.hid hs.symm
  have HS : Hid (flat [S] = s) := Lib.hid (by rw [flat_one, hs])
  clear hS hs
  go_enter Tryd.func3, Tryd.ntmps3
  go_upto_region 3 with (first
    | (go_at_call 10; refine (awake4_any w hT).mono ?_; rintro e w1 ⟨rfl, b1⟩)
    | (go_at_call 11; refine (short4_any s0 1000 1000 rfl _).mono ?_; rintro e w2 ⟨rfl, rfl⟩; rw [← Hb.out]))
  have hT1 := hT.old b1
  try simp only [Act.put]
  refine wp_region_tab0 [RT.is (.bool true), RT.is (.bool true), RT.is (.string S), RT.row [S], RT.is (.int .u32 (Crc.of s : Nat)), RT.is (.string S), RT.is (.int .u32 (Crc.of s : Nat)), RT.is (.bool true), RT.is (.bool true), RT.is (.bool true), RT.is (.int .u32 c), RT.is (.string S), RT.is (.int .u32 (Crc.add c s : Nat)), RT.is (.int .u32 c), RT.is (.string S), RT.is (.int .u32 (Crc.add c s : Nat)), RT.is (.bool true), RT.is (.bool true), RT.is (.bool true)] (by kernel_rfl) (by kernel_rfl) (by kernel_rfl) ⟨?_, ?_, ?_, ?_, ?_, ?_, ?_, ?_, ?_, ?_, ?_, ?_, ?_, ?_, ?_, ?_, ?_, ?_, ?_, trivial⟩ ?_
  · intro ac w' hF hL hP hU K hK
    have hB : Below _ _ _ := hL
    have e5 : ac.eval (.tmp 5) = .bool true := hF.at 5 (by kernel_rfl)
    exact rop_move _ rfl e5 (wanted_none rfl) (hK _ _ (le8_refl _) rfl)
  · intro ac w' hF hL hP hU K hK
    have hB : Below _ _ _ := hL
    have e9 : ac.eval (.tmp 9) = .bool true := hP 0 (by kernel_rfl)
    exact rop_move _ rfl e9 (wanted_none rfl) (hK _ _ (le8_refl _) rfl)
  · intro ac w' hF hL hP hU K hK
    have hB : Below _ _ _ := hL
    have e1 : ac.eval (.tmp 1) = .string S := hF.at 1 (by kernel_rfl)
    have e10 : ac.eval (.tmp 10) = .bool true := hP 1 (by kernel_rfl)
    exact rop_move _ rfl e1 (wanted_of (j := 1) (b := true) rfl rfl e10) (hK _ _ (le8_refl _) rfl)
  · intro ac w' hF hL hP hU K hK
    have hB : Below _ _ _ := hL
    have e11 : ac.eval (.tmp 11) = .string S := hP 2 (by kernel_rfl)
    have e10 : ac.eval (.tmp 10) = .bool true := hP 1 (by kernel_rfl)
    refine rop_texts 1 _ rfl [S] ?_ rfl (by decide) (by decide) (wanted_of (j := 1) (b := true) rfl rfl e10) (fun v w2 hb hr => hK v w2 hb hr)
    simp [e11, List.range, List.range.loop]
  · intro ac w' hF hL hP hU K hK
    have hB : Below _ _ _ := hL
    have e12 : StrRow w' (ac.eval (.tmp 12)) [S] := hP 3 (by kernel_rfl)
    have e10 : ac.eval (.tmp 10) = .bool true := hP 1 (by kernel_rfl)
    refine rop_call 12 _ _ rfl #[ac.eval (.tmp 12)] (by simp [Act.eval]) (by kernel_rfl) (wanted_of (j := 1) (b := true) rfl rfl e10) ?_
    refine (ofB_any _ [S] s HS.out w' e12 (hT1.old hB) hl.out).mono ?_
    rintro e w2 ⟨rfl, hb⟩
    exact ⟨_, rfl, hK _ _ hb rfl⟩
  · intro ac w' hF hL hP hU K hK
    have hB : Below _ _ _ := hL
    have e1 : ac.eval (.tmp 1) = .string S := hF.at 1 (by kernel_rfl)
    have e10 : ac.eval (.tmp 10) = .bool true := hP 1 (by kernel_rfl)
    exact rop_move _ rfl e1 (wanted_of (j := 1) (b := true) rfl rfl e10) (hK _ _ (le8_refl _) rfl)
  · intro ac w' hF hL hP hU K hK
    have hB : Below _ _ _ := hL
    have e14 : ac.eval (.tmp 14) = .string S := hP 5 (by kernel_rfl)
    have e10 : ac.eval (.tmp 10) = .bool true := hP 1 (by kernel_rfl)
    refine rop_call 13 _ _ rfl #[.string S] (by simp [e14]) (by kernel_rfl) (wanted_of (j := 1) (b := true) rfl rfl e10) ?_
    refine (rofB_any S s Hs.out hl.out w').mono ?_
    rintro e w2 ⟨rfl, hb⟩
    exact ⟨_, rfl, hK _ _ hb rfl⟩
  · intro ac w' hF hL hP hU K hK
    have hB : Below _ _ _ := hL
    have e13 : ac.eval (.tmp 13) = .int .u32 (Crc.of s : Nat) := hP 4 (by kernel_rfl)
    have e15 : ac.eval (.tmp 15) = .int .u32 (Crc.of s : Nat) := hP 6 (by kernel_rfl)
    have e10 : ac.eval (.tmp 10) = .bool true := hP 1 (by kernel_rfl)
    exact rop_bin _ _ _ _ _ rfl e13 e15 (guard_int _ _ _ _ _ _ _ w') (eql_u32_t _ _ rfl w') (wanted_of (j := 1) (b := true) rfl rfl e10) (hK _ _ (le8_refl _) rfl)
  · intro ac w' hF hL hP hU K hK
    have hB : Below _ _ _ := hL
    have e10 : ac.eval (.tmp 10) = .bool true := hP 1 (by kernel_rfl)
    have e16 : ac.eval (.tmp 16) = .bool true := hP 7 (by kernel_rfl)
    exact rop_pick _ _ _ rfl true e10 (by simpa using e16) (wanted_none rfl) (hK _ _ (le8_refl _) rfl)
  · intro ac w' hF hL hP hU K hK
    have hB : Below _ _ _ := hL
    have e17 : ac.eval (.tmp 17) = .bool true := hP 8 (by kernel_rfl)
    exact rop_move _ rfl e17 (wanted_none rfl) (hK _ _ (le8_refl _) rfl)
  · intro ac w' hF hL hP hU K hK
    have hB : Below _ _ _ := hL
    have e0 : ac.eval (.tmp 0) = .int .u32 c := hF.at 0 (by kernel_rfl)
    have e18 : ac.eval (.tmp 18) = .bool true := hP 9 (by kernel_rfl)
    exact rop_move _ rfl e0 (wanted_of (j := 9) (b := true) rfl rfl e18) (hK _ _ (le8_refl _) rfl)
  · intro ac w' hF hL hP hU K hK
    have hB : Below _ _ _ := hL
    have e1 : ac.eval (.tmp 1) = .string S := hF.at 1 (by kernel_rfl)
    have e18 : ac.eval (.tmp 18) = .bool true := hP 9 (by kernel_rfl)
    exact rop_move _ rfl e1 (wanted_of (j := 9) (b := true) rfl rfl e18) (hK _ _ (le8_refl _) rfl)
  · intro ac w' hF hL hP hU K hK
    have hB : Below _ _ _ := hL
    have e19 : ac.eval (.tmp 19) = .int .u32 c := hP 10 (by kernel_rfl)
    have e20 : ac.eval (.tmp 20) = .string S := hP 11 (by kernel_rfl)
    have e18 : ac.eval (.tmp 18) = .bool true := hP 9 (by kernel_rfl)
    refine rop_call 14 _ _ rfl #[.int .u32 c, .string S] (by simp [e19, e20]) (by kernel_rfl) (wanted_of (j := 9) (b := true) rfl rfl e18) ?_
    refine (addB_any c hc S s Hs.out hl.out w' (hT1.old hB)).mono ?_
    rintro e w2 ⟨rfl, hb⟩
    exact ⟨_, rfl, hK _ _ hb rfl⟩
  · intro ac w' hF hL hP hU K hK
    have hB : Below _ _ _ := hL
    have e0 : ac.eval (.tmp 0) = .int .u32 c := hF.at 0 (by kernel_rfl)
    have e18 : ac.eval (.tmp 18) = .bool true := hP 9 (by kernel_rfl)
    exact rop_move _ rfl e0 (wanted_of (j := 9) (b := true) rfl rfl e18) (hK _ _ (le8_refl _) rfl)
  · intro ac w' hF hL hP hU K hK
    have hB : Below _ _ _ := hL
    have e1 : ac.eval (.tmp 1) = .string S := hF.at 1 (by kernel_rfl)
    have e18 : ac.eval (.tmp 18) = .bool true := hP 9 (by kernel_rfl)
    exact rop_move _ rfl e1 (wanted_of (j := 9) (b := true) rfl rfl e18) (hK _ _ (le8_refl _) rfl)
  · intro ac w' hF hL hP hU K hK
    have hB : Below _ _ _ := hL
    have e22 : ac.eval (.tmp 22) = .int .u32 c := hP 13 (by kernel_rfl)
    have e23 : ac.eval (.tmp 23) = .string S := hP 14 (by kernel_rfl)
    have e18 : ac.eval (.tmp 18) = .bool true := hP 9 (by kernel_rfl)
    refine rop_call 15 _ _ rfl #[.int .u32 c, .string S] (by simp [e22, e23]) (by kernel_rfl) (wanted_of (j := 9) (b := true) rfl rfl e18) ?_
    refine (raddB_any c hc S s Hs.out hl.out w').mono ?_
    rintro e w2 ⟨rfl, hb⟩
    exact ⟨_, rfl, hK _ _ hb rfl⟩
  · intro ac w' hF hL hP hU K hK
    have hB : Below _ _ _ := hL
    have e21 : ac.eval (.tmp 21) = .int .u32 (Crc.add c s : Nat) := hP 12 (by kernel_rfl)
    have e24 : ac.eval (.tmp 24) = .int .u32 (Crc.add c s : Nat) := hP 15 (by kernel_rfl)
    have e18 : ac.eval (.tmp 18) = .bool true := hP 9 (by kernel_rfl)
    exact rop_bin _ _ _ _ _ rfl e21 e24 (guard_int _ _ _ _ _ _ _ w') (eql_u32_t _ _ rfl w') (wanted_of (j := 9) (b := true) rfl rfl e18) (hK _ _ (le8_refl _) rfl)
  · intro ac w' hF hL hP hU K hK
    have hB : Below _ _ _ := hL
    have e18 : ac.eval (.tmp 18) = .bool true := hP 9 (by kernel_rfl)
    have e25 : ac.eval (.tmp 25) = .bool true := hP 16 (by kernel_rfl)
    exact rop_pick _ _ _ rfl true e18 (by simpa using e25) (wanted_none rfl) (hK _ _ (le8_refl _) rfl)
  · intro ac w' hF hL hP hU K hK
    have hB : Below _ _ _ := hL
    have e26 : ac.eval (.tmp 26) = .bool true := hP 17 (by kernel_rfl)
    exact rop_assign _ rfl e26 (wanted_none rfl) (hK _ _ (le8_refl _) rfl)
  · intro ac w' hF hB hT
    have e4 : ac.eval (.tmp 4) = .bool true := hT 18 (by decide)
    rw [hF.lit 27 rfl]
    simp only [List.range, List.range.loop, List.map_cons, List.map_nil, e4]
    go_wp2
    go_ret
    exact ⟨rfl, below_step b1 (Nat.le_refl _) hB⟩

set_option maxRecDepth 100000 in
theorem lifted (os : Os) (started : os.Started) (H : Type) (enc : TypeId × Value → H) :
    ReturnsInHanded {} Tryd.checked os 3 .any (fun w args => (Rows.checkSumsSpec.pre enc Tryd.prog Tryd.f3 [] false w args ∧ laidMetH Tryd.prog [("scrinium/check.fourSteps", Rows.laid_scrinium_check_fourSteps)] w) ∧ sizedMet enc Tryd.prog Tryd.f3 (OpenSpec.ofChange Rows.checkSumsSpec) false w args)
      (Rows.checkSumsSpec.post enc Tryd.prog Tryd.f3 false true false false) := by
  refine returnsInHanded_of_change_and (C := Tryd.checked) (X := fun w _ => laidMetH Tryd.prog [("scrinium/check.fourSteps", Rows.laid_scrinium_check_fourSteps)] w) (fun _ _ _ hh h => h.of_heap hh) lawOwn started (by kernel_rfl) Tryd.func3
    (ChangeSpec.witness_shaped (enc := enc) (C := Tryd.checked) (os := os) (X := fun w _ => laidMetH Tryd.prog [("scrinium/check.fourSteps", Rows.laid_scrinium_check_fourSteps)] w) false (World.doorLaid Tryd.prog 400 os) #[.int .u32 0, .string .empty] 8 rfl (World.shaped_of_RefB (by kernel_rfl) (by kernel_rfl)) (by kernel_rfl) (by kernel_rfl) (by kernel_rfl) (door_met os _)) ?_
  intro W base args ds gs before hval0 hW _ _ hL _
  have hval : ∀ (j : Nat) t v, Tryd.f3.params[j]? = some t → args[j]? = some v → Value.okWide Tryd.prog W .any base t v := hval0
  have hW' := hW
  obtain ⟨p, q, hA0, hV, rfl, hfz, hnd⟩ := hW
  have hA : DataW.TrodAll enc Tryd.prog W 0 (fun _ => true) true Tryd.f3.params.toList args.toList ds p := hA0
  rw [Tryd.params3] at hA hval
  obtain ⟨v0, vs0, d0, ds0, p0, q0, hargs, rfl, rfl, h0, r0⟩ := trodAll_cons hA
  obtain ⟨v1, vs1, d1, ds1, p1, q1, rfl, rfl, rfl, h1, r1⟩ := trodAll_cons r0
  obtain ⟨rfl, rfl, rfl⟩ := trodAll_nil r1
  obtain rfl : args = #[v0, v1] := by cases args; simp_all
  obtain ⟨rfl, rfl⟩ := trodVars_none hV
  have hKT := KT_of_laid hL
  obtain ⟨a0, rfl, rfl, rfl, w0⟩ := open_int Tryd.underlying22 (hval 0 22 v0 rfl rfl) h0
  obtain ⟨n0, rfl, l0⟩ := u32_nat w0
  obtain ⟨s1, rfl, rfl, rfl, w1⟩ := Go.ChangeMaps.open_string Tryd.underlying9 (hval 1 9 v1 rfl rfl) h1
  clear hA0 hval0
  refine (walk (w := W) hKT n0 l0 s1 w1).mono fun e W' ⟨he, bel⟩ => ?_
  subst he
  exact ⟨_, rfl, law_post rfl rfl (by kernel_rfl) hW' rfl bel⟩

theorem row_holds : Rows.CheckSumsSaid :=
  OpenClaim.holds_of_wide 3 Tryd.f3 rfl rfl rfl rfl rfl rfl rfl ⟨rfl, rfl, rfl, rfl, rfl⟩ rfl rfl rfl rfl rfl (by kernel_rfl) Tryd.func3 (by kernel_rfl)
    (of_decide_eq_true (by kernel_rfl)) (by unfold Func.isWrapper; first | (rw [if_pos (by decide +kernel)]; kernel_rfl) | (rw [if_neg (by decide +kernel)]; exact ⟨rfl, rfl⟩))
    (fun os started H enc _ => lifted os started H enc)

theorem holds : Rows.CheckSumsCardSaid :=
  Claim7.holds_tied_plain_at .later [] [.data] true Rows.checkSumsCard.stood.harness false
    row_holds (fun _ h => by cases h) (by kernel_rfl) (fun _ h => by cases h) checkSums_row_tie rfl ⟨rfl, rfl⟩ (by kernel_rfl) rfl
    (fun f fn hf hfn => by
      obtain rfl : f = 3 := Option.some.inj ((show Tryd.prog.funcNamed "scrinium/scriniumlaw04.CheckSums" = some 3 by kernel_rfl).symm.trans hf) |>.symm
      obtain rfl : fn = Tryd.f3 := (Option.some.inj (Tryd.func3.symm.trans hfn)).symm
      exact ⟨by kernel_rfl, fun j t ht => by
        rw [Tryd.params3] at ht
        have hm : t ∈ [22, 9] := by simpa using Array.mem_of_getElem? ht
        have hall : ([22, 9].all fun u => !Tryd.prog.wantsStandIn u) = true := by kernel_rfl
        exact (show Tryd.prog.wantsStandIn t = false by simpa using List.all_eq_true.1 hall t hm)⟩)
    (by kernel_rfl)
end Go.Proofs.YthohdkpgckandaaDoor.checkSums

theorem Go.Proofs.YthohdkpgckandaaDoor.checkSums_holds : Go.Proofs.YthohdkpgckandaaDoor.Rows.CheckSumsCardSaid := Go.Proofs.YthohdkpgckandaaDoor.checkSums.holds
#print axioms Go.Proofs.YthohdkpgckandaaDoor.checkSums_holds
