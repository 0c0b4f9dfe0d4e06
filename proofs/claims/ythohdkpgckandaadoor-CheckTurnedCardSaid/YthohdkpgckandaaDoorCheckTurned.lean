/-
  CheckTurned: of two texts of one length that differ in up to 32 bits in a row the sums differ. For every text (its first 300 bytes), any place, any 32 bits; the table is as the program's text lays it.
-/
import Derived.Test.YthohdkpgckandaaDoorCrcLaw
import Derived.Test.YthohdkpgckandaaDoorCrcAwake
import Derived.Test.YthohdkpgckandaaDoorCrcTurn
namespace Go.Proofs.YthohdkpgckandaaDoor.checkTurned
open Go.ChangeShapes Go.WideShapes Go.ChangeAt Go.RowKit

set_option maxHeartbeats 1000000 in
set_option maxRecDepth 100000 in
theorem walk {w : World} (hT : TW w) (s0 : ByteArray) (_ : s0.size ≤ maxLen) (z : Int) (lo : -9223372036854775808 ≤ z) (hi : z ≤ 9223372036854775807) (b : Nat) (hb : b < 4294967296) :
    Calls Tryd.prog 6 #[.string s0, .int .i64 z, .int .u32 b] w fun e w' => e = .returned (.bool true) ∧ Below w.heap.size w w' := by
  obtain ⟨S, hS⟩ : ∃ S, S = shortB s0 300 := ⟨_, rfl⟩
  have hl : S.size ≤ 300 := by have := shortB_size s0 300; rw [hS]; omega
  have Hb := Lib.hid hS
  clear hS
  by_cases h5 : S.size < 5
  · go_enter Tryd.func6, Tryd.ntmps6
    go_wp2_with (first
      | (go_at_call 10; refine (awake4_any w hT).mono ?_; rintro e w1 ⟨rfl, b1⟩)
      | (go_at_call 11; refine (short4_any s0 300 300 rfl _).mono ?_; rintro e w2 ⟨rfl, rfl⟩; rw [← Hb.out]))
    go_ret
    exact ⟨rfl, b1⟩
  by_cases h0 : b = 0
  · subst h0
    go_enter Tryd.func6, Tryd.ntmps6
    go_wp2_with (first
      | (go_at_call 10; refine (awake4_any w hT).mono ?_; rintro e w1 ⟨rfl, b1⟩)
      | (go_at_call 11; refine (short4_any s0 300 300 rfl _).mono ?_; rintro e w2 ⟨rfl, rfl⟩; rw [← Hb.out]))
    go_ret
    exact ⟨rfl, b1⟩
  have h5' : 5 ≤ S.size := by omega
  have hle := turnAt_le S.size h5' z
  obtain ⟨X, hX⟩ : ∃ X, X = turnB S z b := ⟨_, rfl⟩
  have sX : X.size = S.size := by rw [hX, turnB_size]
  obtain ⟨p, hp⟩ : ∃ p, p = Crc.of X.data.toList := ⟨_, rfl⟩
  obtain ⟨q, hq⟩ : ∃ q, q = Crc.of S.data.toList := ⟨_, rfl⟩
  have hne : p ≠ q := by
    rw [hp, hq, hX, turnB_data]
    exact Crc.of_turn _ _ b (by rw [← Lib.size_eq]; exact hle) hb h0
  have HX : Hid (∀ w, Calls Tryd.prog 21 #[.string S, .int .i64 z, .int .u32 b] w fun e w' => e = .returned (.string X) ∧ Below w.heap.size w w') := Lib.hid fun w => by
    rw [hX]; exact turned_any S h5' (by omega) z lo hi b hb w
  have HP : Hid (∀ v w, StrRow w v [X] → TW w → Calls Tryd.prog 12 #[v] w fun e w' => e = .returned (.int .u32 (p : Nat)) ∧ Below w.heap.size w w') := Lib.hid fun v w h hT => by
    rw [hp]; exact ofB_any v _ _ (flat_one X) w h hT (by rw [← Lib.size_eq]; omega)
  have HQ : Hid (∀ v w, StrRow w v [S] → TW w → Calls Tryd.prog 12 #[v] w fun e w' => e = .returned (.int .u32 (q : Nat)) ∧ Below w.heap.size w w') := Lib.hid fun v w h hT => by
    rw [hq]; exact ofB_any v _ _ (flat_one S) w h hT (by rw [← Lib.size_eq]; omega)
  have Hne : Hid ((p : Int) ≠ (q : Int)) := Lib.hid fun e => hne (by omega)
  have hb0 : ((b : Int) == 0) = false := by simp; omega
  clear hX sX hp hq hne hle
  go_enter Tryd.func6, Tryd.ntmps6
  go_upto_region 5 with (first
    | (go_at_call 10; refine (awake4_any w hT).mono ?_; rintro e w1 ⟨rfl, b1⟩)
    | (go_at_call 11; refine (short4_any s0 300 300 rfl _).mono ?_; rintro e w2 ⟨rfl, rfl⟩; rw [← Hb.out]))
  have hT1 := hT.old b1
  try simp only [Act.put]
  refine wp_region_tab0 [RT.is (.bool true), RT.is (.bool true), RT.is (.string S), RT.is (.int .i64 z), RT.is (.int .u32 b), RT.is (.string X), RT.row [X], RT.is (.int .u32 (p : Nat)), RT.is (.string S), RT.row [S], RT.is (.int .u32 (q : Nat)), RT.is (.bool true), RT.is (.bool true), RT.is (.bool true)] (by kernel_rfl) (by kernel_rfl) (by kernel_rfl) ⟨?_, ?_, ?_, ?_, ?_, ?_, ?_, ?_, ?_, ?_, ?_, ?_, ?_, ?_, trivial⟩ ?_
  · intro ac w' hF hL hP hU K hK
    have hB : Below _ _ _ := hL
    have e7 : ac.eval (.tmp 7) = .bool true := hF.at 7 (by kernel_rfl)
    exact rop_move _ rfl e7 (wanted_none rfl) (hK _ _ (le8_refl _) rfl)
  · intro ac w' hF hL hP hU K hK
    have hB : Below _ _ _ := hL
    have e19 : ac.eval (.tmp 19) = .bool true := hP 0 (by kernel_rfl)
    exact rop_move _ rfl e19 (wanted_none rfl) (hK _ _ (le8_refl _) rfl)
  · intro ac w' hF hL hP hU K hK
    have hB : Below _ _ _ := hL
    have e0 : ac.eval (.tmp 0) = .string S := hF.at 0 (by kernel_rfl)
    have e20 : ac.eval (.tmp 20) = .bool true := hP 1 (by kernel_rfl)
    exact rop_move _ rfl e0 (wanted_of (j := 1) (b := true) rfl rfl e20) (hK _ _ (le8_refl _) rfl)
  · intro ac w' hF hL hP hU K hK
    have hB : Below _ _ _ := hL
    have e1 : ac.eval (.tmp 1) = .int .i64 z := hF.at 1 (by kernel_rfl)
    have e20 : ac.eval (.tmp 20) = .bool true := hP 1 (by kernel_rfl)
    exact rop_move _ rfl e1 (wanted_of (j := 1) (b := true) rfl rfl e20) (hK _ _ (le8_refl _) rfl)
  · intro ac w' hF hL hP hU K hK
    have hB : Below _ _ _ := hL
    have e2 : ac.eval (.tmp 2) = .int .u32 b := hF.at 2 (by kernel_rfl)
    have e20 : ac.eval (.tmp 20) = .bool true := hP 1 (by kernel_rfl)
    exact rop_move _ rfl e2 (wanted_of (j := 1) (b := true) rfl rfl e20) (hK _ _ (le8_refl _) rfl)
  · intro ac w' hF hL hP hU K hK
    have hB : Below _ _ _ := hL
    have e21 : ac.eval (.tmp 21) = .string S := hP 2 (by kernel_rfl)
    have e22 : ac.eval (.tmp 22) = .int .i64 z := hP 3 (by kernel_rfl)
    have e23 : ac.eval (.tmp 23) = .int .u32 b := hP 4 (by kernel_rfl)
    have e20 : ac.eval (.tmp 20) = .bool true := hP 1 (by kernel_rfl)
    refine rop_call 21 _ _ rfl #[.string S, .int .i64 z, .int .u32 b] (by simp [e21, e22, e23]) (by kernel_rfl) (wanted_of (j := 1) (b := true) rfl rfl e20) ?_
    refine (HX.out w').mono ?_
    rintro e w2 ⟨rfl, hb⟩
    exact ⟨_, rfl, hK _ _ hb rfl⟩
  · intro ac w' hF hL hP hU K hK
    have hB : Below _ _ _ := hL
    have e24 : ac.eval (.tmp 24) = .string X := hP 5 (by kernel_rfl)
    have e20 : ac.eval (.tmp 20) = .bool true := hP 1 (by kernel_rfl)
    refine rop_texts 1 _ rfl [X] ?_ rfl (by decide) (by decide) (wanted_of (j := 1) (b := true) rfl rfl e20) (fun v w2 hb hr => hK v w2 hb hr)
    simp [e24, List.range, List.range.loop]
  · intro ac w' hF hL hP hU K hK
    have hB : Below _ _ _ := hL
    have e25 : StrRow w' (ac.eval (.tmp 25)) [X] := hP 6 (by kernel_rfl)
    have e20 : ac.eval (.tmp 20) = .bool true := hP 1 (by kernel_rfl)
    refine rop_call 12 _ _ rfl #[ac.eval (.tmp 25)] (by simp [Act.eval]) (by kernel_rfl) (wanted_of (j := 1) (b := true) rfl rfl e20) ?_
    refine (HP.out _ w' e25 (hT1.old hB)).mono ?_
    rintro e w2 ⟨rfl, hb⟩
    exact ⟨_, rfl, hK _ _ hb rfl⟩
  · intro ac w' hF hL hP hU K hK
    have hB : Below _ _ _ := hL
    have e0 : ac.eval (.tmp 0) = .string S := hF.at 0 (by kernel_rfl)
    have e20 : ac.eval (.tmp 20) = .bool true := hP 1 (by kernel_rfl)
    exact rop_move _ rfl e0 (wanted_of (j := 1) (b := true) rfl rfl e20) (hK _ _ (le8_refl _) rfl)
  · intro ac w' hF hL hP hU K hK
    have hB : Below _ _ _ := hL
    have e27 : ac.eval (.tmp 27) = .string S := hP 8 (by kernel_rfl)
    have e20 : ac.eval (.tmp 20) = .bool true := hP 1 (by kernel_rfl)
    refine rop_texts 1 _ rfl [S] ?_ rfl (by decide) (by decide) (wanted_of (j := 1) (b := true) rfl rfl e20) (fun v w2 hb hr => hK v w2 hb hr)
    simp [e27, List.range, List.range.loop]
  · intro ac w' hF hL hP hU K hK
    have hB : Below _ _ _ := hL
    have e28 : StrRow w' (ac.eval (.tmp 28)) [S] := hP 9 (by kernel_rfl)
    have e20 : ac.eval (.tmp 20) = .bool true := hP 1 (by kernel_rfl)
    refine rop_call 12 _ _ rfl #[ac.eval (.tmp 28)] (by simp [Act.eval]) (by kernel_rfl) (wanted_of (j := 1) (b := true) rfl rfl e20) ?_
    refine (HQ.out _ w' e28 (hT1.old hB)).mono ?_
    rintro e w2 ⟨rfl, hb⟩
    exact ⟨_, rfl, hK _ _ hb rfl⟩
  · intro ac w' hF hL hP hU K hK
    have hB : Below _ _ _ := hL
    have e26 : ac.eval (.tmp 26) = .int .u32 (p : Nat) := hP 7 (by kernel_rfl)
    have e29 : ac.eval (.tmp 29) = .int .u32 (q : Nat) := hP 10 (by kernel_rfl)
    have e20 : ac.eval (.tmp 20) = .bool true := hP 1 (by kernel_rfl)
    exact rop_bin _ _ _ _ _ rfl e26 e29 (guard_int _ _ _ _ _ _ _ w') (neq_u32_t _ _ Hne.out w') (wanted_of (j := 1) (b := true) rfl rfl e20) (hK _ _ (le8_refl _) rfl)
  · intro ac w' hF hL hP hU K hK
    have hB : Below _ _ _ := hL
    have e20 : ac.eval (.tmp 20) = .bool true := hP 1 (by kernel_rfl)
    have e30 : ac.eval (.tmp 30) = .bool true := hP 11 (by kernel_rfl)
    exact rop_pick _ _ _ rfl true e20 (by simpa using e30) (wanted_none rfl) (hK _ _ (le8_refl _) rfl)
  · intro ac w' hF hL hP hU K hK
    have hB : Below _ _ _ := hL
    have e31 : ac.eval (.tmp 31) = .bool true := hP 12 (by kernel_rfl)
    exact rop_assign _ rfl e31 (wanted_none rfl) (hK _ _ (le8_refl _) rfl)
  · intro ac w' hF hB hT
    have e6 : ac.eval (.tmp 6) = .bool true := hT 13 (by decide)
    rw [hF.lit 32 rfl]
    simp only [List.range, List.range.loop, List.map_cons, List.map_nil, e6]
    go_wp2
    go_ret
    exact ⟨rfl, below_step b1 (Nat.le_refl _) hB⟩

set_option maxRecDepth 100000 in
theorem lifted (os : Os) (started : os.Started) (H : Type) (enc : TypeId × Value → H) :
    ReturnsInHanded {} Tryd.checked os 6 .any (fun w args => (Rows.checkTurnedSpec.pre enc Tryd.prog Tryd.f6 [] false w args ∧ laidMetH Tryd.prog [("scrinium/check.fourSteps", Rows.laid_scrinium_check_fourSteps)] w) ∧ sizedMet enc Tryd.prog Tryd.f6 (OpenSpec.ofChange Rows.checkTurnedSpec) false w args)
      (Rows.checkTurnedSpec.post enc Tryd.prog Tryd.f6 false true false false) := by
  refine returnsInHanded_of_change_and (C := Tryd.checked) (X := fun w _ => laidMetH Tryd.prog [("scrinium/check.fourSteps", Rows.laid_scrinium_check_fourSteps)] w) (fun _ _ _ hh h => h.of_heap hh) lawOwn started (by kernel_rfl) Tryd.func6
    (ChangeSpec.witness_shaped (enc := enc) (C := Tryd.checked) (os := os) (X := fun w _ => laidMetH Tryd.prog [("scrinium/check.fourSteps", Rows.laid_scrinium_check_fourSteps)] w) false (World.doorLaid Tryd.prog 400 os) #[.string .empty, .int .i64 0, .int .u32 0] 8 rfl (World.shaped_of_RefB (by kernel_rfl) (by kernel_rfl)) (by kernel_rfl) (by kernel_rfl) (by kernel_rfl) (door_met os _)) ?_
  intro W base args ds gs before hval0 hW _ _ hL _
  have hval : ∀ (j : Nat) t v, Tryd.f6.params[j]? = some t → args[j]? = some v → Value.okWide Tryd.prog W .any base t v := hval0
  have hW' := hW
  obtain ⟨p, q, hA0, hV, rfl, hfz, hnd⟩ := hW
  have hA : DataW.TrodAll enc Tryd.prog W 0 (fun _ => true) true Tryd.f6.params.toList args.toList ds p := hA0
  rw [Tryd.params6] at hA hval
  obtain ⟨v0, vs0, d0, ds0, p0, q0, hargs, rfl, rfl, h0, r0⟩ := trodAll_cons hA
  obtain ⟨v1, vs1, d1, ds1, p1, q1, rfl, rfl, rfl, h1, r1⟩ := trodAll_cons r0
  obtain ⟨v2, vs2, d2, ds2, p2, q2, rfl, rfl, rfl, h2, r2⟩ := trodAll_cons r1
  obtain ⟨rfl, rfl, rfl⟩ := trodAll_nil r2
  obtain rfl : args = #[v0, v1, v2] := by cases args; simp_all
  obtain ⟨rfl, rfl⟩ := trodVars_none hV
  have hKT := KT_of_laid hL
  obtain ⟨s0, rfl, rfl, rfl, w0⟩ := Go.ChangeMaps.open_string Tryd.underlying9 (hval 0 9 v0 rfl rfl) h0
  obtain ⟨a1, rfl, rfl, rfl, w1⟩ := open_int Tryd.underlying3 (hval 1 3 v1 rfl rfl) h1
  obtain ⟨a2, rfl, rfl, rfl, w2⟩ := open_int Tryd.underlying22 (hval 2 22 v2 rfl rfl) h2
  obtain ⟨n2, rfl, l2⟩ := u32_nat w2
  clear hA0 hval0
  obtain ⟨l1, m1⟩ := i64_bounds w1
  refine (walk (w := W) hKT s0 w0 a1 l1 m1 n2 l2).mono fun e W' ⟨he, bel⟩ => ?_
  subst he
  exact ⟨_, rfl, law_post rfl rfl (by kernel_rfl) hW' rfl bel⟩

theorem row_holds : Rows.CheckTurnedSaid :=
  OpenClaim.holds_of_wide 6 Tryd.f6 rfl rfl rfl rfl rfl rfl rfl ⟨rfl, rfl, rfl, rfl, rfl⟩ rfl rfl rfl rfl rfl (by kernel_rfl) Tryd.func6 (by kernel_rfl)
    (of_decide_eq_true (by kernel_rfl)) (by unfold Func.isWrapper; first | (rw [if_pos (by decide +kernel)]; kernel_rfl) | (rw [if_neg (by decide +kernel)]; exact ⟨rfl, rfl⟩))
    (fun os started H enc _ => lifted os started H enc)

theorem holds : Rows.CheckTurnedCardSaid :=
  Claim7.holds_tied_plain_at .later [] [.data] true Rows.checkTurnedCard.stood.harness false
    row_holds (fun _ h => by cases h) (by kernel_rfl) (fun _ h => by cases h) checkTurned_row_tie rfl ⟨rfl, rfl⟩ (by kernel_rfl) rfl
    (fun f fn hf hfn => by
      obtain rfl : f = 6 := Option.some.inj ((show Tryd.prog.funcNamed "scrinium/scriniumlaw04.CheckTurned" = some 6 by kernel_rfl).symm.trans hf) |>.symm
      obtain rfl : fn = Tryd.f6 := (Option.some.inj (Tryd.func6.symm.trans hfn)).symm
      exact ⟨by kernel_rfl, fun j t ht => by
        rw [Tryd.params6] at ht
        have hm : t ∈ [9, 3, 22] := by simpa using Array.mem_of_getElem? ht
        have hall : ([9, 3, 22].all fun u => !Tryd.prog.wantsStandIn u) = true := by kernel_rfl
        exact (show Tryd.prog.wantsStandIn t = false by simpa using List.all_eq_true.1 hall t hm)⟩)
    (by kernel_rfl)
end Go.Proofs.YthohdkpgckandaaDoor.checkTurned

theorem Go.Proofs.YthohdkpgckandaaDoor.checkTurned_holds : Go.Proofs.YthohdkpgckandaaDoor.Rows.CheckTurnedCardSaid := Go.Proofs.YthohdkpgckandaaDoor.checkTurned.holds
#print axioms Go.Proofs.YthohdkpgckandaaDoor.checkTurned_holds
