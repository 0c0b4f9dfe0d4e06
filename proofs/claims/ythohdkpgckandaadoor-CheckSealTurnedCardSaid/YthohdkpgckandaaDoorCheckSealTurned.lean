/-
  CheckSealTurned: a sealed text, of which up to 32 bits in a row are turned, is not opened. For every text (its first 300 bytes), any place, any 32 bits; the table is as the program's text lays it.
-/
import Derived.Test.YthohdkpgckandaaDoorCrcLaw
import Derived.Test.YthohdkpgckandaaDoorCrcAwake
import Derived.Test.YthohdkpgckandaaDoorCrcTurn
namespace Go.Proofs.YthohdkpgckandaaDoor.checkSealTurned
open Go.ChangeShapes Go.WideShapes Go.ChangeAt Go.RowKit

set_option maxHeartbeats 1000000 in
set_option maxRecDepth 100000 in
theorem walk {w : World} (hT : TW w) (s0 : ByteArray) (_ : s0.size ≤ maxLen) (z : Int) (lo : -9223372036854775808 ≤ z) (hi : z ≤ 9223372036854775807) (b : Nat) (hb : b < 4294967296) :
    Calls Tryd.prog 7 #[.string s0, .int .i64 z, .int .u32 b] w fun e w' => e = .returned (.bool true) ∧ Below w.heap.size w w' := by
  obtain ⟨S, hS⟩ : ∃ S, S = shortB s0 300 := ⟨_, rfl⟩
  have hl : S.size ≤ 300 := by have := shortB_size s0 300; rw [hS]; omega
  have Hb := Lib.hid hS
  obtain ⟨Z, hZ⟩ : ∃ Z, Z = sealB S := ⟨_, rfl⟩
  have sZ : Z.size = S.size + 4 := by rw [hZ, sealB_size]
  have HZ : Hid (∀ w, TW w → Calls Tryd.prog 18 #[.string S] w fun e w' => e = .returned (.string Z) ∧ Below w.heap.size w w') := Lib.hid fun w h => by rw [hZ]; exact seal_any S (by omega) w h
  have hg : Crc.of Z.data.toList = Crc.good := by rw [hZ, sealB_data, Crc.of_seals]
  clear hS hZ
  by_cases h5 : Z.size < 5
  · go_enter Tryd.func7, Tryd.ntmps7
    go_wp2_with (first
      | (go_at_call 10; refine (awake4_any w hT).mono ?_; rintro e w1 ⟨rfl, b1⟩; have hT1 := hT.old b1)
      | (go_at_call 11; refine (short4_any s0 300 300 rfl _).mono ?_; rintro e w2 ⟨rfl, rfl⟩; rw [← Hb.out])
      | (go_at_call 18; refine (HZ.out w1 hT1).mono ?_; rintro e w2 ⟨rfl, b2⟩; have hT2 := hT1.old b2))
    go_ret
    exact ⟨rfl, below_step b1 (Nat.le_refl _) b2⟩
  by_cases h0 : b = 0
  · subst h0
    go_enter Tryd.func7, Tryd.ntmps7
    go_wp2_with (first
      | (go_at_call 10; refine (awake4_any w hT).mono ?_; rintro e w1 ⟨rfl, b1⟩; have hT1 := hT.old b1)
      | (go_at_call 11; refine (short4_any s0 300 300 rfl _).mono ?_; rintro e w2 ⟨rfl, rfl⟩; rw [← Hb.out])
      | (go_at_call 18; refine (HZ.out w1 hT1).mono ?_; rintro e w2 ⟨rfl, b2⟩; have hT2 := hT1.old b2))
    go_ret
    exact ⟨rfl, below_step b1 (Nat.le_refl _) b2⟩
  have h5' : 5 ≤ Z.size := by omega
  have hle := turnAt_le Z.size h5' z
  obtain ⟨X, hX⟩ : ∃ X, X = turnB Z z b := ⟨_, rfl⟩
  have sX : X.size = Z.size := by rw [hX, turnB_size]
  have hns : sealed X = false := by
    rw [sealed_long (by omega)]
    refine decide_eq_false ?_
    rw [← hg, hX, turnB_data]
    exact Crc.of_turn _ _ b (by rw [← Lib.size_eq]; exact hle) hb h0
  have HX : Hid (∀ w, Calls Tryd.prog 21 #[.string Z, .int .i64 z, .int .u32 b] w fun e w' => e = .returned (.string X) ∧ Below w.heap.size w w') := Lib.hid fun w => by
    rw [hX]; exact turned_any Z h5' (by omega) z lo hi b hb w
  obtain ⟨O, hO⟩ : ∃ O, O = openB X := ⟨_, rfl⟩
  have HO : Hid (∀ w, TW w → Calls Tryd.prog 16 #[.string X] w fun e w' => e = .returned (.tuple #[.string O, .bool false]) ∧ Below w.heap.size w w') := Lib.hid fun w h => by rw [hO, ← hns]; exact open_any X w h (by omega)
  have hb0 : ((b : Int) == 0) = false := by simp; omega
  clear hX sX hle hns hO hg
  go_enter Tryd.func7, Tryd.ntmps7
  go_wp2_with (first
    | (go_at_call 10; refine (awake4_any w hT).mono ?_; rintro e w1 ⟨rfl, b1⟩; have hT1 := hT.old b1)
    | (go_at_call 11; refine (short4_any s0 300 300 rfl _).mono ?_; rintro e w2 ⟨rfl, rfl⟩; rw [← Hb.out])
    | (go_at_call 18; refine (HZ.out w1 hT1).mono ?_; rintro e w2 ⟨rfl, b2⟩; have hT2 := hT1.old b2)
    | (go_at_call 21; refine (HX.out w2).mono ?_; rintro e w3 ⟨rfl, b3⟩; have hT3 := hT2.old b3)
    | (go_at_call 16; refine (HO.out w3 hT3).mono ?_; rintro e w4 ⟨rfl, b4⟩))
  go_ret
  exact ⟨rfl, below_step (below_step (below_step b1 (Nat.le_refl _) b2) (Nat.le_refl _) b3) (Nat.le_refl _) b4⟩

set_option maxRecDepth 100000 in
theorem lifted (os : Os) (started : os.Started) (H : Type) (enc : TypeId × Value → H) :
    ReturnsInHanded {} Tryd.checked os 7 .any (fun w args => (Rows.checkSealTurnedSpec.pre enc Tryd.prog Tryd.f7 [] false w args ∧ laidMetH Tryd.prog [("scrinium/check.fourSteps", Rows.laid_scrinium_check_fourSteps)] w) ∧ sizedMet enc Tryd.prog Tryd.f7 (OpenSpec.ofChange Rows.checkSealTurnedSpec) false w args)
      (Rows.checkSealTurnedSpec.post enc Tryd.prog Tryd.f7 false true false false) := by
  refine returnsInHanded_of_change_and (C := Tryd.checked) (X := fun w _ => laidMetH Tryd.prog [("scrinium/check.fourSteps", Rows.laid_scrinium_check_fourSteps)] w) (fun _ _ _ hh h => h.of_heap hh) lawOwn started (by kernel_rfl) Tryd.func7
    (ChangeSpec.witness_shaped (enc := enc) (C := Tryd.checked) (os := os) (X := fun w _ => laidMetH Tryd.prog [("scrinium/check.fourSteps", Rows.laid_scrinium_check_fourSteps)] w) false (World.doorLaid Tryd.prog 400 os) #[.string .empty, .int .i64 0, .int .u32 0] 8 rfl (World.shaped_of_RefB (by kernel_rfl) (by kernel_rfl)) (by kernel_rfl) (by kernel_rfl) (by kernel_rfl) (door_met os _)) ?_
  intro W base args ds gs before hval0 hW _ _ hL _
  have hval : ∀ (j : Nat) t v, Tryd.f7.params[j]? = some t → args[j]? = some v → Value.okWide Tryd.prog W .any base t v := hval0
  have hW' := hW
  obtain ⟨p, q, hA0, hV, rfl, hfz, hnd⟩ := hW
  have hA : DataW.TrodAll enc Tryd.prog W 0 (fun _ => true) true Tryd.f7.params.toList args.toList ds p := hA0
  rw [Tryd.params7] at hA hval
  obtain ⟨v0, vs0, d0, ds0, p0, q0, hargs, rfl, rfl, h0, r0⟩ := trodAll_cons hA
  obtain ⟨v1, vs1, d1, ds1, p1, q1, rfl, rfl, rfl, h1, r1⟩ := trodAll_cons r0
  obtain ⟨v2, vs2, d2, ds2, p2, q2, rfl, rfl, rfl, h2, r2⟩ := trodAll_cons r1
  obtain ⟨rfl, rfl, rfl⟩ := trodAll_nil r2
  obtain rfl : args = #[v0, v1, v2] := by cases args; simp_all
  obtain ⟨rfl, rfl⟩ := trodVars_none hV
  have hKT := KT_of_laid hL
  obtain ⟨s0, rfl, rfl, rfl, w0⟩ := Go.ChangeMaps.open_string Tryd.underlying9 (hval 0 9 v0 rfl rfl) h0
  obtain ⟨a1, rfl, rfl, rfl, w1⟩ := open_int Tryd.underlying3 (hval 1 3 v1 rfl rfl) h1
  obtain ⟨a2, rfl, rfl, rfl, w2⟩ := open_int Tryd.underlying22 (hval 2 22 v2 rfl rfl) h2
  obtain ⟨n2, rfl, l2⟩ := u32_nat w2
  clear hA0 hval0
  obtain ⟨l1, m1⟩ := i64_bounds w1
  refine (walk (w := W) hKT s0 w0 a1 l1 m1 n2 l2).mono fun e W' ⟨he, bel⟩ => ?_
  subst he
  exact ⟨_, rfl, law_post rfl rfl (by kernel_rfl) hW' rfl bel⟩

theorem row_holds : Rows.CheckSealTurnedSaid :=
  OpenClaim.holds_of_wide 7 Tryd.f7 rfl rfl rfl rfl rfl rfl rfl ⟨rfl, rfl, rfl, rfl, rfl⟩ rfl rfl rfl rfl rfl (by kernel_rfl) Tryd.func7 (by kernel_rfl)
    (of_decide_eq_true (by kernel_rfl)) (by unfold Func.isWrapper; first | (rw [if_pos (by decide +kernel)]; kernel_rfl) | (rw [if_neg (by decide +kernel)]; exact ⟨rfl, rfl⟩))
    (fun os started H enc _ => lifted os started H enc)

theorem holds : Rows.CheckSealTurnedCardSaid :=
  Claim7.holds_tied_plain_at .later [] [.data] true Rows.checkSealTurnedCard.stood.harness false
    row_holds (fun _ h => by cases h) (by kernel_rfl) (fun _ h => by cases h) checkSealTurned_row_tie rfl ⟨rfl, rfl⟩ (by kernel_rfl) rfl
    (fun f fn hf hfn => by
      obtain rfl : f = 7 := Option.some.inj ((show Tryd.prog.funcNamed "scrinium/scriniumlaw04.CheckSealTurned" = some 7 by kernel_rfl).symm.trans hf) |>.symm
      obtain rfl : fn = Tryd.f7 := (Option.some.inj (Tryd.func7.symm.trans hfn)).symm
      exact ⟨by kernel_rfl, fun j t ht => by
        rw [Tryd.params7] at ht
        have hm : t ∈ [9, 3, 22] := by simpa using Array.mem_of_getElem? ht
        have hall : ([9, 3, 22].all fun u => !Tryd.prog.wantsStandIn u) = true := by kernel_rfl
        exact (show Tryd.prog.wantsStandIn t = false by simpa using List.all_eq_true.1 hall t hm)⟩)
    (by kernel_rfl)
end Go.Proofs.YthohdkpgckandaaDoor.checkSealTurned

theorem Go.Proofs.YthohdkpgckandaaDoor.checkSealTurned_holds : Go.Proofs.YthohdkpgckandaaDoor.Rows.CheckSealTurnedCardSaid := Go.Proofs.YthohdkpgckandaaDoor.checkSealTurned.holds
#print axioms Go.Proofs.YthohdkpgckandaaDoor.checkSealTurned_holds
