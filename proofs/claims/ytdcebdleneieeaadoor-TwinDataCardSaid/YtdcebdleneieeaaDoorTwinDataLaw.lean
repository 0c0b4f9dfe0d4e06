/-
  TwinData: texts are told as twins just if they are unlike, and have one hash; and so is data. For any two texts (the first 300 bytes of each); the numbers K of the package sha are as the program's own start lays them.
-/
import Derived.Test.YtdcebdleneieeaaDoorTwinArg
namespace Go.Proofs.YtdcebdleneieeaaDoor.twinData
open Go.ChangeShapes Go.WideShapes Go.ChangeAt Go.RowKit

theorem dataZ_some (s t : List UInt8) : dataZ s t = if Tree.areT (0 :: s) (0 :: t) then some (0 :: s, 0 :: t) else none := rfl
theorem load_tw2 {w : World} {q : Nat} {S T : ByteArray} (h : w.heap[q]? = some (.cells #[.string S, .string T] 32 (0, 0))) : (Instr.loadAt 32 (.pointer (some ⟨q, 0, none⟩))).run Tryd.prog w = .ok (.agg #[.string S, .string T]) w :=
  run_loadAt_mid w q 0 _ [.string S, .string T] _ (fun j u hu => by rw [Nat.zero_add, cell_of h]; simpa using hu) Tryd.underlying32 rfl tw_info
theorem cut300 (S : ByteArray) : ∃ C : ByteArray, C.size ≤ 300 ∧ (300 < S.size → S.extract 0 300 = C) ∧ (¬ 300 < S.size → S = C) := by
  by_cases h : 300 < S.size
  · exact ⟨S.extract 0 300, by simp; omega, fun _ => rfl, fun h' => absurd h h'⟩
  · exact ⟨S, by omega, fun h' => absurd h' h, fun _ => rfl⟩
set_option maxHeartbeats 8000000 in
set_option maxRecDepth 100000 in
theorem walk {w : World} (hK : KT w) (S0 : ByteArray) (hS0 : S0.size ≤ maxLen) (T0 : ByteArray) (hT0 : T0.size ≤ maxLen) :
    Calls Tryd.prog 4 #[.string S0, .string T0] w fun e w' => e = .returned (.bool true) ∧ Below w.heap.size w w' := by
  obtain ⟨S, hSl, hS1, hS2⟩ := cut300 S0
  obtain ⟨T, hTl, hT1, hT2⟩ := cut300 T0
  obtain ⟨s, hs⟩ : ∃ s, s = S.data.toList := ⟨_, rfl⟩
  obtain ⟨t, ht⟩ : ∃ t, t = T.data.toList := ⟨_, rfl⟩
  have hSs : S = tS s := by rw [hs, tS_of]
  have hTt : T = tS t := by rw [ht, tS_of]
  have hsl : s.length ≤ 1000 := by rw [hSs, tS_size] at hSl; omega
  have htl : t.length ≤ 1000 := by rw [hTt, tS_size] at hTl; omega
  obtain ⟨D, hD⟩ : ∃ D, D = Sha.digest s := ⟨_, rfl⟩
  obtain ⟨E, hE⟩ : ∃ D, D = Sha.digest t := ⟨_, rfl⟩
  obtain ⟨D2, hD2⟩ : ∃ D, D = Tree.leafH s := ⟨_, rfl⟩
  obtain ⟨E2, hE2⟩ : ∃ D, D = Tree.leafH t := ⟨_, rfl⟩
  obtain ⟨iv, hiv⟩ : ∃ b, b = Tree.areT s t := ⟨_, rfl⟩
  obtain ⟨dv, hdv⟩ : ∃ b, b = Tree.areT (0 :: s) (0 :: t) := ⟨_, rfl⟩
  have hne : decide (s ≠ t) = decide (S ≠ T) := decide_eq_decide.2 (not_congr ⟨fun h => by rw [hSs, hTt, h], fun h => by rw [hs, ht, h]⟩)
  have hi2 : iv = (decide (S ≠ T) && decide (D = E)) := by rw [hiv, hD, hE, ← hne]; rfl
  have hd2 : dv = (decide (S ≠ T) && decide (D2 = E2)) := by
    rw [hdv, hD2, hE2, ← hne]
    unfold Tree.areT
    congr 1
    exact decide_eq_decide.2 (not_congr ⟨fun h => by injection h, fun h => by rw [h]⟩)
  obtain ⟨p, hp⟩ : ∃ p, p = (dataZ s t).getD ([], []) := ⟨_, rfl⟩
  have hsm : (dataZ s t).isSome = dv := by rw [dataZ_some, hdv]; cases Tree.areT (0 :: s) (0 :: t) <;> rfl
  have hp1 : dv = true → p = (0 :: s, 0 :: t) := fun h => by rw [hp, dataZ_some, ← hdv, h]; rfl
  have hp0 : dv = false → p = ([], []) := fun h => by rw [hp, dataZ_some, ← hdv, h]; rfl
  have htw : twR (dataZ s t) = .tuple #[twV p, .bool dv] := by rw [hp, ← hsm]; rfl
  have HDl : Hid (D.length = 32) := Lib.hid (by rw [hD]; exact Sha.digest_length _)
  have HEl : Hid (E.length = 32) := Lib.hid (by rw [hE]; exact Sha.digest_length _)
  have HD2l : Hid (D2.length = 32) := Lib.hid (by rw [hD2]; exact Tree.leafH_length _)
  have HE2l : Hid (E2.length = 32) := Lib.hid (by rw [hE2]; exact Tree.leafH_length _)
  have HD : Hid (∀ u, Calls Tryd.prog 15 #[.string S] u fun e w' => e = .returned (sumV D) ∧ Below u.heap.size u w') := Lib.hid fun u => by rw [hD]; exact rof_any S s hs.symm u (by omega)
  have HE : Hid (∀ u, Calls Tryd.prog 15 #[.string T] u fun e w' => e = .returned (sumV E) ∧ Below u.heap.size u w') := Lib.hid fun u => by rw [hE]; exact rof_any T t ht.symm u (by omega)
  have HD2 : Hid (∀ u, Calls Tryd.prog 17 #[.string S] u fun e w' => e = .returned (sumV D2) ∧ Below u.heap.size u w') := Lib.hid fun u => by rw [hD2]; exact rleafLeaf_any S s hs.symm u (by omega)
  have HE2 : Hid (∀ u, Calls Tryd.prog 17 #[.string T] u fun e w' => e = .returned (sumV E2) ∧ Below u.heap.size u w') := Lib.hid fun u => by rw [hE2]; exact rleafLeaf_any T t ht.symm u (by omega)
  have hkw : ∀ u, Below w.heap.size w u → KT u := fun u hu => hK.old hu
  have HDA : Hid (∀ u, Below w.heap.size w u → Calls Tryd.prog 16 #[.string S, .string T] u fun e w' => e = .returned (.tuple #[twV p, .bool dv]) ∧ Below u.heap.size u w') := Lib.hid fun u hu => by rw [← htw, hSs, hTt]; exact Data_any s t u hsl htl (hkw u hu)
  have HAR : Hid (∀ u, Below w.heap.size w u → Calls Tryd.prog 18 #[.agg #[.string S, .string T]] u fun e w' => e = .returned (.bool iv) ∧ Below u.heap.size u w') := Lib.hid fun u hu => by rw [hiv, hSs, hTt]; exact are_any s t u (by omega) (by omega) (hkw u hu)
  have HAM1 : Hid (∀ u, (binOp .add 9 (.string ⟨#[0]⟩) (.string S)).run Tryd.prog u = .ok (.string (tS (0 :: s))) u) := Lib.hid fun u => by rw [hSs]; exact add_mark s hsl u
  have HAM2 : Hid (∀ u, (binOp .add 9 (.string ⟨#[0]⟩) (.string T)).run Tryd.prog u = .ok (.string (tS (0 :: t))) u) := Lib.hid fun u => by rw [hTt]; exact add_mark t htl u
  have HAW := Lib.hid (awake13_any w hK)
  have HI2 := Lib.hid hi2
  have HV2 := Lib.hid hd2
  have HP1 := Lib.hid hp1
  have HP0 := Lib.hid hp0
  have HS1 := Lib.hid hS1
  have HS2 := Lib.hid hS2
  have HT1 := Lib.hid hT1
  have HT2 := Lib.hid hT2
  clear hs ht hSs hTt hsl htl hD hE hD2 hE2 hiv hdv hne hi2 hd2 hp hsm hp1 hp0 htw hkw hK hS1 hS2 hT1 hT2 hSl hTl
  have hb0 : S0.size ≤ 9223372036854775807 := by unfold maxLen at hS0; omega
  have hb1 : T0.size ≤ 9223372036854775807 := by unfold maxLen at hT0; omega
  clear hS0 hT0
  go_enter Tryd.func4, Tryd.ntmps4
  go_upto_if 15 with (go_at_call 9; ((with_reducible refine HAW.out.mono ?_); rintro e w1 ⟨rfl, b1⟩))
  go_cut [0] from 16 to 17 (fun s wx => s = .string S ∧ wx = w1)
  case first =>
    by_cases h : 300 < S0.size
    · have e := HS1.out h
      go_wp2
      go_meet
      exact ⟨by first | rfl | rw [e], rfl⟩
    · have e := HS2.out h
      go_wp2
      go_meet
      exact ⟨by first | rfl | rw [e], rfl⟩
  case rest =>
  obtain ⟨rfl, hwc⟩ := hcut
  rw [hwc]
  clear hwc
  go_upto_if 20 with (fail)
  go_cut [1] from 21 to 22 (fun s wx => s = .string T ∧ wx = w1)
  case first =>
    by_cases h : 300 < T0.size
    · have e := HT1.out h
      go_wp2
      go_meet
      exact ⟨by first | rfl | rw [e], rfl⟩
    · have e := HT2.out h
      go_wp2
      go_meet
      exact ⟨by first | rfl | rw [e], rfl⟩
  case rest =>
  obtain ⟨rfl, hwc⟩ := hcut
  rw [hwc]
  clear hwc
  go_upto_region 7 with (fail)
  obtain ⟨W2, hW2⟩ : ∃ W, W = w1.alloc (.cells #[.string S, .string T] 32) := ⟨_, rfl⟩
  have j6 : W2.heap[w1.heap.size]? = some (.cells #[.string S, .string T] 32 (0, 0)) := by rw [hW2]; exact heap_alloc_last w1 _
  have HBW : Hid (Below w.heap.size w W2) := Lib.hid (by rw [hW2]; exact b1.alloc b1.size _)
  rw [← hW2]
  obtain ⟨q6, hq6⟩ : ∃ q, q = w1.heap.size := ⟨_, rfl⟩
  rw [← hq6] at j6 ⊢
  have Jq6 := Lib.hid j6
  clear hW2 hq6 j6 b1 HS1 HS2 HT1 HT2 HAW
  obtain ⟨W, hW⟩ : ∃ W, W = W2 := ⟨_, rfl⟩
  subst hW
  go_cut [7] from 26 to 35 (fun s wx => s = .bool iv ∧ Below W.heap.size W wx)
  case first =>
    by_cases hne : S = T
    · have hv : iv = false := by rw [HI2.out, decide_eq_false (fun h => h hne)]; rfl
      try simp only [Act.put]
      refine wp_region_tab0 [RT.is (.string S), RT.is (.string T), RT.is (.bool false), RT.is (.bool false), RT.is undef, RT.is undef, RT.is undef, RT.is undef, RT.is undef, RT.is (.bool false), RT.is (.bool false)] (by kernel_rfl) (by kernel_rfl) (by kernel_rfl) ⟨?_, ?_, ?_, ?_, ?_, ?_, ?_, ?_, ?_, ?_, ?_, trivial⟩ ?_
      · intro ac w' hF hL hP hU K hK
        have hB : Below _ _ _ := hL
        have e0 : ac.eval (.tmp 0) = .string S := hF.at 0 (by kernel_rfl)
        exact rop_move _ rfl e0 (wanted_none rfl) (hK _ _ (le8_refl _) rfl)
      · intro ac w' hF hL hP hU K hK
        have hB : Below _ _ _ := hL
        have e1 : ac.eval (.tmp 1) = .string T := hF.at 1 (by kernel_rfl)
        exact rop_move _ rfl e1 (wanted_none rfl) (hK _ _ (le8_refl _) rfl)
      · intro ac w' hF hL hP hU K hK
        have hB : Below _ _ _ := hL
        have e26 : ac.eval (.tmp 26) = .string S := hP 0 (by kernel_rfl)
        have e27 : ac.eval (.tmp 27) = .string T := hP 1 (by kernel_rfl)
        exact rop_bin _ _ _ _ _ rfl e26 e27 (guard_str _ _ _ _ _ _ w') (neq_txt_ff S T hne w') (wanted_none rfl) (hK _ _ (le8_refl _) rfl)
      · intro ac w' hF hL hP hU K hK
        have hB : Below _ _ _ := hL
        have e28 : ac.eval (.tmp 28) = .bool false := hP 2 (by kernel_rfl)
        exact rop_move _ rfl e28 (wanted_none rfl) (hK _ _ (le8_refl _) rfl)
      · intro ac w' hF hL hP hU K hK
        have hB : Below _ _ _ := hL
        have e29 : ac.eval (.tmp 29) = .bool false := hP 3 (by kernel_rfl)
        exact rop_offG (j := 3) (b := true) rfl rfl e29 (by decide) (hK _ _ (le8_refl _) rfl)
      · intro ac w' hF hL hP hU K hK
        have hB : Below _ _ _ := hL
        have e29 : ac.eval (.tmp 29) = .bool false := hP 3 (by kernel_rfl)
        exact rop_offG (j := 3) (b := true) rfl rfl e29 (by decide) (hK _ _ (le8_refl _) rfl)
      · intro ac w' hF hL hP hU K hK
        have hB : Below _ _ _ := hL
        have e29 : ac.eval (.tmp 29) = .bool false := hP 3 (by kernel_rfl)
        exact rop_offG (j := 3) (b := true) rfl rfl e29 (by decide) (hK _ _ (le8_refl _) rfl)
      · intro ac w' hF hL hP hU K hK
        have hB : Below _ _ _ := hL
        have e29 : ac.eval (.tmp 29) = .bool false := hP 3 (by kernel_rfl)
        exact rop_offG (j := 3) (b := true) rfl rfl e29 (by decide) (hK _ _ (le8_refl _) rfl)
      · intro ac w' hF hL hP hU K hK
        have hB : Below _ _ _ := hL
        have e29 : ac.eval (.tmp 29) = .bool false := hP 3 (by kernel_rfl)
        exact rop_offG (j := 3) (b := true) rfl rfl e29 (by decide) (hK _ _ (le8_refl _) rfl)
      · intro ac w' hF hL hP hU K hK
        have hB : Below _ _ _ := hL
        have e29 : ac.eval (.tmp 29) = .bool false := hP 3 (by kernel_rfl)
        exact rop_pick _ _ _ rfl false e29 (by rfl) (wanted_none rfl) (hK _ _ (le8_refl _) rfl)
      · intro ac w' hF hL hP hU K hK
        have hB : Below _ _ _ := hL
        have e35 : ac.eval (.tmp 35) = .bool false := hP 9 (by kernel_rfl)
        exact rop_assign _ rfl e35 (wanted_none rfl) (hK _ _ (le8_refl _) rfl)
      · intro ac w' hF hB hT
        have e7 : ac.eval (.tmp 7) = .bool false := hT 10 (by decide)
        rw [hF.setsG [26, 27, 28, 29, 30, 31, 32, 33, 34, 35, 7] (by kernel_rfl)]
        simp only [List.foldl_cons, List.foldl_nil, List.setIfInBounds_toArray, List.set_cons_succ, List.set_cons_zero, e7]
        generalize ac.eval (.tmp 26) = u26
        generalize ac.eval (.tmp 27) = u27
        generalize ac.eval (.tmp 28) = u28
        generalize ac.eval (.tmp 29) = u29
        generalize ac.eval (.tmp 30) = u30
        generalize ac.eval (.tmp 31) = u31
        generalize ac.eval (.tmp 32) = u32
        generalize ac.eval (.tmp 33) = u33
        generalize ac.eval (.tmp 34) = u34
        generalize ac.eval (.tmp 35) = u35
        clear e7 hT hF ac
        go_wp2_with fail
        go_meet
        exact ⟨by rw [hv], hB⟩
    · have hv : iv = decide (D = E) := by rw [HI2.out, decide_eq_true hne]; rfl
      try simp only [Act.put]
      refine wp_region_tab0 [RT.is (.string S), RT.is (.string T), RT.is (.bool true), RT.is (.bool true), RT.is (.string S), RT.is (sumV D), RT.is (.string T), RT.is (sumV E), RT.is (.bool (decide (D = E))), RT.is (.bool (decide (D = E))), RT.is (.bool (decide (D = E)))] (by kernel_rfl) (by kernel_rfl) (by kernel_rfl) ⟨?_, ?_, ?_, ?_, ?_, ?_, ?_, ?_, ?_, ?_, ?_, trivial⟩ ?_
      · intro ac w' hF hL hP hU K hK
        have hB : Below _ _ _ := hL
        have e0 : ac.eval (.tmp 0) = .string S := hF.at 0 (by kernel_rfl)
        exact rop_move _ rfl e0 (wanted_none rfl) (hK _ _ (le8_refl _) rfl)
      · intro ac w' hF hL hP hU K hK
        have hB : Below _ _ _ := hL
        have e1 : ac.eval (.tmp 1) = .string T := hF.at 1 (by kernel_rfl)
        exact rop_move _ rfl e1 (wanted_none rfl) (hK _ _ (le8_refl _) rfl)
      · intro ac w' hF hL hP hU K hK
        have hB : Below _ _ _ := hL
        have e26 : ac.eval (.tmp 26) = .string S := hP 0 (by kernel_rfl)
        have e27 : ac.eval (.tmp 27) = .string T := hP 1 (by kernel_rfl)
        exact rop_bin _ _ _ _ _ rfl e26 e27 (guard_str _ _ _ _ _ _ w') (neq_txt_tt S T hne w') (wanted_none rfl) (hK _ _ (le8_refl _) rfl)
      · intro ac w' hF hL hP hU K hK
        have hB : Below _ _ _ := hL
        have e28 : ac.eval (.tmp 28) = .bool true := hP 2 (by kernel_rfl)
        exact rop_move _ rfl e28 (wanted_none rfl) (hK _ _ (le8_refl _) rfl)
      · intro ac w' hF hL hP hU K hK
        have hB : Below _ _ _ := hL
        have e0 : ac.eval (.tmp 0) = .string S := hF.at 0 (by kernel_rfl)
        have e29 : ac.eval (.tmp 29) = .bool true := hP 3 (by kernel_rfl)
        exact rop_move _ rfl e0 (wanted_of (j := 3) (b := true) rfl rfl e29) (hK _ _ (le8_refl _) rfl)
      · intro ac w' hF hL hP hU K hK
        have hB : Below _ _ _ := hL
        have e30 : ac.eval (.tmp 30) = .string S := hP 4 (by kernel_rfl)
        have e29 : ac.eval (.tmp 29) = .bool true := hP 3 (by kernel_rfl)
        refine rop_call 15 _ _ rfl #[.string S] (by simp [e30]) (by kernel_rfl) (wanted_of (j := 3) (b := true) rfl rfl e29) ?_
        refine (HD.out w').mono ?_
        rintro e w2 ⟨rfl, hb⟩
        exact ⟨_, rfl, hK _ _ hb rfl⟩
      · intro ac w' hF hL hP hU K hK
        have hB : Below _ _ _ := hL
        have e1 : ac.eval (.tmp 1) = .string T := hF.at 1 (by kernel_rfl)
        have e29 : ac.eval (.tmp 29) = .bool true := hP 3 (by kernel_rfl)
        exact rop_move _ rfl e1 (wanted_of (j := 3) (b := true) rfl rfl e29) (hK _ _ (le8_refl _) rfl)
      · intro ac w' hF hL hP hU K hK
        have hB : Below _ _ _ := hL
        have e32 : ac.eval (.tmp 32) = .string T := hP 6 (by kernel_rfl)
        have e29 : ac.eval (.tmp 29) = .bool true := hP 3 (by kernel_rfl)
        refine rop_call 15 _ _ rfl #[.string T] (by simp [e32]) (by kernel_rfl) (wanted_of (j := 3) (b := true) rfl rfl e29) ?_
        refine (HE.out w').mono ?_
        rintro e w2 ⟨rfl, hb⟩
        exact ⟨_, rfl, hK _ _ hb rfl⟩
      · intro ac w' hF hL hP hU K hK
        have hB : Below _ _ _ := hL
        have e31 : ac.eval (.tmp 31) = sumV D := hP 5 (by kernel_rfl)
        have e33 : ac.eval (.tmp 33) = sumV E := hP 7 (by kernel_rfl)
        have e29 : ac.eval (.tmp 29) = .bool true := hP 3 (by kernel_rfl)
        exact rop_bin _ _ _ _ _ rfl e31 e33 (guard_run _ _ _ _ _ w') (eql_sum D E HDl.out HEl.out w') (wanted_of (j := 3) (b := true) rfl rfl e29) (hK _ _ (le8_refl _) rfl)
      · intro ac w' hF hL hP hU K hK
        have hB : Below _ _ _ := hL
        have e29 : ac.eval (.tmp 29) = .bool true := hP 3 (by kernel_rfl)
        have e34 : ac.eval (.tmp 34) = .bool (decide (D = E)) := hP 8 (by kernel_rfl)
        exact rop_pick _ _ _ rfl true e29 (by simpa using e34) (wanted_none rfl) (hK _ _ (le8_refl _) rfl)
      · intro ac w' hF hL hP hU K hK
        have hB : Below _ _ _ := hL
        have e35 : ac.eval (.tmp 35) = .bool (decide (D = E)) := hP 9 (by kernel_rfl)
        exact rop_assign _ rfl e35 (wanted_none rfl) (hK _ _ (le8_refl _) rfl)
      · intro ac w' hF hB hT
        have e7 : ac.eval (.tmp 7) = .bool (decide (D = E)) := hT 10 (by decide)
        rw [hF.setsG [26, 27, 28, 29, 30, 31, 32, 33, 34, 35, 7] (by kernel_rfl)]
        simp only [List.foldl_cons, List.foldl_nil, List.setIfInBounds_toArray, List.set_cons_succ, List.set_cons_zero, e7]
        generalize ac.eval (.tmp 26) = u26
        generalize ac.eval (.tmp 27) = u27
        generalize ac.eval (.tmp 28) = u28
        generalize ac.eval (.tmp 29) = u29
        generalize ac.eval (.tmp 30) = u30
        generalize ac.eval (.tmp 31) = u31
        generalize ac.eval (.tmp 32) = u32
        generalize ac.eval (.tmp 33) = u33
        generalize ac.eval (.tmp 34) = u34
        generalize ac.eval (.tmp 35) = u35
        clear e7 hT hF ac
        go_wp2_with fail
        go_meet
        exact ⟨by rw [hv], hB⟩
  case rest =>
  obtain ⟨rfl, hBc⟩ := hcut
  replace Jq6 := Lib.hid (heap_oldP Jq6.out hBc)
  replace HBW := Lib.hid (below_step HBW.out (Nat.le_refl _) hBc)
  obtain ⟨w5, hw5⟩ : ∃ w5, w5 = wc := ⟨_, rfl⟩
  subst hw5
  clear hBc
  go_upto_region 9 with (fail)
  change Code.wp _ _ _ _ (w5.alloc (.cells #[tV [], tV []] 32))
  obtain ⟨w6, hw6⟩ : ∃ u, u = w5.alloc (.cells #[tV [], tV []] 32) := ⟨_, rfl⟩
  have k6 : Below w5.heap.size w5 w6 := by rw [hw6]; exact (Below.refl _ _).alloc (Nat.le_refl _) _
  have nq8 : IsTw ([], []) w6 w5.heap.size := by rw [hw6]; exact heap_alloc_last w5 _
  rw [← hw6]
  replace Jq6 := Lib.hid (heap_oldP Jq6.out k6)
  replace HBW := Lib.hid (below_step HBW.out (Nat.le_refl _) k6)
  obtain ⟨q8, hq8⟩ : ∃ q, q = w5.heap.size := ⟨_, rfl⟩
  rw [← hq8] at nq8 ⊢
  have Jq8 := Lib.hid nq8
  clear hw6 k6 nq8 hq8
  go_upto_region 10 with (first
    | (go_at_call 16; (refine (HDA.out _ HBW.out).mono ?_); rintro e v7 ⟨rfl, c7⟩; have t7 := heap_alloc_last v7 (.cells #[tV [], tV []] 32))
    | refine wpList_store_tw rfl (.tmp 9) (.tmp 40) rfl v7.heap.size p ([], []) rfl rfl t7 ?_)
  change Code.wp _ _ _ _ ((v7.alloc (.cells #[tV [], tV []] 32)).setCells v7.heap.size 0 [tV p.1, tV p.2])
  obtain ⟨w7, hw7⟩ : ∃ u, u = ((v7.alloc (.cells #[tV [], tV []] 32)).setCells v7.heap.size 0 [tV p.1, tV p.2]) := ⟨_, rfl⟩
  have k7 : Below w6.heap.size w6 w7 := by rw [hw7]; exact below_setCells c7.size _ _ _ ((c7).alloc (Nat.le_trans c7.size (by simp)) _)
  have nq9 : IsTw p w7 (v7.heap.size) := by rw [hw7]; exact (IsTw.set (p := ([], [])) (r := p) t7)
  rw [← hw7]
  replace Jq6 := Lib.hid (heap_oldP Jq6.out k7)
  replace Jq8 := Lib.hid (Jq8.out.old k7)
  replace HBW := Lib.hid (below_step HBW.out (Nat.le_refl _) k7)
  obtain ⟨q9, hq9⟩ : ∃ q, q = v7.heap.size := ⟨_, rfl⟩
  rw [← hq9] at nq9 ⊢
  have Jq9 := Lib.hid nq9
  clear hw7 k7 c7 t7 nq9 hq9
  obtain ⟨W, hW⟩ : ∃ W, W = w7 := ⟨_, rfl⟩
  subst hW
  go_cut [11] from 42 to 51 (fun s wx => s = .bool dv ∧ Below W.heap.size W wx)
  case first =>
    by_cases hne : S = T
    · have hv : dv = false := by rw [HV2.out, decide_eq_false (fun h => h hne)]; rfl
      try simp only [Act.put]
      refine wp_region_tab0 [RT.is (.string S), RT.is (.string T), RT.is (.bool false), RT.is (.bool false), RT.is undef, RT.is undef, RT.is undef, RT.is undef, RT.is undef, RT.is (.bool false), RT.is (.bool false)] (by kernel_rfl) (by kernel_rfl) (by kernel_rfl) ⟨?_, ?_, ?_, ?_, ?_, ?_, ?_, ?_, ?_, ?_, ?_, trivial⟩ ?_
      · intro ac w' hF hL hP hU K hK
        have hB : Below _ _ _ := hL
        have e0 : ac.eval (.tmp 0) = .string S := hF.at 0 (by kernel_rfl)
        exact rop_move _ rfl e0 (wanted_none rfl) (hK _ _ (le8_refl _) rfl)
      · intro ac w' hF hL hP hU K hK
        have hB : Below _ _ _ := hL
        have e1 : ac.eval (.tmp 1) = .string T := hF.at 1 (by kernel_rfl)
        exact rop_move _ rfl e1 (wanted_none rfl) (hK _ _ (le8_refl _) rfl)
      · intro ac w' hF hL hP hU K hK
        have hB : Below _ _ _ := hL
        have e42 : ac.eval (.tmp 42) = .string S := hP 0 (by kernel_rfl)
        have e43 : ac.eval (.tmp 43) = .string T := hP 1 (by kernel_rfl)
        exact rop_bin _ _ _ _ _ rfl e42 e43 (guard_str _ _ _ _ _ _ w') (neq_txt_ff S T hne w') (wanted_none rfl) (hK _ _ (le8_refl _) rfl)
      · intro ac w' hF hL hP hU K hK
        have hB : Below _ _ _ := hL
        have e44 : ac.eval (.tmp 44) = .bool false := hP 2 (by kernel_rfl)
        exact rop_move _ rfl e44 (wanted_none rfl) (hK _ _ (le8_refl _) rfl)
      · intro ac w' hF hL hP hU K hK
        have hB : Below _ _ _ := hL
        have e45 : ac.eval (.tmp 45) = .bool false := hP 3 (by kernel_rfl)
        exact rop_offG (j := 3) (b := true) rfl rfl e45 (by decide) (hK _ _ (le8_refl _) rfl)
      · intro ac w' hF hL hP hU K hK
        have hB : Below _ _ _ := hL
        have e45 : ac.eval (.tmp 45) = .bool false := hP 3 (by kernel_rfl)
        exact rop_offG (j := 3) (b := true) rfl rfl e45 (by decide) (hK _ _ (le8_refl _) rfl)
      · intro ac w' hF hL hP hU K hK
        have hB : Below _ _ _ := hL
        have e45 : ac.eval (.tmp 45) = .bool false := hP 3 (by kernel_rfl)
        exact rop_offG (j := 3) (b := true) rfl rfl e45 (by decide) (hK _ _ (le8_refl _) rfl)
      · intro ac w' hF hL hP hU K hK
        have hB : Below _ _ _ := hL
        have e45 : ac.eval (.tmp 45) = .bool false := hP 3 (by kernel_rfl)
        exact rop_offG (j := 3) (b := true) rfl rfl e45 (by decide) (hK _ _ (le8_refl _) rfl)
      · intro ac w' hF hL hP hU K hK
        have hB : Below _ _ _ := hL
        have e45 : ac.eval (.tmp 45) = .bool false := hP 3 (by kernel_rfl)
        exact rop_offG (j := 3) (b := true) rfl rfl e45 (by decide) (hK _ _ (le8_refl _) rfl)
      · intro ac w' hF hL hP hU K hK
        have hB : Below _ _ _ := hL
        have e45 : ac.eval (.tmp 45) = .bool false := hP 3 (by kernel_rfl)
        exact rop_pick _ _ _ rfl false e45 (by rfl) (wanted_none rfl) (hK _ _ (le8_refl _) rfl)
      · intro ac w' hF hL hP hU K hK
        have hB : Below _ _ _ := hL
        have e51 : ac.eval (.tmp 51) = .bool false := hP 9 (by kernel_rfl)
        exact rop_assign _ rfl e51 (wanted_none rfl) (hK _ _ (le8_refl _) rfl)
      · intro ac w' hF hB hT
        have e11 : ac.eval (.tmp 11) = .bool false := hT 10 (by decide)
        rw [hF.setsG [42, 43, 44, 45, 46, 47, 48, 49, 50, 51, 11] (by kernel_rfl)]
        simp only [List.foldl_cons, List.foldl_nil, List.setIfInBounds_toArray, List.set_cons_succ, List.set_cons_zero, e11]
        generalize ac.eval (.tmp 42) = u42
        generalize ac.eval (.tmp 43) = u43
        generalize ac.eval (.tmp 44) = u44
        generalize ac.eval (.tmp 45) = u45
        generalize ac.eval (.tmp 46) = u46
        generalize ac.eval (.tmp 47) = u47
        generalize ac.eval (.tmp 48) = u48
        generalize ac.eval (.tmp 49) = u49
        generalize ac.eval (.tmp 50) = u50
        generalize ac.eval (.tmp 51) = u51
        clear e11 hT hF ac
        go_wp2_with fail
        go_meet
        exact ⟨by rw [hv], hB⟩
    · have hv : dv = decide (D2 = E2) := by rw [HV2.out, decide_eq_true hne]; rfl
      try simp only [Act.put]
      refine wp_region_tab0 [RT.is (.string S), RT.is (.string T), RT.is (.bool true), RT.is (.bool true), RT.is (.string S), RT.is (sumV D2), RT.is (.string T), RT.is (sumV E2), RT.is (.bool (decide (D2 = E2))), RT.is (.bool (decide (D2 = E2))), RT.is (.bool (decide (D2 = E2)))] (by kernel_rfl) (by kernel_rfl) (by kernel_rfl) ⟨?_, ?_, ?_, ?_, ?_, ?_, ?_, ?_, ?_, ?_, ?_, trivial⟩ ?_
      · intro ac w' hF hL hP hU K hK
        have hB : Below _ _ _ := hL
        have e0 : ac.eval (.tmp 0) = .string S := hF.at 0 (by kernel_rfl)
        exact rop_move _ rfl e0 (wanted_none rfl) (hK _ _ (le8_refl _) rfl)
      · intro ac w' hF hL hP hU K hK
        have hB : Below _ _ _ := hL
        have e1 : ac.eval (.tmp 1) = .string T := hF.at 1 (by kernel_rfl)
        exact rop_move _ rfl e1 (wanted_none rfl) (hK _ _ (le8_refl _) rfl)
      · intro ac w' hF hL hP hU K hK
        have hB : Below _ _ _ := hL
        have e42 : ac.eval (.tmp 42) = .string S := hP 0 (by kernel_rfl)
        have e43 : ac.eval (.tmp 43) = .string T := hP 1 (by kernel_rfl)
        exact rop_bin _ _ _ _ _ rfl e42 e43 (guard_str _ _ _ _ _ _ w') (neq_txt_tt S T hne w') (wanted_none rfl) (hK _ _ (le8_refl _) rfl)
      · intro ac w' hF hL hP hU K hK
        have hB : Below _ _ _ := hL
        have e44 : ac.eval (.tmp 44) = .bool true := hP 2 (by kernel_rfl)
        exact rop_move _ rfl e44 (wanted_none rfl) (hK _ _ (le8_refl _) rfl)
      · intro ac w' hF hL hP hU K hK
        have hB : Below _ _ _ := hL
        have e0 : ac.eval (.tmp 0) = .string S := hF.at 0 (by kernel_rfl)
        have e45 : ac.eval (.tmp 45) = .bool true := hP 3 (by kernel_rfl)
        exact rop_move _ rfl e0 (wanted_of (j := 3) (b := true) rfl rfl e45) (hK _ _ (le8_refl _) rfl)
      · intro ac w' hF hL hP hU K hK
        have hB : Below _ _ _ := hL
        have e46 : ac.eval (.tmp 46) = .string S := hP 4 (by kernel_rfl)
        have e45 : ac.eval (.tmp 45) = .bool true := hP 3 (by kernel_rfl)
        refine rop_call 17 _ _ rfl #[.string S] (by simp [e46]) (by kernel_rfl) (wanted_of (j := 3) (b := true) rfl rfl e45) ?_
        refine (HD2.out w').mono ?_
        rintro e w2 ⟨rfl, hb⟩
        exact ⟨_, rfl, hK _ _ hb rfl⟩
      · intro ac w' hF hL hP hU K hK
        have hB : Below _ _ _ := hL
        have e1 : ac.eval (.tmp 1) = .string T := hF.at 1 (by kernel_rfl)
        have e45 : ac.eval (.tmp 45) = .bool true := hP 3 (by kernel_rfl)
        exact rop_move _ rfl e1 (wanted_of (j := 3) (b := true) rfl rfl e45) (hK _ _ (le8_refl _) rfl)
      · intro ac w' hF hL hP hU K hK
        have hB : Below _ _ _ := hL
        have e48 : ac.eval (.tmp 48) = .string T := hP 6 (by kernel_rfl)
        have e45 : ac.eval (.tmp 45) = .bool true := hP 3 (by kernel_rfl)
        refine rop_call 17 _ _ rfl #[.string T] (by simp [e48]) (by kernel_rfl) (wanted_of (j := 3) (b := true) rfl rfl e45) ?_
        refine (HE2.out w').mono ?_
        rintro e w2 ⟨rfl, hb⟩
        exact ⟨_, rfl, hK _ _ hb rfl⟩
      · intro ac w' hF hL hP hU K hK
        have hB : Below _ _ _ := hL
        have e47 : ac.eval (.tmp 47) = sumV D2 := hP 5 (by kernel_rfl)
        have e49 : ac.eval (.tmp 49) = sumV E2 := hP 7 (by kernel_rfl)
        have e45 : ac.eval (.tmp 45) = .bool true := hP 3 (by kernel_rfl)
        exact rop_bin _ _ _ _ _ rfl e47 e49 (guard_run _ _ _ _ _ w') (eql_sum D2 E2 HD2l.out HE2l.out w') (wanted_of (j := 3) (b := true) rfl rfl e45) (hK _ _ (le8_refl _) rfl)
      · intro ac w' hF hL hP hU K hK
        have hB : Below _ _ _ := hL
        have e45 : ac.eval (.tmp 45) = .bool true := hP 3 (by kernel_rfl)
        have e50 : ac.eval (.tmp 50) = .bool (decide (D2 = E2)) := hP 8 (by kernel_rfl)
        exact rop_pick _ _ _ rfl true e45 (by simpa using e50) (wanted_none rfl) (hK _ _ (le8_refl _) rfl)
      · intro ac w' hF hL hP hU K hK
        have hB : Below _ _ _ := hL
        have e51 : ac.eval (.tmp 51) = .bool (decide (D2 = E2)) := hP 9 (by kernel_rfl)
        exact rop_assign _ rfl e51 (wanted_none rfl) (hK _ _ (le8_refl _) rfl)
      · intro ac w' hF hB hT
        have e11 : ac.eval (.tmp 11) = .bool (decide (D2 = E2)) := hT 10 (by decide)
        rw [hF.setsG [42, 43, 44, 45, 46, 47, 48, 49, 50, 51, 11] (by kernel_rfl)]
        simp only [List.foldl_cons, List.foldl_nil, List.setIfInBounds_toArray, List.set_cons_succ, List.set_cons_zero, e11]
        generalize ac.eval (.tmp 42) = u42
        generalize ac.eval (.tmp 43) = u43
        generalize ac.eval (.tmp 44) = u44
        generalize ac.eval (.tmp 45) = u45
        generalize ac.eval (.tmp 46) = u46
        generalize ac.eval (.tmp 47) = u47
        generalize ac.eval (.tmp 48) = u48
        generalize ac.eval (.tmp 49) = u49
        generalize ac.eval (.tmp 50) = u50
        generalize ac.eval (.tmp 51) = u51
        clear e11 hT hF ac
        go_wp2_with fail
        go_meet
        exact ⟨by rw [hv], hB⟩
  case rest =>
  obtain ⟨rfl, hBc⟩ := hcut
  replace Jq6 := Lib.hid (heap_oldP Jq6.out hBc)
  replace Jq8 := Lib.hid (Jq8.out.old hBc)
  replace Jq9 := Lib.hid (Jq9.out.old hBc)
  replace HBW := Lib.hid (below_step HBW.out (Nat.le_refl _) hBc)
  obtain ⟨w8, hw8⟩ : ∃ w, w = wc := ⟨_, rfl⟩
  subst hw8
  clear hBc
  go_upto_region 11 with (fail)
  obtain ⟨W, hW⟩ : ∃ W, W = w8 := ⟨_, rfl⟩
  subst hW
  have HAQ : Hid (∀ u, Below W.heap.size W u → Calls Tryd.prog 18 #[.agg #[.string S, .string T]] u fun e w' => e = .returned (.bool iv) ∧ Below u.heap.size u w') := Lib.hid fun u hu => HAR.out u (below_step HBW.out (Nat.le_refl _) hu)
  clear HAR HDA
  cases dv with
  | true =>
    obtain rfl := HP1.out rfl
    clear HP1 HP0 HV2 HI2
    try simp only [Act.put]
    refine wp_region_tab0 [RT.is (.bool true), RT.is (.bool true), RT.is (.agg #[.string S, .string T]), RT.is (.bool iv), RT.is (.bool iv), RT.is (.bool true), RT.is (.bool true), RT.is (.bool true), RT.is (.bool true), RT.is (.bool true), RT.is (.bool true), RT.is (.bool true), RT.is (.bool true), RT.is (.bool true), RT.is (.bool true), RT.is (.pointer (some ⟨q9, 0, none⟩)), RT.is (.string (tS (0 :: s))), RT.is (.string S), RT.is (.string (tS (0 :: s))), RT.is (.bool true), RT.is (.bool true), RT.is (.bool true), RT.is (.pointer (some ⟨q9, 1, none⟩)), RT.is (.string (tS (0 :: t))), RT.is (.string T), RT.is (.string (tS (0 :: t))), RT.is (.bool true), RT.is (.bool true), RT.is (.bool true), RT.is undef, RT.is undef, RT.is undef, RT.is undef, RT.is undef, RT.is undef, RT.is undef, RT.is (.bool true), RT.is (.bool true), RT.is (.bool true)] (by kernel_rfl) (by kernel_rfl) (by kernel_rfl) ⟨?_, ?_, ?_, ?_, ?_, ?_, ?_, ?_, ?_, ?_, ?_, ?_, ?_, ?_, ?_, ?_, ?_, ?_, ?_, ?_, ?_, ?_, ?_, ?_, ?_, ?_, ?_, ?_, ?_, ?_, ?_, ?_, ?_, ?_, ?_, ?_, ?_, ?_, ?_, trivial⟩ ?_
    · intro ac w' hF hL hP hU K hK
      have hB : Below _ _ _ := hL
      have e5 : ac.eval (.tmp 5) = .bool true := hF.at 5 (by kernel_rfl)
      exact rop_move _ rfl e5 (wanted_none rfl) (hK _ _ (le8_refl _) rfl)
    · intro ac w' hF hL hP hU K hK
      have hB : Below _ _ _ := hL
      have e52 : ac.eval (.tmp 52) = .bool true := hP 0 (by kernel_rfl)
      exact rop_move _ rfl e52 (wanted_none rfl) (hK _ _ (le8_refl _) rfl)
    · intro ac w' hF hL hP hU K hK
      have hB : Below _ _ _ := hL
      have e6 : ac.eval (.tmp 6) = .pointer (some ⟨q6, 0, none⟩) := hF.at 6 (by kernel_rfl)
      have e53 : ac.eval (.tmp 53) = .bool true := hP 1 (by kernel_rfl)
      exact rop_ld _ _ rfl e6 (load_tw2 (heap_oldP Jq6.out hB)) (wanted_of (j := 1) (b := true) rfl rfl e53) (hK _ _ (le8_refl _) rfl)
    · intro ac w' hF hL hP hU K hK
      have hB : Below _ _ _ := hL
      have e54 : ac.eval (.tmp 54) = .agg #[.string S, .string T] := hP 2 (by kernel_rfl)
      have e53 : ac.eval (.tmp 53) = .bool true := hP 1 (by kernel_rfl)
      refine rop_call 18 _ _ rfl #[.agg #[.string S, .string T]] (by simp [e54]) (by kernel_rfl) (wanted_of (j := 1) (b := true) rfl rfl e53) ?_
      refine (HAQ.out w' hB).mono ?_
      rintro e w2 ⟨rfl, hb⟩
      exact ⟨_, rfl, hK _ _ hb rfl⟩
    · intro ac w' hF hL hP hU K hK
      have hB : Below _ _ _ := hL
      have e7 : ac.eval (.tmp 7) = .bool iv := hF.at 7 (by kernel_rfl)
      have e53 : ac.eval (.tmp 53) = .bool true := hP 1 (by kernel_rfl)
      exact rop_move _ rfl e7 (wanted_of (j := 1) (b := true) rfl rfl e53) (hK _ _ (le8_refl _) rfl)
    · intro ac w' hF hL hP hU K hK
      have hB : Below _ _ _ := hL
      have e55 : ac.eval (.tmp 55) = .bool iv := hP 3 (by kernel_rfl)
      have e56 : ac.eval (.tmp 56) = .bool iv := hP 4 (by kernel_rfl)
      have e53 : ac.eval (.tmp 53) = .bool true := hP 1 (by kernel_rfl)
      exact rop_bin _ _ _ _ _ rfl e55 e56 (guard_bool _ _ _ _ _ _ w') (eql_bool_sameP iv w') (wanted_of (j := 1) (b := true) rfl rfl e53) (hK _ _ (le8_refl _) rfl)
    · intro ac w' hF hL hP hU K hK
      have hB : Below _ _ _ := hL
      have e53 : ac.eval (.tmp 53) = .bool true := hP 1 (by kernel_rfl)
      have e57 : ac.eval (.tmp 57) = .bool true := hP 5 (by kernel_rfl)
      exact rop_pick _ _ _ rfl true e53 (by simpa using e57) (wanted_none rfl) (hK _ _ (le8_refl _) rfl)
    · intro ac w' hF hL hP hU K hK
      have hB : Below _ _ _ := hL
      have e58 : ac.eval (.tmp 58) = .bool true := hP 6 (by kernel_rfl)
      exact rop_move _ rfl e58 (wanted_none rfl) (hK _ _ (le8_refl _) rfl)
    · intro ac w' hF hL hP hU K hK
      have hB : Below _ _ _ := hL
      have e10 : ac.eval (.tmp 10) = .bool true := hF.at 10 (by kernel_rfl)
      have e59 : ac.eval (.tmp 59) = .bool true := hP 7 (by kernel_rfl)
      exact rop_move _ rfl e10 (wanted_of (j := 7) (b := true) rfl rfl e59) (hK _ _ (le8_refl _) rfl)
    · intro ac w' hF hL hP hU K hK
      have hB : Below _ _ _ := hL
      have e11 : ac.eval (.tmp 11) = .bool true := hF.at 11 (by kernel_rfl)
      have e59 : ac.eval (.tmp 59) = .bool true := hP 7 (by kernel_rfl)
      exact rop_move _ rfl e11 (wanted_of (j := 7) (b := true) rfl rfl e59) (hK _ _ (le8_refl _) rfl)
    · intro ac w' hF hL hP hU K hK
      have hB : Below _ _ _ := hL
      have e60 : ac.eval (.tmp 60) = .bool true := hP 8 (by kernel_rfl)
      have e61 : ac.eval (.tmp 61) = .bool true := hP 9 (by kernel_rfl)
      have e59 : ac.eval (.tmp 59) = .bool true := hP 7 (by kernel_rfl)
      exact rop_bin _ _ _ _ _ rfl e60 e61 (guard_bool _ _ _ _ _ _ w') (eql_bool_sameP true w') (wanted_of (j := 7) (b := true) rfl rfl e59) (hK _ _ (le8_refl _) rfl)
    · intro ac w' hF hL hP hU K hK
      have hB : Below _ _ _ := hL
      have e59 : ac.eval (.tmp 59) = .bool true := hP 7 (by kernel_rfl)
      have e62 : ac.eval (.tmp 62) = .bool true := hP 10 (by kernel_rfl)
      exact rop_pick _ _ _ rfl true e59 (by simpa using e62) (wanted_none rfl) (hK _ _ (le8_refl _) rfl)
    · intro ac w' hF hL hP hU K hK
      have hB : Below _ _ _ := hL
      have e63 : ac.eval (.tmp 63) = .bool true := hP 11 (by kernel_rfl)
      exact rop_move _ rfl e63 (wanted_none rfl) (hK _ _ (le8_refl _) rfl)
    · intro ac w' hF hL hP hU K hK
      have hB : Below _ _ _ := hL
      have e10 : ac.eval (.tmp 10) = .bool true := hF.at 10 (by kernel_rfl)
      have e64 : ac.eval (.tmp 64) = .bool true := hP 12 (by kernel_rfl)
      exact rop_move _ rfl e10 (wanted_of (j := 12) (b := true) rfl rfl e64) (hK _ _ (le8_refl _) rfl)
    · intro ac w' hF hL hP hU K hK
      have hB : Below _ _ _ := hL
      have e65 : ac.eval (.tmp 65) = .bool true := hP 13 (by kernel_rfl)
      have e64 : ac.eval (.tmp 64) = .bool true := hP 12 (by kernel_rfl)
      exact rop_move _ rfl e65 (wanted_of (j := 12) (b := true) rfl rfl e64) (hK _ _ (le8_refl _) rfl)
    · intro ac w' hF hL hP hU K hK
      have hB : Below _ _ _ := hL
      have e9 : ac.eval (.tmp 9) = .pointer (some ⟨q9, 0, none⟩) := hF.at 9 (by kernel_rfl)
      have e66 : ac.eval (.tmp 66) = .bool true := hP 14 (by kernel_rfl)
      exact rop_fld _ _ _ rfl e9 (fld_tw0 q9 w') (wanted_of (j := 14) (b := true) rfl rfl e66) (hK _ _ (le8_refl _) rfl)
    · intro ac w' hF hL hP hU K hK
      have hB : Below _ _ _ := hL
      have e67 : ac.eval (.tmp 67) = .pointer (some ⟨q9, 0, none⟩) := hP 15 (by kernel_rfl)
      have e66 : ac.eval (.tmp 66) = .bool true := hP 14 (by kernel_rfl)
      exact rop_ld _ _ rfl e67 (load_text (Jq9.out.old hB).c0) (wanted_of (j := 14) (b := true) rfl rfl e66) (hK _ _ (le8_refl _) rfl)
    · intro ac w' hF hL hP hU K hK
      have hB : Below _ _ _ := hL
      have e0 : ac.eval (.tmp 0) = .string S := hF.at 0 (by kernel_rfl)
      have e66 : ac.eval (.tmp 66) = .bool true := hP 14 (by kernel_rfl)
      exact rop_move _ rfl e0 (wanted_of (j := 14) (b := true) rfl rfl e66) (hK _ _ (le8_refl _) rfl)
    · intro ac w' hF hL hP hU K hK
      have hB : Below _ _ _ := hL
      have e69 : ac.eval (.tmp 69) = .string S := hP 17 (by kernel_rfl)
      have e66 : ac.eval (.tmp 66) = .bool true := hP 14 (by kernel_rfl)
      exact rop_bin _ _ _ _ _ rfl rfl e69 (guard_str _ _ _ _ _ _ w') (HAM1.out w') (wanted_of (j := 14) (b := true) rfl rfl e66) (hK _ _ (le8_refl _) rfl)
    · intro ac w' hF hL hP hU K hK
      have hB : Below _ _ _ := hL
      have e68 : ac.eval (.tmp 68) = .string (tS (0 :: s)) := hP 16 (by kernel_rfl)
      have e70 : ac.eval (.tmp 70) = .string (tS (0 :: s)) := hP 18 (by kernel_rfl)
      have e66 : ac.eval (.tmp 66) = .bool true := hP 14 (by kernel_rfl)
      exact rop_bin _ _ _ _ _ rfl e68 e70 (guard_str _ _ _ _ _ _ w') (eql_str_t _ _ rfl w') (wanted_of (j := 14) (b := true) rfl rfl e66) (hK _ _ (le8_refl _) rfl)
    · intro ac w' hF hL hP hU K hK
      have hB : Below _ _ _ := hL
      have e66 : ac.eval (.tmp 66) = .bool true := hP 14 (by kernel_rfl)
      have e71 : ac.eval (.tmp 71) = .bool true := hP 19 (by kernel_rfl)
      have e64 : ac.eval (.tmp 64) = .bool true := hP 12 (by kernel_rfl)
      exact rop_pick _ _ _ rfl true e66 (by simpa using e71) (wanted_of (j := 12) (b := true) rfl rfl e64) (hK _ _ (le8_refl _) rfl)
    · intro ac w' hF hL hP hU K hK
      have hB : Below _ _ _ := hL
      have e72 : ac.eval (.tmp 72) = .bool true := hP 20 (by kernel_rfl)
      have e64 : ac.eval (.tmp 64) = .bool true := hP 12 (by kernel_rfl)
      exact rop_move _ rfl e72 (wanted_of (j := 12) (b := true) rfl rfl e64) (hK _ _ (le8_refl _) rfl)
    · intro ac w' hF hL hP hU K hK
      have hB : Below _ _ _ := hL
      have e9 : ac.eval (.tmp 9) = .pointer (some ⟨q9, 0, none⟩) := hF.at 9 (by kernel_rfl)
      have e73 : ac.eval (.tmp 73) = .bool true := hP 21 (by kernel_rfl)
      exact rop_fld _ _ _ rfl e9 (fld_tw1 q9 w') (wanted_of (j := 21) (b := true) rfl rfl e73) (hK _ _ (le8_refl _) rfl)
    · intro ac w' hF hL hP hU K hK
      have hB : Below _ _ _ := hL
      have e74 : ac.eval (.tmp 74) = .pointer (some ⟨q9, 1, none⟩) := hP 22 (by kernel_rfl)
      have e73 : ac.eval (.tmp 73) = .bool true := hP 21 (by kernel_rfl)
      exact rop_ld _ _ rfl e74 (load_text (Jq9.out.old hB).c1) (wanted_of (j := 21) (b := true) rfl rfl e73) (hK _ _ (le8_refl _) rfl)
    · intro ac w' hF hL hP hU K hK
      have hB : Below _ _ _ := hL
      have e1 : ac.eval (.tmp 1) = .string T := hF.at 1 (by kernel_rfl)
      have e73 : ac.eval (.tmp 73) = .bool true := hP 21 (by kernel_rfl)
      exact rop_move _ rfl e1 (wanted_of (j := 21) (b := true) rfl rfl e73) (hK _ _ (le8_refl _) rfl)
    · intro ac w' hF hL hP hU K hK
      have hB : Below _ _ _ := hL
      have e76 : ac.eval (.tmp 76) = .string T := hP 24 (by kernel_rfl)
      have e73 : ac.eval (.tmp 73) = .bool true := hP 21 (by kernel_rfl)
      exact rop_bin _ _ _ _ _ rfl rfl e76 (guard_str _ _ _ _ _ _ w') (HAM2.out w') (wanted_of (j := 21) (b := true) rfl rfl e73) (hK _ _ (le8_refl _) rfl)
    · intro ac w' hF hL hP hU K hK
      have hB : Below _ _ _ := hL
      have e75 : ac.eval (.tmp 75) = .string (tS (0 :: t)) := hP 23 (by kernel_rfl)
      have e77 : ac.eval (.tmp 77) = .string (tS (0 :: t)) := hP 25 (by kernel_rfl)
      have e73 : ac.eval (.tmp 73) = .bool true := hP 21 (by kernel_rfl)
      exact rop_bin _ _ _ _ _ rfl e75 e77 (guard_str _ _ _ _ _ _ w') (eql_str_t _ _ rfl w') (wanted_of (j := 21) (b := true) rfl rfl e73) (hK _ _ (le8_refl _) rfl)
    · intro ac w' hF hL hP hU K hK
      have hB : Below _ _ _ := hL
      have e73 : ac.eval (.tmp 73) = .bool true := hP 21 (by kernel_rfl)
      have e78 : ac.eval (.tmp 78) = .bool true := hP 26 (by kernel_rfl)
      have e64 : ac.eval (.tmp 64) = .bool true := hP 12 (by kernel_rfl)
      exact rop_pick _ _ _ rfl true e73 (by simpa using e78) (wanted_of (j := 12) (b := true) rfl rfl e64) (hK _ _ (le8_refl _) rfl)
    · intro ac w' hF hL hP hU K hK
      have hB : Below _ _ _ := hL
      have e79 : ac.eval (.tmp 79) = .bool true := hP 27 (by kernel_rfl)
      have e64 : ac.eval (.tmp 64) = .bool true := hP 12 (by kernel_rfl)
      exact rop_move _ rfl e79 (wanted_of (j := 12) (b := true) rfl rfl e64) (hK _ _ (le8_refl _) rfl)
    · intro ac w' hF hL hP hU K hK
      have hB : Below _ _ _ := hL
      have e80 : ac.eval (.tmp 80) = .bool true := hP 28 (by kernel_rfl)
      exact rop_offG (j := 28) (b := false) rfl rfl e80 (by decide) (hK _ _ (le8_refl _) rfl)
    · intro ac w' hF hL hP hU K hK
      have hB : Below _ _ _ := hL
      have e80 : ac.eval (.tmp 80) = .bool true := hP 28 (by kernel_rfl)
      exact rop_offG (j := 28) (b := false) rfl rfl e80 (by decide) (hK _ _ (le8_refl _) rfl)
    · intro ac w' hF hL hP hU K hK
      have hB : Below _ _ _ := hL
      have e80 : ac.eval (.tmp 80) = .bool true := hP 28 (by kernel_rfl)
      exact rop_offG (j := 28) (b := false) rfl rfl e80 (by decide) (hK _ _ (le8_refl _) rfl)
    · intro ac w' hF hL hP hU K hK
      have hB : Below _ _ _ := hL
      have e83 : ac.eval (.tmp 83) = undef := hP 31 (by kernel_rfl)
      exact rop_offU (j := 31) (b := true) rfl rfl e83 (hK _ _ (le8_refl _) rfl)
    · intro ac w' hF hL hP hU K hK
      have hB : Below _ _ _ := hL
      have e83 : ac.eval (.tmp 83) = undef := hP 31 (by kernel_rfl)
      exact rop_offU (j := 31) (b := true) rfl rfl e83 (hK _ _ (le8_refl _) rfl)
    · intro ac w' hF hL hP hU K hK
      have hB : Below _ _ _ := hL
      have e83 : ac.eval (.tmp 83) = undef := hP 31 (by kernel_rfl)
      exact rop_offU (j := 31) (b := true) rfl rfl e83 (hK _ _ (le8_refl _) rfl)
    · intro ac w' hF hL hP hU K hK
      have hB : Below _ _ _ := hL
      have e80 : ac.eval (.tmp 80) = .bool true := hP 28 (by kernel_rfl)
      exact rop_offG (j := 28) (b := false) rfl rfl e80 (by decide) (hK _ _ (le8_refl _) rfl)
    · intro ac w' hF hL hP hU K hK
      have hB : Below _ _ _ := hL
      have e80 : ac.eval (.tmp 80) = .bool true := hP 28 (by kernel_rfl)
      have e64 : ac.eval (.tmp 64) = .bool true := hP 12 (by kernel_rfl)
      exact rop_pick _ _ _ rfl true e80 (by rfl) (wanted_of (j := 12) (b := true) rfl rfl e64) (hK _ _ (le8_refl _) rfl)
    · intro ac w' hF hL hP hU K hK
      have hB : Below _ _ _ := hL
      have e64 : ac.eval (.tmp 64) = .bool true := hP 12 (by kernel_rfl)
      have e88 : ac.eval (.tmp 88) = .bool true := hP 36 (by kernel_rfl)
      exact rop_pick _ _ _ rfl true e64 (by simpa using e88) (wanted_none rfl) (hK _ _ (le8_refl _) rfl)
    · intro ac w' hF hL hP hU K hK
      have hB : Below _ _ _ := hL
      have e89 : ac.eval (.tmp 89) = .bool true := hP 37 (by kernel_rfl)
      exact rop_assign _ rfl e89 (wanted_none rfl) (hK _ _ (le8_refl _) rfl)
    · intro ac w' hF hB hT
      have e4 : ac.eval (.tmp 4) = .bool true := hT 38 (by decide)
      rw [hF.setsG [52, 53, 54, 55, 56, 57, 58, 59, 60, 61, 62, 63, 64, 65, 66, 67, 68, 69, 70, 71, 72, 73, 74, 75, 76, 77, 78, 79, 80, 81, 82, 83, 84, 85, 86, 87, 88, 89, 4] (by kernel_rfl)]
      simp only [List.foldl_cons, List.foldl_nil, List.setIfInBounds_toArray, List.set_cons_succ, List.set_cons_zero, e4]
      generalize ac.eval (.tmp 52) = u52
      generalize ac.eval (.tmp 53) = u53
      generalize ac.eval (.tmp 54) = u54
      generalize ac.eval (.tmp 55) = u55
      generalize ac.eval (.tmp 56) = u56
      generalize ac.eval (.tmp 57) = u57
      generalize ac.eval (.tmp 58) = u58
      generalize ac.eval (.tmp 59) = u59
      generalize ac.eval (.tmp 60) = u60
      generalize ac.eval (.tmp 61) = u61
      generalize ac.eval (.tmp 62) = u62
      generalize ac.eval (.tmp 63) = u63
      generalize ac.eval (.tmp 64) = u64
      generalize ac.eval (.tmp 65) = u65
      generalize ac.eval (.tmp 66) = u66
      generalize ac.eval (.tmp 67) = u67
      generalize ac.eval (.tmp 68) = u68
      generalize ac.eval (.tmp 69) = u69
      generalize ac.eval (.tmp 70) = u70
      generalize ac.eval (.tmp 71) = u71
      generalize ac.eval (.tmp 72) = u72
      generalize ac.eval (.tmp 73) = u73
      generalize ac.eval (.tmp 74) = u74
      generalize ac.eval (.tmp 75) = u75
      generalize ac.eval (.tmp 76) = u76
      generalize ac.eval (.tmp 77) = u77
      generalize ac.eval (.tmp 78) = u78
      generalize ac.eval (.tmp 79) = u79
      generalize ac.eval (.tmp 80) = u80
      generalize ac.eval (.tmp 81) = u81
      generalize ac.eval (.tmp 82) = u82
      generalize ac.eval (.tmp 83) = u83
      generalize ac.eval (.tmp 84) = u84
      generalize ac.eval (.tmp 85) = u85
      generalize ac.eval (.tmp 86) = u86
      generalize ac.eval (.tmp 87) = u87
      generalize ac.eval (.tmp 88) = u88
      generalize ac.eval (.tmp 89) = u89
      clear e4 hT hF ac
      have HF := Lib.hid (below_step HBW.out (Nat.le_refl _) hB)
      clear hB
      go_wp2
      go_ret
      exact ⟨rfl, HF.out⟩
  | false =>
    obtain rfl := HP0.out rfl
    clear HP1 HP0 HV2 HI2
    try simp only [Act.put]
    refine wp_region_tab0 [RT.is (.bool true), RT.is (.bool true), RT.is (.agg #[.string S, .string T]), RT.is (.bool iv), RT.is (.bool iv), RT.is (.bool true), RT.is (.bool true), RT.is (.bool true), RT.is (.bool false), RT.is (.bool false), RT.is (.bool true), RT.is (.bool true), RT.is (.bool true), RT.is (.bool false), RT.is (.bool false), RT.is undef, RT.is undef, RT.is undef, RT.is undef, RT.is undef, RT.is (.bool false), RT.is (.bool false), RT.is undef, RT.is undef, RT.is undef, RT.is undef, RT.is undef, RT.is (.bool false), RT.is (.bool false), RT.is (.bool false), RT.is (.bool true), RT.is (.bool true), RT.is (twV ([], [])), RT.is (twV ([], [])), RT.is (.bool true), RT.is (.bool true), RT.is (.bool true), RT.is (.bool true), RT.is (.bool true)] (by kernel_rfl) (by kernel_rfl) (by kernel_rfl) ⟨?_, ?_, ?_, ?_, ?_, ?_, ?_, ?_, ?_, ?_, ?_, ?_, ?_, ?_, ?_, ?_, ?_, ?_, ?_, ?_, ?_, ?_, ?_, ?_, ?_, ?_, ?_, ?_, ?_, ?_, ?_, ?_, ?_, ?_, ?_, ?_, ?_, ?_, ?_, trivial⟩ ?_
    · intro ac w' hF hL hP hU K hK
      have hB : Below _ _ _ := hL
      have e5 : ac.eval (.tmp 5) = .bool true := hF.at 5 (by kernel_rfl)
      exact rop_move _ rfl e5 (wanted_none rfl) (hK _ _ (le8_refl _) rfl)
    · intro ac w' hF hL hP hU K hK
      have hB : Below _ _ _ := hL
      have e52 : ac.eval (.tmp 52) = .bool true := hP 0 (by kernel_rfl)
      exact rop_move _ rfl e52 (wanted_none rfl) (hK _ _ (le8_refl _) rfl)
    · intro ac w' hF hL hP hU K hK
      have hB : Below _ _ _ := hL
      have e6 : ac.eval (.tmp 6) = .pointer (some ⟨q6, 0, none⟩) := hF.at 6 (by kernel_rfl)
      have e53 : ac.eval (.tmp 53) = .bool true := hP 1 (by kernel_rfl)
      exact rop_ld _ _ rfl e6 (load_tw2 (heap_oldP Jq6.out hB)) (wanted_of (j := 1) (b := true) rfl rfl e53) (hK _ _ (le8_refl _) rfl)
    · intro ac w' hF hL hP hU K hK
      have hB : Below _ _ _ := hL
      have e54 : ac.eval (.tmp 54) = .agg #[.string S, .string T] := hP 2 (by kernel_rfl)
      have e53 : ac.eval (.tmp 53) = .bool true := hP 1 (by kernel_rfl)
      refine rop_call 18 _ _ rfl #[.agg #[.string S, .string T]] (by simp [e54]) (by kernel_rfl) (wanted_of (j := 1) (b := true) rfl rfl e53) ?_
      refine (HAQ.out w' hB).mono ?_
      rintro e w2 ⟨rfl, hb⟩
      exact ⟨_, rfl, hK _ _ hb rfl⟩
    · intro ac w' hF hL hP hU K hK
      have hB : Below _ _ _ := hL
      have e7 : ac.eval (.tmp 7) = .bool iv := hF.at 7 (by kernel_rfl)
      have e53 : ac.eval (.tmp 53) = .bool true := hP 1 (by kernel_rfl)
      exact rop_move _ rfl e7 (wanted_of (j := 1) (b := true) rfl rfl e53) (hK _ _ (le8_refl _) rfl)
    · intro ac w' hF hL hP hU K hK
      have hB : Below _ _ _ := hL
      have e55 : ac.eval (.tmp 55) = .bool iv := hP 3 (by kernel_rfl)
      have e56 : ac.eval (.tmp 56) = .bool iv := hP 4 (by kernel_rfl)
      have e53 : ac.eval (.tmp 53) = .bool true := hP 1 (by kernel_rfl)
      exact rop_bin _ _ _ _ _ rfl e55 e56 (guard_bool _ _ _ _ _ _ w') (eql_bool_sameP iv w') (wanted_of (j := 1) (b := true) rfl rfl e53) (hK _ _ (le8_refl _) rfl)
    · intro ac w' hF hL hP hU K hK
      have hB : Below _ _ _ := hL
      have e53 : ac.eval (.tmp 53) = .bool true := hP 1 (by kernel_rfl)
      have e57 : ac.eval (.tmp 57) = .bool true := hP 5 (by kernel_rfl)
      exact rop_pick _ _ _ rfl true e53 (by simpa using e57) (wanted_none rfl) (hK _ _ (le8_refl _) rfl)
    · intro ac w' hF hL hP hU K hK
      have hB : Below _ _ _ := hL
      have e58 : ac.eval (.tmp 58) = .bool true := hP 6 (by kernel_rfl)
      exact rop_move _ rfl e58 (wanted_none rfl) (hK _ _ (le8_refl _) rfl)
    · intro ac w' hF hL hP hU K hK
      have hB : Below _ _ _ := hL
      have e10 : ac.eval (.tmp 10) = .bool false := hF.at 10 (by kernel_rfl)
      have e59 : ac.eval (.tmp 59) = .bool true := hP 7 (by kernel_rfl)
      exact rop_move _ rfl e10 (wanted_of (j := 7) (b := true) rfl rfl e59) (hK _ _ (le8_refl _) rfl)
    · intro ac w' hF hL hP hU K hK
      have hB : Below _ _ _ := hL
      have e11 : ac.eval (.tmp 11) = .bool false := hF.at 11 (by kernel_rfl)
      have e59 : ac.eval (.tmp 59) = .bool true := hP 7 (by kernel_rfl)
      exact rop_move _ rfl e11 (wanted_of (j := 7) (b := true) rfl rfl e59) (hK _ _ (le8_refl _) rfl)
    · intro ac w' hF hL hP hU K hK
      have hB : Below _ _ _ := hL
      have e60 : ac.eval (.tmp 60) = .bool false := hP 8 (by kernel_rfl)
      have e61 : ac.eval (.tmp 61) = .bool false := hP 9 (by kernel_rfl)
      have e59 : ac.eval (.tmp 59) = .bool true := hP 7 (by kernel_rfl)
      exact rop_bin _ _ _ _ _ rfl e60 e61 (guard_bool _ _ _ _ _ _ w') (eql_bool_sameP false w') (wanted_of (j := 7) (b := true) rfl rfl e59) (hK _ _ (le8_refl _) rfl)
    · intro ac w' hF hL hP hU K hK
      have hB : Below _ _ _ := hL
      have e59 : ac.eval (.tmp 59) = .bool true := hP 7 (by kernel_rfl)
      have e62 : ac.eval (.tmp 62) = .bool true := hP 10 (by kernel_rfl)
      exact rop_pick _ _ _ rfl true e59 (by simpa using e62) (wanted_none rfl) (hK _ _ (le8_refl _) rfl)
    · intro ac w' hF hL hP hU K hK
      have hB : Below _ _ _ := hL
      have e63 : ac.eval (.tmp 63) = .bool true := hP 11 (by kernel_rfl)
      exact rop_move _ rfl e63 (wanted_none rfl) (hK _ _ (le8_refl _) rfl)
    · intro ac w' hF hL hP hU K hK
      have hB : Below _ _ _ := hL
      have e10 : ac.eval (.tmp 10) = .bool false := hF.at 10 (by kernel_rfl)
      have e64 : ac.eval (.tmp 64) = .bool true := hP 12 (by kernel_rfl)
      exact rop_move _ rfl e10 (wanted_of (j := 12) (b := true) rfl rfl e64) (hK _ _ (le8_refl _) rfl)
    · intro ac w' hF hL hP hU K hK
      have hB : Below _ _ _ := hL
      have e65 : ac.eval (.tmp 65) = .bool false := hP 13 (by kernel_rfl)
      have e64 : ac.eval (.tmp 64) = .bool true := hP 12 (by kernel_rfl)
      exact rop_move _ rfl e65 (wanted_of (j := 12) (b := true) rfl rfl e64) (hK _ _ (le8_refl _) rfl)
    · intro ac w' hF hL hP hU K hK
      have hB : Below _ _ _ := hL
      have e66 : ac.eval (.tmp 66) = .bool false := hP 14 (by kernel_rfl)
      exact rop_offG (j := 14) (b := true) rfl rfl e66 (by decide) (hK _ _ (le8_refl _) rfl)
    · intro ac w' hF hL hP hU K hK
      have hB : Below _ _ _ := hL
      have e66 : ac.eval (.tmp 66) = .bool false := hP 14 (by kernel_rfl)
      exact rop_offG (j := 14) (b := true) rfl rfl e66 (by decide) (hK _ _ (le8_refl _) rfl)
    · intro ac w' hF hL hP hU K hK
      have hB : Below _ _ _ := hL
      have e66 : ac.eval (.tmp 66) = .bool false := hP 14 (by kernel_rfl)
      exact rop_offG (j := 14) (b := true) rfl rfl e66 (by decide) (hK _ _ (le8_refl _) rfl)
    · intro ac w' hF hL hP hU K hK
      have hB : Below _ _ _ := hL
      have e66 : ac.eval (.tmp 66) = .bool false := hP 14 (by kernel_rfl)
      exact rop_offG (j := 14) (b := true) rfl rfl e66 (by decide) (hK _ _ (le8_refl _) rfl)
    · intro ac w' hF hL hP hU K hK
      have hB : Below _ _ _ := hL
      have e66 : ac.eval (.tmp 66) = .bool false := hP 14 (by kernel_rfl)
      exact rop_offG (j := 14) (b := true) rfl rfl e66 (by decide) (hK _ _ (le8_refl _) rfl)
    · intro ac w' hF hL hP hU K hK
      have hB : Below _ _ _ := hL
      have e66 : ac.eval (.tmp 66) = .bool false := hP 14 (by kernel_rfl)
      have e64 : ac.eval (.tmp 64) = .bool true := hP 12 (by kernel_rfl)
      exact rop_pick _ _ _ rfl false e66 (by rfl) (wanted_of (j := 12) (b := true) rfl rfl e64) (hK _ _ (le8_refl _) rfl)
    · intro ac w' hF hL hP hU K hK
      have hB : Below _ _ _ := hL
      have e72 : ac.eval (.tmp 72) = .bool false := hP 20 (by kernel_rfl)
      have e64 : ac.eval (.tmp 64) = .bool true := hP 12 (by kernel_rfl)
      exact rop_move _ rfl e72 (wanted_of (j := 12) (b := true) rfl rfl e64) (hK _ _ (le8_refl _) rfl)
    · intro ac w' hF hL hP hU K hK
      have hB : Below _ _ _ := hL
      have e73 : ac.eval (.tmp 73) = .bool false := hP 21 (by kernel_rfl)
      exact rop_offG (j := 21) (b := true) rfl rfl e73 (by decide) (hK _ _ (le8_refl _) rfl)
    · intro ac w' hF hL hP hU K hK
      have hB : Below _ _ _ := hL
      have e73 : ac.eval (.tmp 73) = .bool false := hP 21 (by kernel_rfl)
      exact rop_offG (j := 21) (b := true) rfl rfl e73 (by decide) (hK _ _ (le8_refl _) rfl)
    · intro ac w' hF hL hP hU K hK
      have hB : Below _ _ _ := hL
      have e73 : ac.eval (.tmp 73) = .bool false := hP 21 (by kernel_rfl)
      exact rop_offG (j := 21) (b := true) rfl rfl e73 (by decide) (hK _ _ (le8_refl _) rfl)
    · intro ac w' hF hL hP hU K hK
      have hB : Below _ _ _ := hL
      have e73 : ac.eval (.tmp 73) = .bool false := hP 21 (by kernel_rfl)
      exact rop_offG (j := 21) (b := true) rfl rfl e73 (by decide) (hK _ _ (le8_refl _) rfl)
    · intro ac w' hF hL hP hU K hK
      have hB : Below _ _ _ := hL
      have e73 : ac.eval (.tmp 73) = .bool false := hP 21 (by kernel_rfl)
      exact rop_offG (j := 21) (b := true) rfl rfl e73 (by decide) (hK _ _ (le8_refl _) rfl)
    · intro ac w' hF hL hP hU K hK
      have hB : Below _ _ _ := hL
      have e73 : ac.eval (.tmp 73) = .bool false := hP 21 (by kernel_rfl)
      have e64 : ac.eval (.tmp 64) = .bool true := hP 12 (by kernel_rfl)
      exact rop_pick _ _ _ rfl false e73 (by rfl) (wanted_of (j := 12) (b := true) rfl rfl e64) (hK _ _ (le8_refl _) rfl)
    · intro ac w' hF hL hP hU K hK
      have hB : Below _ _ _ := hL
      have e79 : ac.eval (.tmp 79) = .bool false := hP 27 (by kernel_rfl)
      have e64 : ac.eval (.tmp 64) = .bool true := hP 12 (by kernel_rfl)
      exact rop_move _ rfl e79 (wanted_of (j := 12) (b := true) rfl rfl e64) (hK _ _ (le8_refl _) rfl)
    · intro ac w' hF hL hP hU K hK
      have hB : Below _ _ _ := hL
      have e10 : ac.eval (.tmp 10) = .bool false := hF.at 10 (by kernel_rfl)
      have e80 : ac.eval (.tmp 80) = .bool false := hP 28 (by kernel_rfl)
      exact rop_move _ rfl e10 (wanted_of (j := 28) (b := false) rfl rfl e80) (hK _ _ (le8_refl _) rfl)
    · intro ac w' hF hL hP hU K hK
      have hB : Below _ _ _ := hL
      have e81 : ac.eval (.tmp 81) = .bool false := hP 29 (by kernel_rfl)
      have e80 : ac.eval (.tmp 80) = .bool false := hP 28 (by kernel_rfl)
      exact rop_not _ _ rfl false e81 (wanted_of (j := 28) (b := false) rfl rfl e80) (hK _ _ (le8_refl _) rfl)
    · intro ac w' hF hL hP hU K hK
      have hB : Below _ _ _ := hL
      have e82 : ac.eval (.tmp 82) = .bool true := hP 30 (by kernel_rfl)
      have e80 : ac.eval (.tmp 80) = .bool false := hP 28 (by kernel_rfl)
      exact rop_move _ rfl e82 (wanted_of (j := 28) (b := false) rfl rfl e80) (hK _ _ (le8_refl _) rfl)
    · intro ac w' hF hL hP hU K hK
      have hB : Below _ _ _ := hL
      have e9 : ac.eval (.tmp 9) = .pointer (some ⟨q9, 0, none⟩) := hF.at 9 (by kernel_rfl)
      have e83 : ac.eval (.tmp 83) = .bool true := hP 31 (by kernel_rfl)
      exact rop_ld _ _ rfl e9 (load_tw (Jq9.out.old hB)) (wanted_of (j := 31) (b := true) rfl rfl e83) (hK _ _ (le8_refl _) rfl)
    · intro ac w' hF hL hP hU K hK
      have hB : Below _ _ _ := hL
      have e8 : ac.eval (.tmp 8) = .pointer (some ⟨q8, 0, none⟩) := hF.at 8 (by kernel_rfl)
      have e83 : ac.eval (.tmp 83) = .bool true := hP 31 (by kernel_rfl)
      exact rop_ld _ _ rfl e8 (load_tw (Jq8.out.old hB)) (wanted_of (j := 31) (b := true) rfl rfl e83) (hK _ _ (le8_refl _) rfl)
    · intro ac w' hF hL hP hU K hK
      have hB : Below _ _ _ := hL
      have e84 : ac.eval (.tmp 84) = twV ([], []) := hP 32 (by kernel_rfl)
      have e85 : ac.eval (.tmp 85) = twV ([], []) := hP 33 (by kernel_rfl)
      have e83 : ac.eval (.tmp 83) = .bool true := hP 31 (by kernel_rfl)
      exact rop_bin _ _ _ _ _ rfl e84 e85 (guard_tw _ _ _ _ _ w') (eql_tw_t ([], []) w') (wanted_of (j := 31) (b := true) rfl rfl e83) (hK _ _ (le8_refl _) rfl)
    · intro ac w' hF hL hP hU K hK
      have hB : Below _ _ _ := hL
      have e83 : ac.eval (.tmp 83) = .bool true := hP 31 (by kernel_rfl)
      have e86 : ac.eval (.tmp 86) = .bool true := hP 34 (by kernel_rfl)
      have e80 : ac.eval (.tmp 80) = .bool false := hP 28 (by kernel_rfl)
      exact rop_pick _ _ _ rfl true e83 (by simpa using e86) (wanted_of (j := 28) (b := false) rfl rfl e80) (hK _ _ (le8_refl _) rfl)
    · intro ac w' hF hL hP hU K hK
      have hB : Below _ _ _ := hL
      have e80 : ac.eval (.tmp 80) = .bool false := hP 28 (by kernel_rfl)
      have e87 : ac.eval (.tmp 87) = .bool true := hP 35 (by kernel_rfl)
      have e64 : ac.eval (.tmp 64) = .bool true := hP 12 (by kernel_rfl)
      exact rop_pick _ _ _ rfl false e80 (by simpa using e87) (wanted_of (j := 12) (b := true) rfl rfl e64) (hK _ _ (le8_refl _) rfl)
    · intro ac w' hF hL hP hU K hK
      have hB : Below _ _ _ := hL
      have e64 : ac.eval (.tmp 64) = .bool true := hP 12 (by kernel_rfl)
      have e88 : ac.eval (.tmp 88) = .bool true := hP 36 (by kernel_rfl)
      exact rop_pick _ _ _ rfl true e64 (by simpa using e88) (wanted_none rfl) (hK _ _ (le8_refl _) rfl)
    · intro ac w' hF hL hP hU K hK
      have hB : Below _ _ _ := hL
      have e89 : ac.eval (.tmp 89) = .bool true := hP 37 (by kernel_rfl)
      exact rop_assign _ rfl e89 (wanted_none rfl) (hK _ _ (le8_refl _) rfl)
    · intro ac w' hF hB hT
      have e4 : ac.eval (.tmp 4) = .bool true := hT 38 (by decide)
      rw [hF.setsG [52, 53, 54, 55, 56, 57, 58, 59, 60, 61, 62, 63, 64, 65, 66, 67, 68, 69, 70, 71, 72, 73, 74, 75, 76, 77, 78, 79, 80, 81, 82, 83, 84, 85, 86, 87, 88, 89, 4] (by kernel_rfl)]
      simp only [List.foldl_cons, List.foldl_nil, List.setIfInBounds_toArray, List.set_cons_succ, List.set_cons_zero, e4]
      generalize ac.eval (.tmp 52) = u52
      generalize ac.eval (.tmp 53) = u53
      generalize ac.eval (.tmp 54) = u54
      generalize ac.eval (.tmp 55) = u55
      generalize ac.eval (.tmp 56) = u56
      generalize ac.eval (.tmp 57) = u57
      generalize ac.eval (.tmp 58) = u58
      generalize ac.eval (.tmp 59) = u59
      generalize ac.eval (.tmp 60) = u60
      generalize ac.eval (.tmp 61) = u61
      generalize ac.eval (.tmp 62) = u62
      generalize ac.eval (.tmp 63) = u63
      generalize ac.eval (.tmp 64) = u64
      generalize ac.eval (.tmp 65) = u65
      generalize ac.eval (.tmp 66) = u66
      generalize ac.eval (.tmp 67) = u67
      generalize ac.eval (.tmp 68) = u68
      generalize ac.eval (.tmp 69) = u69
      generalize ac.eval (.tmp 70) = u70
      generalize ac.eval (.tmp 71) = u71
      generalize ac.eval (.tmp 72) = u72
      generalize ac.eval (.tmp 73) = u73
      generalize ac.eval (.tmp 74) = u74
      generalize ac.eval (.tmp 75) = u75
      generalize ac.eval (.tmp 76) = u76
      generalize ac.eval (.tmp 77) = u77
      generalize ac.eval (.tmp 78) = u78
      generalize ac.eval (.tmp 79) = u79
      generalize ac.eval (.tmp 80) = u80
      generalize ac.eval (.tmp 81) = u81
      generalize ac.eval (.tmp 82) = u82
      generalize ac.eval (.tmp 83) = u83
      generalize ac.eval (.tmp 84) = u84
      generalize ac.eval (.tmp 85) = u85
      generalize ac.eval (.tmp 86) = u86
      generalize ac.eval (.tmp 87) = u87
      generalize ac.eval (.tmp 88) = u88
      generalize ac.eval (.tmp 89) = u89
      clear e4 hT hF ac
      have HF := Lib.hid (below_step HBW.out (Nat.le_refl _) hB)
      clear hB
      go_wp2
      go_ret
      exact ⟨rfl, HF.out⟩

set_option maxRecDepth 100000 in
theorem lifted (os : Os) (started : os.Started) (H : Type) (enc : TypeId × Value → H) :
    ReturnsInHanded {} Tryd.checked os 4 .any (fun w args => (Rows.twinDataSpec.pre enc Tryd.prog Tryd.f4 [] false w args ∧ laidMetH Tryd.prog [("scrinium/sha.k", Rows.laid_scrinium_sha_k)] w) ∧ sizedMet enc Tryd.prog Tryd.f4 (OpenSpec.ofChange Rows.twinDataSpec) false w args)
      (Rows.twinDataSpec.post enc Tryd.prog Tryd.f4 false true false false) := by
  refine returnsInHanded_of_change_and (C := Tryd.checked) (X := fun w _ => laidMetH Tryd.prog [("scrinium/sha.k", Rows.laid_scrinium_sha_k)] w) (fun _ _ _ hh h => h.of_heap hh) lawOwn started (by kernel_rfl) Tryd.func4
    (ChangeSpec.witness_shaped (enc := enc) (C := Tryd.checked) (os := os) (X := fun w _ => laidMetH Tryd.prog [("scrinium/sha.k", Rows.laid_scrinium_sha_k)] w) false (World.doorLaid Tryd.prog 400 os) #[.string .empty, .string .empty] 8 rfl (World.shaped_of_RefB (by kernel_rfl) (by kernel_rfl)) (by kernel_rfl) (by kernel_rfl) (by kernel_rfl) (door_met os _)) ?_
  intro W base args ds gs before hval0 hW _ _ hL _
  have hval : ∀ (j : Nat) t v, Tryd.f4.params[j]? = some t → args[j]? = some v → Value.okWide Tryd.prog W .any base t v := hval0
  have hW' := hW
  obtain ⟨p, q, hA0, hV, rfl, hfz, hnd⟩ := hW
  have hA : DataW.TrodAll enc Tryd.prog W 0 (fun _ => true) true Tryd.f4.params.toList args.toList ds p := hA0
  rw [Tryd.params4] at hA hval
  obtain ⟨v0, vs0, d0, ds0, p0, q0, hargs, rfl, rfl, h0, r0⟩ := trodAll_cons hA
  obtain ⟨v1, vs1, d1, ds1, p1, q1, rfl, rfl, rfl, h1, r1⟩ := trodAll_cons r0
  obtain ⟨rfl, rfl, rfl⟩ := trodAll_nil r1
  obtain rfl : args = #[v0, v1] := by cases args; simp_all
  obtain ⟨rfl, rfl⟩ := trodVars_none hV
  have hKT := KT_of_laid hL
  obtain ⟨s0, rfl, rfl, rfl, w0⟩ := Go.ChangeMaps.open_string Tryd.underlying9 (hval 0 9 v0 rfl rfl) h0
  obtain ⟨s1, rfl, rfl, rfl, w1⟩ := Go.ChangeMaps.open_string Tryd.underlying9 (hval 1 9 v1 rfl rfl) h1
  clear hA0 hval0
  refine (walk (w := W) hKT s0 w0 s1 w1).mono fun e W' ⟨he, bel⟩ => ?_
  subst he
  exact ⟨_, rfl, law_post rfl rfl (by kernel_rfl) hW' rfl bel⟩

theorem row_holds : Rows.TwinDataSaid :=
  OpenClaim.holds_of_wide 4 Tryd.f4 rfl rfl rfl rfl rfl rfl rfl ⟨rfl, rfl, rfl, rfl, rfl⟩ rfl rfl rfl rfl rfl (by kernel_rfl) Tryd.func4 (by kernel_rfl)
    (of_decide_eq_true (by kernel_rfl)) (by unfold Func.isWrapper; first | (rw [if_pos (by decide +kernel)]; kernel_rfl) | (rw [if_neg (by decide +kernel)]; exact ⟨rfl, rfl⟩))
    (fun os started H enc _ => lifted os started H enc)

theorem holds : Rows.TwinDataCardSaid :=
  Claim7.holds_tied_plain_at .later [] [.data] true Rows.twinDataCard.stood.harness false
    row_holds (fun _ h => by cases h) (by kernel_rfl) (fun _ h => by cases h) twinData_row_tie rfl ⟨rfl, rfl⟩ (by kernel_rfl) rfl
    (fun f fn hf hfn => by
      obtain rfl : f = 4 := Option.some.inj ((show Tryd.prog.funcNamed "scrinium/scriniumlaw13.TwinData" = some 4 by kernel_rfl).symm.trans hf) |>.symm
      obtain rfl : fn = Tryd.f4 := (Option.some.inj (Tryd.func4.symm.trans hfn)).symm
      exact ⟨by kernel_rfl, fun j t ht => by
        rw [Tryd.params4] at ht
        have hm : t ∈ [9, 9] := by simpa using Array.mem_of_getElem? ht
        have hall : ([9, 9].all fun u => !Tryd.prog.wantsStandIn u) = true := by kernel_rfl
        exact (show Tryd.prog.wantsStandIn t = false by simpa using List.all_eq_true.1 hall t hm)⟩)
    (by kernel_rfl)
end Go.Proofs.YtdcebdleneieeaaDoor.twinData

theorem Go.Proofs.YtdcebdleneieeaaDoor.twinData_holds : Go.Proofs.YtdcebdleneieeaaDoor.Rows.TwinDataCardSaid := Go.Proofs.YtdcebdleneieeaaDoor.twinData.holds
#print axioms Go.Proofs.YtdcebdleneieeaaDoor.twinData_holds
