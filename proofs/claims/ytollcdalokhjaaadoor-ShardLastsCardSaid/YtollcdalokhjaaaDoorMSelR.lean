/-
  Several texts in one (SelRef, SelRMake).
-/
import Derived.Test.YtollcdalokhjaaaDoorMSelB
import Derived.Test.YtollcdalokhjaaaDoorRefMac
import Derived.Test.YtollcdalokhjaaaDoorMOct
/-! ## The document's own answers for layer 16: what is written, signed, and told right. -/
namespace Go.Proofs.YtollcdalokhjaaaDoor
open Go.RowKit

theorem add_tB (a b : List UInt8) (h : a.length + b.length ≤ 1000000) (w : World) : (binOp .add 9 (.string (tB a)) (.string (tB b))).run Tryd.prog w = .ok (.string (tB (a ++ b))) w := by
  rw [← tB_app]
  exact add_str _ _ (by rw [tB_size, tB_size]; omega) w
theorem rput_any (n : Int) (w : World) : Calls Tryd.prog 71 #[.int .u64 (u64N n : Int)] w fun e w' => e = .returned (.string (tB (Oct.putL (u64N n)))) ∧ Below w.heap.size w w' := refPut_any (u64N n) w (u64N_lt n)

set_option maxHeartbeats 3200000 in
set_option maxRecDepth 100000 in
theorem rfzBytes_any (f : FzR) (hf : f.root.length = 32) (w : World) :
    Calls Tryd.prog 69 #[.agg (fzCs f).toArray] w fun e w' => e = .returned (.tuple #[.string (fzT f), .int .i64 (fzZ f)]) ∧ Below w.heap.size w w' := by
  obtain ⟨p, hp⟩ : ∃ p, p = w.heap.size := ⟨_, rfl⟩
  obtain ⟨W, hW⟩ : ∃ W, W = w.alloc (.cells (fzCs f).toArray 44) := ⟨_, rfl⟩
  have hb1 : Below w.heap.size w W := by rw [hW]; exact below_boxS _ _
  have hr : FzAt p f W := by rw [hW, hp]; exact Blk.alloc _ _ _
  have hp1 : p < W.heap.size := Blk.lt hr
  have HW := Lib.hid hW
  have HP := Lib.hid hp
  have HR := Lib.hid hr
  have c0 := hr.win
  have c1 := hr.cnt
  have l1 := putL_le (u64N f.win) (u64N_lt _)
  have l2 := putL_le (u64N f.cnt) (u64N_lt _)
  have l3 := hashL_length hf
  have HASS : Hid ([70] ++ Oct.putL (u64N f.win) ++ Oct.putL (u64N f.cnt) ++ hashL f.root = fzL f) := Lib.hid (by simp [fzL])
  clear hW hp hr
  unfold fzT fzZ fzB timB mayB
  by_cases h0 : f.win < 0
  · rw [decide_eq_false (show ¬ 0 ≤ f.win by omega)]
    simp only [Bool.false_and]
    go_enter Tryd.func69, Tryd.ntmps69
    go_upto_region 1 with fail
    rw [← HW.out, ← HP.out]
    clear HW
    go_wp2
    try rw [Exit.noGoto_ret]
    go_ret2
    exact ⟨rfl, hb1⟩
  by_cases h1 : 1125899906842624 < f.win
  · rw [decide_eq_false (show ¬ f.win ≤ 1125899906842624 by omega)]
    simp only [Bool.and_false]
    go_enter Tryd.func69, Tryd.ntmps69
    go_upto_region 1 with fail
    rw [← HW.out, ← HP.out]
    clear HW
    go_wp2
    try rw [Exit.noGoto_ret]
    go_ret2
    exact ⟨rfl, hb1⟩
  by_cases h2 : f.cnt < 1
  · rw [decide_eq_false (show ¬ 1 ≤ f.cnt by omega)]
    simp only [Bool.false_and]
    go_enter Tryd.func69, Tryd.ntmps69
    go_upto_region 1 with fail
    rw [← HW.out, ← HP.out]
    clear HW
    go_wp2
    try rw [Exit.noGoto_ret]
    go_ret2
    exact ⟨rfl, hb1⟩
  by_cases h3 : 4000 < f.cnt
  · rw [decide_eq_false (show ¬ f.cnt ≤ 4000 by omega)]
    simp only [Bool.and_false]
    go_enter Tryd.func69, Tryd.ntmps69
    go_upto_region 1 with fail
    rw [← HW.out, ← HP.out]
    clear HW
    go_wp2
    try rw [Exit.noGoto_ret]
    go_ret2
    exact ⟨rfl, hb1⟩
  rw [decide_eq_true (show 0 ≤ f.win by omega), decide_eq_true (show f.win ≤ 1125899906842624 by omega), decide_eq_true (show 1 ≤ f.cnt by omega), decide_eq_true (show f.cnt ≤ 4000 by omega)]
  simp only [Bool.and_true, if_true]
  go_enter Tryd.func69, Tryd.ntmps69
  go_upto_region 1 with fail
  rw [← HW.out, ← HP.out]
  clear HW
  go_upto_region 3 with fail
  clear h0 h1 h2 h3
  try simp only [Act.put]
  refine wp_region_tab [RT.is (.pointer (some ⟨p, 0, none⟩)), RT.is (.int .i64 f.win), RT.is (.int .u64 (u64N f.win : Int)), RT.is (.string (tB (Oct.putL (u64N f.win)))), RT.is (.string (tB ([70] ++ Oct.putL (u64N f.win)))), RT.is (.pointer (some ⟨p, 1, none⟩)), RT.is (.int .i64 f.cnt), RT.is (.int .u64 (u64N f.cnt : Int)), RT.is (.string (tB (Oct.putL (u64N f.cnt)))), RT.is (.string (tB ([70] ++ Oct.putL (u64N f.win) ++ Oct.putL (u64N f.cnt)))), RT.is (.pointer (some ⟨p, 2, none⟩)), RT.is (sumV f.root), RT.is (.string (tB (hashL f.root))), RT.is (.string (tB (fzL f))), RT.is (.string (tB (fzL f))), RT.is (.int .i64 0)] (by kernel_rfl) (by kernel_rfl) (by kernel_rfl) (by kernel_rfl) ⟨?_, ?_, ?_, ?_, ?_, ?_, ?_, ?_, ?_, ?_, ?_, ?_, ?_, ?_, ?_, ?_, trivial⟩ ?_
  · intro ac w' hF hL hP hU K hK
    have hB := below_undrew hL
    have e1 : ac.eval (.tmp 1) = .pointer (some ⟨p, 0, none⟩) := hF.at 1 (by kernel_rfl)
    exact rop_fld _ _ _ rfl e1 ((fld_fz0 p _).1) (wanted_none rfl) (hK _ _ (le8_refl _) rfl)
  · intro ac w' hF hL hP hU K hK
    have hB := below_undrew hL
    have e22 : ac.eval (.tmp 22) = .pointer (some ⟨p, 0, none⟩) := hP 0 (by kernel_rfl)
    exact rop_ld _ _ rfl e22 (load_intS ((hB.cell (p := ⟨p, _, none⟩) hp1).trans c0)) (wanted_none rfl) (hK _ _ (le8_refl _) rfl)
  · intro ac w' hF hL hP hU K hK
    have hB := below_undrew hL
    have e23 : ac.eval (.tmp 23) = .int .i64 f.win := hP 1 (by kernel_rfl)
    exact rop_convR _ _ _ rfl e23 (conv_u64 f.win w') (wanted_none rfl) (hK _ _ (le8_refl _) rfl)
  · intro ac w' hF hL hP hU K hK
    have hB := below_undrew hL
    have e24 : ac.eval (.tmp 24) = .int .u64 (u64N f.win : Int) := hP 2 (by kernel_rfl)
    refine rop_call 71 _ _ rfl #[.int .u64 (u64N f.win : Int)] (by simp [e24]) (by kernel_rfl) (wanted_none rfl) ?_
    refine (rput_any f.win w').mono ?_
    rintro e w2 ⟨rfl, hb⟩
    exact ⟨_, rfl, hK _ _ hb rfl⟩
  · intro ac w' hF hL hP hU K hK
    have hB := below_undrew hL
    have e25 : ac.eval (.tmp 25) = .string (tB (Oct.putL (u64N f.win))) := hP 3 (by kernel_rfl)
    exact rop_bin _ _ _ _ _ rfl rfl e25 (guard_str _ _ _ _ _ _ w') (add_tB ([70]) (Oct.putL (u64N f.win)) (by simp only [List.length_cons, List.length_nil]; omega) w') (wanted_none rfl) (hK _ _ (le8_refl _) rfl)
  · intro ac w' hF hL hP hU K hK
    have hB := below_undrew hL
    have e1 : ac.eval (.tmp 1) = .pointer (some ⟨p, 0, none⟩) := hF.at 1 (by kernel_rfl)
    exact rop_fld _ _ _ rfl e1 ((fld_fz0 p _).2.1) (wanted_none rfl) (hK _ _ (le8_refl _) rfl)
  · intro ac w' hF hL hP hU K hK
    have hB := below_undrew hL
    have e27 : ac.eval (.tmp 27) = .pointer (some ⟨p, 1, none⟩) := hP 5 (by kernel_rfl)
    exact rop_ld _ _ rfl e27 (load_intS ((hB.cell (p := ⟨p, _, none⟩) hp1).trans c1)) (wanted_none rfl) (hK _ _ (le8_refl _) rfl)
  · intro ac w' hF hL hP hU K hK
    have hB := below_undrew hL
    have e28 : ac.eval (.tmp 28) = .int .i64 f.cnt := hP 6 (by kernel_rfl)
    exact rop_convR _ _ _ rfl e28 (conv_u64 f.cnt w') (wanted_none rfl) (hK _ _ (le8_refl _) rfl)
  · intro ac w' hF hL hP hU K hK
    have hB := below_undrew hL
    have e29 : ac.eval (.tmp 29) = .int .u64 (u64N f.cnt : Int) := hP 7 (by kernel_rfl)
    refine rop_call 71 _ _ rfl #[.int .u64 (u64N f.cnt : Int)] (by simp [e29]) (by kernel_rfl) (wanted_none rfl) ?_
    refine (rput_any f.cnt w').mono ?_
    rintro e w2 ⟨rfl, hb⟩
    exact ⟨_, rfl, hK _ _ hb rfl⟩
  · intro ac w' hF hL hP hU K hK
    have hB := below_undrew hL
    have e26 : ac.eval (.tmp 26) = .string (tB ([70] ++ Oct.putL (u64N f.win))) := hP 4 (by kernel_rfl)
    have e30 : ac.eval (.tmp 30) = .string (tB (Oct.putL (u64N f.cnt))) := hP 8 (by kernel_rfl)
    exact rop_bin _ _ _ _ _ rfl e26 e30 (guard_str _ _ _ _ _ _ w') (add_tB ([70] ++ Oct.putL (u64N f.win)) (Oct.putL (u64N f.cnt)) (by simp only [List.length_append, List.length_cons, List.length_nil]; omega) w') (wanted_none rfl) (hK _ _ (le8_refl _) rfl)
  · intro ac w' hF hL hP hU K hK
    have hB := below_undrew hL
    have e1 : ac.eval (.tmp 1) = .pointer (some ⟨p, 0, none⟩) := hF.at 1 (by kernel_rfl)
    exact rop_fld _ _ _ rfl e1 ((fld_fz0 p _).2.2) (wanted_none rfl) (hK _ _ (le8_refl _) rfl)
  · intro ac w' hF hL hP hU K hK
    have hB := below_undrew hL
    have e32 : ac.eval (.tmp 32) = .pointer (some ⟨p, 2, none⟩) := hP 10 (by kernel_rfl)
    exact rop_ld _ _ rfl e32 (load_sumAt (below_range' hB hp1 HR.out.root) hf) (wanted_none rfl) (hK _ _ (le8_refl _) rfl)
  · intro ac w' hF hL hP hU K hK
    have hB := below_undrew hL
    have e33 : ac.eval (.tmp 33) = sumV f.root := hP 11 (by kernel_rfl)
    refine rop_call 91 _ _ rfl #[sumV f.root] (by simp [e33]) (by kernel_rfl) (wanted_none rfl) ?_
    refine (rsumS_any f.root hf w').mono ?_
    rintro e w2 ⟨rfl, hb⟩
    exact ⟨_, rfl, hK _ _ hb rfl⟩
  · intro ac w' hF hL hP hU K hK
    have hB := below_undrew hL
    have e31 : ac.eval (.tmp 31) = .string (tB ([70] ++ Oct.putL (u64N f.win) ++ Oct.putL (u64N f.cnt))) := hP 9 (by kernel_rfl)
    have e34 : ac.eval (.tmp 34) = .string (tB (hashL f.root)) := hP 12 (by kernel_rfl)
    exact rop_bin _ _ _ _ _ rfl e31 e34 (guard_str _ _ _ _ _ _ w') ((add_tB ([70] ++ Oct.putL (u64N f.win) ++ Oct.putL (u64N f.cnt)) (hashL f.root) (by simp only [List.length_append, List.length_cons, List.length_nil]; omega) w').trans (by rw [HASS.out])) (wanted_none rfl) (hK _ _ (le8_refl _) rfl)
  · intro ac w' hF hL hP hU K hK
    have hB := below_undrew hL
    have e35 : ac.eval (.tmp 35) = .string (tB (fzL f)) := hP 13 (by kernel_rfl)
    exact rop_assign _ rfl e35 (wanted_none rfl) (hK _ _ (le8_refl _) rfl)
  · intro ac w' hF hL hP hU K hK
    have hB := below_undrew hL
    exact rop_assign _ rfl rfl (wanted_none rfl) (hK _ _ (le8_refl _) rfl)
  · intro ac w' hF hB hT
    have e2 : ac.eval (.tmp 2) = .string (tB (fzL f)) := hT 14 (by decide)
    have e3 : ac.eval (.tmp 3) = .int .i64 0 := hT 15 (by decide)
    rw [hF.setsG [22, 23, 24, 25, 26, 27, 28, 29, 30, 31, 32, 33, 34, 35, 2, 3] (by kernel_rfl)]
    simp only [List.foldl_cons, List.foldl_nil, List.setIfInBounds_toArray, List.set_cons_succ, List.set_cons_zero, e2, e3]
    generalize ac.eval (.tmp 22) = u22
    generalize ac.eval (.tmp 23) = u23
    generalize ac.eval (.tmp 24) = u24
    generalize ac.eval (.tmp 25) = u25
    generalize ac.eval (.tmp 26) = u26
    generalize ac.eval (.tmp 27) = u27
    generalize ac.eval (.tmp 28) = u28
    generalize ac.eval (.tmp 29) = u29
    generalize ac.eval (.tmp 30) = u30
    generalize ac.eval (.tmp 31) = u31
    generalize ac.eval (.tmp 32) = u32
    generalize ac.eval (.tmp 33) = u33
    generalize ac.eval (.tmp 34) = u34
    generalize ac.eval (.tmp 35) = u35
    clear e2 e3 hT hF ac
    have hbw := below_step hb1 (Nat.le_refl _) hB
    clear hB c0 c1 l1 l2 l3
    go_wp2
    go_ret2
    exact ⟨rfl, hbw⟩
set_option maxHeartbeats 3200000 in
set_option maxRecDepth 100000 in
theorem rstSays_any (f : StR) (hf : f.fz.root.length = 32) (w : World) :
    Calls Tryd.prog 47 #[.agg (stCs f).toArray] w fun e w' => e = .returned (.tuple #[.string (stT f), .bool (stB f)]) ∧ Below w.heap.size w w' := by
  obtain ⟨p, hp⟩ : ∃ p, p = w.heap.size := ⟨_, rfl⟩
  obtain ⟨W, hW⟩ : ∃ W, W = w.alloc (.cells (stCs f).toArray 49) := ⟨_, rfl⟩
  have hb1 : Below w.heap.size w W := by rw [hW]; exact below_boxS _ _
  have hr : StAt p f W := by rw [hW, hp]; exact Blk.alloc _ _ _
  have hp1 : p < W.heap.size := Blk.lt hr
  have HW := Lib.hid hW
  have HP := Lib.hid hp
  have HR := Lib.hid hr
  have hfl := fzL_length hf
  have l1 := putL_le (u64N f.tim) (u64N_lt _)
  have l2 : (txtL ⟨(fzL f.fz).toArray⟩).length ≤ 100 := by
    have h3 := putL_le (ByteArray.size ⟨(fzL f.fz).toArray⟩) (by simp [ByteArray.size]; omega)
    have e : txtL ⟨(fzL f.fz).toArray⟩ = Oct.putL (ByteArray.size ⟨(fzL f.fz).toArray⟩) ++ fzL f.fz := rfl
    rw [e, List.length_append]; omega
  have HASS : Hid ([84] ++ txtL ⟨(fzL f.fz).toArray⟩ ++ Oct.putL (u64N f.tim) = stL f) := Lib.hid (by simp [stL])
  have HTX : Hid (∀ u : World, Calls Tryd.prog 70 #[.string (tB (fzL f.fz))] u fun e w' => e = .returned (.string (tB (txtL ⟨(fzL f.fz).toArray⟩))) ∧ Below u.heap.size u w') := Lib.hid fun u => by
    rw [show tB (txtL ⟨(fzL f.fz).toArray⟩) = Oct.putB (tB (fzL f.fz)).size ++ tB (fzL f.fz) from (txt_eq _).symm]
    exact refText_any _ u (by rw [tB_size]; omega)
  have HRg : Hid (W.rangeAt p 0 (fzCs f.fz)) := Lib.hid hr.fz
  have HI : Hid ((Tryd.prog.info? 44).map (·.size) = some (fzCs f.fz).length) := Lib.hid (by rw [fzCs_length hf]; exact size_fz)
  clear hW hp hr hfl
  have qf := fun u => rfzBytes_any f.fz hf u
  unfold stT stB timB mayB
  by_cases hz : fzB f.fz = true
  · rw [hz]
    have ez : fzZ f.fz = 0 := if_pos hz
    have et : fzT f.fz = tB (fzL f.fz) := if_pos hz
    rw [ez, et] at qf
    simp only [Bool.true_and]
    clear hz ez et
    by_cases h0 : f.tim < 0
    · rw [decide_eq_false (show ¬ 0 ≤ f.tim by omega)]
      simp only [Bool.false_and, Bool.false_eq_true, if_false]
      clear HASS HTX
      generalize fzL f.fz = L at *
      go_enter Tryd.func47, Tryd.ntmps47
      go_upto_region 1 with fail
      rw [← HW.out, ← HP.out]
      clear HW
      go_upto_region 2 with (first | refine wpList_load_mid rfl 44 (.tmp 7) rfl p 0 rfl (fzCs f.fz) _ HRg.out Tryd.underlying44 rfl HI.out ?_ | (go_at_call 69; ((with_reducible refine (qf _).mono ?_); rintro e w4 ⟨rfl, b4⟩)))
      have c34 := StAt.tim (HR.out.old b4 hp1) hf
      replace hb1 := below_step hb1 (Nat.le_refl _) b4
      clear b4
      go_wp2
      try rw [Exit.noGoto_ret]
      go_ret2
      exact ⟨rfl, hb1⟩
    by_cases h1 : 1125899906842624 < f.tim
    · rw [decide_eq_false (show ¬ f.tim ≤ 1125899906842624 by omega)]
      simp only [Bool.and_false, Bool.false_eq_true, if_false]
      clear HASS HTX
      generalize fzL f.fz = L at *
      go_enter Tryd.func47, Tryd.ntmps47
      go_upto_region 1 with fail
      rw [← HW.out, ← HP.out]
      clear HW
      go_upto_region 2 with (first | refine wpList_load_mid rfl 44 (.tmp 7) rfl p 0 rfl (fzCs f.fz) _ HRg.out Tryd.underlying44 rfl HI.out ?_ | (go_at_call 69; ((with_reducible refine (qf _).mono ?_); rintro e w4 ⟨rfl, b4⟩)))
      have c34 := StAt.tim (HR.out.old b4 hp1) hf
      replace hb1 := below_step hb1 (Nat.le_refl _) b4
      clear b4
      go_wp2
      try rw [Exit.noGoto_ret]
      go_ret2
      exact ⟨rfl, hb1⟩
    rw [decide_eq_true (show 0 ≤ f.tim by omega), decide_eq_true (show f.tim ≤ 1125899906842624 by omega)]
    simp only [Bool.and_true, if_true]
    go_enter Tryd.func47, Tryd.ntmps47
    go_upto_region 1 with fail
    rw [← HW.out, ← HP.out]
    clear HW
    go_upto_region 2 with (first | refine wpList_load_mid rfl 44 (.tmp 7) rfl p 0 rfl (fzCs f.fz) _ HRg.out Tryd.underlying44 rfl HI.out ?_ | (go_at_call 69; ((with_reducible refine (qf _).mono ?_); rintro e w4 ⟨rfl, b4⟩)))
    have c34 := StAt.tim (HR.out.old b4 hp1) hf
    replace hb1 := below_step hb1 (Nat.le_refl _) b4
    replace hp1 := Nat.lt_of_lt_of_le hp1 b4.size
    clear b4 qf HRg
    go_upto_region 4 with fail
    clear h0 h1
    try simp only [Act.put]
    refine wp_region_tab [RT.is (.string (tB (fzL f.fz))), RT.is (.string (tB (txtL ⟨(fzL f.fz).toArray⟩))), RT.is (.string (tB ([84] ++ txtL ⟨(fzL f.fz).toArray⟩))), RT.is (.pointer (some ⟨p, 34, none⟩)), RT.is (.int .i64 f.tim), RT.is (.int .u64 (u64N f.tim : Int)), RT.is (.string (tB (Oct.putL (u64N f.tim)))), RT.is (.string (tB (stL f))), RT.is (.string (tB (stL f))), RT.is (.bool true)] (by kernel_rfl) (by kernel_rfl) (by kernel_rfl) (by kernel_rfl) ⟨?_, ?_, ?_, ?_, ?_, ?_, ?_, ?_, ?_, ?_, trivial⟩ ?_
    · intro ac w' hF hL hP hU K hK
      have hB := below_undrew hL
      have e4 : ac.eval (.tmp 4) = .string (tB (fzL f.fz)) := hF.at 4 (by kernel_rfl)
      exact rop_move _ rfl e4 (wanted_none rfl) (hK _ _ (le8_refl _) rfl)
    · intro ac w' hF hL hP hU K hK
      have hB := below_undrew hL
      have e24 : ac.eval (.tmp 24) = .string (tB (fzL f.fz)) := hP 0 (by kernel_rfl)
      refine rop_call 70 _ _ rfl #[.string (tB (fzL f.fz))] (by simp [e24]) (by kernel_rfl) (wanted_none rfl) ?_
      refine (HTX.out w').mono ?_
      rintro e w2 ⟨rfl, hb⟩
      exact ⟨_, rfl, hK _ _ hb rfl⟩
    · intro ac w' hF hL hP hU K hK
      have hB := below_undrew hL
      have e25 : ac.eval (.tmp 25) = .string (tB (txtL ⟨(fzL f.fz).toArray⟩)) := hP 1 (by kernel_rfl)
      exact rop_bin _ _ _ _ _ rfl rfl e25 (guard_str _ _ _ _ _ _ w') (add_tB ([84]) (txtL ⟨(fzL f.fz).toArray⟩) (by simp only [List.length_cons, List.length_nil]; omega) w') (wanted_none rfl) (hK _ _ (le8_refl _) rfl)
    · intro ac w' hF hL hP hU K hK
      have hB := below_undrew hL
      have e1 : ac.eval (.tmp 1) = .pointer (some ⟨p, 0, none⟩) := hF.at 1 (by kernel_rfl)
      exact rop_fld _ _ _ rfl e1 ((fld_st0 p _).2.1) (wanted_none rfl) (hK _ _ (le8_refl _) rfl)
    · intro ac w' hF hL hP hU K hK
      have hB := below_undrew hL
      have e27 : ac.eval (.tmp 27) = .pointer (some ⟨p, 34, none⟩) := hP 3 (by kernel_rfl)
      exact rop_ld _ _ rfl e27 (load_intS ((hB.cell (p := ⟨p, _, none⟩) hp1).trans c34)) (wanted_none rfl) (hK _ _ (le8_refl _) rfl)
    · intro ac w' hF hL hP hU K hK
      have hB := below_undrew hL
      have e28 : ac.eval (.tmp 28) = .int .i64 f.tim := hP 4 (by kernel_rfl)
      exact rop_convR _ _ _ rfl e28 (conv_u64 f.tim w') (wanted_none rfl) (hK _ _ (le8_refl _) rfl)
    · intro ac w' hF hL hP hU K hK
      have hB := below_undrew hL
      have e29 : ac.eval (.tmp 29) = .int .u64 (u64N f.tim : Int) := hP 5 (by kernel_rfl)
      refine rop_call 71 _ _ rfl #[.int .u64 (u64N f.tim : Int)] (by simp [e29]) (by kernel_rfl) (wanted_none rfl) ?_
      refine (rput_any f.tim w').mono ?_
      rintro e w2 ⟨rfl, hb⟩
      exact ⟨_, rfl, hK _ _ hb rfl⟩
    · intro ac w' hF hL hP hU K hK
      have hB := below_undrew hL
      have e26 : ac.eval (.tmp 26) = .string (tB ([84] ++ txtL ⟨(fzL f.fz).toArray⟩)) := hP 2 (by kernel_rfl)
      have e30 : ac.eval (.tmp 30) = .string (tB (Oct.putL (u64N f.tim))) := hP 6 (by kernel_rfl)
      exact rop_bin _ _ _ _ _ rfl e26 e30 (guard_str _ _ _ _ _ _ w') ((add_tB ([84] ++ txtL ⟨(fzL f.fz).toArray⟩) (Oct.putL (u64N f.tim)) (by simp only [List.length_append, List.length_cons, List.length_nil]; omega) w').trans (by rw [HASS.out])) (wanted_none rfl) (hK _ _ (le8_refl _) rfl)
    · intro ac w' hF hL hP hU K hK
      have hB := below_undrew hL
      have e31 : ac.eval (.tmp 31) = .string (tB (stL f)) := hP 7 (by kernel_rfl)
      exact rop_assign _ rfl e31 (wanted_none rfl) (hK _ _ (le8_refl _) rfl)
    · intro ac w' hF hL hP hU K hK
      have hB := below_undrew hL
      exact rop_assign _ rfl rfl (wanted_none rfl) (hK _ _ (le8_refl _) rfl)
    · intro ac w' hF hB hT
      have e2 : ac.eval (.tmp 2) = .string (tB (stL f)) := hT 8 (by decide)
      have e3 : ac.eval (.tmp 3) = .bool true := hT 9 (by decide)
      rw [hF.setsG [24, 25, 26, 27, 28, 29, 30, 31, 2, 3] (by kernel_rfl)]
      simp only [List.foldl_cons, List.foldl_nil, List.setIfInBounds_toArray, List.set_cons_succ, List.set_cons_zero, e2, e3]
      generalize ac.eval (.tmp 24) = u24
      generalize ac.eval (.tmp 25) = u25
      generalize ac.eval (.tmp 26) = u26
      generalize ac.eval (.tmp 27) = u27
      generalize ac.eval (.tmp 28) = u28
      generalize ac.eval (.tmp 29) = u29
      generalize ac.eval (.tmp 30) = u30
      generalize ac.eval (.tmp 31) = u31
      clear e2 e3 hT hF ac
      have hbw := below_step hb1 (Nat.le_refl _) hB
      clear hB c34 l1 l2
      go_wp2
      go_ret2
      exact ⟨rfl, hbw⟩
  · have ez : fzZ f.fz = 1 := if_neg hz
    have et : fzT f.fz = tB [] := if_neg hz
    rw [ez, et] at qf
    rw [show fzB f.fz = false by simpa using hz]
    simp only [Bool.false_and, Bool.false_eq_true, if_false]
    clear hz ez et HASS HTX
    go_enter Tryd.func47, Tryd.ntmps47
    go_upto_region 1 with fail
    rw [← HW.out, ← HP.out]
    clear HW
    go_upto_region 2 with (first | refine wpList_load_mid rfl 44 (.tmp 7) rfl p 0 rfl (fzCs f.fz) _ HRg.out Tryd.underlying44 rfl HI.out ?_ | (go_at_call 69; ((with_reducible refine (qf _).mono ?_); rintro e w4 ⟨rfl, b4⟩)))
    replace hb1 := below_step hb1 (Nat.le_refl _) b4
    clear b4 qf
    go_wp2
    try rw [Exit.noGoto_ret]
    go_ret2
    exact ⟨rfl, hb1⟩
end Go.Proofs.YtollcdalokhjaaaDoor
/-! ## The document's own answers for layer 16: Head and Stone. -/
namespace Go.Proofs.YtollcdalokhjaaaDoor
open Go.RowKit

set_option maxHeartbeats 3200000 in
set_option maxRecDepth 100000 in
theorem rstMake_any (key : ByteArray) (hk : key.size ≤ 1000000) (f : FzR) (hr : f.root.length = 32) (c : Int) (w : World) :
    Calls Tryd.prog 21 #[.string key, .agg (fzCs f).toArray, .int .i64 c] w fun e w' => e = .returned (.agg (stCs (stMk key.data.toList f c)).toArray) ∧ Below w.heap.size w w' := by
  obtain ⟨D, hD⟩ : ∃ D, D = sgn key.data.toList (stB ⟨f, c, z32⟩) (stL ⟨f, c, z32⟩) := ⟨_, rfl⟩
  have HDl : Hid (D.length = 32) := Lib.hid (by rw [hD]; exact sgn_length _ _ _)
  rw [show stMk key.data.toList f c = ⟨f, c, D⟩ by rw [hD]; rfl]
  obtain ⟨p, hp⟩ : ∃ p, p = w.heap.size := ⟨_, rfl⟩
  obtain ⟨W, hW⟩ : ∃ W, W = w.alloc (.cells (fzCs f).toArray 44) := ⟨_, rfl⟩
  have hb1 : Below w.heap.size w W := by rw [hW]; exact below_boxS _ _
  have h1 : Blk p 44 (fzCs f) W := by rw [hW, hp]; exact Blk.alloc _ _ _
  obtain ⟨q, hq⟩ : ∃ q, q = p + 1 := ⟨_, rfl⟩
  obtain ⟨V, hV⟩ : ∃ V, V = W.alloc (.cells (stCs st0).toArray 49) := ⟨_, rfl⟩
  have hWs : W.heap.size = q := by rw [hW, hq, hp]; simp
  have zq : StAt q st0 V := by rw [hV, ← hWs]; exact Blk.alloc _ _ _
  have b2 : Below W.heap.size W V := by rw [hV]; exact below_boxS _ _
  obtain ⟨x, hx⟩ : ∃ x, x = V.heap.size := ⟨_, rfl⟩
  obtain ⟨X, hX⟩ : ∃ X, X = (V.alloc (.cells (stCs st0).toArray 49)).setCells x 0 (stCs ⟨f, c, z32⟩) := ⟨_, rfl⟩
  have hx0 : Blk x 49 (stCs st0) (V.alloc (.cells (stCs st0).toArray 49)) := by rw [hx]; exact Blk.alloc _ _ _
  have HTH : Hid ((V.alloc (.cells (stCs st0).toArray 49)).there x 0 (stCs ⟨f, c, z32⟩).toArray.size) := Lib.hid (by rw [List.size_toArray, (stCs_length hr z32_length)]; exact hx0.there (by rw [show (stCs st0).length = 67 from rfl]; decide))
  have ha1 : StAt x ⟨f, c, z32⟩ X := by rw [hX]; exact hx0.setAll (by rw [(stCs_length hr z32_length)]; rfl)
  have b3 : Below V.heap.size V X := by rw [hX, hx]; exact below_setCells (Nat.le_refl _) _ _ _ (below_boxS _ _)
  have hwq : w.heap.size ≤ q := by omega
  have hqx : q < x := by rw [hx]; exact Blk.lt zq
  have hwx : w.heap.size ≤ x := by omega
  have hb3 := below_step (below_step hb1 (Nat.le_refl _) b2) (Nat.le_refl _) b3
  have ZQ := Lib.hid (Blk.old zq b3 (Blk.lt zq))
  have HRg : Hid (V.rangeAt p 0 (fzCs f)) := Lib.hid (Blk.all (Blk.old h1 b2 h1.lt))
  have HA1 := Lib.hid ha1
  have HI : Hid ((Tryd.prog.info? 44).map (·.size) = some (fzCs f).length) := Lib.hid (by rw [fzCs_length hr]; exact size_fz)
  have HIh : Hid ((Tryd.prog.info? 49).map (·.size) = some 67) := Lib.hid (size_of info_st)
  have HL1 : Hid ((stCs ⟨f, c, z32⟩).length = 67) := Lib.hid (stCs_length hr z32_length)
  have HL2 : Hid ((stCs ⟨f, c, D⟩).length = 67) := Lib.hid (stCs_length hr HDl.out)
  have HB : Hid (Tryd.prog.built 49 [(0, .agg (fzCs f).toArray), (1, .int .i64 c)] = some (stCs ⟨f, c, z32⟩).toArray) := Lib.hid (built_st2 f c hr)
  have HW := Lib.hid hW
  have HV := Lib.hid hV
  have HX := Lib.hid hX
  have HP := Lib.hid hp
  have HQ := Lib.hid hq
  have HXX := Lib.hid hx
  have qs := fun u => rstSays_any ⟨f, c, z32⟩ hr u
  clear hW hV hX hp hq hx h1 zq b2 b3 hb1 hWs hx0 ha1
  by_cases hz : stB ⟨f, c, z32⟩ = true
  · have et : stT ⟨f, c, z32⟩ = tB (stL ⟨f, c, z32⟩) := if_pos hz
    have hlen := stL_length (f := ⟨f, c, z32⟩) hr
    have qo : ∀ u : World, Calls Tryd.prog 48 #[.string key, .string (tB (stL ⟨f, c, z32⟩))] u fun e w' => e = .returned (sumV D) ∧ Below u.heap.size u w' := fun u => by
      rw [hD, sgn, if_pos hz]
      exact rmac_any key key.data.toList rfl (tB (stL ⟨f, c, z32⟩)) (stL ⟨f, c, z32⟩) rfl u (by rw [← Lib.size_eq]; omega) (by omega)
    rw [et, hz] at qs
    clear hz et hD hlen
    go_enter Tryd.func21, Tryd.ntmps21
    go_upto_region 1 with fail
    rw [← HW.out, ← HP.out]
    change Code.wp _ _ _ _ (W.alloc (.cells (stCs st0).toArray 49))
    rw [← HV.out, ← HQ.out]
    clear HW HV
    go_upto_region 2 with (first
      | refine wpList_load_mid rfl 44 (.tmp 4) rfl p 0 rfl (fzCs f) _ HRg.out Tryd.underlying44 rfl HI.out ?_
      | refine wpList_build_at rfl 49 #[(0, .tmp 10), (1, .tmp 11)] rfl (stCs ⟨f, c, z32⟩).toArray [(0, .agg (fzCs f).toArray), (1, .int .i64 c)] (by simp [Act.eval]) HB.out ?_
      | refine wpList_store_mid (w := V.alloc (.cells (stCs st0).toArray 49)) rfl 49 (.tmp 7) (.tmp 12) rfl x 0 (stCs ⟨f, c, z32⟩).toArray (by rw [HXX.out]; rfl) rfl HTH.out (by rw [List.size_toArray, HL1.out]; exact HIh.out) one_st ?_)
    change Code.wp _ _ _ _ ((V.alloc (.cells (stCs st0).toArray 49)).setCells x 0 (stCs ⟨f, c, z32⟩))
    rw [← HX.out, ← HXX.out]
    clear HX HXX HRg HTH
    go_upto_region 3 with (first
      | refine wpList_load_mid rfl 49 (.tmp 7) rfl x 0 rfl (stCs ⟨f, c, z32⟩) _ (Blk.all HA1.out) Tryd.underlying49 rfl (by rw [HL1.out]; exact HIh.out) ?_
      | (go_at_call 47; ((with_reducible refine (qs _).mono ?_); rintro e w4 ⟨rfl, b4⟩)))
    have HA4 := Lib.hid (Blk.old HA1.out b4 (Blk.lt HA1.out))
    have ZQ4 := Lib.hid (Blk.old ZQ.out b4 (Blk.lt ZQ.out))
    have hb4 := below_step hb3 (Nat.le_refl _) b4
    clear b4 HA1 ZQ hb3 qs
    generalize tB (stL ⟨f, c, z32⟩) = SS at *
    go_upto_region 5 with (first
      | (go_at_call 48; ((with_reducible refine (qo _).mono ?_); rintro e w5 ⟨rfl, b5⟩; have HA5 := Lib.hid (Blk.old HA4.out b5 (Blk.lt HA4.out))))
      | refine wpList_store_mid rfl 33 (.tmp 22) (.tmp 21) rfl x 35 (D.map u8V).toArray rfl rfl (by rw [List.size_toArray, List.length_map, HDl.out]; exact Blk.there HA5.out (by rw [HL1.out]; decide)) (sum_info HDl.out) (sum_one D) ?_)
    obtain ⟨W6, hW6⟩ : ∃ u, u = w5.setCells x 35 (D.map u8V) := ⟨_, rfl⟩
    change Code.wp _ _ _ _ (w5.setCells x 35 (D.map u8V))
    rw [← hW6]
    have HA2 : Hid (StAt x ⟨f, c, D⟩ W6) := Lib.hid (by rw [hW6]; exact (StAt.setMac HA5.out hr D (by rw [HDl.out]; exact z32_length.symm)))
    have ZQ2 : Hid (StAt q st0 W6) := Lib.hid (by rw [hW6]; exact Blk.kept (Blk.old ZQ4.out b5 (Blk.lt ZQ4.out)) (only_setCells _ _ _ (Only.refl x w5)) (by omega))
    have hb6 : Below w.heap.size w W6 := by rw [hW6]; exact below_setCells hwx _ _ _ (below_step hb4 (Nat.le_refl _) b5)
    clear hW6 b5 HA5 HA4 ZQ4 hb4 qo
    go_wp2_with (first
      | refine wpList_load_mid rfl 49 (.tmp 7) rfl x 0 rfl (stCs ⟨f, c, D⟩) _ (Blk.all HA2.out) Tryd.underlying49 rfl (by rw [HL2.out]; exact HIh.out) ?_
      | refine wpList_store_mid rfl 49 (.tmp 6) (.tmp 23) rfl q 0 (stCs ⟨f, c, D⟩).toArray rfl rfl (by rw [List.size_toArray, HL2.out]; exact Blk.there ZQ2.out (by rw [show (stCs st0).length = 67 from rfl]; decide)) (by rw [List.size_toArray, HL2.out]; exact HIh.out) one_st ?_)
    have hz := Blk.setAll (n := stCs ⟨f, c, D⟩) ZQ2.out (by rw [HL2.out]; rfl)
    exact bodyPost_ret (v := .agg (stCs ⟨f, c, D⟩).toArray) (results_cell (t := 6) (ty := 49) (b := q) (cs := stCs ⟨f, c, D⟩) rfl _ _ _ rfl (Blk.all hz) Tryd.underlying49 rfl (by rw [HL2.out]; exact HIh.out)) rfl ⟨rfl, below_setCells hwq _ _ _ hb6⟩
  · have et : stT ⟨f, c, z32⟩ = tB [] := if_neg hz
    have eD : D = z32 := by rw [hD]; exact if_neg hz
    rw [et, show stB ⟨f, c, z32⟩ = false by simpa using hz] at qs
    clear hz et hD
    subst eD
    go_enter Tryd.func21, Tryd.ntmps21
    go_upto_region 1 with fail
    rw [← HW.out, ← HP.out]
    change Code.wp _ _ _ _ (W.alloc (.cells (stCs st0).toArray 49))
    rw [← HV.out, ← HQ.out]
    clear HW HV
    go_upto_region 2 with (first
      | refine wpList_load_mid rfl 44 (.tmp 4) rfl p 0 rfl (fzCs f) _ HRg.out Tryd.underlying44 rfl HI.out ?_
      | refine wpList_build_at rfl 49 #[(0, .tmp 10), (1, .tmp 11)] rfl (stCs ⟨f, c, z32⟩).toArray [(0, .agg (fzCs f).toArray), (1, .int .i64 c)] (by simp [Act.eval]) HB.out ?_
      | refine wpList_store_mid (w := V.alloc (.cells (stCs st0).toArray 49)) rfl 49 (.tmp 7) (.tmp 12) rfl x 0 (stCs ⟨f, c, z32⟩).toArray (by rw [HXX.out]; rfl) rfl HTH.out (by rw [List.size_toArray, HL1.out]; exact HIh.out) one_st ?_)
    change Code.wp _ _ _ _ ((V.alloc (.cells (stCs st0).toArray 49)).setCells x 0 (stCs ⟨f, c, z32⟩))
    rw [← HX.out, ← HXX.out]
    clear HX HXX HRg HTH
    go_upto_region 3 with (first
      | refine wpList_load_mid rfl 49 (.tmp 7) rfl x 0 rfl (stCs ⟨f, c, z32⟩) _ (Blk.all HA1.out) Tryd.underlying49 rfl (by rw [HL1.out]; exact HIh.out) ?_
      | (go_at_call 47; ((with_reducible refine (qs _).mono ?_); rintro e w4 ⟨rfl, b4⟩)))
    have HA4 := Lib.hid (Blk.old HA1.out b4 (Blk.lt HA1.out))
    have ZQ4 := Lib.hid (Blk.old ZQ.out b4 (Blk.lt ZQ.out))
    have hb4 := below_step hb3 (Nat.le_refl _) b4
    clear b4 HA1 ZQ hb3 qs
    have HA2 := HA4
    have ZQ2 := ZQ4
    have hb6 := hb4
    clear HA4 ZQ4 hb4
    go_wp2_with (first
      | refine wpList_load_mid rfl 49 (.tmp 7) rfl x 0 rfl (stCs ⟨f, c, z32⟩) _ (Blk.all HA2.out) Tryd.underlying49 rfl (by rw [HL2.out]; exact HIh.out) ?_
      | refine wpList_store_mid rfl 49 (.tmp 6) (.tmp 23) rfl q 0 (stCs ⟨f, c, z32⟩).toArray rfl rfl (by rw [List.size_toArray, HL2.out]; exact Blk.there ZQ2.out (by rw [show (stCs st0).length = 67 from rfl]; decide)) (by rw [List.size_toArray, HL2.out]; exact HIh.out) one_st ?_)
    have hz := Blk.setAll (n := stCs ⟨f, c, z32⟩) ZQ2.out (by rw [HL2.out]; rfl)
    exact bodyPost_ret (v := .agg (stCs ⟨f, c, z32⟩).toArray) (results_cell (t := 6) (ty := 49) (b := q) (cs := stCs ⟨f, c, z32⟩) rfl _ _ _ rfl (Blk.all hz) Tryd.underlying49 rfl (by rw [HL2.out]; exact HIh.out)) rfl ⟨rfl, below_setCells hwq _ _ _ hb6⟩
end Go.Proofs.YtollcdalokhjaaaDoor
