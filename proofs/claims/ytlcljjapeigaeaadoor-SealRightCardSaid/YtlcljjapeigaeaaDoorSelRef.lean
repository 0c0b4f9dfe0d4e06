/-
  The document's own answers for layer 16: what is written, signed, and told right.
-/
import Derived.Test.YtlcljjapeigaeaaDoorSelMake
import Derived.Test.YtlcljjapeigaeaaDoorRefMac
import Derived.Test.YtlcljjapeigaeaaDoorMOct
namespace Go.Proofs.YtlcljjapeigaeaaDoor
open Go.RowKit

theorem add_tB (a b : List UInt8) (h : a.length + b.length ≤ 1000000) (w : World) : (binOp .add 9 (.string (tB a)) (.string (tB b))).run Tryd.prog w = .ok (.string (tB (a ++ b))) w := by
  rw [← tB_app]
  exact add_str _ _ (by rw [tB_size, tB_size]; omega) w
theorem rput_any (n : Int) (w : World) : Calls Tryd.prog 37 #[.int .u64 (u64N n : Int)] w fun e w' => e = .returned (.string (tB (Oct.putL (u64N n)))) ∧ Below w.heap.size w w' := refPut_any (u64N n) w (u64N_lt n)

set_option maxHeartbeats 3200000 in
set_option maxRecDepth 100000 in
theorem rfzBytes_any (f : FzR) (hf : f.root.length = 32) (w : World) :
    Calls Tryd.prog 11 #[.agg (fzCs f).toArray] w fun e w' => e = .returned (.tuple #[.string (fzT f), .int .i64 (fzZ f)]) ∧ Below w.heap.size w w' := by
  obtain ⟨p, hp⟩ : ∃ p, p = w.heap.size := ⟨_, rfl⟩
  obtain ⟨W, hW⟩ : ∃ W, W = w.alloc (.cells (fzCs f).toArray 25) := ⟨_, rfl⟩
  have hb1 : Below w.heap.size w W := by rw [hW]; exact below_boxS _ _
  have hr : FzAt p f W := by rw [hW, hp]; exact Blk.alloc _ _ _
  have hp1 : p < W.heap.size := Blk.lt hr
  have HW := Lib.hid hW
  have HP := Lib.hid hp
  have HR := Lib.hid hr
  have c0 := hr.win
  have c1 := hr.cnt
  have l1 := putL_le (u64N f.win) (u64N_lt _)
  have l2 := putL_le (u64N f.cnt) (u64N_lt _)
  have l3 := hashL_length hf
  have HASS : Hid ([70] ++ Oct.putL (u64N f.win) ++ Oct.putL (u64N f.cnt) ++ hashL f.root = fzL f) := Lib.hid (by simp [fzL])
  clear hW hp hr
  unfold fzT fzZ fzB timB mayB
  by_cases h0 : f.win < 0
  · rw [decide_eq_false (show ¬ 0 ≤ f.win by omega)]
    simp only [Bool.false_and]
    go_enter Tryd.func11, Tryd.ntmps11
    go_upto_region 1 with fail
    rw [← HW.out, ← HP.out]
    clear HW
    go_wp2
    try rw [Exit.noGoto_ret]
    go_ret2
    exact ⟨rfl, hb1⟩
  by_cases h1 : 1125899906842624 < f.win
  · rw [decide_eq_false (show ¬ f.win ≤ 1125899906842624 by omega)]
    simp only [Bool.and_false]
    go_enter Tryd.func11, Tryd.ntmps11
    go_upto_region 1 with fail
    rw [← HW.out, ← HP.out]
    clear HW
    go_wp2
    try rw [Exit.noGoto_ret]
    go_ret2
    exact ⟨rfl, hb1⟩
  by_cases h2 : f.cnt < 1
  · rw [decide_eq_false (show ¬ 1 ≤ f.cnt by omega)]
    simp only [Bool.false_and]
    go_enter Tryd.func11, Tryd.ntmps11
    go_upto_region 1 with fail
    rw [← HW.out, ← HP.out]
    clear HW
    go_wp2
    try rw [Exit.noGoto_ret]
    go_ret2
    exact ⟨rfl, hb1⟩
  by_cases h3 : 4000 < f.cnt
  · rw [decide_eq_false (show ¬ f.cnt ≤ 4000 by omega)]
    simp only [Bool.and_false]
    go_enter Tryd.func11, Tryd.ntmps11
    go_upto_region 1 with fail
    rw [← HW.out, ← HP.out]
    clear HW
    go_wp2
    try rw [Exit.noGoto_ret]
    go_ret2
    exact ⟨rfl, hb1⟩
  rw [decide_eq_true (show 0 ≤ f.win by omega), decide_eq_true (show f.win ≤ 1125899906842624 by omega), decide_eq_true (show 1 ≤ f.cnt by omega), decide_eq_true (show f.cnt ≤ 4000 by omega)]
  simp only [Bool.and_true, if_true]
  go_enter Tryd.func11, Tryd.ntmps11
  go_upto_region 1 with fail
  rw [← HW.out, ← HP.out]
  clear HW
  go_upto_region 3 with fail
  clear h0 h1 h2 h3
  try simp only [Act.put]
  refine wp_region_tab [RT.is (.pointer (some ⟨p, 0, none⟩)), RT.is (.int .i64 f.win), RT.is (.int .u64 (u64N f.win : Int)), RT.is (.string (tB (Oct.putL (u64N f.win)))), RT.is (.string (tB ([70] ++ Oct.putL (u64N f.win)))), RT.is (.pointer (some ⟨p, 1, none⟩)), RT.is (.int .i64 f.cnt), RT.is (.int .u64 (u64N f.cnt : Int)), RT.is (.string (tB (Oct.putL (u64N f.cnt)))), RT.is (.string (tB ([70] ++ Oct.putL (u64N f.win) ++ Oct.putL (u64N f.cnt)))), RT.is (.pointer (some ⟨p, 2, none⟩)), RT.is (sumV f.root), RT.is (.string (tB (hashL f.root))), RT.is (.string (tB (fzL f))), RT.is (.string (tB (fzL f))), RT.is (.int .i64 0)] (by kernel_rfl) (by kernel_rfl) (by kernel_rfl) (by kernel_rfl) ⟨?_, ?_, ?_, ?_, ?_, ?_, ?_, ?_, ?_, ?_, ?_, ?_, ?_, ?_, ?_, ?_, trivial⟩ ?_
  · intro ac w' hF hL hP hU K hK
    have hB := below_undrew hL
    have e1 : ac.eval (.tmp 1) = .pointer (some ⟨p, 0, none⟩) := hF.at 1 (by kernel_rfl)
    exact rop_fld _ _ _ rfl e1 ((fld_fz0 p _).1) (wanted_none rfl) (hK _ _ (le8_refl _) rfl)
  · intro ac w' hF hL hP hU K hK
    have hB := below_undrew hL
    have e22 : ac.eval (.tmp 22) = .pointer (some ⟨p, 0, none⟩) := hP 0 (by kernel_rfl)
    exact rop_ld _ _ rfl e22 (load_intS ((hB.cell (p := ⟨p, _, none⟩) hp1).trans c0)) (wanted_none rfl) (hK _ _ (le8_refl _) rfl)
  · intro ac w' hF hL hP hU K hK
    have hB := below_undrew hL
    have e23 : ac.eval (.tmp 23) = .int .i64 f.win := hP 1 (by kernel_rfl)
    exact rop_convR _ _ _ rfl e23 (conv_u64 f.win w') (wanted_none rfl) (hK _ _ (le8_refl _) rfl)
  · intro ac w' hF hL hP hU K hK
    have hB := below_undrew hL
    have e24 : ac.eval (.tmp 24) = .int .u64 (u64N f.win : Int) := hP 2 (by kernel_rfl)
    refine rop_call 37 _ _ rfl #[.int .u64 (u64N f.win : Int)] (by simp [e24]) (by kernel_rfl) (wanted_none rfl) ?_
    refine (rput_any f.win w').mono ?_
    rintro e w2 ⟨rfl, hb⟩
    exact ⟨_, rfl, hK _ _ hb rfl⟩
  · intro ac w' hF hL hP hU K hK
    have hB := below_undrew hL
    have e25 : ac.eval (.tmp 25) = .string (tB (Oct.putL (u64N f.win))) := hP 3 (by kernel_rfl)
    exact rop_bin _ _ _ _ _ rfl rfl e25 (guard_str _ _ _ _ _ _ w') (add_tB ([70]) (Oct.putL (u64N f.win)) (by simp only [List.length_cons, List.length_nil]; omega) w') (wanted_none rfl) (hK _ _ (le8_refl _) rfl)
  · intro ac w' hF hL hP hU K hK
    have hB := below_undrew hL
    have e1 : ac.eval (.tmp 1) = .pointer (some ⟨p, 0, none⟩) := hF.at 1 (by kernel_rfl)
    exact rop_fld _ _ _ rfl e1 ((fld_fz0 p _).2.1) (wanted_none rfl) (hK _ _ (le8_refl _) rfl)
  · intro ac w' hF hL hP hU K hK
    have hB := below_undrew hL
    have e27 : ac.eval (.tmp 27) = .pointer (some ⟨p, 1, none⟩) := hP 5 (by kernel_rfl)
    exact rop_ld _ _ rfl e27 (load_intS ((hB.cell (p := ⟨p, _, none⟩) hp1).trans c1)) (wanted_none rfl) (hK _ _ (le8_refl _) rfl)
  · intro ac w' hF hL hP hU K hK
    have hB := below_undrew hL
    have e28 : ac.eval (.tmp 28) = .int .i64 f.cnt := hP 6 (by kernel_rfl)
    exact rop_convR _ _ _ rfl e28 (conv_u64 f.cnt w') (wanted_none rfl) (hK _ _ (le8_refl _) rfl)
  · intro ac w' hF hL hP hU K hK
    have hB := below_undrew hL
    have e29 : ac.eval (.tmp 29) = .int .u64 (u64N f.cnt : Int) := hP 7 (by kernel_rfl)
    refine rop_call 37 _ _ rfl #[.int .u64 (u64N f.cnt : Int)] (by simp [e29]) (by kernel_rfl) (wanted_none rfl) ?_
    refine (rput_any f.cnt w').mono ?_
    rintro e w2 ⟨rfl, hb⟩
    exact ⟨_, rfl, hK _ _ hb rfl⟩
  · intro ac w' hF hL hP hU K hK
    have hB := below_undrew hL
    have e26 : ac.eval (.tmp 26) = .string (tB ([70] ++ Oct.putL (u64N f.win))) := hP 4 (by kernel_rfl)
    have e30 : ac.eval (.tmp 30) = .string (tB (Oct.putL (u64N f.cnt))) := hP 8 (by kernel_rfl)
    exact rop_bin _ _ _ _ _ rfl e26 e30 (guard_str _ _ _ _ _ _ w') (add_tB ([70] ++ Oct.putL (u64N f.win)) (Oct.putL (u64N f.cnt)) (by simp only [List.length_append, List.length_cons, List.length_nil]; omega) w') (wanted_none rfl) (hK _ _ (le8_refl _) rfl)
  · intro ac w' hF hL hP hU K hK
    have hB := below_undrew hL
    have e1 : ac.eval (.tmp 1) = .pointer (some ⟨p, 0, none⟩) := hF.at 1 (by kernel_rfl)
    exact rop_fld _ _ _ rfl e1 ((fld_fz0 p _).2.2) (wanted_none rfl) (hK _ _ (le8_refl _) rfl)
  · intro ac w' hF hL hP hU K hK
    have hB := below_undrew hL
    have e32 : ac.eval (.tmp 32) = .pointer (some ⟨p, 2, none⟩) := hP 10 (by kernel_rfl)
    exact rop_ld _ _ rfl e32 (load_sumAt (below_range' hB hp1 HR.out.root) hf) (wanted_none rfl) (hK _ _ (le8_refl _) rfl)
  · intro ac w' hF hL hP hU K hK
    have hB := below_undrew hL
    have e33 : ac.eval (.tmp 33) = sumV f.root := hP 11 (by kernel_rfl)
    refine rop_call 38 _ _ rfl #[sumV f.root] (by simp [e33]) (by kernel_rfl) (wanted_none rfl) ?_
    refine (rsumS_any f.root hf w').mono ?_
    rintro e w2 ⟨rfl, hb⟩
    exact ⟨_, rfl, hK _ _ hb rfl⟩
  · intro ac w' hF hL hP hU K hK
    have hB := below_undrew hL
    have e31 : ac.eval (.tmp 31) = .string (tB ([70] ++ Oct.putL (u64N f.win) ++ Oct.putL (u64N f.cnt))) := hP 9 (by kernel_rfl)
    have e34 : ac.eval (.tmp 34) = .string (tB (hashL f.root)) := hP 12 (by kernel_rfl)
    exact rop_bin _ _ _ _ _ rfl e31 e34 (guard_str _ _ _ _ _ _ w') ((add_tB ([70] ++ Oct.putL (u64N f.win) ++ Oct.putL (u64N f.cnt)) (hashL f.root) (by simp only [List.length_append, List.length_cons, List.length_nil]; omega) w').trans (by rw [HASS.out])) (wanted_none rfl) (hK _ _ (le8_refl _) rfl)
  · intro ac w' hF hL hP hU K hK
    have hB := below_undrew hL
    have e35 : ac.eval (.tmp 35) = .string (tB (fzL f)) := hP 13 (by kernel_rfl)
    exact rop_assign _ rfl e35 (wanted_none rfl) (hK _ _ (le8_refl _) rfl)
  · intro ac w' hF hL hP hU K hK
    have hB := below_undrew hL
    exact rop_assign _ rfl rfl (wanted_none rfl) (hK _ _ (le8_refl _) rfl)
  · intro ac w' hF hB hT
    have e2 : ac.eval (.tmp 2) = .string (tB (fzL f)) := hT 14 (by decide)
    have e3 : ac.eval (.tmp 3) = .int .i64 0 := hT 15 (by decide)
    rw [hF.setsG [22, 23, 24, 25, 26, 27, 28, 29, 30, 31, 32, 33, 34, 35, 2, 3] (by kernel_rfl)]
    simp only [List.foldl_cons, List.foldl_nil, List.setIfInBounds_toArray, List.set_cons_succ, List.set_cons_zero, e2, e3]
    generalize ac.eval (.tmp 22) = u22
    generalize ac.eval (.tmp 23) = u23
    generalize ac.eval (.tmp 24) = u24
    generalize ac.eval (.tmp 25) = u25
    generalize ac.eval (.tmp 26) = u26
    generalize ac.eval (.tmp 27) = u27
    generalize ac.eval (.tmp 28) = u28
    generalize ac.eval (.tmp 29) = u29
    generalize ac.eval (.tmp 30) = u30
    generalize ac.eval (.tmp 31) = u31
    generalize ac.eval (.tmp 32) = u32
    generalize ac.eval (.tmp 33) = u33
    generalize ac.eval (.tmp 34) = u34
    generalize ac.eval (.tmp 35) = u35
    clear e2 e3 hT hF ac
    have hbw := below_step hb1 (Nat.le_refl _) hB
    clear hB c0 c1 l1 l2 l3
    go_wp2
    go_ret2
    exact ⟨rfl, hbw⟩
set_option maxHeartbeats 3200000 in
set_option maxRecDepth 100000 in
theorem rfzLeaf_any (f : FzR) (hf : f.root.length = 32) (w : World) :
    Calls Tryd.prog 17 #[.agg (fzCs f).toArray] w fun e w' => e = .returned (sumV (fzLf f)) ∧ Below w.heap.size w w' := by
  obtain ⟨p, hp⟩ : ∃ p, p = w.heap.size := ⟨_, rfl⟩
  obtain ⟨W, hW⟩ : ∃ W, W = w.alloc (.cells (fzCs f).toArray 25) := ⟨_, rfl⟩
  have hb1 : Below w.heap.size w W := by rw [hW]; exact below_boxS _ _
  have hr : FzAt p f W := by rw [hW, hp]; exact Blk.alloc _ _ _
  have hp1 : p < W.heap.size := Blk.lt hr
  have HW := Lib.hid hW
  have HP := Lib.hid hp
  have HR := Lib.hid hr
  obtain ⟨q, hq⟩ : ∃ q, q = p + 1 := ⟨_, rfl⟩
  obtain ⟨V, hV⟩ : ∃ V, V = W.alloc zSum := ⟨_, rfl⟩
  have hWs : W.heap.size = q := by rw [hW, hq, hp]; simp
  have zq : V.heap[q]? = some (.cells ((List.replicate 32 (0 : UInt8)).map u8V).toArray 23 (0, 0)) := by rw [hV, ← hWs]; exact heap_alloc_last W _
  have b2 : Below W.heap.size W V := by rw [hV]; exact below_boxS _ _
  have hq1 : q < V.heap.size := (Array.getElem?_eq_some_iff.1 zq).1
  have hwq : w.heap.size ≤ q := by omega
  have HRg : Hid (V.rangeAt p 0 (fzCs f)) := Lib.hid (Blk.all (Blk.old hr b2 hp1))
  have HI : Hid ((Tryd.prog.info? 25).map (·.size) = some (fzCs f).length) := Lib.hid (by rw [fzCs_length hf]; exact size_fz)
  have hb2 := below_step hb1 (Nat.le_refl _) b2
  obtain ⟨D, hD⟩ : ∃ D, D = fzLf f := ⟨_, rfl⟩
  have HDl : Hid (D.length = 32) := Lib.hid (by rw [hD]; exact Tree.leafH_length _)
  rw [← hD]
  have qf := fun u => rfzBytes_any f hf u
  have hsz : (fzT f).size < 1000 := by
    have := fzL_length hf
    unfold fzT
    split
    · rw [tB_size]; omega
    · rw [tB_size]; decide
  have ql : ∀ u : World, Calls Tryd.prog 45 #[.string (fzT f)] u fun e w' => e = .returned (sumV D) ∧ Below u.heap.size u w' := fun u => by rw [hD]; exact rleafLeaf_any _ _ rfl u (by omega)
  have HV := Lib.hid hV
  have HQ := Lib.hid hq
  have HZ := Lib.hid zq
  generalize fzT f = S at *
  generalize fzZ f = Z at *
  clear hW hp hr hV hq zq b2 hWs hp1 hD hsz hb1
  go_enter Tryd.func17, Tryd.ntmps17
  go_upto_region 1 with fail
  rw [← HW.out, ← HP.out]
  change Code.wp _ _ _ _ (W.alloc zSum)
  rw [← HV.out, ← HQ.out]
  clear HW HV
  go_upto_region 2 with (first | refine wpList_load_mid rfl 25 (.tmp 1) rfl p 0 rfl (fzCs f) _ HRg.out Tryd.underlying25 rfl HI.out ?_ | (go_at_call 11; ((with_reducible refine (qf _).mono ?_); rintro e w4 ⟨rfl, b4⟩)))
  have z4 := Lib.hid ((b4.block _ hq1).trans HZ.out)
  have hb4 := below_step hb2 (Nat.le_refl _) b4
  have hq4 := Nat.lt_of_lt_of_le hq1 b4.size
  clear b4 qf HRg hb2 hq1
  go_wp2_with (first
    | (go_at_call 45; ((with_reducible refine (ql _).mono ?_); rintro e w5 ⟨rfl, b5⟩; have z5 := Lib.hid ((b5.block _ hq4).trans z4.out)))
    | refine wpList_store_mid rfl 23 (.tmp 2) (.tmp 11) rfl q 0 (D.map u8V).toArray rfl rfl (sum_there z5.out HDl.out) (sum_info HDl.out) (sum_one D) ?_)
  exact bodyPost_ret (v := sumV D) (results_cell (t := 2) (ty := 23) (b := q) (cs := D.map u8V) rfl _ _ _ rfl (sum_range z5.out HDl.out) Tryd.underlying23 rfl (sum_info' HDl.out)) rfl ⟨rfl, below_setCells hwq _ _ _ (below_step hb4 (Nat.le_refl _) b5)⟩
set_option maxHeartbeats 3200000 in
set_option maxRecDepth 100000 in
theorem rhdSays_any (f : HdR) (hf : f.root.length = 32) (w : World) :
    Calls Tryd.prog 41 #[.agg (hdCs f).toArray] w fun e w' => e = .returned (.tuple #[.string (hdT f), .bool (hdB f)]) ∧ Below w.heap.size w w' := by
  obtain ⟨p, hp⟩ : ∃ p, p = w.heap.size := ⟨_, rfl⟩
  obtain ⟨W, hW⟩ : ∃ W, W = w.alloc (.cells (hdCs f).toArray 27) := ⟨_, rfl⟩
  have hb1 : Below w.heap.size w W := by rw [hW]; exact below_boxS _ _
  have hr : HdAt p f W := by rw [hW, hp]; exact Blk.alloc _ _ _
  have hp1 : p < W.heap.size := Blk.lt hr
  have HW := Lib.hid hW
  have HP := Lib.hid hp
  have HR := Lib.hid hr
  have c0 := hr.size
  have c33 := hr.clock hf
  have l1 := putL_le (u64N f.size) (u64N_lt _)
  have l2 := putL_le (u64N f.clock) (u64N_lt _)
  have l3 := hashL_length hf
  have HASS : Hid ([72] ++ Oct.putL (u64N f.size) ++ hashL f.root ++ Oct.putL (u64N f.clock) = hdL f) := Lib.hid (by simp [hdL])
  clear hW hp hr
  unfold hdT hdB timB mayB
  by_cases h0 : f.size < 0
  · rw [decide_eq_false (show ¬ 0 ≤ f.size by omega)]
    simp only [Bool.false_and, Bool.false_eq_true, if_false]
    go_enter Tryd.func41, Tryd.ntmps41
    go_upto_region 1 with fail
    rw [← HW.out, ← HP.out]
    clear HW
    go_wp2
    try rw [Exit.noGoto_ret]
    go_ret2
    exact ⟨rfl, hb1⟩
  by_cases h1 : 1099511627776 < f.size
  · rw [decide_eq_false (show ¬ f.size ≤ 1099511627776 by omega)]
    simp only [Bool.and_false, Bool.false_and, Bool.false_eq_true, if_false]
    go_enter Tryd.func41, Tryd.ntmps41
    go_upto_region 1 with fail
    rw [← HW.out, ← HP.out]
    clear HW
    go_wp2
    try rw [Exit.noGoto_ret]
    go_ret2
    exact ⟨rfl, hb1⟩
  by_cases h2 : f.clock < 0
  · rw [decide_eq_false (show ¬ 0 ≤ f.clock by omega)]
    simp only [Bool.and_false, Bool.false_and, Bool.false_eq_true, if_false]
    go_enter Tryd.func41, Tryd.ntmps41
    go_upto_region 1 with fail
    rw [← HW.out, ← HP.out]
    clear HW
    go_wp2
    try rw [Exit.noGoto_ret]
    go_ret2
    exact ⟨rfl, hb1⟩
  by_cases h3 : 1125899906842624 < f.clock
  · rw [decide_eq_false (show ¬ f.clock ≤ 1125899906842624 by omega)]
    simp only [Bool.and_false, Bool.false_eq_true, if_false]
    go_enter Tryd.func41, Tryd.ntmps41
    go_upto_region 1 with fail
    rw [← HW.out, ← HP.out]
    clear HW
    go_wp2
    try rw [Exit.noGoto_ret]
    go_ret2
    exact ⟨rfl, hb1⟩
  rw [decide_eq_true (show 0 ≤ f.size by omega), decide_eq_true (show f.size ≤ 1099511627776 by omega), decide_eq_true (show 0 ≤ f.clock by omega), decide_eq_true (show f.clock ≤ 1125899906842624 by omega)]
  simp only [Bool.and_true, if_true]
  go_enter Tryd.func41, Tryd.ntmps41
  go_upto_region 1 with fail
  rw [← HW.out, ← HP.out]
  clear HW
  go_upto_region 3 with fail
  clear h0 h1 h2 h3
  try simp only [Act.put]
  refine wp_region_tab [RT.is (.pointer (some ⟨p, 0, none⟩)), RT.is (.int .i64 f.size), RT.is (.int .u64 (u64N f.size : Int)), RT.is (.string (tB (Oct.putL (u64N f.size)))), RT.is (.string (tB ([72] ++ Oct.putL (u64N f.size)))), RT.is (.pointer (some ⟨p, 1, none⟩)), RT.is (sumV f.root), RT.is (.string (tB (hashL f.root))), RT.is (.string (tB ([72] ++ Oct.putL (u64N f.size) ++ hashL f.root))), RT.is (.pointer (some ⟨p, 33, none⟩)), RT.is (.int .i64 f.clock), RT.is (.int .u64 (u64N f.clock : Int)), RT.is (.string (tB (Oct.putL (u64N f.clock)))), RT.is (.string (tB (hdL f))), RT.is (.string (tB (hdL f))), RT.is (.bool true)] (by kernel_rfl) (by kernel_rfl) (by kernel_rfl) (by kernel_rfl) ⟨?_, ?_, ?_, ?_, ?_, ?_, ?_, ?_, ?_, ?_, ?_, ?_, ?_, ?_, ?_, ?_, trivial⟩ ?_
  · intro ac w' hF hL hP hU K hK
    have hB := below_undrew hL
    have e1 : ac.eval (.tmp 1) = .pointer (some ⟨p, 0, none⟩) := hF.at 1 (by kernel_rfl)
    exact rop_fld _ _ _ rfl e1 ((fld_hd0 p _).1) (wanted_none rfl) (hK _ _ (le8_refl _) rfl)
  · intro ac w' hF hL hP hU K hK
    have hB := below_undrew hL
    have e22 : ac.eval (.tmp 22) = .pointer (some ⟨p, 0, none⟩) := hP 0 (by kernel_rfl)
    exact rop_ld _ _ rfl e22 (load_intS ((hB.cell (p := ⟨p, _, none⟩) hp1).trans c0)) (wanted_none rfl) (hK _ _ (le8_refl _) rfl)
  · intro ac w' hF hL hP hU K hK
    have hB := below_undrew hL
    have e23 : ac.eval (.tmp 23) = .int .i64 f.size := hP 1 (by kernel_rfl)
    exact rop_convR _ _ _ rfl e23 (conv_u64 f.size w') (wanted_none rfl) (hK _ _ (le8_refl _) rfl)
  · intro ac w' hF hL hP hU K hK
    have hB := below_undrew hL
    have e24 : ac.eval (.tmp 24) = .int .u64 (u64N f.size : Int) := hP 2 (by kernel_rfl)
    refine rop_call 37 _ _ rfl #[.int .u64 (u64N f.size : Int)] (by simp [e24]) (by kernel_rfl) (wanted_none rfl) ?_
    refine (rput_any f.size w').mono ?_
    rintro e w2 ⟨rfl, hb⟩
    exact ⟨_, rfl, hK _ _ hb rfl⟩
  · intro ac w' hF hL hP hU K hK
    have hB := below_undrew hL
    have e25 : ac.eval (.tmp 25) = .string (tB (Oct.putL (u64N f.size))) := hP 3 (by kernel_rfl)
    exact rop_bin _ _ _ _ _ rfl rfl e25 (guard_str _ _ _ _ _ _ w') (add_tB ([72]) (Oct.putL (u64N f.size)) (by simp only [List.length_cons, List.length_nil]; omega) w') (wanted_none rfl) (hK _ _ (le8_refl _) rfl)
  · intro ac w' hF hL hP hU K hK
    have hB := below_undrew hL
    have e1 : ac.eval (.tmp 1) = .pointer (some ⟨p, 0, none⟩) := hF.at 1 (by kernel_rfl)
    exact rop_fld _ _ _ rfl e1 ((fld_hd0 p _).2.1) (wanted_none rfl) (hK _ _ (le8_refl _) rfl)
  · intro ac w' hF hL hP hU K hK
    have hB := below_undrew hL
    have e27 : ac.eval (.tmp 27) = .pointer (some ⟨p, 1, none⟩) := hP 5 (by kernel_rfl)
    exact rop_ld _ _ rfl e27 (load_sumAt (below_range' hB hp1 HR.out.root) hf) (wanted_none rfl) (hK _ _ (le8_refl _) rfl)
  · intro ac w' hF hL hP hU K hK
    have hB := below_undrew hL
    have e28 : ac.eval (.tmp 28) = sumV f.root := hP 6 (by kernel_rfl)
    refine rop_call 38 _ _ rfl #[sumV f.root] (by simp [e28]) (by kernel_rfl) (wanted_none rfl) ?_
    refine (rsumS_any f.root hf w').mono ?_
    rintro e w2 ⟨rfl, hb⟩
    exact ⟨_, rfl, hK _ _ hb rfl⟩
  · intro ac w' hF hL hP hU K hK
    have hB := below_undrew hL
    have e26 : ac.eval (.tmp 26) = .string (tB ([72] ++ Oct.putL (u64N f.size))) := hP 4 (by kernel_rfl)
    have e29 : ac.eval (.tmp 29) = .string (tB (hashL f.root)) := hP 7 (by kernel_rfl)
    exact rop_bin _ _ _ _ _ rfl e26 e29 (guard_str _ _ _ _ _ _ w') (add_tB ([72] ++ Oct.putL (u64N f.size)) (hashL f.root) (by simp only [List.length_append, List.length_cons, List.length_nil]; omega) w') (wanted_none rfl) (hK _ _ (le8_refl _) rfl)
  · intro ac w' hF hL hP hU K hK
    have hB := below_undrew hL
    have e1 : ac.eval (.tmp 1) = .pointer (some ⟨p, 0, none⟩) := hF.at 1 (by kernel_rfl)
    exact rop_fld _ _ _ rfl e1 ((fld_hd0 p _).2.2.1) (wanted_none rfl) (hK _ _ (le8_refl _) rfl)
  · intro ac w' hF hL hP hU K hK
    have hB := below_undrew hL
    have e31 : ac.eval (.tmp 31) = .pointer (some ⟨p, 33, none⟩) := hP 9 (by kernel_rfl)
    exact rop_ld _ _ rfl e31 (load_intS ((hB.cell (p := ⟨p, _, none⟩) hp1).trans c33)) (wanted_none rfl) (hK _ _ (le8_refl _) rfl)
  · intro ac w' hF hL hP hU K hK
    have hB := below_undrew hL
    have e32 : ac.eval (.tmp 32) = .int .i64 f.clock := hP 10 (by kernel_rfl)
    exact rop_convR _ _ _ rfl e32 (conv_u64 f.clock w') (wanted_none rfl) (hK _ _ (le8_refl _) rfl)
  · intro ac w' hF hL hP hU K hK
    have hB := below_undrew hL
    have e33 : ac.eval (.tmp 33) = .int .u64 (u64N f.clock : Int) := hP 11 (by kernel_rfl)
    refine rop_call 37 _ _ rfl #[.int .u64 (u64N f.clock : Int)] (by simp [e33]) (by kernel_rfl) (wanted_none rfl) ?_
    refine (rput_any f.clock w').mono ?_
    rintro e w2 ⟨rfl, hb⟩
    exact ⟨_, rfl, hK _ _ hb rfl⟩
  · intro ac w' hF hL hP hU K hK
    have hB := below_undrew hL
    have e30 : ac.eval (.tmp 30) = .string (tB ([72] ++ Oct.putL (u64N f.size) ++ hashL f.root)) := hP 8 (by kernel_rfl)
    have e34 : ac.eval (.tmp 34) = .string (tB (Oct.putL (u64N f.clock))) := hP 12 (by kernel_rfl)
    exact rop_bin _ _ _ _ _ rfl e30 e34 (guard_str _ _ _ _ _ _ w') ((add_tB ([72] ++ Oct.putL (u64N f.size) ++ hashL f.root) (Oct.putL (u64N f.clock)) (by simp only [List.length_append, List.length_cons, List.length_nil]; omega) w').trans (by rw [HASS.out])) (wanted_none rfl) (hK _ _ (le8_refl _) rfl)
  · intro ac w' hF hL hP hU K hK
    have hB := below_undrew hL
    have e35 : ac.eval (.tmp 35) = .string (tB (hdL f)) := hP 13 (by kernel_rfl)
    exact rop_assign _ rfl e35 (wanted_none rfl) (hK _ _ (le8_refl _) rfl)
  · intro ac w' hF hL hP hU K hK
    have hB := below_undrew hL
    exact rop_assign _ rfl rfl (wanted_none rfl) (hK _ _ (le8_refl _) rfl)
  · intro ac w' hF hB hT
    have e2 : ac.eval (.tmp 2) = .string (tB (hdL f)) := hT 14 (by decide)
    have e3 : ac.eval (.tmp 3) = .bool true := hT 15 (by decide)
    rw [hF.setsG [22, 23, 24, 25, 26, 27, 28, 29, 30, 31, 32, 33, 34, 35, 2, 3] (by kernel_rfl)]
    simp only [List.foldl_cons, List.foldl_nil, List.setIfInBounds_toArray, List.set_cons_succ, List.set_cons_zero, e2, e3]
    generalize ac.eval (.tmp 22) = u22
    generalize ac.eval (.tmp 23) = u23
    generalize ac.eval (.tmp 24) = u24
    generalize ac.eval (.tmp 25) = u25
    generalize ac.eval (.tmp 26) = u26
    generalize ac.eval (.tmp 27) = u27
    generalize ac.eval (.tmp 28) = u28
    generalize ac.eval (.tmp 29) = u29
    generalize ac.eval (.tmp 30) = u30
    generalize ac.eval (.tmp 31) = u31
    generalize ac.eval (.tmp 32) = u32
    generalize ac.eval (.tmp 33) = u33
    generalize ac.eval (.tmp 34) = u34
    generalize ac.eval (.tmp 35) = u35
    clear e2 e3 hT hF ac
    have hbw := below_step hb1 (Nat.le_refl _) hB
    clear hB c0 c33 l1 l2 l3
    go_wp2
    go_ret2
    exact ⟨rfl, hbw⟩
set_option maxHeartbeats 3200000 in
set_option maxRecDepth 100000 in
theorem rstSays_any (f : StR) (hf : f.fz.root.length = 32) (w : World) :
    Calls Tryd.prog 43 #[.agg (stCs f).toArray] w fun e w' => e = .returned (.tuple #[.string (stT f), .bool (stB f)]) ∧ Below w.heap.size w w' := by
  obtain ⟨p, hp⟩ : ∃ p, p = w.heap.size := ⟨_, rfl⟩
  obtain ⟨W, hW⟩ : ∃ W, W = w.alloc (.cells (stCs f).toArray 29) := ⟨_, rfl⟩
  have hb1 : Below w.heap.size w W := by rw [hW]; exact below_boxS _ _
  have hr : StAt p f W := by rw [hW, hp]; exact Blk.alloc _ _ _
  have hp1 : p < W.heap.size := Blk.lt hr
  have HW := Lib.hid hW
  have HP := Lib.hid hp
  have HR := Lib.hid hr
  have hfl := fzL_length hf
  have l1 := putL_le (u64N f.tim) (u64N_lt _)
  have l2 : (txtL ⟨(fzL f.fz).toArray⟩).length ≤ 100 := by
    have h3 := putL_le (ByteArray.size ⟨(fzL f.fz).toArray⟩) (by simp [ByteArray.size]; omega)
    have e : txtL ⟨(fzL f.fz).toArray⟩ = Oct.putL (ByteArray.size ⟨(fzL f.fz).toArray⟩) ++ fzL f.fz := rfl
    rw [e, List.length_append]; omega
  have HASS : Hid ([84] ++ txtL ⟨(fzL f.fz).toArray⟩ ++ Oct.putL (u64N f.tim) = stL f) := Lib.hid (by simp [stL])
  have HTX : Hid (∀ u : World, Calls Tryd.prog 67 #[.string (tB (fzL f.fz))] u fun e w' => e = .returned (.string (tB (txtL ⟨(fzL f.fz).toArray⟩))) ∧ Below u.heap.size u w') := Lib.hid fun u => by
    rw [show tB (txtL ⟨(fzL f.fz).toArray⟩) = Oct.putB (tB (fzL f.fz)).size ++ tB (fzL f.fz) from (txt_eq _).symm]
    exact refText_any _ u (by rw [tB_size]; omega)
  have HRg : Hid (W.rangeAt p 0 (fzCs f.fz)) := Lib.hid hr.fz
  have HI : Hid ((Tryd.prog.info? 25).map (·.size) = some (fzCs f.fz).length) := Lib.hid (by rw [fzCs_length hf]; exact size_fz)
  clear hW hp hr hfl
  have qf := fun u => rfzBytes_any f.fz hf u
  unfold stT stB timB mayB
  by_cases hz : fzB f.fz = true
  · rw [hz]
    have ez : fzZ f.fz = 0 := if_pos hz
    have et : fzT f.fz = tB (fzL f.fz) := if_pos hz
    rw [ez, et] at qf
    simp only [Bool.true_and]
    clear hz ez et
    by_cases h0 : f.tim < 0
    · rw [decide_eq_false (show ¬ 0 ≤ f.tim by omega)]
      simp only [Bool.false_and, Bool.false_eq_true, if_false]
      clear HASS HTX
      generalize fzL f.fz = L at *
      go_enter Tryd.func43, Tryd.ntmps43
      go_upto_region 1 with fail
      rw [← HW.out, ← HP.out]
      clear HW
      go_upto_region 2 with (first | refine wpList_load_mid rfl 25 (.tmp 7) rfl p 0 rfl (fzCs f.fz) _ HRg.out Tryd.underlying25 rfl HI.out ?_ | (go_at_call 11; ((with_reducible refine (qf _).mono ?_); rintro e w4 ⟨rfl, b4⟩)))
      have c34 := StAt.tim (HR.out.old b4 hp1) hf
      replace hb1 := below_step hb1 (Nat.le_refl _) b4
      clear b4
      go_wp2
      try rw [Exit.noGoto_ret]
      go_ret2
      exact ⟨rfl, hb1⟩
    by_cases h1 : 1125899906842624 < f.tim
    · rw [decide_eq_false (show ¬ f.tim ≤ 1125899906842624 by omega)]
      simp only [Bool.and_false, Bool.false_eq_true, if_false]
      clear HASS HTX
      generalize fzL f.fz = L at *
      go_enter Tryd.func43, Tryd.ntmps43
      go_upto_region 1 with fail
      rw [← HW.out, ← HP.out]
      clear HW
      go_upto_region 2 with (first | refine wpList_load_mid rfl 25 (.tmp 7) rfl p 0 rfl (fzCs f.fz) _ HRg.out Tryd.underlying25 rfl HI.out ?_ | (go_at_call 11; ((with_reducible refine (qf _).mono ?_); rintro e w4 ⟨rfl, b4⟩)))
      have c34 := StAt.tim (HR.out.old b4 hp1) hf
      replace hb1 := below_step hb1 (Nat.le_refl _) b4
      clear b4
      go_wp2
      try rw [Exit.noGoto_ret]
      go_ret2
      exact ⟨rfl, hb1⟩
    rw [decide_eq_true (show 0 ≤ f.tim by omega), decide_eq_true (show f.tim ≤ 1125899906842624 by omega)]
    simp only [Bool.and_true, if_true]
    go_enter Tryd.func43, Tryd.ntmps43
    go_upto_region 1 with fail
    rw [← HW.out, ← HP.out]
    clear HW
    go_upto_region 2 with (first | refine wpList_load_mid rfl 25 (.tmp 7) rfl p 0 rfl (fzCs f.fz) _ HRg.out Tryd.underlying25 rfl HI.out ?_ | (go_at_call 11; ((with_reducible refine (qf _).mono ?_); rintro e w4 ⟨rfl, b4⟩)))
    have c34 := StAt.tim (HR.out.old b4 hp1) hf
    replace hb1 := below_step hb1 (Nat.le_refl _) b4
    replace hp1 := Nat.lt_of_lt_of_le hp1 b4.size
    clear b4 qf HRg
    go_upto_region 4 with fail
    clear h0 h1
    try simp only [Act.put]
    refine wp_region_tab [RT.is (.string (tB (fzL f.fz))), RT.is (.string (tB (txtL ⟨(fzL f.fz).toArray⟩))), RT.is (.string (tB ([84] ++ txtL ⟨(fzL f.fz).toArray⟩))), RT.is (.pointer (some ⟨p, 34, none⟩)), RT.is (.int .i64 f.tim), RT.is (.int .u64 (u64N f.tim : Int)), RT.is (.string (tB (Oct.putL (u64N f.tim)))), RT.is (.string (tB (stL f))), RT.is (.string (tB (stL f))), RT.is (.bool true)] (by kernel_rfl) (by kernel_rfl) (by kernel_rfl) (by kernel_rfl) ⟨?_, ?_, ?_, ?_, ?_, ?_, ?_, ?_, ?_, ?_, trivial⟩ ?_
    · intro ac w' hF hL hP hU K hK
      have hB := below_undrew hL
      have e4 : ac.eval (.tmp 4) = .string (tB (fzL f.fz)) := hF.at 4 (by kernel_rfl)
      exact rop_move _ rfl e4 (wanted_none rfl) (hK _ _ (le8_refl _) rfl)
    · intro ac w' hF hL hP hU K hK
      have hB := below_undrew hL
      have e24 : ac.eval (.tmp 24) = .string (tB (fzL f.fz)) := hP 0 (by kernel_rfl)
      refine rop_call 67 _ _ rfl #[.string (tB (fzL f.fz))] (by simp [e24]) (by kernel_rfl) (wanted_none rfl) ?_
      refine (HTX.out w').mono ?_
      rintro e w2 ⟨rfl, hb⟩
      exact ⟨_, rfl, hK _ _ hb rfl⟩
    · intro ac w' hF hL hP hU K hK
      have hB := below_undrew hL
      have e25 : ac.eval (.tmp 25) = .string (tB (txtL ⟨(fzL f.fz).toArray⟩)) := hP 1 (by kernel_rfl)
      exact rop_bin _ _ _ _ _ rfl rfl e25 (guard_str _ _ _ _ _ _ w') (add_tB ([84]) (txtL ⟨(fzL f.fz).toArray⟩) (by simp only [List.length_cons, List.length_nil]; omega) w') (wanted_none rfl) (hK _ _ (le8_refl _) rfl)
    · intro ac w' hF hL hP hU K hK
      have hB := below_undrew hL
      have e1 : ac.eval (.tmp 1) = .pointer (some ⟨p, 0, none⟩) := hF.at 1 (by kernel_rfl)
      exact rop_fld _ _ _ rfl e1 ((fld_st0 p _).2.1) (wanted_none rfl) (hK _ _ (le8_refl _) rfl)
    · intro ac w' hF hL hP hU K hK
      have hB := below_undrew hL
      have e27 : ac.eval (.tmp 27) = .pointer (some ⟨p, 34, none⟩) := hP 3 (by kernel_rfl)
      exact rop_ld _ _ rfl e27 (load_intS ((hB.cell (p := ⟨p, _, none⟩) hp1).trans c34)) (wanted_none rfl) (hK _ _ (le8_refl _) rfl)
    · intro ac w' hF hL hP hU K hK
      have hB := below_undrew hL
      have e28 : ac.eval (.tmp 28) = .int .i64 f.tim := hP 4 (by kernel_rfl)
      exact rop_convR _ _ _ rfl e28 (conv_u64 f.tim w') (wanted_none rfl) (hK _ _ (le8_refl _) rfl)
    · intro ac w' hF hL hP hU K hK
      have hB := below_undrew hL
      have e29 : ac.eval (.tmp 29) = .int .u64 (u64N f.tim : Int) := hP 5 (by kernel_rfl)
      refine rop_call 37 _ _ rfl #[.int .u64 (u64N f.tim : Int)] (by simp [e29]) (by kernel_rfl) (wanted_none rfl) ?_
      refine (rput_any f.tim w').mono ?_
      rintro e w2 ⟨rfl, hb⟩
      exact ⟨_, rfl, hK _ _ hb rfl⟩
    · intro ac w' hF hL hP hU K hK
      have hB := below_undrew hL
      have e26 : ac.eval (.tmp 26) = .string (tB ([84] ++ txtL ⟨(fzL f.fz).toArray⟩)) := hP 2 (by kernel_rfl)
      have e30 : ac.eval (.tmp 30) = .string (tB (Oct.putL (u64N f.tim))) := hP 6 (by kernel_rfl)
      exact rop_bin _ _ _ _ _ rfl e26 e30 (guard_str _ _ _ _ _ _ w') ((add_tB ([84] ++ txtL ⟨(fzL f.fz).toArray⟩) (Oct.putL (u64N f.tim)) (by simp only [List.length_append, List.length_cons, List.length_nil]; omega) w').trans (by rw [HASS.out])) (wanted_none rfl) (hK _ _ (le8_refl _) rfl)
    · intro ac w' hF hL hP hU K hK
      have hB := below_undrew hL
      have e31 : ac.eval (.tmp 31) = .string (tB (stL f)) := hP 7 (by kernel_rfl)
      exact rop_assign _ rfl e31 (wanted_none rfl) (hK _ _ (le8_refl _) rfl)
    · intro ac w' hF hL hP hU K hK
      have hB := below_undrew hL
      exact rop_assign _ rfl rfl (wanted_none rfl) (hK _ _ (le8_refl _) rfl)
    · intro ac w' hF hB hT
      have e2 : ac.eval (.tmp 2) = .string (tB (stL f)) := hT 8 (by decide)
      have e3 : ac.eval (.tmp 3) = .bool true := hT 9 (by decide)
      rw [hF.setsG [24, 25, 26, 27, 28, 29, 30, 31, 2, 3] (by kernel_rfl)]
      simp only [List.foldl_cons, List.foldl_nil, List.setIfInBounds_toArray, List.set_cons_succ, List.set_cons_zero, e2, e3]
      generalize ac.eval (.tmp 24) = u24
      generalize ac.eval (.tmp 25) = u25
      generalize ac.eval (.tmp 26) = u26
      generalize ac.eval (.tmp 27) = u27
      generalize ac.eval (.tmp 28) = u28
      generalize ac.eval (.tmp 29) = u29
      generalize ac.eval (.tmp 30) = u30
      generalize ac.eval (.tmp 31) = u31
      clear e2 e3 hT hF ac
      have hbw := below_step hb1 (Nat.le_refl _) hB
      clear hB c34 l1 l2
      go_wp2
      go_ret2
      exact ⟨rfl, hbw⟩
  · have ez : fzZ f.fz = 1 := if_neg hz
    have et : fzT f.fz = tB [] := if_neg hz
    rw [ez, et] at qf
    rw [show fzB f.fz = false by simpa using hz]
    simp only [Bool.false_and, Bool.false_eq_true, if_false]
    clear hz ez et HASS HTX
    go_enter Tryd.func43, Tryd.ntmps43
    go_upto_region 1 with fail
    rw [← HW.out, ← HP.out]
    clear HW
    go_upto_region 2 with (first | refine wpList_load_mid rfl 25 (.tmp 7) rfl p 0 rfl (fzCs f.fz) _ HRg.out Tryd.underlying25 rfl HI.out ?_ | (go_at_call 11; ((with_reducible refine (qf _).mono ?_); rintro e w4 ⟨rfl, b4⟩)))
    replace hb1 := below_step hb1 (Nat.le_refl _) b4
    clear b4 qf
    go_wp2
    try rw [Exit.noGoto_ret]
    go_ret2
    exact ⟨rfl, hb1⟩
set_option maxHeartbeats 3200000 in
set_option maxRecDepth 100000 in
theorem rhdBytes_any (f : HdR) (hf : f.root.length = 32) (hm : f.mac.length = 32) (w : World) :
    Calls Tryd.prog 13 #[.agg (hdCs f).toArray] w fun e w' => e = .returned (.tuple #[.string (hdG f), .int .i64 (hdZ f)]) ∧ Below w.heap.size w w' := by
  obtain ⟨p, hp⟩ : ∃ p, p = w.heap.size := ⟨_, rfl⟩
  obtain ⟨W, hW⟩ : ∃ W, W = w.alloc (.cells (hdCs f).toArray 27) := ⟨_, rfl⟩
  have hb1 : Below w.heap.size w W := by rw [hW]; exact below_boxS _ _
  have hr : HdAt p f W := by rw [hW, hp]; exact Blk.alloc _ _ _
  have hp1 : p < W.heap.size := Blk.lt hr
  have HW := Lib.hid hW
  have HP := Lib.hid hp
  have HR := Lib.hid hr
  have l1 := hdL_length hf
  have l2 := hashL_length hm
  have HI : Hid ((Tryd.prog.info? 27).map (·.size) = some (hdCs f).length) := Lib.hid (by rw [hdCs_length hf hm]; exact size_of info_hd)
  have qs := fun u => rhdSays_any f hf u
  clear hW hp hr
  unfold hdG hdZ
  by_cases hz : hdB f = true
  · have et : hdT f = tB (hdL f) := if_pos hz
    rw [et, hz] at qs
    rw [if_pos hz, if_pos hz]
    go_enter Tryd.func13, Tryd.ntmps13
    go_upto_region 1 with fail
    rw [← HW.out, ← HP.out]
    clear HW
    go_upto_region 2 with (first
      | refine wpList_load_mid rfl 27 (.tmp 1) rfl p 0 rfl (hdCs f) _ (Blk.all HR.out) Tryd.underlying27 rfl HI.out ?_
      | (go_at_call 41; ((with_reducible refine (qs _).mono ?_); rintro e w4 ⟨rfl, b4⟩)))
    have HRM : Hid (w4.rangeAt p 34 (f.mac.map u8V)) := Lib.hid (HdAt.mac (HR.out.old b4 hp1) hf)
    replace hb1 := below_step hb1 (Nat.le_refl _) b4
    replace hp1 := Nat.lt_of_lt_of_le hp1 b4.size
    clear b4 qs hz et
    go_upto_region 4 with fail
    try simp only [Act.put]
    refine wp_region_tab0 [RT.is (.string (tB (hdL f))), RT.is (.pointer (some ⟨p, 34, none⟩)), RT.is (sumV f.mac), RT.is (.string (tB (hashL f.mac))), RT.is (.string (tB (hdF f))), RT.is (.string (tB (hdF f))), RT.is (.int .i64 0)] (by kernel_rfl) (by kernel_rfl) (by kernel_rfl) ⟨?_, ?_, ?_, ?_, ?_, ?_, ?_, trivial⟩ ?_
    · intro ac w' hF hL hP hU K hK
      have hB : Below _ _ _ := hL
      have e4 : ac.eval (.tmp 4) = .string (tB (hdL f)) := hF.at 4 (by kernel_rfl)
      exact rop_move _ rfl e4 (wanted_none rfl) (hK _ _ (le8_refl _) rfl)
    · intro ac w' hF hL hP hU K hK
      have hB : Below _ _ _ := hL
      have e1 : ac.eval (.tmp 1) = .pointer (some ⟨p, 0, none⟩) := hF.at 1 (by kernel_rfl)
      exact rop_fld _ _ _ rfl e1 ((fld_hd0 p _).2.2.2) (wanted_none rfl) (hK _ _ (le8_refl _) rfl)
    · intro ac w' hF hL hP hU K hK
      have hB : Below _ _ _ := hL
      have e14 : ac.eval (.tmp 14) = .pointer (some ⟨p, 34, none⟩) := hP 1 (by kernel_rfl)
      exact rop_ld _ _ rfl e14 (load_sumAt (below_range' hB hp1 HRM.out) hm) (wanted_none rfl) (hK _ _ (le8_refl _) rfl)
    · intro ac w' hF hL hP hU K hK
      have hB : Below _ _ _ := hL
      have e15 : ac.eval (.tmp 15) = sumV f.mac := hP 2 (by kernel_rfl)
      refine rop_call 38 _ _ rfl #[sumV f.mac] (by simp [e15]) (by kernel_rfl) (wanted_none rfl) ?_
      refine (rsumS_any f.mac hm w').mono ?_
      rintro e w2 ⟨rfl, hb⟩
      exact ⟨_, rfl, hK _ _ hb rfl⟩
    · intro ac w' hF hL hP hU K hK
      have hB : Below _ _ _ := hL
      have e13 : ac.eval (.tmp 13) = .string (tB (hdL f)) := hP 0 (by kernel_rfl)
      have e16 : ac.eval (.tmp 16) = .string (tB (hashL f.mac)) := hP 3 (by kernel_rfl)
      exact rop_bin _ _ _ _ _ rfl e13 e16 (guard_str _ _ _ _ _ _ w') (add_tB (hdL f) (hashL f.mac) (by omega) w') (wanted_none rfl) (hK _ _ (le8_refl _) rfl)
    · intro ac w' hF hL hP hU K hK
      have hB : Below _ _ _ := hL
      have e17 : ac.eval (.tmp 17) = .string (tB (hdF f)) := hP 4 (by kernel_rfl)
      exact rop_assign _ rfl e17 (wanted_none rfl) (hK _ _ (le8_refl _) rfl)
    · intro ac w' hF hL hP hU K hK
      have hB : Below _ _ _ := hL
      exact rop_assign _ rfl rfl (wanted_none rfl) (hK _ _ (le8_refl _) rfl)
    · intro ac w' hF hB hT
      have e2 : ac.eval (.tmp 2) = .string (tB (hdF f)) := hT 5 (by decide)
      have e3 : ac.eval (.tmp 3) = .int .i64 0 := hT 6 (by decide)
      rw [hF.setsG [13, 14, 15, 16, 17, 2, 3] (by kernel_rfl)]
      simp only [List.foldl_cons, List.foldl_nil, List.setIfInBounds_toArray, List.set_cons_succ, List.set_cons_zero, e2, e3]
      generalize ac.eval (.tmp 13) = u13
      generalize ac.eval (.tmp 14) = u14
      generalize ac.eval (.tmp 15) = u15
      generalize ac.eval (.tmp 16) = u16
      generalize ac.eval (.tmp 17) = u17
      clear e2 e3 hT hF ac
      have hbw := below_step hb1 (Nat.le_refl _) hB
      clear hB
      go_wp2
      go_ret2
      exact ⟨rfl, hbw⟩
  · have et : hdT f = tB [] := if_neg hz
    rw [et, show hdB f = false by simpa using hz] at qs
    rw [if_neg hz, if_neg hz]
    clear hz et
    go_enter Tryd.func13, Tryd.ntmps13
    go_upto_region 1 with fail
    rw [← HW.out, ← HP.out]
    clear HW
    go_upto_region 2 with (first
      | refine wpList_load_mid rfl 27 (.tmp 1) rfl p 0 rfl (hdCs f) _ (Blk.all HR.out) Tryd.underlying27 rfl HI.out ?_
      | (go_at_call 41; ((with_reducible refine (qs _).mono ?_); rintro e w4 ⟨rfl, b4⟩)))
    replace hb1 := below_step hb1 (Nat.le_refl _) b4
    clear b4 qs
    go_wp2
    try rw [Exit.noGoto_ret]
    go_ret2
    exact ⟨rfl, hb1⟩
set_option maxHeartbeats 3200000 in
set_option maxRecDepth 100000 in
theorem rstBytes_any (f : StR) (hf : f.fz.root.length = 32) (hm : f.mac.length = 32) (w : World) :
    Calls Tryd.prog 15 #[.agg (stCs f).toArray] w fun e w' => e = .returned (.tuple #[.string (stG f), .int .i64 (stZ f)]) ∧ Below w.heap.size w w' := by
  obtain ⟨p, hp⟩ : ∃ p, p = w.heap.size := ⟨_, rfl⟩
  obtain ⟨W, hW⟩ : ∃ W, W = w.alloc (.cells (stCs f).toArray 29) := ⟨_, rfl⟩
  have hb1 : Below w.heap.size w W := by rw [hW]; exact below_boxS _ _
  have hr : StAt p f W := by rw [hW, hp]; exact Blk.alloc _ _ _
  have hp1 : p < W.heap.size := Blk.lt hr
  have HW := Lib.hid hW
  have HP := Lib.hid hp
  have HR := Lib.hid hr
  have l1 := stL_length hf
  have l2 := hashL_length hm
  have HI : Hid ((Tryd.prog.info? 29).map (·.size) = some (stCs f).length) := Lib.hid (by rw [stCs_length hf hm]; exact size_of info_st)
  have qs := fun u => rstSays_any f hf u
  clear hW hp hr
  unfold stG stZ
  by_cases hz : stB f = true
  · have et : stT f = tB (stL f) := if_pos hz
    rw [et, hz] at qs
    rw [if_pos hz, if_pos hz]
    go_enter Tryd.func15, Tryd.ntmps15
    go_upto_region 1 with fail
    rw [← HW.out, ← HP.out]
    clear HW
    go_upto_region 2 with (first
      | refine wpList_load_mid rfl 29 (.tmp 1) rfl p 0 rfl (stCs f) _ (Blk.all HR.out) Tryd.underlying29 rfl HI.out ?_
      | (go_at_call 43; ((with_reducible refine (qs _).mono ?_); rintro e w4 ⟨rfl, b4⟩)))
    have HRM : Hid (w4.rangeAt p 35 (f.mac.map u8V)) := Lib.hid (StAt.mac (HR.out.old b4 hp1) hf)
    replace hb1 := below_step hb1 (Nat.le_refl _) b4
    replace hp1 := Nat.lt_of_lt_of_le hp1 b4.size
    clear b4 qs hz et
    go_upto_region 4 with fail
    try simp only [Act.put]
    refine wp_region_tab0 [RT.is (.string (tB (stL f))), RT.is (.pointer (some ⟨p, 35, none⟩)), RT.is (sumV f.mac), RT.is (.string (tB (hashL f.mac))), RT.is (.string (tB (stF f))), RT.is (.string (tB (stF f))), RT.is (.int .i64 0)] (by kernel_rfl) (by kernel_rfl) (by kernel_rfl) ⟨?_, ?_, ?_, ?_, ?_, ?_, ?_, trivial⟩ ?_
    · intro ac w' hF hL hP hU K hK
      have hB : Below _ _ _ := hL
      have e4 : ac.eval (.tmp 4) = .string (tB (stL f)) := hF.at 4 (by kernel_rfl)
      exact rop_move _ rfl e4 (wanted_none rfl) (hK _ _ (le8_refl _) rfl)
    · intro ac w' hF hL hP hU K hK
      have hB : Below _ _ _ := hL
      have e1 : ac.eval (.tmp 1) = .pointer (some ⟨p, 0, none⟩) := hF.at 1 (by kernel_rfl)
      exact rop_fld _ _ _ rfl e1 ((fld_st0 p _).2.2) (wanted_none rfl) (hK _ _ (le8_refl _) rfl)
    · intro ac w' hF hL hP hU K hK
      have hB : Below _ _ _ := hL
      have e14 : ac.eval (.tmp 14) = .pointer (some ⟨p, 35, none⟩) := hP 1 (by kernel_rfl)
      exact rop_ld _ _ rfl e14 (load_sumAt (below_range' hB hp1 HRM.out) hm) (wanted_none rfl) (hK _ _ (le8_refl _) rfl)
    · intro ac w' hF hL hP hU K hK
      have hB : Below _ _ _ := hL
      have e15 : ac.eval (.tmp 15) = sumV f.mac := hP 2 (by kernel_rfl)
      refine rop_call 38 _ _ rfl #[sumV f.mac] (by simp [e15]) (by kernel_rfl) (wanted_none rfl) ?_
      refine (rsumS_any f.mac hm w').mono ?_
      rintro e w2 ⟨rfl, hb⟩
      exact ⟨_, rfl, hK _ _ hb rfl⟩
    · intro ac w' hF hL hP hU K hK
      have hB : Below _ _ _ := hL
      have e13 : ac.eval (.tmp 13) = .string (tB (stL f)) := hP 0 (by kernel_rfl)
      have e16 : ac.eval (.tmp 16) = .string (tB (hashL f.mac)) := hP 3 (by kernel_rfl)
      exact rop_bin _ _ _ _ _ rfl e13 e16 (guard_str _ _ _ _ _ _ w') (add_tB (stL f) (hashL f.mac) (by omega) w') (wanted_none rfl) (hK _ _ (le8_refl _) rfl)
    · intro ac w' hF hL hP hU K hK
      have hB : Below _ _ _ := hL
      have e17 : ac.eval (.tmp 17) = .string (tB (stF f)) := hP 4 (by kernel_rfl)
      exact rop_assign _ rfl e17 (wanted_none rfl) (hK _ _ (le8_refl _) rfl)
    · intro ac w' hF hL hP hU K hK
      have hB : Below _ _ _ := hL
      exact rop_assign _ rfl rfl (wanted_none rfl) (hK _ _ (le8_refl _) rfl)
    · intro ac w' hF hB hT
      have e2 : ac.eval (.tmp 2) = .string (tB (stF f)) := hT 5 (by decide)
      have e3 : ac.eval (.tmp 3) = .int .i64 0 := hT 6 (by decide)
      rw [hF.setsG [13, 14, 15, 16, 17, 2, 3] (by kernel_rfl)]
      simp only [List.foldl_cons, List.foldl_nil, List.setIfInBounds_toArray, List.set_cons_succ, List.set_cons_zero, e2, e3]
      generalize ac.eval (.tmp 13) = u13
      generalize ac.eval (.tmp 14) = u14
      generalize ac.eval (.tmp 15) = u15
      generalize ac.eval (.tmp 16) = u16
      generalize ac.eval (.tmp 17) = u17
      clear e2 e3 hT hF ac
      have hbw := below_step hb1 (Nat.le_refl _) hB
      clear hB
      go_wp2
      go_ret2
      exact ⟨rfl, hbw⟩
  · have et : stT f = tB [] := if_neg hz
    rw [et, show stB f = false by simpa using hz] at qs
    rw [if_neg hz, if_neg hz]
    clear hz et
    go_enter Tryd.func15, Tryd.ntmps15
    go_upto_region 1 with fail
    rw [← HW.out, ← HP.out]
    clear HW
    go_upto_region 2 with (first
      | refine wpList_load_mid rfl 29 (.tmp 1) rfl p 0 rfl (stCs f) _ (Blk.all HR.out) Tryd.underlying29 rfl HI.out ?_
      | (go_at_call 43; ((with_reducible refine (qs _).mono ?_); rintro e w4 ⟨rfl, b4⟩)))
    replace hb1 := below_step hb1 (Nat.le_refl _) b4
    clear b4 qs
    go_wp2
    try rw [Exit.noGoto_ret]
    go_ret2
    exact ⟨rfl, hb1⟩
set_option maxHeartbeats 3200000 in
set_option maxRecDepth 100000 in
theorem rhdRight_any (key : ByteArray) (hk : key.size ≤ 1000000) (f : HdR) (hf : f.root.length = 32) (hm : f.mac.length = 32) (w : World) :
    Calls Tryd.prog 30 #[.string key, .agg (hdCs f).toArray] w fun e w' => e = .returned (.bool (hdB f && decide (f.mac = Mac.mac key.data.toList (hdL f)))) ∧ Below w.heap.size w w' := by
  obtain ⟨p, hp⟩ : ∃ p, p = w.heap.size := ⟨_, rfl⟩
  obtain ⟨W, hW⟩ : ∃ W, W = w.alloc (.cells (hdCs f).toArray 27) := ⟨_, rfl⟩
  have hb1 : Below w.heap.size w W := by rw [hW]; exact below_boxS _ _
  have hr : HdAt p f W := by rw [hW, hp]; exact Blk.alloc _ _ _
  have hp1 : p < W.heap.size := Blk.lt hr
  have HW := Lib.hid hW
  have HP := Lib.hid hp
  have HR := Lib.hid hr
  have l1 := hdL_length hf
  have HI : Hid ((Tryd.prog.info? 27).map (·.size) = some (hdCs f).length) := Lib.hid (by rw [hdCs_length hf hm]; exact size_of info_hd)
  have qs := fun u => rhdSays_any f hf u
  clear hW hp hr
  by_cases hz : hdB f = true
  · have et : hdT f = tB (hdL f) := if_pos hz
    rw [et, hz] at qs
    rw [hz, Bool.true_and]
    go_enter Tryd.func30, Tryd.ntmps30
    go_upto_region 1 with fail
    rw [← HW.out, ← HP.out]
    clear HW
    go_upto_region 2 with (first
      | refine wpList_load_mid rfl 27 (.tmp 3) rfl p 0 rfl (hdCs f) _ (Blk.all HR.out) Tryd.underlying27 rfl HI.out ?_
      | (go_at_call 41; ((with_reducible refine (qs _).mono ?_); rintro e w4 ⟨rfl, b4⟩)))
    have HRM : Hid (w4.rangeAt p 34 (f.mac.map u8V)) := Lib.hid (HdAt.mac (HR.out.old b4 hp1) hf)
    replace hb1 := below_step hb1 (Nat.le_refl _) b4
    replace hp1 := Nat.lt_of_lt_of_le hp1 b4.size
    clear b4 qs hz et
    try simp only [Act.put]
    refine wp_region_tab [RT.is (.bool true), RT.is (.bool true), RT.is (.pointer (some ⟨p, 34, none⟩)), RT.is (sumV f.mac), RT.is (.string key), RT.is (.string (tB (hdL f))), RT.is (sumV (Mac.mac key.data.toList (hdL f))), RT.is (.bool (decide (f.mac = Mac.mac key.data.toList (hdL f)))), RT.is (.bool (decide (f.mac = Mac.mac key.data.toList (hdL f)))), RT.is (.bool (decide (f.mac = Mac.mac key.data.toList (hdL f))))] (by kernel_rfl) (by kernel_rfl) (by kernel_rfl) (by kernel_rfl) ⟨?_, ?_, ?_, ?_, ?_, ?_, ?_, ?_, ?_, ?_, trivial⟩ ?_
    · intro ac w' hF hL hP hU K hK
      have hB := below_undrew hL
      have e6 : ac.eval (.tmp 6) = .bool true := hF.at 6 (by kernel_rfl)
      exact rop_move _ rfl e6 (wanted_none rfl) (hK _ _ (le8_refl _) rfl)
    · intro ac w' hF hL hP hU K hK
      have hB := below_undrew hL
      have e12 : ac.eval (.tmp 12) = .bool true := hP 0 (by kernel_rfl)
      exact rop_move _ rfl e12 (wanted_none rfl) (hK _ _ (le8_refl _) rfl)
    · intro ac w' hF hL hP hU K hK
      have hB := below_undrew hL
      have e3 : ac.eval (.tmp 3) = .pointer (some ⟨p, 0, none⟩) := hF.at 3 (by kernel_rfl)
      have e13 : ac.eval (.tmp 13) = .bool true := hP 1 (by kernel_rfl)
      exact rop_fld _ _ _ rfl e3 ((fld_hd0 p _).2.2.2) (wanted_of (j := 1) (b := true) rfl rfl e13) (hK _ _ (le8_refl _) rfl)
    · intro ac w' hF hL hP hU K hK
      have hB := below_undrew hL
      have e14 : ac.eval (.tmp 14) = .pointer (some ⟨p, 34, none⟩) := hP 2 (by kernel_rfl)
      have e13 : ac.eval (.tmp 13) = .bool true := hP 1 (by kernel_rfl)
      exact rop_ld _ _ rfl e14 (load_sumAt (below_range' hB hp1 HRM.out) hm) (wanted_of (j := 1) (b := true) rfl rfl e13) (hK _ _ (le8_refl _) rfl)
    · intro ac w' hF hL hP hU K hK
      have hB := below_undrew hL
      have e0 : ac.eval (.tmp 0) = .string key := hF.at 0 (by kernel_rfl)
      have e13 : ac.eval (.tmp 13) = .bool true := hP 1 (by kernel_rfl)
      exact rop_move _ rfl e0 (wanted_of (j := 1) (b := true) rfl rfl e13) (hK _ _ (le8_refl _) rfl)
    · intro ac w' hF hL hP hU K hK
      have hB := below_undrew hL
      have e5 : ac.eval (.tmp 5) = .string (tB (hdL f)) := hF.at 5 (by kernel_rfl)
      have e13 : ac.eval (.tmp 13) = .bool true := hP 1 (by kernel_rfl)
      exact rop_move _ rfl e5 (wanted_of (j := 1) (b := true) rfl rfl e13) (hK _ _ (le8_refl _) rfl)
    · intro ac w' hF hL hP hU K hK
      have hB := below_undrew hL
      have e16 : ac.eval (.tmp 16) = .string key := hP 4 (by kernel_rfl)
      have e17 : ac.eval (.tmp 17) = .string (tB (hdL f)) := hP 5 (by kernel_rfl)
      have e13 : ac.eval (.tmp 13) = .bool true := hP 1 (by kernel_rfl)
      refine rop_call 61 _ _ rfl #[.string key, .string (tB (hdL f))] (by simp [e16, e17]) (by kernel_rfl) (wanted_of (j := 1) (b := true) rfl rfl e13) ?_
      refine (rmac_any key _ rfl (tB (hdL f)) (hdL f) rfl w' (by rw [← Lib.size_eq]; omega) (by omega)).mono ?_
      rintro e w2 ⟨rfl, hb⟩
      exact ⟨_, rfl, hK _ _ hb rfl⟩
    · intro ac w' hF hL hP hU K hK
      have hB := below_undrew hL
      have e15 : ac.eval (.tmp 15) = sumV f.mac := hP 3 (by kernel_rfl)
      have e18 : ac.eval (.tmp 18) = sumV (Mac.mac key.data.toList (hdL f)) := hP 6 (by kernel_rfl)
      have e13 : ac.eval (.tmp 13) = .bool true := hP 1 (by kernel_rfl)
      exact rop_bin _ _ _ _ _ rfl e15 e18 (guard_run .eql _ _ _ _ w') (eql_sum f.mac _ hm (Mac.mac_length _ _) w') (wanted_of (j := 1) (b := true) rfl rfl e13) (hK _ _ (le8_refl _) rfl)
    · intro ac w' hF hL hP hU K hK
      have hB := below_undrew hL
      have e13 : ac.eval (.tmp 13) = .bool true := hP 1 (by kernel_rfl)
      have e19 : ac.eval (.tmp 19) = .bool (decide (f.mac = Mac.mac key.data.toList (hdL f))) := hP 7 (by kernel_rfl)
      exact rop_pick _ _ _ rfl true e13 (by simpa using e19) (wanted_none rfl) (hK _ _ (le8_refl _) rfl)
    · intro ac w' hF hL hP hU K hK
      have hB := below_undrew hL
      have e20 : ac.eval (.tmp 20) = .bool (decide (f.mac = Mac.mac key.data.toList (hdL f))) := hP 8 (by kernel_rfl)
      exact rop_assign _ rfl e20 (wanted_none rfl) (hK _ _ (le8_refl _) rfl)
    · intro ac w' hF hB hT
      have e4 : ac.eval (.tmp 4) = .bool (decide (f.mac = Mac.mac key.data.toList (hdL f))) := hT 9 (by decide)
      rw [hF.setsG [12, 13, 14, 15, 16, 17, 18, 19, 20, 4] (by kernel_rfl)]
      simp only [List.foldl_cons, List.foldl_nil, List.setIfInBounds_toArray, List.set_cons_succ, List.set_cons_zero, e4]
      generalize ac.eval (.tmp 12) = u12
      generalize ac.eval (.tmp 13) = u13
      generalize ac.eval (.tmp 14) = u14
      generalize ac.eval (.tmp 15) = u15
      generalize ac.eval (.tmp 16) = u16
      generalize ac.eval (.tmp 17) = u17
      generalize ac.eval (.tmp 18) = u18
      generalize ac.eval (.tmp 19) = u19
      generalize ac.eval (.tmp 20) = u20
      clear e4 hT hF ac
      have hbw := below_step hb1 (Nat.le_refl _) hB
      clear hB
      go_wp2
      go_ret
      exact ⟨rfl, hbw⟩
  · have et : hdT f = tB [] := if_neg hz
    rw [et, show hdB f = false by simpa using hz] at qs
    rw [show hdB f = false by simpa using hz, Bool.false_and]
    go_enter Tryd.func30, Tryd.ntmps30
    go_upto_region 1 with fail
    rw [← HW.out, ← HP.out]
    clear HW
    go_upto_region 2 with (first
      | refine wpList_load_mid rfl 27 (.tmp 3) rfl p 0 rfl (hdCs f) _ (Blk.all HR.out) Tryd.underlying27 rfl HI.out ?_
      | (go_at_call 41; ((with_reducible refine (qs _).mono ?_); rintro e w4 ⟨rfl, b4⟩)))
    have HRM : Hid (w4.rangeAt p 34 (f.mac.map u8V)) := Lib.hid (HdAt.mac (HR.out.old b4 hp1) hf)
    replace hb1 := below_step hb1 (Nat.le_refl _) b4
    replace hp1 := Nat.lt_of_lt_of_le hp1 b4.size
    clear b4 qs hz et
    try simp only [Act.put]
    refine wp_region_tab [RT.is (.bool false), RT.is (.bool false), RT.is undef, RT.is undef, RT.is undef, RT.is undef, RT.is undef, RT.is undef, RT.is (.bool false), RT.is (.bool false)] (by kernel_rfl) (by kernel_rfl) (by kernel_rfl) (by kernel_rfl) ⟨?_, ?_, ?_, ?_, ?_, ?_, ?_, ?_, ?_, ?_, trivial⟩ ?_
    · intro ac w' hF hL hP hU K hK
      have hB := below_undrew hL
      have e6 : ac.eval (.tmp 6) = .bool false := hF.at 6 (by kernel_rfl)
      exact rop_move _ rfl e6 (wanted_none rfl) (hK _ _ (le8_refl _) rfl)
    · intro ac w' hF hL hP hU K hK
      have hB := below_undrew hL
      have e12 : ac.eval (.tmp 12) = .bool false := hP 0 (by kernel_rfl)
      exact rop_move _ rfl e12 (wanted_none rfl) (hK _ _ (le8_refl _) rfl)
    · intro ac w' hF hL hP hU K hK
      have hB := below_undrew hL
      have e13 : ac.eval (.tmp 13) = .bool false := hP 1 (by kernel_rfl)
      exact rop_offG (j := 1) (b := true) rfl rfl e13 (by decide) (hK _ _ (le8_refl _) rfl)
    · intro ac w' hF hL hP hU K hK
      have hB := below_undrew hL
      have e13 : ac.eval (.tmp 13) = .bool false := hP 1 (by kernel_rfl)
      exact rop_offG (j := 1) (b := true) rfl rfl e13 (by decide) (hK _ _ (le8_refl _) rfl)
    · intro ac w' hF hL hP hU K hK
      have hB := below_undrew hL
      have e13 : ac.eval (.tmp 13) = .bool false := hP 1 (by kernel_rfl)
      exact rop_offG (j := 1) (b := true) rfl rfl e13 (by decide) (hK _ _ (le8_refl _) rfl)
    · intro ac w' hF hL hP hU K hK
      have hB := below_undrew hL
      have e13 : ac.eval (.tmp 13) = .bool false := hP 1 (by kernel_rfl)
      exact rop_offG (j := 1) (b := true) rfl rfl e13 (by decide) (hK _ _ (le8_refl _) rfl)
    · intro ac w' hF hL hP hU K hK
      have hB := below_undrew hL
      have e13 : ac.eval (.tmp 13) = .bool false := hP 1 (by kernel_rfl)
      exact rop_offG (j := 1) (b := true) rfl rfl e13 (by decide) (hK _ _ (le8_refl _) rfl)
    · intro ac w' hF hL hP hU K hK
      have hB := below_undrew hL
      have e13 : ac.eval (.tmp 13) = .bool false := hP 1 (by kernel_rfl)
      exact rop_offG (j := 1) (b := true) rfl rfl e13 (by decide) (hK _ _ (le8_refl _) rfl)
    · intro ac w' hF hL hP hU K hK
      have hB := below_undrew hL
      have e13 : ac.eval (.tmp 13) = .bool false := hP 1 (by kernel_rfl)
      exact rop_pick _ _ _ rfl false e13 (by rfl) (wanted_none rfl) (hK _ _ (le8_refl _) rfl)
    · intro ac w' hF hL hP hU K hK
      have hB := below_undrew hL
      have e20 : ac.eval (.tmp 20) = .bool false := hP 8 (by kernel_rfl)
      exact rop_assign _ rfl e20 (wanted_none rfl) (hK _ _ (le8_refl _) rfl)
    · intro ac w' hF hB hT
      have e4 : ac.eval (.tmp 4) = .bool false := hT 9 (by decide)
      rw [hF.setsG [12, 13, 14, 15, 16, 17, 18, 19, 20, 4] (by kernel_rfl)]
      simp only [List.foldl_cons, List.foldl_nil, List.setIfInBounds_toArray, List.set_cons_succ, List.set_cons_zero, e4]
      generalize ac.eval (.tmp 12) = u12
      generalize ac.eval (.tmp 13) = u13
      generalize ac.eval (.tmp 14) = u14
      generalize ac.eval (.tmp 15) = u15
      generalize ac.eval (.tmp 16) = u16
      generalize ac.eval (.tmp 17) = u17
      generalize ac.eval (.tmp 18) = u18
      generalize ac.eval (.tmp 19) = u19
      generalize ac.eval (.tmp 20) = u20
      clear e4 hT hF ac
      have hbw := below_step hb1 (Nat.le_refl _) hB
      clear hB
      go_wp2
      go_ret
      exact ⟨rfl, hbw⟩
set_option maxHeartbeats 3200000 in
set_option maxRecDepth 100000 in
theorem rstRight_any (key : ByteArray) (hk : key.size ≤ 1000000) (f : StR) (hf : f.fz.root.length = 32) (hm : f.mac.length = 32) (w : World) :
    Calls Tryd.prog 32 #[.string key, .agg (stCs f).toArray] w fun e w' => e = .returned (.bool (stB f && decide (f.mac = Mac.mac key.data.toList (stL f)))) ∧ Below w.heap.size w w' := by
  obtain ⟨p, hp⟩ : ∃ p, p = w.heap.size := ⟨_, rfl⟩
  obtain ⟨W, hW⟩ : ∃ W, W = w.alloc (.cells (stCs f).toArray 29) := ⟨_, rfl⟩
  have hb1 : Below w.heap.size w W := by rw [hW]; exact below_boxS _ _
  have hr : StAt p f W := by rw [hW, hp]; exact Blk.alloc _ _ _
  have hp1 : p < W.heap.size := Blk.lt hr
  have HW := Lib.hid hW
  have HP := Lib.hid hp
  have HR := Lib.hid hr
  have l1 := stL_length hf
  have HI : Hid ((Tryd.prog.info? 29).map (·.size) = some (stCs f).length) := Lib.hid (by rw [stCs_length hf hm]; exact size_of info_st)
  have qs := fun u => rstSays_any f hf u
  clear hW hp hr
  by_cases hz : stB f = true
  · have et : stT f = tB (stL f) := if_pos hz
    rw [et, hz] at qs
    rw [hz, Bool.true_and]
    go_enter Tryd.func32, Tryd.ntmps32
    go_upto_region 1 with fail
    rw [← HW.out, ← HP.out]
    clear HW
    go_upto_region 2 with (first
      | refine wpList_load_mid rfl 29 (.tmp 3) rfl p 0 rfl (stCs f) _ (Blk.all HR.out) Tryd.underlying29 rfl HI.out ?_
      | (go_at_call 43; ((with_reducible refine (qs _).mono ?_); rintro e w4 ⟨rfl, b4⟩)))
    have HRM : Hid (w4.rangeAt p 35 (f.mac.map u8V)) := Lib.hid (StAt.mac (HR.out.old b4 hp1) hf)
    replace hb1 := below_step hb1 (Nat.le_refl _) b4
    replace hp1 := Nat.lt_of_lt_of_le hp1 b4.size
    clear b4 qs hz et
    try simp only [Act.put]
    refine wp_region_tab [RT.is (.bool true), RT.is (.bool true), RT.is (.pointer (some ⟨p, 35, none⟩)), RT.is (sumV f.mac), RT.is (.string key), RT.is (.string (tB (stL f))), RT.is (sumV (Mac.mac key.data.toList (stL f))), RT.is (.bool (decide (f.mac = Mac.mac key.data.toList (stL f)))), RT.is (.bool (decide (f.mac = Mac.mac key.data.toList (stL f)))), RT.is (.bool (decide (f.mac = Mac.mac key.data.toList (stL f))))] (by kernel_rfl) (by kernel_rfl) (by kernel_rfl) (by kernel_rfl) ⟨?_, ?_, ?_, ?_, ?_, ?_, ?_, ?_, ?_, ?_, trivial⟩ ?_
    · intro ac w' hF hL hP hU K hK
      have hB := below_undrew hL
      have e6 : ac.eval (.tmp 6) = .bool true := hF.at 6 (by kernel_rfl)
      exact rop_move _ rfl e6 (wanted_none rfl) (hK _ _ (le8_refl _) rfl)
    · intro ac w' hF hL hP hU K hK
      have hB := below_undrew hL
      have e12 : ac.eval (.tmp 12) = .bool true := hP 0 (by kernel_rfl)
      exact rop_move _ rfl e12 (wanted_none rfl) (hK _ _ (le8_refl _) rfl)
    · intro ac w' hF hL hP hU K hK
      have hB := below_undrew hL
      have e3 : ac.eval (.tmp 3) = .pointer (some ⟨p, 0, none⟩) := hF.at 3 (by kernel_rfl)
      have e13 : ac.eval (.tmp 13) = .bool true := hP 1 (by kernel_rfl)
      exact rop_fld _ _ _ rfl e3 ((fld_st0 p _).2.2) (wanted_of (j := 1) (b := true) rfl rfl e13) (hK _ _ (le8_refl _) rfl)
    · intro ac w' hF hL hP hU K hK
      have hB := below_undrew hL
      have e14 : ac.eval (.tmp 14) = .pointer (some ⟨p, 35, none⟩) := hP 2 (by kernel_rfl)
      have e13 : ac.eval (.tmp 13) = .bool true := hP 1 (by kernel_rfl)
      exact rop_ld _ _ rfl e14 (load_sumAt (below_range' hB hp1 HRM.out) hm) (wanted_of (j := 1) (b := true) rfl rfl e13) (hK _ _ (le8_refl _) rfl)
    · intro ac w' hF hL hP hU K hK
      have hB := below_undrew hL
      have e0 : ac.eval (.tmp 0) = .string key := hF.at 0 (by kernel_rfl)
      have e13 : ac.eval (.tmp 13) = .bool true := hP 1 (by kernel_rfl)
      exact rop_move _ rfl e0 (wanted_of (j := 1) (b := true) rfl rfl e13) (hK _ _ (le8_refl _) rfl)
    · intro ac w' hF hL hP hU K hK
      have hB := below_undrew hL
      have e5 : ac.eval (.tmp 5) = .string (tB (stL f)) := hF.at 5 (by kernel_rfl)
      have e13 : ac.eval (.tmp 13) = .bool true := hP 1 (by kernel_rfl)
      exact rop_move _ rfl e5 (wanted_of (j := 1) (b := true) rfl rfl e13) (hK _ _ (le8_refl _) rfl)
    · intro ac w' hF hL hP hU K hK
      have hB := below_undrew hL
      have e16 : ac.eval (.tmp 16) = .string key := hP 4 (by kernel_rfl)
      have e17 : ac.eval (.tmp 17) = .string (tB (stL f)) := hP 5 (by kernel_rfl)
      have e13 : ac.eval (.tmp 13) = .bool true := hP 1 (by kernel_rfl)
      refine rop_call 61 _ _ rfl #[.string key, .string (tB (stL f))] (by simp [e16, e17]) (by kernel_rfl) (wanted_of (j := 1) (b := true) rfl rfl e13) ?_
      refine (rmac_any key _ rfl (tB (stL f)) (stL f) rfl w' (by rw [← Lib.size_eq]; omega) (by omega)).mono ?_
      rintro e w2 ⟨rfl, hb⟩
      exact ⟨_, rfl, hK _ _ hb rfl⟩
    · intro ac w' hF hL hP hU K hK
      have hB := below_undrew hL
      have e15 : ac.eval (.tmp 15) = sumV f.mac := hP 3 (by kernel_rfl)
      have e18 : ac.eval (.tmp 18) = sumV (Mac.mac key.data.toList (stL f)) := hP 6 (by kernel_rfl)
      have e13 : ac.eval (.tmp 13) = .bool true := hP 1 (by kernel_rfl)
      exact rop_bin _ _ _ _ _ rfl e15 e18 (guard_run .eql _ _ _ _ w') (eql_sum f.mac _ hm (Mac.mac_length _ _) w') (wanted_of (j := 1) (b := true) rfl rfl e13) (hK _ _ (le8_refl _) rfl)
    · intro ac w' hF hL hP hU K hK
      have hB := below_undrew hL
      have e13 : ac.eval (.tmp 13) = .bool true := hP 1 (by kernel_rfl)
      have e19 : ac.eval (.tmp 19) = .bool (decide (f.mac = Mac.mac key.data.toList (stL f))) := hP 7 (by kernel_rfl)
      exact rop_pick _ _ _ rfl true e13 (by simpa using e19) (wanted_none rfl) (hK _ _ (le8_refl _) rfl)
    · intro ac w' hF hL hP hU K hK
      have hB := below_undrew hL
      have e20 : ac.eval (.tmp 20) = .bool (decide (f.mac = Mac.mac key.data.toList (stL f))) := hP 8 (by kernel_rfl)
      exact rop_assign _ rfl e20 (wanted_none rfl) (hK _ _ (le8_refl _) rfl)
    · intro ac w' hF hB hT
      have e4 : ac.eval (.tmp 4) = .bool (decide (f.mac = Mac.mac key.data.toList (stL f))) := hT 9 (by decide)
      rw [hF.setsG [12, 13, 14, 15, 16, 17, 18, 19, 20, 4] (by kernel_rfl)]
      simp only [List.foldl_cons, List.foldl_nil, List.setIfInBounds_toArray, List.set_cons_succ, List.set_cons_zero, e4]
      generalize ac.eval (.tmp 12) = u12
      generalize ac.eval (.tmp 13) = u13
      generalize ac.eval (.tmp 14) = u14
      generalize ac.eval (.tmp 15) = u15
      generalize ac.eval (.tmp 16) = u16
      generalize ac.eval (.tmp 17) = u17
      generalize ac.eval (.tmp 18) = u18
      generalize ac.eval (.tmp 19) = u19
      generalize ac.eval (.tmp 20) = u20
      clear e4 hT hF ac
      have hbw := below_step hb1 (Nat.le_refl _) hB
      clear hB
      go_wp2
      go_ret
      exact ⟨rfl, hbw⟩
  · have et : stT f = tB [] := if_neg hz
    rw [et, show stB f = false by simpa using hz] at qs
    rw [show stB f = false by simpa using hz, Bool.false_and]
    go_enter Tryd.func32, Tryd.ntmps32
    go_upto_region 1 with fail
    rw [← HW.out, ← HP.out]
    clear HW
    go_upto_region 2 with (first
      | refine wpList_load_mid rfl 29 (.tmp 3) rfl p 0 rfl (stCs f) _ (Blk.all HR.out) Tryd.underlying29 rfl HI.out ?_
      | (go_at_call 43; ((with_reducible refine (qs _).mono ?_); rintro e w4 ⟨rfl, b4⟩)))
    have HRM : Hid (w4.rangeAt p 35 (f.mac.map u8V)) := Lib.hid (StAt.mac (HR.out.old b4 hp1) hf)
    replace hb1 := below_step hb1 (Nat.le_refl _) b4
    replace hp1 := Nat.lt_of_lt_of_le hp1 b4.size
    clear b4 qs hz et
    try simp only [Act.put]
    refine wp_region_tab [RT.is (.bool false), RT.is (.bool false), RT.is undef, RT.is undef, RT.is undef, RT.is undef, RT.is undef, RT.is undef, RT.is (.bool false), RT.is (.bool false)] (by kernel_rfl) (by kernel_rfl) (by kernel_rfl) (by kernel_rfl) ⟨?_, ?_, ?_, ?_, ?_, ?_, ?_, ?_, ?_, ?_, trivial⟩ ?_
    · intro ac w' hF hL hP hU K hK
      have hB := below_undrew hL
      have e6 : ac.eval (.tmp 6) = .bool false := hF.at 6 (by kernel_rfl)
      exact rop_move _ rfl e6 (wanted_none rfl) (hK _ _ (le8_refl _) rfl)
    · intro ac w' hF hL hP hU K hK
      have hB := below_undrew hL
      have e12 : ac.eval (.tmp 12) = .bool false := hP 0 (by kernel_rfl)
      exact rop_move _ rfl e12 (wanted_none rfl) (hK _ _ (le8_refl _) rfl)
    · intro ac w' hF hL hP hU K hK
      have hB := below_undrew hL
      have e13 : ac.eval (.tmp 13) = .bool false := hP 1 (by kernel_rfl)
      exact rop_offG (j := 1) (b := true) rfl rfl e13 (by decide) (hK _ _ (le8_refl _) rfl)
    · intro ac w' hF hL hP hU K hK
      have hB := below_undrew hL
      have e13 : ac.eval (.tmp 13) = .bool false := hP 1 (by kernel_rfl)
      exact rop_offG (j := 1) (b := true) rfl rfl e13 (by decide) (hK _ _ (le8_refl _) rfl)
    · intro ac w' hF hL hP hU K hK
      have hB := below_undrew hL
      have e13 : ac.eval (.tmp 13) = .bool false := hP 1 (by kernel_rfl)
      exact rop_offG (j := 1) (b := true) rfl rfl e13 (by decide) (hK _ _ (le8_refl _) rfl)
    · intro ac w' hF hL hP hU K hK
      have hB := below_undrew hL
      have e13 : ac.eval (.tmp 13) = .bool false := hP 1 (by kernel_rfl)
      exact rop_offG (j := 1) (b := true) rfl rfl e13 (by decide) (hK _ _ (le8_refl _) rfl)
    · intro ac w' hF hL hP hU K hK
      have hB := below_undrew hL
      have e13 : ac.eval (.tmp 13) = .bool false := hP 1 (by kernel_rfl)
      exact rop_offG (j := 1) (b := true) rfl rfl e13 (by decide) (hK _ _ (le8_refl _) rfl)
    · intro ac w' hF hL hP hU K hK
      have hB := below_undrew hL
      have e13 : ac.eval (.tmp 13) = .bool false := hP 1 (by kernel_rfl)
      exact rop_offG (j := 1) (b := true) rfl rfl e13 (by decide) (hK _ _ (le8_refl _) rfl)
    · intro ac w' hF hL hP hU K hK
      have hB := below_undrew hL
      have e13 : ac.eval (.tmp 13) = .bool false := hP 1 (by kernel_rfl)
      exact rop_pick _ _ _ rfl false e13 (by rfl) (wanted_none rfl) (hK _ _ (le8_refl _) rfl)
    · intro ac w' hF hL hP hU K hK
      have hB := below_undrew hL
      have e20 : ac.eval (.tmp 20) = .bool false := hP 8 (by kernel_rfl)
      exact rop_assign _ rfl e20 (wanted_none rfl) (hK _ _ (le8_refl _) rfl)
    · intro ac w' hF hB hT
      have e4 : ac.eval (.tmp 4) = .bool false := hT 9 (by decide)
      rw [hF.setsG [12, 13, 14, 15, 16, 17, 18, 19, 20, 4] (by kernel_rfl)]
      simp only [List.foldl_cons, List.foldl_nil, List.setIfInBounds_toArray, List.set_cons_succ, List.set_cons_zero, e4]
      generalize ac.eval (.tmp 12) = u12
      generalize ac.eval (.tmp 13) = u13
      generalize ac.eval (.tmp 14) = u14
      generalize ac.eval (.tmp 15) = u15
      generalize ac.eval (.tmp 16) = u16
      generalize ac.eval (.tmp 17) = u17
      generalize ac.eval (.tmp 18) = u18
      generalize ac.eval (.tmp 19) = u19
      generalize ac.eval (.tmp 20) = u20
      clear e4 hT hF ac
      have hbw := below_step hb1 (Nat.le_refl _) hB
      clear hB
      go_wp2
      go_ret
      exact ⟨rfl, hbw⟩
end Go.Proofs.YtlcljjapeigaeaaDoor
