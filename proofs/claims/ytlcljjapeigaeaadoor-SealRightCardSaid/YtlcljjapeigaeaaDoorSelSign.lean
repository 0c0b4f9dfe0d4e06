/-
  Package seal: stoneSays; what is written with its Mac; what is signed, and told right.
-/
import Derived.Test.YtlcljjapeigaeaaDoorSelFn
namespace Go.Proofs.YtlcljjapeigaeaaDoor
open Go.RowKit

section
variable {ops : Array Oper} {Q : Exit → Act → World → Prop} {a : Act} {w w' : World} {K : Act → World → Prop} {o : Oper}
theorem rop_extractS (x : Operand) (i : Nat) (hop : o.op = .extract x i) {vs : Array Value} {v : Value} (hx : a.eval x = .tuple vs) (hv : vs[i]? = some v) (hw : Region.wanted o (yielded ops a.tmps) = true) (h : K (a.put o.dst v) w) :
    if Region.wanted o (yielded ops a.tmps) = true then Oper.wp Tryd.prog o a w K Q else K (a.put o.dst undef) w :=
  rop_v hw (by simp [execOp, hop, hx, Instr.extract, hv]) h
end
theorem tB_size (l : List UInt8) : (tB l).size = l.length := by simp [tB, ByteArray.size]
theorem tB_ne {l : List UInt8} (h : l ≠ []) : 0 < (tB l).size := by rw [tB_size]; exact List.length_pos_iff.2 h
theorem tB_app (a b : List UInt8) : tB a ++ tB b = tB (a ++ b) := app_list a b
theorem fzL_ne (f : FzR) : fzL f ≠ [] := by simp [fzL]
theorem hdL_ne (f : HdR) : hdL f ≠ [] := by simp [hdL]
theorem stL_ne (f : StR) : stL f ≠ [] := by simp [stL]
theorem nil_toList : (tB []).toList = [] := by rw [Lib.toList_data]; rfl
theorem neq_empty (l : List UInt8) (h : l ≠ []) (w : World) : (binOp .neq 9 (.string (tB l)) (.string ⟨#[]⟩)).run Tryd.prog w = .ok (.bool true) w := by
  have := (toList_ne (tB_ne h)).1
  go_simp
theorem neq_empty0 (w : World) : (binOp .neq 9 (.string (tB [])) (.string ⟨#[]⟩)).run Tryd.prog w = .ok (.bool false) w := by
  go_simp
  try (simp [tB])
theorem eql_empty (l : List UInt8) (h : l ≠ []) (w : World) : (binOp .eql 9 (.string (tB l)) (.string ⟨#[]⟩)).run Tryd.prog w = .ok (.bool false) w := by
  go_simp
  first | (simp [Lib.toList_data]; simpa [tB] using h) | simp_all [tB]
theorem eql_empty0 (w : World) : (binOp .eql 9 (.string (tB [])) (.string ⟨#[]⟩)).run Tryd.prog w = .ok (.bool true) w := by
  go_simp
  try (simp [tB])

set_option maxHeartbeats 1600000 in
set_option maxRecDepth 100000 in
theorem signed_some (l : List UInt8) (hl : l ≠ []) (hs : l.length ≤ 1000) (D : List UInt8) (hD : D.length = 32) (w : World) :
    Calls Tryd.prog 39 #[.string (tB l), sumV D] w fun e w' => e = .returned (.tuple #[.string (tB (l ++ hashL D)), .int .i64 0]) ∧ Below w.heap.size w w' := by
  have HL : Hid ((tB l).size + (tB (hashL D)).size ≤ maxLen) := Lib.hid (by have := hashL_length hD; rw [tB_size, tB_size]; unfold maxLen; omega)
  obtain ⟨p, hp⟩ : ∃ p, p = w.heap.size := ⟨_, rfl⟩
  obtain ⟨W, hW⟩ : ∃ W, W = w.alloc (.cells (D.map u8V).toArray 23) := ⟨_, rfl⟩
  have hb1 : Below w.heap.size w W := by rw [hW]; exact below_boxS _ _
  have hr : Blk p 23 (D.map u8V) W := by rw [hW, hp]; exact Blk.alloc _ _ _
  have hp1 : p < W.heap.size := hr.lt
  have HR : Hid (W.rangeAt p 0 (D.map u8V)) := Lib.hid hr.all
  have HW := Lib.hid hW
  have HP := Lib.hid hp
  clear hW hp hr
  have q := eql_empty l hl
  unfold sumV
  go_enter Tryd.func39, Tryd.ntmps39
  go_upto_region 1 with fail
  rw [← HW.out, ← HP.out]
  clear HW
  try simp only [Act.put]
  refine wp_region_tab0 [RT.is (.string (tB l)), RT.is (.bool false)] (by kernel_rfl) (by kernel_rfl) (by kernel_rfl) ⟨?_, ?_, trivial⟩ ?_
  · intro ac w' hF hL hP hU K hK
    have hB : Below _ _ _ := hL
    have e0 : ac.eval (.tmp 0) = .string (tB l) := hF.at 0 (by kernel_rfl)
    exact rop_move _ rfl e0 (wanted_none rfl) (hK _ _ (le8_refl _) rfl)
  · intro ac w' hF hL hP hU K hK
    have hB : Below _ _ _ := hL
    have e6 : ac.eval (.tmp 6) = .string (tB l) := hP 0 (by kernel_rfl)
    exact rop_bin _ _ _ _ _ rfl e6 rfl (guard_str _ _ _ _ _ _ w') (eql_empty l hl w') (wanted_none rfl) (hK _ _ (le8_refl _) rfl)
  · intro ac w' hF hB hT
    have e7 : ac.eval (.tmp 7) = .bool false := hT 1 (by decide)
    rw [hF.setsG [6, 7] (by kernel_rfl)]
    simp only [List.foldl_cons, List.foldl_nil, List.setIfInBounds_toArray, List.set_cons_succ, List.set_cons_zero, e7]
    generalize ac.eval (.tmp 6) = u6
    clear e7 hT hF ac
    replace hb1 := below_step hb1 (Nat.le_refl _) hB
    replace HR := Lib.hid (below_range' hB hp1 HR.out)
    replace hp1 := Nat.lt_of_lt_of_le hp1 hB.size
    clear hB
    go_upto_region 3 with fail
    try simp only [Act.put]
    refine wp_region_tab0 [RT.is (.string (tB l)), RT.is (sumV D), RT.is (.string (tB (hashL D))), RT.is (.string (tB (l ++ hashL D))), RT.is (.string (tB (l ++ hashL D))), RT.is (.int .i64 0)] (by kernel_rfl) (by kernel_rfl) (by kernel_rfl) ⟨?_, ?_, ?_, ?_, ?_, ?_, trivial⟩ ?_
    · intro ac w' hF hL hP hU K hK
      have hB : Below _ _ _ := hL
      have e0 : ac.eval (.tmp 0) = .string (tB l) := hF.at 0 (by kernel_rfl)
      exact rop_move _ rfl e0 (wanted_none rfl) (hK _ _ (le8_refl _) rfl)
    · intro ac w' hF hL hP hU K hK
      have hB : Below _ _ _ := hL
      have e3 : ac.eval (.tmp 3) = .pointer (some ⟨p, 0, none⟩) := hF.at 3 (by kernel_rfl)
      exact rop_ld _ _ rfl e3 (load_sumAt (below_range' hB hp1 HR.out) hD) (wanted_none rfl) (hK _ _ (le8_refl _) rfl)
    · intro ac w' hF hL hP hU K hK
      have hB : Below _ _ _ := hL
      have e9 : ac.eval (.tmp 9) = sumV D := hP 1 (by kernel_rfl)
      refine rop_call 36 _ _ rfl #[sumV D] (by simp [e9]) (by kernel_rfl) (wanted_none rfl) ?_
      refine (hashS_any D hD w').mono ?_
      rintro e w2 ⟨rfl, hb⟩
      exact ⟨_, rfl, hK _ _ hb rfl⟩
    · intro ac w' hF hL hP hU K hK
      have hB : Below _ _ _ := hL
      have e8 : ac.eval (.tmp 8) = .string (tB l) := hP 0 (by kernel_rfl)
      have e10 : ac.eval (.tmp 10) = .string (tB (hashL D)) := hP 2 (by kernel_rfl)
      exact rop_bin _ _ _ _ _ rfl e8 e10 (guard_str _ _ _ _ _ _ w') ((add_str _ _ HL.out w').trans (by rw [tB_app])) (wanted_none rfl) (hK _ _ (le8_refl _) rfl)
    · intro ac w' hF hL hP hU K hK
      have hB : Below _ _ _ := hL
      have e11 : ac.eval (.tmp 11) = .string (tB (l ++ hashL D)) := hP 3 (by kernel_rfl)
      exact rop_assign _ rfl e11 (wanted_none rfl) (hK _ _ (le8_refl _) rfl)
    · intro ac w' hF hL hP hU K hK
      have hB : Below _ _ _ := hL
      exact rop_assign _ rfl rfl (wanted_none rfl) (hK _ _ (le8_refl _) rfl)
    · intro ac w' hF hB hT
      have e4 : ac.eval (.tmp 4) = .string (tB (l ++ hashL D)) := hT 4 (by decide)
      have e5 : ac.eval (.tmp 5) = .int .i64 0 := hT 5 (by decide)
      rw [hF.setsG [8, 9, 10, 11, 4, 5] (by kernel_rfl)]
      simp only [List.foldl_cons, List.foldl_nil, List.setIfInBounds_toArray, List.set_cons_succ, List.set_cons_zero, e4, e5]
      generalize ac.eval (.tmp 8) = u8
      generalize ac.eval (.tmp 9) = u9
      generalize ac.eval (.tmp 10) = u10
      generalize ac.eval (.tmp 11) = u11
      clear e4 e5 hT hF ac
      have hbw := below_step hb1 (Nat.le_refl _) hB
      clear hB
      go_wp2
      go_ret2
      exact ⟨rfl, hbw⟩
set_option maxHeartbeats 1600000 in
set_option maxRecDepth 100000 in
theorem signed_nil (D : List UInt8) (_hD : D.length = 32) (w : World) :
    Calls Tryd.prog 39 #[.string (tB []), sumV D] w fun e w' => e = .returned (.tuple #[.string (tB []), .int .i64 1]) ∧ Below w.heap.size w w' := by
  obtain ⟨p, hp⟩ : ∃ p, p = w.heap.size := ⟨_, rfl⟩
  obtain ⟨W, hW⟩ : ∃ W, W = w.alloc (.cells (D.map u8V).toArray 23) := ⟨_, rfl⟩
  have hb1 : Below w.heap.size w W := by rw [hW]; exact below_boxS _ _
  have hr : Blk p 23 (D.map u8V) W := by rw [hW, hp]; exact Blk.alloc _ _ _
  have hp1 : p < W.heap.size := hr.lt
  have HR : Hid (W.rangeAt p 0 (D.map u8V)) := Lib.hid hr.all
  have HW := Lib.hid hW
  have HP := Lib.hid hp
  clear hW hp hr
  unfold sumV
  go_enter Tryd.func39, Tryd.ntmps39
  go_upto_region 1 with fail
  rw [← HW.out, ← HP.out]
  clear HW
  try simp only [Act.put]
  refine wp_region_tab0 [RT.is (.string (tB [])), RT.is (.bool true)] (by kernel_rfl) (by kernel_rfl) (by kernel_rfl) ⟨?_, ?_, trivial⟩ ?_
  · intro ac w' hF hL hP hU K hK
    have hB : Below _ _ _ := hL
    have e0 : ac.eval (.tmp 0) = .string (tB []) := hF.at 0 (by kernel_rfl)
    exact rop_move _ rfl e0 (wanted_none rfl) (hK _ _ (le8_refl _) rfl)
  · intro ac w' hF hL hP hU K hK
    have hB : Below _ _ _ := hL
    have e6 : ac.eval (.tmp 6) = .string (tB []) := hP 0 (by kernel_rfl)
    exact rop_bin _ _ _ _ _ rfl e6 rfl (guard_str _ _ _ _ _ _ w') (eql_empty0 w') (wanted_none rfl) (hK _ _ (le8_refl _) rfl)
  · intro ac w' hF hB hT
    have e7 : ac.eval (.tmp 7) = .bool true := hT 1 (by decide)
    rw [hF.setsG [6, 7] (by kernel_rfl)]
    simp only [List.foldl_cons, List.foldl_nil, List.setIfInBounds_toArray, List.set_cons_succ, List.set_cons_zero, e7]
    generalize ac.eval (.tmp 6) = u6
    clear e7 hT hF ac
    have hbw := below_step hb1 (Nat.le_refl _) hB
    clear hB
    go_wp2
    go_ret2
    exact ⟨rfl, hbw⟩
theorem hdG_any (f : HdR) (hf : f.root.length = 32) (hm : f.mac.length = 32) (w : World) :
    Calls Tryd.prog 39 #[.string (hdT f), sumV f.mac] w fun e w' => e = .returned (.tuple #[.string (hdG f), .int .i64 (hdZ f)]) ∧ Below w.heap.size w w' := by
  have h1 := hdL_length hf
  unfold hdT hdG hdZ hdF
  by_cases h : hdB f = true
  · rw [if_pos h, if_pos h, if_pos h]
    exact signed_some _ (hdL_ne f) (by omega) _ hm w
  · rw [if_neg h, if_neg h, if_neg h]
    exact signed_nil _ hm w
theorem stG_any (f : StR) (hf : f.fz.root.length = 32) (hm : f.mac.length = 32) (w : World) :
    Calls Tryd.prog 39 #[.string (stT f), sumV f.mac] w fun e w' => e = .returned (.tuple #[.string (stG f), .int .i64 (stZ f)]) ∧ Below w.heap.size w w' := by
  have h1 := stL_length hf
  unfold stT stG stZ stF
  by_cases h : stB f = true
  · rw [if_pos h, if_pos h, if_pos h]
    exact signed_some _ (stL_ne f) (by omega) _ hm w
  · rw [if_neg h, if_neg h, if_neg h]
    exact signed_nil _ hm w
theorem size_fz : (Tryd.prog.info? 25).map (·.size) = some 34 := size_of info_fz
set_option maxHeartbeats 3200000 in
set_option maxRecDepth 100000 in
theorem stSays_any (f : StR) (hf : f.fz.root.length = 32) (w : World) :
    Calls Tryd.prog 42 #[.agg (stCs f).toArray] w fun e w' => e = .returned (.string (stT f)) ∧ Below w.heap.size w w' := by
  obtain ⟨p, hp⟩ : ∃ p, p = w.heap.size := ⟨_, rfl⟩
  obtain ⟨W, hW⟩ : ∃ W, W = w.alloc (.cells (stCs f).toArray 29) := ⟨_, rfl⟩
  have hb1 : Below w.heap.size w W := by rw [hW]; exact below_boxS _ _
  have hr : StAt p f W := by rw [hW, hp]; exact Blk.alloc _ _ _
  have hp1 : p < W.heap.size := Blk.lt hr
  have HW := Lib.hid hW
  have HP := Lib.hid hp
  have HR := Lib.hid hr
  have hlen := stL_length hf
  have hfl := fzL_length hf
  have HS : Hid (∀ (u : World) (v : Value), StrN u v [tB (txtL ⟨(fzL f.fz).toArray⟩), tB (Oct.putL (u64N f.tim))] → Calls Tryd.prog 34 #[.string ⟨#[84]⟩, v] u fun e w' => e = .returned (.string (tB (stL f))) ∧ Below u.heap.size u w') := Lib.hid fun u v hv => said2 84 _ _ v u hv (by unfold stL at hlen; simp only [List.length_cons] at hlen; omega)
  have HTX : Hid (∀ u : World, Calls Tryd.prog 65 #[.string (tB (fzL f.fz))] u fun e w' => e = .returned (.string (tB (txtL ⟨(fzL f.fz).toArray⟩))) ∧ Below u.heap.size u w') := Lib.hid fun u => by
    rw [show tB (txtL ⟨(fzL f.fz).toArray⟩) = Oct.putB (tB (fzL f.fz)).size ++ tB (fzL f.fz) from (txt_eq _).symm]
    exact textPut_any _ u (by rw [tB_size]; omega)
  have HRg : Hid (W.rangeAt p 0 (fzCs f.fz)) := Lib.hid hr.fz
  have HI : Hid ((Tryd.prog.info? 25).map (·.size) = some (fzCs f.fz).length) := Lib.hid (by rw [fzCs_length hf]; exact size_fz)
  clear hW hp hr hlen hfl
  have qf := fun u => fzBytes_any f.fz hf u
  have qt := fun u => isTime_any f.tim u
  unfold stT stB
  by_cases hz : fzB f.fz = true
  · rw [hz]
    have ez : fzZ f.fz = 0 := if_pos hz
    have et : fzT f.fz = tB (fzL f.fz) := if_pos hz
    rw [ez, et] at qf
    simp only [Bool.true_and]
    generalize timB f.tim = A at qt ⊢
    cases A
    · simp only [Bool.false_eq_true, if_false]
      clear HS HTX
      generalize fzL f.fz = L at *
      go_enter Tryd.func42, Tryd.ntmps42
      go_upto_region 1 with fail
      rw [← HW.out, ← HP.out]
      clear HW
      go_upto_region 2 with (first | refine wpList_load_mid rfl 25 (.tmp 6) rfl p 0 rfl (fzCs f.fz) _ HRg.out Tryd.underlying25 rfl HI.out ?_ | (go_at_call 10; ((with_reducible refine (qf _).mono ?_); rintro e w4 ⟨rfl, b4⟩)))
      have c34 := StAt.tim (HR.out.old b4 hp1) hf
      replace hb1 := below_step hb1 (Nat.le_refl _) b4
      clear b4
      go_wp2_with (first | (go_at_call 33; ((with_reducible refine (qt _).mono ?_); rintro e w5 ⟨rfl, rfl⟩)))
      try rw [Exit.noGoto_ret]
      go_ret
      exact ⟨rfl, hb1⟩
    · simp only [if_true]
      go_enter Tryd.func42, Tryd.ntmps42
      go_upto_region 1 with fail
      rw [← HW.out, ← HP.out]
      clear HW
      go_upto_region 2 with (first | refine wpList_load_mid rfl 25 (.tmp 6) rfl p 0 rfl (fzCs f.fz) _ HRg.out Tryd.underlying25 rfl HI.out ?_ | (go_at_call 10; ((with_reducible refine (qf _).mono ?_); rintro e w4 ⟨rfl, b4⟩)))
      have c34 := StAt.tim (HR.out.old b4 hp1) hf
      replace hb1 := below_step hb1 (Nat.le_refl _) b4
      replace hp1 := Nat.lt_of_lt_of_le hp1 b4.size
      clear b4 qf ez et hz HRg
      go_upto_region 4 with (first | (go_at_call 33; ((with_reducible refine (qt _).mono ?_); rintro e w5 ⟨rfl, rfl⟩)))
      try simp only [Act.put]
      refine wp_region_tab [RT.is (.string (tB (fzL f.fz))), RT.is (.string (tB (txtL ⟨(fzL f.fz).toArray⟩))), RT.is (.pointer (some ⟨p, 34, none⟩)), RT.is (.int .i64 f.tim), RT.is (.string (tB (Oct.putL (u64N f.tim)))), RT.rowN [tB (txtL ⟨(fzL f.fz).toArray⟩), tB (Oct.putL (u64N f.tim))], RT.is (.string (tB (stL f))), RT.is (.string (tB (stL f)))] (by kernel_rfl) (by kernel_rfl) (by kernel_rfl) (by kernel_rfl) ⟨?_, ?_, ?_, ?_, ?_, ?_, ?_, ?_, trivial⟩ ?_
      · intro ac w' hF hL hP hU K hK
        have hB := below_undrew hL
        have e3 : ac.eval (.tmp 3) = .string (tB (fzL f.fz)) := hF.at 3 (by kernel_rfl)
        exact rop_move _ rfl e3 (wanted_none rfl) (hK _ _ (le8_refl _) rfl)
      · intro ac w' hF hL hP hU K hK
        have hB := below_undrew hL
        have e19 : ac.eval (.tmp 19) = .string (tB (fzL f.fz)) := hP 0 (by kernel_rfl)
        refine rop_call 65 _ _ rfl #[.string (tB (fzL f.fz))] (by simp [e19]) (by kernel_rfl) (wanted_none rfl) ?_
        refine (HTX.out w').mono ?_
        rintro e w2 ⟨rfl, hb⟩
        exact ⟨_, rfl, hK _ _ hb rfl⟩
      · intro ac w' hF hL hP hU K hK
        have hB := below_undrew hL
        have e1 : ac.eval (.tmp 1) = .pointer (some ⟨p, 0, none⟩) := hF.at 1 (by kernel_rfl)
        exact rop_fld _ _ _ rfl e1 ((fld_st0 p _).2.1) (wanted_none rfl) (hK _ _ (le8_refl _) rfl)
      · intro ac w' hF hL hP hU K hK
        have hB := below_undrew hL
        have e21 : ac.eval (.tmp 21) = .pointer (some ⟨p, 34, none⟩) := hP 2 (by kernel_rfl)
        exact rop_ld _ _ rfl e21 (load_intS ((hB.cell (p := ⟨p, _, none⟩) hp1).trans c34)) (wanted_none rfl) (hK _ _ (le8_refl _) rfl)
      · intro ac w' hF hL hP hU K hK
        have hB := below_undrew hL
        have e22 : ac.eval (.tmp 22) = .int .i64 f.tim := hP 3 (by kernel_rfl)
        refine rop_call 35 _ _ rfl #[.int .i64 f.tim] (by simp [e22]) (by kernel_rfl) (wanted_none rfl) ?_
        refine (number_any f.tim w').mono ?_
        rintro e w2 ⟨rfl, hb⟩
        exact ⟨_, rfl, hK _ _ hb rfl⟩
      · intro ac w' hF hL hP hU K hK
        have hB := below_undrew hL
        have e20 : ac.eval (.tmp 20) = .string (tB (txtL ⟨(fzL f.fz).toArray⟩)) := hP 1 (by kernel_rfl)
        have e23 : ac.eval (.tmp 23) = .string (tB (Oct.putL (u64N f.tim))) := hP 4 (by kernel_rfl)
        refine rop_textsN 2 _ rfl [tB (txtL ⟨(fzL f.fz).toArray⟩), tB (Oct.putL (u64N f.tim))] ?_ rfl (by decide) (by decide) (wanted_none rfl) (fun v w2 hb hr => hK v w2 hb hr)
        simp [e20, e23, List.range, List.range.loop]
      · intro ac w' hF hL hP hU K hK
        have hB := below_undrew hL
        have e24 : StrN w' (ac.eval (.tmp 24)) [tB (txtL ⟨(fzL f.fz).toArray⟩), tB (Oct.putL (u64N f.tim))] := hP 5 (by kernel_rfl)
        refine rop_call 34 _ _ rfl #[.string { data := #[84] }, ac.eval (.tmp 24)] (by simp [eval_const]) (by kernel_rfl) (wanted_none rfl) ?_
        refine (HS.out w' _ e24).mono ?_
        rintro e w2 ⟨rfl, hb⟩
        exact ⟨_, rfl, hK _ _ hb rfl⟩
      · intro ac w' hF hL hP hU K hK
        have hB := below_undrew hL
        have e25 : ac.eval (.tmp 25) = .string (tB (stL f)) := hP 6 (by kernel_rfl)
        exact rop_assign _ rfl e25 (wanted_none rfl) (hK _ _ (le8_refl _) rfl)
      · intro ac w' hF hB hT
        have e2 : ac.eval (.tmp 2) = .string (tB (stL f)) := hT 7 (by decide)
        rw [hF.setsG [19, 20, 21, 22, 23, 24, 25, 2] (by kernel_rfl)]
        simp only [List.foldl_cons, List.foldl_nil, List.setIfInBounds_toArray, List.set_cons_succ, List.set_cons_zero, e2]
        generalize ac.eval (.tmp 19) = u19
        generalize ac.eval (.tmp 20) = u20
        generalize ac.eval (.tmp 21) = u21
        generalize ac.eval (.tmp 22) = u22
        generalize ac.eval (.tmp 23) = u23
        generalize ac.eval (.tmp 24) = u24
        generalize ac.eval (.tmp 25) = u25
        clear e2 hT hF ac
        have hbw := below_step hb1 (Nat.le_refl _) hB
        clear hB c34
        go_wp2
        go_ret
        exact ⟨rfl, hbw⟩
  · have ez : fzZ f.fz = 1 := if_neg hz
    have et : fzT f.fz = tB [] := if_neg hz
    rw [ez, et] at qf
    rw [show fzB f.fz = false by simpa using hz]
    simp only [Bool.false_and, Bool.false_eq_true, if_false]
    clear hz ez et HS HTX
    go_enter Tryd.func42, Tryd.ntmps42
    go_upto_region 1 with fail
    rw [← HW.out, ← HP.out]
    clear HW
    go_upto_region 2 with (first | refine wpList_load_mid rfl 25 (.tmp 6) rfl p 0 rfl (fzCs f.fz) _ HRg.out Tryd.underlying25 rfl HI.out ?_ | (go_at_call 10; ((with_reducible refine (qf _).mono ?_); rintro e w4 ⟨rfl, b4⟩)))
    replace hb1 := below_step hb1 (Nat.le_refl _) b4
    clear b4 qf
    go_wp2
    try rw [Exit.noGoto_ret]
    go_ret
    exact ⟨rfl, hb1⟩
set_option maxHeartbeats 3200000 in
set_option maxRecDepth 100000 in
theorem hdBytes_any (f : HdR) (hf : f.root.length = 32) (hm : f.mac.length = 32) (w : World) :
    Calls Tryd.prog 12 #[.agg (hdCs f).toArray] w fun e w' => e = .returned (.tuple #[.string (hdG f), .int .i64 (hdZ f)]) ∧ Below w.heap.size w w' := by
  obtain ⟨p, hp⟩ : ∃ p, p = w.heap.size := ⟨_, rfl⟩
  obtain ⟨W, hW⟩ : ∃ W, W = w.alloc (.cells (hdCs f).toArray 27) := ⟨_, rfl⟩
  have hb1 : Below w.heap.size w W := by rw [hW]; exact below_boxS _ _
  have hr : HdAt p f W := by rw [hW, hp]; exact Blk.alloc _ _ _
  have hp1 : p < W.heap.size := Blk.lt hr
  have HW := Lib.hid hW
  have HP := Lib.hid hp
  have HR := Lib.hid hr
  clear hW hp hr
  go_enter Tryd.func12, Tryd.ntmps12
  go_upto_region 1 with fail
  rw [← HW.out, ← HP.out]
  clear HW
  try simp only [Act.put]
  refine wp_region_tab [RT.is (.agg (hdCs f).toArray), RT.is (.string (hdT f)), RT.is (.pointer (some ⟨p, 34, none⟩)), RT.is (sumV f.mac), RT.is (.tuple #[.string (hdG f), .int .i64 (hdZ f)]), RT.is (.string (hdG f)), RT.is (.int .i64 (hdZ f)), RT.is (.string (hdG f)), RT.is (.int .i64 (hdZ f))] (by kernel_rfl) (by kernel_rfl) (by kernel_rfl) (by kernel_rfl) ⟨?_, ?_, ?_, ?_, ?_, ?_, ?_, ?_, ?_, trivial⟩ ?_
  · intro ac w' hF hL hP hU K hK
    have hB := below_undrew hL
    have e1 : ac.eval (.tmp 1) = .pointer (some ⟨p, 0, none⟩) := hF.at 1 (by kernel_rfl)
    exact rop_ld _ _ rfl e1 (load_hdAt (below_range' hB hp1 (Blk.all HR.out)) hf hm) (wanted_none rfl) (hK _ _ (le8_refl _) rfl)
  · intro ac w' hF hL hP hU K hK
    have hB := below_undrew hL
    have e4 : ac.eval (.tmp 4) = .agg (hdCs f).toArray := hP 0 (by kernel_rfl)
    refine rop_call 40 _ _ rfl #[.agg (hdCs f).toArray] (by simp [e4]) (by kernel_rfl) (wanted_none rfl) ?_
    refine (hdSays_any f hf w').mono ?_
    rintro e w2 ⟨rfl, hb⟩
    exact ⟨_, rfl, hK _ _ hb rfl⟩
  · intro ac w' hF hL hP hU K hK
    have hB := below_undrew hL
    have e1 : ac.eval (.tmp 1) = .pointer (some ⟨p, 0, none⟩) := hF.at 1 (by kernel_rfl)
    exact rop_fld _ _ _ rfl e1 ((fld_hd0 p _).2.2.2) (wanted_none rfl) (hK _ _ (le8_refl _) rfl)
  · intro ac w' hF hL hP hU K hK
    have hB := below_undrew hL
    have e6 : ac.eval (.tmp 6) = .pointer (some ⟨p, 34, none⟩) := hP 2 (by kernel_rfl)
    exact rop_ld _ _ rfl e6 (load_sumAt (below_range' hB hp1 (HR.out.mac hf)) hm) (wanted_none rfl) (hK _ _ (le8_refl _) rfl)
  · intro ac w' hF hL hP hU K hK
    have hB := below_undrew hL
    have e5 : ac.eval (.tmp 5) = .string (hdT f) := hP 1 (by kernel_rfl)
    have e7 : ac.eval (.tmp 7) = sumV f.mac := hP 3 (by kernel_rfl)
    refine rop_call 39 _ _ rfl #[.string (hdT f), sumV f.mac] (by simp [e5, e7]) (by kernel_rfl) (wanted_none rfl) ?_
    refine (hdG_any f hf hm w').mono ?_
    rintro e w2 ⟨rfl, hb⟩
    exact ⟨_, rfl, hK _ _ hb rfl⟩
  · intro ac w' hF hL hP hU K hK
    have hB := below_undrew hL
    have e8 : ac.eval (.tmp 8) = .tuple #[.string (hdG f), .int .i64 (hdZ f)] := hP 4 (by kernel_rfl)
    exact rop_extractS _ _ rfl e8 rfl (wanted_none rfl) (hK _ _ (le8_refl _) rfl)
  · intro ac w' hF hL hP hU K hK
    have hB := below_undrew hL
    have e8 : ac.eval (.tmp 8) = .tuple #[.string (hdG f), .int .i64 (hdZ f)] := hP 4 (by kernel_rfl)
    exact rop_extractS _ _ rfl e8 rfl (wanted_none rfl) (hK _ _ (le8_refl _) rfl)
  · intro ac w' hF hL hP hU K hK
    have hB := below_undrew hL
    have e9 : ac.eval (.tmp 9) = .string (hdG f) := hP 5 (by kernel_rfl)
    exact rop_assign _ rfl e9 (wanted_none rfl) (hK _ _ (le8_refl _) rfl)
  · intro ac w' hF hL hP hU K hK
    have hB := below_undrew hL
    have e10 : ac.eval (.tmp 10) = .int .i64 (hdZ f) := hP 6 (by kernel_rfl)
    exact rop_assign _ rfl e10 (wanted_none rfl) (hK _ _ (le8_refl _) rfl)
  · intro ac w' hF hB hT
    have e2 : ac.eval (.tmp 2) = .string (hdG f) := hT 7 (by decide)
    have e3 : ac.eval (.tmp 3) = .int .i64 (hdZ f) := hT 8 (by decide)
    rw [hF.setsG [4, 5, 6, 7, 8, 9, 10, 2, 3] (by kernel_rfl)]
    simp only [List.foldl_cons, List.foldl_nil, List.setIfInBounds_toArray, List.set_cons_succ, List.set_cons_zero, e2, e3]
    generalize ac.eval (.tmp 4) = u4
    generalize ac.eval (.tmp 5) = u5
    generalize ac.eval (.tmp 6) = u6
    generalize ac.eval (.tmp 7) = u7
    generalize ac.eval (.tmp 8) = u8
    generalize ac.eval (.tmp 9) = u9
    generalize ac.eval (.tmp 10) = u10
    clear e2 e3 hT hF ac
    have hbw := below_step hb1 (Nat.le_refl _) hB
    clear hB
    go_wp2
    go_ret2
    exact ⟨rfl, hbw⟩
set_option maxHeartbeats 3200000 in
set_option maxRecDepth 100000 in
theorem stBytes_any (f : StR) (hf : f.fz.root.length = 32) (hm : f.mac.length = 32) (w : World) :
    Calls Tryd.prog 14 #[.agg (stCs f).toArray] w fun e w' => e = .returned (.tuple #[.string (stG f), .int .i64 (stZ f)]) ∧ Below w.heap.size w w' := by
  obtain ⟨p, hp⟩ : ∃ p, p = w.heap.size := ⟨_, rfl⟩
  obtain ⟨W, hW⟩ : ∃ W, W = w.alloc (.cells (stCs f).toArray 29) := ⟨_, rfl⟩
  have hb1 : Below w.heap.size w W := by rw [hW]; exact below_boxS _ _
  have hr : StAt p f W := by rw [hW, hp]; exact Blk.alloc _ _ _
  have hp1 : p < W.heap.size := Blk.lt hr
  have HW := Lib.hid hW
  have HP := Lib.hid hp
  have HR := Lib.hid hr
  clear hW hp hr
  go_enter Tryd.func14, Tryd.ntmps14
  go_upto_region 1 with fail
  rw [← HW.out, ← HP.out]
  clear HW
  try simp only [Act.put]
  refine wp_region_tab [RT.is (.agg (stCs f).toArray), RT.is (.string (stT f)), RT.is (.pointer (some ⟨p, 35, none⟩)), RT.is (sumV f.mac), RT.is (.tuple #[.string (stG f), .int .i64 (stZ f)]), RT.is (.string (stG f)), RT.is (.int .i64 (stZ f)), RT.is (.string (stG f)), RT.is (.int .i64 (stZ f))] (by kernel_rfl) (by kernel_rfl) (by kernel_rfl) (by kernel_rfl) ⟨?_, ?_, ?_, ?_, ?_, ?_, ?_, ?_, ?_, trivial⟩ ?_
  · intro ac w' hF hL hP hU K hK
    have hB := below_undrew hL
    have e1 : ac.eval (.tmp 1) = .pointer (some ⟨p, 0, none⟩) := hF.at 1 (by kernel_rfl)
    exact rop_ld _ _ rfl e1 (load_stAt (below_range' hB hp1 (Blk.all HR.out)) hf hm) (wanted_none rfl) (hK _ _ (le8_refl _) rfl)
  · intro ac w' hF hL hP hU K hK
    have hB := below_undrew hL
    have e4 : ac.eval (.tmp 4) = .agg (stCs f).toArray := hP 0 (by kernel_rfl)
    refine rop_call 42 _ _ rfl #[.agg (stCs f).toArray] (by simp [e4]) (by kernel_rfl) (wanted_none rfl) ?_
    refine (stSays_any f hf w').mono ?_
    rintro e w2 ⟨rfl, hb⟩
    exact ⟨_, rfl, hK _ _ hb rfl⟩
  · intro ac w' hF hL hP hU K hK
    have hB := below_undrew hL
    have e1 : ac.eval (.tmp 1) = .pointer (some ⟨p, 0, none⟩) := hF.at 1 (by kernel_rfl)
    exact rop_fld _ _ _ rfl e1 ((fld_st0 p _).2.2) (wanted_none rfl) (hK _ _ (le8_refl _) rfl)
  · intro ac w' hF hL hP hU K hK
    have hB := below_undrew hL
    have e6 : ac.eval (.tmp 6) = .pointer (some ⟨p, 35, none⟩) := hP 2 (by kernel_rfl)
    exact rop_ld _ _ rfl e6 (load_sumAt (below_range' hB hp1 (HR.out.mac hf)) hm) (wanted_none rfl) (hK _ _ (le8_refl _) rfl)
  · intro ac w' hF hL hP hU K hK
    have hB := below_undrew hL
    have e5 : ac.eval (.tmp 5) = .string (stT f) := hP 1 (by kernel_rfl)
    have e7 : ac.eval (.tmp 7) = sumV f.mac := hP 3 (by kernel_rfl)
    refine rop_call 39 _ _ rfl #[.string (stT f), sumV f.mac] (by simp [e5, e7]) (by kernel_rfl) (wanted_none rfl) ?_
    refine (stG_any f hf hm w').mono ?_
    rintro e w2 ⟨rfl, hb⟩
    exact ⟨_, rfl, hK _ _ hb rfl⟩
  · intro ac w' hF hL hP hU K hK
    have hB := below_undrew hL
    have e8 : ac.eval (.tmp 8) = .tuple #[.string (stG f), .int .i64 (stZ f)] := hP 4 (by kernel_rfl)
    exact rop_extractS _ _ rfl e8 rfl (wanted_none rfl) (hK _ _ (le8_refl _) rfl)
  · intro ac w' hF hL hP hU K hK
    have hB := below_undrew hL
    have e8 : ac.eval (.tmp 8) = .tuple #[.string (stG f), .int .i64 (stZ f)] := hP 4 (by kernel_rfl)
    exact rop_extractS _ _ rfl e8 rfl (wanted_none rfl) (hK _ _ (le8_refl _) rfl)
  · intro ac w' hF hL hP hU K hK
    have hB := below_undrew hL
    have e9 : ac.eval (.tmp 9) = .string (stG f) := hP 5 (by kernel_rfl)
    exact rop_assign _ rfl e9 (wanted_none rfl) (hK _ _ (le8_refl _) rfl)
  · intro ac w' hF hL hP hU K hK
    have hB := below_undrew hL
    have e10 : ac.eval (.tmp 10) = .int .i64 (stZ f) := hP 6 (by kernel_rfl)
    exact rop_assign _ rfl e10 (wanted_none rfl) (hK _ _ (le8_refl _) rfl)
  · intro ac w' hF hB hT
    have e2 : ac.eval (.tmp 2) = .string (stG f) := hT 7 (by decide)
    have e3 : ac.eval (.tmp 3) = .int .i64 (stZ f) := hT 8 (by decide)
    rw [hF.setsG [4, 5, 6, 7, 8, 9, 10, 2, 3] (by kernel_rfl)]
    simp only [List.foldl_cons, List.foldl_nil, List.setIfInBounds_toArray, List.set_cons_succ, List.set_cons_zero, e2, e3]
    generalize ac.eval (.tmp 4) = u4
    generalize ac.eval (.tmp 5) = u5
    generalize ac.eval (.tmp 6) = u6
    generalize ac.eval (.tmp 7) = u7
    generalize ac.eval (.tmp 8) = u8
    generalize ac.eval (.tmp 9) = u9
    generalize ac.eval (.tmp 10) = u10
    clear e2 e3 hT hF ac
    have hbw := below_step hb1 (Nat.le_refl _) hB
    clear hB
    go_wp2
    go_ret2
    exact ⟨rfl, hbw⟩
end Go.Proofs.YtlcljjapeigaeaaDoor
