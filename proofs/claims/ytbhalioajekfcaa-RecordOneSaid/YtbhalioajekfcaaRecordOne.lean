/-
  RecordOne: no two records that may be have the same bytes. For every two records (of a longer payload the first 2010 bytes), no condition.
-/
import Derived.Test.YtbhalioajekfcaaRecArg
namespace Go.Proofs.Ytbhalioajekfcaa.recordOne
open Go.ChangeShapes Go.WideShapes Go.ChangeAt Go.RowKit

instance (a b : RecR) : Decidable (a = b) := decidable_of_iff (a.win = b.win ∧ a.idx = b.idx ∧ a.tim = b.tim ∧ a.pay = b.pay) ⟨fun ⟨h1, h2, h3, h4⟩ => by cases a; cases b; simp only at h1 h2 h3 h4; rw [h1, h2, h3, h4], fun h => by rw [h]; exact ⟨rfl, rfl, rfl, rfl⟩⟩
theorem tS_to (S : ByteArray) : (⟨S.toList.toArray⟩ : ByteArray) = S := by rw [Lib.toList_data]
theorem eql_rec (wa ia ta : Int) (pa : ByteArray) (wb ib tb : Int) (pb : ByteArray) (w : World) : (binOp .eql 25 (.agg #[.int .i64 wa, .int .i64 ia, .int .i64 ta, .string pa]) (.agg #[.int .i64 wb, .int .i64 ib, .int .i64 tb, .string pb])).run Try.prog w = .ok (.bool (decide ((⟨wa, ia, ta, pa⟩ : RecR) = ⟨wb, ib, tb, pb⟩))) w := by
  go_simp
  by_cases h1 : wa = wb <;> by_cases h2 : ia = ib <;> by_cases h3 : ta = tb <;> by_cases h4 : pa = pb <;> simp [h1, h2, h3, h4]
  exact fun e => h4 (by rw [← tS_to pa, ← tS_to pb, e])
theorem eql_bool (a b : Bool) (w : World) : (binOp .eql 4 (.bool a) (.bool b)).run Try.prog w = .ok (.bool (a == b)) w := by
  cases a <;> cases b <;> go_simp
/-- Bytes tell the record. -/
theorem bytes_one (wa ia ta : Int) (pa : ByteArray) (wb ib tb : Int) (pb : ByteArray) (ha : chkZ wa ia ta pa = 0) (hb : chkZ wb ib tb pb = 0) : decide (bytB wa ia ta pa = bytB wb ib tb pb) = decide ((⟨wa, ia, ta, pa⟩ : RecR) = ⟨wb, ib, tb, pb⟩) := by
  rw [decide_eq_decide]
  constructor
  · intro h
    rw [← (bytes_read wa ia ta pa ha).2, ← (bytes_read wb ib tb pb hb).2, h]
  · intro h
    injection h with h1 h2 h3 h4
    rw [h1, h2, h3, h4]
set_option maxHeartbeats 6400000 in
set_option maxRecDepth 100000 in
theorem walk {w : World} (win idx tim : Int) (pay : ByteArray) (_ha : RecOk ⟨win, idx, tim, pay⟩) (win' idx' tim' : Int) (pay' : ByteArray) (_hb : RecOk ⟨win', idx', tim', pay'⟩) :
    Calls Try.prog 5 #[.agg #[.int .i64 win, .int .i64 idx, .int .i64 tim, .string pay], .agg #[.int .i64 win', .int .i64 idx', .int .i64 tim', .string pay']] w fun e w' => e = .returned (.bool true) ∧ Below w.heap.size w w' := by
  have s1 := fun u => small_any win idx tim pay u
  have s2 := fun u => small_any win' idx' tim' pay' u
  have l1 := shortB_size pay 2010
  have l2 := shortB_size pay' 2010
  clear _ha _hb
  obtain ⟨p, hp⟩ : ∃ p, p = w.heap.size := ⟨_, rfl⟩
  obtain ⟨q, hq⟩ : ∃ q, q = p + 1 := ⟨_, rfl⟩
  obtain ⟨W, hW⟩ : ∃ W, W = w.alloc (.cells #[.int .i64 win, .int .i64 idx, .int .i64 tim, .string pay] 25) := ⟨_, rfl⟩
  obtain ⟨V, hV⟩ : ∃ V, V = W.alloc (.cells #[.int .i64 win', .int .i64 idx', .int .i64 tim', .string pay'] 25) := ⟨_, rfl⟩
  have g1 : RecAt p win idx tim pay W := by rw [hW, hp]; exact RecAt.alloc _ _ _ _ _
  have b1 : Below w.heap.size w W := by rw [hW]; exact below_box' _ _
  have b2 : Below W.heap.size W V := by rw [hV]; exact below_box' _ _
  have hWs : W.heap.size = q := by rw [hW, hq, hp]; simp
  have h1 := g1.old b2 g1.lt
  have h2 : RecAt q win' idx' tim' pay' V := by rw [hV, ← hWs]; exact RecAt.alloc _ _ _ _ _
  have hb := below_step b1 (Nat.le_refl _) b2
  have hpw : w.heap.size ≤ p := by omega
  have hqw : w.heap.size ≤ q := by omega
  have hpq : p < q := by omega
  have HW := Lib.hid hW
  have HV := Lib.hid hV
  have HP := Lib.hid hp
  have HQ := Lib.hid hq
  clear hW hV hp hq g1 b1 b2 hWs
  go_enter Try.func5, Try.ntmps5
  go_upto_region 1 with fail
  rw [← HW.out, ← HP.out, ← HV.out, ← HQ.out]
  clear HW HV HP HQ
  go_upto_region 2 with (go_at_call 8; ((with_reducible refine (awake15_any _).mono ?_); rintro e w1 ⟨rfl, b3⟩))
  replace h1 := h1.old b3 h1.lt
  replace h2 := h2.old b3 h2.lt
  replace hb := below_step hb (Nat.le_refl _) b3
  clear b3
  obtain ⟨P1, hP1⟩ : ∃ S, S = shortB pay 2010 := ⟨_, rfl⟩
  rw [← hP1] at s1 l1
  clear hP1
  have c0 := h1.c0
  have c1 := h1.c1
  have c2 := h1.c2
  have c3 := h1.c3
  go_upto_region 3 with (go_at_call 19; ((with_reducible refine (s1 _).mono ?_); rintro e wx ⟨rfl, bx⟩; have hx := h1.old bx h1.lt; have d0 := hx.c0; have d1 := hx.c1; have d2 := hx.c2; have d3 := hx.c3; have f0 := fz_of hx 0; have f1 := fz_of hx 1; have f2 := fz_of hx 2; have f3 := fz_of hx 3))
  obtain ⟨X1, hX1⟩ : ∃ u, u = (((wx.setCell ⟨p, 0, none⟩ (.int .i64 win)).setCell ⟨p, 1, none⟩ (.int .i64 idx)).setCell ⟨p, 2, none⟩ (.int .i64 tim)).setCell ⟨p, 3, none⟩ (.string P1) := ⟨_, rfl⟩
  change Code.wp _ _ _ _ ((((wx.setCell ⟨p, 0, none⟩ (.int .i64 win)).setCell ⟨p, 1, none⟩ (.int .i64 idx)).setCell ⟨p, 2, none⟩ (.int .i64 tim)).setCell ⟨p, 3, none⟩ (.string P1))
  rw [← hX1]
  have k1 : RecAt p win idx tim P1 X1 := by rw [hX1]; exact RecAt.set3 (RecAt.set2 (RecAt.set1 (RecAt.set0 hx _) _) _) _
  have ox : Only p wx X1 := by rw [hX1]; exact ((((Only.refl p wx).setCell 0 _).setCell 1 _).setCell 2 _).setCell 3 _
  have kk := (h2.old bx h2.lt).kept ox (by omega)
  have bb : Below w.heap.size w X1 := (below_step hb (Nat.le_refl _) bx).trans (ox.below (by omega) (by have := hb.size; have := bx.size; omega))
  clear hX1 ox hx bx d0 d1 d2 d3 f0 f1 f2 f3 c0 c1 c2 c3 hb h1 h2 s1
  have h1 := k1
  have h2 := kk
  have hb := bb
  clear k1 kk bb
  obtain ⟨P2, hP2⟩ : ∃ S, S = shortB pay' 2010 := ⟨_, rfl⟩
  rw [← hP2] at s2 l2
  clear hP2
  have c0 := h2.c0
  have c1 := h2.c1
  have c2 := h2.c2
  have c3 := h2.c3
  go_upto_region 4 with (go_at_call 19; ((with_reducible refine (s2 _).mono ?_); rintro e wx ⟨rfl, bx⟩; have hx := h2.old bx h2.lt; have d0 := hx.c0; have d1 := hx.c1; have d2 := hx.c2; have d3 := hx.c3; have f0 := fz_of hx 0; have f1 := fz_of hx 1; have f2 := fz_of hx 2; have f3 := fz_of hx 3))
  obtain ⟨X2, hX2⟩ : ∃ u, u = (((wx.setCell ⟨q, 0, none⟩ (.int .i64 win')).setCell ⟨q, 1, none⟩ (.int .i64 idx')).setCell ⟨q, 2, none⟩ (.int .i64 tim')).setCell ⟨q, 3, none⟩ (.string P2) := ⟨_, rfl⟩
  change Code.wp _ _ _ _ ((((wx.setCell ⟨q, 0, none⟩ (.int .i64 win')).setCell ⟨q, 1, none⟩ (.int .i64 idx')).setCell ⟨q, 2, none⟩ (.int .i64 tim')).setCell ⟨q, 3, none⟩ (.string P2))
  rw [← hX2]
  have k2 : RecAt q win' idx' tim' P2 X2 := by rw [hX2]; exact RecAt.set3 (RecAt.set2 (RecAt.set1 (RecAt.set0 hx _) _) _) _
  have ox : Only q wx X2 := by rw [hX2]; exact ((((Only.refl q wx).setCell 0 _).setCell 1 _).setCell 2 _).setCell 3 _
  have kk := (h1.old bx h1.lt).kept ox (by omega)
  have bb : Below w.heap.size w X2 := (below_step hb (Nat.le_refl _) bx).trans (ox.below (by omega) (by have := hb.size; have := bx.size; omega))
  clear hX2 ox hx bx d0 d1 d2 d3 f0 f1 f2 f3 c0 c1 c2 c3 hb h2 h1 s2
  have h2 := k2
  have h1 := kk
  have hb := bb
  clear k2 kk bb
  have q1 := fun u => recBytes_any win idx tim P1 u (by omega)
  have q2 := fun u => recBytes_any win' idx' tim' P2 u (by omega)
  have c0 := h1.c0
  have c1 := h1.c1
  have c2 := h1.c2
  have c3 := h1.c3
  go_upto_region 5 with (go_at_call 20; ((with_reducible refine (q1 _).mono ?_); rintro e w4 ⟨rfl, b4⟩))
  replace h1 := h1.old b4 h1.lt
  replace h2 := h2.old b4 h2.lt
  replace hb := below_step hb (Nat.le_refl _) b4
  clear b4 c0 c1 c2 c3 q1
  have c0 := h2.c0
  have c1 := h2.c1
  have c2 := h2.c2
  have c3 := h2.c3
  go_upto_region 6 with (go_at_call 20; ((with_reducible refine (q2 _).mono ?_); rintro e w5 ⟨rfl, b5⟩))
  replace h1 := h1.old b5 h1.lt
  replace h2 := h2.old b5 h2.lt
  replace hb := below_step hb (Nat.le_refl _) b5
  clear b5 c0 c1 c2 c3 q2
  by_cases z1 : chkZ win idx tim P1 = 0
  · by_cases z2 : chkZ win' idx' tim' P2 = 0
    · have HST : Hid (decide (bytB win idx tim P1 = bytB win' idx' tim' P2) = decide ((⟨win, idx, tim, P1⟩ : RecR) = ⟨win', idx', tim', P2⟩)) := Lib.hid (bytes_one _ _ _ _ _ _ _ _ z1 z2)
      rw [show bytV win idx tim P1 = bytB win idx tim P1 from if_pos z1, show bytV win' idx' tim' P2 = bytB win' idx' tim' P2 from if_pos z2, z1, z2]
      generalize bytB win idx tim P1 = S at *
      generalize bytB win' idx' tim' P2 = T at *
      clear z1 z2
      go_upto_region 8 with fail
      try simp only [Act.put]
      refine wp_region_tab0 [RT.is (.bool true), RT.is (.bool true), RT.is (.string S), RT.is (.string T), RT.is (.bool (decide (S = T))), RT.is (.agg #[.int .i64 win, .int .i64 idx, .int .i64 tim, .string P1]), RT.is (.agg #[.int .i64 win', .int .i64 idx', .int .i64 tim', .string P2]), RT.is (.bool (decide ((⟨win, idx, tim, P1⟩ : RecR) = ⟨win', idx', tim', P2⟩))), RT.is (.bool true), RT.is (.bool true), RT.is (.bool true)] (by kernel_rfl) (by kernel_rfl) (by kernel_rfl) ⟨?_, ?_, ?_, ?_, ?_, ?_, ?_, ?_, ?_, ?_, ?_, trivial⟩ ?_
      · intro ac w' hF hL hP hU K hK
        have hB : Below _ _ _ := hL
        have e5 : ac.eval (.tmp 5) = .bool true := hF.at 5 (by kernel_rfl)
        exact rop_move _ rfl e5 (wanted_none rfl) (hK _ _ (le8_refl _) rfl)
      · intro ac w' hF hL hP hU K hK
        have hB : Below _ _ _ := hL
        have e48 : ac.eval (.tmp 48) = .bool true := hP 0 (by kernel_rfl)
        exact rop_move _ rfl e48 (wanted_none rfl) (hK _ _ (le8_refl _) rfl)
      · intro ac w' hF hL hP hU K hK
        have hB : Below _ _ _ := hL
        have e6 : ac.eval (.tmp 6) = .string S := hF.at 6 (by kernel_rfl)
        have e49 : ac.eval (.tmp 49) = .bool true := hP 1 (by kernel_rfl)
        exact rop_move _ rfl e6 (wanted_of (j := 1) (b := true) rfl rfl e49) (hK _ _ (le8_refl _) rfl)
      · intro ac w' hF hL hP hU K hK
        have hB : Below _ _ _ := hL
        have e8 : ac.eval (.tmp 8) = .string T := hF.at 8 (by kernel_rfl)
        have e49 : ac.eval (.tmp 49) = .bool true := hP 1 (by kernel_rfl)
        exact rop_move _ rfl e8 (wanted_of (j := 1) (b := true) rfl rfl e49) (hK _ _ (le8_refl _) rfl)
      · intro ac w' hF hL hP hU K hK
        have hB : Below _ _ _ := hL
        have e50 : ac.eval (.tmp 50) = .string S := hP 2 (by kernel_rfl)
        have e51 : ac.eval (.tmp 51) = .string T := hP 3 (by kernel_rfl)
        have e49 : ac.eval (.tmp 49) = .bool true := hP 1 (by kernel_rfl)
        exact rop_bin _ _ _ _ _ rfl e50 e51 (guard_str _ _ _ _ _ _ w') (eql_str _ _ w') (wanted_of (j := 1) (b := true) rfl rfl e49) (hK _ _ (le8_refl _) rfl)
      · intro ac w' hF hL hP hU K hK
        have hB : Below _ _ _ := hL
        have e2 : ac.eval (.tmp 2) = .pointer (some ⟨p, 0, none⟩) := hF.at 2 (by kernel_rfl)
        have e49 : ac.eval (.tmp 49) = .bool true := hP 1 (by kernel_rfl)
        exact rop_ld _ _ rfl e2 ((h1.old hB h1.lt).load) (wanted_of (j := 1) (b := true) rfl rfl e49) (hK _ _ (le8_refl _) rfl)
      · intro ac w' hF hL hP hU K hK
        have hB : Below _ _ _ := hL
        have e3 : ac.eval (.tmp 3) = .pointer (some ⟨q, 0, none⟩) := hF.at 3 (by kernel_rfl)
        have e49 : ac.eval (.tmp 49) = .bool true := hP 1 (by kernel_rfl)
        exact rop_ld _ _ rfl e3 ((h2.old hB h2.lt).load) (wanted_of (j := 1) (b := true) rfl rfl e49) (hK _ _ (le8_refl _) rfl)
      · intro ac w' hF hL hP hU K hK
        have hB : Below _ _ _ := hL
        have e53 : ac.eval (.tmp 53) = .agg #[.int .i64 win, .int .i64 idx, .int .i64 tim, .string P1] := hP 5 (by kernel_rfl)
        have e54 : ac.eval (.tmp 54) = .agg #[.int .i64 win', .int .i64 idx', .int .i64 tim', .string P2] := hP 6 (by kernel_rfl)
        have e49 : ac.eval (.tmp 49) = .bool true := hP 1 (by kernel_rfl)
        exact rop_bin _ _ _ _ _ rfl e53 e54 (guard_rec _ _ _ _ _ w') (eql_rec _ _ _ _ _ _ _ _ w') (wanted_of (j := 1) (b := true) rfl rfl e49) (hK _ _ (le8_refl _) rfl)
      · intro ac w' hF hL hP hU K hK
        have hB : Below _ _ _ := hL
        have e52 : ac.eval (.tmp 52) = .bool (decide (S = T)) := hP 4 (by kernel_rfl)
        have e55 : ac.eval (.tmp 55) = .bool (decide ((⟨win, idx, tim, P1⟩ : RecR) = ⟨win', idx', tim', P2⟩)) := hP 7 (by kernel_rfl)
        have e49 : ac.eval (.tmp 49) = .bool true := hP 1 (by kernel_rfl)
        exact rop_bin _ _ _ _ _ rfl e52 e55 (guard_bool _ _ _ _ _ _ w') ((eql_bool _ _ w').trans (by rw [HST.out]; simp)) (wanted_of (j := 1) (b := true) rfl rfl e49) (hK _ _ (le8_refl _) rfl)
      · intro ac w' hF hL hP hU K hK
        have hB : Below _ _ _ := hL
        have e49 : ac.eval (.tmp 49) = .bool true := hP 1 (by kernel_rfl)
        have e56 : ac.eval (.tmp 56) = .bool true := hP 8 (by kernel_rfl)
        exact rop_pick _ _ _ rfl true e49 (by simpa using e56) (wanted_none rfl) (hK _ _ (le8_refl _) rfl)
      · intro ac w' hF hL hP hU K hK
        have hB : Below _ _ _ := hL
        have e57 : ac.eval (.tmp 57) = .bool true := hP 9 (by kernel_rfl)
        exact rop_assign _ rfl e57 (wanted_none rfl) (hK _ _ (le8_refl _) rfl)
      · intro ac w' hF hB hT
        have e4 : ac.eval (.tmp 4) = .bool true := hT 10 (by decide)
        rw [hF.setsG [48, 49, 50, 51, 52, 53, 54, 55, 56, 57, 4] (by kernel_rfl)]
        simp only [List.foldl_cons, List.foldl_nil, List.setIfInBounds_toArray, List.set_cons_succ, List.set_cons_zero, e4]
        generalize ac.eval (.tmp 48) = u48
        generalize ac.eval (.tmp 49) = u49
        generalize ac.eval (.tmp 50) = u50
        generalize ac.eval (.tmp 51) = u51
        generalize ac.eval (.tmp 52) = u52
        generalize ac.eval (.tmp 53) = u53
        generalize ac.eval (.tmp 54) = u54
        generalize ac.eval (.tmp 55) = u55
        generalize ac.eval (.tmp 56) = u56
        generalize ac.eval (.tmp 57) = u57
        clear e4 hT hF ac
        have hbw := below_step hb (Nat.le_refl _) hB
        clear hB
        go_wp2
        go_ret
        exact ⟨rfl, hbw⟩
    · rw [show bytV win' idx' tim' P2 = ⟨#[]⟩ from if_neg z2, z1]
      generalize chkZ win' idx' tim' P2 = Z at *
      generalize bytV win idx tim P1 = S at *
      clear z1
      go_wp2
      go_ret
      exact ⟨rfl, hb⟩
  · rw [show bytV win idx tim P1 = ⟨#[]⟩ from if_neg z1]
    generalize chkZ win idx tim P1 = Y at *
    by_cases z2 : chkZ win' idx' tim' P2 = 0
    · rw [z2]
      generalize bytV win' idx' tim' P2 = S at *
      clear z2
      go_wp2
      go_ret
      exact ⟨rfl, hb⟩
    · rw [show bytV win' idx' tim' P2 = ⟨#[]⟩ from if_neg z2]
      generalize chkZ win' idx' tim' P2 = Z at *
      go_wp2
      go_ret
      exact ⟨rfl, hb⟩

set_option maxRecDepth 100000 in
theorem lifted (os : Os) (started : os.Started) (H : Type) (enc : TypeId × Value → H) :
    ReturnsInHanded {} Try.checked os 5 .any (Rows.recordOneSpec.pre6 enc Try.prog Try.f5 Rows.recordOneRow.domain false) (Rows.recordOneSpec.post enc Try.prog Try.f5 false true false false) := by
  refine returnsInHanded_of_change (C := Try.checked) lawOwn started (by kernel_rfl) Try.func5
    (ChangeSpec.witness6 (enc := enc) (C := Try.checked) false ⟨#[], #[.agg #[.int .i64 0, .int .i64 0, .int .i64 0, .string .empty], .agg #[.int .i64 0, .int .i64 0, .int .i64 0, .string .empty]], []⟩ 8 (by kernel_rfl) (by kernel_rfl) (by kernel_rfl) (by kernel_rfl)) ?_
  intro W base args ds gs before hval0 hW hcnd _
  have hval : ∀ (j : Nat) t v, Try.f5.params[j]? = some t → args[j]? = some v → Value.okWide Try.prog W .any base t v := hval0
  have hW' := hW
  obtain ⟨p, q, hA0, hV, rfl, hfz, hnd⟩ := hW
  have hA : DataW.TrodAll enc Try.prog W 0 (fun _ => true) true Try.f5.params.toList args.toList ds p := hA0
  rw [Try.params5] at hA hval
  obtain ⟨v0, vs0, d0, ds0, p0, q0, hargs, rfl, rfl, h0, r0⟩ := trodAll_cons hA
  obtain ⟨v1, vs1, d1, ds1, p1, q1, rfl, rfl, rfl, h1, r1⟩ := trodAll_cons r0
  obtain ⟨rfl, rfl, rfl⟩ := trodAll_nil r1
  obtain rfl : args = #[v0, v1] := by cases args; simp_all
  obtain ⟨rfl, rfl⟩ := trodVars_none hV
  obtain ⟨win0, idx0, tim0, pay0, rfl, w0⟩ := rec_arg (hval 0 25 v0 rfl rfl) h0
  obtain ⟨win1, idx1, tim1, pay1, rfl, w1⟩ := rec_arg (hval 1 25 v1 rfl rfl) h1
  clear hA0 hval0 hcnd
  refine (walk (w := W) win0 idx0 tim0 pay0 w0 win1 idx1 tim1 pay1 w1).mono fun e W' ⟨he, bel⟩ => ?_
  subst he
  exact ⟨_, rfl, law_post rfl rfl (by kernel_rfl) hW' rfl bel⟩

theorem holds : Rows.RecordOneSaid :=
  OpenClaim.holds_of_wide 5 Try.f5 rfl rfl rfl rfl rfl rfl rfl ⟨rfl, rfl, rfl, rfl, rfl⟩ rfl rfl rfl rfl rfl (by kernel_rfl) Try.func5 (by kernel_rfl)
    (of_decide_eq_true (by kernel_rfl)) (by unfold Func.isWrapper; first | (rw [if_pos (by decide +kernel)]; kernel_rfl) | (rw [if_neg (by decide +kernel)]; exact ⟨rfl, rfl⟩))
    (fun os started H enc _ => lifted os started H enc)
end Go.Proofs.Ytbhalioajekfcaa.recordOne

theorem Go.Proofs.Ytbhalioajekfcaa.recordOne_holds : Go.Proofs.Ytbhalioajekfcaa.Rows.RecordOneSaid := Go.Proofs.Ytbhalioajekfcaa.recordOne.holds
#print axioms Go.Proofs.Ytbhalioajekfcaa.recordOne_holds
