/-
  The document's own Join.
-/
import Derived.Test.YtlbnopfbfnobnaaExtRefB
import Derived.Test.YtlbnopfbfnobnaaExtJoin
namespace Go.Proofs.Ytlbnopfbfnobnaa
open Go.RowKit Ext

theorem store_int {b o : Nat} {x y : Int} {w : World} (h0 : w.cell? ⟨b, o, none⟩ = some (.int .i64 y)) (hf : w.frozen? ⟨b, o, none⟩ = false) : (Instr.storeAt 3 (.pointer (some ⟨b, o, none⟩)) (.int .i64 x)).run Try.prog w = .ok () (w.setCell ⟨b, o, none⟩ (.int .i64 x)) := by
  go_simp
theorem rop_store {ops : Array Oper} {Q : Exit → Act → World → Prop} {a : Act} {w w' : World} {K : Act → World → Prop} {o : Oper} (t : TypeId) (x y : Operand) (hop : o.op = .store t x y) {u v : Value} (hx : a.eval x = u) (hy : a.eval y = v) (hr : (Instr.storeAt t u v).run Try.prog w = .ok () w') (hw : Region.wanted o (yielded ops a.tmps) = true) (h : K (a.put o.dst undef) w') :
    if Region.wanted o (yielded ops a.tmps) = true then Oper.wp Try.prog o a w K Q else K (a.put o.dst undef) w := by
  rw [if_pos hw]
  unfold Oper.wp
  simp [execOp, hop, hx, hy, hr]
  exact h
/-- The last run of a slice of the call's own gets another number of sectors. -/
theorem Own.last {B g capo : Nat} {w : World} {a : List Rn} {kk : Nat} {z : Int} (h : Own B w (.slice (some ⟨g, 0, none⟩) a.length capo) a) (hk : kk + 1 = a.length) (x m : Int) (hx : a[kk]'(by omega) = (x, m)) (hz : okR (x, z)) :
    Own B (w.setCell ⟨g, 0 + kk * 2 + 1, none⟩ (.int .i64 z)) (.slice (some ⟨g, 0, none⟩) a.length capo) (a.take kk ++ [(x, z)]) ∧ B ≤ g := by
  obtain ⟨h1, h2⟩ := h
  have hl : (a.take kk ++ [(x, z)]).length = a.length := by simp; omega
  have e1 : a = a.take kk ++ [(x, m)] := by
    have := List.take_succ_eq_append_getElem (l := a) (i := kk) (by omega)
    rw [hk, List.take_of_length_le (Nat.le_refl _), hx] at this
    exact this
  refine ⟨⟨?_, fun r hr => ?_⟩, (World.ownsRow.lt h1 g rfl).1⟩
  · have h3 := (World.ownsRow.stored h1 (0 + kk * 2 + 1) (.int .i64 z)).1
    rw [hl]
    have e2 : (rc a).set (0 + kk * 2 + 1) (.int .i64 z) = rc (a.take kk ++ [(x, z)]) := by
      rw [e1, rc_append, rc_append]
      have hlk : (rc (a.take kk)).length = kk * 2 := by rw [rc_length, List.length_take]; omega
      rw [List.take_left' (by rw [List.length_take]; omega), List.set_append_right _ _ (by rw [hlk]; omega), hlk]
      rw [show 0 + kk * 2 + 1 - kk * 2 = 1 by omega]
      rfl
    rw [e2] at h3
    exact h3
  · rcases List.mem_append.1 hr with hr | hr
    · exact h2 r (List.mem_of_mem_take hr)
    · simp at hr; subst hr; exact hz
set_option maxHeartbeats 6400000 in
set_option maxRecDepth 100000 in
theorem rjoin_any (va vb : Value) (a b : List Rn) (w : World) (ha : Runs w va a) (hb : Runs w vb b) (hfa : fileB a = true) (hfb : fileB b = true) (hla : a.length ≤ 1000) (hlb : b.length ≤ 1000) :
    Calls Try.prog 23 #[va, vb] w fun e w' => ∃ v', e = .returned v' ∧ Runs w' v' (jn a b) ∧ Below w.heap.size w w' := by
  obtain ⟨xa, capa, rfl, hca, hca'⟩ := ha.slice
  obtain ⟨xb, capb, rfl, hcb, hcb'⟩ := hb.slice
  obtain ⟨v1, w1, hr1, ho1, b1⟩ := append_own (B := w.heap.size) 22 (Own.nil w.heap.size w) ha (Nat.le_refl _) (by simp; omega)
  rw [List.nil_append] at ho1
  have HR1 := Lib.hid hr1
  clear hr1
  go_enter Try.func23, Try.ntmps23
  go_upto_region 3 with (at_builtin; refine Lib.wpList_append_run _ rfl _ _ _ _ rfl _ _ rfl rfl _ _ HR1.out ?_)
  have ha0 := ha
  have hb0 := hb
  replace ha := ha.old b1
  replace hb := hb.old b1
  clear HR1
  by_cases hA : a.length = 0
  ·
    try simp only [Act.put]
    refine wp_region_tab [RT.is (.slice xa a.length capa), RT.is (.int .i64 (a.length : Int)), RT.is (.bool false), RT.is (.bool false), RT.any, RT.any, RT.any, RT.is (.bool false), RT.is (.bool false), RT.any, RT.any, RT.any, RT.any, RT.any, RT.any, RT.any, RT.any, RT.any, RT.any, RT.any, RT.any, RT.any, RT.any, RT.any, RT.any, RT.any, RT.any, RT.any, RT.any, RT.is (.bool false)] (by kernel_rfl) (by kernel_rfl) (by kernel_rfl) (by kernel_rfl) ⟨?_, ?_, ?_, ?_, ?_, ?_, ?_, ?_, ?_, ?_, ?_, ?_, ?_, ?_, ?_, ?_, ?_, ?_, ?_, ?_, ?_, ?_, ?_, ?_, ?_, ?_, ?_, ?_, ?_, ?_, trivial⟩ ?_
    · intro ac w' hF hL hP hU K hK
      have hB := below_undrew hL
      have e0 : ac.eval (.tmp 0) = .slice xa a.length capa := hF.at 0 (by kernel_rfl)
      exact rop_move _ rfl e0 (wanted_none rfl) (hK _ _ (le8_refl _) rfl)
    · intro ac w' hF hL hP hU K hK
      have hB := below_undrew hL
      have e9 : ac.eval (.tmp 9) = .slice xa a.length capa := hP 0 (by kernel_rfl)
      exact rop_len_sl _ rfl e9 (wanted_none rfl) (hK _ _ (le8_refl _) rfl)
    · intro ac w' hF hL hP hU K hK
      have hB := below_undrew hL
      have e10 : ac.eval (.tmp 10) = .int .i64 (a.length : Int) := hP 1 (by kernel_rfl)
      exact rop_bin _ _ _ _ _ rfl e10 rfl (guard_int _ _ _ _ _ _ _ w') (gtr_i _ _ _ (by rw [decide_eq_false_iff_not]; omega) w') (wanted_none rfl) (hK _ _ (le8_refl _) rfl)
    · intro ac w' hF hL hP hU K hK
      have hB := below_undrew hL
      have e11 : ac.eval (.tmp 11) = .bool false := hP 2 (by kernel_rfl)
      exact rop_move _ rfl e11 (wanted_none rfl) (hK _ _ (le8_refl _) rfl)
    · intro ac w' hF hL hP hU K hK
      have hB := below_undrew hL
      have e12 : ac.eval (.tmp 12) = .bool false := hP 3 (by kernel_rfl)
      exact rop_off (j := 3) (b := true) rfl rfl e12 (by decide) (hK _ _ (le8_refl _) trivial)
    · intro ac w' hF hL hP hU K hK
      have hB := below_undrew hL
      have e12 : ac.eval (.tmp 12) = .bool false := hP 3 (by kernel_rfl)
      exact rop_off (j := 3) (b := true) rfl rfl e12 (by decide) (hK _ _ (le8_refl _) trivial)
    · intro ac w' hF hL hP hU K hK
      have hB := below_undrew hL
      have e12 : ac.eval (.tmp 12) = .bool false := hP 3 (by kernel_rfl)
      exact rop_off (j := 3) (b := true) rfl rfl e12 (by decide) (hK _ _ (le8_refl _) trivial)
    · intro ac w' hF hL hP hU K hK
      have hB := below_undrew hL
      have e12 : ac.eval (.tmp 12) = .bool false := hP 3 (by kernel_rfl)
      exact rop_pick _ _ _ rfl false e12 (by rfl) (wanted_none rfl) (hK _ _ (le8_refl _) rfl)
    · intro ac w' hF hL hP hU K hK
      have hB := below_undrew hL
      have e16 : ac.eval (.tmp 16) = .bool false := hP 7 (by kernel_rfl)
      exact rop_move _ rfl e16 (wanted_none rfl) (hK _ _ (le8_refl _) rfl)
    · intro ac w' hF hL hP hU K hK
      have hB := below_undrew hL
      have e17 : ac.eval (.tmp 17) = .bool false := hP 8 (by kernel_rfl)
      exact rop_off (j := 8) (b := true) rfl rfl e17 (by decide) (hK _ _ (le8_refl _) trivial)
    · intro ac w' hF hL hP hU K hK
      have hB := below_undrew hL
      have e17 : ac.eval (.tmp 17) = .bool false := hP 8 (by kernel_rfl)
      exact rop_off (j := 8) (b := true) rfl rfl e17 (by decide) (hK _ _ (le8_refl _) trivial)
    · intro ac w' hF hL hP hU K hK
      have hB := below_undrew hL
      have e17 : ac.eval (.tmp 17) = .bool false := hP 8 (by kernel_rfl)
      exact rop_off (j := 8) (b := true) rfl rfl e17 (by decide) (hK _ _ (le8_refl _) trivial)
    · intro ac w' hF hL hP hU K hK
      have hB := below_undrew hL
      have e17 : ac.eval (.tmp 17) = .bool false := hP 8 (by kernel_rfl)
      exact rop_off (j := 8) (b := true) rfl rfl e17 (by decide) (hK _ _ (le8_refl _) trivial)
    · intro ac w' hF hL hP hU K hK
      have hB := below_undrew hL
      have e17 : ac.eval (.tmp 17) = .bool false := hP 8 (by kernel_rfl)
      exact rop_off (j := 8) (b := true) rfl rfl e17 (by decide) (hK _ _ (le8_refl _) trivial)
    · intro ac w' hF hL hP hU K hK
      have hB := below_undrew hL
      have e17 : ac.eval (.tmp 17) = .bool false := hP 8 (by kernel_rfl)
      exact rop_off (j := 8) (b := true) rfl rfl e17 (by decide) (hK _ _ (le8_refl _) trivial)
    · intro ac w' hF hL hP hU K hK
      have hB := below_undrew hL
      have e17 : ac.eval (.tmp 17) = .bool false := hP 8 (by kernel_rfl)
      exact rop_off (j := 8) (b := true) rfl rfl e17 (by decide) (hK _ _ (le8_refl _) trivial)
    · intro ac w' hF hL hP hU K hK
      have hB := below_undrew hL
      have e17 : ac.eval (.tmp 17) = .bool false := hP 8 (by kernel_rfl)
      exact rop_off (j := 8) (b := true) rfl rfl e17 (by decide) (hK _ _ (le8_refl _) trivial)
    · intro ac w' hF hL hP hU K hK
      have hB := below_undrew hL
      have e17 : ac.eval (.tmp 17) = .bool false := hP 8 (by kernel_rfl)
      exact rop_off (j := 8) (b := true) rfl rfl e17 (by decide) (hK _ _ (le8_refl _) trivial)
    · intro ac w' hF hL hP hU K hK
      have hB := below_undrew hL
      have e17 : ac.eval (.tmp 17) = .bool false := hP 8 (by kernel_rfl)
      exact rop_off (j := 8) (b := true) rfl rfl e17 (by decide) (hK _ _ (le8_refl _) trivial)
    · intro ac w' hF hL hP hU K hK
      have hB := below_undrew hL
      have e17 : ac.eval (.tmp 17) = .bool false := hP 8 (by kernel_rfl)
      exact rop_off (j := 8) (b := true) rfl rfl e17 (by decide) (hK _ _ (le8_refl _) trivial)
    · intro ac w' hF hL hP hU K hK
      have hB := below_undrew hL
      have e17 : ac.eval (.tmp 17) = .bool false := hP 8 (by kernel_rfl)
      exact rop_off (j := 8) (b := true) rfl rfl e17 (by decide) (hK _ _ (le8_refl _) trivial)
    · intro ac w' hF hL hP hU K hK
      have hB := below_undrew hL
      have e17 : ac.eval (.tmp 17) = .bool false := hP 8 (by kernel_rfl)
      exact rop_off (j := 8) (b := true) rfl rfl e17 (by decide) (hK _ _ (le8_refl _) trivial)
    · intro ac w' hF hL hP hU K hK
      have hB := below_undrew hL
      have e17 : ac.eval (.tmp 17) = .bool false := hP 8 (by kernel_rfl)
      exact rop_off (j := 8) (b := true) rfl rfl e17 (by decide) (hK _ _ (le8_refl _) trivial)
    · intro ac w' hF hL hP hU K hK
      have hB := below_undrew hL
      have e17 : ac.eval (.tmp 17) = .bool false := hP 8 (by kernel_rfl)
      exact rop_off (j := 8) (b := true) rfl rfl e17 (by decide) (hK _ _ (le8_refl _) trivial)
    · intro ac w' hF hL hP hU K hK
      have hB := below_undrew hL
      have e17 : ac.eval (.tmp 17) = .bool false := hP 8 (by kernel_rfl)
      exact rop_off (j := 8) (b := true) rfl rfl e17 (by decide) (hK _ _ (le8_refl _) trivial)
    · intro ac w' hF hL hP hU K hK
      have hB := below_undrew hL
      have e17 : ac.eval (.tmp 17) = .bool false := hP 8 (by kernel_rfl)
      exact rop_off (j := 8) (b := true) rfl rfl e17 (by decide) (hK _ _ (le8_refl _) trivial)
    · intro ac w' hF hL hP hU K hK
      have hB := below_undrew hL
      have e17 : ac.eval (.tmp 17) = .bool false := hP 8 (by kernel_rfl)
      exact rop_off (j := 8) (b := true) rfl rfl e17 (by decide) (hK _ _ (le8_refl _) trivial)
    · intro ac w' hF hL hP hU K hK
      have hB := below_undrew hL
      have e17 : ac.eval (.tmp 17) = .bool false := hP 8 (by kernel_rfl)
      exact rop_off (j := 8) (b := true) rfl rfl e17 (by decide) (hK _ _ (le8_refl _) trivial)
    · intro ac w' hF hL hP hU K hK
      have hB := below_undrew hL
      have e17 : ac.eval (.tmp 17) = .bool false := hP 8 (by kernel_rfl)
      exact rop_off (j := 8) (b := true) rfl rfl e17 (by decide) (hK _ _ (le8_refl _) trivial)
    · intro ac w' hF hL hP hU K hK
      have hB := below_undrew hL
      have e17 : ac.eval (.tmp 17) = .bool false := hP 8 (by kernel_rfl)
      exact rop_pick _ _ _ rfl false e17 (by rfl) (wanted_none rfl) (hK _ _ (le8_refl _) rfl)
    · intro ac w' hF hB hT
      have e38 : ac.eval (.tmp 38) = .bool false := hT 29 (by decide)
      rw [hF.lit 64 rfl]
      simp only [List.range, List.range.loop, List.map_cons, List.map_nil, e38, hF.at 0 (by kernel_rfl), hF.at 1 (by kernel_rfl), hF.at 2 (by kernel_rfl), hF.at 3 (by kernel_rfl), hF.at 4 (by kernel_rfl), hF.at 5 (by kernel_rfl), hF.at 6 (by kernel_rfl), hF.at 7 (by kernel_rfl), hF.at 8 (by kernel_rfl), hF.at 39 (by kernel_rfl), hF.at 40 (by kernel_rfl), hF.at 41 (by kernel_rfl), hF.at 42 (by kernel_rfl), hF.at 43 (by kernel_rfl), hF.at 44 (by kernel_rfl), hF.at 45 (by kernel_rfl), hF.at 46 (by kernel_rfl), hF.at 47 (by kernel_rfl), hF.at 48 (by kernel_rfl), hF.at 49 (by kernel_rfl), hF.at 50 (by kernel_rfl), hF.at 51 (by kernel_rfl), hF.at 52 (by kernel_rfl), hF.at 53 (by kernel_rfl), hF.at 54 (by kernel_rfl), hF.at 55 (by kernel_rfl), hF.at 56 (by kernel_rfl), hF.at 57 (by kernel_rfl), hF.at 58 (by kernel_rfl), hF.at 59 (by kernel_rfl), hF.at 60 (by kernel_rfl), hF.at 61 (by kernel_rfl), hF.at 62 (by kernel_rfl), hF.at 63 (by kernel_rfl)]
      generalize ac.eval (.tmp 9) = u9
      generalize ac.eval (.tmp 10) = u10
      generalize ac.eval (.tmp 11) = u11
      generalize ac.eval (.tmp 12) = u12
      generalize ac.eval (.tmp 13) = u13
      generalize ac.eval (.tmp 14) = u14
      generalize ac.eval (.tmp 15) = u15
      generalize ac.eval (.tmp 16) = u16
      generalize ac.eval (.tmp 17) = u17
      generalize ac.eval (.tmp 18) = u18
      generalize ac.eval (.tmp 19) = u19
      generalize ac.eval (.tmp 20) = u20
      generalize ac.eval (.tmp 21) = u21
      generalize ac.eval (.tmp 22) = u22
      generalize ac.eval (.tmp 23) = u23
      generalize ac.eval (.tmp 24) = u24
      generalize ac.eval (.tmp 25) = u25
      generalize ac.eval (.tmp 26) = u26
      generalize ac.eval (.tmp 27) = u27
      generalize ac.eval (.tmp 28) = u28
      generalize ac.eval (.tmp 29) = u29
      generalize ac.eval (.tmp 30) = u30
      generalize ac.eval (.tmp 31) = u31
      generalize ac.eval (.tmp 32) = u32
      generalize ac.eval (.tmp 33) = u33
      generalize ac.eval (.tmp 34) = u34
      generalize ac.eval (.tmp 35) = u35
      generalize ac.eval (.tmp 36) = u36
      generalize ac.eval (.tmp 37) = u37
      simp only [Act.eval, Array.getD_eq_getD_getElem?, List.getElem?_toArray, List.getElem?_cons_succ, List.getElem?_cons_zero, Option.getD_some]
      clear e38 hT hF ac
      have HA := Lib.hid (List.eq_nil_of_length_eq_zero hA)
      clear hA
      replace ho1 := ho1.kept hB
      replace hb := hb.old hB
      obtain ⟨v4, w4, hr4, ho4, b4⟩ := append_own (B := w.heap.size) 22 ho1 hb (by have := b1.size; have := hB.size; omega) (by omega)
      have HR4 := Lib.hid hr4
      clear hr4
      have hb1 := b1.trans (hB.mono b1.size)
      clear hB
      go_wp2_with (at_builtin; refine Lib.wpList_append_run _ rfl _ _ _ _ rfl _ _ rfl rfl _ _ HR4.out ?_)
      go_ret
      refine ⟨v4, rfl, ?_, hb1.trans b4⟩
      have hA' := HA.out
      subst hA'
      exact ho4.runs
  · by_cases hBe : b.length = 0
    ·
      try simp only [Act.put]
      refine wp_region_tab [RT.is (.slice xa a.length capa), RT.is (.int .i64 (a.length : Int)), RT.is (.bool true), RT.is (.bool true), RT.is (.slice xb b.length capb), RT.is (.int .i64 (b.length : Int)), RT.is (.bool false), RT.is (.bool false), RT.is (.bool false), RT.any, RT.any, RT.any, RT.any, RT.any, RT.any, RT.any, RT.any, RT.any, RT.any, RT.any, RT.any, RT.any, RT.any, RT.any, RT.any, RT.any, RT.any, RT.any, RT.any, RT.is (.bool false)] (by kernel_rfl) (by kernel_rfl) (by kernel_rfl) (by kernel_rfl) ⟨?_, ?_, ?_, ?_, ?_, ?_, ?_, ?_, ?_, ?_, ?_, ?_, ?_, ?_, ?_, ?_, ?_, ?_, ?_, ?_, ?_, ?_, ?_, ?_, ?_, ?_, ?_, ?_, ?_, ?_, trivial⟩ ?_
      · intro ac w' hF hL hP hU K hK
        have hB := below_undrew hL
        have e0 : ac.eval (.tmp 0) = .slice xa a.length capa := hF.at 0 (by kernel_rfl)
        exact rop_move _ rfl e0 (wanted_none rfl) (hK _ _ (le8_refl _) rfl)
      · intro ac w' hF hL hP hU K hK
        have hB := below_undrew hL
        have e9 : ac.eval (.tmp 9) = .slice xa a.length capa := hP 0 (by kernel_rfl)
        exact rop_len_sl _ rfl e9 (wanted_none rfl) (hK _ _ (le8_refl _) rfl)
      · intro ac w' hF hL hP hU K hK
        have hB := below_undrew hL
        have e10 : ac.eval (.tmp 10) = .int .i64 (a.length : Int) := hP 1 (by kernel_rfl)
        exact rop_bin _ _ _ _ _ rfl e10 rfl (guard_int _ _ _ _ _ _ _ w') (gtr_i _ _ _ (by rw [decide_eq_true_iff]; omega) w') (wanted_none rfl) (hK _ _ (le8_refl _) rfl)
      · intro ac w' hF hL hP hU K hK
        have hB := below_undrew hL
        have e11 : ac.eval (.tmp 11) = .bool true := hP 2 (by kernel_rfl)
        exact rop_move _ rfl e11 (wanted_none rfl) (hK _ _ (le8_refl _) rfl)
      · intro ac w' hF hL hP hU K hK
        have hB := below_undrew hL
        have e1 : ac.eval (.tmp 1) = .slice xb b.length capb := hF.at 1 (by kernel_rfl)
        have e12 : ac.eval (.tmp 12) = .bool true := hP 3 (by kernel_rfl)
        exact rop_move _ rfl e1 (wanted_of (j := 3) (b := true) rfl rfl e12) (hK _ _ (le8_refl _) rfl)
      · intro ac w' hF hL hP hU K hK
        have hB := below_undrew hL
        have e13 : ac.eval (.tmp 13) = .slice xb b.length capb := hP 4 (by kernel_rfl)
        have e12 : ac.eval (.tmp 12) = .bool true := hP 3 (by kernel_rfl)
        exact rop_len_sl _ rfl e13 (wanted_of (j := 3) (b := true) rfl rfl e12) (hK _ _ (le8_refl _) rfl)
      · intro ac w' hF hL hP hU K hK
        have hB := below_undrew hL
        have e14 : ac.eval (.tmp 14) = .int .i64 (b.length : Int) := hP 5 (by kernel_rfl)
        have e12 : ac.eval (.tmp 12) = .bool true := hP 3 (by kernel_rfl)
        exact rop_bin _ _ _ _ _ rfl e14 rfl (guard_int _ _ _ _ _ _ _ w') (gtr_i _ _ _ (by rw [decide_eq_false_iff_not]; omega) w') (wanted_of (j := 3) (b := true) rfl rfl e12) (hK _ _ (le8_refl _) rfl)
      · intro ac w' hF hL hP hU K hK
        have hB := below_undrew hL
        have e12 : ac.eval (.tmp 12) = .bool true := hP 3 (by kernel_rfl)
        have e15 : ac.eval (.tmp 15) = .bool false := hP 6 (by kernel_rfl)
        exact rop_pick _ _ _ rfl true e12 (by simpa using e15) (wanted_none rfl) (hK _ _ (le8_refl _) rfl)
      · intro ac w' hF hL hP hU K hK
        have hB := below_undrew hL
        have e16 : ac.eval (.tmp 16) = .bool false := hP 7 (by kernel_rfl)
        exact rop_move _ rfl e16 (wanted_none rfl) (hK _ _ (le8_refl _) rfl)
      · intro ac w' hF hL hP hU K hK
        have hB := below_undrew hL
        have e17 : ac.eval (.tmp 17) = .bool false := hP 8 (by kernel_rfl)
        exact rop_off (j := 8) (b := true) rfl rfl e17 (by decide) (hK _ _ (le8_refl _) trivial)
      · intro ac w' hF hL hP hU K hK
        have hB := below_undrew hL
        have e17 : ac.eval (.tmp 17) = .bool false := hP 8 (by kernel_rfl)
        exact rop_off (j := 8) (b := true) rfl rfl e17 (by decide) (hK _ _ (le8_refl _) trivial)
      · intro ac w' hF hL hP hU K hK
        have hB := below_undrew hL
        have e17 : ac.eval (.tmp 17) = .bool false := hP 8 (by kernel_rfl)
        exact rop_off (j := 8) (b := true) rfl rfl e17 (by decide) (hK _ _ (le8_refl _) trivial)
      · intro ac w' hF hL hP hU K hK
        have hB := below_undrew hL
        have e17 : ac.eval (.tmp 17) = .bool false := hP 8 (by kernel_rfl)
        exact rop_off (j := 8) (b := true) rfl rfl e17 (by decide) (hK _ _ (le8_refl _) trivial)
      · intro ac w' hF hL hP hU K hK
        have hB := below_undrew hL
        have e17 : ac.eval (.tmp 17) = .bool false := hP 8 (by kernel_rfl)
        exact rop_off (j := 8) (b := true) rfl rfl e17 (by decide) (hK _ _ (le8_refl _) trivial)
      · intro ac w' hF hL hP hU K hK
        have hB := below_undrew hL
        have e17 : ac.eval (.tmp 17) = .bool false := hP 8 (by kernel_rfl)
        exact rop_off (j := 8) (b := true) rfl rfl e17 (by decide) (hK _ _ (le8_refl _) trivial)
      · intro ac w' hF hL hP hU K hK
        have hB := below_undrew hL
        have e17 : ac.eval (.tmp 17) = .bool false := hP 8 (by kernel_rfl)
        exact rop_off (j := 8) (b := true) rfl rfl e17 (by decide) (hK _ _ (le8_refl _) trivial)
      · intro ac w' hF hL hP hU K hK
        have hB := below_undrew hL
        have e17 : ac.eval (.tmp 17) = .bool false := hP 8 (by kernel_rfl)
        exact rop_off (j := 8) (b := true) rfl rfl e17 (by decide) (hK _ _ (le8_refl _) trivial)
      · intro ac w' hF hL hP hU K hK
        have hB := below_undrew hL
        have e17 : ac.eval (.tmp 17) = .bool false := hP 8 (by kernel_rfl)
        exact rop_off (j := 8) (b := true) rfl rfl e17 (by decide) (hK _ _ (le8_refl _) trivial)
      · intro ac w' hF hL hP hU K hK
        have hB := below_undrew hL
        have e17 : ac.eval (.tmp 17) = .bool false := hP 8 (by kernel_rfl)
        exact rop_off (j := 8) (b := true) rfl rfl e17 (by decide) (hK _ _ (le8_refl _) trivial)
      · intro ac w' hF hL hP hU K hK
        have hB := below_undrew hL
        have e17 : ac.eval (.tmp 17) = .bool false := hP 8 (by kernel_rfl)
        exact rop_off (j := 8) (b := true) rfl rfl e17 (by decide) (hK _ _ (le8_refl _) trivial)
      · intro ac w' hF hL hP hU K hK
        have hB := below_undrew hL
        have e17 : ac.eval (.tmp 17) = .bool false := hP 8 (by kernel_rfl)
        exact rop_off (j := 8) (b := true) rfl rfl e17 (by decide) (hK _ _ (le8_refl _) trivial)
      · intro ac w' hF hL hP hU K hK
        have hB := below_undrew hL
        have e17 : ac.eval (.tmp 17) = .bool false := hP 8 (by kernel_rfl)
        exact rop_off (j := 8) (b := true) rfl rfl e17 (by decide) (hK _ _ (le8_refl _) trivial)
      · intro ac w' hF hL hP hU K hK
        have hB := below_undrew hL
        have e17 : ac.eval (.tmp 17) = .bool false := hP 8 (by kernel_rfl)
        exact rop_off (j := 8) (b := true) rfl rfl e17 (by decide) (hK _ _ (le8_refl _) trivial)
      · intro ac w' hF hL hP hU K hK
        have hB := below_undrew hL
        have e17 : ac.eval (.tmp 17) = .bool false := hP 8 (by kernel_rfl)
        exact rop_off (j := 8) (b := true) rfl rfl e17 (by decide) (hK _ _ (le8_refl _) trivial)
      · intro ac w' hF hL hP hU K hK
        have hB := below_undrew hL
        have e17 : ac.eval (.tmp 17) = .bool false := hP 8 (by kernel_rfl)
        exact rop_off (j := 8) (b := true) rfl rfl e17 (by decide) (hK _ _ (le8_refl _) trivial)
      · intro ac w' hF hL hP hU K hK
        have hB := below_undrew hL
        have e17 : ac.eval (.tmp 17) = .bool false := hP 8 (by kernel_rfl)
        exact rop_off (j := 8) (b := true) rfl rfl e17 (by decide) (hK _ _ (le8_refl _) trivial)
      · intro ac w' hF hL hP hU K hK
        have hB := below_undrew hL
        have e17 : ac.eval (.tmp 17) = .bool false := hP 8 (by kernel_rfl)
        exact rop_off (j := 8) (b := true) rfl rfl e17 (by decide) (hK _ _ (le8_refl _) trivial)
      · intro ac w' hF hL hP hU K hK
        have hB := below_undrew hL
        have e17 : ac.eval (.tmp 17) = .bool false := hP 8 (by kernel_rfl)
        exact rop_off (j := 8) (b := true) rfl rfl e17 (by decide) (hK _ _ (le8_refl _) trivial)
      · intro ac w' hF hL hP hU K hK
        have hB := below_undrew hL
        have e17 : ac.eval (.tmp 17) = .bool false := hP 8 (by kernel_rfl)
        exact rop_off (j := 8) (b := true) rfl rfl e17 (by decide) (hK _ _ (le8_refl _) trivial)
      · intro ac w' hF hL hP hU K hK
        have hB := below_undrew hL
        have e17 : ac.eval (.tmp 17) = .bool false := hP 8 (by kernel_rfl)
        exact rop_pick _ _ _ rfl false e17 (by rfl) (wanted_none rfl) (hK _ _ (le8_refl _) rfl)
      · intro ac w' hF hB hT
        have e38 : ac.eval (.tmp 38) = .bool false := hT 29 (by decide)
        rw [hF.lit 64 rfl]
        simp only [List.range, List.range.loop, List.map_cons, List.map_nil, e38, hF.at 0 (by kernel_rfl), hF.at 1 (by kernel_rfl), hF.at 2 (by kernel_rfl), hF.at 3 (by kernel_rfl), hF.at 4 (by kernel_rfl), hF.at 5 (by kernel_rfl), hF.at 6 (by kernel_rfl), hF.at 7 (by kernel_rfl), hF.at 8 (by kernel_rfl), hF.at 39 (by kernel_rfl), hF.at 40 (by kernel_rfl), hF.at 41 (by kernel_rfl), hF.at 42 (by kernel_rfl), hF.at 43 (by kernel_rfl), hF.at 44 (by kernel_rfl), hF.at 45 (by kernel_rfl), hF.at 46 (by kernel_rfl), hF.at 47 (by kernel_rfl), hF.at 48 (by kernel_rfl), hF.at 49 (by kernel_rfl), hF.at 50 (by kernel_rfl), hF.at 51 (by kernel_rfl), hF.at 52 (by kernel_rfl), hF.at 53 (by kernel_rfl), hF.at 54 (by kernel_rfl), hF.at 55 (by kernel_rfl), hF.at 56 (by kernel_rfl), hF.at 57 (by kernel_rfl), hF.at 58 (by kernel_rfl), hF.at 59 (by kernel_rfl), hF.at 60 (by kernel_rfl), hF.at 61 (by kernel_rfl), hF.at 62 (by kernel_rfl), hF.at 63 (by kernel_rfl)]
        generalize ac.eval (.tmp 9) = u9
        generalize ac.eval (.tmp 10) = u10
        generalize ac.eval (.tmp 11) = u11
        generalize ac.eval (.tmp 12) = u12
        generalize ac.eval (.tmp 13) = u13
        generalize ac.eval (.tmp 14) = u14
        generalize ac.eval (.tmp 15) = u15
        generalize ac.eval (.tmp 16) = u16
        generalize ac.eval (.tmp 17) = u17
        generalize ac.eval (.tmp 18) = u18
        generalize ac.eval (.tmp 19) = u19
        generalize ac.eval (.tmp 20) = u20
        generalize ac.eval (.tmp 21) = u21
        generalize ac.eval (.tmp 22) = u22
        generalize ac.eval (.tmp 23) = u23
        generalize ac.eval (.tmp 24) = u24
        generalize ac.eval (.tmp 25) = u25
        generalize ac.eval (.tmp 26) = u26
        generalize ac.eval (.tmp 27) = u27
        generalize ac.eval (.tmp 28) = u28
        generalize ac.eval (.tmp 29) = u29
        generalize ac.eval (.tmp 30) = u30
        generalize ac.eval (.tmp 31) = u31
        generalize ac.eval (.tmp 32) = u32
        generalize ac.eval (.tmp 33) = u33
        generalize ac.eval (.tmp 34) = u34
        generalize ac.eval (.tmp 35) = u35
        generalize ac.eval (.tmp 36) = u36
        generalize ac.eval (.tmp 37) = u37
        simp only [Act.eval, Array.getD_eq_getD_getElem?, List.getElem?_toArray, List.getElem?_cons_succ, List.getElem?_cons_zero, Option.getD_some]
        clear e38 hT hF ac
        have HBE := Lib.hid (List.eq_nil_of_length_eq_zero hBe)
        clear hBe
        replace ho1 := ho1.kept hB
        replace hb := hb.old hB
        obtain ⟨v4, w4, hr4, ho4, b4⟩ := append_own (B := w.heap.size) 22 ho1 hb (by have := b1.size; have := hB.size; omega) (by omega)
        have HR4 := Lib.hid hr4
        clear hr4
        have hb1 := b1.trans (hB.mono b1.size)
        clear hB
        go_wp2_with (at_builtin; refine Lib.wpList_append_run _ rfl _ _ _ _ rfl _ _ rfl rfl _ _ HR4.out ?_)
        go_ret
        refine ⟨v4, rfl, ?_, hb1.trans b4⟩
        have hBe' := HBE.out
        subst hBe'
        rw [jn_nil]
        simpa using ho4.runs
    · obtain ⟨kk, hK⟩ : ∃ kk, kk = a.length - 1 := ⟨_, rfl⟩
      have hKl : kk < a.length := by omega
      obtain ⟨p, o, rfl, hp, -, c0, c1⟩ := ha.at kk hKl
      obtain ⟨q, r, rfl, hq, -, d0, d1⟩ := hb.at 0 (by omega)
      have hp0 : p < w.heap.size := by
        obtain ⟨b', o', eb, hlt', _⟩ := ha0.at kk hKl
        injection eb with eb
        injection eb with eb1 eb2 _
        omega
      have hq0 : q < w.heap.size := by
        obtain ⟨b', o', eb, hlt', _⟩ := hb0.at 0 (by omega)
        injection eb with eb
        injection eb with eb1 eb2 _
        omega
      clear ha0 hb0
      have hsa := fileB_get hfa kk hKl
      have hsb := fileB_get hfb 0 (by omega)
      have hjn := jn_last (a := a) (b := b) (by omega) (by omega)
      have hlast : a.take kk ++ [a[kk]] = a := by
        have := List.take_succ_eq_append_getElem hKl
        rw [show kk + 1 = a.length by omega, List.take_of_length_le (Nat.le_refl _)] at this
        exact this.symm
      have hKc : ((kk : Nat) : Int) = (a.length : Int) - 1 := by omega
      simp only [← hK] at hjn
      have HLA := Lib.hid (show ∀ z, a[kk] = z → a[kk] = z from fun z h => h)
      obtain ⟨xx, hx⟩ : ∃ xx, xx = a[kk] := ⟨_, rfl⟩
      obtain ⟨yy, hy⟩ : ∃ yy, yy = b[0] := ⟨_, rfl⟩
      have HXX := Lib.hid hx
      rw [← hx] at c0 c1 hsa hjn hlast
      rw [← hy] at d0 d1 hsb hjn
      obtain ⟨x, m⟩ := xx
      obtain ⟨y, n⟩ := yy
      simp only at c0 c1 d0 d1 hsa hsb hjn
      obtain ⟨s1, s2, s3⟩ := hsa
      obtain ⟨t1, t2, t3⟩ := hsb
      have hix : ∀ u, (Instr.indexAt 22 (.slice (some ⟨p, o, none⟩) a.length capa) (.int .i64 ((a.length : Int) - 1))).run Try.prog u = .ok (.pointer (some ⟨p, o + kk * 2, none⟩)) u := fun u => by
        rw [← hKc]; exact idx_run p o a.length capa kk hKl u
      have hiy : ∀ u, (Instr.indexAt 22 (.slice (some ⟨q, r, none⟩) b.length capb) (.int .i64 0)).run Try.prog u = .ok (.pointer (some ⟨q, r + 0 * 2, none⟩)) u := fun u => idx_run q r b.length capb 0 (by omega) u
      have HJ := Lib.hid hjn
      have HL := Lib.hid hlast
      have HKC := Lib.hid hKc
      have hK1 : kk + 1 = a.length := by omega
      have HK := Lib.hid hK1
      clear hjn hlast hx hy hKc hK hK1 HLA
      by_cases hne : x + m = y
      · have hpB : p < w1.heap.size := hp
        obtain ⟨v5, hv5⟩ : ∃ v5, v5 = v1 := ⟨_, rfl⟩
        rcases ho1.1.2 with ⟨_, h0⟩ | ⟨g, capo, cur, hv, hbg, hgg, _⟩
        · exact absurd h0 (by omega)
        · have hv5' : v1 = .slice (some ⟨g, 0, none⟩) a.length capo := hv
          subst hv5'
          clear hv hv5
          try simp only [Act.put]
          refine wp_region_tab [RT.is (.slice (some ⟨p, o, none⟩) a.length capa), RT.is (.int .i64 (a.length : Int)), RT.is (.bool true), RT.is (.bool true), RT.is (.slice (some ⟨q, r, none⟩) b.length capb), RT.is (.int .i64 (b.length : Int)), RT.is (.bool true), RT.is (.bool true), RT.is (.bool true), RT.is (.slice (some ⟨p, o, none⟩) a.length capa), RT.is (.slice (some ⟨p, o, none⟩) a.length capa), RT.is (.int .i64 (a.length : Int)), RT.is (.int .i64 ((a.length : Int) - 1)), RT.is (.pointer (some ⟨p, o + kk * 2, none⟩)), RT.is (.pointer (some ⟨p, o + kk * 2, none⟩)), RT.is (.int .i64 x), RT.is (.slice (some ⟨p, o, none⟩) a.length capa), RT.is (.slice (some ⟨p, o, none⟩) a.length capa), RT.is (.int .i64 (a.length : Int)), RT.is (.int .i64 ((a.length : Int) - 1)), RT.is (.pointer (some ⟨p, o + kk * 2, none⟩)), RT.is (.pointer (some ⟨p, o + kk * 2 + 1, none⟩)), RT.is (.int .i64 m), RT.is (.int .i64 (x + m)), RT.is (.slice (some ⟨q, r, none⟩) b.length capb), RT.is (.pointer (some ⟨q, r + 0 * 2, none⟩)), RT.is (.pointer (some ⟨q, r + 0 * 2, none⟩)), RT.is (.int .i64 y), RT.is (.bool true), RT.is (.bool true)] (by kernel_rfl) (by kernel_rfl) (by kernel_rfl) (by kernel_rfl) ⟨?_, ?_, ?_, ?_, ?_, ?_, ?_, ?_, ?_, ?_, ?_, ?_, ?_, ?_, ?_, ?_, ?_, ?_, ?_, ?_, ?_, ?_, ?_, ?_, ?_, ?_, ?_, ?_, ?_, ?_, trivial⟩ ?_
          · intro ac w' hF hL hP hU K hK
            have hB := below_undrew hL
            have e0 : ac.eval (.tmp 0) = .slice (some ⟨p, o, none⟩) a.length capa := hF.at 0 (by kernel_rfl)
            exact rop_move _ rfl e0 (wanted_none rfl) (hK _ _ (le8_refl _) rfl)
          · intro ac w' hF hL hP hU K hK
            have hB := below_undrew hL
            have e9 : ac.eval (.tmp 9) = .slice (some ⟨p, o, none⟩) a.length capa := hP 0 (by kernel_rfl)
            exact rop_len_sl _ rfl e9 (wanted_none rfl) (hK _ _ (le8_refl _) rfl)
          · intro ac w' hF hL hP hU K hK
            have hB := below_undrew hL
            have e10 : ac.eval (.tmp 10) = .int .i64 (a.length : Int) := hP 1 (by kernel_rfl)
            exact rop_bin _ _ _ _ _ rfl e10 rfl (guard_int _ _ _ _ _ _ _ w') (gtr_i _ _ _ (by rw [decide_eq_true_iff]; omega) w') (wanted_none rfl) (hK _ _ (le8_refl _) rfl)
          · intro ac w' hF hL hP hU K hK
            have hB := below_undrew hL
            have e11 : ac.eval (.tmp 11) = .bool true := hP 2 (by kernel_rfl)
            exact rop_move _ rfl e11 (wanted_none rfl) (hK _ _ (le8_refl _) rfl)
          · intro ac w' hF hL hP hU K hK
            have hB := below_undrew hL
            have e1 : ac.eval (.tmp 1) = .slice (some ⟨q, r, none⟩) b.length capb := hF.at 1 (by kernel_rfl)
            have e12 : ac.eval (.tmp 12) = .bool true := hP 3 (by kernel_rfl)
            exact rop_move _ rfl e1 (wanted_of (j := 3) (b := true) rfl rfl e12) (hK _ _ (le8_refl _) rfl)
          · intro ac w' hF hL hP hU K hK
            have hB := below_undrew hL
            have e13 : ac.eval (.tmp 13) = .slice (some ⟨q, r, none⟩) b.length capb := hP 4 (by kernel_rfl)
            have e12 : ac.eval (.tmp 12) = .bool true := hP 3 (by kernel_rfl)
            exact rop_len_sl _ rfl e13 (wanted_of (j := 3) (b := true) rfl rfl e12) (hK _ _ (le8_refl _) rfl)
          · intro ac w' hF hL hP hU K hK
            have hB := below_undrew hL
            have e14 : ac.eval (.tmp 14) = .int .i64 (b.length : Int) := hP 5 (by kernel_rfl)
            have e12 : ac.eval (.tmp 12) = .bool true := hP 3 (by kernel_rfl)
            exact rop_bin _ _ _ _ _ rfl e14 rfl (guard_int _ _ _ _ _ _ _ w') (gtr_i _ _ _ (by rw [decide_eq_true_iff]; omega) w') (wanted_of (j := 3) (b := true) rfl rfl e12) (hK _ _ (le8_refl _) rfl)
          · intro ac w' hF hL hP hU K hK
            have hB := below_undrew hL
            have e12 : ac.eval (.tmp 12) = .bool true := hP 3 (by kernel_rfl)
            have e15 : ac.eval (.tmp 15) = .bool true := hP 6 (by kernel_rfl)
            exact rop_pick _ _ _ rfl true e12 (by simpa using e15) (wanted_none rfl) (hK _ _ (le8_refl _) rfl)
          · intro ac w' hF hL hP hU K hK
            have hB := below_undrew hL
            have e16 : ac.eval (.tmp 16) = .bool true := hP 7 (by kernel_rfl)
            exact rop_move _ rfl e16 (wanted_none rfl) (hK _ _ (le8_refl _) rfl)
          · intro ac w' hF hL hP hU K hK
            have hB := below_undrew hL
            have e0 : ac.eval (.tmp 0) = .slice (some ⟨p, o, none⟩) a.length capa := hF.at 0 (by kernel_rfl)
            have e17 : ac.eval (.tmp 17) = .bool true := hP 8 (by kernel_rfl)
            exact rop_move _ rfl e0 (wanted_of (j := 8) (b := true) rfl rfl e17) (hK _ _ (le8_refl _) rfl)
          · intro ac w' hF hL hP hU K hK
            have hB := below_undrew hL
            have e0 : ac.eval (.tmp 0) = .slice (some ⟨p, o, none⟩) a.length capa := hF.at 0 (by kernel_rfl)
            have e17 : ac.eval (.tmp 17) = .bool true := hP 8 (by kernel_rfl)
            exact rop_move _ rfl e0 (wanted_of (j := 8) (b := true) rfl rfl e17) (hK _ _ (le8_refl _) rfl)
          · intro ac w' hF hL hP hU K hK
            have hB := below_undrew hL
            have e19 : ac.eval (.tmp 19) = .slice (some ⟨p, o, none⟩) a.length capa := hP 10 (by kernel_rfl)
            have e17 : ac.eval (.tmp 17) = .bool true := hP 8 (by kernel_rfl)
            exact rop_len_sl _ rfl e19 (wanted_of (j := 8) (b := true) rfl rfl e17) (hK _ _ (le8_refl _) rfl)
          · intro ac w' hF hL hP hU K hK
            have hB := below_undrew hL
            have e20 : ac.eval (.tmp 20) = .int .i64 (a.length : Int) := hP 11 (by kernel_rfl)
            have e17 : ac.eval (.tmp 17) = .bool true := hP 8 (by kernel_rfl)
            exact rop_bin _ _ _ _ _ rfl e20 rfl (guard_int _ _ _ _ _ _ _ w') (sub_int _ _ _ (rfl) (by omega) w') (wanted_of (j := 8) (b := true) rfl rfl e17) (hK _ _ (le8_refl _) rfl)
          · intro ac w' hF hL hP hU K hK
            have hB := below_undrew hL
            have e18 : ac.eval (.tmp 18) = .slice (some ⟨p, o, none⟩) a.length capa := hP 9 (by kernel_rfl)
            have e21 : ac.eval (.tmp 21) = .int .i64 ((a.length : Int) - 1) := hP 12 (by kernel_rfl)
            have e17 : ac.eval (.tmp 17) = .bool true := hP 8 (by kernel_rfl)
            exact rop_idx _ _ _ rfl e18 e21 (hix _) (wanted_of (j := 8) (b := true) rfl rfl e17) (hK _ _ (le8_refl _) rfl)
          · intro ac w' hF hL hP hU K hK
            have hB := below_undrew hL
            have e22 : ac.eval (.tmp 22) = .pointer (some ⟨p, o + kk * 2, none⟩) := hP 13 (by kernel_rfl)
            have e17 : ac.eval (.tmp 17) = .bool true := hP 8 (by kernel_rfl)
            exact rop_fld _ _ _ rfl e22 (fld_run0 _ _ _) (wanted_of (j := 8) (b := true) rfl rfl e17) (hK _ _ (le8_refl _) rfl)
          · intro ac w' hF hL hP hU K hK
            have hB := below_undrew hL
            have e23 : ac.eval (.tmp 23) = .pointer (some ⟨p, o + kk * 2, none⟩) := hP 14 (by kernel_rfl)
            have e17 : ac.eval (.tmp 17) = .bool true := hP 8 (by kernel_rfl)
            exact rop_ld _ _ rfl e23 (load_int ((hB.cell (p := ⟨p, _, none⟩) hp).trans c0)) (wanted_of (j := 8) (b := true) rfl rfl e17) (hK _ _ (le8_refl _) rfl)
          · intro ac w' hF hL hP hU K hK
            have hB := below_undrew hL
            have e0 : ac.eval (.tmp 0) = .slice (some ⟨p, o, none⟩) a.length capa := hF.at 0 (by kernel_rfl)
            have e17 : ac.eval (.tmp 17) = .bool true := hP 8 (by kernel_rfl)
            exact rop_move _ rfl e0 (wanted_of (j := 8) (b := true) rfl rfl e17) (hK _ _ (le8_refl _) rfl)
          · intro ac w' hF hL hP hU K hK
            have hB := below_undrew hL
            have e0 : ac.eval (.tmp 0) = .slice (some ⟨p, o, none⟩) a.length capa := hF.at 0 (by kernel_rfl)
            have e17 : ac.eval (.tmp 17) = .bool true := hP 8 (by kernel_rfl)
            exact rop_move _ rfl e0 (wanted_of (j := 8) (b := true) rfl rfl e17) (hK _ _ (le8_refl _) rfl)
          · intro ac w' hF hL hP hU K hK
            have hB := below_undrew hL
            have e26 : ac.eval (.tmp 26) = .slice (some ⟨p, o, none⟩) a.length capa := hP 17 (by kernel_rfl)
            have e17 : ac.eval (.tmp 17) = .bool true := hP 8 (by kernel_rfl)
            exact rop_len_sl _ rfl e26 (wanted_of (j := 8) (b := true) rfl rfl e17) (hK _ _ (le8_refl _) rfl)
          · intro ac w' hF hL hP hU K hK
            have hB := below_undrew hL
            have e27 : ac.eval (.tmp 27) = .int .i64 (a.length : Int) := hP 18 (by kernel_rfl)
            have e17 : ac.eval (.tmp 17) = .bool true := hP 8 (by kernel_rfl)
            exact rop_bin _ _ _ _ _ rfl e27 rfl (guard_int _ _ _ _ _ _ _ w') (sub_int _ _ _ (rfl) (by omega) w') (wanted_of (j := 8) (b := true) rfl rfl e17) (hK _ _ (le8_refl _) rfl)
          · intro ac w' hF hL hP hU K hK
            have hB := below_undrew hL
            have e25 : ac.eval (.tmp 25) = .slice (some ⟨p, o, none⟩) a.length capa := hP 16 (by kernel_rfl)
            have e28 : ac.eval (.tmp 28) = .int .i64 ((a.length : Int) - 1) := hP 19 (by kernel_rfl)
            have e17 : ac.eval (.tmp 17) = .bool true := hP 8 (by kernel_rfl)
            exact rop_idx _ _ _ rfl e25 e28 (hix _) (wanted_of (j := 8) (b := true) rfl rfl e17) (hK _ _ (le8_refl _) rfl)
          · intro ac w' hF hL hP hU K hK
            have hB := below_undrew hL
            have e29 : ac.eval (.tmp 29) = .pointer (some ⟨p, o + kk * 2, none⟩) := hP 20 (by kernel_rfl)
            have e17 : ac.eval (.tmp 17) = .bool true := hP 8 (by kernel_rfl)
            exact rop_fld _ _ _ rfl e29 (fld_run1 _ _ _) (wanted_of (j := 8) (b := true) rfl rfl e17) (hK _ _ (le8_refl _) rfl)
          · intro ac w' hF hL hP hU K hK
            have hB := below_undrew hL
            have e30 : ac.eval (.tmp 30) = .pointer (some ⟨p, o + kk * 2 + 1, none⟩) := hP 21 (by kernel_rfl)
            have e17 : ac.eval (.tmp 17) = .bool true := hP 8 (by kernel_rfl)
            exact rop_ld _ _ rfl e30 (load_int ((hB.cell (p := ⟨p, _, none⟩) hp).trans c1)) (wanted_of (j := 8) (b := true) rfl rfl e17) (hK _ _ (le8_refl _) rfl)
          · intro ac w' hF hL hP hU K hK
            have hB := below_undrew hL
            have e24 : ac.eval (.tmp 24) = .int .i64 x := hP 15 (by kernel_rfl)
            have e31 : ac.eval (.tmp 31) = .int .i64 m := hP 22 (by kernel_rfl)
            have e17 : ac.eval (.tmp 17) = .bool true := hP 8 (by kernel_rfl)
            exact rop_bin _ _ _ _ _ rfl e24 e31 (guard_int _ _ _ _ _ _ _ w') (add_int _ _ _ (rfl) (by omega) w') (wanted_of (j := 8) (b := true) rfl rfl e17) (hK _ _ (le8_refl _) rfl)
          · intro ac w' hF hL hP hU K hK
            have hB := below_undrew hL
            have e1 : ac.eval (.tmp 1) = .slice (some ⟨q, r, none⟩) b.length capb := hF.at 1 (by kernel_rfl)
            have e17 : ac.eval (.tmp 17) = .bool true := hP 8 (by kernel_rfl)
            exact rop_move _ rfl e1 (wanted_of (j := 8) (b := true) rfl rfl e17) (hK _ _ (le8_refl _) rfl)
          · intro ac w' hF hL hP hU K hK
            have hB := below_undrew hL
            have e33 : ac.eval (.tmp 33) = .slice (some ⟨q, r, none⟩) b.length capb := hP 24 (by kernel_rfl)
            have e17 : ac.eval (.tmp 17) = .bool true := hP 8 (by kernel_rfl)
            exact rop_idx _ _ _ rfl e33 rfl (hiy _) (wanted_of (j := 8) (b := true) rfl rfl e17) (hK _ _ (le8_refl _) rfl)
          · intro ac w' hF hL hP hU K hK
            have hB := below_undrew hL
            have e34 : ac.eval (.tmp 34) = .pointer (some ⟨q, r + 0 * 2, none⟩) := hP 25 (by kernel_rfl)
            have e17 : ac.eval (.tmp 17) = .bool true := hP 8 (by kernel_rfl)
            exact rop_fld _ _ _ rfl e34 (fld_run0 _ _ _) (wanted_of (j := 8) (b := true) rfl rfl e17) (hK _ _ (le8_refl _) rfl)
          · intro ac w' hF hL hP hU K hK
            have hB := below_undrew hL
            have e35 : ac.eval (.tmp 35) = .pointer (some ⟨q, r + 0 * 2, none⟩) := hP 26 (by kernel_rfl)
            have e17 : ac.eval (.tmp 17) = .bool true := hP 8 (by kernel_rfl)
            exact rop_ld _ _ rfl e35 (load_int ((hB.cell (p := ⟨q, _, none⟩) hq).trans d0)) (wanted_of (j := 8) (b := true) rfl rfl e17) (hK _ _ (le8_refl _) rfl)
          · intro ac w' hF hL hP hU K hK
            have hB := below_undrew hL
            have e32 : ac.eval (.tmp 32) = .int .i64 (x + m) := hP 23 (by kernel_rfl)
            have e36 : ac.eval (.tmp 36) = .int .i64 y := hP 27 (by kernel_rfl)
            have e17 : ac.eval (.tmp 17) = .bool true := hP 8 (by kernel_rfl)
            exact rop_bin _ _ _ _ _ rfl e32 e36 (guard_int _ _ _ _ _ _ _ w') (eql_i _ _ _ (by rw [decide_eq_true_iff]; omega) w') (wanted_of (j := 8) (b := true) rfl rfl e17) (hK _ _ (le8_refl _) rfl)
          · intro ac w' hF hL hP hU K hK
            have hB := below_undrew hL
            have e17 : ac.eval (.tmp 17) = .bool true := hP 8 (by kernel_rfl)
            have e37 : ac.eval (.tmp 37) = .bool true := hP 28 (by kernel_rfl)
            exact rop_pick _ _ _ rfl true e17 (by simpa using e37) (wanted_none rfl) (hK _ _ (le8_refl _) rfl)
          · intro ac w' hF hB hT
            have e38 : ac.eval (.tmp 38) = .bool true := hT 29 (by decide)
            rw [hF.lit 64 rfl]
            simp only [List.range, List.range.loop, List.map_cons, List.map_nil, e38, hF.at 0 (by kernel_rfl), hF.at 1 (by kernel_rfl), hF.at 2 (by kernel_rfl), hF.at 3 (by kernel_rfl), hF.at 4 (by kernel_rfl), hF.at 5 (by kernel_rfl), hF.at 6 (by kernel_rfl), hF.at 7 (by kernel_rfl), hF.at 8 (by kernel_rfl), hF.at 39 (by kernel_rfl), hF.at 40 (by kernel_rfl), hF.at 41 (by kernel_rfl), hF.at 42 (by kernel_rfl), hF.at 43 (by kernel_rfl), hF.at 44 (by kernel_rfl), hF.at 45 (by kernel_rfl), hF.at 46 (by kernel_rfl), hF.at 47 (by kernel_rfl), hF.at 48 (by kernel_rfl), hF.at 49 (by kernel_rfl), hF.at 50 (by kernel_rfl), hF.at 51 (by kernel_rfl), hF.at 52 (by kernel_rfl), hF.at 53 (by kernel_rfl), hF.at 54 (by kernel_rfl), hF.at 55 (by kernel_rfl), hF.at 56 (by kernel_rfl), hF.at 57 (by kernel_rfl), hF.at 58 (by kernel_rfl), hF.at 59 (by kernel_rfl), hF.at 60 (by kernel_rfl), hF.at 61 (by kernel_rfl), hF.at 62 (by kernel_rfl), hF.at 63 (by kernel_rfl)]
            generalize ac.eval (.tmp 9) = u9
            generalize ac.eval (.tmp 10) = u10
            generalize ac.eval (.tmp 11) = u11
            generalize ac.eval (.tmp 12) = u12
            generalize ac.eval (.tmp 13) = u13
            generalize ac.eval (.tmp 14) = u14
            generalize ac.eval (.tmp 15) = u15
            generalize ac.eval (.tmp 16) = u16
            generalize ac.eval (.tmp 17) = u17
            generalize ac.eval (.tmp 18) = u18
            generalize ac.eval (.tmp 19) = u19
            generalize ac.eval (.tmp 20) = u20
            generalize ac.eval (.tmp 21) = u21
            generalize ac.eval (.tmp 22) = u22
            generalize ac.eval (.tmp 23) = u23
            generalize ac.eval (.tmp 24) = u24
            generalize ac.eval (.tmp 25) = u25
            generalize ac.eval (.tmp 26) = u26
            generalize ac.eval (.tmp 27) = u27
            generalize ac.eval (.tmp 28) = u28
            generalize ac.eval (.tmp 29) = u29
            generalize ac.eval (.tmp 30) = u30
            generalize ac.eval (.tmp 31) = u31
            generalize ac.eval (.tmp 32) = u32
            generalize ac.eval (.tmp 33) = u33
            generalize ac.eval (.tmp 34) = u34
            generalize ac.eval (.tmp 35) = u35
            generalize ac.eval (.tmp 36) = u36
            generalize ac.eval (.tmp 37) = u37
            simp only [Act.eval, Array.getD_eq_getD_getElem?, List.getElem?_toArray, List.getElem?_cons_succ, List.getElem?_cons_zero, Option.getD_some]
            clear e38 hT hF ac
            replace ho1 := ho1.kept hB
            replace hb := hb.old hB
            replace c1 := (hB.cell (p := ⟨p, _, none⟩) hp).trans c1
            replace d1 := (hB.cell (p := ⟨q, _, none⟩) hq).trans d1
            have hb1 := b1.trans (hB.mono b1.size)
            clear hB c0 d0
            obtain ⟨W, hW⟩ : ∃ W, W = w' := ⟨_, rfl⟩
            subst hW
            have hzk : okR (x, m + n) := by unfold okR; simp only; omega
            obtain ⟨hlo, hBg⟩ := ho1.last HK.out x m HXX.out.symm hzk
            have hg1 : W.drew.cell? ⟨g, 0 + kk * 2 + 1, none⟩ = some (.int .i64 m) := by
              obtain ⟨b', o', eb, _, _, _, e1⟩ := ho1.runs.at kk (by have := HK.out; omega)
              injection eb with eb
              injection eb with eb1 eb2 _
              subst eb1 eb2
              rw [← HXX.out] at e1
              exact e1
            have hgf : W.drew.frozen? ⟨g, 0 + kk * 2 + 1, none⟩ = false := World.ownsRow.frozenAt ho1.1 _
            have hiz : ∀ u, (Instr.indexAt 22 (.slice (some ⟨g, 0, none⟩) a.length capo) (.int .i64 ((a.length : Int) - 1))).run Try.prog u = .ok (.pointer (some ⟨g, 0 + kk * 2, none⟩)) u := fun u => by
              rw [← HKC.out]; exact idx_run g 0 a.length capo kk hKl u
            have hfar : ∀ e f, e < w.heap.size → (W.drew.setCell ⟨g, 0 + kk * 2 + 1, none⟩ (.int .i64 (m + n))).cell? ⟨e, f, none⟩ = W.cell? ⟨e, f, none⟩ := fun e f he => World.cell?_setCell_other _ _ _ _ (fun h => by injection h with h _ _; omega)
            have hx1 : ∀ k : Nat, (([W.drew, (W.drew.setCell ⟨g, 0 + kk * 2 + 1, none⟩ (.int .i64 (m + n)))] : List World).getD k W.drew).cell? ⟨p, o + kk * 2 + 1, none⟩ = some (.int .i64 m) := fun k => by
              match k with
              | 0 => exact c1
              | 1 => exact (hfar _ _ hp0).trans c1
              | k + 2 => exact c1
            have hy1 : ∀ k : Nat, (([W.drew, (W.drew.setCell ⟨g, 0 + kk * 2 + 1, none⟩ (.int .i64 (m + n)))] : List World).getD k W.drew).cell? ⟨q, r + 0 * 2 + 1, none⟩ = some (.int .i64 n) := fun k => by
              match k with
              | 0 => exact d1
              | 1 => exact (hfar _ _ hq0).trans d1
              | k + 2 => exact d1
            have hb2 : Below w.heap.size w (W.drew.setCell ⟨g, 0 + kk * 2 + 1, none⟩ (.int .i64 (m + n))) := (below_drew hb1).setCell hBg _
            have hbR : Runs (W.drew.setCell ⟨g, 0 + kk * 2 + 1, none⟩ (.int .i64 (m + n))) (.slice (some ⟨q, r, none⟩) b.length capb) b := by
              refine (RunsB.keep (B := w.heap.size) (w := W) ⟨hb, fun b' o' n' c' e hl' => ?_⟩ ((below_drew (Below.refl _ _)).setCell hBg _)).1
              injection e with e _ _
              injection e with e
              injection e with e _ _
              omega
            replace hlo : Own w.heap.size (W.drew.setCell ⟨g, 0 + kk * 2 + 1, none⟩ (.int .i64 (m + n))) (.slice (some ⟨g, 0, none⟩) a.length capo) (a.take kk ++ [(x, m + n)]) := hlo
            have htl := hbR.tail 1 (by omega)
            have hlk : (a.take kk ++ [(x, m + n)]).length = a.length := by have := HK.out; simp; omega
            obtain ⟨v6, w6, hr6, ho6, b6⟩ := append_own (B := w.heap.size) 22 hlo htl hb2.size (by rw [hlk]; simp; omega)
            replace hr6 : (Builtin.append_ #[22, 22] 22 #[.slice (some ⟨g, 0, none⟩) a.length capo, .slice (cutA (some ⟨q, r, none⟩) 1 capb) (b.length - 1) (capb - 1)]).run Try.prog (W.drew.setCell ⟨g, 0 + kk * 2 + 1, none⟩ (.int .i64 (m + n))) = .ok v6 w6 := hr6
            have q2 := slice_l (some ⟨q, r, none⟩) b.length capb 1 (by omega)
            have q3 : ∀ u, (Instr.sliceAt 22 (.slice (some ⟨q, r, none⟩) b.length capb) (some (.int .i64 1)) none none).run Try.prog u = .ok (.slice (cutA (some ⟨q, r, none⟩) 1 capb) (b.length - 1) (capb - 1)) u := fun u => (sliceAt_run _ _ _ _ _).trans (q2 u)
            obtain ⟨vs, hvs⟩ : ∃ vs, vs = Value.slice (cutA (some ⟨q, r, none⟩) 1 capb) (b.length - 1) (capb - 1) := ⟨_, rfl⟩
            obtain ⟨W3, hW3⟩ : ∃ W3, W3 = W.drew.setCell ⟨g, 0 + kk * 2 + 1, none⟩ (.int .i64 (m + n)) := ⟨_, rfl⟩
            rw [← hvs] at hr6 q3
            rw [← hW3] at hr6 b6 hb2
            have HR6 := Lib.hid hr6
            have HW3 := Lib.hid hW3
            clear hvs hW3
            clear hr6 q2 htl hlk hbR hfar
            have HX1 := Lib.hid hx1
            have HY1 := Lib.hid hy1
            clear hx1 hy1
            go_wp2
            have hx1 := HX1.out
            have hy1 := HY1.out
            try simp only [Act.put]
            refine wp_region_eff (Lx := fun _ _ => True) [RX.is (.slice (some ⟨g, 0, none⟩) a.length capo), RX.is (.slice (some ⟨p, o, none⟩) a.length capa), RX.is (.int .i64 (a.length : Int)), RX.is (.int .i64 ((a.length : Int) - 1)), RX.is (.slice (some ⟨p, o, none⟩) a.length capa), RX.is (.slice (some ⟨p, o, none⟩) a.length capa), RX.is (.int .i64 (a.length : Int)), RX.is (.int .i64 ((a.length : Int) - 1)), RX.is (.pointer (some ⟨p, o + kk * 2, none⟩)), RX.is (.pointer (some ⟨p, o + kk * 2 + 1, none⟩)), RX.is (.int .i64 m), RX.is (.slice (some ⟨q, r, none⟩) b.length capb), RX.is (.pointer (some ⟨q, r + 0 * 2, none⟩)), RX.is (.pointer (some ⟨q, r + 0 * 2 + 1, none⟩)), RX.is (.int .i64 n), RX.is (.int .i64 (m + n)), RX.is (.pointer (some ⟨g, 0 + kk * 2, none⟩)), RX.is (.pointer (some ⟨g, 0 + kk * 2 + 1, none⟩)), RX.any] [18] (fun k w' => w' = [W.drew, (W.drew.setCell ⟨g, 0 + kk * 2 + 1, none⟩ (.int .i64 (m + n)))].getD k W.drew) (by kernel_rfl) (by kernel_rfl) (by kernel_rfl) (by kernel_rfl) (by kernel_rfl) rfl ⟨?_, ?_, ?_, ?_, ?_, ?_, ?_, ?_, ?_, ?_, ?_, ?_, ?_, ?_, ?_, ?_, ?_, ?_, ?_, trivial⟩ ?_
            · intro ac w' ph hF hPh hlt hP hU K hK0
              have e5 : ac.eval (.tmp 5) = .slice (some ⟨g, 0, none⟩) a.length capo := hF.at 5 (by kernel_rfl)
              exact rop_move _ rfl e5 (wanted_none rfl) (hK0 _ _ trivial hPh rfl)
            · intro ac w' ph hF hPh hlt hP hU K hK0
              have e0 : ac.eval (.tmp 0) = .slice (some ⟨p, o, none⟩) a.length capa := hF.at 0 (by kernel_rfl)
              exact rop_move _ rfl e0 (wanted_none rfl) (hK0 _ _ trivial hPh rfl)
            · intro ac w' ph hF hPh hlt hP hU K hK0
              have e40 : ac.eval (.tmp 40) = .slice (some ⟨p, o, none⟩) a.length capa := hP 1 (by kernel_rfl)
              exact rop_len_sl _ rfl e40 (wanted_none rfl) (hK0 _ _ trivial hPh rfl)
            · intro ac w' ph hF hPh hlt hP hU K hK0
              have e41 : ac.eval (.tmp 41) = .int .i64 (a.length : Int) := hP 2 (by kernel_rfl)
              exact rop_bin _ _ _ _ _ rfl e41 rfl (guard_int _ _ _ _ _ _ _ w') (sub_int _ _ _ (rfl) (by omega) w') (wanted_none rfl) (hK0 _ _ trivial hPh rfl)
            · intro ac w' ph hF hPh hlt hP hU K hK0
              have e0 : ac.eval (.tmp 0) = .slice (some ⟨p, o, none⟩) a.length capa := hF.at 0 (by kernel_rfl)
              exact rop_move _ rfl e0 (wanted_none rfl) (hK0 _ _ trivial hPh rfl)
            · intro ac w' ph hF hPh hlt hP hU K hK0
              have e0 : ac.eval (.tmp 0) = .slice (some ⟨p, o, none⟩) a.length capa := hF.at 0 (by kernel_rfl)
              exact rop_move _ rfl e0 (wanted_none rfl) (hK0 _ _ trivial hPh rfl)
            · intro ac w' ph hF hPh hlt hP hU K hK0
              have e44 : ac.eval (.tmp 44) = .slice (some ⟨p, o, none⟩) a.length capa := hP 5 (by kernel_rfl)
              exact rop_len_sl _ rfl e44 (wanted_none rfl) (hK0 _ _ trivial hPh rfl)
            · intro ac w' ph hF hPh hlt hP hU K hK0
              have e45 : ac.eval (.tmp 45) = .int .i64 (a.length : Int) := hP 6 (by kernel_rfl)
              exact rop_bin _ _ _ _ _ rfl e45 rfl (guard_int _ _ _ _ _ _ _ w') (sub_int _ _ _ (rfl) (by omega) w') (wanted_none rfl) (hK0 _ _ trivial hPh rfl)
            · intro ac w' ph hF hPh hlt hP hU K hK0
              have e43 : ac.eval (.tmp 43) = .slice (some ⟨p, o, none⟩) a.length capa := hP 4 (by kernel_rfl)
              have e46 : ac.eval (.tmp 46) = .int .i64 ((a.length : Int) - 1) := hP 7 (by kernel_rfl)
              exact rop_idx _ _ _ rfl e43 e46 (hix _) (wanted_none rfl) (hK0 _ _ trivial hPh rfl)
            · intro ac w' ph hF hPh hlt hP hU K hK0
              have e47 : ac.eval (.tmp 47) = .pointer (some ⟨p, o + kk * 2, none⟩) := hP 8 (by kernel_rfl)
              exact rop_fld _ _ _ rfl e47 (fld_run1 _ _ _) (wanted_none rfl) (hK0 _ _ trivial hPh rfl)
            · intro ac w' ph hF hPh hlt hP hU K hK0
              have e48 : ac.eval (.tmp 48) = .pointer (some ⟨p, o + kk * 2 + 1, none⟩) := hP 9 (by kernel_rfl)
              exact rop_ld _ _ rfl e48 (load_int ((congrArg (fun u : World => u.cell? ⟨p, o + kk * 2 + 1, none⟩) (show w' = ([W.drew, (W.drew.setCell ⟨g, 0 + kk * 2 + 1, none⟩ (.int .i64 (m + n)))] : List World).getD ph W.drew from hPh)).trans (hx1 ph))) (wanted_none rfl) (hK0 _ _ trivial hPh rfl)
            · intro ac w' ph hF hPh hlt hP hU K hK0
              have e1 : ac.eval (.tmp 1) = .slice (some ⟨q, r, none⟩) b.length capb := hF.at 1 (by kernel_rfl)
              exact rop_move _ rfl e1 (wanted_none rfl) (hK0 _ _ trivial hPh rfl)
            · intro ac w' ph hF hPh hlt hP hU K hK0
              have e50 : ac.eval (.tmp 50) = .slice (some ⟨q, r, none⟩) b.length capb := hP 11 (by kernel_rfl)
              exact rop_idx _ _ _ rfl e50 rfl (hiy _) (wanted_none rfl) (hK0 _ _ trivial hPh rfl)
            · intro ac w' ph hF hPh hlt hP hU K hK0
              have e51 : ac.eval (.tmp 51) = .pointer (some ⟨q, r + 0 * 2, none⟩) := hP 12 (by kernel_rfl)
              exact rop_fld _ _ _ rfl e51 (fld_run1 _ _ _) (wanted_none rfl) (hK0 _ _ trivial hPh rfl)
            · intro ac w' ph hF hPh hlt hP hU K hK0
              have e52 : ac.eval (.tmp 52) = .pointer (some ⟨q, r + 0 * 2 + 1, none⟩) := hP 13 (by kernel_rfl)
              exact rop_ld _ _ rfl e52 (load_int ((congrArg (fun u : World => u.cell? ⟨q, r + 0 * 2 + 1, none⟩) (show w' = ([W.drew, (W.drew.setCell ⟨g, 0 + kk * 2 + 1, none⟩ (.int .i64 (m + n)))] : List World).getD ph W.drew from hPh)).trans (hy1 ph))) (wanted_none rfl) (hK0 _ _ trivial hPh rfl)
            · intro ac w' ph hF hPh hlt hP hU K hK0
              have e49 : ac.eval (.tmp 49) = .int .i64 m := hP 10 (by kernel_rfl)
              have e53 : ac.eval (.tmp 53) = .int .i64 n := hP 14 (by kernel_rfl)
              exact rop_bin _ _ _ _ _ rfl e49 e53 (guard_int _ _ _ _ _ _ _ w') (add_int _ _ _ (rfl) (by omega) w') (wanted_none rfl) (hK0 _ _ trivial hPh rfl)
            · intro ac w' ph hF hPh hlt hP hU K hK0
              have e39 : ac.eval (.tmp 39) = .slice (some ⟨g, 0, none⟩) a.length capo := hP 0 (by kernel_rfl)
              have e42 : ac.eval (.tmp 42) = .int .i64 ((a.length : Int) - 1) := hP 3 (by kernel_rfl)
              exact rop_idx _ _ _ rfl e39 e42 (hiz _) (wanted_none rfl) (hK0 _ _ trivial hPh rfl)
            · intro ac w' ph hF hPh hlt hP hU K hK0
              have e55 : ac.eval (.tmp 55) = .pointer (some ⟨g, 0 + kk * 2, none⟩) := hP 16 (by kernel_rfl)
              exact rop_fld _ _ _ rfl e55 (fld_run1 _ _ _) (wanted_none rfl) (hK0 _ _ trivial hPh rfl)
            · intro ac w' ph hF hPh hlt hP hU K hK0
              obtain rfl : ph = 0 := (hlt 0 18 rfl).1 rfl
              obtain rfl : w' = W.drew := hPh
              have e56 : ac.eval (.tmp 56) = .pointer (some ⟨g, 0 + kk * 2 + 1, none⟩) := hP 17 (by kernel_rfl)
              have e54 : ac.eval (.tmp 54) = .int .i64 (m + n) := hP 15 (by kernel_rfl)
              exact rop_store _ _ _ rfl e56 e54 (store_int hg1 hgf) (wanted_none rfl) (hK0 undef _ trivial rfl trivial)
            · intro ac w' hF hPh hT
              obtain rfl : w' = (W.drew.setCell ⟨g, 0 + kk * 2 + 1, none⟩ (.int .i64 (m + n))) := hPh
              rw [hF.lit 64 rfl]
              simp only [List.range, List.range.loop, List.map_cons, List.map_nil, hF.at 0 (by kernel_rfl), hF.at 1 (by kernel_rfl), hF.at 2 (by kernel_rfl), hF.at 3 (by kernel_rfl), hF.at 4 (by kernel_rfl), hF.at 5 (by kernel_rfl), hF.at 6 (by kernel_rfl), hF.at 7 (by kernel_rfl), hF.at 8 (by kernel_rfl), hF.at 9 (by kernel_rfl), hF.at 10 (by kernel_rfl), hF.at 11 (by kernel_rfl), hF.at 12 (by kernel_rfl), hF.at 13 (by kernel_rfl), hF.at 14 (by kernel_rfl), hF.at 15 (by kernel_rfl), hF.at 16 (by kernel_rfl), hF.at 17 (by kernel_rfl), hF.at 18 (by kernel_rfl), hF.at 19 (by kernel_rfl), hF.at 20 (by kernel_rfl), hF.at 21 (by kernel_rfl), hF.at 22 (by kernel_rfl), hF.at 23 (by kernel_rfl), hF.at 24 (by kernel_rfl), hF.at 25 (by kernel_rfl), hF.at 26 (by kernel_rfl), hF.at 27 (by kernel_rfl), hF.at 28 (by kernel_rfl), hF.at 29 (by kernel_rfl), hF.at 30 (by kernel_rfl), hF.at 31 (by kernel_rfl), hF.at 32 (by kernel_rfl), hF.at 33 (by kernel_rfl), hF.at 34 (by kernel_rfl), hF.at 35 (by kernel_rfl), hF.at 36 (by kernel_rfl), hF.at 37 (by kernel_rfl), hF.at 38 (by kernel_rfl), hF.at 57 (by kernel_rfl), hF.at 58 (by kernel_rfl), hF.at 59 (by kernel_rfl), hF.at 60 (by kernel_rfl), hF.at 61 (by kernel_rfl), hF.at 62 (by kernel_rfl), hF.at 63 (by kernel_rfl)]
              generalize ac.eval (.tmp 39) = u39
              generalize ac.eval (.tmp 40) = u40
              generalize ac.eval (.tmp 41) = u41
              generalize ac.eval (.tmp 42) = u42
              generalize ac.eval (.tmp 43) = u43
              generalize ac.eval (.tmp 44) = u44
              generalize ac.eval (.tmp 45) = u45
              generalize ac.eval (.tmp 46) = u46
              generalize ac.eval (.tmp 47) = u47
              generalize ac.eval (.tmp 48) = u48
              generalize ac.eval (.tmp 49) = u49
              generalize ac.eval (.tmp 50) = u50
              generalize ac.eval (.tmp 51) = u51
              generalize ac.eval (.tmp 52) = u52
              generalize ac.eval (.tmp 53) = u53
              generalize ac.eval (.tmp 54) = u54
              generalize ac.eval (.tmp 55) = u55
              generalize ac.eval (.tmp 56) = u56
              simp only [Act.eval, Array.getD_eq_getD_getElem?, List.getElem?_toArray, List.getElem?_cons_succ, List.getElem?_cons_zero, Option.getD_some]
              clear hT hF ac
              clear hx1 hy1
              go_upto_region 5 with fail
              rw [← HW3.out]
              go_wp2_with (first
                | (with_reducible refine wpList_slice_run rfl 22 (.tmp 58) (some (.const (.int .i64 1))) none none rfl rfl rfl rfl rfl (q3 _) ?_)
                | (at_builtin; refine Lib.wpList_append_run _ rfl _ _ _ _ rfl _ _ rfl rfl _ _ HR6.out ?_))
              go_ret
              refine ⟨v6, rfl, ?_, hb2.trans b6⟩
              rw [HJ.out, if_pos hne]
              have := ho6.runs
              simpa using this
      ·
        try simp only [Act.put]
        refine wp_region_tab [RT.is (.slice (some ⟨p, o, none⟩) a.length capa), RT.is (.int .i64 (a.length : Int)), RT.is (.bool true), RT.is (.bool true), RT.is (.slice (some ⟨q, r, none⟩) b.length capb), RT.is (.int .i64 (b.length : Int)), RT.is (.bool true), RT.is (.bool true), RT.is (.bool true), RT.is (.slice (some ⟨p, o, none⟩) a.length capa), RT.is (.slice (some ⟨p, o, none⟩) a.length capa), RT.is (.int .i64 (a.length : Int)), RT.is (.int .i64 ((a.length : Int) - 1)), RT.is (.pointer (some ⟨p, o + kk * 2, none⟩)), RT.is (.pointer (some ⟨p, o + kk * 2, none⟩)), RT.is (.int .i64 x), RT.is (.slice (some ⟨p, o, none⟩) a.length capa), RT.is (.slice (some ⟨p, o, none⟩) a.length capa), RT.is (.int .i64 (a.length : Int)), RT.is (.int .i64 ((a.length : Int) - 1)), RT.is (.pointer (some ⟨p, o + kk * 2, none⟩)), RT.is (.pointer (some ⟨p, o + kk * 2 + 1, none⟩)), RT.is (.int .i64 m), RT.is (.int .i64 (x + m)), RT.is (.slice (some ⟨q, r, none⟩) b.length capb), RT.is (.pointer (some ⟨q, r + 0 * 2, none⟩)), RT.is (.pointer (some ⟨q, r + 0 * 2, none⟩)), RT.is (.int .i64 y), RT.is (.bool false), RT.is (.bool false)] (by kernel_rfl) (by kernel_rfl) (by kernel_rfl) (by kernel_rfl) ⟨?_, ?_, ?_, ?_, ?_, ?_, ?_, ?_, ?_, ?_, ?_, ?_, ?_, ?_, ?_, ?_, ?_, ?_, ?_, ?_, ?_, ?_, ?_, ?_, ?_, ?_, ?_, ?_, ?_, ?_, trivial⟩ ?_
        · intro ac w' hF hL hP hU K hK
          have hB := below_undrew hL
          have e0 : ac.eval (.tmp 0) = .slice (some ⟨p, o, none⟩) a.length capa := hF.at 0 (by kernel_rfl)
          exact rop_move _ rfl e0 (wanted_none rfl) (hK _ _ (le8_refl _) rfl)
        · intro ac w' hF hL hP hU K hK
          have hB := below_undrew hL
          have e9 : ac.eval (.tmp 9) = .slice (some ⟨p, o, none⟩) a.length capa := hP 0 (by kernel_rfl)
          exact rop_len_sl _ rfl e9 (wanted_none rfl) (hK _ _ (le8_refl _) rfl)
        · intro ac w' hF hL hP hU K hK
          have hB := below_undrew hL
          have e10 : ac.eval (.tmp 10) = .int .i64 (a.length : Int) := hP 1 (by kernel_rfl)
          exact rop_bin _ _ _ _ _ rfl e10 rfl (guard_int _ _ _ _ _ _ _ w') (gtr_i _ _ _ (by rw [decide_eq_true_iff]; omega) w') (wanted_none rfl) (hK _ _ (le8_refl _) rfl)
        · intro ac w' hF hL hP hU K hK
          have hB := below_undrew hL
          have e11 : ac.eval (.tmp 11) = .bool true := hP 2 (by kernel_rfl)
          exact rop_move _ rfl e11 (wanted_none rfl) (hK _ _ (le8_refl _) rfl)
        · intro ac w' hF hL hP hU K hK
          have hB := below_undrew hL
          have e1 : ac.eval (.tmp 1) = .slice (some ⟨q, r, none⟩) b.length capb := hF.at 1 (by kernel_rfl)
          have e12 : ac.eval (.tmp 12) = .bool true := hP 3 (by kernel_rfl)
          exact rop_move _ rfl e1 (wanted_of (j := 3) (b := true) rfl rfl e12) (hK _ _ (le8_refl _) rfl)
        · intro ac w' hF hL hP hU K hK
          have hB := below_undrew hL
          have e13 : ac.eval (.tmp 13) = .slice (some ⟨q, r, none⟩) b.length capb := hP 4 (by kernel_rfl)
          have e12 : ac.eval (.tmp 12) = .bool true := hP 3 (by kernel_rfl)
          exact rop_len_sl _ rfl e13 (wanted_of (j := 3) (b := true) rfl rfl e12) (hK _ _ (le8_refl _) rfl)
        · intro ac w' hF hL hP hU K hK
          have hB := below_undrew hL
          have e14 : ac.eval (.tmp 14) = .int .i64 (b.length : Int) := hP 5 (by kernel_rfl)
          have e12 : ac.eval (.tmp 12) = .bool true := hP 3 (by kernel_rfl)
          exact rop_bin _ _ _ _ _ rfl e14 rfl (guard_int _ _ _ _ _ _ _ w') (gtr_i _ _ _ (by rw [decide_eq_true_iff]; omega) w') (wanted_of (j := 3) (b := true) rfl rfl e12) (hK _ _ (le8_refl _) rfl)
        · intro ac w' hF hL hP hU K hK
          have hB := below_undrew hL
          have e12 : ac.eval (.tmp 12) = .bool true := hP 3 (by kernel_rfl)
          have e15 : ac.eval (.tmp 15) = .bool true := hP 6 (by kernel_rfl)
          exact rop_pick _ _ _ rfl true e12 (by simpa using e15) (wanted_none rfl) (hK _ _ (le8_refl _) rfl)
        · intro ac w' hF hL hP hU K hK
          have hB := below_undrew hL
          have e16 : ac.eval (.tmp 16) = .bool true := hP 7 (by kernel_rfl)
          exact rop_move _ rfl e16 (wanted_none rfl) (hK _ _ (le8_refl _) rfl)
        · intro ac w' hF hL hP hU K hK
          have hB := below_undrew hL
          have e0 : ac.eval (.tmp 0) = .slice (some ⟨p, o, none⟩) a.length capa := hF.at 0 (by kernel_rfl)
          have e17 : ac.eval (.tmp 17) = .bool true := hP 8 (by kernel_rfl)
          exact rop_move _ rfl e0 (wanted_of (j := 8) (b := true) rfl rfl e17) (hK _ _ (le8_refl _) rfl)
        · intro ac w' hF hL hP hU K hK
          have hB := below_undrew hL
          have e0 : ac.eval (.tmp 0) = .slice (some ⟨p, o, none⟩) a.length capa := hF.at 0 (by kernel_rfl)
          have e17 : ac.eval (.tmp 17) = .bool true := hP 8 (by kernel_rfl)
          exact rop_move _ rfl e0 (wanted_of (j := 8) (b := true) rfl rfl e17) (hK _ _ (le8_refl _) rfl)
        · intro ac w' hF hL hP hU K hK
          have hB := below_undrew hL
          have e19 : ac.eval (.tmp 19) = .slice (some ⟨p, o, none⟩) a.length capa := hP 10 (by kernel_rfl)
          have e17 : ac.eval (.tmp 17) = .bool true := hP 8 (by kernel_rfl)
          exact rop_len_sl _ rfl e19 (wanted_of (j := 8) (b := true) rfl rfl e17) (hK _ _ (le8_refl _) rfl)
        · intro ac w' hF hL hP hU K hK
          have hB := below_undrew hL
          have e20 : ac.eval (.tmp 20) = .int .i64 (a.length : Int) := hP 11 (by kernel_rfl)
          have e17 : ac.eval (.tmp 17) = .bool true := hP 8 (by kernel_rfl)
          exact rop_bin _ _ _ _ _ rfl e20 rfl (guard_int _ _ _ _ _ _ _ w') (sub_int _ _ _ (rfl) (by omega) w') (wanted_of (j := 8) (b := true) rfl rfl e17) (hK _ _ (le8_refl _) rfl)
        · intro ac w' hF hL hP hU K hK
          have hB := below_undrew hL
          have e18 : ac.eval (.tmp 18) = .slice (some ⟨p, o, none⟩) a.length capa := hP 9 (by kernel_rfl)
          have e21 : ac.eval (.tmp 21) = .int .i64 ((a.length : Int) - 1) := hP 12 (by kernel_rfl)
          have e17 : ac.eval (.tmp 17) = .bool true := hP 8 (by kernel_rfl)
          exact rop_idx _ _ _ rfl e18 e21 (hix _) (wanted_of (j := 8) (b := true) rfl rfl e17) (hK _ _ (le8_refl _) rfl)
        · intro ac w' hF hL hP hU K hK
          have hB := below_undrew hL
          have e22 : ac.eval (.tmp 22) = .pointer (some ⟨p, o + kk * 2, none⟩) := hP 13 (by kernel_rfl)
          have e17 : ac.eval (.tmp 17) = .bool true := hP 8 (by kernel_rfl)
          exact rop_fld _ _ _ rfl e22 (fld_run0 _ _ _) (wanted_of (j := 8) (b := true) rfl rfl e17) (hK _ _ (le8_refl _) rfl)
        · intro ac w' hF hL hP hU K hK
          have hB := below_undrew hL
          have e23 : ac.eval (.tmp 23) = .pointer (some ⟨p, o + kk * 2, none⟩) := hP 14 (by kernel_rfl)
          have e17 : ac.eval (.tmp 17) = .bool true := hP 8 (by kernel_rfl)
          exact rop_ld _ _ rfl e23 (load_int ((hB.cell (p := ⟨p, _, none⟩) hp).trans c0)) (wanted_of (j := 8) (b := true) rfl rfl e17) (hK _ _ (le8_refl _) rfl)
        · intro ac w' hF hL hP hU K hK
          have hB := below_undrew hL
          have e0 : ac.eval (.tmp 0) = .slice (some ⟨p, o, none⟩) a.length capa := hF.at 0 (by kernel_rfl)
          have e17 : ac.eval (.tmp 17) = .bool true := hP 8 (by kernel_rfl)
          exact rop_move _ rfl e0 (wanted_of (j := 8) (b := true) rfl rfl e17) (hK _ _ (le8_refl _) rfl)
        · intro ac w' hF hL hP hU K hK
          have hB := below_undrew hL
          have e0 : ac.eval (.tmp 0) = .slice (some ⟨p, o, none⟩) a.length capa := hF.at 0 (by kernel_rfl)
          have e17 : ac.eval (.tmp 17) = .bool true := hP 8 (by kernel_rfl)
          exact rop_move _ rfl e0 (wanted_of (j := 8) (b := true) rfl rfl e17) (hK _ _ (le8_refl _) rfl)
        · intro ac w' hF hL hP hU K hK
          have hB := below_undrew hL
          have e26 : ac.eval (.tmp 26) = .slice (some ⟨p, o, none⟩) a.length capa := hP 17 (by kernel_rfl)
          have e17 : ac.eval (.tmp 17) = .bool true := hP 8 (by kernel_rfl)
          exact rop_len_sl _ rfl e26 (wanted_of (j := 8) (b := true) rfl rfl e17) (hK _ _ (le8_refl _) rfl)
        · intro ac w' hF hL hP hU K hK
          have hB := below_undrew hL
          have e27 : ac.eval (.tmp 27) = .int .i64 (a.length : Int) := hP 18 (by kernel_rfl)
          have e17 : ac.eval (.tmp 17) = .bool true := hP 8 (by kernel_rfl)
          exact rop_bin _ _ _ _ _ rfl e27 rfl (guard_int _ _ _ _ _ _ _ w') (sub_int _ _ _ (rfl) (by omega) w') (wanted_of (j := 8) (b := true) rfl rfl e17) (hK _ _ (le8_refl _) rfl)
        · intro ac w' hF hL hP hU K hK
          have hB := below_undrew hL
          have e25 : ac.eval (.tmp 25) = .slice (some ⟨p, o, none⟩) a.length capa := hP 16 (by kernel_rfl)
          have e28 : ac.eval (.tmp 28) = .int .i64 ((a.length : Int) - 1) := hP 19 (by kernel_rfl)
          have e17 : ac.eval (.tmp 17) = .bool true := hP 8 (by kernel_rfl)
          exact rop_idx _ _ _ rfl e25 e28 (hix _) (wanted_of (j := 8) (b := true) rfl rfl e17) (hK _ _ (le8_refl _) rfl)
        · intro ac w' hF hL hP hU K hK
          have hB := below_undrew hL
          have e29 : ac.eval (.tmp 29) = .pointer (some ⟨p, o + kk * 2, none⟩) := hP 20 (by kernel_rfl)
          have e17 : ac.eval (.tmp 17) = .bool true := hP 8 (by kernel_rfl)
          exact rop_fld _ _ _ rfl e29 (fld_run1 _ _ _) (wanted_of (j := 8) (b := true) rfl rfl e17) (hK _ _ (le8_refl _) rfl)
        · intro ac w' hF hL hP hU K hK
          have hB := below_undrew hL
          have e30 : ac.eval (.tmp 30) = .pointer (some ⟨p, o + kk * 2 + 1, none⟩) := hP 21 (by kernel_rfl)
          have e17 : ac.eval (.tmp 17) = .bool true := hP 8 (by kernel_rfl)
          exact rop_ld _ _ rfl e30 (load_int ((hB.cell (p := ⟨p, _, none⟩) hp).trans c1)) (wanted_of (j := 8) (b := true) rfl rfl e17) (hK _ _ (le8_refl _) rfl)
        · intro ac w' hF hL hP hU K hK
          have hB := below_undrew hL
          have e24 : ac.eval (.tmp 24) = .int .i64 x := hP 15 (by kernel_rfl)
          have e31 : ac.eval (.tmp 31) = .int .i64 m := hP 22 (by kernel_rfl)
          have e17 : ac.eval (.tmp 17) = .bool true := hP 8 (by kernel_rfl)
          exact rop_bin _ _ _ _ _ rfl e24 e31 (guard_int _ _ _ _ _ _ _ w') (add_int _ _ _ (rfl) (by omega) w') (wanted_of (j := 8) (b := true) rfl rfl e17) (hK _ _ (le8_refl _) rfl)
        · intro ac w' hF hL hP hU K hK
          have hB := below_undrew hL
          have e1 : ac.eval (.tmp 1) = .slice (some ⟨q, r, none⟩) b.length capb := hF.at 1 (by kernel_rfl)
          have e17 : ac.eval (.tmp 17) = .bool true := hP 8 (by kernel_rfl)
          exact rop_move _ rfl e1 (wanted_of (j := 8) (b := true) rfl rfl e17) (hK _ _ (le8_refl _) rfl)
        · intro ac w' hF hL hP hU K hK
          have hB := below_undrew hL
          have e33 : ac.eval (.tmp 33) = .slice (some ⟨q, r, none⟩) b.length capb := hP 24 (by kernel_rfl)
          have e17 : ac.eval (.tmp 17) = .bool true := hP 8 (by kernel_rfl)
          exact rop_idx _ _ _ rfl e33 rfl (hiy _) (wanted_of (j := 8) (b := true) rfl rfl e17) (hK _ _ (le8_refl _) rfl)
        · intro ac w' hF hL hP hU K hK
          have hB := below_undrew hL
          have e34 : ac.eval (.tmp 34) = .pointer (some ⟨q, r + 0 * 2, none⟩) := hP 25 (by kernel_rfl)
          have e17 : ac.eval (.tmp 17) = .bool true := hP 8 (by kernel_rfl)
          exact rop_fld _ _ _ rfl e34 (fld_run0 _ _ _) (wanted_of (j := 8) (b := true) rfl rfl e17) (hK _ _ (le8_refl _) rfl)
        · intro ac w' hF hL hP hU K hK
          have hB := below_undrew hL
          have e35 : ac.eval (.tmp 35) = .pointer (some ⟨q, r + 0 * 2, none⟩) := hP 26 (by kernel_rfl)
          have e17 : ac.eval (.tmp 17) = .bool true := hP 8 (by kernel_rfl)
          exact rop_ld _ _ rfl e35 (load_int ((hB.cell (p := ⟨q, _, none⟩) hq).trans d0)) (wanted_of (j := 8) (b := true) rfl rfl e17) (hK _ _ (le8_refl _) rfl)
        · intro ac w' hF hL hP hU K hK
          have hB := below_undrew hL
          have e32 : ac.eval (.tmp 32) = .int .i64 (x + m) := hP 23 (by kernel_rfl)
          have e36 : ac.eval (.tmp 36) = .int .i64 y := hP 27 (by kernel_rfl)
          have e17 : ac.eval (.tmp 17) = .bool true := hP 8 (by kernel_rfl)
          exact rop_bin _ _ _ _ _ rfl e32 e36 (guard_int _ _ _ _ _ _ _ w') (eql_i _ _ _ (by rw [decide_eq_false_iff_not]; omega) w') (wanted_of (j := 8) (b := true) rfl rfl e17) (hK _ _ (le8_refl _) rfl)
        · intro ac w' hF hL hP hU K hK
          have hB := below_undrew hL
          have e17 : ac.eval (.tmp 17) = .bool true := hP 8 (by kernel_rfl)
          have e37 : ac.eval (.tmp 37) = .bool false := hP 28 (by kernel_rfl)
          exact rop_pick _ _ _ rfl true e17 (by simpa using e37) (wanted_none rfl) (hK _ _ (le8_refl _) rfl)
        · intro ac w' hF hB hT
          have e38 : ac.eval (.tmp 38) = .bool false := hT 29 (by decide)
          rw [hF.lit 64 rfl]
          simp only [List.range, List.range.loop, List.map_cons, List.map_nil, e38, hF.at 0 (by kernel_rfl), hF.at 1 (by kernel_rfl), hF.at 2 (by kernel_rfl), hF.at 3 (by kernel_rfl), hF.at 4 (by kernel_rfl), hF.at 5 (by kernel_rfl), hF.at 6 (by kernel_rfl), hF.at 7 (by kernel_rfl), hF.at 8 (by kernel_rfl), hF.at 39 (by kernel_rfl), hF.at 40 (by kernel_rfl), hF.at 41 (by kernel_rfl), hF.at 42 (by kernel_rfl), hF.at 43 (by kernel_rfl), hF.at 44 (by kernel_rfl), hF.at 45 (by kernel_rfl), hF.at 46 (by kernel_rfl), hF.at 47 (by kernel_rfl), hF.at 48 (by kernel_rfl), hF.at 49 (by kernel_rfl), hF.at 50 (by kernel_rfl), hF.at 51 (by kernel_rfl), hF.at 52 (by kernel_rfl), hF.at 53 (by kernel_rfl), hF.at 54 (by kernel_rfl), hF.at 55 (by kernel_rfl), hF.at 56 (by kernel_rfl), hF.at 57 (by kernel_rfl), hF.at 58 (by kernel_rfl), hF.at 59 (by kernel_rfl), hF.at 60 (by kernel_rfl), hF.at 61 (by kernel_rfl), hF.at 62 (by kernel_rfl), hF.at 63 (by kernel_rfl)]
          generalize ac.eval (.tmp 9) = u9
          generalize ac.eval (.tmp 10) = u10
          generalize ac.eval (.tmp 11) = u11
          generalize ac.eval (.tmp 12) = u12
          generalize ac.eval (.tmp 13) = u13
          generalize ac.eval (.tmp 14) = u14
          generalize ac.eval (.tmp 15) = u15
          generalize ac.eval (.tmp 16) = u16
          generalize ac.eval (.tmp 17) = u17
          generalize ac.eval (.tmp 18) = u18
          generalize ac.eval (.tmp 19) = u19
          generalize ac.eval (.tmp 20) = u20
          generalize ac.eval (.tmp 21) = u21
          generalize ac.eval (.tmp 22) = u22
          generalize ac.eval (.tmp 23) = u23
          generalize ac.eval (.tmp 24) = u24
          generalize ac.eval (.tmp 25) = u25
          generalize ac.eval (.tmp 26) = u26
          generalize ac.eval (.tmp 27) = u27
          generalize ac.eval (.tmp 28) = u28
          generalize ac.eval (.tmp 29) = u29
          generalize ac.eval (.tmp 30) = u30
          generalize ac.eval (.tmp 31) = u31
          generalize ac.eval (.tmp 32) = u32
          generalize ac.eval (.tmp 33) = u33
          generalize ac.eval (.tmp 34) = u34
          generalize ac.eval (.tmp 35) = u35
          generalize ac.eval (.tmp 36) = u36
          generalize ac.eval (.tmp 37) = u37
          simp only [Act.eval, Array.getD_eq_getD_getElem?, List.getElem?_toArray, List.getElem?_cons_succ, List.getElem?_cons_zero, Option.getD_some]
          clear e38 hT hF ac
          replace ho1 := ho1.kept hB
          replace hb := hb.old hB
          obtain ⟨v4, w4, hr4, ho4, b4⟩ := append_own (B := w.heap.size) 22 ho1 hb (by have := b1.size; have := hB.size; omega) (by omega)
          have HR4 := Lib.hid hr4
          clear hr4
          have hb1 := b1.trans (hB.mono b1.size)
          clear hB
          go_wp2_with (at_builtin; refine Lib.wpList_append_run _ rfl _ _ _ _ rfl _ _ rfl rfl _ _ HR4.out ?_)
          go_ret
          refine ⟨v4, rfl, ?_, hb1.trans b4⟩
          rw [HJ.out, if_neg hne]
          have hbb : a.take kk ++ (x, m) :: b = a ++ b := by
            have := congrArg (· ++ b) HL.out
            simpa using this
          rw [hbb]
          exact ho4.runs
end Go.Proofs.Ytlbnopfbfnobnaa
