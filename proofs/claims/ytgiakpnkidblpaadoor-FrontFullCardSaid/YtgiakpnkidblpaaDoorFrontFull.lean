/-
  FrontFull: a front of 2^40 leaves takes no more. For every hash; the numbers K of the package sha are as the program's own start lays them.
-/
import Derived.Test.YtgiakpnkidblpaaDoorFrontAwake
namespace Go.Proofs.YtgiakpnkidblpaaDoor.frontFull
open Go.ChangeShapes Go.WideShapes Go.ChangeAt Go.RowKit

def _root_.Go.Proofs.YtgiakpnkidblpaaDoor.RT.fpt (n : Nat) (P : Hs) : RT := ⟨fun v w => ∃ b, v = .tuple #[.pointer (some ⟨b, 0, none⟩), .int .i64 0] ∧ FP b n P w, fun _ _ _ ⟨b, e, h⟩ k => ⟨b, e, h.old k⟩⟩
def _root_.Go.Proofs.YtgiakpnkidblpaaDoor.RT.fpp (n : Nat) (P : Hs) : RT := ⟨fun v w => ∃ b, v = .pointer (some ⟨b, 0, none⟩) ∧ FP b n P w, fun _ _ _ ⟨b, e, h⟩ k => ⟨b, e, h.old k⟩⟩
section
variable {ops : Array Oper} {Q : Exit → Act → World → Prop} {a : Act} {w : World} {K : Act → World → Prop} {o : Oper}
theorem rop_extractF (x : Operand) (i : Nat) (hop : o.op = .extract x i) {vs : Array Value} {v : Value} (hx : a.eval x = .tuple vs) (hv : vs[i]? = some v) (hw : Region.wanted o (yielded ops a.tmps) = true) (h : K (a.put o.dst v) w) :
    if Region.wanted o (yielded ops a.tmps) = true then Oper.wp Tryd.prog o a w K Q else K (a.put o.dst undef) w :=
  rop_v hw (by simp [execOp, hop, hx, Instr.extract, hv]) h
end
theorem eql_errT (a : Int) (w : World) : (binOp .eql 38 (.int .i64 a) (.int .i64 a)).run Tryd.prog w = .ok (.bool true) w := by
  have h' : (a == a) = true := by simp
  go_simp
set_option maxHeartbeats 8000000 in
set_option maxRecDepth 100000 in
theorem walk {w : World} (hK : KT w) (x : List UInt8) (hx : x.length = 32) :
    Calls Tryd.prog 7 #[sumV x] w fun e w' => e = .returned (.bool true) ∧ Below w.heap.size w w' := by
  unfold sumV
  obtain ⟨V, hV⟩ : ∃ V, V = w.alloc (.cells (x.map u8V).toArray 31) := ⟨_, rfl⟩
  obtain ⟨q, hq⟩ : ∃ q, q = w.heap.size := ⟨_, rfl⟩
  have b0 : Below w.heap.size w V := by rw [hV]; exact (Below.refl _ _).alloc (Nat.le_refl _) _
  have hz : V.heap[q]? = some (.cells (x.map u8V).toArray 31 (0, 0)) := by rw [hV, hq]; exact heap_alloc_last _ _
  have HAW := Lib.hid (awake11_any V (hK.old b0))
  have h1 : Tree.ones 1099511627776 = 1 := by
    have := Tree.ones_pow 40
    rwa [show (2 : Nat) ^ 40 = 1099511627776 by decide] at this
  obtain ⟨S1, hS1⟩ : ∃ S, S = frontB 1099511627776 [x] := ⟨_, rfl⟩
  obtain ⟨S2, hS2⟩ : ∃ S, S = frontB 1099511627777 [x, x] := ⟨_, rfl⟩
  have ha1 : all32 [x] := all32.one hx
  have ha2 : all32 [x, x] := by intro y hy; simp at hy; rw [hy]; exact hx
  have HB1 : Hid (∀ (u : World) (v : Value), Sums u v [x] → Calls Tryd.prog 19 #[.int .i64 1099511627776, v] u fun e w' => e = .returned (.string S1) ∧ Below u.heap.size u w') := Lib.hid fun u v hv => by
    rw [hS1]
    exact rbytes11_any v 1099511627776 [x] u hv (by decide) (by simp)
  have HB2 : Hid (∀ (u : World) (v : Value), Sums u v [x, x] → Calls Tryd.prog 19 #[.int .i64 1099511627777, v] u fun e w' => e = .returned (.string S2) ∧ Below u.heap.size u w') := Lib.hid fun u v hv => by
    rw [hS2]
    exact rbytes11_any v 1099511627777 [x, x] u hv (by decide) (by simp)
  have HA2 := Lib.hid ha2
  have HR1 : Hid (∀ u : World, 0 < u.heap.size → Calls Tryd.prog 21 #[.string S1] u fun e w' => ∃ b, e = .returned (.tuple #[.pointer (some ⟨b, 0, none⟩), .int .i64 0]) ∧ u.heap.size ≤ b ∧ FP b 1099511627776 [x] w' ∧ Below u.heap.size u w') := Lib.hid fun u hu => by
    rw [hS1]
    exact read_fp 1099511627776 [x] u (by decide) (by rw [h1]; rfl) ha1 hu
  have HR2 : Hid (∀ u : World, Calls Tryd.prog 21 #[.string S2] u fun e w' => e = .returned (.tuple #[.pointer none, .int .i64 10]) ∧ Below u.heap.size u w') := Lib.hid fun u => by
    rw [hS2]
    exact read_big 1099511627777 [x, x] u (by decide) (by decide) (by simp) ha2
  have hpos : 0 < w.heap.size := hK.pos
  have Hpos := Lib.hid hpos
  have HKW := Lib.hid hK
  have HX := Lib.hid hx
  have HZ := Lib.hid hz
  have B0 := Lib.hid b0
  have Hq := Lib.hid hq
  clear hS1 hS2 ha1 ha2 h1 hK hx hz b0 hq hpos
  go_enter Tryd.func7, Tryd.ntmps7
  go_upto_region 1 with (fail)
  change Code.wp _ _ _ _ (w.alloc (.cells (x.map u8V).toArray 31))
  rw [← hV, ← Hq.out]
  clear hV
  go_upto_region 2 with (go_at_call 9; ((with_reducible refine HAW.out.mono ?_); rintro e w1 ⟨rfl, b1⟩))
  have ZX := Lib.hid ((b1.block q (Array.getElem?_eq_some_iff.1 HZ.out).1).trans HZ.out)
  have B1 := Lib.hid (below_step B0.out (Nat.le_refl _) b1)
  have HQ : Hid (q < w1.heap.size) := Lib.hid (Array.getElem?_eq_some_iff.1 ZX.out).1
  have HWS : Hid (w.heap.size ≤ w1.heap.size) := Lib.hid B1.out.size
  clear b1
  try simp only [Act.put]
  refine wp_region_tab0 [RT.is (sumV x), RT.sums [x], RT.is (.string S1), RT.fpt 1099511627776 [x], RT.fpt 1099511627776 [x], RT.fpp 1099511627776 [x], RT.is (.int .i64 0), RT.fpp 1099511627776 [x], RT.is (.int .i64 0)] (by kernel_rfl) (by kernel_rfl) (by kernel_rfl) ⟨?_, ?_, ?_, ?_, ?_, ?_, ?_, ?_, ?_, trivial⟩ ?_
  · intro ac w' hF hL hP hU K hK
    have hB : Below _ _ _ := hL
    have e1 : ac.eval (.tmp 1) = .pointer (some ⟨q, 0, none⟩) := hF.at 1 (by kernel_rfl)
    exact rop_ld _ _ rfl e1 (run_loadAt_mid _ _ _ _ _ _ (below_range hB HQ.out (range_of ZX.out)) Tryd.underlying31 rfl (sum_info' HX.out)) (wanted_none rfl) (hK _ _ (le8_refl _) rfl)
  · intro ac w' hF hL hP hU K hK
    have hB : Below _ _ _ := hL
    have e10 : ac.eval (.tmp 10) = sumV x := hP 0 (by kernel_rfl)
    exact rop_bslG _ _ _ rfl #[(0, sumV x)] (by simp [e10]) (build_sum1 x HX.out w') (wanted_none rfl) (hK _ _ ((Below.refl _ _).alloc (Nat.le_refl _) _) (Sums.one w' x HX.out))
  · intro ac w' hF hL hP hU K hK
    have hB : Below _ _ _ := hL
    have e11 : Sums w' (ac.eval (.tmp 11)) [x] := hP 1 (by kernel_rfl)
    refine rop_call 19 _ _ rfl #[.int .i64 1099511627776, ac.eval (.tmp 11)] (by simp [eval_const]) (by kernel_rfl) (wanted_none rfl) ?_
    refine (HB1.out w' _ e11).mono ?_
    rintro e w2 ⟨rfl, hb⟩
    exact ⟨_, rfl, hK _ _ hb rfl⟩
  · intro ac w' hF hL hP hU K hK
    have hB : Below _ _ _ := hL
    have e12 : ac.eval (.tmp 12) = .string S1 := hP 2 (by kernel_rfl)
    refine rop_call 21 _ _ rfl #[.string S1] (by simp [e12]) (by kernel_rfl) (wanted_none rfl) ?_
    refine (HR1.out w' (Nat.lt_of_lt_of_le Hpos.out (Nat.le_trans HWS.out hB.size))).mono ?_
    rintro e w2 ⟨b, rfl, -, hf, hb⟩
    exact ⟨_, rfl, hK _ _ hb ⟨b, rfl, hf⟩⟩
  · intro ac w' hF hL hP hU K hK
    have hB : Below _ _ _ := hL
    have e13 : ∃ b, (ac.eval (.tmp 13)) = .tuple #[.pointer (some ⟨b, 0, none⟩), .int .i64 0] ∧ FP b 1099511627776 [x] w' := hP 3 (by kernel_rfl)
    exact rop_move _ rfl rfl (wanted_none rfl) (hK _ _ (le8_refl _) e13)
  · intro ac w' hF hL hP hU K hK
    have hB : Below _ _ _ := hL
    have e9 : ∃ b, (ac.eval (.tmp 9)) = .tuple #[.pointer (some ⟨b, 0, none⟩), .int .i64 0] ∧ FP b 1099511627776 [x] w' := hP 4 (by kernel_rfl)
    obtain ⟨b9, h9, f9⟩ := e9
    exact rop_extractF _ 0 rfl h9 rfl (wanted_none rfl) (hK _ _ (le8_refl _) ⟨b9, rfl, f9⟩)
  · intro ac w' hF hL hP hU K hK
    have hB : Below _ _ _ := hL
    have e9 : ∃ b, (ac.eval (.tmp 9)) = .tuple #[.pointer (some ⟨b, 0, none⟩), .int .i64 0] ∧ FP b 1099511627776 [x] w' := hP 4 (by kernel_rfl)
    obtain ⟨b9, h9, f9⟩ := e9
    exact rop_extractF _ 1 rfl h9 rfl (wanted_none rfl) (hK _ _ (le8_refl _) rfl)
  · intro ac w' hF hL hP hU K hK
    have hB : Below _ _ _ := hL
    have e14 : ∃ b, (ac.eval (.tmp 14)) = .pointer (some ⟨b, 0, none⟩) ∧ FP b 1099511627776 [x] w' := hP 5 (by kernel_rfl)
    exact rop_assign _ rfl rfl (wanted_none rfl) (hK _ _ (le8_refl _) e14)
  · intro ac w' hF hL hP hU K hK
    have hB : Below _ _ _ := hL
    have e15 : ac.eval (.tmp 15) = .int .i64 0 := hP 6 (by kernel_rfl)
    exact rop_assign _ rfl e15 (wanted_none rfl) (hK _ _ (le8_refl _) rfl)
  · intro ac w' hF hB hT
    have e4 : ∃ b, (ac.eval (.tmp 4)) = .pointer (some ⟨b, 0, none⟩) ∧ FP b 1099511627776 [x] w' := hT 7 (by decide)
    have e5 : ac.eval (.tmp 5) = .int .i64 0 := hT 8 (by decide)
    rw [hF.setsG [10, 11, 12, 13, 9, 14, 15, 4, 5] (by kernel_rfl)]
    simp only [List.foldl_cons, List.foldl_nil, List.setIfInBounds_toArray, List.set_cons_succ, List.set_cons_zero, e5]
    generalize ac.eval (.tmp 10) = u10
    generalize ac.eval (.tmp 11) = u11
    generalize ac.eval (.tmp 12) = u12
    generalize ac.eval (.tmp 13) = u13
    generalize ac.eval (.tmp 9) = u9
    generalize ac.eval (.tmp 14) = u14
    generalize ac.eval (.tmp 15) = u15
    generalize ac.eval (.tmp 4) = v4 at e4 ⊢
    clear e5 hT hF ac
    obtain ⟨w3, h3⟩ : ∃ u, u = w' := ⟨_, rfl⟩
    subst h3
    obtain ⟨fb, rfl, f3⟩ := e4
    have F3 := Lib.hid f3
    have B3 := Lib.hid (below_step B1.out (Nat.le_refl _) hB)
    have ZX0 := Lib.hid ((hB.block q HQ.out).trans ZX.out)
    clear f3 hB ZX HQ B1 HWS
    have ZX := ZX0
    have HQ : Hid (q < w3.heap.size) := Lib.hid (Array.getElem?_eq_some_iff.1 ZX.out).1
    clear ZX0
    go_upto_region 3 with (fail)
    try simp only [Act.put]
    refine wp_region_tab0 [RT.is (sumV x), RT.is (sumV x), RT.sums [x, x], RT.is (.string S2), RT.is (.tuple #[.pointer none, .int .i64 10]), RT.is (.tuple #[.pointer none, .int .i64 10]), RT.is (.pointer none), RT.is (.int .i64 10), RT.is (.pointer none), RT.is (.int .i64 10)] (by kernel_rfl) (by kernel_rfl) (by kernel_rfl) ⟨?_, ?_, ?_, ?_, ?_, ?_, ?_, ?_, ?_, ?_, trivial⟩ ?_
    · intro ac w' hF hL hP hU K hK
      have hB : Below _ _ _ := hL
      have e1 : ac.eval (.tmp 1) = .pointer (some ⟨q, 0, none⟩) := hF.at 1 (by kernel_rfl)
      exact rop_ld _ _ rfl e1 (run_loadAt_mid _ _ _ _ _ _ (below_range hB HQ.out (range_of ZX.out)) Tryd.underlying31 rfl (sum_info' HX.out)) (wanted_none rfl) (hK _ _ (le8_refl _) rfl)
    · intro ac w' hF hL hP hU K hK
      have hB : Below _ _ _ := hL
      have e1 : ac.eval (.tmp 1) = .pointer (some ⟨q, 0, none⟩) := hF.at 1 (by kernel_rfl)
      exact rop_ld _ _ rfl e1 (run_loadAt_mid _ _ _ _ _ _ (below_range hB HQ.out (range_of ZX.out)) Tryd.underlying31 rfl (sum_info' HX.out)) (wanted_none rfl) (hK _ _ (le8_refl _) rfl)
    · intro ac w' hF hL hP hU K hK
      have hB : Below _ _ _ := hL
      have e17 : ac.eval (.tmp 17) = sumV x := hP 0 (by kernel_rfl)
      have e18 : ac.eval (.tmp 18) = sumV x := hP 1 (by kernel_rfl)
      exact rop_bslG _ _ _ rfl #[(0, sumV x), (1, sumV x)] (by simp [e17, e18]) (build_sums 2 [x, x] HA2.out rfl (by decide) (by decide) w') (wanted_none rfl) (hK _ _ ((Below.refl _ _).alloc (Nat.le_refl _) _) (Sums.build w' [x, x] HA2.out 2 rfl (by decide)))
    · intro ac w' hF hL hP hU K hK
      have hB : Below _ _ _ := hL
      have e19 : Sums w' (ac.eval (.tmp 19)) [x, x] := hP 2 (by kernel_rfl)
      refine rop_call 19 _ _ rfl #[.int .i64 1099511627777, ac.eval (.tmp 19)] (by simp [eval_const]) (by kernel_rfl) (wanted_none rfl) ?_
      refine (HB2.out w' _ e19).mono ?_
      rintro e w2 ⟨rfl, hb⟩
      exact ⟨_, rfl, hK _ _ hb rfl⟩
    · intro ac w' hF hL hP hU K hK
      have hB : Below _ _ _ := hL
      have e20 : ac.eval (.tmp 20) = .string S2 := hP 3 (by kernel_rfl)
      refine rop_call 21 _ _ rfl #[.string S2] (by simp [e20]) (by kernel_rfl) (wanted_none rfl) ?_
      refine (HR2.out w').mono ?_
      rintro e w2 ⟨rfl, hb⟩
      exact ⟨_, rfl, hK _ _ hb rfl⟩
    · intro ac w' hF hL hP hU K hK
      have hB : Below _ _ _ := hL
      have e21 : ac.eval (.tmp 21) = .tuple #[.pointer none, .int .i64 10] := hP 4 (by kernel_rfl)
      exact rop_move _ rfl e21 (wanted_none rfl) (hK _ _ (le8_refl _) rfl)
    · intro ac w' hF hL hP hU K hK
      have hB : Below _ _ _ := hL
      have e16 : ac.eval (.tmp 16) = .tuple #[.pointer none, .int .i64 10] := hP 5 (by kernel_rfl)
      exact rop_extractF _ 0 rfl e16 rfl (wanted_none rfl) (hK _ _ (le8_refl _) rfl)
    · intro ac w' hF hL hP hU K hK
      have hB : Below _ _ _ := hL
      have e16 : ac.eval (.tmp 16) = .tuple #[.pointer none, .int .i64 10] := hP 5 (by kernel_rfl)
      exact rop_extractF _ 1 rfl e16 rfl (wanted_none rfl) (hK _ _ (le8_refl _) rfl)
    · intro ac w' hF hL hP hU K hK
      have hB : Below _ _ _ := hL
      have e22 : ac.eval (.tmp 22) = .pointer none := hP 6 (by kernel_rfl)
      exact rop_assign _ rfl e22 (wanted_none rfl) (hK _ _ (le8_refl _) rfl)
    · intro ac w' hF hL hP hU K hK
      have hB : Below _ _ _ := hL
      have e23 : ac.eval (.tmp 23) = .int .i64 10 := hP 7 (by kernel_rfl)
      exact rop_assign _ rfl e23 (wanted_none rfl) (hK _ _ (le8_refl _) rfl)
    · intro ac w' hF hB hT
      have e6 : ac.eval (.tmp 6) = .pointer none := hT 8 (by decide)
      have e7 : ac.eval (.tmp 7) = .int .i64 10 := hT 9 (by decide)
      rw [hF.setsG [17, 18, 19, 20, 21, 16, 22, 23, 6, 7] (by kernel_rfl)]
      simp only [List.foldl_cons, List.foldl_nil, List.setIfInBounds_toArray, List.set_cons_succ, List.set_cons_zero, e6, e7]
      generalize ac.eval (.tmp 17) = u17
      generalize ac.eval (.tmp 18) = u18
      generalize ac.eval (.tmp 19) = u19
      generalize ac.eval (.tmp 20) = u20
      generalize ac.eval (.tmp 21) = u21
      generalize ac.eval (.tmp 16) = u16
      generalize ac.eval (.tmp 22) = u22
      generalize ac.eval (.tmp 23) = u23
      clear e6 e7 hT hF ac
      obtain ⟨w5, h5⟩ : ∃ u, u = w' := ⟨_, rfl⟩
      subst h5
      have F5 := Lib.hid (F3.out.old hB)
      have B5 := Lib.hid (below_step B3.out (Nat.le_refl _) hB)
      have ZX0 := Lib.hid ((hB.block q HQ.out).trans ZX.out)
      clear hB ZX HQ B3 F3
      go_upto_region 4 with (fail)
      try simp only [Act.put]
      refine wp_region_tab0 [RT.is (.pointer (some ⟨fb, 0, none⟩)), RT.is (.bool false), RT.is (.bool false), RT.is (.int .i64 0), RT.is (.bool false), RT.is (.bool false)] (by kernel_rfl) (by kernel_rfl) (by kernel_rfl) ⟨?_, ?_, ?_, ?_, ?_, ?_, trivial⟩ ?_
      · intro ac w' hF hL hP hU K hK
        have hB : Below _ _ _ := hL
        have e4 : ac.eval (.tmp 4) = .pointer (some ⟨fb, 0, none⟩) := hF.at 4 (by kernel_rfl)
        exact rop_move _ rfl e4 (wanted_none rfl) (hK _ _ (le8_refl _) rfl)
      · intro ac w' hF hL hP hU K hK
        have hB : Below _ _ _ := hL
        have e24 : ac.eval (.tmp 24) = .pointer (some ⟨fb, 0, none⟩) := hP 0 (by kernel_rfl)
        exact rop_bin _ _ _ _ _ rfl e24 rfl (guard_ptr _ _ _ _ _ _ w') (eql_ptr_none fb w') (wanted_none rfl) (hK _ _ (le8_refl _) rfl)
      · intro ac w' hF hL hP hU K hK
        have hB : Below _ _ _ := hL
        have e25 : ac.eval (.tmp 25) = .bool false := hP 1 (by kernel_rfl)
        exact rop_move _ rfl e25 (wanted_none rfl) (hK _ _ (le8_refl _) rfl)
      · intro ac w' hF hL hP hU K hK
        have hB : Below _ _ _ := hL
        have e5 : ac.eval (.tmp 5) = .int .i64 0 := hF.at 5 (by kernel_rfl)
        have e26 : ac.eval (.tmp 26) = .bool false := hP 2 (by kernel_rfl)
        exact rop_move _ rfl e5 (wanted_of (j := 2) (b := false) rfl rfl e26) (hK _ _ (le8_refl _) rfl)
      · intro ac w' hF hL hP hU K hK
        have hB : Below _ _ _ := hL
        have e27 : ac.eval (.tmp 27) = .int .i64 0 := hP 3 (by kernel_rfl)
        have e26 : ac.eval (.tmp 26) = .bool false := hP 2 (by kernel_rfl)
        exact rop_bin _ _ _ _ _ rfl e27 rfl (guard_int _ _ _ _ _ _ _ w') (neq_errT _ w') (wanted_of (j := 2) (b := false) rfl rfl e26) (hK _ _ (le8_refl _) rfl)
      · intro ac w' hF hL hP hU K hK
        have hB : Below _ _ _ := hL
        have e26 : ac.eval (.tmp 26) = .bool false := hP 2 (by kernel_rfl)
        have e28 : ac.eval (.tmp 28) = .bool false := hP 4 (by kernel_rfl)
        exact rop_pick _ _ _ rfl false e26 (by simpa using e28) (wanted_none rfl) (hK _ _ (le8_refl _) rfl)
      · intro ac w' hF hB hT
        have e29 : ac.eval (.tmp 29) = .bool false := hT 5 (by decide)
        rw [hF.setsG [24, 25, 26, 27, 28, 29] (by kernel_rfl)]
        simp only [List.foldl_cons, List.foldl_nil, List.setIfInBounds_toArray, List.set_cons_succ, List.set_cons_zero, e29]
        generalize ac.eval (.tmp 24) = u24
        generalize ac.eval (.tmp 25) = u25
        generalize ac.eval (.tmp 26) = u26
        generalize ac.eval (.tmp 27) = u27
        generalize ac.eval (.tmp 28) = u28
        clear e29 hT hF ac
        obtain ⟨w6, h6⟩ : ∃ u, u = w' := ⟨_, rfl⟩
        subst h6
        have F6 := Lib.hid (F5.out.old hB)
        have ZX := Lib.hid ((hB.block q (Array.getElem?_eq_some_iff.1 ZX0.out).1).trans ZX0.out)
        have B6 := Lib.hid (below_step B5.out (Nat.le_refl _) hB)
        have HQ : Hid (q < w6.heap.size) := Lib.hid (Array.getElem?_eq_some_iff.1 ZX.out).1
        have HAD : Hid (∀ u, Below w6.heap.size w6 u → Calls Tryd.prog 20 #[.pointer (some ⟨fb, 0, none⟩), sumV x] u fun e w' => e = .returned (.int .i64 0) ∧ Below u.heap.size u w') := Lib.hid fun u hu => by
          obtain ⟨-, -, Q, hf, -⟩ := F6.out.old hu
          exact fadd_full fb Q x u hf
        have HSZ : Hid (∀ u, Below w6.heap.size w6 u → Calls Tryd.prog 15 #[.pointer (some ⟨fb, 0, none⟩)] u fun e w' => e = .returned (.int .i64 1099511627776) ∧ Below u.heap.size u w') := Lib.hid fun u hu => (size_fp fb 1099511627776 [x] u (F6.out.old hu)).mono fun e w' ⟨h1, h2⟩ => ⟨h1, h2 ▸ Below.refl _ _⟩
        have HRT : Hid (∀ u, Below w6.heap.size w6 u → Calls Tryd.prog 16 #[.pointer (some ⟨fb, 0, none⟩)] u fun e w' => e = .returned (sumV x) ∧ Below u.heap.size u w') := Lib.hid fun u hu => root_fp fb 1099511627776 [x] u (F6.out.old hu) (HKW.out.old (below_step B6.out (Nat.le_refl _) hu))
        clear hB
        go_upto_region 6 with (fail)
        try simp only [Act.put]
        refine wp_region_tab [RT.is (.bool true), RT.is (.bool true), RT.is (.pointer none), RT.is (.bool true), RT.is (.bool true), RT.is (.bool true), RT.is (.int .i64 10), RT.is (.bool true), RT.is (.bool true), RT.is (.bool true), RT.is (.pointer (some ⟨fb, 0, none⟩)), RT.is (sumV x), RT.is (.int .i64 0), RT.is (.bool true), RT.is (.bool true), RT.is (.bool true), RT.is (.pointer (some ⟨fb, 0, none⟩)), RT.is (.int .i64 1099511627776), RT.is (.bool true), RT.is (.bool true), RT.is (.bool true), RT.is (.pointer (some ⟨fb, 0, none⟩)), RT.is (sumV x), RT.is (sumV x), RT.is (.bool true), RT.is (.bool true), RT.is (.bool true)] (by kernel_rfl) (by kernel_rfl) (by kernel_rfl) (by kernel_rfl) ⟨?_, ?_, ?_, ?_, ?_, ?_, ?_, ?_, ?_, ?_, ?_, ?_, ?_, ?_, ?_, ?_, ?_, ?_, ?_, ?_, ?_, ?_, ?_, ?_, ?_, ?_, ?_, trivial⟩ ?_
        · intro ac w' hF hL hP hU K hK
          have hB := below_undrew hL
          have e3 : ac.eval (.tmp 3) = .bool true := hF.at 3 (by kernel_rfl)
          exact rop_move _ rfl e3 (wanted_none rfl) (hK _ _ (le8_refl _) rfl)
        · intro ac w' hF hL hP hU K hK
          have hB := below_undrew hL
          have e30 : ac.eval (.tmp 30) = .bool true := hP 0 (by kernel_rfl)
          exact rop_move _ rfl e30 (wanted_none rfl) (hK _ _ (le8_refl _) rfl)
        · intro ac w' hF hL hP hU K hK
          have hB := below_undrew hL
          have e6 : ac.eval (.tmp 6) = .pointer none := hF.at 6 (by kernel_rfl)
          have e31 : ac.eval (.tmp 31) = .bool true := hP 1 (by kernel_rfl)
          exact rop_move _ rfl e6 (wanted_of (j := 1) (b := true) rfl rfl e31) (hK _ _ (le8_refl _) rfl)
        · intro ac w' hF hL hP hU K hK
          have hB := below_undrew hL
          have e32 : ac.eval (.tmp 32) = .pointer none := hP 2 (by kernel_rfl)
          have e31 : ac.eval (.tmp 31) = .bool true := hP 1 (by kernel_rfl)
          exact rop_bin _ _ _ _ _ rfl e32 rfl (guard_ptr _ _ _ _ _ _ w') (eql_none_none w') (wanted_of (j := 1) (b := true) rfl rfl e31) (hK _ _ (le8_refl _) rfl)
        · intro ac w' hF hL hP hU K hK
          have hB := below_undrew hL
          have e31 : ac.eval (.tmp 31) = .bool true := hP 1 (by kernel_rfl)
          have e33 : ac.eval (.tmp 33) = .bool true := hP 3 (by kernel_rfl)
          exact rop_pick _ _ _ rfl true e31 (by simpa using e33) (wanted_none rfl) (hK _ _ (le8_refl _) rfl)
        · intro ac w' hF hL hP hU K hK
          have hB := below_undrew hL
          have e34 : ac.eval (.tmp 34) = .bool true := hP 4 (by kernel_rfl)
          exact rop_move _ rfl e34 (wanted_none rfl) (hK _ _ (le8_refl _) rfl)
        · intro ac w' hF hL hP hU K hK
          have hB := below_undrew hL
          have e7 : ac.eval (.tmp 7) = .int .i64 10 := hF.at 7 (by kernel_rfl)
          have e35 : ac.eval (.tmp 35) = .bool true := hP 5 (by kernel_rfl)
          exact rop_move _ rfl e7 (wanted_of (j := 5) (b := true) rfl rfl e35) (hK _ _ (le8_refl _) rfl)
        · intro ac w' hF hL hP hU K hK
          have hB := below_undrew hL
          have e36 : ac.eval (.tmp 36) = .int .i64 10 := hP 6 (by kernel_rfl)
          have e35 : ac.eval (.tmp 35) = .bool true := hP 5 (by kernel_rfl)
          exact rop_bin _ _ _ _ _ rfl e36 rfl (guard_int _ _ _ _ _ _ _ w') (eql_errT _ w') (wanted_of (j := 5) (b := true) rfl rfl e35) (hK _ _ (le8_refl _) rfl)
        · intro ac w' hF hL hP hU K hK
          have hB := below_undrew hL
          have e35 : ac.eval (.tmp 35) = .bool true := hP 5 (by kernel_rfl)
          have e37 : ac.eval (.tmp 37) = .bool true := hP 7 (by kernel_rfl)
          exact rop_pick _ _ _ rfl true e35 (by simpa using e37) (wanted_none rfl) (hK _ _ (le8_refl _) rfl)
        · intro ac w' hF hL hP hU K hK
          have hB := below_undrew hL
          have e38 : ac.eval (.tmp 38) = .bool true := hP 8 (by kernel_rfl)
          exact rop_move _ rfl e38 (wanted_none rfl) (hK _ _ (le8_refl _) rfl)
        · intro ac w' hF hL hP hU K hK
          have hB := below_undrew hL
          have e4 : ac.eval (.tmp 4) = .pointer (some ⟨fb, 0, none⟩) := hF.at 4 (by kernel_rfl)
          have e39 : ac.eval (.tmp 39) = .bool true := hP 9 (by kernel_rfl)
          exact rop_move _ rfl e4 (wanted_of (j := 9) (b := true) rfl rfl e39) (hK _ _ (le8_refl _) rfl)
        · intro ac w' hF hL hP hU K hK
          have hB := below_undrew hL
          have e1 : ac.eval (.tmp 1) = .pointer (some ⟨q, 0, none⟩) := hF.at 1 (by kernel_rfl)
          have e39 : ac.eval (.tmp 39) = .bool true := hP 9 (by kernel_rfl)
          exact rop_ld _ _ rfl e1 (run_loadAt_mid _ _ _ _ _ _ (below_range hB HQ.out (range_of ZX.out)) Tryd.underlying31 rfl (sum_info' HX.out)) (wanted_of (j := 9) (b := true) rfl rfl e39) (hK _ _ (le8_refl _) rfl)
        · intro ac w' hF hL hP hU K hK
          have hB := below_undrew hL
          have e40 : ac.eval (.tmp 40) = .pointer (some ⟨fb, 0, none⟩) := hP 10 (by kernel_rfl)
          have e41 : ac.eval (.tmp 41) = sumV x := hP 11 (by kernel_rfl)
          have e39 : ac.eval (.tmp 39) = .bool true := hP 9 (by kernel_rfl)
          refine rop_call 20 _ _ rfl #[.pointer (some ⟨fb, 0, none⟩), sumV x] (by simp [e40, e41]) (by kernel_rfl) (wanted_of (j := 9) (b := true) rfl rfl e39) ?_
          refine (HAD.out w' hB).mono ?_
          rintro e w2 ⟨rfl, hb⟩
          exact ⟨_, rfl, hK _ _ hb rfl⟩
        · intro ac w' hF hL hP hU K hK
          have hB := below_undrew hL
          have e42 : ac.eval (.tmp 42) = .int .i64 0 := hP 12 (by kernel_rfl)
          have e39 : ac.eval (.tmp 39) = .bool true := hP 9 (by kernel_rfl)
          exact rop_bin _ _ _ _ _ rfl e42 rfl (guard_int _ _ _ _ _ _ _ w') (eql_iT _ w') (wanted_of (j := 9) (b := true) rfl rfl e39) (hK _ _ (le8_refl _) rfl)
        · intro ac w' hF hL hP hU K hK
          have hB := below_undrew hL
          have e39 : ac.eval (.tmp 39) = .bool true := hP 9 (by kernel_rfl)
          have e43 : ac.eval (.tmp 43) = .bool true := hP 13 (by kernel_rfl)
          exact rop_pick _ _ _ rfl true e39 (by simpa using e43) (wanted_none rfl) (hK _ _ (le8_refl _) rfl)
        · intro ac w' hF hL hP hU K hK
          have hB := below_undrew hL
          have e44 : ac.eval (.tmp 44) = .bool true := hP 14 (by kernel_rfl)
          exact rop_move _ rfl e44 (wanted_none rfl) (hK _ _ (le8_refl _) rfl)
        · intro ac w' hF hL hP hU K hK
          have hB := below_undrew hL
          have e4 : ac.eval (.tmp 4) = .pointer (some ⟨fb, 0, none⟩) := hF.at 4 (by kernel_rfl)
          have e45 : ac.eval (.tmp 45) = .bool true := hP 15 (by kernel_rfl)
          exact rop_move _ rfl e4 (wanted_of (j := 15) (b := true) rfl rfl e45) (hK _ _ (le8_refl _) rfl)
        · intro ac w' hF hL hP hU K hK
          have hB := below_undrew hL
          have e46 : ac.eval (.tmp 46) = .pointer (some ⟨fb, 0, none⟩) := hP 16 (by kernel_rfl)
          have e45 : ac.eval (.tmp 45) = .bool true := hP 15 (by kernel_rfl)
          refine rop_call 15 _ _ rfl #[.pointer (some ⟨fb, 0, none⟩)] (by simp [e46]) (by kernel_rfl) (wanted_of (j := 15) (b := true) rfl rfl e45) ?_
          refine (HSZ.out w' hB).mono ?_
          rintro e w2 ⟨rfl, hb⟩
          exact ⟨_, rfl, hK _ _ hb rfl⟩
        · intro ac w' hF hL hP hU K hK
          have hB := below_undrew hL
          have e47 : ac.eval (.tmp 47) = .int .i64 1099511627776 := hP 17 (by kernel_rfl)
          have e45 : ac.eval (.tmp 45) = .bool true := hP 15 (by kernel_rfl)
          exact rop_bin _ _ _ _ _ rfl e47 rfl (guard_int _ _ _ _ _ _ _ w') (eql_iT _ w') (wanted_of (j := 15) (b := true) rfl rfl e45) (hK _ _ (le8_refl _) rfl)
        · intro ac w' hF hL hP hU K hK
          have hB := below_undrew hL
          have e45 : ac.eval (.tmp 45) = .bool true := hP 15 (by kernel_rfl)
          have e48 : ac.eval (.tmp 48) = .bool true := hP 18 (by kernel_rfl)
          exact rop_pick _ _ _ rfl true e45 (by simpa using e48) (wanted_none rfl) (hK _ _ (le8_refl _) rfl)
        · intro ac w' hF hL hP hU K hK
          have hB := below_undrew hL
          have e49 : ac.eval (.tmp 49) = .bool true := hP 19 (by kernel_rfl)
          exact rop_move _ rfl e49 (wanted_none rfl) (hK _ _ (le8_refl _) rfl)
        · intro ac w' hF hL hP hU K hK
          have hB := below_undrew hL
          have e4 : ac.eval (.tmp 4) = .pointer (some ⟨fb, 0, none⟩) := hF.at 4 (by kernel_rfl)
          have e50 : ac.eval (.tmp 50) = .bool true := hP 20 (by kernel_rfl)
          exact rop_move _ rfl e4 (wanted_of (j := 20) (b := true) rfl rfl e50) (hK _ _ (le8_refl _) rfl)
        · intro ac w' hF hL hP hU K hK
          have hB := below_undrew hL
          have e51 : ac.eval (.tmp 51) = .pointer (some ⟨fb, 0, none⟩) := hP 21 (by kernel_rfl)
          have e50 : ac.eval (.tmp 50) = .bool true := hP 20 (by kernel_rfl)
          refine rop_call 16 _ _ rfl #[.pointer (some ⟨fb, 0, none⟩)] (by simp [e51]) (by kernel_rfl) (wanted_of (j := 20) (b := true) rfl rfl e50) ?_
          refine (HRT.out w' hB).mono ?_
          rintro e w2 ⟨rfl, hb⟩
          exact ⟨_, rfl, hK _ _ hb rfl⟩
        · intro ac w' hF hL hP hU K hK
          have hB := below_undrew hL
          have e1 : ac.eval (.tmp 1) = .pointer (some ⟨q, 0, none⟩) := hF.at 1 (by kernel_rfl)
          have e50 : ac.eval (.tmp 50) = .bool true := hP 20 (by kernel_rfl)
          exact rop_ld _ _ rfl e1 (run_loadAt_mid _ _ _ _ _ _ (below_range hB HQ.out (range_of ZX.out)) Tryd.underlying31 rfl (sum_info' HX.out)) (wanted_of (j := 20) (b := true) rfl rfl e50) (hK _ _ (le8_refl _) rfl)
        · intro ac w' hF hL hP hU K hK
          have hB := below_undrew hL
          have e52 : ac.eval (.tmp 52) = sumV x := hP 22 (by kernel_rfl)
          have e53 : ac.eval (.tmp 53) = sumV x := hP 23 (by kernel_rfl)
          have e50 : ac.eval (.tmp 50) = .bool true := hP 20 (by kernel_rfl)
          exact rop_bin _ _ _ _ _ rfl e52 e53 (guard_run .eql _ _ _ _ w') (eql_sum_tt x x HX.out HX.out rfl w') (wanted_of (j := 20) (b := true) rfl rfl e50) (hK _ _ (le8_refl _) rfl)
        · intro ac w' hF hL hP hU K hK
          have hB := below_undrew hL
          have e50 : ac.eval (.tmp 50) = .bool true := hP 20 (by kernel_rfl)
          have e54 : ac.eval (.tmp 54) = .bool true := hP 24 (by kernel_rfl)
          exact rop_pick _ _ _ rfl true e50 (by simpa using e54) (wanted_none rfl) (hK _ _ (le8_refl _) rfl)
        · intro ac w' hF hL hP hU K hK
          have hB := below_undrew hL
          have e55 : ac.eval (.tmp 55) = .bool true := hP 25 (by kernel_rfl)
          exact rop_assign _ rfl e55 (wanted_none rfl) (hK _ _ (le8_refl _) rfl)
        · intro ac w' hF hB hT
          have e2 : ac.eval (.tmp 2) = .bool true := hT 26 (by decide)
          rw [hF.setsG [30, 31, 32, 33, 34, 35, 36, 37, 38, 39, 40, 41, 42, 43, 44, 45, 46, 47, 48, 49, 50, 51, 52, 53, 54, 55, 2] (by kernel_rfl)]
          simp only [List.foldl_cons, List.foldl_nil, List.setIfInBounds_toArray, List.set_cons_succ, List.set_cons_zero, e2]
          generalize ac.eval (.tmp 30) = u30
          generalize ac.eval (.tmp 31) = u31
          generalize ac.eval (.tmp 32) = u32
          generalize ac.eval (.tmp 33) = u33
          generalize ac.eval (.tmp 34) = u34
          generalize ac.eval (.tmp 35) = u35
          generalize ac.eval (.tmp 36) = u36
          generalize ac.eval (.tmp 37) = u37
          generalize ac.eval (.tmp 38) = u38
          generalize ac.eval (.tmp 39) = u39
          generalize ac.eval (.tmp 40) = u40
          generalize ac.eval (.tmp 41) = u41
          generalize ac.eval (.tmp 42) = u42
          generalize ac.eval (.tmp 43) = u43
          generalize ac.eval (.tmp 44) = u44
          generalize ac.eval (.tmp 45) = u45
          generalize ac.eval (.tmp 46) = u46
          generalize ac.eval (.tmp 47) = u47
          generalize ac.eval (.tmp 48) = u48
          generalize ac.eval (.tmp 49) = u49
          generalize ac.eval (.tmp 50) = u50
          generalize ac.eval (.tmp 51) = u51
          generalize ac.eval (.tmp 52) = u52
          generalize ac.eval (.tmp 53) = u53
          generalize ac.eval (.tmp 54) = u54
          generalize ac.eval (.tmp 55) = u55
          clear e2 hT hF ac
          go_wp2
          go_ret
          exact ⟨rfl, below_step B6.out (Nat.le_refl _) hB⟩
set_option maxRecDepth 100000 in
theorem lifted (os : Os) (started : os.Started) (H : Type) (enc : TypeId × Value → H) :
    ReturnsInHanded {} Tryd.checked os 7 .any (fun w args => (Rows.frontFullSpec.pre enc Tryd.prog Tryd.f7 [] false w args ∧ laidMetH Tryd.prog [("scrinium/sha.k", Rows.laid_scrinium_sha_k)] w) ∧ sizedMet enc Tryd.prog Tryd.f7 (OpenSpec.ofChange Rows.frontFullSpec) false w args)
      (Rows.frontFullSpec.post enc Tryd.prog Tryd.f7 false true false false) := by
  refine returnsInHanded_of_change_and (C := Tryd.checked) (X := fun w _ => laidMetH Tryd.prog [("scrinium/sha.k", Rows.laid_scrinium_sha_k)] w) (fun _ _ _ hh h => h.of_heap hh) lawOwn started (by kernel_rfl) Tryd.func7
    (ChangeSpec.witness_shaped (enc := enc) (C := Tryd.checked) (os := os) (X := fun w _ => laidMetH Tryd.prog [("scrinium/sha.k", Rows.laid_scrinium_sha_k)] w) false (World.doorLaid Tryd.prog 400 os) #[sumV (List.replicate 32 0)] 8 rfl (World.shaped_of_RefB (by kernel_rfl) (by kernel_rfl)) (by kernel_rfl) (by kernel_rfl) (by kernel_rfl) (door_met os _)) ?_
  intro W base args ds gs before hval0 hW _ _ hL _
  have hval : ∀ (j : Nat) t v, Tryd.f7.params[j]? = some t → args[j]? = some v → Value.okWide Tryd.prog W .any base t v := hval0
  have hW' := hW
  obtain ⟨p, q, hA0, hV, rfl, hfz, hnd⟩ := hW
  have hA : DataW.TrodAll enc Tryd.prog W 0 (fun _ => true) true Tryd.f7.params.toList args.toList ds p := hA0
  rw [Tryd.params7] at hA hval
  obtain ⟨v0, vs0, d0, ds0, p0, q0, hargs, rfl, rfl, h0, r0⟩ := trodAll_cons hA
  obtain ⟨rfl, rfl, rfl⟩ := trodAll_nil r0
  obtain rfl : args = #[v0] := by cases args; simp_all
  obtain ⟨rfl, rfl⟩ := trodVars_none hV
  have hKT := KT_of_laid hL
  obtain ⟨x0, rfl, w0⟩ := open_sum (hval 0 31 v0 rfl rfl) h0
  clear hA0 hval0
  refine (walk (w := W) hKT x0 w0).mono fun e W' ⟨he, bel⟩ => ?_
  subst he
  exact ⟨_, rfl, law_post rfl rfl (by kernel_rfl) hW' rfl bel⟩

theorem row_holds : Rows.FrontFullSaid :=
  OpenClaim.holds_of_wide 7 Tryd.f7 rfl rfl rfl rfl rfl rfl rfl ⟨rfl, rfl, rfl, rfl, rfl⟩ rfl rfl rfl rfl rfl (by kernel_rfl) Tryd.func7 (by kernel_rfl)
    (of_decide_eq_true (by kernel_rfl)) (by unfold Func.isWrapper; first | (rw [if_pos (by decide +kernel)]; kernel_rfl) | (rw [if_neg (by decide +kernel)]; exact ⟨rfl, rfl⟩))
    (fun os started H enc _ => lifted os started H enc)

theorem holds : Rows.FrontFullCardSaid :=
  Claim7.holds_tied_plain_at .later [] [.data] true Rows.frontFullCard.stood.harness false
    row_holds (fun _ h => by cases h) (by kernel_rfl) (fun _ h => by cases h) frontFull_row_tie rfl ⟨rfl, rfl⟩ (by kernel_rfl) rfl
    (fun f fn hf hfn => by
      obtain rfl : f = 7 := Option.some.inj ((show Tryd.prog.funcNamed "scrinium/scriniumlaw11.FrontFull" = some 7 by kernel_rfl).symm.trans hf) |>.symm
      obtain rfl : fn = Tryd.f7 := (Option.some.inj (Tryd.func7.symm.trans hfn)).symm
      exact ⟨by kernel_rfl, fun j t ht => by
        rw [Tryd.params7] at ht
        have hm : t ∈ [31] := by simpa using Array.mem_of_getElem? ht
        have hall : ([31].all fun u => !Tryd.prog.wantsStandIn u) = true := by kernel_rfl
        exact (show Tryd.prog.wantsStandIn t = false by simpa using List.all_eq_true.1 hall t hm)⟩)
    (by kernel_rfl)
end Go.Proofs.YtgiakpnkidblpaaDoor.frontFull

theorem Go.Proofs.YtgiakpnkidblpaaDoor.frontFull_holds : Go.Proofs.YtgiakpnkidblpaaDoor.Rows.FrontFullCardSaid := Go.Proofs.YtgiakpnkidblpaaDoor.frontFull.holds
#print axioms Go.Proofs.YtgiakpnkidblpaaDoor.frontFull_holds
