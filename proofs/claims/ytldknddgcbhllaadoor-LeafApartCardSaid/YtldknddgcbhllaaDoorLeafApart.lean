/-
  LeafApart: no text that a node's hash is made of begins as one that a leaf's is made of; each says what it was made of; a node's hash is that of its text. For every text (its first 100 bytes), any four hashes; the numbers K of the package sha are as the program's own start lays them.
-/
import Derived.Test.YtldknddgcbhllaaDoorLeafLaw
namespace Go.Proofs.YtldknddgcbhllaaDoor.leafApart
open Go.ChangeShapes Go.WideShapes Go.ChangeAt Go.RowKit

set_option maxHeartbeats 8000000 in
set_option maxRecDepth 100000 in
theorem walk {w : World} (hK : KT w) (s0 : ByteArray) (_ : s0.size ≤ maxLen) (a b c d : List UInt8) (ha : a.length = 32) (hb : b.length = 32) (hc : c.length = 32) (hd : d.length = 32) :
    Calls Tryd.prog 9 #[.string s0, .agg (sc [a, b, c, d]).toArray] w fun e w' => e = .returned (.bool true) ∧ Below w.heap.size w w' := by
  obtain ⟨q, hq0⟩ : ∃ q, q = w.heap.size := ⟨_, rfl⟩
  obtain ⟨w0, hw0⟩ : ∃ w0, w0 = w.alloc (.cells (sc [a, b, c, d]).toArray 42) := ⟨_, rfl⟩
  have b0 : Below w.heap.size w w0 := by rw [hw0]; exact (Below.refl _ _).alloc (Nat.le_refl _) _
  have hall : all32 [a, b, c, d] := by
    intro x hx
    simp at hx
    rcases hx with rfl | rfl | rfl | rfl <;> assumption
  have hh : w0.heap[q]? = some (.cells (sc [a, b, c, d]).toArray 42 (0, 0)) := by rw [hw0, hq0]; exact heap_alloc_last w _
  have hq : q < w0.heap.size := (Array.getElem?_eq_some_iff.1 hh).1
  have rr : ∀ (k : Nat) (hk : k < 4), w0.rangeAt q (k * 32) (([a, b, c, d][k]'hk).map u8V) := fun k hk i v hv => by
    rw [cell_of hh]
    have := sc_get _ hall k hk i v hv
    simpa using this
  have r0 : w0.rangeAt q (0 * 32) (a.map u8V) := rr 0 (by decide)
  have r1 : w0.rangeAt q (1 * 32) (b.map u8V) := rr 1 (by decide)
  have r2 : w0.rangeAt q (2 * 32) (c.map u8V) := rr 2 (by decide)
  have r3 : w0.rangeAt q (3 * 32) (d.map u8V) := rr 3 (by decide)
  have HAW := Lib.hid (awake9_any w0 (hK.old b0))
  obtain ⟨S, hS⟩ : ∃ S, S = shortB s0 100 := ⟨_, rfl⟩
  have hsz : S.size ≤ 100 := by have := shortB_size s0 100; rw [hS]; omega
  obtain ⟨T1, hT1⟩ : ∃ P : ByteArray, P = ⟨(Tree.pre a b).toArray⟩ := ⟨_, rfl⟩
  obtain ⟨T2, hT2⟩ : ∃ P : ByteArray, P = ⟨(Tree.pre c d).toArray⟩ := ⟨_, rfl⟩
  have hT1l : T1.data.toList = Tree.pre a b := by rw [hT1]
  have hT2l : T2.data.toList = Tree.pre c d := by rw [hT2]
  have HS1 : Hid (T1.size = 65) := Lib.hid (by rw [Lib.size_eq, hT1l]; exact pre_size a b ha hb)
  have HSZ : Hid ((⟨#[0]⟩ : ByteArray).size + S.size ≤ 9223372036854775807) := Lib.hid (by have : (⟨#[0]⟩ : ByteArray).size = 1 := rfl; omega)
  have HNE : Hid (T1 ≠ ⟨#[0]⟩ ++ S) := Lib.hid fun e => by
    have := congrArg (fun x : ByteArray => x.data.toList) e
    rw [hT1l, app_data] at this
    injection this with h _
    revert h
    decide
  have htt : T1 = T2 ↔ a = c ∧ b = d := by
    rw [← pre_inj (ha.trans hc.symm), ← hT1l, ← hT2l]
    exact ⟨fun e => by rw [e], fun e => ByteArray.ext (Array.toList_inj.1 e)⟩
  obtain ⟨N, hN⟩ : ∃ N, N = Tree.node a b := ⟨_, rfl⟩
  have HNl : Hid (N.length = 32) := Lib.hid (by rw [hN]; exact Tree.node_length _ _)
  have HP1 : Hid (∀ u : World, Calls Tryd.prog 15 #[sumV a, sumV b] u fun e w' => e = .returned (.string T1) ∧ Below u.heap.size u w') := Lib.hid fun u => by rw [hT1]; exact leafPre_any a b ha hb u
  have HP2 : Hid (∀ u : World, Calls Tryd.prog 15 #[sumV c, sumV d] u fun e w' => e = .returned (.string T2) ∧ Below u.heap.size u w') := Lib.hid fun u => by rw [hT2]; exact leafPre_any c d hc hd u
  have HND0 : Hid (∀ u : World, KT u → Calls Tryd.prog 13 #[sumV a, sumV b] u fun e w' => e = .returned (sumV N) ∧ Below u.heap.size u w') := Lib.hid fun u hk => by rw [hN]; exact leafNode_any a b ha hb u hk
  have HOF : Hid (∀ u : World, Calls Tryd.prog 26 #[.string T1] u fun e w' => e = .returned (sumV N) ∧ Below u.heap.size u w') := Lib.hid fun u => by rw [hN]; exact rof_any T1 (Tree.pre a b) hT1l u (by rw [pre_size a b ha hb]; decide)
  have Ha := Lib.hid ha
  have Hb := Lib.hid hb
  have Hc := Lib.hid hc
  have Hd := Lib.hid hd
  have HTT := Lib.hid htt
  have HKW := Lib.hid hK
  have HS : Hid (shortB s0 100 = S) := Lib.hid hS.symm
  have Hb0 := Lib.hid b0
  clear hT1 hT2 hT1l hT2l htt hN ha hb hc hd hK hS hsz hall hh rr b0
  go_enter Tryd.func9, Tryd.ntmps9
  go_upto_region 1 with (fail)
  rw [← hw0, ← hq0]
  clear hw0
  have Hq0 := Lib.hid hq0
  clear hq0
  have hcase : (100 < s0.size ∧ s0.extract 0 100 = S) ∨ (¬ 100 < s0.size ∧ s0 = S) := by
    have := HS.out
    unfold shortB at this
    split at this
    · exact .inl ⟨by assumption, this⟩
    · exact .inr ⟨by assumption, this⟩
  clear HS
  rcases hcase with ⟨hx1, hx⟩ | ⟨hx1, hx⟩
  · have hx1' : 100 < (s0.size : Int) := by omega
    have hsz9 : 100 ≤ s0.size := by omega
    go_upto_region 4 with (go_at_call 10; ((with_reducible refine HAW.out.mono ?_); rintro e w1 ⟨rfl, b1⟩))
    try rw [hx]
    replace r0 := below_range b1 hq r0
    replace r1 := below_range b1 hq r1
    replace r2 := below_range b1 hq r2
    replace r3 := below_range b1 hq r3
    replace hq := Nat.lt_of_lt_of_le hq b1.size
    have bw1 := below_step Hb0.out (Nat.le_refl _) b1
    clear b1
    try simp only [Act.put]
    refine wp_region_tab0 [RT.is (.pointer (some ⟨q, 0 * 32, none⟩)), RT.is (sumV a), RT.is (.pointer (some ⟨q, 1 * 32, none⟩)), RT.is (sumV b), RT.is (.string T1), RT.is (.string T1)] (by kernel_rfl) (by kernel_rfl) (by kernel_rfl) ⟨?_, ?_, ?_, ?_, ?_, ?_, trivial⟩ ?_
    · intro ac w' hF hL hP hU K hK
      have hB : Below _ _ _ := hL
      have e3 : ac.eval (.tmp 3) = .pointer (some ⟨q, 0, none⟩) := hF.at 3 (by kernel_rfl)
      exact rop_idx _ _ _ rfl e3 rfl (idx4 q 0 (by decide) w') (wanted_none rfl) (hK _ _ (le8_refl _) rfl)
    · intro ac w' hF hL hP hU K hK
      have hB : Below _ _ _ := hL
      have e14 : ac.eval (.tmp 14) = .pointer (some ⟨q, 0 * 32, none⟩) := hP 0 (by kernel_rfl)
      exact rop_ld _ _ rfl e14 (run_loadAt_mid _ _ _ _ _ _ (below_range hB hq r0) Tryd.underlying23 rfl (sum_info' Ha.out)) (wanted_none rfl) (hK _ _ (le8_refl _) rfl)
    · intro ac w' hF hL hP hU K hK
      have hB : Below _ _ _ := hL
      have e3 : ac.eval (.tmp 3) = .pointer (some ⟨q, 0, none⟩) := hF.at 3 (by kernel_rfl)
      exact rop_idx _ _ _ rfl e3 rfl (idx4 q 1 (by decide) w') (wanted_none rfl) (hK _ _ (le8_refl _) rfl)
    · intro ac w' hF hL hP hU K hK
      have hB : Below _ _ _ := hL
      have e16 : ac.eval (.tmp 16) = .pointer (some ⟨q, 1 * 32, none⟩) := hP 2 (by kernel_rfl)
      exact rop_ld _ _ rfl e16 (run_loadAt_mid _ _ _ _ _ _ (below_range hB hq r1) Tryd.underlying23 rfl (sum_info' Hb.out)) (wanted_none rfl) (hK _ _ (le8_refl _) rfl)
    · intro ac w' hF hL hP hU K hK
      have hB : Below _ _ _ := hL
      have e15 : ac.eval (.tmp 15) = sumV a := hP 1 (by kernel_rfl)
      have e17 : ac.eval (.tmp 17) = sumV b := hP 3 (by kernel_rfl)
      refine rop_call 15 _ _ rfl #[sumV a, sumV b] (by simp [e15, e17]) (by kernel_rfl) (wanted_none rfl) ?_
      refine (HP1.out w').mono ?_
      rintro e w2 ⟨rfl, hb⟩
      exact ⟨_, rfl, hK _ _ hb rfl⟩
    · intro ac w' hF hL hP hU K hK
      have hB : Below _ _ _ := hL
      have e18 : ac.eval (.tmp 18) = .string T1 := hP 4 (by kernel_rfl)
      exact rop_assign _ rfl e18 (wanted_none rfl) (hK _ _ (le8_refl _) rfl)
    · intro ac w' hF hB hT
      have e6 : ac.eval (.tmp 6) = .string T1 := hT 5 (by decide)
      rw [hF.setsG [14, 15, 16, 17, 18, 6] (by kernel_rfl)]
      simp only [List.foldl_cons, List.foldl_nil, List.setIfInBounds_toArray, List.set_cons_succ, List.set_cons_zero, e6]
      generalize ac.eval (.tmp 14) = u14
      generalize ac.eval (.tmp 15) = u15
      generalize ac.eval (.tmp 16) = u16
      generalize ac.eval (.tmp 17) = u17
      generalize ac.eval (.tmp 18) = u18
      clear e6 hT hF ac
      replace r0 := below_range hB hq r0
      replace r1 := below_range hB hq r1
      replace r2 := below_range hB hq r2
      replace r3 := below_range hB hq r3
      replace hq := Nat.lt_of_lt_of_le hq hB.size
      replace bw1 := below_step bw1 (Nat.le_refl _) hB
      clear hB
      obtain ⟨W, hW⟩ : ∃ W, W = w' := ⟨_, rfl⟩
      subst hW
      go_upto_region 5 with (fail)
      try simp only [Act.put]
      refine wp_region_tab0 [RT.is (.pointer (some ⟨q, 2 * 32, none⟩)), RT.is (sumV c), RT.is (.pointer (some ⟨q, 3 * 32, none⟩)), RT.is (sumV d), RT.is (.string T2), RT.is (.string T2)] (by kernel_rfl) (by kernel_rfl) (by kernel_rfl) ⟨?_, ?_, ?_, ?_, ?_, ?_, trivial⟩ ?_
      · intro ac w' hF hL hP hU K hK
        have hB : Below _ _ _ := hL
        have e3 : ac.eval (.tmp 3) = .pointer (some ⟨q, 0, none⟩) := hF.at 3 (by kernel_rfl)
        exact rop_idx _ _ _ rfl e3 rfl (idx4 q 2 (by decide) w') (wanted_none rfl) (hK _ _ (le8_refl _) rfl)
      · intro ac w' hF hL hP hU K hK
        have hB : Below _ _ _ := hL
        have e19 : ac.eval (.tmp 19) = .pointer (some ⟨q, 2 * 32, none⟩) := hP 0 (by kernel_rfl)
        exact rop_ld _ _ rfl e19 (run_loadAt_mid _ _ _ _ _ _ (below_range hB hq r2) Tryd.underlying23 rfl (sum_info' Hc.out)) (wanted_none rfl) (hK _ _ (le8_refl _) rfl)
      · intro ac w' hF hL hP hU K hK
        have hB : Below _ _ _ := hL
        have e3 : ac.eval (.tmp 3) = .pointer (some ⟨q, 0, none⟩) := hF.at 3 (by kernel_rfl)
        exact rop_idx _ _ _ rfl e3 rfl (idx4 q 3 (by decide) w') (wanted_none rfl) (hK _ _ (le8_refl _) rfl)
      · intro ac w' hF hL hP hU K hK
        have hB : Below _ _ _ := hL
        have e21 : ac.eval (.tmp 21) = .pointer (some ⟨q, 3 * 32, none⟩) := hP 2 (by kernel_rfl)
        exact rop_ld _ _ rfl e21 (run_loadAt_mid _ _ _ _ _ _ (below_range hB hq r3) Tryd.underlying23 rfl (sum_info' Hd.out)) (wanted_none rfl) (hK _ _ (le8_refl _) rfl)
      · intro ac w' hF hL hP hU K hK
        have hB : Below _ _ _ := hL
        have e20 : ac.eval (.tmp 20) = sumV c := hP 1 (by kernel_rfl)
        have e22 : ac.eval (.tmp 22) = sumV d := hP 3 (by kernel_rfl)
        refine rop_call 15 _ _ rfl #[sumV c, sumV d] (by simp [e20, e22]) (by kernel_rfl) (wanted_none rfl) ?_
        refine (HP2.out w').mono ?_
        rintro e w2 ⟨rfl, hb⟩
        exact ⟨_, rfl, hK _ _ hb rfl⟩
      · intro ac w' hF hL hP hU K hK
        have hB : Below _ _ _ := hL
        have e23 : ac.eval (.tmp 23) = .string T2 := hP 4 (by kernel_rfl)
        exact rop_assign _ rfl e23 (wanted_none rfl) (hK _ _ (le8_refl _) rfl)
      · intro ac w' hF hB hT
        have e7 : ac.eval (.tmp 7) = .string T2 := hT 5 (by decide)
        rw [hF.setsG [19, 20, 21, 22, 23, 7] (by kernel_rfl)]
        simp only [List.foldl_cons, List.foldl_nil, List.setIfInBounds_toArray, List.set_cons_succ, List.set_cons_zero, e7]
        generalize ac.eval (.tmp 19) = u19
        generalize ac.eval (.tmp 20) = u20
        generalize ac.eval (.tmp 21) = u21
        generalize ac.eval (.tmp 22) = u22
        generalize ac.eval (.tmp 23) = u23
        clear e7 hT hF ac
        replace r0 := below_range hB hq r0
        replace r1 := below_range hB hq r1
        replace r2 := below_range hB hq r2
        replace r3 := below_range hB hq r3
        replace hq := Nat.lt_of_lt_of_le hq hB.size
        replace bw1 := below_step bw1 (Nat.le_refl _) hB
        clear hB
        obtain ⟨V, hV⟩ : ∃ V, V = w' := ⟨_, rfl⟩
        subst hV
        have HND : Hid (∀ u : World, Below V.heap.size V u → Calls Tryd.prog 13 #[sumV a, sumV b] u fun e w' => e = .returned (sumV N) ∧ Below u.heap.size u w') := Lib.hid fun u hu => HND0.out u ((HKW.out.old bw1).old hu)
        go_upto_region 6 with (fail)
        by_cases hac : a = c
        · have HAC := Lib.hid hac
          have HEQ : Hid (decide (T1 = T2) = decide (b = d)) := Lib.hid (decide_eq_decide.2 (HTT.out.trans ⟨fun h => h.2, fun h => ⟨HAC.out, h⟩⟩))
          clear hac
          try simp only [Act.put]
          refine wp_region_tab0 [RT.is (.bool true), RT.is (.bool true), RT.is (.string T1), RT.is (.int .i64 (T1.size : Int)), RT.is (.bool true), RT.is (.bool true), RT.is (.bool true), RT.is (.string T1), RT.is (.string S), RT.is (.string (⟨#[0]⟩ ++ S)), RT.is (.bool true), RT.is (.bool true), RT.is (.bool true), RT.is (.string T1), RT.is (.string T2), RT.is (.bool (decide (T1 = T2))), RT.is (.pointer (some ⟨q, 0 * 32, none⟩)), RT.is (sumV a), RT.is (.pointer (some ⟨q, 2 * 32, none⟩)), RT.is (sumV c), RT.is (.bool true), RT.is (.bool true), RT.is (.pointer (some ⟨q, 1 * 32, none⟩)), RT.is (sumV b), RT.is (.pointer (some ⟨q, 3 * 32, none⟩)), RT.is (sumV d), RT.is (.bool (decide (b = d))), RT.is (.bool (decide (b = d))), RT.is (.bool true), RT.is (.bool true), RT.is (.bool true), RT.is (.pointer (some ⟨q, 0 * 32, none⟩)), RT.is (sumV a), RT.is (.pointer (some ⟨q, 1 * 32, none⟩)), RT.is (sumV b), RT.is (sumV N), RT.is (.string T1), RT.is (sumV N), RT.is (.bool true), RT.is (.bool true), RT.is (.bool true)] (by kernel_rfl) (by kernel_rfl) (by kernel_rfl) ⟨?_, ?_, ?_, ?_, ?_, ?_, ?_, ?_, ?_, ?_, ?_, ?_, ?_, ?_, ?_, ?_, ?_, ?_, ?_, ?_, ?_, ?_, ?_, ?_, ?_, ?_, ?_, ?_, ?_, ?_, ?_, ?_, ?_, ?_, ?_, ?_, ?_, ?_, ?_, ?_, ?_, trivial⟩ ?_
          · intro ac w' hF hL hP hU K hK
            have hB : Below _ _ _ := hL
            have e5 : ac.eval (.tmp 5) = .bool true := hF.at 5 (by kernel_rfl)
            exact rop_move _ rfl e5 (wanted_none rfl) (hK _ _ (le8_refl _) rfl)
          · intro ac w' hF hL hP hU K hK
            have hB : Below _ _ _ := hL
            have e24 : ac.eval (.tmp 24) = .bool true := hP 0 (by kernel_rfl)
            exact rop_move _ rfl e24 (wanted_none rfl) (hK _ _ (le8_refl _) rfl)
          · intro ac w' hF hL hP hU K hK
            have hB : Below _ _ _ := hL
            have e6 : ac.eval (.tmp 6) = .string T1 := hF.at 6 (by kernel_rfl)
            have e25 : ac.eval (.tmp 25) = .bool true := hP 1 (by kernel_rfl)
            exact rop_move _ rfl e6 (wanted_of (j := 1) (b := true) rfl rfl e25) (hK _ _ (le8_refl _) rfl)
          · intro ac w' hF hL hP hU K hK
            have hB : Below _ _ _ := hL
            have e26 : ac.eval (.tmp 26) = .string T1 := hP 2 (by kernel_rfl)
            have e25 : ac.eval (.tmp 25) = .bool true := hP 1 (by kernel_rfl)
            exact rop_len_str _ rfl _ e26 (wanted_of (j := 1) (b := true) rfl rfl e25) (hK _ _ (le8_refl _) rfl)
          · intro ac w' hF hL hP hU K hK
            have hB : Below _ _ _ := hL
            have e27 : ac.eval (.tmp 27) = .int .i64 (T1.size : Int) := hP 3 (by kernel_rfl)
            have e25 : ac.eval (.tmp 25) = .bool true := hP 1 (by kernel_rfl)
            exact rop_bin _ _ _ _ _ rfl e27 rfl (guard_int _ _ _ _ _ _ _ w') (eql_iG _ _ _ (decide_eq_true (by rw [HS1.out]; rfl)) w') (wanted_of (j := 1) (b := true) rfl rfl e25) (hK _ _ (le8_refl _) rfl)
          · intro ac w' hF hL hP hU K hK
            have hB : Below _ _ _ := hL
            have e25 : ac.eval (.tmp 25) = .bool true := hP 1 (by kernel_rfl)
            have e28 : ac.eval (.tmp 28) = .bool true := hP 4 (by kernel_rfl)
            exact rop_pick _ _ _ rfl true e25 (by simpa using e28) (wanted_none rfl) (hK _ _ (le8_refl _) rfl)
          · intro ac w' hF hL hP hU K hK
            have hB : Below _ _ _ := hL
            have e29 : ac.eval (.tmp 29) = .bool true := hP 5 (by kernel_rfl)
            exact rop_move _ rfl e29 (wanted_none rfl) (hK _ _ (le8_refl _) rfl)
          · intro ac w' hF hL hP hU K hK
            have hB : Below _ _ _ := hL
            have e6 : ac.eval (.tmp 6) = .string T1 := hF.at 6 (by kernel_rfl)
            have e30 : ac.eval (.tmp 30) = .bool true := hP 6 (by kernel_rfl)
            exact rop_move _ rfl e6 (wanted_of (j := 6) (b := true) rfl rfl e30) (hK _ _ (le8_refl _) rfl)
          · intro ac w' hF hL hP hU K hK
            have hB : Below _ _ _ := hL
            have e0 : ac.eval (.tmp 0) = .string S := hF.at 0 (by kernel_rfl)
            have e30 : ac.eval (.tmp 30) = .bool true := hP 6 (by kernel_rfl)
            exact rop_move _ rfl e0 (wanted_of (j := 6) (b := true) rfl rfl e30) (hK _ _ (le8_refl _) rfl)
          · intro ac w' hF hL hP hU K hK
            have hB : Below _ _ _ := hL
            have e32 : ac.eval (.tmp 32) = .string S := hP 8 (by kernel_rfl)
            have e30 : ac.eval (.tmp 30) = .bool true := hP 6 (by kernel_rfl)
            exact rop_bin _ _ _ _ _ rfl rfl e32 (guard_str _ _ _ _ _ _ w') (add_str _ _ HSZ.out w') (wanted_of (j := 6) (b := true) rfl rfl e30) (hK _ _ (le8_refl _) rfl)
          · intro ac w' hF hL hP hU K hK
            have hB : Below _ _ _ := hL
            have e31 : ac.eval (.tmp 31) = .string T1 := hP 7 (by kernel_rfl)
            have e33 : ac.eval (.tmp 33) = .string (⟨#[0]⟩ ++ S) := hP 9 (by kernel_rfl)
            have e30 : ac.eval (.tmp 30) = .bool true := hP 6 (by kernel_rfl)
            exact rop_bin _ _ _ _ _ rfl e31 e33 (guard_str _ _ _ _ _ _ w') (neq_str_t _ _ HNE.out w') (wanted_of (j := 6) (b := true) rfl rfl e30) (hK _ _ (le8_refl _) rfl)
          · intro ac w' hF hL hP hU K hK
            have hB : Below _ _ _ := hL
            have e30 : ac.eval (.tmp 30) = .bool true := hP 6 (by kernel_rfl)
            have e34 : ac.eval (.tmp 34) = .bool true := hP 10 (by kernel_rfl)
            exact rop_pick _ _ _ rfl true e30 (by simpa using e34) (wanted_none rfl) (hK _ _ (le8_refl _) rfl)
          · intro ac w' hF hL hP hU K hK
            have hB : Below _ _ _ := hL
            have e35 : ac.eval (.tmp 35) = .bool true := hP 11 (by kernel_rfl)
            exact rop_move _ rfl e35 (wanted_none rfl) (hK _ _ (le8_refl _) rfl)
          · intro ac w' hF hL hP hU K hK
            have hB : Below _ _ _ := hL
            have e6 : ac.eval (.tmp 6) = .string T1 := hF.at 6 (by kernel_rfl)
            have e36 : ac.eval (.tmp 36) = .bool true := hP 12 (by kernel_rfl)
            exact rop_move _ rfl e6 (wanted_of (j := 12) (b := true) rfl rfl e36) (hK _ _ (le8_refl _) rfl)
          · intro ac w' hF hL hP hU K hK
            have hB : Below _ _ _ := hL
            have e7 : ac.eval (.tmp 7) = .string T2 := hF.at 7 (by kernel_rfl)
            have e36 : ac.eval (.tmp 36) = .bool true := hP 12 (by kernel_rfl)
            exact rop_move _ rfl e7 (wanted_of (j := 12) (b := true) rfl rfl e36) (hK _ _ (le8_refl _) rfl)
          · intro ac w' hF hL hP hU K hK
            have hB : Below _ _ _ := hL
            have e37 : ac.eval (.tmp 37) = .string T1 := hP 13 (by kernel_rfl)
            have e38 : ac.eval (.tmp 38) = .string T2 := hP 14 (by kernel_rfl)
            have e36 : ac.eval (.tmp 36) = .bool true := hP 12 (by kernel_rfl)
            exact rop_bin _ _ _ _ _ rfl e37 e38 (guard_str _ _ _ _ _ _ w') (eql_str T1 T2 w') (wanted_of (j := 12) (b := true) rfl rfl e36) (hK _ _ (le8_refl _) rfl)
          · intro ac w' hF hL hP hU K hK
            have hB : Below _ _ _ := hL
            have e3 : ac.eval (.tmp 3) = .pointer (some ⟨q, 0, none⟩) := hF.at 3 (by kernel_rfl)
            have e36 : ac.eval (.tmp 36) = .bool true := hP 12 (by kernel_rfl)
            exact rop_idx _ _ _ rfl e3 rfl (idx4 q 0 (by decide) w') (wanted_of (j := 12) (b := true) rfl rfl e36) (hK _ _ (le8_refl _) rfl)
          · intro ac w' hF hL hP hU K hK
            have hB : Below _ _ _ := hL
            have e40 : ac.eval (.tmp 40) = .pointer (some ⟨q, 0 * 32, none⟩) := hP 16 (by kernel_rfl)
            have e36 : ac.eval (.tmp 36) = .bool true := hP 12 (by kernel_rfl)
            exact rop_ld _ _ rfl e40 (run_loadAt_mid _ _ _ _ _ _ (below_range hB hq r0) Tryd.underlying23 rfl (sum_info' Ha.out)) (wanted_of (j := 12) (b := true) rfl rfl e36) (hK _ _ (le8_refl _) rfl)
          · intro ac w' hF hL hP hU K hK
            have hB : Below _ _ _ := hL
            have e3 : ac.eval (.tmp 3) = .pointer (some ⟨q, 0, none⟩) := hF.at 3 (by kernel_rfl)
            have e36 : ac.eval (.tmp 36) = .bool true := hP 12 (by kernel_rfl)
            exact rop_idx _ _ _ rfl e3 rfl (idx4 q 2 (by decide) w') (wanted_of (j := 12) (b := true) rfl rfl e36) (hK _ _ (le8_refl _) rfl)
          · intro ac w' hF hL hP hU K hK
            have hB : Below _ _ _ := hL
            have e42 : ac.eval (.tmp 42) = .pointer (some ⟨q, 2 * 32, none⟩) := hP 18 (by kernel_rfl)
            have e36 : ac.eval (.tmp 36) = .bool true := hP 12 (by kernel_rfl)
            exact rop_ld _ _ rfl e42 (run_loadAt_mid _ _ _ _ _ _ (below_range hB hq r2) Tryd.underlying23 rfl (sum_info' Hc.out)) (wanted_of (j := 12) (b := true) rfl rfl e36) (hK _ _ (le8_refl _) rfl)
          · intro ac w' hF hL hP hU K hK
            have hB : Below _ _ _ := hL
            have e41 : ac.eval (.tmp 41) = sumV a := hP 17 (by kernel_rfl)
            have e43 : ac.eval (.tmp 43) = sumV c := hP 19 (by kernel_rfl)
            have e36 : ac.eval (.tmp 36) = .bool true := hP 12 (by kernel_rfl)
            exact rop_bin _ _ _ _ _ rfl e41 e43 (guard_run .eql _ _ _ _ w') (eql_sum_tt a c Ha.out Hc.out HAC.out w') (wanted_of (j := 12) (b := true) rfl rfl e36) (hK _ _ (le8_refl _) rfl)
          · intro ac w' hF hL hP hU K hK
            have hB : Below _ _ _ := hL
            have e44 : ac.eval (.tmp 44) = .bool true := hP 20 (by kernel_rfl)
            have e36 : ac.eval (.tmp 36) = .bool true := hP 12 (by kernel_rfl)
            exact rop_move _ rfl e44 (wanted_of (j := 12) (b := true) rfl rfl e36) (hK _ _ (le8_refl _) rfl)
          · intro ac w' hF hL hP hU K hK
            have hB : Below _ _ _ := hL
            have e3 : ac.eval (.tmp 3) = .pointer (some ⟨q, 0, none⟩) := hF.at 3 (by kernel_rfl)
            have e45 : ac.eval (.tmp 45) = .bool true := hP 21 (by kernel_rfl)
            exact rop_idx _ _ _ rfl e3 rfl (idx4 q 1 (by decide) w') (wanted_of (j := 21) (b := true) rfl rfl e45) (hK _ _ (le8_refl _) rfl)
          · intro ac w' hF hL hP hU K hK
            have hB : Below _ _ _ := hL
            have e46 : ac.eval (.tmp 46) = .pointer (some ⟨q, 1 * 32, none⟩) := hP 22 (by kernel_rfl)
            have e45 : ac.eval (.tmp 45) = .bool true := hP 21 (by kernel_rfl)
            exact rop_ld _ _ rfl e46 (run_loadAt_mid _ _ _ _ _ _ (below_range hB hq r1) Tryd.underlying23 rfl (sum_info' Hb.out)) (wanted_of (j := 21) (b := true) rfl rfl e45) (hK _ _ (le8_refl _) rfl)
          · intro ac w' hF hL hP hU K hK
            have hB : Below _ _ _ := hL
            have e3 : ac.eval (.tmp 3) = .pointer (some ⟨q, 0, none⟩) := hF.at 3 (by kernel_rfl)
            have e45 : ac.eval (.tmp 45) = .bool true := hP 21 (by kernel_rfl)
            exact rop_idx _ _ _ rfl e3 rfl (idx4 q 3 (by decide) w') (wanted_of (j := 21) (b := true) rfl rfl e45) (hK _ _ (le8_refl _) rfl)
          · intro ac w' hF hL hP hU K hK
            have hB : Below _ _ _ := hL
            have e48 : ac.eval (.tmp 48) = .pointer (some ⟨q, 3 * 32, none⟩) := hP 24 (by kernel_rfl)
            have e45 : ac.eval (.tmp 45) = .bool true := hP 21 (by kernel_rfl)
            exact rop_ld _ _ rfl e48 (run_loadAt_mid _ _ _ _ _ _ (below_range hB hq r3) Tryd.underlying23 rfl (sum_info' Hd.out)) (wanted_of (j := 21) (b := true) rfl rfl e45) (hK _ _ (le8_refl _) rfl)
          · intro ac w' hF hL hP hU K hK
            have hB : Below _ _ _ := hL
            have e47 : ac.eval (.tmp 47) = sumV b := hP 23 (by kernel_rfl)
            have e49 : ac.eval (.tmp 49) = sumV d := hP 25 (by kernel_rfl)
            have e45 : ac.eval (.tmp 45) = .bool true := hP 21 (by kernel_rfl)
            exact rop_bin _ _ _ _ _ rfl e47 e49 (guard_run .eql _ _ _ _ w') (eql_sum b d Hb.out Hd.out w') (wanted_of (j := 21) (b := true) rfl rfl e45) (hK _ _ (le8_refl _) rfl)
          · intro ac w' hF hL hP hU K hK
            have hB : Below _ _ _ := hL
            have e45 : ac.eval (.tmp 45) = .bool true := hP 21 (by kernel_rfl)
            have e50 : ac.eval (.tmp 50) = .bool (decide (b = d)) := hP 26 (by kernel_rfl)
            have e36 : ac.eval (.tmp 36) = .bool true := hP 12 (by kernel_rfl)
            exact rop_pick _ _ _ rfl true e45 (by simpa using e50) (wanted_of (j := 12) (b := true) rfl rfl e36) (hK _ _ (le8_refl _) rfl)
          · intro ac w' hF hL hP hU K hK
            have hB : Below _ _ _ := hL
            have e39 : ac.eval (.tmp 39) = .bool (decide (T1 = T2)) := hP 15 (by kernel_rfl)
            have e51 : ac.eval (.tmp 51) = .bool (decide (b = d)) := hP 27 (by kernel_rfl)
            have e36 : ac.eval (.tmp 36) = .bool true := hP 12 (by kernel_rfl)
            exact rop_bin _ _ _ _ _ rfl e39 e51 (guard_bool _ _ _ _ _ _ w') (eql_bool_t _ _ HEQ.out w') (wanted_of (j := 12) (b := true) rfl rfl e36) (hK _ _ (le8_refl _) rfl)
          · intro ac w' hF hL hP hU K hK
            have hB : Below _ _ _ := hL
            have e36 : ac.eval (.tmp 36) = .bool true := hP 12 (by kernel_rfl)
            have e52 : ac.eval (.tmp 52) = .bool true := hP 28 (by kernel_rfl)
            exact rop_pick _ _ _ rfl true e36 (by simpa using e52) (wanted_none rfl) (hK _ _ (le8_refl _) rfl)
          · intro ac w' hF hL hP hU K hK
            have hB : Below _ _ _ := hL
            have e53 : ac.eval (.tmp 53) = .bool true := hP 29 (by kernel_rfl)
            exact rop_move _ rfl e53 (wanted_none rfl) (hK _ _ (le8_refl _) rfl)
          · intro ac w' hF hL hP hU K hK
            have hB : Below _ _ _ := hL
            have e3 : ac.eval (.tmp 3) = .pointer (some ⟨q, 0, none⟩) := hF.at 3 (by kernel_rfl)
            have e54 : ac.eval (.tmp 54) = .bool true := hP 30 (by kernel_rfl)
            exact rop_idx _ _ _ rfl e3 rfl (idx4 q 0 (by decide) w') (wanted_of (j := 30) (b := true) rfl rfl e54) (hK _ _ (le8_refl _) rfl)
          · intro ac w' hF hL hP hU K hK
            have hB : Below _ _ _ := hL
            have e55 : ac.eval (.tmp 55) = .pointer (some ⟨q, 0 * 32, none⟩) := hP 31 (by kernel_rfl)
            have e54 : ac.eval (.tmp 54) = .bool true := hP 30 (by kernel_rfl)
            exact rop_ld _ _ rfl e55 (run_loadAt_mid _ _ _ _ _ _ (below_range hB hq r0) Tryd.underlying23 rfl (sum_info' Ha.out)) (wanted_of (j := 30) (b := true) rfl rfl e54) (hK _ _ (le8_refl _) rfl)
          · intro ac w' hF hL hP hU K hK
            have hB : Below _ _ _ := hL
            have e3 : ac.eval (.tmp 3) = .pointer (some ⟨q, 0, none⟩) := hF.at 3 (by kernel_rfl)
            have e54 : ac.eval (.tmp 54) = .bool true := hP 30 (by kernel_rfl)
            exact rop_idx _ _ _ rfl e3 rfl (idx4 q 1 (by decide) w') (wanted_of (j := 30) (b := true) rfl rfl e54) (hK _ _ (le8_refl _) rfl)
          · intro ac w' hF hL hP hU K hK
            have hB : Below _ _ _ := hL
            have e57 : ac.eval (.tmp 57) = .pointer (some ⟨q, 1 * 32, none⟩) := hP 33 (by kernel_rfl)
            have e54 : ac.eval (.tmp 54) = .bool true := hP 30 (by kernel_rfl)
            exact rop_ld _ _ rfl e57 (run_loadAt_mid _ _ _ _ _ _ (below_range hB hq r1) Tryd.underlying23 rfl (sum_info' Hb.out)) (wanted_of (j := 30) (b := true) rfl rfl e54) (hK _ _ (le8_refl _) rfl)
          · intro ac w' hF hL hP hU K hK
            have hB : Below _ _ _ := hL
            have e56 : ac.eval (.tmp 56) = sumV a := hP 32 (by kernel_rfl)
            have e58 : ac.eval (.tmp 58) = sumV b := hP 34 (by kernel_rfl)
            have e54 : ac.eval (.tmp 54) = .bool true := hP 30 (by kernel_rfl)
            refine rop_call 13 _ _ rfl #[sumV a, sumV b] (by simp [e56, e58]) (by kernel_rfl) (wanted_of (j := 30) (b := true) rfl rfl e54) ?_
            refine (HND.out w' hB).mono ?_
            rintro e w2 ⟨rfl, hb⟩
            exact ⟨_, rfl, hK _ _ hb rfl⟩
          · intro ac w' hF hL hP hU K hK
            have hB : Below _ _ _ := hL
            have e6 : ac.eval (.tmp 6) = .string T1 := hF.at 6 (by kernel_rfl)
            have e54 : ac.eval (.tmp 54) = .bool true := hP 30 (by kernel_rfl)
            exact rop_move _ rfl e6 (wanted_of (j := 30) (b := true) rfl rfl e54) (hK _ _ (le8_refl _) rfl)
          · intro ac w' hF hL hP hU K hK
            have hB : Below _ _ _ := hL
            have e60 : ac.eval (.tmp 60) = .string T1 := hP 36 (by kernel_rfl)
            have e54 : ac.eval (.tmp 54) = .bool true := hP 30 (by kernel_rfl)
            refine rop_call 26 _ _ rfl #[.string T1] (by simp [e60]) (by kernel_rfl) (wanted_of (j := 30) (b := true) rfl rfl e54) ?_
            refine (HOF.out w').mono ?_
            rintro e w2 ⟨rfl, hb⟩
            exact ⟨_, rfl, hK _ _ hb rfl⟩
          · intro ac w' hF hL hP hU K hK
            have hB : Below _ _ _ := hL
            have e59 : ac.eval (.tmp 59) = sumV N := hP 35 (by kernel_rfl)
            have e61 : ac.eval (.tmp 61) = sumV N := hP 37 (by kernel_rfl)
            have e54 : ac.eval (.tmp 54) = .bool true := hP 30 (by kernel_rfl)
            exact rop_bin _ _ _ _ _ rfl e59 e61 (guard_run .eql _ _ _ _ w') (eql_sum_tt N N HNl.out HNl.out rfl w') (wanted_of (j := 30) (b := true) rfl rfl e54) (hK _ _ (le8_refl _) rfl)
          · intro ac w' hF hL hP hU K hK
            have hB : Below _ _ _ := hL
            have e54 : ac.eval (.tmp 54) = .bool true := hP 30 (by kernel_rfl)
            have e62 : ac.eval (.tmp 62) = .bool true := hP 38 (by kernel_rfl)
            exact rop_pick _ _ _ rfl true e54 (by simpa using e62) (wanted_none rfl) (hK _ _ (le8_refl _) rfl)
          · intro ac w' hF hL hP hU K hK
            have hB : Below _ _ _ := hL
            have e63 : ac.eval (.tmp 63) = .bool true := hP 39 (by kernel_rfl)
            exact rop_assign _ rfl e63 (wanted_none rfl) (hK _ _ (le8_refl _) rfl)
          · intro ac w' hF hB hT
            have e4 : ac.eval (.tmp 4) = .bool true := hT 40 (by decide)
            rw [hF.setsG [24, 25, 26, 27, 28, 29, 30, 31, 32, 33, 34, 35, 36, 37, 38, 39, 40, 41, 42, 43, 44, 45, 46, 47, 48, 49, 50, 51, 52, 53, 54, 55, 56, 57, 58, 59, 60, 61, 62, 63, 4] (by kernel_rfl)]
            simp only [List.foldl_cons, List.foldl_nil, List.setIfInBounds_toArray, List.set_cons_succ, List.set_cons_zero, e4]
            generalize ac.eval (.tmp 24) = u24
            generalize ac.eval (.tmp 25) = u25
            generalize ac.eval (.tmp 26) = u26
            generalize ac.eval (.tmp 27) = u27
            generalize ac.eval (.tmp 28) = u28
            generalize ac.eval (.tmp 29) = u29
            generalize ac.eval (.tmp 30) = u30
            generalize ac.eval (.tmp 31) = u31
            generalize ac.eval (.tmp 32) = u32
            generalize ac.eval (.tmp 33) = u33
            generalize ac.eval (.tmp 34) = u34
            generalize ac.eval (.tmp 35) = u35
            generalize ac.eval (.tmp 36) = u36
            generalize ac.eval (.tmp 37) = u37
            generalize ac.eval (.tmp 38) = u38
            generalize ac.eval (.tmp 39) = u39
            generalize ac.eval (.tmp 40) = u40
            generalize ac.eval (.tmp 41) = u41
            generalize ac.eval (.tmp 42) = u42
            generalize ac.eval (.tmp 43) = u43
            generalize ac.eval (.tmp 44) = u44
            generalize ac.eval (.tmp 45) = u45
            generalize ac.eval (.tmp 46) = u46
            generalize ac.eval (.tmp 47) = u47
            generalize ac.eval (.tmp 48) = u48
            generalize ac.eval (.tmp 49) = u49
            generalize ac.eval (.tmp 50) = u50
            generalize ac.eval (.tmp 51) = u51
            generalize ac.eval (.tmp 52) = u52
            generalize ac.eval (.tmp 53) = u53
            generalize ac.eval (.tmp 54) = u54
            generalize ac.eval (.tmp 55) = u55
            generalize ac.eval (.tmp 56) = u56
            generalize ac.eval (.tmp 57) = u57
            generalize ac.eval (.tmp 58) = u58
            generalize ac.eval (.tmp 59) = u59
            generalize ac.eval (.tmp 60) = u60
            generalize ac.eval (.tmp 61) = u61
            generalize ac.eval (.tmp 62) = u62
            generalize ac.eval (.tmp 63) = u63
            clear e4 hT hF ac
            go_wp2
            go_ret
            exact ⟨rfl, below_step bw1 (Nat.le_refl _) hB⟩
        · have HAC : Hid (∀ u : World, (binOp .eql 23 (sumV a) (sumV c)).run Tryd.prog u = .ok (.bool false) u) := Lib.hid fun u => by
            have := eql_sum a c Ha.out Hc.out u
            rwa [decide_eq_false hac] at this
          have HEQ : Hid (decide (T1 = T2) = false) := Lib.hid (decide_eq_false fun e => hac (HTT.out.1 e).1)
          clear hac
          try simp only [Act.put]
          refine wp_region_tab0 [RT.is (.bool true), RT.is (.bool true), RT.is (.string T1), RT.is (.int .i64 (T1.size : Int)), RT.is (.bool true), RT.is (.bool true), RT.is (.bool true), RT.is (.string T1), RT.is (.string S), RT.is (.string (⟨#[0]⟩ ++ S)), RT.is (.bool true), RT.is (.bool true), RT.is (.bool true), RT.is (.string T1), RT.is (.string T2), RT.is (.bool (decide (T1 = T2))), RT.is (.pointer (some ⟨q, 0 * 32, none⟩)), RT.is (sumV a), RT.is (.pointer (some ⟨q, 2 * 32, none⟩)), RT.is (sumV c), RT.is (.bool false), RT.is (.bool false), RT.any, RT.any, RT.any, RT.any, RT.any, RT.is (.bool false), RT.is (.bool true), RT.is (.bool true), RT.is (.bool true), RT.is (.pointer (some ⟨q, 0 * 32, none⟩)), RT.is (sumV a), RT.is (.pointer (some ⟨q, 1 * 32, none⟩)), RT.is (sumV b), RT.is (sumV N), RT.is (.string T1), RT.is (sumV N), RT.is (.bool true), RT.is (.bool true), RT.is (.bool true)] (by kernel_rfl) (by kernel_rfl) (by kernel_rfl) ⟨?_, ?_, ?_, ?_, ?_, ?_, ?_, ?_, ?_, ?_, ?_, ?_, ?_, ?_, ?_, ?_, ?_, ?_, ?_, ?_, ?_, ?_, ?_, ?_, ?_, ?_, ?_, ?_, ?_, ?_, ?_, ?_, ?_, ?_, ?_, ?_, ?_, ?_, ?_, ?_, ?_, trivial⟩ ?_
          · intro ac w' hF hL hP hU K hK
            have hB : Below _ _ _ := hL
            have e5 : ac.eval (.tmp 5) = .bool true := hF.at 5 (by kernel_rfl)
            exact rop_move _ rfl e5 (wanted_none rfl) (hK _ _ (le8_refl _) rfl)
          · intro ac w' hF hL hP hU K hK
            have hB : Below _ _ _ := hL
            have e24 : ac.eval (.tmp 24) = .bool true := hP 0 (by kernel_rfl)
            exact rop_move _ rfl e24 (wanted_none rfl) (hK _ _ (le8_refl _) rfl)
          · intro ac w' hF hL hP hU K hK
            have hB : Below _ _ _ := hL
            have e6 : ac.eval (.tmp 6) = .string T1 := hF.at 6 (by kernel_rfl)
            have e25 : ac.eval (.tmp 25) = .bool true := hP 1 (by kernel_rfl)
            exact rop_move _ rfl e6 (wanted_of (j := 1) (b := true) rfl rfl e25) (hK _ _ (le8_refl _) rfl)
          · intro ac w' hF hL hP hU K hK
            have hB : Below _ _ _ := hL
            have e26 : ac.eval (.tmp 26) = .string T1 := hP 2 (by kernel_rfl)
            have e25 : ac.eval (.tmp 25) = .bool true := hP 1 (by kernel_rfl)
            exact rop_len_str _ rfl _ e26 (wanted_of (j := 1) (b := true) rfl rfl e25) (hK _ _ (le8_refl _) rfl)
          · intro ac w' hF hL hP hU K hK
            have hB : Below _ _ _ := hL
            have e27 : ac.eval (.tmp 27) = .int .i64 (T1.size : Int) := hP 3 (by kernel_rfl)
            have e25 : ac.eval (.tmp 25) = .bool true := hP 1 (by kernel_rfl)
            exact rop_bin _ _ _ _ _ rfl e27 rfl (guard_int _ _ _ _ _ _ _ w') (eql_iG _ _ _ (decide_eq_true (by rw [HS1.out]; rfl)) w') (wanted_of (j := 1) (b := true) rfl rfl e25) (hK _ _ (le8_refl _) rfl)
          · intro ac w' hF hL hP hU K hK
            have hB : Below _ _ _ := hL
            have e25 : ac.eval (.tmp 25) = .bool true := hP 1 (by kernel_rfl)
            have e28 : ac.eval (.tmp 28) = .bool true := hP 4 (by kernel_rfl)
            exact rop_pick _ _ _ rfl true e25 (by simpa using e28) (wanted_none rfl) (hK _ _ (le8_refl _) rfl)
          · intro ac w' hF hL hP hU K hK
            have hB : Below _ _ _ := hL
            have e29 : ac.eval (.tmp 29) = .bool true := hP 5 (by kernel_rfl)
            exact rop_move _ rfl e29 (wanted_none rfl) (hK _ _ (le8_refl _) rfl)
          · intro ac w' hF hL hP hU K hK
            have hB : Below _ _ _ := hL
            have e6 : ac.eval (.tmp 6) = .string T1 := hF.at 6 (by kernel_rfl)
            have e30 : ac.eval (.tmp 30) = .bool true := hP 6 (by kernel_rfl)
            exact rop_move _ rfl e6 (wanted_of (j := 6) (b := true) rfl rfl e30) (hK _ _ (le8_refl _) rfl)
          · intro ac w' hF hL hP hU K hK
            have hB : Below _ _ _ := hL
            have e0 : ac.eval (.tmp 0) = .string S := hF.at 0 (by kernel_rfl)
            have e30 : ac.eval (.tmp 30) = .bool true := hP 6 (by kernel_rfl)
            exact rop_move _ rfl e0 (wanted_of (j := 6) (b := true) rfl rfl e30) (hK _ _ (le8_refl _) rfl)
          · intro ac w' hF hL hP hU K hK
            have hB : Below _ _ _ := hL
            have e32 : ac.eval (.tmp 32) = .string S := hP 8 (by kernel_rfl)
            have e30 : ac.eval (.tmp 30) = .bool true := hP 6 (by kernel_rfl)
            exact rop_bin _ _ _ _ _ rfl rfl e32 (guard_str _ _ _ _ _ _ w') (add_str _ _ HSZ.out w') (wanted_of (j := 6) (b := true) rfl rfl e30) (hK _ _ (le8_refl _) rfl)
          · intro ac w' hF hL hP hU K hK
            have hB : Below _ _ _ := hL
            have e31 : ac.eval (.tmp 31) = .string T1 := hP 7 (by kernel_rfl)
            have e33 : ac.eval (.tmp 33) = .string (⟨#[0]⟩ ++ S) := hP 9 (by kernel_rfl)
            have e30 : ac.eval (.tmp 30) = .bool true := hP 6 (by kernel_rfl)
            exact rop_bin _ _ _ _ _ rfl e31 e33 (guard_str _ _ _ _ _ _ w') (neq_str_t _ _ HNE.out w') (wanted_of (j := 6) (b := true) rfl rfl e30) (hK _ _ (le8_refl _) rfl)
          · intro ac w' hF hL hP hU K hK
            have hB : Below _ _ _ := hL
            have e30 : ac.eval (.tmp 30) = .bool true := hP 6 (by kernel_rfl)
            have e34 : ac.eval (.tmp 34) = .bool true := hP 10 (by kernel_rfl)
            exact rop_pick _ _ _ rfl true e30 (by simpa using e34) (wanted_none rfl) (hK _ _ (le8_refl _) rfl)
          · intro ac w' hF hL hP hU K hK
            have hB : Below _ _ _ := hL
            have e35 : ac.eval (.tmp 35) = .bool true := hP 11 (by kernel_rfl)
            exact rop_move _ rfl e35 (wanted_none rfl) (hK _ _ (le8_refl _) rfl)
          · intro ac w' hF hL hP hU K hK
            have hB : Below _ _ _ := hL
            have e6 : ac.eval (.tmp 6) = .string T1 := hF.at 6 (by kernel_rfl)
            have e36 : ac.eval (.tmp 36) = .bool true := hP 12 (by kernel_rfl)
            exact rop_move _ rfl e6 (wanted_of (j := 12) (b := true) rfl rfl e36) (hK _ _ (le8_refl _) rfl)
          · intro ac w' hF hL hP hU K hK
            have hB : Below _ _ _ := hL
            have e7 : ac.eval (.tmp 7) = .string T2 := hF.at 7 (by kernel_rfl)
            have e36 : ac.eval (.tmp 36) = .bool true := hP 12 (by kernel_rfl)
            exact rop_move _ rfl e7 (wanted_of (j := 12) (b := true) rfl rfl e36) (hK _ _ (le8_refl _) rfl)
          · intro ac w' hF hL hP hU K hK
            have hB : Below _ _ _ := hL
            have e37 : ac.eval (.tmp 37) = .string T1 := hP 13 (by kernel_rfl)
            have e38 : ac.eval (.tmp 38) = .string T2 := hP 14 (by kernel_rfl)
            have e36 : ac.eval (.tmp 36) = .bool true := hP 12 (by kernel_rfl)
            exact rop_bin _ _ _ _ _ rfl e37 e38 (guard_str _ _ _ _ _ _ w') (eql_str T1 T2 w') (wanted_of (j := 12) (b := true) rfl rfl e36) (hK _ _ (le8_refl _) rfl)
          · intro ac w' hF hL hP hU K hK
            have hB : Below _ _ _ := hL
            have e3 : ac.eval (.tmp 3) = .pointer (some ⟨q, 0, none⟩) := hF.at 3 (by kernel_rfl)
            have e36 : ac.eval (.tmp 36) = .bool true := hP 12 (by kernel_rfl)
            exact rop_idx _ _ _ rfl e3 rfl (idx4 q 0 (by decide) w') (wanted_of (j := 12) (b := true) rfl rfl e36) (hK _ _ (le8_refl _) rfl)
          · intro ac w' hF hL hP hU K hK
            have hB : Below _ _ _ := hL
            have e40 : ac.eval (.tmp 40) = .pointer (some ⟨q, 0 * 32, none⟩) := hP 16 (by kernel_rfl)
            have e36 : ac.eval (.tmp 36) = .bool true := hP 12 (by kernel_rfl)
            exact rop_ld _ _ rfl e40 (run_loadAt_mid _ _ _ _ _ _ (below_range hB hq r0) Tryd.underlying23 rfl (sum_info' Ha.out)) (wanted_of (j := 12) (b := true) rfl rfl e36) (hK _ _ (le8_refl _) rfl)
          · intro ac w' hF hL hP hU K hK
            have hB : Below _ _ _ := hL
            have e3 : ac.eval (.tmp 3) = .pointer (some ⟨q, 0, none⟩) := hF.at 3 (by kernel_rfl)
            have e36 : ac.eval (.tmp 36) = .bool true := hP 12 (by kernel_rfl)
            exact rop_idx _ _ _ rfl e3 rfl (idx4 q 2 (by decide) w') (wanted_of (j := 12) (b := true) rfl rfl e36) (hK _ _ (le8_refl _) rfl)
          · intro ac w' hF hL hP hU K hK
            have hB : Below _ _ _ := hL
            have e42 : ac.eval (.tmp 42) = .pointer (some ⟨q, 2 * 32, none⟩) := hP 18 (by kernel_rfl)
            have e36 : ac.eval (.tmp 36) = .bool true := hP 12 (by kernel_rfl)
            exact rop_ld _ _ rfl e42 (run_loadAt_mid _ _ _ _ _ _ (below_range hB hq r2) Tryd.underlying23 rfl (sum_info' Hc.out)) (wanted_of (j := 12) (b := true) rfl rfl e36) (hK _ _ (le8_refl _) rfl)
          · intro ac w' hF hL hP hU K hK
            have hB : Below _ _ _ := hL
            have e41 : ac.eval (.tmp 41) = sumV a := hP 17 (by kernel_rfl)
            have e43 : ac.eval (.tmp 43) = sumV c := hP 19 (by kernel_rfl)
            have e36 : ac.eval (.tmp 36) = .bool true := hP 12 (by kernel_rfl)
            exact rop_bin _ _ _ _ _ rfl e41 e43 (guard_run .eql _ _ _ _ w') (HAC.out w') (wanted_of (j := 12) (b := true) rfl rfl e36) (hK _ _ (le8_refl _) rfl)
          · intro ac w' hF hL hP hU K hK
            have hB : Below _ _ _ := hL
            have e44 : ac.eval (.tmp 44) = .bool false := hP 20 (by kernel_rfl)
            have e36 : ac.eval (.tmp 36) = .bool true := hP 12 (by kernel_rfl)
            exact rop_move _ rfl e44 (wanted_of (j := 12) (b := true) rfl rfl e36) (hK _ _ (le8_refl _) rfl)
          · intro ac w' hF hL hP hU K hK
            have hB : Below _ _ _ := hL
            have e45 : ac.eval (.tmp 45) = .bool false := hP 21 (by kernel_rfl)
            exact rop_offG (j := 21) (b := true) rfl rfl e45 (by decide) (hK _ _ (le8_refl _) trivial)
          · intro ac w' hF hL hP hU K hK
            have hB : Below _ _ _ := hL
            have e45 : ac.eval (.tmp 45) = .bool false := hP 21 (by kernel_rfl)
            exact rop_offG (j := 21) (b := true) rfl rfl e45 (by decide) (hK _ _ (le8_refl _) trivial)
          · intro ac w' hF hL hP hU K hK
            have hB : Below _ _ _ := hL
            have e45 : ac.eval (.tmp 45) = .bool false := hP 21 (by kernel_rfl)
            exact rop_offG (j := 21) (b := true) rfl rfl e45 (by decide) (hK _ _ (le8_refl _) trivial)
          · intro ac w' hF hL hP hU K hK
            have hB : Below _ _ _ := hL
            have e45 : ac.eval (.tmp 45) = .bool false := hP 21 (by kernel_rfl)
            exact rop_offG (j := 21) (b := true) rfl rfl e45 (by decide) (hK _ _ (le8_refl _) trivial)
          · intro ac w' hF hL hP hU K hK
            have hB : Below _ _ _ := hL
            have e45 : ac.eval (.tmp 45) = .bool false := hP 21 (by kernel_rfl)
            exact rop_offG (j := 21) (b := true) rfl rfl e45 (by decide) (hK _ _ (le8_refl _) trivial)
          · intro ac w' hF hL hP hU K hK
            have hB : Below _ _ _ := hL
            have e45 : ac.eval (.tmp 45) = .bool false := hP 21 (by kernel_rfl)
            have e36 : ac.eval (.tmp 36) = .bool true := hP 12 (by kernel_rfl)
            exact rop_pick _ _ _ rfl false e45 (by rfl) (wanted_of (j := 12) (b := true) rfl rfl e36) (hK _ _ (le8_refl _) rfl)
          · intro ac w' hF hL hP hU K hK
            have hB : Below _ _ _ := hL
            have e39 : ac.eval (.tmp 39) = .bool (decide (T1 = T2)) := hP 15 (by kernel_rfl)
            have e51 : ac.eval (.tmp 51) = .bool false := hP 27 (by kernel_rfl)
            have e36 : ac.eval (.tmp 36) = .bool true := hP 12 (by kernel_rfl)
            exact rop_bin _ _ _ _ _ rfl e39 e51 (guard_bool _ _ _ _ _ _ w') (eql_bool_t _ _ HEQ.out w') (wanted_of (j := 12) (b := true) rfl rfl e36) (hK _ _ (le8_refl _) rfl)
          · intro ac w' hF hL hP hU K hK
            have hB : Below _ _ _ := hL
            have e36 : ac.eval (.tmp 36) = .bool true := hP 12 (by kernel_rfl)
            have e52 : ac.eval (.tmp 52) = .bool true := hP 28 (by kernel_rfl)
            exact rop_pick _ _ _ rfl true e36 (by simpa using e52) (wanted_none rfl) (hK _ _ (le8_refl _) rfl)
          · intro ac w' hF hL hP hU K hK
            have hB : Below _ _ _ := hL
            have e53 : ac.eval (.tmp 53) = .bool true := hP 29 (by kernel_rfl)
            exact rop_move _ rfl e53 (wanted_none rfl) (hK _ _ (le8_refl _) rfl)
          · intro ac w' hF hL hP hU K hK
            have hB : Below _ _ _ := hL
            have e3 : ac.eval (.tmp 3) = .pointer (some ⟨q, 0, none⟩) := hF.at 3 (by kernel_rfl)
            have e54 : ac.eval (.tmp 54) = .bool true := hP 30 (by kernel_rfl)
            exact rop_idx _ _ _ rfl e3 rfl (idx4 q 0 (by decide) w') (wanted_of (j := 30) (b := true) rfl rfl e54) (hK _ _ (le8_refl _) rfl)
          · intro ac w' hF hL hP hU K hK
            have hB : Below _ _ _ := hL
            have e55 : ac.eval (.tmp 55) = .pointer (some ⟨q, 0 * 32, none⟩) := hP 31 (by kernel_rfl)
            have e54 : ac.eval (.tmp 54) = .bool true := hP 30 (by kernel_rfl)
            exact rop_ld _ _ rfl e55 (run_loadAt_mid _ _ _ _ _ _ (below_range hB hq r0) Tryd.underlying23 rfl (sum_info' Ha.out)) (wanted_of (j := 30) (b := true) rfl rfl e54) (hK _ _ (le8_refl _) rfl)
          · intro ac w' hF hL hP hU K hK
            have hB : Below _ _ _ := hL
            have e3 : ac.eval (.tmp 3) = .pointer (some ⟨q, 0, none⟩) := hF.at 3 (by kernel_rfl)
            have e54 : ac.eval (.tmp 54) = .bool true := hP 30 (by kernel_rfl)
            exact rop_idx _ _ _ rfl e3 rfl (idx4 q 1 (by decide) w') (wanted_of (j := 30) (b := true) rfl rfl e54) (hK _ _ (le8_refl _) rfl)
          · intro ac w' hF hL hP hU K hK
            have hB : Below _ _ _ := hL
            have e57 : ac.eval (.tmp 57) = .pointer (some ⟨q, 1 * 32, none⟩) := hP 33 (by kernel_rfl)
            have e54 : ac.eval (.tmp 54) = .bool true := hP 30 (by kernel_rfl)
            exact rop_ld _ _ rfl e57 (run_loadAt_mid _ _ _ _ _ _ (below_range hB hq r1) Tryd.underlying23 rfl (sum_info' Hb.out)) (wanted_of (j := 30) (b := true) rfl rfl e54) (hK _ _ (le8_refl _) rfl)
          · intro ac w' hF hL hP hU K hK
            have hB : Below _ _ _ := hL
            have e56 : ac.eval (.tmp 56) = sumV a := hP 32 (by kernel_rfl)
            have e58 : ac.eval (.tmp 58) = sumV b := hP 34 (by kernel_rfl)
            have e54 : ac.eval (.tmp 54) = .bool true := hP 30 (by kernel_rfl)
            refine rop_call 13 _ _ rfl #[sumV a, sumV b] (by simp [e56, e58]) (by kernel_rfl) (wanted_of (j := 30) (b := true) rfl rfl e54) ?_
            refine (HND.out w' hB).mono ?_
            rintro e w2 ⟨rfl, hb⟩
            exact ⟨_, rfl, hK _ _ hb rfl⟩
          · intro ac w' hF hL hP hU K hK
            have hB : Below _ _ _ := hL
            have e6 : ac.eval (.tmp 6) = .string T1 := hF.at 6 (by kernel_rfl)
            have e54 : ac.eval (.tmp 54) = .bool true := hP 30 (by kernel_rfl)
            exact rop_move _ rfl e6 (wanted_of (j := 30) (b := true) rfl rfl e54) (hK _ _ (le8_refl _) rfl)
          · intro ac w' hF hL hP hU K hK
            have hB : Below _ _ _ := hL
            have e60 : ac.eval (.tmp 60) = .string T1 := hP 36 (by kernel_rfl)
            have e54 : ac.eval (.tmp 54) = .bool true := hP 30 (by kernel_rfl)
            refine rop_call 26 _ _ rfl #[.string T1] (by simp [e60]) (by kernel_rfl) (wanted_of (j := 30) (b := true) rfl rfl e54) ?_
            refine (HOF.out w').mono ?_
            rintro e w2 ⟨rfl, hb⟩
            exact ⟨_, rfl, hK _ _ hb rfl⟩
          · intro ac w' hF hL hP hU K hK
            have hB : Below _ _ _ := hL
            have e59 : ac.eval (.tmp 59) = sumV N := hP 35 (by kernel_rfl)
            have e61 : ac.eval (.tmp 61) = sumV N := hP 37 (by kernel_rfl)
            have e54 : ac.eval (.tmp 54) = .bool true := hP 30 (by kernel_rfl)
            exact rop_bin _ _ _ _ _ rfl e59 e61 (guard_run .eql _ _ _ _ w') (eql_sum_tt N N HNl.out HNl.out rfl w') (wanted_of (j := 30) (b := true) rfl rfl e54) (hK _ _ (le8_refl _) rfl)
          · intro ac w' hF hL hP hU K hK
            have hB : Below _ _ _ := hL
            have e54 : ac.eval (.tmp 54) = .bool true := hP 30 (by kernel_rfl)
            have e62 : ac.eval (.tmp 62) = .bool true := hP 38 (by kernel_rfl)
            exact rop_pick _ _ _ rfl true e54 (by simpa using e62) (wanted_none rfl) (hK _ _ (le8_refl _) rfl)
          · intro ac w' hF hL hP hU K hK
            have hB : Below _ _ _ := hL
            have e63 : ac.eval (.tmp 63) = .bool true := hP 39 (by kernel_rfl)
            exact rop_assign _ rfl e63 (wanted_none rfl) (hK _ _ (le8_refl _) rfl)
          · intro ac w' hF hB hT
            have e4 : ac.eval (.tmp 4) = .bool true := hT 40 (by decide)
            rw [hF.setsG [24, 25, 26, 27, 28, 29, 30, 31, 32, 33, 34, 35, 36, 37, 38, 39, 40, 41, 42, 43, 44, 45, 46, 47, 48, 49, 50, 51, 52, 53, 54, 55, 56, 57, 58, 59, 60, 61, 62, 63, 4] (by kernel_rfl)]
            simp only [List.foldl_cons, List.foldl_nil, List.setIfInBounds_toArray, List.set_cons_succ, List.set_cons_zero, e4]
            generalize ac.eval (.tmp 24) = u24
            generalize ac.eval (.tmp 25) = u25
            generalize ac.eval (.tmp 26) = u26
            generalize ac.eval (.tmp 27) = u27
            generalize ac.eval (.tmp 28) = u28
            generalize ac.eval (.tmp 29) = u29
            generalize ac.eval (.tmp 30) = u30
            generalize ac.eval (.tmp 31) = u31
            generalize ac.eval (.tmp 32) = u32
            generalize ac.eval (.tmp 33) = u33
            generalize ac.eval (.tmp 34) = u34
            generalize ac.eval (.tmp 35) = u35
            generalize ac.eval (.tmp 36) = u36
            generalize ac.eval (.tmp 37) = u37
            generalize ac.eval (.tmp 38) = u38
            generalize ac.eval (.tmp 39) = u39
            generalize ac.eval (.tmp 40) = u40
            generalize ac.eval (.tmp 41) = u41
            generalize ac.eval (.tmp 42) = u42
            generalize ac.eval (.tmp 43) = u43
            generalize ac.eval (.tmp 44) = u44
            generalize ac.eval (.tmp 45) = u45
            generalize ac.eval (.tmp 46) = u46
            generalize ac.eval (.tmp 47) = u47
            generalize ac.eval (.tmp 48) = u48
            generalize ac.eval (.tmp 49) = u49
            generalize ac.eval (.tmp 50) = u50
            generalize ac.eval (.tmp 51) = u51
            generalize ac.eval (.tmp 52) = u52
            generalize ac.eval (.tmp 53) = u53
            generalize ac.eval (.tmp 54) = u54
            generalize ac.eval (.tmp 55) = u55
            generalize ac.eval (.tmp 56) = u56
            generalize ac.eval (.tmp 57) = u57
            generalize ac.eval (.tmp 58) = u58
            generalize ac.eval (.tmp 59) = u59
            generalize ac.eval (.tmp 60) = u60
            generalize ac.eval (.tmp 61) = u61
            generalize ac.eval (.tmp 62) = u62
            generalize ac.eval (.tmp 63) = u63
            clear e4 hT hF ac
            go_wp2
            go_ret
            exact ⟨rfl, below_step bw1 (Nat.le_refl _) hB⟩
  · have hx1' : ¬ 100 < (s0.size : Int) := by omega
    subst hx
    go_upto_region 4 with (go_at_call 10; ((with_reducible refine HAW.out.mono ?_); rintro e w1 ⟨rfl, b1⟩))
    try rw [hx]
    replace r0 := below_range b1 hq r0
    replace r1 := below_range b1 hq r1
    replace r2 := below_range b1 hq r2
    replace r3 := below_range b1 hq r3
    replace hq := Nat.lt_of_lt_of_le hq b1.size
    have bw1 := below_step Hb0.out (Nat.le_refl _) b1
    clear b1
    try simp only [Act.put]
    refine wp_region_tab0 [RT.is (.pointer (some ⟨q, 0 * 32, none⟩)), RT.is (sumV a), RT.is (.pointer (some ⟨q, 1 * 32, none⟩)), RT.is (sumV b), RT.is (.string T1), RT.is (.string T1)] (by kernel_rfl) (by kernel_rfl) (by kernel_rfl) ⟨?_, ?_, ?_, ?_, ?_, ?_, trivial⟩ ?_
    · intro ac w' hF hL hP hU K hK
      have hB : Below _ _ _ := hL
      have e3 : ac.eval (.tmp 3) = .pointer (some ⟨q, 0, none⟩) := hF.at 3 (by kernel_rfl)
      exact rop_idx _ _ _ rfl e3 rfl (idx4 q 0 (by decide) w') (wanted_none rfl) (hK _ _ (le8_refl _) rfl)
    · intro ac w' hF hL hP hU K hK
      have hB : Below _ _ _ := hL
      have e14 : ac.eval (.tmp 14) = .pointer (some ⟨q, 0 * 32, none⟩) := hP 0 (by kernel_rfl)
      exact rop_ld _ _ rfl e14 (run_loadAt_mid _ _ _ _ _ _ (below_range hB hq r0) Tryd.underlying23 rfl (sum_info' Ha.out)) (wanted_none rfl) (hK _ _ (le8_refl _) rfl)
    · intro ac w' hF hL hP hU K hK
      have hB : Below _ _ _ := hL
      have e3 : ac.eval (.tmp 3) = .pointer (some ⟨q, 0, none⟩) := hF.at 3 (by kernel_rfl)
      exact rop_idx _ _ _ rfl e3 rfl (idx4 q 1 (by decide) w') (wanted_none rfl) (hK _ _ (le8_refl _) rfl)
    · intro ac w' hF hL hP hU K hK
      have hB : Below _ _ _ := hL
      have e16 : ac.eval (.tmp 16) = .pointer (some ⟨q, 1 * 32, none⟩) := hP 2 (by kernel_rfl)
      exact rop_ld _ _ rfl e16 (run_loadAt_mid _ _ _ _ _ _ (below_range hB hq r1) Tryd.underlying23 rfl (sum_info' Hb.out)) (wanted_none rfl) (hK _ _ (le8_refl _) rfl)
    · intro ac w' hF hL hP hU K hK
      have hB : Below _ _ _ := hL
      have e15 : ac.eval (.tmp 15) = sumV a := hP 1 (by kernel_rfl)
      have e17 : ac.eval (.tmp 17) = sumV b := hP 3 (by kernel_rfl)
      refine rop_call 15 _ _ rfl #[sumV a, sumV b] (by simp [e15, e17]) (by kernel_rfl) (wanted_none rfl) ?_
      refine (HP1.out w').mono ?_
      rintro e w2 ⟨rfl, hb⟩
      exact ⟨_, rfl, hK _ _ hb rfl⟩
    · intro ac w' hF hL hP hU K hK
      have hB : Below _ _ _ := hL
      have e18 : ac.eval (.tmp 18) = .string T1 := hP 4 (by kernel_rfl)
      exact rop_assign _ rfl e18 (wanted_none rfl) (hK _ _ (le8_refl _) rfl)
    · intro ac w' hF hB hT
      have e6 : ac.eval (.tmp 6) = .string T1 := hT 5 (by decide)
      rw [hF.setsG [14, 15, 16, 17, 18, 6] (by kernel_rfl)]
      simp only [List.foldl_cons, List.foldl_nil, List.setIfInBounds_toArray, List.set_cons_succ, List.set_cons_zero, e6]
      generalize ac.eval (.tmp 14) = u14
      generalize ac.eval (.tmp 15) = u15
      generalize ac.eval (.tmp 16) = u16
      generalize ac.eval (.tmp 17) = u17
      generalize ac.eval (.tmp 18) = u18
      clear e6 hT hF ac
      replace r0 := below_range hB hq r0
      replace r1 := below_range hB hq r1
      replace r2 := below_range hB hq r2
      replace r3 := below_range hB hq r3
      replace hq := Nat.lt_of_lt_of_le hq hB.size
      replace bw1 := below_step bw1 (Nat.le_refl _) hB
      clear hB
      obtain ⟨W, hW⟩ : ∃ W, W = w' := ⟨_, rfl⟩
      subst hW
      go_upto_region 5 with (fail)
      try simp only [Act.put]
      refine wp_region_tab0 [RT.is (.pointer (some ⟨q, 2 * 32, none⟩)), RT.is (sumV c), RT.is (.pointer (some ⟨q, 3 * 32, none⟩)), RT.is (sumV d), RT.is (.string T2), RT.is (.string T2)] (by kernel_rfl) (by kernel_rfl) (by kernel_rfl) ⟨?_, ?_, ?_, ?_, ?_, ?_, trivial⟩ ?_
      · intro ac w' hF hL hP hU K hK
        have hB : Below _ _ _ := hL
        have e3 : ac.eval (.tmp 3) = .pointer (some ⟨q, 0, none⟩) := hF.at 3 (by kernel_rfl)
        exact rop_idx _ _ _ rfl e3 rfl (idx4 q 2 (by decide) w') (wanted_none rfl) (hK _ _ (le8_refl _) rfl)
      · intro ac w' hF hL hP hU K hK
        have hB : Below _ _ _ := hL
        have e19 : ac.eval (.tmp 19) = .pointer (some ⟨q, 2 * 32, none⟩) := hP 0 (by kernel_rfl)
        exact rop_ld _ _ rfl e19 (run_loadAt_mid _ _ _ _ _ _ (below_range hB hq r2) Tryd.underlying23 rfl (sum_info' Hc.out)) (wanted_none rfl) (hK _ _ (le8_refl _) rfl)
      · intro ac w' hF hL hP hU K hK
        have hB : Below _ _ _ := hL
        have e3 : ac.eval (.tmp 3) = .pointer (some ⟨q, 0, none⟩) := hF.at 3 (by kernel_rfl)
        exact rop_idx _ _ _ rfl e3 rfl (idx4 q 3 (by decide) w') (wanted_none rfl) (hK _ _ (le8_refl _) rfl)
      · intro ac w' hF hL hP hU K hK
        have hB : Below _ _ _ := hL
        have e21 : ac.eval (.tmp 21) = .pointer (some ⟨q, 3 * 32, none⟩) := hP 2 (by kernel_rfl)
        exact rop_ld _ _ rfl e21 (run_loadAt_mid _ _ _ _ _ _ (below_range hB hq r3) Tryd.underlying23 rfl (sum_info' Hd.out)) (wanted_none rfl) (hK _ _ (le8_refl _) rfl)
      · intro ac w' hF hL hP hU K hK
        have hB : Below _ _ _ := hL
        have e20 : ac.eval (.tmp 20) = sumV c := hP 1 (by kernel_rfl)
        have e22 : ac.eval (.tmp 22) = sumV d := hP 3 (by kernel_rfl)
        refine rop_call 15 _ _ rfl #[sumV c, sumV d] (by simp [e20, e22]) (by kernel_rfl) (wanted_none rfl) ?_
        refine (HP2.out w').mono ?_
        rintro e w2 ⟨rfl, hb⟩
        exact ⟨_, rfl, hK _ _ hb rfl⟩
      · intro ac w' hF hL hP hU K hK
        have hB : Below _ _ _ := hL
        have e23 : ac.eval (.tmp 23) = .string T2 := hP 4 (by kernel_rfl)
        exact rop_assign _ rfl e23 (wanted_none rfl) (hK _ _ (le8_refl _) rfl)
      · intro ac w' hF hB hT
        have e7 : ac.eval (.tmp 7) = .string T2 := hT 5 (by decide)
        rw [hF.setsG [19, 20, 21, 22, 23, 7] (by kernel_rfl)]
        simp only [List.foldl_cons, List.foldl_nil, List.setIfInBounds_toArray, List.set_cons_succ, List.set_cons_zero, e7]
        generalize ac.eval (.tmp 19) = u19
        generalize ac.eval (.tmp 20) = u20
        generalize ac.eval (.tmp 21) = u21
        generalize ac.eval (.tmp 22) = u22
        generalize ac.eval (.tmp 23) = u23
        clear e7 hT hF ac
        replace r0 := below_range hB hq r0
        replace r1 := below_range hB hq r1
        replace r2 := below_range hB hq r2
        replace r3 := below_range hB hq r3
        replace hq := Nat.lt_of_lt_of_le hq hB.size
        replace bw1 := below_step bw1 (Nat.le_refl _) hB
        clear hB
        obtain ⟨V, hV⟩ : ∃ V, V = w' := ⟨_, rfl⟩
        subst hV
        have HND : Hid (∀ u : World, Below V.heap.size V u → Calls Tryd.prog 13 #[sumV a, sumV b] u fun e w' => e = .returned (sumV N) ∧ Below u.heap.size u w') := Lib.hid fun u hu => HND0.out u ((HKW.out.old bw1).old hu)
        go_upto_region 6 with (fail)
        by_cases hac : a = c
        · have HAC := Lib.hid hac
          have HEQ : Hid (decide (T1 = T2) = decide (b = d)) := Lib.hid (decide_eq_decide.2 (HTT.out.trans ⟨fun h => h.2, fun h => ⟨HAC.out, h⟩⟩))
          clear hac
          try simp only [Act.put]
          refine wp_region_tab0 [RT.is (.bool true), RT.is (.bool true), RT.is (.string T1), RT.is (.int .i64 (T1.size : Int)), RT.is (.bool true), RT.is (.bool true), RT.is (.bool true), RT.is (.string T1), RT.is (.string s0), RT.is (.string (⟨#[0]⟩ ++ s0)), RT.is (.bool true), RT.is (.bool true), RT.is (.bool true), RT.is (.string T1), RT.is (.string T2), RT.is (.bool (decide (T1 = T2))), RT.is (.pointer (some ⟨q, 0 * 32, none⟩)), RT.is (sumV a), RT.is (.pointer (some ⟨q, 2 * 32, none⟩)), RT.is (sumV c), RT.is (.bool true), RT.is (.bool true), RT.is (.pointer (some ⟨q, 1 * 32, none⟩)), RT.is (sumV b), RT.is (.pointer (some ⟨q, 3 * 32, none⟩)), RT.is (sumV d), RT.is (.bool (decide (b = d))), RT.is (.bool (decide (b = d))), RT.is (.bool true), RT.is (.bool true), RT.is (.bool true), RT.is (.pointer (some ⟨q, 0 * 32, none⟩)), RT.is (sumV a), RT.is (.pointer (some ⟨q, 1 * 32, none⟩)), RT.is (sumV b), RT.is (sumV N), RT.is (.string T1), RT.is (sumV N), RT.is (.bool true), RT.is (.bool true), RT.is (.bool true)] (by kernel_rfl) (by kernel_rfl) (by kernel_rfl) ⟨?_, ?_, ?_, ?_, ?_, ?_, ?_, ?_, ?_, ?_, ?_, ?_, ?_, ?_, ?_, ?_, ?_, ?_, ?_, ?_, ?_, ?_, ?_, ?_, ?_, ?_, ?_, ?_, ?_, ?_, ?_, ?_, ?_, ?_, ?_, ?_, ?_, ?_, ?_, ?_, ?_, trivial⟩ ?_
          · intro ac w' hF hL hP hU K hK
            have hB : Below _ _ _ := hL
            have e5 : ac.eval (.tmp 5) = .bool true := hF.at 5 (by kernel_rfl)
            exact rop_move _ rfl e5 (wanted_none rfl) (hK _ _ (le8_refl _) rfl)
          · intro ac w' hF hL hP hU K hK
            have hB : Below _ _ _ := hL
            have e24 : ac.eval (.tmp 24) = .bool true := hP 0 (by kernel_rfl)
            exact rop_move _ rfl e24 (wanted_none rfl) (hK _ _ (le8_refl _) rfl)
          · intro ac w' hF hL hP hU K hK
            have hB : Below _ _ _ := hL
            have e6 : ac.eval (.tmp 6) = .string T1 := hF.at 6 (by kernel_rfl)
            have e25 : ac.eval (.tmp 25) = .bool true := hP 1 (by kernel_rfl)
            exact rop_move _ rfl e6 (wanted_of (j := 1) (b := true) rfl rfl e25) (hK _ _ (le8_refl _) rfl)
          · intro ac w' hF hL hP hU K hK
            have hB : Below _ _ _ := hL
            have e26 : ac.eval (.tmp 26) = .string T1 := hP 2 (by kernel_rfl)
            have e25 : ac.eval (.tmp 25) = .bool true := hP 1 (by kernel_rfl)
            exact rop_len_str _ rfl _ e26 (wanted_of (j := 1) (b := true) rfl rfl e25) (hK _ _ (le8_refl _) rfl)
          · intro ac w' hF hL hP hU K hK
            have hB : Below _ _ _ := hL
            have e27 : ac.eval (.tmp 27) = .int .i64 (T1.size : Int) := hP 3 (by kernel_rfl)
            have e25 : ac.eval (.tmp 25) = .bool true := hP 1 (by kernel_rfl)
            exact rop_bin _ _ _ _ _ rfl e27 rfl (guard_int _ _ _ _ _ _ _ w') (eql_iG _ _ _ (decide_eq_true (by rw [HS1.out]; rfl)) w') (wanted_of (j := 1) (b := true) rfl rfl e25) (hK _ _ (le8_refl _) rfl)
          · intro ac w' hF hL hP hU K hK
            have hB : Below _ _ _ := hL
            have e25 : ac.eval (.tmp 25) = .bool true := hP 1 (by kernel_rfl)
            have e28 : ac.eval (.tmp 28) = .bool true := hP 4 (by kernel_rfl)
            exact rop_pick _ _ _ rfl true e25 (by simpa using e28) (wanted_none rfl) (hK _ _ (le8_refl _) rfl)
          · intro ac w' hF hL hP hU K hK
            have hB : Below _ _ _ := hL
            have e29 : ac.eval (.tmp 29) = .bool true := hP 5 (by kernel_rfl)
            exact rop_move _ rfl e29 (wanted_none rfl) (hK _ _ (le8_refl _) rfl)
          · intro ac w' hF hL hP hU K hK
            have hB : Below _ _ _ := hL
            have e6 : ac.eval (.tmp 6) = .string T1 := hF.at 6 (by kernel_rfl)
            have e30 : ac.eval (.tmp 30) = .bool true := hP 6 (by kernel_rfl)
            exact rop_move _ rfl e6 (wanted_of (j := 6) (b := true) rfl rfl e30) (hK _ _ (le8_refl _) rfl)
          · intro ac w' hF hL hP hU K hK
            have hB : Below _ _ _ := hL
            have e0 : ac.eval (.tmp 0) = .string s0 := hF.at 0 (by kernel_rfl)
            have e30 : ac.eval (.tmp 30) = .bool true := hP 6 (by kernel_rfl)
            exact rop_move _ rfl e0 (wanted_of (j := 6) (b := true) rfl rfl e30) (hK _ _ (le8_refl _) rfl)
          · intro ac w' hF hL hP hU K hK
            have hB : Below _ _ _ := hL
            have e32 : ac.eval (.tmp 32) = .string s0 := hP 8 (by kernel_rfl)
            have e30 : ac.eval (.tmp 30) = .bool true := hP 6 (by kernel_rfl)
            exact rop_bin _ _ _ _ _ rfl rfl e32 (guard_str _ _ _ _ _ _ w') (add_str _ _ HSZ.out w') (wanted_of (j := 6) (b := true) rfl rfl e30) (hK _ _ (le8_refl _) rfl)
          · intro ac w' hF hL hP hU K hK
            have hB : Below _ _ _ := hL
            have e31 : ac.eval (.tmp 31) = .string T1 := hP 7 (by kernel_rfl)
            have e33 : ac.eval (.tmp 33) = .string (⟨#[0]⟩ ++ s0) := hP 9 (by kernel_rfl)
            have e30 : ac.eval (.tmp 30) = .bool true := hP 6 (by kernel_rfl)
            exact rop_bin _ _ _ _ _ rfl e31 e33 (guard_str _ _ _ _ _ _ w') (neq_str_t _ _ HNE.out w') (wanted_of (j := 6) (b := true) rfl rfl e30) (hK _ _ (le8_refl _) rfl)
          · intro ac w' hF hL hP hU K hK
            have hB : Below _ _ _ := hL
            have e30 : ac.eval (.tmp 30) = .bool true := hP 6 (by kernel_rfl)
            have e34 : ac.eval (.tmp 34) = .bool true := hP 10 (by kernel_rfl)
            exact rop_pick _ _ _ rfl true e30 (by simpa using e34) (wanted_none rfl) (hK _ _ (le8_refl _) rfl)
          · intro ac w' hF hL hP hU K hK
            have hB : Below _ _ _ := hL
            have e35 : ac.eval (.tmp 35) = .bool true := hP 11 (by kernel_rfl)
            exact rop_move _ rfl e35 (wanted_none rfl) (hK _ _ (le8_refl _) rfl)
          · intro ac w' hF hL hP hU K hK
            have hB : Below _ _ _ := hL
            have e6 : ac.eval (.tmp 6) = .string T1 := hF.at 6 (by kernel_rfl)
            have e36 : ac.eval (.tmp 36) = .bool true := hP 12 (by kernel_rfl)
            exact rop_move _ rfl e6 (wanted_of (j := 12) (b := true) rfl rfl e36) (hK _ _ (le8_refl _) rfl)
          · intro ac w' hF hL hP hU K hK
            have hB : Below _ _ _ := hL
            have e7 : ac.eval (.tmp 7) = .string T2 := hF.at 7 (by kernel_rfl)
            have e36 : ac.eval (.tmp 36) = .bool true := hP 12 (by kernel_rfl)
            exact rop_move _ rfl e7 (wanted_of (j := 12) (b := true) rfl rfl e36) (hK _ _ (le8_refl _) rfl)
          · intro ac w' hF hL hP hU K hK
            have hB : Below _ _ _ := hL
            have e37 : ac.eval (.tmp 37) = .string T1 := hP 13 (by kernel_rfl)
            have e38 : ac.eval (.tmp 38) = .string T2 := hP 14 (by kernel_rfl)
            have e36 : ac.eval (.tmp 36) = .bool true := hP 12 (by kernel_rfl)
            exact rop_bin _ _ _ _ _ rfl e37 e38 (guard_str _ _ _ _ _ _ w') (eql_str T1 T2 w') (wanted_of (j := 12) (b := true) rfl rfl e36) (hK _ _ (le8_refl _) rfl)
          · intro ac w' hF hL hP hU K hK
            have hB : Below _ _ _ := hL
            have e3 : ac.eval (.tmp 3) = .pointer (some ⟨q, 0, none⟩) := hF.at 3 (by kernel_rfl)
            have e36 : ac.eval (.tmp 36) = .bool true := hP 12 (by kernel_rfl)
            exact rop_idx _ _ _ rfl e3 rfl (idx4 q 0 (by decide) w') (wanted_of (j := 12) (b := true) rfl rfl e36) (hK _ _ (le8_refl _) rfl)
          · intro ac w' hF hL hP hU K hK
            have hB : Below _ _ _ := hL
            have e40 : ac.eval (.tmp 40) = .pointer (some ⟨q, 0 * 32, none⟩) := hP 16 (by kernel_rfl)
            have e36 : ac.eval (.tmp 36) = .bool true := hP 12 (by kernel_rfl)
            exact rop_ld _ _ rfl e40 (run_loadAt_mid _ _ _ _ _ _ (below_range hB hq r0) Tryd.underlying23 rfl (sum_info' Ha.out)) (wanted_of (j := 12) (b := true) rfl rfl e36) (hK _ _ (le8_refl _) rfl)
          · intro ac w' hF hL hP hU K hK
            have hB : Below _ _ _ := hL
            have e3 : ac.eval (.tmp 3) = .pointer (some ⟨q, 0, none⟩) := hF.at 3 (by kernel_rfl)
            have e36 : ac.eval (.tmp 36) = .bool true := hP 12 (by kernel_rfl)
            exact rop_idx _ _ _ rfl e3 rfl (idx4 q 2 (by decide) w') (wanted_of (j := 12) (b := true) rfl rfl e36) (hK _ _ (le8_refl _) rfl)
          · intro ac w' hF hL hP hU K hK
            have hB : Below _ _ _ := hL
            have e42 : ac.eval (.tmp 42) = .pointer (some ⟨q, 2 * 32, none⟩) := hP 18 (by kernel_rfl)
            have e36 : ac.eval (.tmp 36) = .bool true := hP 12 (by kernel_rfl)
            exact rop_ld _ _ rfl e42 (run_loadAt_mid _ _ _ _ _ _ (below_range hB hq r2) Tryd.underlying23 rfl (sum_info' Hc.out)) (wanted_of (j := 12) (b := true) rfl rfl e36) (hK _ _ (le8_refl _) rfl)
          · intro ac w' hF hL hP hU K hK
            have hB : Below _ _ _ := hL
            have e41 : ac.eval (.tmp 41) = sumV a := hP 17 (by kernel_rfl)
            have e43 : ac.eval (.tmp 43) = sumV c := hP 19 (by kernel_rfl)
            have e36 : ac.eval (.tmp 36) = .bool true := hP 12 (by kernel_rfl)
            exact rop_bin _ _ _ _ _ rfl e41 e43 (guard_run .eql _ _ _ _ w') (eql_sum_tt a c Ha.out Hc.out HAC.out w') (wanted_of (j := 12) (b := true) rfl rfl e36) (hK _ _ (le8_refl _) rfl)
          · intro ac w' hF hL hP hU K hK
            have hB : Below _ _ _ := hL
            have e44 : ac.eval (.tmp 44) = .bool true := hP 20 (by kernel_rfl)
            have e36 : ac.eval (.tmp 36) = .bool true := hP 12 (by kernel_rfl)
            exact rop_move _ rfl e44 (wanted_of (j := 12) (b := true) rfl rfl e36) (hK _ _ (le8_refl _) rfl)
          · intro ac w' hF hL hP hU K hK
            have hB : Below _ _ _ := hL
            have e3 : ac.eval (.tmp 3) = .pointer (some ⟨q, 0, none⟩) := hF.at 3 (by kernel_rfl)
            have e45 : ac.eval (.tmp 45) = .bool true := hP 21 (by kernel_rfl)
            exact rop_idx _ _ _ rfl e3 rfl (idx4 q 1 (by decide) w') (wanted_of (j := 21) (b := true) rfl rfl e45) (hK _ _ (le8_refl _) rfl)
          · intro ac w' hF hL hP hU K hK
            have hB : Below _ _ _ := hL
            have e46 : ac.eval (.tmp 46) = .pointer (some ⟨q, 1 * 32, none⟩) := hP 22 (by kernel_rfl)
            have e45 : ac.eval (.tmp 45) = .bool true := hP 21 (by kernel_rfl)
            exact rop_ld _ _ rfl e46 (run_loadAt_mid _ _ _ _ _ _ (below_range hB hq r1) Tryd.underlying23 rfl (sum_info' Hb.out)) (wanted_of (j := 21) (b := true) rfl rfl e45) (hK _ _ (le8_refl _) rfl)
          · intro ac w' hF hL hP hU K hK
            have hB : Below _ _ _ := hL
            have e3 : ac.eval (.tmp 3) = .pointer (some ⟨q, 0, none⟩) := hF.at 3 (by kernel_rfl)
            have e45 : ac.eval (.tmp 45) = .bool true := hP 21 (by kernel_rfl)
            exact rop_idx _ _ _ rfl e3 rfl (idx4 q 3 (by decide) w') (wanted_of (j := 21) (b := true) rfl rfl e45) (hK _ _ (le8_refl _) rfl)
          · intro ac w' hF hL hP hU K hK
            have hB : Below _ _ _ := hL
            have e48 : ac.eval (.tmp 48) = .pointer (some ⟨q, 3 * 32, none⟩) := hP 24 (by kernel_rfl)
            have e45 : ac.eval (.tmp 45) = .bool true := hP 21 (by kernel_rfl)
            exact rop_ld _ _ rfl e48 (run_loadAt_mid _ _ _ _ _ _ (below_range hB hq r3) Tryd.underlying23 rfl (sum_info' Hd.out)) (wanted_of (j := 21) (b := true) rfl rfl e45) (hK _ _ (le8_refl _) rfl)
          · intro ac w' hF hL hP hU K hK
            have hB : Below _ _ _ := hL
            have e47 : ac.eval (.tmp 47) = sumV b := hP 23 (by kernel_rfl)
            have e49 : ac.eval (.tmp 49) = sumV d := hP 25 (by kernel_rfl)
            have e45 : ac.eval (.tmp 45) = .bool true := hP 21 (by kernel_rfl)
            exact rop_bin _ _ _ _ _ rfl e47 e49 (guard_run .eql _ _ _ _ w') (eql_sum b d Hb.out Hd.out w') (wanted_of (j := 21) (b := true) rfl rfl e45) (hK _ _ (le8_refl _) rfl)
          · intro ac w' hF hL hP hU K hK
            have hB : Below _ _ _ := hL
            have e45 : ac.eval (.tmp 45) = .bool true := hP 21 (by kernel_rfl)
            have e50 : ac.eval (.tmp 50) = .bool (decide (b = d)) := hP 26 (by kernel_rfl)
            have e36 : ac.eval (.tmp 36) = .bool true := hP 12 (by kernel_rfl)
            exact rop_pick _ _ _ rfl true e45 (by simpa using e50) (wanted_of (j := 12) (b := true) rfl rfl e36) (hK _ _ (le8_refl _) rfl)
          · intro ac w' hF hL hP hU K hK
            have hB : Below _ _ _ := hL
            have e39 : ac.eval (.tmp 39) = .bool (decide (T1 = T2)) := hP 15 (by kernel_rfl)
            have e51 : ac.eval (.tmp 51) = .bool (decide (b = d)) := hP 27 (by kernel_rfl)
            have e36 : ac.eval (.tmp 36) = .bool true := hP 12 (by kernel_rfl)
            exact rop_bin _ _ _ _ _ rfl e39 e51 (guard_bool _ _ _ _ _ _ w') (eql_bool_t _ _ HEQ.out w') (wanted_of (j := 12) (b := true) rfl rfl e36) (hK _ _ (le8_refl _) rfl)
          · intro ac w' hF hL hP hU K hK
            have hB : Below _ _ _ := hL
            have e36 : ac.eval (.tmp 36) = .bool true := hP 12 (by kernel_rfl)
            have e52 : ac.eval (.tmp 52) = .bool true := hP 28 (by kernel_rfl)
            exact rop_pick _ _ _ rfl true e36 (by simpa using e52) (wanted_none rfl) (hK _ _ (le8_refl _) rfl)
          · intro ac w' hF hL hP hU K hK
            have hB : Below _ _ _ := hL
            have e53 : ac.eval (.tmp 53) = .bool true := hP 29 (by kernel_rfl)
            exact rop_move _ rfl e53 (wanted_none rfl) (hK _ _ (le8_refl _) rfl)
          · intro ac w' hF hL hP hU K hK
            have hB : Below _ _ _ := hL
            have e3 : ac.eval (.tmp 3) = .pointer (some ⟨q, 0, none⟩) := hF.at 3 (by kernel_rfl)
            have e54 : ac.eval (.tmp 54) = .bool true := hP 30 (by kernel_rfl)
            exact rop_idx _ _ _ rfl e3 rfl (idx4 q 0 (by decide) w') (wanted_of (j := 30) (b := true) rfl rfl e54) (hK _ _ (le8_refl _) rfl)
          · intro ac w' hF hL hP hU K hK
            have hB : Below _ _ _ := hL
            have e55 : ac.eval (.tmp 55) = .pointer (some ⟨q, 0 * 32, none⟩) := hP 31 (by kernel_rfl)
            have e54 : ac.eval (.tmp 54) = .bool true := hP 30 (by kernel_rfl)
            exact rop_ld _ _ rfl e55 (run_loadAt_mid _ _ _ _ _ _ (below_range hB hq r0) Tryd.underlying23 rfl (sum_info' Ha.out)) (wanted_of (j := 30) (b := true) rfl rfl e54) (hK _ _ (le8_refl _) rfl)
          · intro ac w' hF hL hP hU K hK
            have hB : Below _ _ _ := hL
            have e3 : ac.eval (.tmp 3) = .pointer (some ⟨q, 0, none⟩) := hF.at 3 (by kernel_rfl)
            have e54 : ac.eval (.tmp 54) = .bool true := hP 30 (by kernel_rfl)
            exact rop_idx _ _ _ rfl e3 rfl (idx4 q 1 (by decide) w') (wanted_of (j := 30) (b := true) rfl rfl e54) (hK _ _ (le8_refl _) rfl)
          · intro ac w' hF hL hP hU K hK
            have hB : Below _ _ _ := hL
            have e57 : ac.eval (.tmp 57) = .pointer (some ⟨q, 1 * 32, none⟩) := hP 33 (by kernel_rfl)
            have e54 : ac.eval (.tmp 54) = .bool true := hP 30 (by kernel_rfl)
            exact rop_ld _ _ rfl e57 (run_loadAt_mid _ _ _ _ _ _ (below_range hB hq r1) Tryd.underlying23 rfl (sum_info' Hb.out)) (wanted_of (j := 30) (b := true) rfl rfl e54) (hK _ _ (le8_refl _) rfl)
          · intro ac w' hF hL hP hU K hK
            have hB : Below _ _ _ := hL
            have e56 : ac.eval (.tmp 56) = sumV a := hP 32 (by kernel_rfl)
            have e58 : ac.eval (.tmp 58) = sumV b := hP 34 (by kernel_rfl)
            have e54 : ac.eval (.tmp 54) = .bool true := hP 30 (by kernel_rfl)
            refine rop_call 13 _ _ rfl #[sumV a, sumV b] (by simp [e56, e58]) (by kernel_rfl) (wanted_of (j := 30) (b := true) rfl rfl e54) ?_
            refine (HND.out w' hB).mono ?_
            rintro e w2 ⟨rfl, hb⟩
            exact ⟨_, rfl, hK _ _ hb rfl⟩
          · intro ac w' hF hL hP hU K hK
            have hB : Below _ _ _ := hL
            have e6 : ac.eval (.tmp 6) = .string T1 := hF.at 6 (by kernel_rfl)
            have e54 : ac.eval (.tmp 54) = .bool true := hP 30 (by kernel_rfl)
            exact rop_move _ rfl e6 (wanted_of (j := 30) (b := true) rfl rfl e54) (hK _ _ (le8_refl _) rfl)
          · intro ac w' hF hL hP hU K hK
            have hB : Below _ _ _ := hL
            have e60 : ac.eval (.tmp 60) = .string T1 := hP 36 (by kernel_rfl)
            have e54 : ac.eval (.tmp 54) = .bool true := hP 30 (by kernel_rfl)
            refine rop_call 26 _ _ rfl #[.string T1] (by simp [e60]) (by kernel_rfl) (wanted_of (j := 30) (b := true) rfl rfl e54) ?_
            refine (HOF.out w').mono ?_
            rintro e w2 ⟨rfl, hb⟩
            exact ⟨_, rfl, hK _ _ hb rfl⟩
          · intro ac w' hF hL hP hU K hK
            have hB : Below _ _ _ := hL
            have e59 : ac.eval (.tmp 59) = sumV N := hP 35 (by kernel_rfl)
            have e61 : ac.eval (.tmp 61) = sumV N := hP 37 (by kernel_rfl)
            have e54 : ac.eval (.tmp 54) = .bool true := hP 30 (by kernel_rfl)
            exact rop_bin _ _ _ _ _ rfl e59 e61 (guard_run .eql _ _ _ _ w') (eql_sum_tt N N HNl.out HNl.out rfl w') (wanted_of (j := 30) (b := true) rfl rfl e54) (hK _ _ (le8_refl _) rfl)
          · intro ac w' hF hL hP hU K hK
            have hB : Below _ _ _ := hL
            have e54 : ac.eval (.tmp 54) = .bool true := hP 30 (by kernel_rfl)
            have e62 : ac.eval (.tmp 62) = .bool true := hP 38 (by kernel_rfl)
            exact rop_pick _ _ _ rfl true e54 (by simpa using e62) (wanted_none rfl) (hK _ _ (le8_refl _) rfl)
          · intro ac w' hF hL hP hU K hK
            have hB : Below _ _ _ := hL
            have e63 : ac.eval (.tmp 63) = .bool true := hP 39 (by kernel_rfl)
            exact rop_assign _ rfl e63 (wanted_none rfl) (hK _ _ (le8_refl _) rfl)
          · intro ac w' hF hB hT
            have e4 : ac.eval (.tmp 4) = .bool true := hT 40 (by decide)
            rw [hF.setsG [24, 25, 26, 27, 28, 29, 30, 31, 32, 33, 34, 35, 36, 37, 38, 39, 40, 41, 42, 43, 44, 45, 46, 47, 48, 49, 50, 51, 52, 53, 54, 55, 56, 57, 58, 59, 60, 61, 62, 63, 4] (by kernel_rfl)]
            simp only [List.foldl_cons, List.foldl_nil, List.setIfInBounds_toArray, List.set_cons_succ, List.set_cons_zero, e4]
            generalize ac.eval (.tmp 24) = u24
            generalize ac.eval (.tmp 25) = u25
            generalize ac.eval (.tmp 26) = u26
            generalize ac.eval (.tmp 27) = u27
            generalize ac.eval (.tmp 28) = u28
            generalize ac.eval (.tmp 29) = u29
            generalize ac.eval (.tmp 30) = u30
            generalize ac.eval (.tmp 31) = u31
            generalize ac.eval (.tmp 32) = u32
            generalize ac.eval (.tmp 33) = u33
            generalize ac.eval (.tmp 34) = u34
            generalize ac.eval (.tmp 35) = u35
            generalize ac.eval (.tmp 36) = u36
            generalize ac.eval (.tmp 37) = u37
            generalize ac.eval (.tmp 38) = u38
            generalize ac.eval (.tmp 39) = u39
            generalize ac.eval (.tmp 40) = u40
            generalize ac.eval (.tmp 41) = u41
            generalize ac.eval (.tmp 42) = u42
            generalize ac.eval (.tmp 43) = u43
            generalize ac.eval (.tmp 44) = u44
            generalize ac.eval (.tmp 45) = u45
            generalize ac.eval (.tmp 46) = u46
            generalize ac.eval (.tmp 47) = u47
            generalize ac.eval (.tmp 48) = u48
            generalize ac.eval (.tmp 49) = u49
            generalize ac.eval (.tmp 50) = u50
            generalize ac.eval (.tmp 51) = u51
            generalize ac.eval (.tmp 52) = u52
            generalize ac.eval (.tmp 53) = u53
            generalize ac.eval (.tmp 54) = u54
            generalize ac.eval (.tmp 55) = u55
            generalize ac.eval (.tmp 56) = u56
            generalize ac.eval (.tmp 57) = u57
            generalize ac.eval (.tmp 58) = u58
            generalize ac.eval (.tmp 59) = u59
            generalize ac.eval (.tmp 60) = u60
            generalize ac.eval (.tmp 61) = u61
            generalize ac.eval (.tmp 62) = u62
            generalize ac.eval (.tmp 63) = u63
            clear e4 hT hF ac
            go_wp2
            go_ret
            exact ⟨rfl, below_step bw1 (Nat.le_refl _) hB⟩
        · have HAC : Hid (∀ u : World, (binOp .eql 23 (sumV a) (sumV c)).run Tryd.prog u = .ok (.bool false) u) := Lib.hid fun u => by
            have := eql_sum a c Ha.out Hc.out u
            rwa [decide_eq_false hac] at this
          have HEQ : Hid (decide (T1 = T2) = false) := Lib.hid (decide_eq_false fun e => hac (HTT.out.1 e).1)
          clear hac
          try simp only [Act.put]
          refine wp_region_tab0 [RT.is (.bool true), RT.is (.bool true), RT.is (.string T1), RT.is (.int .i64 (T1.size : Int)), RT.is (.bool true), RT.is (.bool true), RT.is (.bool true), RT.is (.string T1), RT.is (.string s0), RT.is (.string (⟨#[0]⟩ ++ s0)), RT.is (.bool true), RT.is (.bool true), RT.is (.bool true), RT.is (.string T1), RT.is (.string T2), RT.is (.bool (decide (T1 = T2))), RT.is (.pointer (some ⟨q, 0 * 32, none⟩)), RT.is (sumV a), RT.is (.pointer (some ⟨q, 2 * 32, none⟩)), RT.is (sumV c), RT.is (.bool false), RT.is (.bool false), RT.any, RT.any, RT.any, RT.any, RT.any, RT.is (.bool false), RT.is (.bool true), RT.is (.bool true), RT.is (.bool true), RT.is (.pointer (some ⟨q, 0 * 32, none⟩)), RT.is (sumV a), RT.is (.pointer (some ⟨q, 1 * 32, none⟩)), RT.is (sumV b), RT.is (sumV N), RT.is (.string T1), RT.is (sumV N), RT.is (.bool true), RT.is (.bool true), RT.is (.bool true)] (by kernel_rfl) (by kernel_rfl) (by kernel_rfl) ⟨?_, ?_, ?_, ?_, ?_, ?_, ?_, ?_, ?_, ?_, ?_, ?_, ?_, ?_, ?_, ?_, ?_, ?_, ?_, ?_, ?_, ?_, ?_, ?_, ?_, ?_, ?_, ?_, ?_, ?_, ?_, ?_, ?_, ?_, ?_, ?_, ?_, ?_, ?_, ?_, ?_, trivial⟩ ?_
          · intro ac w' hF hL hP hU K hK
            have hB : Below _ _ _ := hL
            have e5 : ac.eval (.tmp 5) = .bool true := hF.at 5 (by kernel_rfl)
            exact rop_move _ rfl e5 (wanted_none rfl) (hK _ _ (le8_refl _) rfl)
          · intro ac w' hF hL hP hU K hK
            have hB : Below _ _ _ := hL
            have e24 : ac.eval (.tmp 24) = .bool true := hP 0 (by kernel_rfl)
            exact rop_move _ rfl e24 (wanted_none rfl) (hK _ _ (le8_refl _) rfl)
          · intro ac w' hF hL hP hU K hK
            have hB : Below _ _ _ := hL
            have e6 : ac.eval (.tmp 6) = .string T1 := hF.at 6 (by kernel_rfl)
            have e25 : ac.eval (.tmp 25) = .bool true := hP 1 (by kernel_rfl)
            exact rop_move _ rfl e6 (wanted_of (j := 1) (b := true) rfl rfl e25) (hK _ _ (le8_refl _) rfl)
          · intro ac w' hF hL hP hU K hK
            have hB : Below _ _ _ := hL
            have e26 : ac.eval (.tmp 26) = .string T1 := hP 2 (by kernel_rfl)
            have e25 : ac.eval (.tmp 25) = .bool true := hP 1 (by kernel_rfl)
            exact rop_len_str _ rfl _ e26 (wanted_of (j := 1) (b := true) rfl rfl e25) (hK _ _ (le8_refl _) rfl)
          · intro ac w' hF hL hP hU K hK
            have hB : Below _ _ _ := hL
            have e27 : ac.eval (.tmp 27) = .int .i64 (T1.size : Int) := hP 3 (by kernel_rfl)
            have e25 : ac.eval (.tmp 25) = .bool true := hP 1 (by kernel_rfl)
            exact rop_bin _ _ _ _ _ rfl e27 rfl (guard_int _ _ _ _ _ _ _ w') (eql_iG _ _ _ (decide_eq_true (by rw [HS1.out]; rfl)) w') (wanted_of (j := 1) (b := true) rfl rfl e25) (hK _ _ (le8_refl _) rfl)
          · intro ac w' hF hL hP hU K hK
            have hB : Below _ _ _ := hL
            have e25 : ac.eval (.tmp 25) = .bool true := hP 1 (by kernel_rfl)
            have e28 : ac.eval (.tmp 28) = .bool true := hP 4 (by kernel_rfl)
            exact rop_pick _ _ _ rfl true e25 (by simpa using e28) (wanted_none rfl) (hK _ _ (le8_refl _) rfl)
          · intro ac w' hF hL hP hU K hK
            have hB : Below _ _ _ := hL
            have e29 : ac.eval (.tmp 29) = .bool true := hP 5 (by kernel_rfl)
            exact rop_move _ rfl e29 (wanted_none rfl) (hK _ _ (le8_refl _) rfl)
          · intro ac w' hF hL hP hU K hK
            have hB : Below _ _ _ := hL
            have e6 : ac.eval (.tmp 6) = .string T1 := hF.at 6 (by kernel_rfl)
            have e30 : ac.eval (.tmp 30) = .bool true := hP 6 (by kernel_rfl)
            exact rop_move _ rfl e6 (wanted_of (j := 6) (b := true) rfl rfl e30) (hK _ _ (le8_refl _) rfl)
          · intro ac w' hF hL hP hU K hK
            have hB : Below _ _ _ := hL
            have e0 : ac.eval (.tmp 0) = .string s0 := hF.at 0 (by kernel_rfl)
            have e30 : ac.eval (.tmp 30) = .bool true := hP 6 (by kernel_rfl)
            exact rop_move _ rfl e0 (wanted_of (j := 6) (b := true) rfl rfl e30) (hK _ _ (le8_refl _) rfl)
          · intro ac w' hF hL hP hU K hK
            have hB : Below _ _ _ := hL
            have e32 : ac.eval (.tmp 32) = .string s0 := hP 8 (by kernel_rfl)
            have e30 : ac.eval (.tmp 30) = .bool true := hP 6 (by kernel_rfl)
            exact rop_bin _ _ _ _ _ rfl rfl e32 (guard_str _ _ _ _ _ _ w') (add_str _ _ HSZ.out w') (wanted_of (j := 6) (b := true) rfl rfl e30) (hK _ _ (le8_refl _) rfl)
          · intro ac w' hF hL hP hU K hK
            have hB : Below _ _ _ := hL
            have e31 : ac.eval (.tmp 31) = .string T1 := hP 7 (by kernel_rfl)
            have e33 : ac.eval (.tmp 33) = .string (⟨#[0]⟩ ++ s0) := hP 9 (by kernel_rfl)
            have e30 : ac.eval (.tmp 30) = .bool true := hP 6 (by kernel_rfl)
            exact rop_bin _ _ _ _ _ rfl e31 e33 (guard_str _ _ _ _ _ _ w') (neq_str_t _ _ HNE.out w') (wanted_of (j := 6) (b := true) rfl rfl e30) (hK _ _ (le8_refl _) rfl)
          · intro ac w' hF hL hP hU K hK
            have hB : Below _ _ _ := hL
            have e30 : ac.eval (.tmp 30) = .bool true := hP 6 (by kernel_rfl)
            have e34 : ac.eval (.tmp 34) = .bool true := hP 10 (by kernel_rfl)
            exact rop_pick _ _ _ rfl true e30 (by simpa using e34) (wanted_none rfl) (hK _ _ (le8_refl _) rfl)
          · intro ac w' hF hL hP hU K hK
            have hB : Below _ _ _ := hL
            have e35 : ac.eval (.tmp 35) = .bool true := hP 11 (by kernel_rfl)
            exact rop_move _ rfl e35 (wanted_none rfl) (hK _ _ (le8_refl _) rfl)
          · intro ac w' hF hL hP hU K hK
            have hB : Below _ _ _ := hL
            have e6 : ac.eval (.tmp 6) = .string T1 := hF.at 6 (by kernel_rfl)
            have e36 : ac.eval (.tmp 36) = .bool true := hP 12 (by kernel_rfl)
            exact rop_move _ rfl e6 (wanted_of (j := 12) (b := true) rfl rfl e36) (hK _ _ (le8_refl _) rfl)
          · intro ac w' hF hL hP hU K hK
            have hB : Below _ _ _ := hL
            have e7 : ac.eval (.tmp 7) = .string T2 := hF.at 7 (by kernel_rfl)
            have e36 : ac.eval (.tmp 36) = .bool true := hP 12 (by kernel_rfl)
            exact rop_move _ rfl e7 (wanted_of (j := 12) (b := true) rfl rfl e36) (hK _ _ (le8_refl _) rfl)
          · intro ac w' hF hL hP hU K hK
            have hB : Below _ _ _ := hL
            have e37 : ac.eval (.tmp 37) = .string T1 := hP 13 (by kernel_rfl)
            have e38 : ac.eval (.tmp 38) = .string T2 := hP 14 (by kernel_rfl)
            have e36 : ac.eval (.tmp 36) = .bool true := hP 12 (by kernel_rfl)
            exact rop_bin _ _ _ _ _ rfl e37 e38 (guard_str _ _ _ _ _ _ w') (eql_str T1 T2 w') (wanted_of (j := 12) (b := true) rfl rfl e36) (hK _ _ (le8_refl _) rfl)
          · intro ac w' hF hL hP hU K hK
            have hB : Below _ _ _ := hL
            have e3 : ac.eval (.tmp 3) = .pointer (some ⟨q, 0, none⟩) := hF.at 3 (by kernel_rfl)
            have e36 : ac.eval (.tmp 36) = .bool true := hP 12 (by kernel_rfl)
            exact rop_idx _ _ _ rfl e3 rfl (idx4 q 0 (by decide) w') (wanted_of (j := 12) (b := true) rfl rfl e36) (hK _ _ (le8_refl _) rfl)
          · intro ac w' hF hL hP hU K hK
            have hB : Below _ _ _ := hL
            have e40 : ac.eval (.tmp 40) = .pointer (some ⟨q, 0 * 32, none⟩) := hP 16 (by kernel_rfl)
            have e36 : ac.eval (.tmp 36) = .bool true := hP 12 (by kernel_rfl)
            exact rop_ld _ _ rfl e40 (run_loadAt_mid _ _ _ _ _ _ (below_range hB hq r0) Tryd.underlying23 rfl (sum_info' Ha.out)) (wanted_of (j := 12) (b := true) rfl rfl e36) (hK _ _ (le8_refl _) rfl)
          · intro ac w' hF hL hP hU K hK
            have hB : Below _ _ _ := hL
            have e3 : ac.eval (.tmp 3) = .pointer (some ⟨q, 0, none⟩) := hF.at 3 (by kernel_rfl)
            have e36 : ac.eval (.tmp 36) = .bool true := hP 12 (by kernel_rfl)
            exact rop_idx _ _ _ rfl e3 rfl (idx4 q 2 (by decide) w') (wanted_of (j := 12) (b := true) rfl rfl e36) (hK _ _ (le8_refl _) rfl)
          · intro ac w' hF hL hP hU K hK
            have hB : Below _ _ _ := hL
            have e42 : ac.eval (.tmp 42) = .pointer (some ⟨q, 2 * 32, none⟩) := hP 18 (by kernel_rfl)
            have e36 : ac.eval (.tmp 36) = .bool true := hP 12 (by kernel_rfl)
            exact rop_ld _ _ rfl e42 (run_loadAt_mid _ _ _ _ _ _ (below_range hB hq r2) Tryd.underlying23 rfl (sum_info' Hc.out)) (wanted_of (j := 12) (b := true) rfl rfl e36) (hK _ _ (le8_refl _) rfl)
          · intro ac w' hF hL hP hU K hK
            have hB : Below _ _ _ := hL
            have e41 : ac.eval (.tmp 41) = sumV a := hP 17 (by kernel_rfl)
            have e43 : ac.eval (.tmp 43) = sumV c := hP 19 (by kernel_rfl)
            have e36 : ac.eval (.tmp 36) = .bool true := hP 12 (by kernel_rfl)
            exact rop_bin _ _ _ _ _ rfl e41 e43 (guard_run .eql _ _ _ _ w') (HAC.out w') (wanted_of (j := 12) (b := true) rfl rfl e36) (hK _ _ (le8_refl _) rfl)
          · intro ac w' hF hL hP hU K hK
            have hB : Below _ _ _ := hL
            have e44 : ac.eval (.tmp 44) = .bool false := hP 20 (by kernel_rfl)
            have e36 : ac.eval (.tmp 36) = .bool true := hP 12 (by kernel_rfl)
            exact rop_move _ rfl e44 (wanted_of (j := 12) (b := true) rfl rfl e36) (hK _ _ (le8_refl _) rfl)
          · intro ac w' hF hL hP hU K hK
            have hB : Below _ _ _ := hL
            have e45 : ac.eval (.tmp 45) = .bool false := hP 21 (by kernel_rfl)
            exact rop_offG (j := 21) (b := true) rfl rfl e45 (by decide) (hK _ _ (le8_refl _) trivial)
          · intro ac w' hF hL hP hU K hK
            have hB : Below _ _ _ := hL
            have e45 : ac.eval (.tmp 45) = .bool false := hP 21 (by kernel_rfl)
            exact rop_offG (j := 21) (b := true) rfl rfl e45 (by decide) (hK _ _ (le8_refl _) trivial)
          · intro ac w' hF hL hP hU K hK
            have hB : Below _ _ _ := hL
            have e45 : ac.eval (.tmp 45) = .bool false := hP 21 (by kernel_rfl)
            exact rop_offG (j := 21) (b := true) rfl rfl e45 (by decide) (hK _ _ (le8_refl _) trivial)
          · intro ac w' hF hL hP hU K hK
            have hB : Below _ _ _ := hL
            have e45 : ac.eval (.tmp 45) = .bool false := hP 21 (by kernel_rfl)
            exact rop_offG (j := 21) (b := true) rfl rfl e45 (by decide) (hK _ _ (le8_refl _) trivial)
          · intro ac w' hF hL hP hU K hK
            have hB : Below _ _ _ := hL
            have e45 : ac.eval (.tmp 45) = .bool false := hP 21 (by kernel_rfl)
            exact rop_offG (j := 21) (b := true) rfl rfl e45 (by decide) (hK _ _ (le8_refl _) trivial)
          · intro ac w' hF hL hP hU K hK
            have hB : Below _ _ _ := hL
            have e45 : ac.eval (.tmp 45) = .bool false := hP 21 (by kernel_rfl)
            have e36 : ac.eval (.tmp 36) = .bool true := hP 12 (by kernel_rfl)
            exact rop_pick _ _ _ rfl false e45 (by rfl) (wanted_of (j := 12) (b := true) rfl rfl e36) (hK _ _ (le8_refl _) rfl)
          · intro ac w' hF hL hP hU K hK
            have hB : Below _ _ _ := hL
            have e39 : ac.eval (.tmp 39) = .bool (decide (T1 = T2)) := hP 15 (by kernel_rfl)
            have e51 : ac.eval (.tmp 51) = .bool false := hP 27 (by kernel_rfl)
            have e36 : ac.eval (.tmp 36) = .bool true := hP 12 (by kernel_rfl)
            exact rop_bin _ _ _ _ _ rfl e39 e51 (guard_bool _ _ _ _ _ _ w') (eql_bool_t _ _ HEQ.out w') (wanted_of (j := 12) (b := true) rfl rfl e36) (hK _ _ (le8_refl _) rfl)
          · intro ac w' hF hL hP hU K hK
            have hB : Below _ _ _ := hL
            have e36 : ac.eval (.tmp 36) = .bool true := hP 12 (by kernel_rfl)
            have e52 : ac.eval (.tmp 52) = .bool true := hP 28 (by kernel_rfl)
            exact rop_pick _ _ _ rfl true e36 (by simpa using e52) (wanted_none rfl) (hK _ _ (le8_refl _) rfl)
          · intro ac w' hF hL hP hU K hK
            have hB : Below _ _ _ := hL
            have e53 : ac.eval (.tmp 53) = .bool true := hP 29 (by kernel_rfl)
            exact rop_move _ rfl e53 (wanted_none rfl) (hK _ _ (le8_refl _) rfl)
          · intro ac w' hF hL hP hU K hK
            have hB : Below _ _ _ := hL
            have e3 : ac.eval (.tmp 3) = .pointer (some ⟨q, 0, none⟩) := hF.at 3 (by kernel_rfl)
            have e54 : ac.eval (.tmp 54) = .bool true := hP 30 (by kernel_rfl)
            exact rop_idx _ _ _ rfl e3 rfl (idx4 q 0 (by decide) w') (wanted_of (j := 30) (b := true) rfl rfl e54) (hK _ _ (le8_refl _) rfl)
          · intro ac w' hF hL hP hU K hK
            have hB : Below _ _ _ := hL
            have e55 : ac.eval (.tmp 55) = .pointer (some ⟨q, 0 * 32, none⟩) := hP 31 (by kernel_rfl)
            have e54 : ac.eval (.tmp 54) = .bool true := hP 30 (by kernel_rfl)
            exact rop_ld _ _ rfl e55 (run_loadAt_mid _ _ _ _ _ _ (below_range hB hq r0) Tryd.underlying23 rfl (sum_info' Ha.out)) (wanted_of (j := 30) (b := true) rfl rfl e54) (hK _ _ (le8_refl _) rfl)
          · intro ac w' hF hL hP hU K hK
            have hB : Below _ _ _ := hL
            have e3 : ac.eval (.tmp 3) = .pointer (some ⟨q, 0, none⟩) := hF.at 3 (by kernel_rfl)
            have e54 : ac.eval (.tmp 54) = .bool true := hP 30 (by kernel_rfl)
            exact rop_idx _ _ _ rfl e3 rfl (idx4 q 1 (by decide) w') (wanted_of (j := 30) (b := true) rfl rfl e54) (hK _ _ (le8_refl _) rfl)
          · intro ac w' hF hL hP hU K hK
            have hB : Below _ _ _ := hL
            have e57 : ac.eval (.tmp 57) = .pointer (some ⟨q, 1 * 32, none⟩) := hP 33 (by kernel_rfl)
            have e54 : ac.eval (.tmp 54) = .bool true := hP 30 (by kernel_rfl)
            exact rop_ld _ _ rfl e57 (run_loadAt_mid _ _ _ _ _ _ (below_range hB hq r1) Tryd.underlying23 rfl (sum_info' Hb.out)) (wanted_of (j := 30) (b := true) rfl rfl e54) (hK _ _ (le8_refl _) rfl)
          · intro ac w' hF hL hP hU K hK
            have hB : Below _ _ _ := hL
            have e56 : ac.eval (.tmp 56) = sumV a := hP 32 (by kernel_rfl)
            have e58 : ac.eval (.tmp 58) = sumV b := hP 34 (by kernel_rfl)
            have e54 : ac.eval (.tmp 54) = .bool true := hP 30 (by kernel_rfl)
            refine rop_call 13 _ _ rfl #[sumV a, sumV b] (by simp [e56, e58]) (by kernel_rfl) (wanted_of (j := 30) (b := true) rfl rfl e54) ?_
            refine (HND.out w' hB).mono ?_
            rintro e w2 ⟨rfl, hb⟩
            exact ⟨_, rfl, hK _ _ hb rfl⟩
          · intro ac w' hF hL hP hU K hK
            have hB : Below _ _ _ := hL
            have e6 : ac.eval (.tmp 6) = .string T1 := hF.at 6 (by kernel_rfl)
            have e54 : ac.eval (.tmp 54) = .bool true := hP 30 (by kernel_rfl)
            exact rop_move _ rfl e6 (wanted_of (j := 30) (b := true) rfl rfl e54) (hK _ _ (le8_refl _) rfl)
          · intro ac w' hF hL hP hU K hK
            have hB : Below _ _ _ := hL
            have e60 : ac.eval (.tmp 60) = .string T1 := hP 36 (by kernel_rfl)
            have e54 : ac.eval (.tmp 54) = .bool true := hP 30 (by kernel_rfl)
            refine rop_call 26 _ _ rfl #[.string T1] (by simp [e60]) (by kernel_rfl) (wanted_of (j := 30) (b := true) rfl rfl e54) ?_
            refine (HOF.out w').mono ?_
            rintro e w2 ⟨rfl, hb⟩
            exact ⟨_, rfl, hK _ _ hb rfl⟩
          · intro ac w' hF hL hP hU K hK
            have hB : Below _ _ _ := hL
            have e59 : ac.eval (.tmp 59) = sumV N := hP 35 (by kernel_rfl)
            have e61 : ac.eval (.tmp 61) = sumV N := hP 37 (by kernel_rfl)
            have e54 : ac.eval (.tmp 54) = .bool true := hP 30 (by kernel_rfl)
            exact rop_bin _ _ _ _ _ rfl e59 e61 (guard_run .eql _ _ _ _ w') (eql_sum_tt N N HNl.out HNl.out rfl w') (wanted_of (j := 30) (b := true) rfl rfl e54) (hK _ _ (le8_refl _) rfl)
          · intro ac w' hF hL hP hU K hK
            have hB : Below _ _ _ := hL
            have e54 : ac.eval (.tmp 54) = .bool true := hP 30 (by kernel_rfl)
            have e62 : ac.eval (.tmp 62) = .bool true := hP 38 (by kernel_rfl)
            exact rop_pick _ _ _ rfl true e54 (by simpa using e62) (wanted_none rfl) (hK _ _ (le8_refl _) rfl)
          · intro ac w' hF hL hP hU K hK
            have hB : Below _ _ _ := hL
            have e63 : ac.eval (.tmp 63) = .bool true := hP 39 (by kernel_rfl)
            exact rop_assign _ rfl e63 (wanted_none rfl) (hK _ _ (le8_refl _) rfl)
          · intro ac w' hF hB hT
            have e4 : ac.eval (.tmp 4) = .bool true := hT 40 (by decide)
            rw [hF.setsG [24, 25, 26, 27, 28, 29, 30, 31, 32, 33, 34, 35, 36, 37, 38, 39, 40, 41, 42, 43, 44, 45, 46, 47, 48, 49, 50, 51, 52, 53, 54, 55, 56, 57, 58, 59, 60, 61, 62, 63, 4] (by kernel_rfl)]
            simp only [List.foldl_cons, List.foldl_nil, List.setIfInBounds_toArray, List.set_cons_succ, List.set_cons_zero, e4]
            generalize ac.eval (.tmp 24) = u24
            generalize ac.eval (.tmp 25) = u25
            generalize ac.eval (.tmp 26) = u26
            generalize ac.eval (.tmp 27) = u27
            generalize ac.eval (.tmp 28) = u28
            generalize ac.eval (.tmp 29) = u29
            generalize ac.eval (.tmp 30) = u30
            generalize ac.eval (.tmp 31) = u31
            generalize ac.eval (.tmp 32) = u32
            generalize ac.eval (.tmp 33) = u33
            generalize ac.eval (.tmp 34) = u34
            generalize ac.eval (.tmp 35) = u35
            generalize ac.eval (.tmp 36) = u36
            generalize ac.eval (.tmp 37) = u37
            generalize ac.eval (.tmp 38) = u38
            generalize ac.eval (.tmp 39) = u39
            generalize ac.eval (.tmp 40) = u40
            generalize ac.eval (.tmp 41) = u41
            generalize ac.eval (.tmp 42) = u42
            generalize ac.eval (.tmp 43) = u43
            generalize ac.eval (.tmp 44) = u44
            generalize ac.eval (.tmp 45) = u45
            generalize ac.eval (.tmp 46) = u46
            generalize ac.eval (.tmp 47) = u47
            generalize ac.eval (.tmp 48) = u48
            generalize ac.eval (.tmp 49) = u49
            generalize ac.eval (.tmp 50) = u50
            generalize ac.eval (.tmp 51) = u51
            generalize ac.eval (.tmp 52) = u52
            generalize ac.eval (.tmp 53) = u53
            generalize ac.eval (.tmp 54) = u54
            generalize ac.eval (.tmp 55) = u55
            generalize ac.eval (.tmp 56) = u56
            generalize ac.eval (.tmp 57) = u57
            generalize ac.eval (.tmp 58) = u58
            generalize ac.eval (.tmp 59) = u59
            generalize ac.eval (.tmp 60) = u60
            generalize ac.eval (.tmp 61) = u61
            generalize ac.eval (.tmp 62) = u62
            generalize ac.eval (.tmp 63) = u63
            clear e4 hT hF ac
            go_wp2
            go_ret
            exact ⟨rfl, below_step bw1 (Nat.le_refl _) hB⟩
set_option maxRecDepth 100000 in
theorem lifted (os : Os) (started : os.Started) (H : Type) (enc : TypeId × Value → H) :
    ReturnsInHanded {} Tryd.checked os 9 .any (fun w args => (Rows.leafApartSpec.pre enc Tryd.prog Tryd.f9 [] false w args ∧ laidMetH Tryd.prog [("scrinium/sha.k", Rows.laid_scrinium_sha_k)] w) ∧ sizedMet enc Tryd.prog Tryd.f9 (OpenSpec.ofChange Rows.leafApartSpec) false w args)
      (Rows.leafApartSpec.post enc Tryd.prog Tryd.f9 false true false false) := by
  refine returnsInHanded_of_change_and (C := Tryd.checked) (X := fun w _ => laidMetH Tryd.prog [("scrinium/sha.k", Rows.laid_scrinium_sha_k)] w) (fun _ _ _ hh h => h.of_heap hh) lawOwn started (by kernel_rfl) Tryd.func9
    (ChangeSpec.witness_shaped (enc := enc) (C := Tryd.checked) (os := os) (X := fun w _ => laidMetH Tryd.prog [("scrinium/sha.k", Rows.laid_scrinium_sha_k)] w) false (World.doorLaid Tryd.prog 400 os) #[.string .empty, .agg (sc [List.replicate 32 0, List.replicate 32 0, List.replicate 32 0, List.replicate 32 0]).toArray] 8 rfl (World.shaped_of_RefB (by kernel_rfl) (by kernel_rfl)) (by kernel_rfl) (by kernel_rfl) (by kernel_rfl) (door_met os _)) ?_
  intro W base args ds gs before hval0 hW _ _ hL _
  have hval : ∀ (j : Nat) t v, Tryd.f9.params[j]? = some t → args[j]? = some v → Value.okWide Tryd.prog W .any base t v := hval0
  have hW' := hW
  obtain ⟨p, q, hA0, hV, rfl, hfz, hnd⟩ := hW
  have hA : DataW.TrodAll enc Tryd.prog W 0 (fun _ => true) true Tryd.f9.params.toList args.toList ds p := hA0
  rw [Tryd.params9] at hA hval
  obtain ⟨v0, vs0, d0, ds0, p0, q0, hargs, rfl, rfl, h0, r0⟩ := trodAll_cons hA
  obtain ⟨v1, vs1, d1, ds1, p1, q1, rfl, rfl, rfl, h1, r1⟩ := trodAll_cons r0
  obtain ⟨rfl, rfl, rfl⟩ := trodAll_nil r1
  obtain rfl : args = #[v0, v1] := by cases args; simp_all
  obtain ⟨rfl, rfl⟩ := trodVars_none hV
  have hKT := KT_of_laid hL
  obtain ⟨s0, rfl, rfl, rfl, w0⟩ := Go.ChangeMaps.open_string Tryd.underlying9 (hval 0 9 v0 rfl rfl) h0
  obtain ⟨x1a, x1b, x1c, x1d, rfl, w1a, w1b, w1c, w1d⟩ := open_sum4 (hval 1 42 v1 rfl rfl) h1
  clear hA0 hval0
  refine (walk (w := W) hKT s0 w0 x1a x1b x1c x1d w1a w1b w1c w1d).mono fun e W' ⟨he, bel⟩ => ?_
  subst he
  exact ⟨_, rfl, law_post rfl rfl (by kernel_rfl) hW' rfl bel⟩

theorem row_holds : Rows.LeafApartSaid :=
  OpenClaim.holds_of_wide 9 Tryd.f9 rfl rfl rfl rfl rfl rfl rfl ⟨rfl, rfl, rfl, rfl, rfl⟩ rfl rfl rfl rfl rfl (by kernel_rfl) Tryd.func9 (by kernel_rfl)
    (of_decide_eq_true (by kernel_rfl)) (by unfold Func.isWrapper; first | (rw [if_pos (by decide +kernel)]; kernel_rfl) | (rw [if_neg (by decide +kernel)]; exact ⟨rfl, rfl⟩))
    (fun os started H enc _ => lifted os started H enc)

theorem holds : Rows.LeafApartCardSaid :=
  Claim7.holds_tied_plain_at .later [] [.data] true Rows.leafApartCard.stood.harness false
    row_holds (fun _ h => by cases h) (by kernel_rfl) (fun _ h => by cases h) leafApart_row_tie rfl ⟨rfl, rfl⟩ (by kernel_rfl) rfl
    (fun f fn hf hfn => by
      obtain rfl : f = 9 := Option.some.inj ((show Tryd.prog.funcNamed "scrinium/scriniumlaw09.LeafApart" = some 9 by kernel_rfl).symm.trans hf) |>.symm
      obtain rfl : fn = Tryd.f9 := (Option.some.inj (Tryd.func9.symm.trans hfn)).symm
      exact ⟨by kernel_rfl, fun j t ht => by
        rw [Tryd.params9] at ht
        have hm : t ∈ [9, 42] := by simpa using Array.mem_of_getElem? ht
        have hall : ([9, 42].all fun u => !Tryd.prog.wantsStandIn u) = true := by kernel_rfl
        exact (show Tryd.prog.wantsStandIn t = false by simpa using List.all_eq_true.1 hall t hm)⟩)
    (by kernel_rfl)
end Go.Proofs.YtldknddgcbhllaaDoor.leafApart

theorem Go.Proofs.YtldknddgcbhllaaDoor.leafApart_holds : Go.Proofs.YtldknddgcbhllaaDoor.Rows.LeafApartCardSaid := Go.Proofs.YtldknddgcbhllaaDoor.leafApart.holds
#print axioms Go.Proofs.YtldknddgcbhllaaDoor.leafApart_holds
