/-
  ExtentFiles: files' lists are told, joined and cut as the document's own answers are. For every two lists of runs (of a longer one the first 12) and every two numbers, no condition.
-/
import Derived.Test.YtlbnopfbfnobnaaRunArg
namespace Go.Proofs.Ytlbnopfbfnobnaa.extentFiles
open Go.ChangeShapes Go.WideShapes Go.ChangeAt Go.RowKit Ext

theorem idx_two0 (b : Nat) (w : World) : (Instr.indexAt 33 (.pointer (some ⟨b, 0, none⟩)) (.int .i64 0)).run Try.prog w = .ok (.pointer (some ⟨b, 0, none⟩)) w := by
  go_simp
theorem idx_two1 (b : Nat) (w : World) : (Instr.indexAt 33 (.pointer (some ⟨b, 0, none⟩)) (.int .i64 1)).run Try.prog w = .ok (.pointer (some ⟨b, 1, none⟩)) w := by
  go_simp
set_option maxHeartbeats 12800000 in
set_option maxRecDepth 100000 in
theorem walk {w : World} (v : Value) (l : List Rn) (hl : Runs w v l) (v' : Value) (l' : List Rn) (hl' : Runs w v' l') (z y : Int) (hz : -9223372036854775808 ≤ z ∧ z ≤ 9223372036854775807) (hy : -9223372036854775808 ≤ y ∧ y ≤ 9223372036854775807) :
    Calls Try.prog 4 #[v, v', .agg #[.int .i64 z, .int .i64 y]] w fun e w' => e = .returned (.bool true) ∧ Below w.heap.size w w' := by
  obtain ⟨va, cap, rfl, hlc, hcap⟩ := hl.slice
  obtain ⟨va', cap', rfl, hlc', hcap'⟩ := hl'.slice
  obtain ⟨B5, hB5⟩ : ∃ B5, B5 = w.heap.size := ⟨_, rfl⟩
  obtain ⟨w0, hw0⟩ : ∃ w0, w0 = w.alloc (.cells #[.int .i64 z, .int .i64 y] 33) := ⟨_, rfl⟩
  have b0 : Below w.heap.size w w0 := by rw [hw0]; exact below_box _ _
  have o0 : w0.heap[B5]? = some (.cells #[.int .i64 z, .int .i64 y] 33 (0, 0)) := by rw [hw0, hB5]; exact heap_alloc_last w _
  have hlt0 : B5 < w0.heap.size := (Array.getElem?_eq_some_iff.1 o0).1
  have k0 := cell_of o0 0
  have k1 := cell_of o0 1
  simp only [List.getElem?_toArray, List.getElem?_cons_zero, List.getElem?_cons_succ] at k0 k1
  have K0 := Lib.hid k0
  have K1 := Lib.hid k1
  have HB5 := Lib.hid hB5
  clear k0 k1 o0
  go_enter Try.func4, Try.ntmps4
  go_upto_region 1 with fail
  rw [← hw0, ← hB5]
  clear hw0 hB5
  have ha := hl.old b0
  have hb := hl'.old b0
  clear hl hl'
  go_upto_region 6 with (first
    | (go_at_call 9; refine (awake_any _).mono ?_; rintro e w1 ⟨rfl, b1⟩; replace ha := ha.old b1; replace hb := hb.old b1)
    | (go_at_call 17; ((with_reducible refine (file_any _ l _ ha).mono ?_); rintro e w2 ⟨v2, m, rfl, hm, hfl, b2⟩; replace hb := hb.old b2))
    | (go_at_call 17; ((with_reducible refine (file_any _ l' _ hb).mono ?_); rintro e w3 ⟨v3, m2, rfl, hm2, hfl2, b3⟩; replace hm := hm.old b3))
    | (go_at_call 18; refine (all_any _ m _ hm hfl.file (by have := hfl.len; omega)).mono ?_; rintro e w4 ⟨v4, rfl, h4, b4⟩; replace hm := hm.old b4; replace hm2 := hm2.old b4)
    | (go_at_call 19; refine (rall_any _ m _ hm hfl.file (by have := hfl.len; omega)).mono ?_; rintro e w5 ⟨v5, rfl, h5, b5⟩; replace hm := hm.old b5; replace hm2 := hm2.old b5; replace h4 := h4.old b5))
  have hbw := below_step (below_step (below_step (below_step b1 (Nat.le_refl _) b2) (Nat.le_refl _) b3) (Nat.le_refl _) b4) (Nat.le_refl _) b5
  clear b1 b2 b3 b4 b5 ha hb
  have hf := hfl.file
  have hf2 := hfl2.file
  have hm12 := hfl.len
  have hm22 := hfl2.len
  obtain ⟨x4, ca, rfl, _⟩ := h4.slice
  obtain ⟨x5, cs, rfl, _⟩ := h5.slice
  obtain ⟨A, hA⟩ : ∃ A, A = (allS m).length := ⟨_, rfl⟩
  have hal := allS_length hf
  have htt := hfl.tot
  have hA4 : A ≤ 384 := by omega
  rw [← hA] at h4 h5 ⊢
  have HA := Lib.hid hA
  clear hA hal htt
  obtain ⟨x8, k8, rfl, _, _⟩ := hm.slice
  obtain ⟨x9, k9, rfl, _, _⟩ := hm2.slice
  obtain ⟨L8, hL8⟩ : ∃ L8, L8 = m.length := ⟨_, rfl⟩
  obtain ⟨L9, hL9⟩ : ∃ L9, L9 = m2.length := ⟨_, rfl⟩
  rw [← hL8] at hm ⊢
  rw [← hL9] at hm2 ⊢
  clear hL8 hL9
  go_wp2
  go_loopw [12] (fun s12 wr => ∃ j : Nat, j ≤ A ∧ s12 = .int .i64 j ∧ Below w5.heap.size w5 wr) (fun s12 _ => A - (intOf s12).toNat)
  case atStart => exact ⟨0, by omega, rfl, Below.refl _ _⟩
  case round =>
    obtain ⟨j, hj, rfl, hbj⟩ := hrel
    by_cases hjk : j < A
    · obtain ⟨p, o, rfl, hp, -, c0⟩ := (h4.old hbj).at j (by rw [← HA.out]; exact hjk)
      obtain ⟨q, r, rfl, hq, -, d0⟩ := (h5.old hbj).at j (by rw [← HA.out]; exact hjk)
      obtain ⟨y', hy'⟩ : ∃ y, y = (allS m)[j]'(by rw [← HA.out]; exact hjk) := ⟨_, rfl⟩
      rw [← hy'] at d0 c0
      clear hy'
      go_wp2
      try simp only [Act.put]
      refine wp_region_tab [RT.is (.slice (some ⟨p, o, none⟩) A ca), RT.is (.int .i64 ((j : Nat) : Int)), RT.is (.pointer (some ⟨p, o + j, none⟩)), RT.is (.int .i64 y'), RT.is (.slice (some ⟨q, r, none⟩) A cs), RT.is (.int .i64 ((j : Nat) : Int)), RT.is (.pointer (some ⟨q, r + j, none⟩)), RT.is (.int .i64 y'), RT.is (.bool false)] (by kernel_rfl) (by kernel_rfl) (by kernel_rfl) (by kernel_rfl) ⟨?_, ?_, ?_, ?_, ?_, ?_, ?_, ?_, ?_, trivial⟩ ?_
      · intro ac w' hF hL hP hU K hK
        have hB := below_undrew hL
        have e10 : ac.eval (.tmp 10) = .slice (some ⟨p, o, none⟩) A ca := hF.at 10 (by kernel_rfl)
        exact rop_move _ rfl e10 (wanted_none rfl) (hK _ _ (le8_refl _) rfl)
      · intro ac w' hF hL hP hU K hK
        have hB := below_undrew hL
        have e12 : ac.eval (.tmp 12) = .int .i64 ((j : Nat) : Int) := hF.at 12 (by kernel_rfl)
        exact rop_move _ rfl e12 (wanted_none rfl) (hK _ _ (le8_refl _) rfl)
      · intro ac w' hF hL hP hU K hK
        have hB := below_undrew hL
        have e41 : ac.eval (.tmp 41) = .slice (some ⟨p, o, none⟩) A ca := hP 0 (by kernel_rfl)
        have e42 : ac.eval (.tmp 42) = .int .i64 ((j : Nat) : Int) := hP 1 (by kernel_rfl)
        exact rop_idx _ _ _ rfl e41 e42 (idx_num p o A ca j hjk _) (wanted_none rfl) (hK _ _ (le8_refl _) rfl)
      · intro ac w' hF hL hP hU K hK
        have hB := below_undrew hL
        have e43 : ac.eval (.tmp 43) = .pointer (some ⟨p, o + j, none⟩) := hP 2 (by kernel_rfl)
        exact rop_ld _ _ rfl e43 (load_int ((hB.cell (p := ⟨p, _, none⟩) hp).trans c0)) (wanted_none rfl) (hK _ _ (le8_refl _) rfl)
      · intro ac w' hF hL hP hU K hK
        have hB := below_undrew hL
        have e11 : ac.eval (.tmp 11) = .slice (some ⟨q, r, none⟩) A cs := hF.at 11 (by kernel_rfl)
        exact rop_move _ rfl e11 (wanted_none rfl) (hK _ _ (le8_refl _) rfl)
      · intro ac w' hF hL hP hU K hK
        have hB := below_undrew hL
        have e12 : ac.eval (.tmp 12) = .int .i64 ((j : Nat) : Int) := hF.at 12 (by kernel_rfl)
        exact rop_move _ rfl e12 (wanted_none rfl) (hK _ _ (le8_refl _) rfl)
      · intro ac w' hF hL hP hU K hK
        have hB := below_undrew hL
        have e45 : ac.eval (.tmp 45) = .slice (some ⟨q, r, none⟩) A cs := hP 4 (by kernel_rfl)
        have e46 : ac.eval (.tmp 46) = .int .i64 ((j : Nat) : Int) := hP 5 (by kernel_rfl)
        exact rop_idx _ _ _ rfl e45 e46 (idx_num q r A cs j hjk _) (wanted_none rfl) (hK _ _ (le8_refl _) rfl)
      · intro ac w' hF hL hP hU K hK
        have hB := below_undrew hL
        have e47 : ac.eval (.tmp 47) = .pointer (some ⟨q, r + j, none⟩) := hP 6 (by kernel_rfl)
        exact rop_ld _ _ rfl e47 (load_int ((hB.cell (p := ⟨q, _, none⟩) hq).trans d0)) (wanted_none rfl) (hK _ _ (le8_refl _) rfl)
      · intro ac w' hF hL hP hU K hK
        have hB := below_undrew hL
        have e44 : ac.eval (.tmp 44) = .int .i64 y' := hP 3 (by kernel_rfl)
        have e48 : ac.eval (.tmp 48) = .int .i64 y' := hP 7 (by kernel_rfl)
        exact rop_bin _ _ _ _ _ rfl e44 e48 (guard_int _ _ _ _ _ _ _ w') (neq_i _ _ _ (by simp) w') (wanted_none rfl) (hK _ _ (le8_refl _) rfl)
      · intro ac w' hF hB hT
        have e49 : ac.eval (.tmp 49) = .bool false := hT 8 (by decide)
        rw [hF.lit 103 rfl]
        simp only [List.range, List.range.loop, List.map_cons, List.map_nil, e49, hF.at 0 (by kernel_rfl), hF.at 1 (by kernel_rfl), hF.at 2 (by kernel_rfl), hF.at 3 (by kernel_rfl), hF.at 4 (by kernel_rfl), hF.at 5 (by kernel_rfl), hF.at 6 (by kernel_rfl), hF.at 7 (by kernel_rfl), hF.at 8 (by kernel_rfl), hF.at 9 (by kernel_rfl), hF.at 10 (by kernel_rfl), hF.at 11 (by kernel_rfl), hF.at 12 (by kernel_rfl), hF.at 13 (by kernel_rfl), hF.at 14 (by kernel_rfl), hF.at 15 (by kernel_rfl), hF.at 16 (by kernel_rfl), hF.at 17 (by kernel_rfl), hF.at 18 (by kernel_rfl), hF.at 19 (by kernel_rfl), hF.at 20 (by kernel_rfl), hF.at 21 (by kernel_rfl), hF.at 22 (by kernel_rfl), hF.at 23 (by kernel_rfl), hF.at 24 (by kernel_rfl), hF.at 25 (by kernel_rfl), hF.at 26 (by kernel_rfl), hF.at 27 (by kernel_rfl), hF.at 28 (by kernel_rfl), hF.at 29 (by kernel_rfl), hF.at 30 (by kernel_rfl), hF.at 31 (by kernel_rfl), hF.at 32 (by kernel_rfl), hF.at 33 (by kernel_rfl), hF.at 34 (by kernel_rfl), hF.at 35 (by kernel_rfl), hF.at 36 (by kernel_rfl), hF.at 37 (by kernel_rfl), hF.at 38 (by kernel_rfl), hF.at 39 (by kernel_rfl), hF.at 40 (by kernel_rfl), hF.at 50 (by kernel_rfl), hF.at 51 (by kernel_rfl), hF.at 52 (by kernel_rfl), hF.at 53 (by kernel_rfl), hF.at 54 (by kernel_rfl), hF.at 55 (by kernel_rfl), hF.at 56 (by kernel_rfl), hF.at 57 (by kernel_rfl), hF.at 58 (by kernel_rfl), hF.at 59 (by kernel_rfl), hF.at 60 (by kernel_rfl), hF.at 61 (by kernel_rfl), hF.at 62 (by kernel_rfl), hF.at 63 (by kernel_rfl), hF.at 64 (by kernel_rfl), hF.at 65 (by kernel_rfl), hF.at 66 (by kernel_rfl), hF.at 67 (by kernel_rfl), hF.at 68 (by kernel_rfl), hF.at 69 (by kernel_rfl), hF.at 70 (by kernel_rfl), hF.at 71 (by kernel_rfl), hF.at 72 (by kernel_rfl), hF.at 73 (by kernel_rfl), hF.at 74 (by kernel_rfl), hF.at 75 (by kernel_rfl), hF.at 76 (by kernel_rfl), hF.at 77 (by kernel_rfl), hF.at 78 (by kernel_rfl), hF.at 79 (by kernel_rfl), hF.at 80 (by kernel_rfl), hF.at 81 (by kernel_rfl), hF.at 82 (by kernel_rfl), hF.at 83 (by kernel_rfl), hF.at 84 (by kernel_rfl), hF.at 85 (by kernel_rfl), hF.at 86 (by kernel_rfl), hF.at 87 (by kernel_rfl), hF.at 88 (by kernel_rfl), hF.at 89 (by kernel_rfl), hF.at 90 (by kernel_rfl), hF.at 91 (by kernel_rfl), hF.at 92 (by kernel_rfl), hF.at 93 (by kernel_rfl), hF.at 94 (by kernel_rfl), hF.at 95 (by kernel_rfl), hF.at 96 (by kernel_rfl), hF.at 97 (by kernel_rfl), hF.at 98 (by kernel_rfl), hF.at 99 (by kernel_rfl), hF.at 100 (by kernel_rfl), hF.at 101 (by kernel_rfl), hF.at 102 (by kernel_rfl)]
        generalize ac.eval (.tmp 41) = u41
        generalize ac.eval (.tmp 42) = u42
        generalize ac.eval (.tmp 43) = u43
        generalize ac.eval (.tmp 44) = u44
        generalize ac.eval (.tmp 45) = u45
        generalize ac.eval (.tmp 46) = u46
        generalize ac.eval (.tmp 47) = u47
        generalize ac.eval (.tmp 48) = u48
        simp only [Act.eval, Array.getD_eq_getD_getElem?, List.getElem?_toArray, List.getElem?_cons_succ, List.getElem?_cons_zero, Option.getD_some]
        clear e49 hT hF ac
        go_wp2
        go_roundw
        case rel => exact ⟨j + 1, by omega, by go_num, below_step hbj (Nat.le_refl _) hB⟩
        case measure => simp [intOf]; omega
    · clear h4 h5
      replace hm := hm.old hbj
      replace hm2 := hm2.old hbj
      replace hbw := below_step hbw (Nat.le_refl _) hbj
      clear hbj
      have z0 := (hbw.cell (p := ⟨B5, 0, none⟩) hlt0).trans K0.out
      have z1 := (hbw.cell (p := ⟨B5, 1, none⟩) hlt0).trans K1.out
      have hB5 : B5 < wr.heap.size := Nat.lt_of_lt_of_le hlt0 hbw.size
      have hR1 : ∀ u, Below wr.heap.size wr u → Calls Try.prog 20 #[.slice x8 L8 k8, .int .i64 z, .int .i64 y] u fun e w' => ∃ v', e = .returned v' ∧ Runs w' v' (sf (sg m (max z 0)) y) ∧ Below u.heap.size u w' := fun u hu => rest_any _ m z y u (hm.old hu) hf hz.1 hz.2 hy.1 hy.2 (by omega)
      have hR2 : ∀ u, Below wr.heap.size wr u → Calls Try.prog 21 #[.slice x8 L8 k8, .int .i64 z, .int .i64 y] u fun e w' => ∃ v', e = .returned v' ∧ Runs w' v' (sf (sg m (max z 0)) y) ∧ Below u.heap.size u w' := fun u hu => by
        have := rrest_any _ m z y u (hm.old hu) hf hz.1 hz.2 hy.1 hy.2 (by omega)
        rw [rst_cut hf (by omega)] at this
        exact this
      go_wp2
      try simp only [Act.put]
      refine wp_region_tab [RT.is (.slice x8 L8 k8), RT.is (.pointer (some ⟨B5, 0, none⟩)), RT.is (.int .i64 z), RT.is (.pointer (some ⟨B5, 1, none⟩)), RT.is (.int .i64 y), RT.runs (sf (sg m (max z 0)) y), RT.is (.slice x8 L8 k8), RT.is (.pointer (some ⟨B5, 0, none⟩)), RT.is (.int .i64 z), RT.is (.pointer (some ⟨B5, 1, none⟩)), RT.is (.int .i64 y), RT.runs (sf (sg m (max z 0)) y), RT.is (.bool true), RT.is (.bool true)] (by kernel_rfl) (by kernel_rfl) (by kernel_rfl) (by kernel_rfl) ⟨?_, ?_, ?_, ?_, ?_, ?_, ?_, ?_, ?_, ?_, ?_, ?_, ?_, ?_, trivial⟩ ?_
      · intro ac w' hF hL hP hU K hK
        have hB := below_undrew hL
        have e8 : ac.eval (.tmp 8) = .slice x8 L8 k8 := hF.at 8 (by kernel_rfl)
        exact rop_move _ rfl e8 (wanted_none rfl) (hK _ _ (le8_refl _) rfl)
      · intro ac w' hF hL hP hU K hK
        have hB := below_undrew hL
        have e5 : ac.eval (.tmp 5) = .pointer (some ⟨B5, 0, none⟩) := hF.at 5 (by kernel_rfl)
        exact rop_idx _ _ _ rfl e5 rfl (idx_two0 _ _) (wanted_none rfl) (hK _ _ (le8_refl _) rfl)
      · intro ac w' hF hL hP hU K hK
        have hB := below_undrew hL
        have e51 : ac.eval (.tmp 51) = .pointer (some ⟨B5, 0, none⟩) := hP 1 (by kernel_rfl)
        exact rop_ld _ _ rfl e51 (load_int ((hB.cell (p := ⟨B5, _, none⟩) hB5).trans z0)) (wanted_none rfl) (hK _ _ (le8_refl _) rfl)
      · intro ac w' hF hL hP hU K hK
        have hB := below_undrew hL
        have e5 : ac.eval (.tmp 5) = .pointer (some ⟨B5, 0, none⟩) := hF.at 5 (by kernel_rfl)
        exact rop_idx _ _ _ rfl e5 rfl (idx_two1 _ _) (wanted_none rfl) (hK _ _ (le8_refl _) rfl)
      · intro ac w' hF hL hP hU K hK
        have hB := below_undrew hL
        have e53 : ac.eval (.tmp 53) = .pointer (some ⟨B5, 1, none⟩) := hP 3 (by kernel_rfl)
        exact rop_ld _ _ rfl e53 (load_int ((hB.cell (p := ⟨B5, _, none⟩) hB5).trans z1)) (wanted_none rfl) (hK _ _ (le8_refl _) rfl)
      · intro ac w' hF hL hP hU K hK
        have hB := below_undrew hL
        have e50 : ac.eval (.tmp 50) = .slice x8 L8 k8 := hP 0 (by kernel_rfl)
        have e52 : ac.eval (.tmp 52) = .int .i64 z := hP 2 (by kernel_rfl)
        have e54 : ac.eval (.tmp 54) = .int .i64 y := hP 4 (by kernel_rfl)
        refine rop_call 20 _ _ rfl #[.slice x8 L8 k8, .int .i64 z, .int .i64 y] (by simp [e50, e52, e54]) (by kernel_rfl) (wanted_none rfl) ?_
        refine (hR1 w' hB).mono ?_
        rintro e w2 ⟨v2, rfl, hr2, hb⟩
        exact ⟨_, rfl, hK _ _ hb hr2⟩
      · intro ac w' hF hL hP hU K hK
        have hB := below_undrew hL
        have e8 : ac.eval (.tmp 8) = .slice x8 L8 k8 := hF.at 8 (by kernel_rfl)
        exact rop_move _ rfl e8 (wanted_none rfl) (hK _ _ (le8_refl _) rfl)
      · intro ac w' hF hL hP hU K hK
        have hB := below_undrew hL
        have e5 : ac.eval (.tmp 5) = .pointer (some ⟨B5, 0, none⟩) := hF.at 5 (by kernel_rfl)
        exact rop_idx _ _ _ rfl e5 rfl (idx_two0 _ _) (wanted_none rfl) (hK _ _ (le8_refl _) rfl)
      · intro ac w' hF hL hP hU K hK
        have hB := below_undrew hL
        have e57 : ac.eval (.tmp 57) = .pointer (some ⟨B5, 0, none⟩) := hP 7 (by kernel_rfl)
        exact rop_ld _ _ rfl e57 (load_int ((hB.cell (p := ⟨B5, _, none⟩) hB5).trans z0)) (wanted_none rfl) (hK _ _ (le8_refl _) rfl)
      · intro ac w' hF hL hP hU K hK
        have hB := below_undrew hL
        have e5 : ac.eval (.tmp 5) = .pointer (some ⟨B5, 0, none⟩) := hF.at 5 (by kernel_rfl)
        exact rop_idx _ _ _ rfl e5 rfl (idx_two1 _ _) (wanted_none rfl) (hK _ _ (le8_refl _) rfl)
      · intro ac w' hF hL hP hU K hK
        have hB := below_undrew hL
        have e59 : ac.eval (.tmp 59) = .pointer (some ⟨B5, 1, none⟩) := hP 9 (by kernel_rfl)
        exact rop_ld _ _ rfl e59 (load_int ((hB.cell (p := ⟨B5, _, none⟩) hB5).trans z1)) (wanted_none rfl) (hK _ _ (le8_refl _) rfl)
      · intro ac w' hF hL hP hU K hK
        have hB := below_undrew hL
        have e56 : ac.eval (.tmp 56) = .slice x8 L8 k8 := hP 6 (by kernel_rfl)
        have e58 : ac.eval (.tmp 58) = .int .i64 z := hP 8 (by kernel_rfl)
        have e60 : ac.eval (.tmp 60) = .int .i64 y := hP 10 (by kernel_rfl)
        refine rop_call 21 _ _ rfl #[.slice x8 L8 k8, .int .i64 z, .int .i64 y] (by simp [e56, e58, e60]) (by kernel_rfl) (wanted_none rfl) ?_
        refine (hR2 w' hB).mono ?_
        rintro e w2 ⟨v2, rfl, hr2, hb⟩
        exact ⟨_, rfl, hK _ _ hb hr2⟩
      · intro ac w' hF hL hP hU K hK
        have hB := below_undrew hL
        have e55 : Runs w' (ac.eval (.tmp 55)) (sf (sg m (max z 0)) y) := hP 5 (by kernel_rfl)
        have e61 : Runs w' (ac.eval (.tmp 61)) (sf (sg m (max z 0)) y) := hP 11 (by kernel_rfl)
        refine rop_call 16 _ _ rfl #[ac.eval (.tmp 55), ac.eval (.tmp 61)] (by simp) (by kernel_rfl) (wanted_none rfl) ?_
        refine (same_any _ _ _ w' e55 e61).mono ?_
        rintro e w2 ⟨rfl, hb⟩
        exact ⟨_, rfl, hK _ _ hb rfl⟩
      · intro ac w' hF hL hP hU K hK
        have hB := below_undrew hL
        have e62 : ac.eval (.tmp 62) = .bool true := hP 12 (by kernel_rfl)
        exact rop_assign _ rfl e62 (wanted_none rfl) (hK _ _ (le8_refl _) rfl)
      · intro ac w' hF hB hT
        have e13 : ac.eval (.tmp 13) = .bool true := hT 13 (by decide)
        rw [hF.lit 103 rfl]
        simp only [List.range, List.range.loop, List.map_cons, List.map_nil, e13, hF.at 0 (by kernel_rfl), hF.at 1 (by kernel_rfl), hF.at 2 (by kernel_rfl), hF.at 3 (by kernel_rfl), hF.at 4 (by kernel_rfl), hF.at 5 (by kernel_rfl), hF.at 6 (by kernel_rfl), hF.at 7 (by kernel_rfl), hF.at 8 (by kernel_rfl), hF.at 9 (by kernel_rfl), hF.at 10 (by kernel_rfl), hF.at 11 (by kernel_rfl), hF.at 12 (by kernel_rfl), hF.at 14 (by kernel_rfl), hF.at 15 (by kernel_rfl), hF.at 16 (by kernel_rfl), hF.at 17 (by kernel_rfl), hF.at 18 (by kernel_rfl), hF.at 19 (by kernel_rfl), hF.at 20 (by kernel_rfl), hF.at 21 (by kernel_rfl), hF.at 22 (by kernel_rfl), hF.at 23 (by kernel_rfl), hF.at 24 (by kernel_rfl), hF.at 25 (by kernel_rfl), hF.at 26 (by kernel_rfl), hF.at 27 (by kernel_rfl), hF.at 28 (by kernel_rfl), hF.at 29 (by kernel_rfl), hF.at 30 (by kernel_rfl), hF.at 31 (by kernel_rfl), hF.at 32 (by kernel_rfl), hF.at 33 (by kernel_rfl), hF.at 34 (by kernel_rfl), hF.at 35 (by kernel_rfl), hF.at 36 (by kernel_rfl), hF.at 37 (by kernel_rfl), hF.at 38 (by kernel_rfl), hF.at 39 (by kernel_rfl), hF.at 40 (by kernel_rfl), hF.at 41 (by kernel_rfl), hF.at 42 (by kernel_rfl), hF.at 43 (by kernel_rfl), hF.at 44 (by kernel_rfl), hF.at 45 (by kernel_rfl), hF.at 46 (by kernel_rfl), hF.at 47 (by kernel_rfl), hF.at 48 (by kernel_rfl), hF.at 49 (by kernel_rfl), hF.at 63 (by kernel_rfl), hF.at 64 (by kernel_rfl), hF.at 65 (by kernel_rfl), hF.at 66 (by kernel_rfl), hF.at 67 (by kernel_rfl), hF.at 68 (by kernel_rfl), hF.at 69 (by kernel_rfl), hF.at 70 (by kernel_rfl), hF.at 71 (by kernel_rfl), hF.at 72 (by kernel_rfl), hF.at 73 (by kernel_rfl), hF.at 74 (by kernel_rfl), hF.at 75 (by kernel_rfl), hF.at 76 (by kernel_rfl), hF.at 77 (by kernel_rfl), hF.at 78 (by kernel_rfl), hF.at 79 (by kernel_rfl), hF.at 80 (by kernel_rfl), hF.at 81 (by kernel_rfl), hF.at 82 (by kernel_rfl), hF.at 83 (by kernel_rfl), hF.at 84 (by kernel_rfl), hF.at 85 (by kernel_rfl), hF.at 86 (by kernel_rfl), hF.at 87 (by kernel_rfl), hF.at 88 (by kernel_rfl), hF.at 89 (by kernel_rfl), hF.at 90 (by kernel_rfl), hF.at 91 (by kernel_rfl), hF.at 92 (by kernel_rfl), hF.at 93 (by kernel_rfl), hF.at 94 (by kernel_rfl), hF.at 95 (by kernel_rfl), hF.at 96 (by kernel_rfl), hF.at 97 (by kernel_rfl), hF.at 98 (by kernel_rfl), hF.at 99 (by kernel_rfl), hF.at 100 (by kernel_rfl), hF.at 101 (by kernel_rfl), hF.at 102 (by kernel_rfl)]
        generalize ac.eval (.tmp 50) = u50
        generalize ac.eval (.tmp 51) = u51
        generalize ac.eval (.tmp 52) = u52
        generalize ac.eval (.tmp 53) = u53
        generalize ac.eval (.tmp 54) = u54
        generalize ac.eval (.tmp 55) = u55
        generalize ac.eval (.tmp 56) = u56
        generalize ac.eval (.tmp 57) = u57
        generalize ac.eval (.tmp 58) = u58
        generalize ac.eval (.tmp 59) = u59
        generalize ac.eval (.tmp 60) = u60
        generalize ac.eval (.tmp 61) = u61
        generalize ac.eval (.tmp 62) = u62
        simp only [Act.eval, Array.getD_eq_getD_getElem?, List.getElem?_toArray, List.getElem?_cons_succ, List.getElem?_cons_zero, Option.getD_some]
        clear e13 hT hF ac
        replace hm := hm.old hB
        replace hm2 := hm2.old hB
        replace hbw := below_step hbw (Nat.le_refl _) hB
        replace z0 := (hB.cell (p := ⟨B5, _, none⟩) hB5).trans z0
        replace hB5 := Nat.lt_of_lt_of_le hB5 hB.size
        clear z1 hR1 hR2 hB
        have hJ1 : ∀ u, Below w'.heap.size w' u → Calls Try.prog 22 #[.slice x8 L8 k8, .slice x9 L9 k9] u fun e w' => ∃ v', e = .returned v' ∧ Runs w' v' (jn m m2) ∧ Below u.heap.size u w' := fun u hu => join_any _ _ m m2 u (hm.old hu) (hm2.old hu) hf hf2 (by omega) (by omega)
        have hJ2 : ∀ u, Below w'.heap.size w' u → Calls Try.prog 23 #[.slice x8 L8 k8, .slice x9 L9 k9] u fun e w' => ∃ v', e = .returned v' ∧ Runs w' v' (jn m m2) ∧ Below u.heap.size u w' := fun u hu => rjoin_any _ _ m m2 u (hm.old hu) (hm2.old hu) hf hf2 (by omega) (by omega)
        go_upto_region 14 with fail
        try simp only [Act.put]
        refine wp_region_tab0 [RT.is (.slice x8 L8 k8), RT.is (.slice x9 L9 k9), RT.runs (jn m m2), RT.is (.slice x8 L8 k8), RT.is (.slice x9 L9 k9), RT.runs (jn m m2), RT.is (.bool true), RT.is (.bool true)] (by kernel_rfl) (by kernel_rfl) (by kernel_rfl) ⟨?_, ?_, ?_, ?_, ?_, ?_, ?_, ?_, trivial⟩ ?_
        · intro ac w' hF hL hP hU K hK
          have hB : Below _ _ _ := hL
          have e8 : ac.eval (.tmp 8) = .slice x8 L8 k8 := hF.at 8 (by kernel_rfl)
          exact rop_move _ rfl e8 (wanted_none rfl) (hK _ _ (le8_refl _) rfl)
        · intro ac w' hF hL hP hU K hK
          have hB : Below _ _ _ := hL
          have e9 : ac.eval (.tmp 9) = .slice x9 L9 k9 := hF.at 9 (by kernel_rfl)
          exact rop_move _ rfl e9 (wanted_none rfl) (hK _ _ (le8_refl _) rfl)
        · intro ac w' hF hL hP hU K hK
          have hB : Below _ _ _ := hL
          have e63 : ac.eval (.tmp 63) = .slice x8 L8 k8 := hP 0 (by kernel_rfl)
          have e64 : ac.eval (.tmp 64) = .slice x9 L9 k9 := hP 1 (by kernel_rfl)
          refine rop_call 22 _ _ rfl #[.slice x8 L8 k8, .slice x9 L9 k9] (by simp [e63, e64]) (by kernel_rfl) (wanted_none rfl) ?_
          refine (hJ1 w' hB).mono ?_
          rintro e w2 ⟨v2, rfl, hr2, hb⟩
          exact ⟨_, rfl, hK _ _ hb hr2⟩
        · intro ac w' hF hL hP hU K hK
          have hB : Below _ _ _ := hL
          have e8 : ac.eval (.tmp 8) = .slice x8 L8 k8 := hF.at 8 (by kernel_rfl)
          exact rop_move _ rfl e8 (wanted_none rfl) (hK _ _ (le8_refl _) rfl)
        · intro ac w' hF hL hP hU K hK
          have hB : Below _ _ _ := hL
          have e9 : ac.eval (.tmp 9) = .slice x9 L9 k9 := hF.at 9 (by kernel_rfl)
          exact rop_move _ rfl e9 (wanted_none rfl) (hK _ _ (le8_refl _) rfl)
        · intro ac w' hF hL hP hU K hK
          have hB : Below _ _ _ := hL
          have e66 : ac.eval (.tmp 66) = .slice x8 L8 k8 := hP 3 (by kernel_rfl)
          have e67 : ac.eval (.tmp 67) = .slice x9 L9 k9 := hP 4 (by kernel_rfl)
          refine rop_call 23 _ _ rfl #[.slice x8 L8 k8, .slice x9 L9 k9] (by simp [e66, e67]) (by kernel_rfl) (wanted_none rfl) ?_
          refine (hJ2 w' hB).mono ?_
          rintro e w2 ⟨v2, rfl, hr2, hb⟩
          exact ⟨_, rfl, hK _ _ hb hr2⟩
        · intro ac w' hF hL hP hU K hK
          have hB : Below _ _ _ := hL
          have e65 : Runs w' (ac.eval (.tmp 65)) (jn m m2) := hP 2 (by kernel_rfl)
          have e68 : Runs w' (ac.eval (.tmp 68)) (jn m m2) := hP 5 (by kernel_rfl)
          refine rop_call 16 _ _ rfl #[ac.eval (.tmp 65), ac.eval (.tmp 68)] (by simp) (by kernel_rfl) (wanted_none rfl) ?_
          refine (same_any _ _ _ w' e65 e68).mono ?_
          rintro e w2 ⟨rfl, hb⟩
          exact ⟨_, rfl, hK _ _ hb rfl⟩
        · intro ac w' hF hL hP hU K hK
          have hB : Below _ _ _ := hL
          have e69 : ac.eval (.tmp 69) = .bool true := hP 6 (by kernel_rfl)
          exact rop_assign _ rfl e69 (wanted_none rfl) (hK _ _ (le8_refl _) rfl)
        · intro ac w' hF hB hT
          have e14 : ac.eval (.tmp 14) = .bool true := hT 7 (by decide)
          rw [hF.lit 103 rfl]
          simp only [List.range, List.range.loop, List.map_cons, List.map_nil, e14, hF.at 0 (by kernel_rfl), hF.at 1 (by kernel_rfl), hF.at 2 (by kernel_rfl), hF.at 3 (by kernel_rfl), hF.at 4 (by kernel_rfl), hF.at 5 (by kernel_rfl), hF.at 6 (by kernel_rfl), hF.at 7 (by kernel_rfl), hF.at 8 (by kernel_rfl), hF.at 9 (by kernel_rfl), hF.at 10 (by kernel_rfl), hF.at 11 (by kernel_rfl), hF.at 12 (by kernel_rfl), hF.at 13 (by kernel_rfl), hF.at 15 (by kernel_rfl), hF.at 16 (by kernel_rfl), hF.at 17 (by kernel_rfl), hF.at 18 (by kernel_rfl), hF.at 19 (by kernel_rfl), hF.at 20 (by kernel_rfl), hF.at 21 (by kernel_rfl), hF.at 22 (by kernel_rfl), hF.at 23 (by kernel_rfl), hF.at 24 (by kernel_rfl), hF.at 25 (by kernel_rfl), hF.at 26 (by kernel_rfl), hF.at 27 (by kernel_rfl), hF.at 28 (by kernel_rfl), hF.at 29 (by kernel_rfl), hF.at 30 (by kernel_rfl), hF.at 31 (by kernel_rfl), hF.at 32 (by kernel_rfl), hF.at 33 (by kernel_rfl), hF.at 34 (by kernel_rfl), hF.at 35 (by kernel_rfl), hF.at 36 (by kernel_rfl), hF.at 37 (by kernel_rfl), hF.at 38 (by kernel_rfl), hF.at 39 (by kernel_rfl), hF.at 40 (by kernel_rfl), hF.at 41 (by kernel_rfl), hF.at 42 (by kernel_rfl), hF.at 43 (by kernel_rfl), hF.at 44 (by kernel_rfl), hF.at 45 (by kernel_rfl), hF.at 46 (by kernel_rfl), hF.at 47 (by kernel_rfl), hF.at 48 (by kernel_rfl), hF.at 49 (by kernel_rfl), hF.at 50 (by kernel_rfl), hF.at 51 (by kernel_rfl), hF.at 52 (by kernel_rfl), hF.at 53 (by kernel_rfl), hF.at 54 (by kernel_rfl), hF.at 55 (by kernel_rfl), hF.at 56 (by kernel_rfl), hF.at 57 (by kernel_rfl), hF.at 58 (by kernel_rfl), hF.at 59 (by kernel_rfl), hF.at 60 (by kernel_rfl), hF.at 61 (by kernel_rfl), hF.at 62 (by kernel_rfl), hF.at 70 (by kernel_rfl), hF.at 71 (by kernel_rfl), hF.at 72 (by kernel_rfl), hF.at 73 (by kernel_rfl), hF.at 74 (by kernel_rfl), hF.at 75 (by kernel_rfl), hF.at 76 (by kernel_rfl), hF.at 77 (by kernel_rfl), hF.at 78 (by kernel_rfl), hF.at 79 (by kernel_rfl), hF.at 80 (by kernel_rfl), hF.at 81 (by kernel_rfl), hF.at 82 (by kernel_rfl), hF.at 83 (by kernel_rfl), hF.at 84 (by kernel_rfl), hF.at 85 (by kernel_rfl), hF.at 86 (by kernel_rfl), hF.at 87 (by kernel_rfl), hF.at 88 (by kernel_rfl), hF.at 89 (by kernel_rfl), hF.at 90 (by kernel_rfl), hF.at 91 (by kernel_rfl), hF.at 92 (by kernel_rfl), hF.at 93 (by kernel_rfl), hF.at 94 (by kernel_rfl), hF.at 95 (by kernel_rfl), hF.at 96 (by kernel_rfl), hF.at 97 (by kernel_rfl), hF.at 98 (by kernel_rfl), hF.at 99 (by kernel_rfl), hF.at 100 (by kernel_rfl), hF.at 101 (by kernel_rfl), hF.at 102 (by kernel_rfl)]
          generalize ac.eval (.tmp 63) = u63
          generalize ac.eval (.tmp 64) = u64
          generalize ac.eval (.tmp 65) = u65
          generalize ac.eval (.tmp 66) = u66
          generalize ac.eval (.tmp 67) = u67
          generalize ac.eval (.tmp 68) = u68
          generalize ac.eval (.tmp 69) = u69
          simp only [Act.eval, Array.getD_eq_getD_getElem?, List.getElem?_toArray, List.getElem?_cons_succ, List.getElem?_cons_zero, Option.getD_some]
          clear e14 hT hF ac
          replace hm := hm.old hB
          replace hbw := below_step hbw (Nat.le_refl _) hB
          replace z0 := (hB.cell (p := ⟨B5, _, none⟩) hB5).trans z0
          replace hB5 := Nat.lt_of_lt_of_le hB5 hB.size
          clear hJ1 hJ2 hB hm2
          have hc1 := cut_any _ m z _ hm hf hz.1 hz.2 (by omega)
          go_upto_region 16 with (go_at_call 24; refine hc1.mono ?_; rintro e w6 ⟨v1, v2, rfl, r1, r2, b6⟩)
          replace z0 := (b6.cell (p := ⟨B5, _, none⟩) hB5).trans z0
          have hc2 := rcut_any _ m z _ (hm.old b6) hf hz.1 hz.2 (by omega)
          go_wp2_with (first
            | (go_at_call 25; refine hc2.mono ?_; rintro e w7 ⟨v3, v4, rfl, r3, r4, b7⟩; replace r1 := r1.old b7; replace r2 := r2.old b7)
            | (go_at_call 16; ((with_reducible refine (same_any _ _ _ _ r1 r3).mono ?_); rintro e w8 ⟨rfl, b8⟩; replace r2 := r2.old b8; replace r4 := r4.old b8))
            | (go_at_call 16; ((with_reducible refine (same_any _ _ _ _ r2 r4).mono ?_); rintro e w9 ⟨rfl, b9⟩)))
          go_ret
          exact ⟨rfl, below_step b0 (Nat.le_refl _) (below_step (below_step (below_step (below_step hbw (Nat.le_refl _) b6) (Nat.le_refl _) b7) (Nat.le_refl _) b8) (Nat.le_refl _) b9)⟩
set_option maxRecDepth 100000 in
theorem lifted (os : Os) (started : os.Started) (H : Type) (enc : TypeId × Value → H) :
    ReturnsInHanded {} Try.checked os 4 .any (Rows.extentFilesSpec.pre6 enc Try.prog Try.f4 Rows.extentFilesRow.domain false) (Rows.extentFilesSpec.post enc Try.prog Try.f4 false true false false) := by
  refine returnsInHanded_of_change (C := Try.checked) lawOwn started (by kernel_rfl) Try.func4
    (ChangeSpec.witness6 (enc := enc) (C := Try.checked) false ⟨#[], #[.slice none 0 0, .slice none 0 0, .agg #[.int .i64 0, .int .i64 0]], []⟩ 8 (by kernel_rfl) (by kernel_rfl) (by kernel_rfl) (by kernel_rfl)) ?_
  intro W base args ds gs before hval0 hW hcnd _
  have hval : ∀ (j : Nat) t v, Try.f4.params[j]? = some t → args[j]? = some v → Value.okWide Try.prog W .any base t v := hval0
  have hW' := hW
  obtain ⟨p, q, hA0, hV, rfl, hfz, hnd⟩ := hW
  have hA : DataW.TrodAll enc Try.prog W 0 (fun _ => true) true Try.f4.params.toList args.toList ds p := hA0
  rw [Try.params4] at hA hval
  obtain ⟨v0, vs0, d0, ds0, p0, q0, hargs, rfl, rfl, h0, r0⟩ := trodAll_cons hA
  obtain ⟨v1, vs1, d1, ds1, p1, q1, rfl, rfl, rfl, h1, r1⟩ := trodAll_cons r0
  obtain ⟨v2, vs2, d2, ds2, p2, q2, rfl, rfl, rfl, h2, r2⟩ := trodAll_cons r1
  obtain ⟨rfl, rfl, rfl⟩ := trodAll_nil r2
  obtain rfl : args = #[v0, v1, v2] := by cases args; simp_all
  obtain ⟨rfl, rfl⟩ := trodVars_none hV
  obtain ⟨a0, len0, cap0, rfl⟩ := okWide_slice Try.underlying22 (hval 0 22 v0 rfl rfl)
  obtain ⟨l0, w0⟩ := runs_of h0
  obtain ⟨a1, len1, cap1, rfl⟩ := okWide_slice Try.underlying22 (hval 1 22 v1 rfl rfl)
  obtain ⟨l1, w1⟩ := runs_of h1
  obtain ⟨z2, y2, rfl, w2, w2b⟩ := ints2_arg (hval 2 33 v2 rfl rfl) h2
  clear hA0 hval0 hcnd
  refine (walk (w := W) _ l0 w0 _ l1 w1 z2 y2 w2 w2b).mono fun e W' ⟨he, bel⟩ => ?_
  subst he
  exact ⟨_, rfl, law_post rfl rfl (by kernel_rfl) hW' rfl bel⟩

theorem holds : Rows.ExtentFilesSaid :=
  OpenClaim.holds_of_wide 4 Try.f4 rfl rfl rfl rfl rfl rfl rfl ⟨rfl, rfl, rfl, rfl, rfl⟩ rfl rfl rfl rfl rfl (by kernel_rfl) Try.func4 (by kernel_rfl)
    (of_decide_eq_true (by kernel_rfl)) (by unfold Func.isWrapper; first | (rw [if_pos (by decide +kernel)]; kernel_rfl) | (rw [if_neg (by decide +kernel)]; exact ⟨rfl, rfl⟩))
    (fun os started H enc _ => lifted os started H enc)
end Go.Proofs.Ytlbnopfbfnobnaa.extentFiles

theorem Go.Proofs.Ytlbnopfbfnobnaa.extentFiles_holds : Go.Proofs.Ytlbnopfbfnobnaa.Rows.ExtentFilesSaid := Go.Proofs.Ytlbnopfbfnobnaa.extentFiles.holds
#print axioms Go.Proofs.Ytlbnopfbfnobnaa.extentFiles_holds
