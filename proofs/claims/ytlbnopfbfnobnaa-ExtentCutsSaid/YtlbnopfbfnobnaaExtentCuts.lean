/-
  ExtentCuts: a file's list that is cut, and joined again, has the sectors that it had, in order; each part as many as it should. For every list of runs (of a longer one the first 12) and every place, no condition.
-/
import Derived.Test.YtlbnopfbfnobnaaRunArg
namespace Go.Proofs.Ytlbnopfbfnobnaa.extentCuts
open Go.ChangeShapes Go.WideShapes Go.ChangeAt Go.RowKit Ext

set_option maxHeartbeats 12800000 in
set_option maxRecDepth 100000 in
theorem walk {w : World} (v : Value) (l : List Rn) (hl : Runs w v l) (n : Int) (_n1 : -9223372036854775808 ≤ n) (_n2 : n ≤ 9223372036854775807) :
    Calls Try.prog 6 #[v, .int .i64 n] w fun e w' => e = .returned (.bool true) ∧ Below w.heap.size w w' := by
  obtain ⟨va, cap, rfl, hlc, hcap⟩ := hl.slice
  go_enter Try.func6, Try.ntmps6
  go_upto_region 3 with (first
    | (go_at_call 9; refine (awake_any _).mono ?_; rintro e w1 ⟨rfl, b1⟩)
    | (go_at_call 17; refine (file_any _ l _ (hl.old b1)).mono ?_; rintro e w2 ⟨v2, m, rfl, hm, hfl, b2⟩))
  have hf := hfl.file
  have hm12 := hfl.len
  have hto := total_any _ m w2 hm hf (by omega)
  have htt := hfl.tot
  obtain ⟨A, hA⟩ : ∃ A : Nat, (A : Int) = tot m := ⟨(tot m).toNat, by omega⟩
  rw [← hA] at hto htt
  have hA4 : A ≤ 384 := by omega
  have HA := Lib.hid hA
  clear hA htt
  obtain ⟨mv, mc, rfl, _, _⟩ := hm.slice
  obtain ⟨t0, ht0, t1, t2⟩ := rem_abs n A
  go_upto_if 24 with (go_at_call 26; refine hto.mono ?_; rintro e w3 ⟨rfl, b3⟩)
  replace hm := hm.old b3
  have hb := below_step (below_step b1 (Nat.le_refl _) b2) (Nat.le_refl _) b3
  clear b1 b2 b3 ht0 hto
  go_cut [8] (fun s8 wx => w3 = wx ∧ ∃ Kx : Nat, s8 = .int .i64 Kx ∧ Kx ≤ A)
  case first =>
    by_cases hneg : t0 < 0
    · go_wp2
      go_meet
      case rel => exact ⟨rfl, (-t0).toNat, by rw [show (((-t0).toNat : Nat) : Int) = -t0 by omega], by omega⟩
    · go_wp2
      go_meet
      case rel => exact ⟨rfl, t0.toNat, by rw [show ((t0.toNat : Nat) : Int) = t0 by omega], by omega⟩
  case rest =>
    obtain ⟨rfl, Kx, rfl, hKx⟩ := hcut
    clear t1 t2
    have hcu := cut_any _ m Kx w3 hm hf (by omega) (by omega) (by omega)
    rw [Int.max_eq_left (by omega)] at hcu
    have f1 := sf_file hf (Kx : Int)
    have f2 := sg_file hf (Kx : Int)
    have g1 := sf_len m (Kx : Int)
    have g2 := sg_len m (Kx : Int)
    have k1 := sf_tot hf (n := (Kx : Int)) (by omega) (by rw [← HA.out]; omega)
    have k2 := cut_tot m (Kx : Int)
    rw [k1, ← HA.out] at k2
    have hjall := jn_all f1 f2
    rw [cut_all hf] at hjall
    have hjf := jn_file f1 f2
    have hjl := jn_len (sf m (Kx : Int)) (sg m (Kx : Int))
    have hal := allS_length hf
    obtain ⟨P1, hP1⟩ : ∃ P1, P1 = sf m (Kx : Int) := ⟨_, rfl⟩
    obtain ⟨P2, hP2⟩ : ∃ P2, P2 = sg m (Kx : Int) := ⟨_, rfl⟩
    rw [← hP1] at hcu f1 g1 k1 hjall hjf hjl
    rw [← hP2] at hcu f2 g2 k2 hjall hjf hjl
    have HJA := Lib.hid hjall
    have hk2 : tot P2 = (A : Int) - (Kx : Int) := by omega
    have HK1 := Lib.hid k1
    have HK2 := Lib.hid hk2
    have HAL := Lib.hid (show (allS m).length = A by rw [← HA.out] at hal; omega)
    clear hP1 hP2 hjall k1 k2 hk2 hal
    go_upto_region 10 with (first
      | (go_at_call 24; refine hcu.mono ?_; rintro e w4 ⟨v4, v5, rfl, h4, h5, b4⟩; replace hm := hm.old b4)
      | (go_at_call 18; ((with_reducible refine (all_any _ m _ hm hf (by omega)).mono ?_); rintro e w5 ⟨v6, rfl, h6, b5⟩; replace h4 := h4.old b5; replace h5 := h5.old b5))
      | (go_at_call 22; refine (join_any _ _ P1 P2 _ h4 h5 f1 f2 (by omega) (by omega)).mono ?_; rintro e w6 ⟨v7, rfl, h7, b6⟩; replace h4 := h4.old b6; replace h5 := h5.old b6; replace h6 := h6.old b6)
      | (go_at_call 18; ((with_reducible refine (all_any _ (jn P1 P2) _ h7 hjf (by omega)).mono ?_); rintro e w7 ⟨v8, rfl, h8, b7⟩; replace h4 := h4.old b7; replace h5 := h5.old b7; replace h6 := h6.old b7)))
    replace hb := below_step (below_step (below_step (below_step hb (Nat.le_refl _) b4) (Nat.le_refl _) b5) (Nat.le_refl _) b6) (Nat.le_refl _) b7
    clear b4 b5 b6 b7 hcu hm h7
    rw [HJA.out] at h8
    obtain ⟨x6, ca, rfl, _⟩ := h6.slice
    obtain ⟨x8, cs, rfl, _⟩ := h8.slice
    rw [HAL.out] at h6 h8 ⊢
    have hT1 : ∀ u, Below w7.heap.size w7 u → Calls Try.prog 26 #[v4] u fun e w' => e = .returned (.int .i64 ((Kx : Nat) : Int)) ∧ Below u.heap.size u w' := fun u hu => by
      have := total_any _ P1 u (h4.old hu) f1 (by omega)
      rw [HK1.out] at this
      exact this
    have hT2 : ∀ u, Below w7.heap.size w7 u → Calls Try.prog 26 #[v5] u fun e w' => e = .returned (.int .i64 ((A : Int) - (Kx : Int))) ∧ Below u.heap.size u w' := fun u hu => by
      have := total_any _ P2 u (h5.old hu) f2 (by omega)
      rw [HK2.out] at this
      exact this
    obtain ⟨x1, c1, rfl, _, _⟩ := h4.slice
    obtain ⟨x2, c2, rfl, _, _⟩ := h5.slice
    obtain ⟨L1, hL1⟩ : ∃ L1, L1 = P1.length := ⟨_, rfl⟩
    obtain ⟨L2, hL2⟩ : ∃ L2, L2 = P2.length := ⟨_, rfl⟩
    rw [← hL1] at hT1 ⊢
    rw [← hL2] at hT2 ⊢
    have HT1 := Lib.hid hT1
    have HT2 := Lib.hid hT2
    clear hL1 hL2 h4 h5 hT1 hT2
    go_wp2
    go_loopw [13] (fun s13 wr => ∃ j : Nat, j ≤ A ∧ s13 = .int .i64 j ∧ Below w7.heap.size w7 wr) (fun s13 _ => A - (intOf s13).toNat)
    case atStart => exact ⟨0, by omega, rfl, Below.refl _ _⟩
    case round =>
      obtain ⟨j, hj, rfl, hbj⟩ := hrel
      by_cases hjk : j < A
      · obtain ⟨p, o, rfl, hp, -, c0⟩ := (h6.old hbj).at j (by rw [HAL.out]; exact hjk)
        obtain ⟨q, r, rfl, hq, -, d0⟩ := (h8.old hbj).at j (by rw [HAL.out]; exact hjk)
        obtain ⟨y, hy⟩ : ∃ y, y = (allS m)[j]'(by rw [HAL.out]; exact hjk) := ⟨_, rfl⟩
        rw [← hy] at d0 c0
        clear hy
        go_wp2
        try simp only [Act.put]
        refine wp_region_tab [RT.is (.slice (some ⟨p, o, none⟩) A ca), RT.is (.int .i64 ((j : Nat) : Int)), RT.is (.pointer (some ⟨p, o + j, none⟩)), RT.is (.int .i64 y), RT.is (.slice (some ⟨q, r, none⟩) A cs), RT.is (.int .i64 ((j : Nat) : Int)), RT.is (.pointer (some ⟨q, r + j, none⟩)), RT.is (.int .i64 y), RT.is (.bool false)] (by kernel_rfl) (by kernel_rfl) (by kernel_rfl) (by kernel_rfl) ⟨?_, ?_, ?_, ?_, ?_, ?_, ?_, ?_, ?_, trivial⟩ ?_
        · intro ac w' hF hL hP hU K hK
          have hB := below_undrew hL
          have e11 : ac.eval (.tmp 11) = .slice (some ⟨p, o, none⟩) A ca := hF.at 11 (by kernel_rfl)
          exact rop_move _ rfl e11 (wanted_none rfl) (hK _ _ (le8_refl _) rfl)
        · intro ac w' hF hL hP hU K hK
          have hB := below_undrew hL
          have e13 : ac.eval (.tmp 13) = .int .i64 ((j : Nat) : Int) := hF.at 13 (by kernel_rfl)
          exact rop_move _ rfl e13 (wanted_none rfl) (hK _ _ (le8_refl _) rfl)
        · intro ac w' hF hL hP hU K hK
          have hB := below_undrew hL
          have e56 : ac.eval (.tmp 56) = .slice (some ⟨p, o, none⟩) A ca := hP 0 (by kernel_rfl)
          have e57 : ac.eval (.tmp 57) = .int .i64 ((j : Nat) : Int) := hP 1 (by kernel_rfl)
          exact rop_idx _ _ _ rfl e56 e57 (idx_num p o A ca j hjk _) (wanted_none rfl) (hK _ _ (le8_refl _) rfl)
        · intro ac w' hF hL hP hU K hK
          have hB := below_undrew hL
          have e58 : ac.eval (.tmp 58) = .pointer (some ⟨p, o + j, none⟩) := hP 2 (by kernel_rfl)
          exact rop_ld _ _ rfl e58 (load_int ((hB.cell (p := ⟨p, _, none⟩) hp).trans c0)) (wanted_none rfl) (hK _ _ (le8_refl _) rfl)
        · intro ac w' hF hL hP hU K hK
          have hB := below_undrew hL
          have e12 : ac.eval (.tmp 12) = .slice (some ⟨q, r, none⟩) A cs := hF.at 12 (by kernel_rfl)
          exact rop_move _ rfl e12 (wanted_none rfl) (hK _ _ (le8_refl _) rfl)
        · intro ac w' hF hL hP hU K hK
          have hB := below_undrew hL
          have e13 : ac.eval (.tmp 13) = .int .i64 ((j : Nat) : Int) := hF.at 13 (by kernel_rfl)
          exact rop_move _ rfl e13 (wanted_none rfl) (hK _ _ (le8_refl _) rfl)
        · intro ac w' hF hL hP hU K hK
          have hB := below_undrew hL
          have e60 : ac.eval (.tmp 60) = .slice (some ⟨q, r, none⟩) A cs := hP 4 (by kernel_rfl)
          have e61 : ac.eval (.tmp 61) = .int .i64 ((j : Nat) : Int) := hP 5 (by kernel_rfl)
          exact rop_idx _ _ _ rfl e60 e61 (idx_num q r A cs j hjk _) (wanted_none rfl) (hK _ _ (le8_refl _) rfl)
        · intro ac w' hF hL hP hU K hK
          have hB := below_undrew hL
          have e62 : ac.eval (.tmp 62) = .pointer (some ⟨q, r + j, none⟩) := hP 6 (by kernel_rfl)
          exact rop_ld _ _ rfl e62 (load_int ((hB.cell (p := ⟨q, _, none⟩) hq).trans d0)) (wanted_none rfl) (hK _ _ (le8_refl _) rfl)
        · intro ac w' hF hL hP hU K hK
          have hB := below_undrew hL
          have e59 : ac.eval (.tmp 59) = .int .i64 y := hP 3 (by kernel_rfl)
          have e63 : ac.eval (.tmp 63) = .int .i64 y := hP 7 (by kernel_rfl)
          exact rop_bin _ _ _ _ _ rfl e59 e63 (guard_int _ _ _ _ _ _ _ w') (neq_i _ _ _ (by simp) w') (wanted_none rfl) (hK _ _ (le8_refl _) rfl)
        · intro ac w' hF hB hT
          have e64 : ac.eval (.tmp 64) = .bool false := hT 8 (by decide)
          rw [hF.lit 80 rfl]
          simp only [List.range, List.range.loop, List.map_cons, List.map_nil, e64, hF.at 0 (by kernel_rfl), hF.at 1 (by kernel_rfl), hF.at 2 (by kernel_rfl), hF.at 3 (by kernel_rfl), hF.at 4 (by kernel_rfl), hF.at 5 (by kernel_rfl), hF.at 6 (by kernel_rfl), hF.at 7 (by kernel_rfl), hF.at 8 (by kernel_rfl), hF.at 9 (by kernel_rfl), hF.at 10 (by kernel_rfl), hF.at 11 (by kernel_rfl), hF.at 12 (by kernel_rfl), hF.at 13 (by kernel_rfl), hF.at 14 (by kernel_rfl), hF.at 15 (by kernel_rfl), hF.at 16 (by kernel_rfl), hF.at 17 (by kernel_rfl), hF.at 18 (by kernel_rfl), hF.at 19 (by kernel_rfl), hF.at 20 (by kernel_rfl), hF.at 21 (by kernel_rfl), hF.at 22 (by kernel_rfl), hF.at 23 (by kernel_rfl), hF.at 24 (by kernel_rfl), hF.at 25 (by kernel_rfl), hF.at 26 (by kernel_rfl), hF.at 27 (by kernel_rfl), hF.at 28 (by kernel_rfl), hF.at 29 (by kernel_rfl), hF.at 30 (by kernel_rfl), hF.at 31 (by kernel_rfl), hF.at 32 (by kernel_rfl), hF.at 33 (by kernel_rfl), hF.at 34 (by kernel_rfl), hF.at 35 (by kernel_rfl), hF.at 36 (by kernel_rfl), hF.at 37 (by kernel_rfl), hF.at 38 (by kernel_rfl), hF.at 39 (by kernel_rfl), hF.at 40 (by kernel_rfl), hF.at 41 (by kernel_rfl), hF.at 42 (by kernel_rfl), hF.at 43 (by kernel_rfl), hF.at 44 (by kernel_rfl), hF.at 45 (by kernel_rfl), hF.at 46 (by kernel_rfl), hF.at 47 (by kernel_rfl), hF.at 48 (by kernel_rfl), hF.at 49 (by kernel_rfl), hF.at 50 (by kernel_rfl), hF.at 51 (by kernel_rfl), hF.at 52 (by kernel_rfl), hF.at 53 (by kernel_rfl), hF.at 54 (by kernel_rfl), hF.at 55 (by kernel_rfl), hF.at 65 (by kernel_rfl), hF.at 66 (by kernel_rfl), hF.at 67 (by kernel_rfl), hF.at 68 (by kernel_rfl), hF.at 69 (by kernel_rfl), hF.at 70 (by kernel_rfl), hF.at 71 (by kernel_rfl), hF.at 72 (by kernel_rfl), hF.at 73 (by kernel_rfl), hF.at 74 (by kernel_rfl), hF.at 75 (by kernel_rfl), hF.at 76 (by kernel_rfl), hF.at 77 (by kernel_rfl), hF.at 78 (by kernel_rfl), hF.at 79 (by kernel_rfl)]
          generalize ac.eval (.tmp 56) = u56
          generalize ac.eval (.tmp 57) = u57
          generalize ac.eval (.tmp 58) = u58
          generalize ac.eval (.tmp 59) = u59
          generalize ac.eval (.tmp 60) = u60
          generalize ac.eval (.tmp 61) = u61
          generalize ac.eval (.tmp 62) = u62
          generalize ac.eval (.tmp 63) = u63
          simp only [Act.eval, Array.getD_eq_getD_getElem?, List.getElem?_toArray, List.getElem?_cons_succ, List.getElem?_cons_zero, Option.getD_some]
          clear e64 hT hF ac
          go_wp2
          go_roundw
          case rel => exact ⟨j + 1, by omega, by go_num, below_step hbj (Nat.le_refl _) hB⟩
          case measure => simp [intOf]; omega
      · go_upto_region 17 with fail
        have hT1 := fun u hu => HT1.out u (below_step hbj (Nat.le_refl _) hu)
        have hT2 := fun u hu => HT2.out u (below_step hbj (Nat.le_refl _) hu)
        try simp only [Act.put]
        refine wp_region_tab0 [RT.is (.bool true), RT.is (.bool true), RT.is (.slice x1 L1 c1), RT.is (.int .i64 ((Kx : Nat) : Int)), RT.is (.int .i64 ((Kx : Nat) : Int)), RT.is (.bool true), RT.is (.bool true), RT.is (.bool true), RT.is (.slice x2 L2 c2), RT.is (.int .i64 ((A : Int) - (Kx : Int))), RT.is (.int .i64 ((A : Nat) : Int)), RT.is (.int .i64 ((Kx : Nat) : Int)), RT.is (.int .i64 ((A : Int) - (Kx : Int))), RT.is (.bool true), RT.is (.bool true), RT.is (.bool true)] (by kernel_rfl) (by kernel_rfl) (by kernel_rfl) ⟨?_, ?_, ?_, ?_, ?_, ?_, ?_, ?_, ?_, ?_, ?_, ?_, ?_, ?_, ?_, ?_, trivial⟩ ?_
        · intro ac w' hF hL hP hU K hK
          have hB : Below _ _ _ := hL
          have e5 : ac.eval (.tmp 5) = .bool true := hF.at 5 (by kernel_rfl)
          exact rop_move _ rfl e5 (wanted_none rfl) (hK _ _ (le8_refl _) rfl)
        · intro ac w' hF hL hP hU K hK
          have hB : Below _ _ _ := hL
          have e65 : ac.eval (.tmp 65) = .bool true := hP 0 (by kernel_rfl)
          exact rop_move _ rfl e65 (wanted_none rfl) (hK _ _ (le8_refl _) rfl)
        · intro ac w' hF hL hP hU K hK
          have hB : Below _ _ _ := hL
          have e9 : ac.eval (.tmp 9) = .slice x1 L1 c1 := hF.at 9 (by kernel_rfl)
          have e66 : ac.eval (.tmp 66) = .bool true := hP 1 (by kernel_rfl)
          exact rop_move _ rfl e9 (wanted_of (j := 1) (b := true) rfl rfl e66) (hK _ _ (le8_refl _) rfl)
        · intro ac w' hF hL hP hU K hK
          have hB : Below _ _ _ := hL
          have e67 : ac.eval (.tmp 67) = .slice x1 L1 c1 := hP 2 (by kernel_rfl)
          have e66 : ac.eval (.tmp 66) = .bool true := hP 1 (by kernel_rfl)
          refine rop_call 26 _ _ rfl #[.slice x1 L1 c1] (by simp [e67]) (by kernel_rfl) (wanted_of (j := 1) (b := true) rfl rfl e66) ?_
          refine (hT1 w' hB).mono ?_
          rintro e w2 ⟨rfl, hb⟩
          exact ⟨_, rfl, hK _ _ hb rfl⟩
        · intro ac w' hF hL hP hU K hK
          have hB : Below _ _ _ := hL
          have e8 : ac.eval (.tmp 8) = .int .i64 ((Kx : Nat) : Int) := hF.at 8 (by kernel_rfl)
          have e66 : ac.eval (.tmp 66) = .bool true := hP 1 (by kernel_rfl)
          exact rop_move _ rfl e8 (wanted_of (j := 1) (b := true) rfl rfl e66) (hK _ _ (le8_refl _) rfl)
        · intro ac w' hF hL hP hU K hK
          have hB : Below _ _ _ := hL
          have e68 : ac.eval (.tmp 68) = .int .i64 ((Kx : Nat) : Int) := hP 3 (by kernel_rfl)
          have e69 : ac.eval (.tmp 69) = .int .i64 ((Kx : Nat) : Int) := hP 4 (by kernel_rfl)
          have e66 : ac.eval (.tmp 66) = .bool true := hP 1 (by kernel_rfl)
          exact rop_bin _ _ _ _ _ rfl e68 e69 (guard_int _ _ _ _ _ _ _ w') (eql_i _ _ _ (by simp) w') (wanted_of (j := 1) (b := true) rfl rfl e66) (hK _ _ (le8_refl _) rfl)
        · intro ac w' hF hL hP hU K hK
          have hB : Below _ _ _ := hL
          have e66 : ac.eval (.tmp 66) = .bool true := hP 1 (by kernel_rfl)
          have e70 : ac.eval (.tmp 70) = .bool true := hP 5 (by kernel_rfl)
          exact rop_pick _ _ _ rfl true e66 (by simpa using e70) (wanted_none rfl) (hK _ _ (le8_refl _) rfl)
        · intro ac w' hF hL hP hU K hK
          have hB : Below _ _ _ := hL
          have e71 : ac.eval (.tmp 71) = .bool true := hP 6 (by kernel_rfl)
          exact rop_move _ rfl e71 (wanted_none rfl) (hK _ _ (le8_refl _) rfl)
        · intro ac w' hF hL hP hU K hK
          have hB : Below _ _ _ := hL
          have e10 : ac.eval (.tmp 10) = .slice x2 L2 c2 := hF.at 10 (by kernel_rfl)
          have e72 : ac.eval (.tmp 72) = .bool true := hP 7 (by kernel_rfl)
          exact rop_move _ rfl e10 (wanted_of (j := 7) (b := true) rfl rfl e72) (hK _ _ (le8_refl _) rfl)
        · intro ac w' hF hL hP hU K hK
          have hB : Below _ _ _ := hL
          have e73 : ac.eval (.tmp 73) = .slice x2 L2 c2 := hP 8 (by kernel_rfl)
          have e72 : ac.eval (.tmp 72) = .bool true := hP 7 (by kernel_rfl)
          refine rop_call 26 _ _ rfl #[.slice x2 L2 c2] (by simp [e73]) (by kernel_rfl) (wanted_of (j := 7) (b := true) rfl rfl e72) ?_
          refine (hT2 w' hB).mono ?_
          rintro e w2 ⟨rfl, hb⟩
          exact ⟨_, rfl, hK _ _ hb rfl⟩
        · intro ac w' hF hL hP hU K hK
          have hB : Below _ _ _ := hL
          have e7 : ac.eval (.tmp 7) = .int .i64 ((A : Nat) : Int) := hF.at 7 (by kernel_rfl)
          have e72 : ac.eval (.tmp 72) = .bool true := hP 7 (by kernel_rfl)
          exact rop_move _ rfl e7 (wanted_of (j := 7) (b := true) rfl rfl e72) (hK _ _ (le8_refl _) rfl)
        · intro ac w' hF hL hP hU K hK
          have hB : Below _ _ _ := hL
          have e8 : ac.eval (.tmp 8) = .int .i64 ((Kx : Nat) : Int) := hF.at 8 (by kernel_rfl)
          have e72 : ac.eval (.tmp 72) = .bool true := hP 7 (by kernel_rfl)
          exact rop_move _ rfl e8 (wanted_of (j := 7) (b := true) rfl rfl e72) (hK _ _ (le8_refl _) rfl)
        · intro ac w' hF hL hP hU K hK
          have hB : Below _ _ _ := hL
          have e75 : ac.eval (.tmp 75) = .int .i64 ((A : Nat) : Int) := hP 10 (by kernel_rfl)
          have e76 : ac.eval (.tmp 76) = .int .i64 ((Kx : Nat) : Int) := hP 11 (by kernel_rfl)
          have e72 : ac.eval (.tmp 72) = .bool true := hP 7 (by kernel_rfl)
          exact rop_bin _ _ _ _ _ rfl e75 e76 (guard_int _ _ _ _ _ _ _ w') (sub_int _ _ _ (rfl) (by omega) w') (wanted_of (j := 7) (b := true) rfl rfl e72) (hK _ _ (le8_refl _) rfl)
        · intro ac w' hF hL hP hU K hK
          have hB : Below _ _ _ := hL
          have e74 : ac.eval (.tmp 74) = .int .i64 ((A : Int) - (Kx : Int)) := hP 9 (by kernel_rfl)
          have e77 : ac.eval (.tmp 77) = .int .i64 ((A : Int) - (Kx : Int)) := hP 12 (by kernel_rfl)
          have e72 : ac.eval (.tmp 72) = .bool true := hP 7 (by kernel_rfl)
          exact rop_bin _ _ _ _ _ rfl e74 e77 (guard_int _ _ _ _ _ _ _ w') (eql_i _ _ _ (by simp) w') (wanted_of (j := 7) (b := true) rfl rfl e72) (hK _ _ (le8_refl _) rfl)
        · intro ac w' hF hL hP hU K hK
          have hB : Below _ _ _ := hL
          have e72 : ac.eval (.tmp 72) = .bool true := hP 7 (by kernel_rfl)
          have e78 : ac.eval (.tmp 78) = .bool true := hP 13 (by kernel_rfl)
          exact rop_pick _ _ _ rfl true e72 (by simpa using e78) (wanted_none rfl) (hK _ _ (le8_refl _) rfl)
        · intro ac w' hF hL hP hU K hK
          have hB : Below _ _ _ := hL
          have e79 : ac.eval (.tmp 79) = .bool true := hP 14 (by kernel_rfl)
          exact rop_assign _ rfl e79 (wanted_none rfl) (hK _ _ (le8_refl _) rfl)
        · intro ac w' hF hB hT
          have e4 : ac.eval (.tmp 4) = .bool true := hT 15 (by decide)
          rw [hF.lit 80 rfl]
          simp only [List.range, List.range.loop, List.map_cons, List.map_nil, e4, hF.at 0 (by kernel_rfl), hF.at 1 (by kernel_rfl), hF.at 2 (by kernel_rfl), hF.at 3 (by kernel_rfl), hF.at 5 (by kernel_rfl), hF.at 6 (by kernel_rfl), hF.at 7 (by kernel_rfl), hF.at 8 (by kernel_rfl), hF.at 9 (by kernel_rfl), hF.at 10 (by kernel_rfl), hF.at 11 (by kernel_rfl), hF.at 12 (by kernel_rfl), hF.at 13 (by kernel_rfl), hF.at 14 (by kernel_rfl), hF.at 15 (by kernel_rfl), hF.at 16 (by kernel_rfl), hF.at 17 (by kernel_rfl), hF.at 18 (by kernel_rfl), hF.at 19 (by kernel_rfl), hF.at 20 (by kernel_rfl), hF.at 21 (by kernel_rfl), hF.at 22 (by kernel_rfl), hF.at 23 (by kernel_rfl), hF.at 24 (by kernel_rfl), hF.at 25 (by kernel_rfl), hF.at 26 (by kernel_rfl), hF.at 27 (by kernel_rfl), hF.at 28 (by kernel_rfl), hF.at 29 (by kernel_rfl), hF.at 30 (by kernel_rfl), hF.at 31 (by kernel_rfl), hF.at 32 (by kernel_rfl), hF.at 33 (by kernel_rfl), hF.at 34 (by kernel_rfl), hF.at 35 (by kernel_rfl), hF.at 36 (by kernel_rfl), hF.at 37 (by kernel_rfl), hF.at 38 (by kernel_rfl), hF.at 39 (by kernel_rfl), hF.at 40 (by kernel_rfl), hF.at 41 (by kernel_rfl), hF.at 42 (by kernel_rfl), hF.at 43 (by kernel_rfl), hF.at 44 (by kernel_rfl), hF.at 45 (by kernel_rfl), hF.at 46 (by kernel_rfl), hF.at 47 (by kernel_rfl), hF.at 48 (by kernel_rfl), hF.at 49 (by kernel_rfl), hF.at 50 (by kernel_rfl), hF.at 51 (by kernel_rfl), hF.at 52 (by kernel_rfl), hF.at 53 (by kernel_rfl), hF.at 54 (by kernel_rfl), hF.at 55 (by kernel_rfl), hF.at 56 (by kernel_rfl), hF.at 57 (by kernel_rfl), hF.at 58 (by kernel_rfl), hF.at 59 (by kernel_rfl), hF.at 60 (by kernel_rfl), hF.at 61 (by kernel_rfl), hF.at 62 (by kernel_rfl), hF.at 63 (by kernel_rfl), hF.at 64 (by kernel_rfl)]
          generalize ac.eval (.tmp 65) = u65
          generalize ac.eval (.tmp 66) = u66
          generalize ac.eval (.tmp 67) = u67
          generalize ac.eval (.tmp 68) = u68
          generalize ac.eval (.tmp 69) = u69
          generalize ac.eval (.tmp 70) = u70
          generalize ac.eval (.tmp 71) = u71
          generalize ac.eval (.tmp 72) = u72
          generalize ac.eval (.tmp 73) = u73
          generalize ac.eval (.tmp 74) = u74
          generalize ac.eval (.tmp 75) = u75
          generalize ac.eval (.tmp 76) = u76
          generalize ac.eval (.tmp 77) = u77
          generalize ac.eval (.tmp 78) = u78
          generalize ac.eval (.tmp 79) = u79
          simp only [Act.eval, Array.getD_eq_getD_getElem?, List.getElem?_toArray, List.getElem?_cons_succ, List.getElem?_cons_zero, Option.getD_some]
          clear e4 hT hF ac
          go_wp2
          go_ret
          exact ⟨rfl, below_step (below_step hb (Nat.le_refl _) hbj) (Nat.le_refl _) hB⟩

set_option maxRecDepth 100000 in
theorem lifted (os : Os) (started : os.Started) (H : Type) (enc : TypeId × Value → H) :
    ReturnsInHanded {} Try.checked os 6 .any (Rows.extentCutsSpec.pre6 enc Try.prog Try.f6 Rows.extentCutsRow.domain false) (Rows.extentCutsSpec.post enc Try.prog Try.f6 false true false false) := by
  refine returnsInHanded_of_change (C := Try.checked) lawOwn started (by kernel_rfl) Try.func6
    (ChangeSpec.witness6 (enc := enc) (C := Try.checked) false ⟨#[], #[.slice none 0 0, .int .i64 0], []⟩ 8 (by kernel_rfl) (by kernel_rfl) (by kernel_rfl) (by kernel_rfl)) ?_
  intro W base args ds gs before hval0 hW hcnd _
  have hval : ∀ (j : Nat) t v, Try.f6.params[j]? = some t → args[j]? = some v → Value.okWide Try.prog W .any base t v := hval0
  have hW' := hW
  obtain ⟨p, q, hA0, hV, rfl, hfz, hnd⟩ := hW
  have hA : DataW.TrodAll enc Try.prog W 0 (fun _ => true) true Try.f6.params.toList args.toList ds p := hA0
  rw [Try.params6] at hA hval
  obtain ⟨v0, vs0, d0, ds0, p0, q0, hargs, rfl, rfl, h0, r0⟩ := trodAll_cons hA
  obtain ⟨v1, vs1, d1, ds1, p1, q1, rfl, rfl, rfl, h1, r1⟩ := trodAll_cons r0
  obtain ⟨rfl, rfl, rfl⟩ := trodAll_nil r1
  obtain rfl : args = #[v0, v1] := by cases args; simp_all
  obtain ⟨rfl, rfl⟩ := trodVars_none hV
  obtain ⟨a0, len0, cap0, rfl⟩ := okWide_slice Try.underlying22 (hval 0 22 v0 rfl rfl)
  obtain ⟨l0, w0⟩ := runs_of h0
  obtain ⟨a1, rfl, rfl, rfl, w1⟩ := open_int Try.underlying3 (hval 1 3 v1 rfl rfl) h1
  clear hA0 hval0 hcnd
  obtain ⟨l1, m1⟩ := i64_bounds w1
  refine (walk (w := W) _ l0 w0 a1 l1 m1).mono fun e W' ⟨he, bel⟩ => ?_
  subst he
  exact ⟨_, rfl, law_post rfl rfl (by kernel_rfl) hW' rfl bel⟩

theorem holds : Rows.ExtentCutsSaid :=
  OpenClaim.holds_of_wide 6 Try.f6 rfl rfl rfl rfl rfl rfl rfl ⟨rfl, rfl, rfl, rfl, rfl⟩ rfl rfl rfl rfl rfl (by kernel_rfl) Try.func6 (by kernel_rfl)
    (of_decide_eq_true (by kernel_rfl)) (by unfold Func.isWrapper; first | (rw [if_pos (by decide +kernel)]; kernel_rfl) | (rw [if_neg (by decide +kernel)]; exact ⟨rfl, rfl⟩))
    (fun os started H enc _ => lifted os started H enc)
end Go.Proofs.Ytlbnopfbfnobnaa.extentCuts

theorem Go.Proofs.Ytlbnopfbfnobnaa.extentCuts_holds : Go.Proofs.Ytlbnopfbfnobnaa.Rows.ExtentCutsSaid := Go.Proofs.Ytlbnopfbfnobnaa.extentCuts.holds
#print axioms Go.Proofs.Ytlbnopfbfnobnaa.extentCuts_holds
