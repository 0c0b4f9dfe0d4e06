/-
  ShardProves: each record's leaf is right with its path, in each number of first ones that has it, and the root of these. For all calls (the first 12 of them, of longer texts the first 60 bytes) and every two numbers; the numbers K of the package sha are as the program's own start lays them.
-/
import Derived.Test.YtollcdalokhjaaaDoorMShdD
namespace Go.Proofs.YtollcdalokhjaaaDoor.shardProves
open Go.ChangeShapes Go.WideShapes Go.ChangeAt Go.RowKit

set_option maxHeartbeats 12800000 in
set_option maxRecDepth 100000 in
theorem walk {w : World} (hK : KT w) (v : Value) (l : List RecR) (hv : RowR w v l) (_hl : ∀ r ∈ l, RecOk r) (a c : Int) (_ha : -9223372036854775808 ≤ a ∧ a ≤ 9223372036854775807) (_hc : -9223372036854775808 ≤ c ∧ c ≤ 9223372036854775807) :
    Calls Tryd.prog 7 #[v, .agg #[.int .i64 a, .int .i64 c]] w fun e w' => e = .returned (.bool true) ∧ Below w.heap.size w w' := by
  have HAW := Lib.hid fun u hu => awake17_any u hu
  have HGR := Lib.hid fun u hu hk => grown_any 11 v l u hu hk
  obtain ⟨m, hm⟩ : ∃ m, m = min 12 l.length := ⟨_, rfl⟩
  rw [← hm] at HGR
  have hm12 : m ≤ 12 := by omega
  obtain ⟨p, hp⟩ : ∃ p, p = w.heap.size := ⟨_, rfl⟩
  obtain ⟨W, hW⟩ : ∃ W, W = w.alloc (.cells #[.int .i64 a, .int .i64 c] 74) := ⟨_, rfl⟩
  have hb1 : Below w.heap.size w W := by rw [hW]; exact below_boxS _ _
  have hc0 : W.cell? ⟨p, 0, none⟩ = some (.int .i64 a) := by rw [hW, hp, cell_of (heap_alloc_last w _)]; rfl
  have hc1 : W.cell? ⟨p, 1, none⟩ = some (.int .i64 c) := by rw [hW, hp, cell_of (heap_alloc_last w _)]; rfl
  have hpl : p < W.heap.size := by rw [hW, hp]; simp
  have HV := Lib.hid (hv.old hb1)
  have HKW := Lib.hid (hK.old hb1)
  have HW := Lib.hid hW
  have HP := Lib.hid hp
  have HC0 := Lib.hid hc0
  have HC1 := Lib.hid hc1
  have HPL := Lib.hid hpl
  have HB1 := Lib.hid hb1
  clear hm hW hp hb1 hc0 hc1 hpl hv hK _hl _ha _hc
  go_enter Tryd.func7, Tryd.ntmps7
  go_upto_region 1 with fail
  rw [← HW.out, ← HP.out]
  clear HW HP
  go_upto_region 5 with (first
    | (go_at_call 8; (refine (HAW.out _ HKW.out).mono ?_; rintro e w1 ⟨rfl, b1⟩))
    | (go_at_call 9; (refine (HGR.out _ (HV.out.old b1) (HKW.out.old b1)).mono ?_; rintro e w2 ⟨rfl, hs2, b2⟩)))
  obtain ⟨B, hB⟩ : ∃ B, B = w1.heap.size := ⟨_, rfl⟩
  obtain ⟨X, hX⟩ : ∃ X, X = grX 11 l m := ⟨_, rfl⟩
  rw [show (11 : Int) % 1024 = 11 by decide, ← hB, ← hX] at hs2
  have hlv : X.lvs.length = m := by rw [hX]; exact gr_lvs 11 l m
  have h32 : all32 X.lvs := by rw [hX]; exact gr_all32 11 l m
  obtain ⟨W2, hW2⟩ : ∃ u, u = w2 := ⟨_, rfl⟩
  rw [← hW2, ← hB]
  rw [← hW2] at hs2 b2
  have hbW : Below W.heap.size W W2 := below_step b1 (Nat.le_refl _) b2
  have hk2 : KT W2 := HKW.out.old hbW
  have hb2 := below_step HB1.out (Nat.le_refl _) hbW
  replace HC0 := Lib.hid ((hbW.cell (p := ⟨p, 0, none⟩) HPL.out).trans HC0.out)
  replace HC1 := Lib.hid ((hbW.cell (p := ⟨p, 1, none⟩) HPL.out).trans HC1.out)
  replace HPL := Lib.hid (Nat.lt_of_lt_of_le HPL.out hbW.size)
  have HS := Lib.hid hs2
  have HCNT : Hid (∀ u, Below W2.heap.size W2 u → Calls Tryd.prog 10 #[.pointer (some ⟨B, 0, none⟩)] u fun e w' => e = .returned (.int .i64 (m : Int)) ∧ Below u.heap.size u w') := Lib.hid fun u hu => by
    have := calls_b (shCount_any (hs2.old hu))
    rwa [hlv] at this
  have HLV := Lib.hid hlv
  have H32 := Lib.hid h32
  have HK2 := Lib.hid hk2
  have HB2 := Lib.hid hb2
  clear hs2 b1 b2 hB hX hW2 hbW hlv h32 hk2 hb2 HAW HGR HV HKW HB1
  rcases Nat.eq_zero_or_pos m with h0 | h0
  · subst h0
    have HPT := Lib.hid (shPath_no HS.out 0 0 (.inl (by decide)))
    go_wp2_with (first
      | (go_at_call 10; (refine (HCNT.out _ (Below.refl _ _)).mono ?_; rintro e w3 ⟨rfl, b3⟩))
      | (go_at_call 12; (refine (shPath_no (HS.out.old b3) 0 0 (.inl (by decide))).mono ?_; rintro e w4 ⟨rfl, rfl⟩)))
    go_ret
    exact ⟨rfl, below_step HB2.out (Nat.le_refl _) b3⟩
  · have h0' : ¬ (m : Int) = 0 := by omega
    have h0b : ((m : Int) == 0) = false := by simpa using h0'
    obtain ⟨r0, hr0, hr0a, hr0b, j0, hj0, hj0e⟩ := place17 a m h0
    obtain ⟨N, hN⟩ : ∃ N, N = 1 + j0 := ⟨_, rfl⟩
    obtain ⟨r1, hr1, hr1a, hr1b, J, hJ, hJe⟩ := place17 c N (by omega)
    have hN1 : 1 ≤ N := by omega
    have hNm : N ≤ m := by omega
    have HN := Lib.hid hN
    have HR0 := Lib.hid hr0
    have HJ0 := Lib.hid hj0e
    have HR1 := Lib.hid hr1
    have HJ1 := Lib.hid hJe
    clear hr0 hj0e hr1 hJe hN
    go_upto_region 8 with (go_at_call 10; (refine (HCNT.out _ (Below.refl _ _)).mono ?_; rintro e w3 ⟨rfl, b3⟩))
    clear h0' h0b
    obtain ⟨W3, hW3⟩ : ∃ u, u = w3 := ⟨_, rfl⟩
    subst hW3
    replace HCNT : Hid (∀ u, Below W3.heap.size W3 u → Calls Tryd.prog 10 #[.pointer (some ⟨B, 0, none⟩)] u fun e w' => e = .returned (.int .i64 (m : Int)) ∧ Below u.heap.size u w') := Lib.hid fun u hu => HCNT.out u (below_step b3 (Nat.le_refl _) hu)
    replace HS := Lib.hid (HS.out.old b3)
    replace HC0 := Lib.hid ((b3.cell (p := ⟨p, 0, none⟩) HPL.out).trans HC0.out)
    replace HC1 := Lib.hid ((b3.cell (p := ⟨p, 1, none⟩) HPL.out).trans HC1.out)
    replace HPL := Lib.hid (Nat.lt_of_lt_of_le HPL.out b3.size)
    replace HK2 := Lib.hid (HK2.out.old b3)
    replace HB2 := Lib.hid (below_step HB2.out (Nat.le_refl _) b3)
    clear b3
    try simp only [Act.put]
    refine wp_region_tab [RT.is (.pointer (some ⟨p, 0, none⟩)), RT.is (.int .i64 a), RT.is (.pointer (some ⟨B, 0, none⟩)), RT.is (.int .i64 (m : Int)), RT.is (.int .i64 r0), RT.is (.pointer (some ⟨B, 0, none⟩)), RT.is (.int .i64 (m : Int)), RT.is (.int .i64 (r0 + (m : Int))), RT.is (.pointer (some ⟨B, 0, none⟩)), RT.is (.int .i64 (m : Int)), RT.is (.int .i64 (j0 : Int)), RT.is (.int .i64 (N : Int)), RT.is (.int .i64 (N : Int))] (by kernel_rfl) (by kernel_rfl) (by kernel_rfl) (by kernel_rfl) ⟨?_, ?_, ?_, ?_, ?_, ?_, ?_, ?_, ?_, ?_, ?_, ?_, ?_, trivial⟩ ?_
    · intro ac w' hF hL hP hU K hK
      have hB := below_undrew hL
      have e3 : ac.eval (.tmp 3) = .pointer (some ⟨p, 0, none⟩) := hF.at 3 (by kernel_rfl)
      exact rop_idx _ _ _ rfl e3 rfl (idx2i p 0 0 rfl (by decide) w') (wanted_none rfl) (hK _ _ (le8_refl _) rfl)
    · intro ac w' hF hL hP hU K hK
      have hB := below_undrew hL
      have e34 : ac.eval (.tmp 34) = .pointer (some ⟨p, 0, none⟩) := hP 0 (by kernel_rfl)
      exact rop_ld _ _ rfl e34 (load_intR ((hB.cell (p := ⟨p, 0, none⟩) HPL.out).trans HC0.out)) (wanted_none rfl) (hK _ _ (le8_refl _) rfl)
    · intro ac w' hF hL hP hU K hK
      have hB := below_undrew hL
      have e6 : ac.eval (.tmp 6) = .pointer (some ⟨B, 0, none⟩) := hF.at 6 (by kernel_rfl)
      exact rop_move _ rfl e6 (wanted_none rfl) (hK _ _ (le8_refl _) rfl)
    · intro ac w' hF hL hP hU K hK
      have hB := below_undrew hL
      have e36 : ac.eval (.tmp 36) = .pointer (some ⟨B, 0, none⟩) := hP 2 (by kernel_rfl)
      refine rop_call 10 _ _ rfl #[.pointer (some ⟨B, 0, none⟩)] (by simp [e36]) (by kernel_rfl) (wanted_none rfl) ?_
      refine (HCNT.out w' hB).mono ?_
      rintro e w2 ⟨rfl, hb⟩
      exact ⟨_, rfl, hK _ _ hb rfl⟩
    · intro ac w' hF hL hP hU K hK
      have hB := below_undrew hL
      have e35 : ac.eval (.tmp 35) = .int .i64 a := hP 1 (by kernel_rfl)
      have e37 : ac.eval (.tmp 37) = .int .i64 (m : Int) := hP 3 (by kernel_rfl)
      exact rop_bin _ _ _ _ _ rfl e35 e37 (guard_int _ _ _ _ _ _ _ w') (rem_iS a m r0 HR0.out (by omega) (by omega) w') (wanted_none rfl) (hK _ _ (le8_refl _) rfl)
    · intro ac w' hF hL hP hU K hK
      have hB := below_undrew hL
      have e6 : ac.eval (.tmp 6) = .pointer (some ⟨B, 0, none⟩) := hF.at 6 (by kernel_rfl)
      exact rop_move _ rfl e6 (wanted_none rfl) (hK _ _ (le8_refl _) rfl)
    · intro ac w' hF hL hP hU K hK
      have hB := below_undrew hL
      have e39 : ac.eval (.tmp 39) = .pointer (some ⟨B, 0, none⟩) := hP 5 (by kernel_rfl)
      refine rop_call 10 _ _ rfl #[.pointer (some ⟨B, 0, none⟩)] (by simp [e39]) (by kernel_rfl) (wanted_none rfl) ?_
      refine (HCNT.out w' hB).mono ?_
      rintro e w2 ⟨rfl, hb⟩
      exact ⟨_, rfl, hK _ _ hb rfl⟩
    · intro ac w' hF hL hP hU K hK
      have hB := below_undrew hL
      have e38 : ac.eval (.tmp 38) = .int .i64 r0 := hP 4 (by kernel_rfl)
      have e40 : ac.eval (.tmp 40) = .int .i64 (m : Int) := hP 6 (by kernel_rfl)
      exact rop_bin _ _ _ _ _ rfl e38 e40 (guard_int _ _ _ _ _ _ _ w') (add_iG r0 m (IntWalk.i64_in _ (by omega)) w') (wanted_none rfl) (hK _ _ (le8_refl _) rfl)
    · intro ac w' hF hL hP hU K hK
      have hB := below_undrew hL
      have e6 : ac.eval (.tmp 6) = .pointer (some ⟨B, 0, none⟩) := hF.at 6 (by kernel_rfl)
      exact rop_move _ rfl e6 (wanted_none rfl) (hK _ _ (le8_refl _) rfl)
    · intro ac w' hF hL hP hU K hK
      have hB := below_undrew hL
      have e42 : ac.eval (.tmp 42) = .pointer (some ⟨B, 0, none⟩) := hP 8 (by kernel_rfl)
      refine rop_call 10 _ _ rfl #[.pointer (some ⟨B, 0, none⟩)] (by simp [e42]) (by kernel_rfl) (wanted_none rfl) ?_
      refine (HCNT.out w' hB).mono ?_
      rintro e w2 ⟨rfl, hb⟩
      exact ⟨_, rfl, hK _ _ hb rfl⟩
    · intro ac w' hF hL hP hU K hK
      have hB := below_undrew hL
      have e41 : ac.eval (.tmp 41) = .int .i64 (r0 + (m : Int)) := hP 7 (by kernel_rfl)
      have e43 : ac.eval (.tmp 43) = .int .i64 (m : Int) := hP 9 (by kernel_rfl)
      exact rop_bin _ _ _ _ _ rfl e41 e43 (guard_int _ _ _ _ _ _ _ w') (rem_iS (r0 + (m : Int)) m j0 HJ0.out (by omega) (by omega) w') (wanted_none rfl) (hK _ _ (le8_refl _) rfl)
    · intro ac w' hF hL hP hU K hK
      have hB := below_undrew hL
      have e44 : ac.eval (.tmp 44) = .int .i64 (j0 : Int) := hP 10 (by kernel_rfl)
      exact rop_bin _ _ _ _ _ rfl rfl e44 (guard_int _ _ _ _ _ _ _ w') ((add_iG 1 j0 (IntWalk.i64_in _ (by omega)) w').trans (by rw [show (1 : Int) + (j0 : Int) = (N : Int) by rw [HN.out]; omega])) (wanted_none rfl) (hK _ _ (le8_refl _) rfl)
    · intro ac w' hF hL hP hU K hK
      have hB := below_undrew hL
      have e45 : ac.eval (.tmp 45) = .int .i64 (N : Int) := hP 11 (by kernel_rfl)
      exact rop_assign _ rfl e45 (wanted_none rfl) (hK _ _ (le8_refl _) rfl)
    · intro ac w' hF hB hT
      have e9 : ac.eval (.tmp 9) = .int .i64 (N : Int) := hT 12 (by decide)
      rw [hF.setsG [34, 35, 36, 37, 38, 39, 40, 41, 42, 43, 44, 45, 9] (by kernel_rfl)]
      simp only [List.foldl_cons, List.foldl_nil, List.setIfInBounds_toArray, List.set_cons_succ, List.set_cons_zero, e9]
      generalize ac.eval (.tmp 34) = u34
      generalize ac.eval (.tmp 35) = u35
      generalize ac.eval (.tmp 36) = u36
      generalize ac.eval (.tmp 37) = u37
      generalize ac.eval (.tmp 38) = u38
      generalize ac.eval (.tmp 39) = u39
      generalize ac.eval (.tmp 40) = u40
      generalize ac.eval (.tmp 41) = u41
      generalize ac.eval (.tmp 42) = u42
      generalize ac.eval (.tmp 43) = u43
      generalize ac.eval (.tmp 44) = u44
      generalize ac.eval (.tmp 45) = u45
      clear e9 hT hF ac
      obtain ⟨W8, hW8⟩ : ∃ u, u = w' := ⟨_, rfl⟩
      subst hW8
      have HC8 := Lib.hid ((hB.cell (p := ⟨p, 1, none⟩) HPL.out).trans HC1.out)
      have HPL8 := Lib.hid (Nat.lt_of_lt_of_le HPL.out hB.size)
      replace HS := Lib.hid (HS.out.old hB)
      replace HK2 := Lib.hid (HK2.out.old hB)
      replace HB2 := Lib.hid (below_step HB2.out (Nat.le_refl _) hB)
      clear hB HC0 HC1 HPL HCNT
      go_upto_region 9 with fail
      try simp only [Act.put]
      refine wp_region_tab0 [RT.is (.pointer (some ⟨p, 1, none⟩)), RT.is (.int .i64 c), RT.is (.int .i64 (N : Int)), RT.is (.int .i64 r1), RT.is (.int .i64 (N : Int)), RT.is (.int .i64 (r1 + (N : Int))), RT.is (.int .i64 (N : Int)), RT.is (.int .i64 (J : Int)), RT.is (.int .i64 (J : Int))] (by kernel_rfl) (by kernel_rfl) (by kernel_rfl) ⟨?_, ?_, ?_, ?_, ?_, ?_, ?_, ?_, ?_, trivial⟩ ?_
      · intro ac w' hF hL hP hU K hK
        have hB : Below _ _ _ := hL
        have e3 : ac.eval (.tmp 3) = .pointer (some ⟨p, 0, none⟩) := hF.at 3 (by kernel_rfl)
        exact rop_idx _ _ _ rfl e3 rfl (idx2i p 1 1 rfl (by decide) w') (wanted_none rfl) (hK _ _ (le8_refl _) rfl)
      · intro ac w' hF hL hP hU K hK
        have hB : Below _ _ _ := hL
        have e46 : ac.eval (.tmp 46) = .pointer (some ⟨p, 1, none⟩) := hP 0 (by kernel_rfl)
        exact rop_ld _ _ rfl e46 (load_intR ((hB.cell (p := ⟨p, 1, none⟩) HPL8.out).trans HC8.out)) (wanted_none rfl) (hK _ _ (le8_refl _) rfl)
      · intro ac w' hF hL hP hU K hK
        have hB : Below _ _ _ := hL
        have e9 : ac.eval (.tmp 9) = .int .i64 (N : Int) := hF.at 9 (by kernel_rfl)
        exact rop_move _ rfl e9 (wanted_none rfl) (hK _ _ (le8_refl _) rfl)
      · intro ac w' hF hL hP hU K hK
        have hB : Below _ _ _ := hL
        have e47 : ac.eval (.tmp 47) = .int .i64 c := hP 1 (by kernel_rfl)
        have e48 : ac.eval (.tmp 48) = .int .i64 (N : Int) := hP 2 (by kernel_rfl)
        exact rop_bin _ _ _ _ _ rfl e47 e48 (guard_int _ _ _ _ _ _ _ w') (rem_iS c N r1 HR1.out (by omega) (by omega) w') (wanted_none rfl) (hK _ _ (le8_refl _) rfl)
      · intro ac w' hF hL hP hU K hK
        have hB : Below _ _ _ := hL
        have e9 : ac.eval (.tmp 9) = .int .i64 (N : Int) := hF.at 9 (by kernel_rfl)
        exact rop_move _ rfl e9 (wanted_none rfl) (hK _ _ (le8_refl _) rfl)
      · intro ac w' hF hL hP hU K hK
        have hB : Below _ _ _ := hL
        have e49 : ac.eval (.tmp 49) = .int .i64 r1 := hP 3 (by kernel_rfl)
        have e50 : ac.eval (.tmp 50) = .int .i64 (N : Int) := hP 4 (by kernel_rfl)
        exact rop_bin _ _ _ _ _ rfl e49 e50 (guard_int _ _ _ _ _ _ _ w') (add_iG r1 N (IntWalk.i64_in _ (by omega)) w') (wanted_none rfl) (hK _ _ (le8_refl _) rfl)
      · intro ac w' hF hL hP hU K hK
        have hB : Below _ _ _ := hL
        have e9 : ac.eval (.tmp 9) = .int .i64 (N : Int) := hF.at 9 (by kernel_rfl)
        exact rop_move _ rfl e9 (wanted_none rfl) (hK _ _ (le8_refl _) rfl)
      · intro ac w' hF hL hP hU K hK
        have hB : Below _ _ _ := hL
        have e51 : ac.eval (.tmp 51) = .int .i64 (r1 + (N : Int)) := hP 5 (by kernel_rfl)
        have e52 : ac.eval (.tmp 52) = .int .i64 (N : Int) := hP 6 (by kernel_rfl)
        exact rop_bin _ _ _ _ _ rfl e51 e52 (guard_int _ _ _ _ _ _ _ w') (rem_iS (r1 + (N : Int)) N J HJ1.out (by omega) (by omega) w') (wanted_none rfl) (hK _ _ (le8_refl _) rfl)
      · intro ac w' hF hL hP hU K hK
        have hB : Below _ _ _ := hL
        have e53 : ac.eval (.tmp 53) = .int .i64 (J : Int) := hP 7 (by kernel_rfl)
        exact rop_assign _ rfl e53 (wanted_none rfl) (hK _ _ (le8_refl _) rfl)
      · intro ac w' hF hB hT
        have e10 : ac.eval (.tmp 10) = .int .i64 (J : Int) := hT 8 (by decide)
        rw [hF.setsG [46, 47, 48, 49, 50, 51, 52, 53, 10] (by kernel_rfl)]
        simp only [List.foldl_cons, List.foldl_nil, List.setIfInBounds_toArray, List.set_cons_succ, List.set_cons_zero, e10]
        generalize ac.eval (.tmp 46) = u46
        generalize ac.eval (.tmp 47) = u47
        generalize ac.eval (.tmp 48) = u48
        generalize ac.eval (.tmp 49) = u49
        generalize ac.eval (.tmp 50) = u50
        generalize ac.eval (.tmp 51) = u51
        generalize ac.eval (.tmp 52) = u52
        generalize ac.eval (.tmp 53) = u53
        clear e10 hT hF ac
        obtain ⟨W9, hW9⟩ : ∃ u, u = w' := ⟨_, rfl⟩
        subst hW9
        replace HS := Lib.hid (HS.out.old hB)
        replace HK2 := Lib.hid (HK2.out.old hB)
        replace HB2 := Lib.hid (below_step HB2.out (Nat.le_refl _) hB)
        clear hB HC8 HPL8
        obtain ⟨x0, hx0⟩ : ∃ x0, X.lvs[J]? = some x0 := ⟨_, List.getElem?_eq_getElem (by rw [HLV.out]; omega)⟩
        have hx32 : x0.length = 32 := H32.out x0 (List.mem_of_getElem? hx0)
        have hx0t : (X.lvs.take N)[J]? = some x0 := by rw [List.getElem?_take, if_pos hJ]; exact hx0
        have htl : (X.lvs.take N).length = N := by rw [List.length_take, HLV.out]; omega
        obtain ⟨k, hk⟩ : ∃ k, k = Tree.long J N := ⟨_, rfl⟩
        have hk5 : k ≤ 5 := by rw [hk]; exact long_lt J N (by omega)
        have okp : okP (J : Int) (N : Int) = true := by simp [okP]; omega
        obtain ⟨P, hP⟩ : ∃ P, P = Tree.path (X.lvs.take N) J := ⟨_, rfl⟩
        obtain ⟨D, hD⟩ : ∃ D, D = Tree.root (X.lvs.take N) := ⟨_, rfl⟩
        have hDl : D.length = 32 := by rw [hD]; exact Tree.root_length _ (H32.out.take N)
        have hPl : P.length = k := by rw [hP, Tree.path_length _ _ _ (Nat.le_refl _), htl, ← hk]
        have hfold : foldZ x0 (J : Int) (N : Int) P = (D, true) := by
          have e1 : foldLen (J : Int) (N : Int) P = true := by
            rw [foldLen_eq, if_pos okp, hPl, hk]
            simp
          unfold foldZ
          rw [e1, if_pos rfl]
          have e2 : turnsZ (J : Int) (N : Int) = Tree.turns J N := by unfold turnsZ; rw [if_pos okp]; rfl
          have e3 := Tree.path_folds _ (X.lvs.take N) J x0 hx0t (Nat.le_refl _)
          rw [htl] at e3
          rw [e2, hP, e3, hD]
        have HPA := Lib.hid (shPath_ok HS.out (J : Int) N (by omega) (by rw [HLV.out]; omega) ⟨by omega, by omega⟩ HK2.out)
        rw [Int.toNat_natCast, ← hP] at HPA
        have HPN : Hid (∀ u, Below W9.heap.size W9 u → Calls Tryd.prog 12 #[.pointer (some ⟨B, 0, none⟩), .int .i64 (N : Int), .int .i64 (N : Int)] u fun e w' => e = .returned (.tuple #[.slice none 0 0, .int .i64 19]) ∧ Below u.heap.size u w') := Lib.hid fun u hu => shPath_none (HS.out.old hu) (N : Int) N (by omega) (by rw [HLV.out]; omega) (by omega) (HK2.out.old hu)
        have HLE : Hid (∀ u, Below W9.heap.size W9 u → Calls Tryd.prog 11 #[.pointer (some ⟨B, 0, none⟩)] u fun e w' => ∃ g o lc, e = .returned (.slice (some ⟨g, o, none⟩) m lc) ∧ Sums w' (.slice (some ⟨g, o, none⟩) m lc) X.lvs ∧ Below u.heap.size u w') := Lib.hid fun u hu => by
          refine (shLeaves_any (HS.out.old hu)).mono fun e w' ⟨v', he, ho, hb⟩ => ?_
          obtain ⟨va, vc, rfl, -, -⟩ := ho.sums.slice
          have hs := ho.sums
          rw [HLV.out] at hs he
          obtain ⟨g, o, rfl, -⟩ := hs.at0 hx0
          exact ⟨g, o, vc, he, hs, hb⟩
        have HX0 := Lib.hid hx32
        have HX0E := Lib.hid hx0
        have HDL := Lib.hid hDl
        have HD := Lib.hid hD
        have HPL := Lib.hid hPl
        have HFO := Lib.hid hfold
        have HTL := Lib.hid htl
        clear hx0 hx32 hx0t htl hk okp hP hD hDl hPl hfold
        go_upto_region 11 with (go_at_call 12; (refine HPA.out.mono ?_; rintro e w10 ⟨v10, rfl, ho10, b10⟩; obtain ⟨ap, cp, rfl, -, -⟩ := ho10.sums.slice; have hs10 := Lib.hid (HPL.out ▸ ho10.sums); clear ho10; rw [HPL.out]))
        go_upto_region 13 with (first
          | (go_at_call 12; (refine (HPN.out _ b10).mono ?_; rintro e w11 ⟨rfl, b11⟩))
          | (go_at_call 11; (refine (HLE.out _ (below_step b10 (Nat.le_refl _) b11)).mono ?_; rintro e w12 ⟨g, o, lc, rfl, hl12, b12⟩)))
        obtain ⟨W12, hW12⟩ : ∃ u, u = w12 := ⟨_, rfl⟩
        subst hW12
        have hs12 := (hs10.out.old b11).old b12
        obtain ⟨g2, o2, e2, hgl, -, hrx⟩ := hl12.at0 HX0E.out
        injection e2 with e2
        injection e2 with e3 e4 _
        subst e3 e4
        have hNC : N ≤ lc := by have := hl12.len.2.1; rw [HLV.out] at this; omega
        have HRT : Hid (∀ u, Below W12.heap.size W12 u → Calls Tryd.prog 18 #[.slice (some ⟨g, o, none⟩) N lc] u fun e w' => e = .returned (sumV D) ∧ Below u.heap.size u w') := Lib.hid fun u hu => by
          rw [HD.out]
          exact rleafRoot_any _ _ _ u rfl (by rw [HTL.out]; omega) ((hl12.old hu).head N (by rw [HLV.out]; omega))
        have HRI : Hid (∀ u, Below W12.heap.size W12 u → Calls Tryd.prog 14 #[sumV D, sumV x0, .int .i64 (J : Int), .int .i64 (N : Int), .slice ap k cp] u fun e w' => e = .returned (.bool true) ∧ Below u.heap.size u w') := Lib.hid fun u hu => by
          have := rRight_any D x0 HDL.out HX0.out (J : Int) (N : Int) (by omega) (by omega) _ P u (hs12.old hu) (by rw [HPL.out]; omega)
          rw [HFO.out] at this
          simpa using this
        have HNC := Lib.hid hNC
        have HGL := Lib.hid hgl
        have HRX := Lib.hid hrx
        have HB12 := Lib.hid (below_step HB2.out (Nat.le_refl _) (below_step (below_step b10 (Nat.le_refl _) b11) (Nat.le_refl _) b12))
        clear hs10 b10 b11 b12 hl12 hs12 hgl hrx hNC HPA HPN HLE
        try simp only [Act.put]
        refine wp_region_tab [RT.is (.bool true), RT.is (.bool true), RT.is (.int .i64 0), RT.is (.bool true), RT.is (.bool true), RT.is (.bool true), RT.is (.int .i64 19), RT.is (.bool true), RT.is (.bool true), RT.is (.bool true), RT.is (.slice (some ⟨g, o, none⟩) m lc), RT.is (.int .i64 (N : Int)), RT.is (.slice (some ⟨g, o, none⟩) N lc), RT.is (sumV D), RT.is (.slice (some ⟨g, o, none⟩) m lc), RT.is (.int .i64 (J : Int)), RT.is (.pointer (some ⟨g, o + J * 32, none⟩)), RT.is (sumV x0), RT.is (.int .i64 (J : Int)), RT.is (.int .i64 (N : Int)), RT.is (.slice ap k cp), RT.is (.bool true), RT.is (.bool true), RT.is (.bool true)] (by kernel_rfl) (by kernel_rfl) (by kernel_rfl) (by kernel_rfl) ⟨?_, ?_, ?_, ?_, ?_, ?_, ?_, ?_, ?_, ?_, ?_, ?_, ?_, ?_, ?_, ?_, ?_, ?_, ?_, ?_, ?_, ?_, ?_, ?_, trivial⟩ ?_
        · intro ac w' hF hL hP hU K hK
          have hB := below_undrew hL
          have e5 : ac.eval (.tmp 5) = .bool true := hF.at 5 (by kernel_rfl)
          exact rop_move _ rfl e5 (wanted_none rfl) (hK _ _ (le8_refl _) rfl)
        · intro ac w' hF hL hP hU K hK
          have hB := below_undrew hL
          have e70 : ac.eval (.tmp 70) = .bool true := hP 0 (by kernel_rfl)
          exact rop_move _ rfl e70 (wanted_none rfl) (hK _ _ (le8_refl _) rfl)
        · intro ac w' hF hL hP hU K hK
          have hB := below_undrew hL
          have e12 : ac.eval (.tmp 12) = .int .i64 0 := hF.at 12 (by kernel_rfl)
          have e71 : ac.eval (.tmp 71) = .bool true := hP 1 (by kernel_rfl)
          exact rop_move _ rfl e12 (wanted_of (j := 1) (b := true) rfl rfl e71) (hK _ _ (le8_refl _) rfl)
        · intro ac w' hF hL hP hU K hK
          have hB := below_undrew hL
          have e72 : ac.eval (.tmp 72) = .int .i64 0 := hP 2 (by kernel_rfl)
          have e71 : ac.eval (.tmp 71) = .bool true := hP 1 (by kernel_rfl)
          exact rop_bin _ _ _ _ _ rfl e72 rfl (guard_int _ _ _ _ _ _ _ w') (eql_errS 0 w') (wanted_of (j := 1) (b := true) rfl rfl e71) (hK _ _ (le8_refl _) rfl)
        · intro ac w' hF hL hP hU K hK
          have hB := below_undrew hL
          have e71 : ac.eval (.tmp 71) = .bool true := hP 1 (by kernel_rfl)
          have e73 : ac.eval (.tmp 73) = .bool true := hP 3 (by kernel_rfl)
          exact rop_pick _ _ _ rfl true e71 (by simpa using e73) (wanted_none rfl) (hK _ _ (le8_refl _) rfl)
        · intro ac w' hF hL hP hU K hK
          have hB := below_undrew hL
          have e74 : ac.eval (.tmp 74) = .bool true := hP 4 (by kernel_rfl)
          exact rop_move _ rfl e74 (wanted_none rfl) (hK _ _ (le8_refl _) rfl)
        · intro ac w' hF hL hP hU K hK
          have hB := below_undrew hL
          have e14 : ac.eval (.tmp 14) = .int .i64 19 := hF.at 14 (by kernel_rfl)
          have e75 : ac.eval (.tmp 75) = .bool true := hP 5 (by kernel_rfl)
          exact rop_move _ rfl e14 (wanted_of (j := 5) (b := true) rfl rfl e75) (hK _ _ (le8_refl _) rfl)
        · intro ac w' hF hL hP hU K hK
          have hB := below_undrew hL
          have e76 : ac.eval (.tmp 76) = .int .i64 19 := hP 6 (by kernel_rfl)
          have e75 : ac.eval (.tmp 75) = .bool true := hP 5 (by kernel_rfl)
          exact rop_bin _ _ _ _ _ rfl e76 rfl (guard_int _ _ _ _ _ _ _ w') (eql_errS 19 w') (wanted_of (j := 5) (b := true) rfl rfl e75) (hK _ _ (le8_refl _) rfl)
        · intro ac w' hF hL hP hU K hK
          have hB := below_undrew hL
          have e75 : ac.eval (.tmp 75) = .bool true := hP 5 (by kernel_rfl)
          have e77 : ac.eval (.tmp 77) = .bool true := hP 7 (by kernel_rfl)
          exact rop_pick _ _ _ rfl true e75 (by simpa using e77) (wanted_none rfl) (hK _ _ (le8_refl _) rfl)
        · intro ac w' hF hL hP hU K hK
          have hB := below_undrew hL
          have e78 : ac.eval (.tmp 78) = .bool true := hP 8 (by kernel_rfl)
          exact rop_move _ rfl e78 (wanted_none rfl) (hK _ _ (le8_refl _) rfl)
        · intro ac w' hF hL hP hU K hK
          have hB := below_undrew hL
          have e15 : ac.eval (.tmp 15) = .slice (some ⟨g, o, none⟩) m lc := hF.at 15 (by kernel_rfl)
          have e79 : ac.eval (.tmp 79) = .bool true := hP 9 (by kernel_rfl)
          exact rop_move _ rfl e15 (wanted_of (j := 9) (b := true) rfl rfl e79) (hK _ _ (le8_refl _) rfl)
        · intro ac w' hF hL hP hU K hK
          have hB := below_undrew hL
          have e9 : ac.eval (.tmp 9) = .int .i64 (N : Int) := hF.at 9 (by kernel_rfl)
          have e79 : ac.eval (.tmp 79) = .bool true := hP 9 (by kernel_rfl)
          exact rop_move _ rfl e9 (wanted_of (j := 9) (b := true) rfl rfl e79) (hK _ _ (le8_refl _) rfl)
        · intro ac w' hF hL hP hU K hK
          have hB := below_undrew hL
          have e80 : ac.eval (.tmp 80) = .slice (some ⟨g, o, none⟩) m lc := hP 10 (by kernel_rfl)
          have e81 : ac.eval (.tmp 81) = .int .i64 (N : Int) := hP 11 (by kernel_rfl)
          have e79 : ac.eval (.tmp 79) = .bool true := hP 9 (by kernel_rfl)
          exact rop_sliceG _ _ _ _ _ rfl e80 rfl (by simp [e81]) rfl (scut_h (some ⟨g, o, none⟩) m lc N HNC.out w') (wanted_of (j := 9) (b := true) rfl rfl e79) (hK _ _ (le8_refl _) rfl)
        · intro ac w' hF hL hP hU K hK
          have hB := below_undrew hL
          have e82 : ac.eval (.tmp 82) = .slice (some ⟨g, o, none⟩) N lc := hP 12 (by kernel_rfl)
          have e79 : ac.eval (.tmp 79) = .bool true := hP 9 (by kernel_rfl)
          refine rop_call 18 _ _ rfl #[.slice (some ⟨g, o, none⟩) N lc] (by simp [e82]) (by kernel_rfl) (wanted_of (j := 9) (b := true) rfl rfl e79) ?_
          refine (HRT.out w' hB).mono ?_
          rintro e w2 ⟨rfl, hb⟩
          exact ⟨_, rfl, hK _ _ hb rfl⟩
        · intro ac w' hF hL hP hU K hK
          have hB := below_undrew hL
          have e15 : ac.eval (.tmp 15) = .slice (some ⟨g, o, none⟩) m lc := hF.at 15 (by kernel_rfl)
          have e79 : ac.eval (.tmp 79) = .bool true := hP 9 (by kernel_rfl)
          exact rop_move _ rfl e15 (wanted_of (j := 9) (b := true) rfl rfl e79) (hK _ _ (le8_refl _) rfl)
        · intro ac w' hF hL hP hU K hK
          have hB := below_undrew hL
          have e10 : ac.eval (.tmp 10) = .int .i64 (J : Int) := hF.at 10 (by kernel_rfl)
          have e79 : ac.eval (.tmp 79) = .bool true := hP 9 (by kernel_rfl)
          exact rop_move _ rfl e10 (wanted_of (j := 9) (b := true) rfl rfl e79) (hK _ _ (le8_refl _) rfl)
        · intro ac w' hF hL hP hU K hK
          have hB := below_undrew hL
          have e84 : ac.eval (.tmp 84) = .slice (some ⟨g, o, none⟩) m lc := hP 14 (by kernel_rfl)
          have e85 : ac.eval (.tmp 85) = .int .i64 (J : Int) := hP 15 (by kernel_rfl)
          have e79 : ac.eval (.tmp 79) = .bool true := hP 9 (by kernel_rfl)
          exact rop_idx _ _ _ rfl e84 e85 (index_sums g o m lc J (by omega) w') (wanted_of (j := 9) (b := true) rfl rfl e79) (hK _ _ (le8_refl _) rfl)
        · intro ac w' hF hL hP hU K hK
          have hB := below_undrew hL
          have e86 : ac.eval (.tmp 86) = .pointer (some ⟨g, o + J * 32, none⟩) := hP 16 (by kernel_rfl)
          have e79 : ac.eval (.tmp 79) = .bool true := hP 9 (by kernel_rfl)
          exact rop_ld _ _ rfl e86 (load_sumP HX0.out (below_range hB HGL.out HRX.out)) (wanted_of (j := 9) (b := true) rfl rfl e79) (hK _ _ (le8_refl _) rfl)
        · intro ac w' hF hL hP hU K hK
          have hB := below_undrew hL
          have e10 : ac.eval (.tmp 10) = .int .i64 (J : Int) := hF.at 10 (by kernel_rfl)
          have e79 : ac.eval (.tmp 79) = .bool true := hP 9 (by kernel_rfl)
          exact rop_move _ rfl e10 (wanted_of (j := 9) (b := true) rfl rfl e79) (hK _ _ (le8_refl _) rfl)
        · intro ac w' hF hL hP hU K hK
          have hB := below_undrew hL
          have e9 : ac.eval (.tmp 9) = .int .i64 (N : Int) := hF.at 9 (by kernel_rfl)
          have e79 : ac.eval (.tmp 79) = .bool true := hP 9 (by kernel_rfl)
          exact rop_move _ rfl e9 (wanted_of (j := 9) (b := true) rfl rfl e79) (hK _ _ (le8_refl _) rfl)
        · intro ac w' hF hL hP hU K hK
          have hB := below_undrew hL
          have e11 : ac.eval (.tmp 11) = .slice ap k cp := hF.at 11 (by kernel_rfl)
          have e79 : ac.eval (.tmp 79) = .bool true := hP 9 (by kernel_rfl)
          exact rop_move _ rfl e11 (wanted_of (j := 9) (b := true) rfl rfl e79) (hK _ _ (le8_refl _) rfl)
        · intro ac w' hF hL hP hU K hK
          have hB := below_undrew hL
          have e83 : ac.eval (.tmp 83) = sumV D := hP 13 (by kernel_rfl)
          have e87 : ac.eval (.tmp 87) = sumV x0 := hP 17 (by kernel_rfl)
          have e88 : ac.eval (.tmp 88) = .int .i64 (J : Int) := hP 18 (by kernel_rfl)
          have e89 : ac.eval (.tmp 89) = .int .i64 (N : Int) := hP 19 (by kernel_rfl)
          have e90 : ac.eval (.tmp 90) = .slice ap k cp := hP 20 (by kernel_rfl)
          have e79 : ac.eval (.tmp 79) = .bool true := hP 9 (by kernel_rfl)
          refine rop_call 14 _ _ rfl #[sumV D, sumV x0, .int .i64 (J : Int), .int .i64 (N : Int), .slice ap k cp] (by simp [e83, e87, e88, e89, e90]) (by kernel_rfl) (wanted_of (j := 9) (b := true) rfl rfl e79) ?_
          refine (HRI.out w' hB).mono ?_
          rintro e w2 ⟨rfl, hb⟩
          exact ⟨_, rfl, hK _ _ hb rfl⟩
        · intro ac w' hF hL hP hU K hK
          have hB := below_undrew hL
          have e79 : ac.eval (.tmp 79) = .bool true := hP 9 (by kernel_rfl)
          have e91 : ac.eval (.tmp 91) = .bool true := hP 21 (by kernel_rfl)
          exact rop_pick _ _ _ rfl true e79 (by simpa using e91) (wanted_none rfl) (hK _ _ (le8_refl _) rfl)
        · intro ac w' hF hL hP hU K hK
          have hB := below_undrew hL
          have e92 : ac.eval (.tmp 92) = .bool true := hP 22 (by kernel_rfl)
          exact rop_assign _ rfl e92 (wanted_none rfl) (hK _ _ (le8_refl _) rfl)
        · intro ac w' hF hB hT
          have e4 : ac.eval (.tmp 4) = .bool true := hT 23 (by decide)
          rw [hF.setsG [70, 71, 72, 73, 74, 75, 76, 77, 78, 79, 80, 81, 82, 83, 84, 85, 86, 87, 88, 89, 90, 91, 92, 4] (by kernel_rfl)]
          simp only [List.foldl_cons, List.foldl_nil, List.setIfInBounds_toArray, List.set_cons_succ, List.set_cons_zero, e4]
          generalize ac.eval (.tmp 70) = u70
          generalize ac.eval (.tmp 71) = u71
          generalize ac.eval (.tmp 72) = u72
          generalize ac.eval (.tmp 73) = u73
          generalize ac.eval (.tmp 74) = u74
          generalize ac.eval (.tmp 75) = u75
          generalize ac.eval (.tmp 76) = u76
          generalize ac.eval (.tmp 77) = u77
          generalize ac.eval (.tmp 78) = u78
          generalize ac.eval (.tmp 79) = u79
          generalize ac.eval (.tmp 80) = u80
          generalize ac.eval (.tmp 81) = u81
          generalize ac.eval (.tmp 82) = u82
          generalize ac.eval (.tmp 83) = u83
          generalize ac.eval (.tmp 84) = u84
          generalize ac.eval (.tmp 85) = u85
          generalize ac.eval (.tmp 86) = u86
          generalize ac.eval (.tmp 87) = u87
          generalize ac.eval (.tmp 88) = u88
          generalize ac.eval (.tmp 89) = u89
          generalize ac.eval (.tmp 90) = u90
          generalize ac.eval (.tmp 91) = u91
          generalize ac.eval (.tmp 92) = u92
          clear e4 hT hF ac
          have HF := Lib.hid (below_step HB12.out (Nat.le_refl _) hB)
          clear hB
          go_wp2
          go_ret
          exact ⟨rfl, HF.out⟩
set_option maxRecDepth 100000 in
theorem lifted (os : Os) (started : os.Started) (H : Type) (enc : TypeId × Value → H) :
    ReturnsInHanded {} Tryd.checked os 7 .any (fun w args => (Rows.shardProvesSpec.pre enc Tryd.prog Tryd.f7 [] false w args ∧ laidMetH Tryd.prog [("scrinium/sha.k", Rows.laid_scrinium_sha_k)] w) ∧ sizedMet enc Tryd.prog Tryd.f7 (OpenSpec.ofChange Rows.shardProvesSpec) false w args)
      (Rows.shardProvesSpec.post enc Tryd.prog Tryd.f7 false true false false) := by
  refine returnsInHanded_of_change_and (C := Tryd.checked) (X := fun w _ => laidMetH Tryd.prog [("scrinium/sha.k", Rows.laid_scrinium_sha_k)] w) (fun _ _ _ hh h => h.of_heap hh) lawOwn started (by kernel_rfl) Tryd.func7
    (ChangeSpec.witness_shaped (enc := enc) (C := Tryd.checked) (os := os) (X := fun w _ => laidMetH Tryd.prog [("scrinium/sha.k", Rows.laid_scrinium_sha_k)] w) false (World.doorLaid Tryd.prog 400 os) #[.slice none 0 0, .agg #[.int .i64 0, .int .i64 0]] 8 rfl (World.shaped_of_RefB (by kernel_rfl) (by kernel_rfl)) (by kernel_rfl) (by kernel_rfl) (by kernel_rfl) (door_met os _)) ?_
  intro W base args ds gs before hval0 hW _ _ hL _
  have hval : ∀ (j : Nat) t v, Tryd.f7.params[j]? = some t → args[j]? = some v → Value.okWide Tryd.prog W .any base t v := hval0
  have hW' := hW
  obtain ⟨p, q, hA0, hV, rfl, hfz, hnd⟩ := hW
  have hA : DataW.TrodAll enc Tryd.prog W 0 (fun _ => true) true Tryd.f7.params.toList args.toList ds p := hA0
  rw [Tryd.params7] at hA hval
  obtain ⟨v0, vs0, d0, ds0, p0, q0, hargs, rfl, rfl, h0, r0⟩ := trodAll_cons hA
  obtain ⟨v1, vs1, d1, ds1, p1, q1, rfl, rfl, rfl, h1, r1⟩ := trodAll_cons r0
  obtain ⟨rfl, rfl, rfl⟩ := trodAll_nil r1
  obtain rfl : args = #[v0, v1] := by cases args; simp_all
  obtain ⟨rfl, rfl⟩ := trodVars_none hV
  have hKT := KT_of_laid hL
  obtain ⟨a0, len0, cap0, rfl⟩ := okWide_slice Tryd.underlying22 (hval 0 22 v0 rfl rfl)
  obtain ⟨l0, w0, k0⟩ := ops17_of h0
  obtain ⟨z1, y1, rfl, w1, w1b⟩ := ints2_argP (hval 1 74 v1 rfl rfl) h1
  clear hA0 hval0
  refine (walk (w := W) hKT _ l0 w0 k0 z1 y1 w1 w1b).mono fun e W' ⟨he, bel⟩ => ?_
  subst he
  exact ⟨_, rfl, law_post rfl rfl (by kernel_rfl) hW' rfl bel⟩

theorem row_holds : Rows.ShardProvesSaid :=
  OpenClaim.holds_of_wide 7 Tryd.f7 rfl rfl rfl rfl rfl rfl rfl ⟨rfl, rfl, rfl, rfl, rfl⟩ rfl rfl rfl rfl rfl (by kernel_rfl) Tryd.func7 (by kernel_rfl)
    (of_decide_eq_true (by kernel_rfl)) (by unfold Func.isWrapper; first | (rw [if_pos (by decide +kernel)]; kernel_rfl) | (rw [if_neg (by decide +kernel)]; exact ⟨rfl, rfl⟩))
    (fun os started H enc _ => lifted os started H enc)

theorem holds : Rows.ShardProvesCardSaid :=
  Claim7.holds_tied_plain_at .later [] [.data] true Rows.shardProvesCard.stood.harness false
    row_holds (fun _ h => by cases h) (by kernel_rfl) (fun _ h => by cases h) shardProves_row_tie rfl ⟨rfl, rfl⟩ (by kernel_rfl) rfl
    (fun f fn hf hfn => by
      obtain rfl : f = 7 := Option.some.inj ((show Tryd.prog.funcNamed "scrinium/scriniumlaw17.ShardProves" = some 7 by kernel_rfl).symm.trans hf) |>.symm
      obtain rfl : fn = Tryd.f7 := (Option.some.inj (Tryd.func7.symm.trans hfn)).symm
      exact ⟨by kernel_rfl, fun j t ht => by
        rw [Tryd.params7] at ht
        have hm : t ∈ [22, 74] := by simpa using Array.mem_of_getElem? ht
        have hall : ([22, 74].all fun u => !Tryd.prog.wantsStandIn u) = true := by kernel_rfl
        exact (show Tryd.prog.wantsStandIn t = false by simpa using List.all_eq_true.1 hall t hm)⟩)
    (by kernel_rfl)
end Go.Proofs.YtollcdalokhjaaaDoor.shardProves

theorem Go.Proofs.YtollcdalokhjaaaDoor.shardProves_holds : Go.Proofs.YtollcdalokhjaaaDoor.Rows.ShardProvesCardSaid := Go.Proofs.YtollcdalokhjaaaDoor.shardProves.holds
#print axioms Go.Proofs.YtollcdalokhjaaaDoor.shardProves_holds
