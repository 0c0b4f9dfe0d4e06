/-
  LeafCounts: each row has half as many hashes as the one ahead, rounded up, down to one. For all hashes (the first 20 of them); the numbers K of the package sha are as the program's own start lays them.
-/
import Derived.Test.YtldknddgcbhllaaDoorLeafLaw
namespace Go.Proofs.YtldknddgcbhllaaDoor.leafCounts
open Go.ChangeShapes Go.WideShapes Go.ChangeAt Go.RowKit

/-- Ahead of row i. -/
def CRel (L : List Hs) (s6 s7 : Value) : Prop :=
  ∃ i n : Nat, s7 = .int .i64 (i : Int) ∧ s6 = .int .i64 (n : Int) ∧ i ≤ L.length ∧ n ≤ 20 ∧ (i < L.length → ∃ cur : Hs, L.drop i = Tree.levels cur ∧ n = cur.length)
set_option maxHeartbeats 4000000 in
set_option maxRecDepth 100000 in
theorem walk {w : World} (hK : KT w) (v : Value) (l : Hs) (hv : Sums w v l) :
    Calls Tryd.prog 8 #[v] w fun e w' => e = .returned (.bool true) ∧ Below w.heap.size w w' := by
  have HAW := Lib.hid (awake9_any w hK)
  have HV := Lib.hid hv
  have HKW := Lib.hid hK
  obtain ⟨m, hm⟩ : ∃ m : Hs, m = l.take 20 := ⟨_, rfl⟩
  have hml : m.length ≤ 20 := by rw [hm, List.length_take]; omega
  have Hm := Lib.hid hm
  clear hm hv hK
  go_enter Tryd.func8, Tryd.ntmps8
  go_upto_region 4 with (first
    | (go_at_call 10; ((with_reducible refine HAW.out.mono ?_); rintro e w1 ⟨rfl, b1⟩))
    | (go_at_call 17; refine (few9_any _ l _ (HV.out.old b1)).mono ?_; rintro e w2 ⟨v6, rfl, h6, rfl⟩; rw [← Hm.out] at h6)
    | (go_at_call 22; refine (levels_any v6 m _ h6.1 (HKW.out.old b1) (by omega)).mono ?_; rintro e w3 ⟨v7, vs, rfl, hR, b3⟩))
  have hne : 0 < vs.length := by rw [hR.len]; exact List.length_pos_iff.2 (Tree.levels_ne m)
  obtain ⟨g, cap, rfl, -, hg, hcell⟩ := hR.open_ hne
  obtain ⟨a6, c6, rfl, _, _⟩ := h6.1.slice
  have bw := below_step b1 (Nat.le_refl _) b3
  obtain ⟨L, hL⟩ : ∃ L, L = Tree.levels m := ⟨_, rfl⟩
  rw [← hL] at hR
  have HL := Lib.hid hL
  have hlen := hR.len
  obtain ⟨N, hN⟩ : ∃ N, N = vs.length := ⟨_, rfl⟩
  have HN : Hid (N = L.length) := Lib.hid (hN.trans hlen)
  have HN63 : Hid (N ≤ 9223372036854775800) := Lib.hid (by rw [HN.out, HL.out]; exact levels_few m hml)
  rw [← hN] at hne ⊢
  have HRR := Lib.hid hR
  have HC := Lib.hid hcell
  have Hh6 := Lib.hid h6
  have Hb3 := Lib.hid b3
  clear hL hlen hN hR hcell h6 b3 b1
  go_wp2
  go_loopw [6, 7] (fun s6 s7 wr => CRel L s6 s7 ∧ Below w3.heap.size w3 wr) (fun _ s7 _ => N - (intOf s7).toNat)
  case atStart => exact ⟨⟨0, m.length, rfl, rfl, by omega, hml, fun _ => ⟨m, by rw [HL.out]; rfl, rfl⟩⟩, Below.refl _ _⟩
  case round =>
    obtain ⟨⟨i, n, rfl, rfl, hi, hn20, hcur⟩, hbel⟩ := hrel
    by_cases hiN : i < N
    · have hiN' : (i : Int) < (N : Int) := by omega
      obtain ⟨cur, hd, hcn⟩ := hcur (by rw [← HN.out]; exact hiN)
      obtain ⟨x, hx, hox⟩ := HRR.out.at_ (levels_at hd)
      obtain ⟨xa, xc, rfl, _, _⟩ := hox.sums.slice
      have hci := (hbel.cell (p := ⟨g, i, none⟩) hg).trans (HC.out i _ hx)
      have hgw : g < wr.heap.size := Nat.lt_of_lt_of_le hg hbel.size
      rw [← hcn] at hci
      have Hd := Lib.hid hd
      have Hcn := Lib.hid hcn
      clear hd hcn hx hox
      go_upto_region 8 with (fail)
      try simp only [Act.put]
      refine wp_region_tab0 [RT.is (.slice (some ⟨g, 0, none⟩) N cap), RT.is (.int .i64 (i : Int)), RT.is (.pointer (some ⟨g, i, none⟩)), RT.is (.slice xa n xc), RT.is (.int .i64 (n : Int)), RT.is (.int .i64 (n : Int)), RT.is (.bool false)] (by kernel_rfl) (by kernel_rfl) (by kernel_rfl) ⟨?_, ?_, ?_, ?_, ?_, ?_, ?_, trivial⟩ ?_
      · intro ac w' hF hL hP hU K hK
        have hB : Below _ _ _ := hL
        have e5 : ac.eval (.tmp 5) = .slice (some ⟨g, 0, none⟩) N cap := hF.at 5 (by kernel_rfl)
        exact rop_move _ rfl e5 (wanted_none rfl) (hK _ _ (le8_refl _) rfl)
      · intro ac w' hF hL hP hU K hK
        have hB : Below _ _ _ := hL
        have e7 : ac.eval (.tmp 7) = .int .i64 (i : Int) := hF.at 7 (by kernel_rfl)
        exact rop_move _ rfl e7 (wanted_none rfl) (hK _ _ (le8_refl _) rfl)
      · intro ac w' hF hL hP hU K hK
        have hB : Below _ _ _ := hL
        have e21 : ac.eval (.tmp 21) = .slice (some ⟨g, 0, none⟩) N cap := hP 0 (by kernel_rfl)
        have e22 : ac.eval (.tmp 22) = .int .i64 (i : Int) := hP 1 (by kernel_rfl)
        exact rop_idx _ _ _ rfl e21 e22 (index_rows g N cap i _ rfl hiN w') (wanted_none rfl) (hK _ _ (le8_refl _) rfl)
      · intro ac w' hF hL hP hU K hK
        have hB : Below _ _ _ := hL
        have e23 : ac.eval (.tmp 23) = .pointer (some ⟨g, i, none⟩) := hP 2 (by kernel_rfl)
        exact rop_ld _ _ rfl e23 (load_sumsl ((hB.cell (p := ⟨g, i, none⟩) hgw).trans hci)) (wanted_none rfl) (hK _ _ (le8_refl _) rfl)
      · intro ac w' hF hL hP hU K hK
        have hB : Below _ _ _ := hL
        have e24 : ac.eval (.tmp 24) = .slice xa n xc := hP 3 (by kernel_rfl)
        exact rop_lenG _ Tryd.underlying29 rfl e24 (wanted_none rfl) (hK _ _ (le8_refl _) rfl)
      · intro ac w' hF hL hP hU K hK
        have hB : Below _ _ _ := hL
        have e6 : ac.eval (.tmp 6) = .int .i64 (n : Int) := hF.at 6 (by kernel_rfl)
        exact rop_move _ rfl e6 (wanted_none rfl) (hK _ _ (le8_refl _) rfl)
      · intro ac w' hF hL hP hU K hK
        have hB : Below _ _ _ := hL
        have e25 : ac.eval (.tmp 25) = .int .i64 (n : Int) := hP 4 (by kernel_rfl)
        have e26 : ac.eval (.tmp 26) = .int .i64 (n : Int) := hP 5 (by kernel_rfl)
        exact rop_bin _ _ _ _ _ rfl e25 e26 (guard_int _ _ _ _ _ _ _ w') (neq_iG _ _ _ (by simp) w') (wanted_none rfl) (hK _ _ (le8_refl _) rfl)
      · intro ac w' hF hB hT
        have e27 : ac.eval (.tmp 27) = .bool false := hT 6 (by decide)
        rw [hF.setsG [21, 22, 23, 24, 25, 26, 27] (by kernel_rfl)]
        simp only [List.foldl_cons, List.foldl_nil, List.setIfInBounds_toArray, List.set_cons_succ, List.set_cons_zero, e27]
        generalize ac.eval (.tmp 21) = u21
        generalize ac.eval (.tmp 22) = u22
        generalize ac.eval (.tmp 23) = u23
        generalize ac.eval (.tmp 24) = u24
        generalize ac.eval (.tmp 25) = u25
        generalize ac.eval (.tmp 26) = u26
        clear e27 hT hF ac
        have hbel2 := below_step hbel (Nat.le_refl _) hB
        clear hB hci hgw
        obtain ⟨W, hW⟩ : ∃ W, W = w' := ⟨_, rfl⟩
        subst hW
        by_cases hs : n ≤ 1
        · have hlv : Tree.levels cur = [cur] := Tree.levels_small (by rw [← Hcn.out]; exact hs)
          have hend : N = i + 1 := by
            have := congrArg List.length Hd.out
            rw [List.length_drop, hlv, ← HN.out] at this
            simp at this
            omega
          have hw1 := IntWalk.i64_in ((n : Int) + 1) (by omega)
          have hN63 := HN63.out
          have hw2 := IntWalk.i64_in ((i : Int) + 1) (by omega)
          clear hlv
          have Hend := Lib.hid hend
          clear hend
          go_upto_region 10 with (fail)
          try simp only [Act.put]
          refine wp_region_tab0 [RT.is (.int .i64 (i : Int)), RT.is (.int .i64 ((i : Int) + 1)), RT.is (.slice (some ⟨g, 0, none⟩) N cap), RT.is (.int .i64 (N : Int)), RT.is (.bool false), RT.is (.bool false), RT.any, RT.any, RT.is (.bool false), RT.is (.bool false), RT.is (.int .i64 (i : Int)), RT.is (.int .i64 ((i : Int) + 1)), RT.is (.slice (some ⟨g, 0, none⟩) N cap), RT.is (.int .i64 (N : Int)), RT.is (.bool true), RT.is (.bool true), RT.is (.int .i64 (n : Int)), RT.is (.bool false), RT.is (.bool false), RT.is (.bool false)] (by kernel_rfl) (by kernel_rfl) (by kernel_rfl) ⟨?_, ?_, ?_, ?_, ?_, ?_, ?_, ?_, ?_, ?_, ?_, ?_, ?_, ?_, ?_, ?_, ?_, ?_, ?_, ?_, trivial⟩ ?_
          · intro ac w' hF hL hP hU K hK
            have hB : Below _ _ _ := hL
            have e7 : ac.eval (.tmp 7) = .int .i64 (i : Int) := hF.at 7 (by kernel_rfl)
            exact rop_move _ rfl e7 (wanted_none rfl) (hK _ _ (le8_refl _) rfl)
          · intro ac w' hF hL hP hU K hK
            have hB : Below _ _ _ := hL
            have e28 : ac.eval (.tmp 28) = .int .i64 (i : Int) := hP 0 (by kernel_rfl)
            exact rop_bin _ _ _ _ _ rfl e28 rfl (guard_int _ _ _ _ _ _ _ w') (add_int _ _ _ (rfl) (by have := Hend.out; omega) w') (wanted_none rfl) (hK _ _ (le8_refl _) rfl)
          · intro ac w' hF hL hP hU K hK
            have hB : Below _ _ _ := hL
            have e5 : ac.eval (.tmp 5) = .slice (some ⟨g, 0, none⟩) N cap := hF.at 5 (by kernel_rfl)
            exact rop_move _ rfl e5 (wanted_none rfl) (hK _ _ (le8_refl _) rfl)
          · intro ac w' hF hL hP hU K hK
            have hB : Below _ _ _ := hL
            have e30 : ac.eval (.tmp 30) = .slice (some ⟨g, 0, none⟩) N cap := hP 2 (by kernel_rfl)
            exact rop_lenG _ Tryd.underlying34 rfl e30 (wanted_none rfl) (hK _ _ (le8_refl _) rfl)
          · intro ac w' hF hL hP hU K hK
            have hB : Below _ _ _ := hL
            have e29 : ac.eval (.tmp 29) = .int .i64 ((i : Int) + 1) := hP 1 (by kernel_rfl)
            have e31 : ac.eval (.tmp 31) = .int .i64 (N : Int) := hP 3 (by kernel_rfl)
            exact rop_bin _ _ _ _ _ rfl e29 e31 (guard_int _ _ _ _ _ _ _ w') (lss_iG _ _ _ (decide_eq_false (by have := Hend.out; omega)) w') (wanted_none rfl) (hK _ _ (le8_refl _) rfl)
          · intro ac w' hF hL hP hU K hK
            have hB : Below _ _ _ := hL
            have e32 : ac.eval (.tmp 32) = .bool false := hP 4 (by kernel_rfl)
            exact rop_move _ rfl e32 (wanted_none rfl) (hK _ _ (le8_refl _) rfl)
          · intro ac w' hF hL hP hU K hK
            have hB : Below _ _ _ := hL
            have e33 : ac.eval (.tmp 33) = .bool false := hP 5 (by kernel_rfl)
            exact rop_offG (j := 5) (b := true) rfl rfl e33 (by decide) (hK _ _ (le8_refl _) trivial)
          · intro ac w' hF hL hP hU K hK
            have hB : Below _ _ _ := hL
            have e33 : ac.eval (.tmp 33) = .bool false := hP 5 (by kernel_rfl)
            exact rop_offG (j := 5) (b := true) rfl rfl e33 (by decide) (hK _ _ (le8_refl _) trivial)
          · intro ac w' hF hL hP hU K hK
            have hB : Below _ _ _ := hL
            have e33 : ac.eval (.tmp 33) = .bool false := hP 5 (by kernel_rfl)
            exact rop_pick _ _ _ rfl false e33 (by rfl) (wanted_none rfl) (hK _ _ (le8_refl _) rfl)
          · intro ac w' hF hL hP hU K hK
            have hB : Below _ _ _ := hL
            have e36 : ac.eval (.tmp 36) = .bool false := hP 8 (by kernel_rfl)
            exact rop_move _ rfl e36 (wanted_none rfl) (hK _ _ (le8_refl _) rfl)
          · intro ac w' hF hL hP hU K hK
            have hB : Below _ _ _ := hL
            have e7 : ac.eval (.tmp 7) = .int .i64 (i : Int) := hF.at 7 (by kernel_rfl)
            have e37 : ac.eval (.tmp 37) = .bool false := hP 9 (by kernel_rfl)
            exact rop_move _ rfl e7 (wanted_of (j := 9) (b := false) rfl rfl e37) (hK _ _ (le8_refl _) rfl)
          · intro ac w' hF hL hP hU K hK
            have hB : Below _ _ _ := hL
            have e38 : ac.eval (.tmp 38) = .int .i64 (i : Int) := hP 10 (by kernel_rfl)
            have e37 : ac.eval (.tmp 37) = .bool false := hP 9 (by kernel_rfl)
            exact rop_bin _ _ _ _ _ rfl e38 rfl (guard_int _ _ _ _ _ _ _ w') (add_int _ _ _ (rfl) (by have := Hend.out; omega) w') (wanted_of (j := 9) (b := false) rfl rfl e37) (hK _ _ (le8_refl _) rfl)
          · intro ac w' hF hL hP hU K hK
            have hB : Below _ _ _ := hL
            have e5 : ac.eval (.tmp 5) = .slice (some ⟨g, 0, none⟩) N cap := hF.at 5 (by kernel_rfl)
            have e37 : ac.eval (.tmp 37) = .bool false := hP 9 (by kernel_rfl)
            exact rop_move _ rfl e5 (wanted_of (j := 9) (b := false) rfl rfl e37) (hK _ _ (le8_refl _) rfl)
          · intro ac w' hF hL hP hU K hK
            have hB : Below _ _ _ := hL
            have e40 : ac.eval (.tmp 40) = .slice (some ⟨g, 0, none⟩) N cap := hP 12 (by kernel_rfl)
            have e37 : ac.eval (.tmp 37) = .bool false := hP 9 (by kernel_rfl)
            exact rop_lenG _ Tryd.underlying34 rfl e40 (wanted_of (j := 9) (b := false) rfl rfl e37) (hK _ _ (le8_refl _) rfl)
          · intro ac w' hF hL hP hU K hK
            have hB : Below _ _ _ := hL
            have e39 : ac.eval (.tmp 39) = .int .i64 ((i : Int) + 1) := hP 11 (by kernel_rfl)
            have e41 : ac.eval (.tmp 41) = .int .i64 (N : Int) := hP 13 (by kernel_rfl)
            have e37 : ac.eval (.tmp 37) = .bool false := hP 9 (by kernel_rfl)
            exact rop_bin _ _ _ _ _ rfl e39 e41 (guard_int _ _ _ _ _ _ _ w') (eql_iG _ _ _ (decide_eq_true (by have := Hend.out; omega)) w') (wanted_of (j := 9) (b := false) rfl rfl e37) (hK _ _ (le8_refl _) rfl)
          · intro ac w' hF hL hP hU K hK
            have hB : Below _ _ _ := hL
            have e42 : ac.eval (.tmp 42) = .bool true := hP 14 (by kernel_rfl)
            have e37 : ac.eval (.tmp 37) = .bool false := hP 9 (by kernel_rfl)
            exact rop_move _ rfl e42 (wanted_of (j := 9) (b := false) rfl rfl e37) (hK _ _ (le8_refl _) rfl)
          · intro ac w' hF hL hP hU K hK
            have hB : Below _ _ _ := hL
            have e6 : ac.eval (.tmp 6) = .int .i64 (n : Int) := hF.at 6 (by kernel_rfl)
            have e43 : ac.eval (.tmp 43) = .bool true := hP 15 (by kernel_rfl)
            exact rop_move _ rfl e6 (wanted_of (j := 15) (b := true) rfl rfl e43) (hK _ _ (le8_refl _) rfl)
          · intro ac w' hF hL hP hU K hK
            have hB : Below _ _ _ := hL
            have e44 : ac.eval (.tmp 44) = .int .i64 (n : Int) := hP 16 (by kernel_rfl)
            have e43 : ac.eval (.tmp 43) = .bool true := hP 15 (by kernel_rfl)
            exact rop_bin _ _ _ _ _ rfl e44 rfl (guard_int _ _ _ _ _ _ _ w') (gtr_iG _ _ _ (decide_eq_false (by have := Hend.out; omega)) w') (wanted_of (j := 15) (b := true) rfl rfl e43) (hK _ _ (le8_refl _) rfl)
          · intro ac w' hF hL hP hU K hK
            have hB : Below _ _ _ := hL
            have e43 : ac.eval (.tmp 43) = .bool true := hP 15 (by kernel_rfl)
            have e45 : ac.eval (.tmp 45) = .bool false := hP 17 (by kernel_rfl)
            have e37 : ac.eval (.tmp 37) = .bool false := hP 9 (by kernel_rfl)
            exact rop_pick _ _ _ rfl true e43 (by simpa using e45) (wanted_of (j := 9) (b := false) rfl rfl e37) (hK _ _ (le8_refl _) rfl)
          · intro ac w' hF hL hP hU K hK
            have hB : Below _ _ _ := hL
            have e37 : ac.eval (.tmp 37) = .bool false := hP 9 (by kernel_rfl)
            have e46 : ac.eval (.tmp 46) = .bool false := hP 18 (by kernel_rfl)
            exact rop_pick _ _ _ rfl false e37 (by simpa using e46) (wanted_none rfl) (hK _ _ (le8_refl _) rfl)
          · intro ac w' hF hB hT
            have e47 : ac.eval (.tmp 47) = .bool false := hT 19 (by decide)
            rw [hF.setsG [28, 29, 30, 31, 32, 33, 34, 35, 36, 37, 38, 39, 40, 41, 42, 43, 44, 45, 46, 47] (by kernel_rfl)]
            simp only [List.foldl_cons, List.foldl_nil, List.setIfInBounds_toArray, List.set_cons_succ, List.set_cons_zero, e47]
            generalize ac.eval (.tmp 28) = u28
            generalize ac.eval (.tmp 29) = u29
            generalize ac.eval (.tmp 30) = u30
            generalize ac.eval (.tmp 31) = u31
            generalize ac.eval (.tmp 32) = u32
            generalize ac.eval (.tmp 33) = u33
            generalize ac.eval (.tmp 34) = u34
            generalize ac.eval (.tmp 35) = u35
            generalize ac.eval (.tmp 36) = u36
            generalize ac.eval (.tmp 37) = u37
            generalize ac.eval (.tmp 38) = u38
            generalize ac.eval (.tmp 39) = u39
            generalize ac.eval (.tmp 40) = u40
            generalize ac.eval (.tmp 41) = u41
            generalize ac.eval (.tmp 42) = u42
            generalize ac.eval (.tmp 43) = u43
            generalize ac.eval (.tmp 44) = u44
            generalize ac.eval (.tmp 45) = u45
            generalize ac.eval (.tmp 46) = u46
            clear e47 hT hF ac
            have hbel3 := below_step hbel2 (Nat.le_refl _) hB
            go_wp2
            refine ⟨⟨⟨i + 1, (n + 1) / 2, by simp, by simp, by have := HN.out; omega, by omega, fun h => by have := HN.out; have := Hend.out; omega⟩, hbel3⟩, ?_⟩
            simp [intOf]
            omega
        · have hlv := Tree.levels_go (l := cur) (by rw [← Hcn.out]; omega)
          have hd2 : L.drop (i + 1) = Tree.levels (Tree.up cur) := by
            have := congrArg (List.drop 1) (Hd.out.trans hlv)
            simpa using this
          have hi1 : i + 1 < N := by
            rw [HN.out]
            apply Nat.lt_of_not_le
            intro hc
            rw [List.drop_eq_nil_of_le hc] at hd2
            exact Tree.levels_ne _ hd2.symm
          have hup := Tree.up_length cur
          rw [← Hcn.out] at hup
          have Hd2 := Lib.hid hd2
          have Hup := Lib.hid hup
          have hN63 := HN63.out
          have hw1 := IntWalk.i64_in ((n : Int) + 1) (by omega)
          have hw2 := IntWalk.i64_in ((i : Int) + 1) (by omega)
          clear hlv hd2 hup
          go_upto_region 10 with (fail)
          try simp only [Act.put]
          refine wp_region_tab0 [RT.is (.int .i64 (i : Int)), RT.is (.int .i64 ((i : Int) + 1)), RT.is (.slice (some ⟨g, 0, none⟩) N cap), RT.is (.int .i64 (N : Int)), RT.is (.bool true), RT.is (.bool true), RT.is (.int .i64 (n : Int)), RT.is (.bool false), RT.is (.bool false), RT.is (.bool false), RT.is (.int .i64 (i : Int)), RT.is (.int .i64 ((i : Int) + 1)), RT.is (.slice (some ⟨g, 0, none⟩) N cap), RT.is (.int .i64 (N : Int)), RT.is (.bool false), RT.is (.bool false), RT.any, RT.any, RT.is (.bool false), RT.is (.bool false)] (by kernel_rfl) (by kernel_rfl) (by kernel_rfl) ⟨?_, ?_, ?_, ?_, ?_, ?_, ?_, ?_, ?_, ?_, ?_, ?_, ?_, ?_, ?_, ?_, ?_, ?_, ?_, ?_, trivial⟩ ?_
          · intro ac w' hF hL hP hU K hK
            have hB : Below _ _ _ := hL
            have e7 : ac.eval (.tmp 7) = .int .i64 (i : Int) := hF.at 7 (by kernel_rfl)
            exact rop_move _ rfl e7 (wanted_none rfl) (hK _ _ (le8_refl _) rfl)
          · intro ac w' hF hL hP hU K hK
            have hB : Below _ _ _ := hL
            have e28 : ac.eval (.tmp 28) = .int .i64 (i : Int) := hP 0 (by kernel_rfl)
            exact rop_bin _ _ _ _ _ rfl e28 rfl (guard_int _ _ _ _ _ _ _ w') (add_int _ _ _ (rfl) (by omega) w') (wanted_none rfl) (hK _ _ (le8_refl _) rfl)
          · intro ac w' hF hL hP hU K hK
            have hB : Below _ _ _ := hL
            have e5 : ac.eval (.tmp 5) = .slice (some ⟨g, 0, none⟩) N cap := hF.at 5 (by kernel_rfl)
            exact rop_move _ rfl e5 (wanted_none rfl) (hK _ _ (le8_refl _) rfl)
          · intro ac w' hF hL hP hU K hK
            have hB : Below _ _ _ := hL
            have e30 : ac.eval (.tmp 30) = .slice (some ⟨g, 0, none⟩) N cap := hP 2 (by kernel_rfl)
            exact rop_lenG _ Tryd.underlying34 rfl e30 (wanted_none rfl) (hK _ _ (le8_refl _) rfl)
          · intro ac w' hF hL hP hU K hK
            have hB : Below _ _ _ := hL
            have e29 : ac.eval (.tmp 29) = .int .i64 ((i : Int) + 1) := hP 1 (by kernel_rfl)
            have e31 : ac.eval (.tmp 31) = .int .i64 (N : Int) := hP 3 (by kernel_rfl)
            exact rop_bin _ _ _ _ _ rfl e29 e31 (guard_int _ _ _ _ _ _ _ w') (lss_iG _ _ _ (decide_eq_true (by omega)) w') (wanted_none rfl) (hK _ _ (le8_refl _) rfl)
          · intro ac w' hF hL hP hU K hK
            have hB : Below _ _ _ := hL
            have e32 : ac.eval (.tmp 32) = .bool true := hP 4 (by kernel_rfl)
            exact rop_move _ rfl e32 (wanted_none rfl) (hK _ _ (le8_refl _) rfl)
          · intro ac w' hF hL hP hU K hK
            have hB : Below _ _ _ := hL
            have e6 : ac.eval (.tmp 6) = .int .i64 (n : Int) := hF.at 6 (by kernel_rfl)
            have e33 : ac.eval (.tmp 33) = .bool true := hP 5 (by kernel_rfl)
            exact rop_move _ rfl e6 (wanted_of (j := 5) (b := true) rfl rfl e33) (hK _ _ (le8_refl _) rfl)
          · intro ac w' hF hL hP hU K hK
            have hB : Below _ _ _ := hL
            have e34 : ac.eval (.tmp 34) = .int .i64 (n : Int) := hP 6 (by kernel_rfl)
            have e33 : ac.eval (.tmp 33) = .bool true := hP 5 (by kernel_rfl)
            exact rop_bin _ _ _ _ _ rfl e34 rfl (guard_int _ _ _ _ _ _ _ w') (lss_iG _ _ _ (decide_eq_false (by omega)) w') (wanted_of (j := 5) (b := true) rfl rfl e33) (hK _ _ (le8_refl _) rfl)
          · intro ac w' hF hL hP hU K hK
            have hB : Below _ _ _ := hL
            have e33 : ac.eval (.tmp 33) = .bool true := hP 5 (by kernel_rfl)
            have e35 : ac.eval (.tmp 35) = .bool false := hP 7 (by kernel_rfl)
            exact rop_pick _ _ _ rfl true e33 (by simpa using e35) (wanted_none rfl) (hK _ _ (le8_refl _) rfl)
          · intro ac w' hF hL hP hU K hK
            have hB : Below _ _ _ := hL
            have e36 : ac.eval (.tmp 36) = .bool false := hP 8 (by kernel_rfl)
            exact rop_move _ rfl e36 (wanted_none rfl) (hK _ _ (le8_refl _) rfl)
          · intro ac w' hF hL hP hU K hK
            have hB : Below _ _ _ := hL
            have e7 : ac.eval (.tmp 7) = .int .i64 (i : Int) := hF.at 7 (by kernel_rfl)
            have e37 : ac.eval (.tmp 37) = .bool false := hP 9 (by kernel_rfl)
            exact rop_move _ rfl e7 (wanted_of (j := 9) (b := false) rfl rfl e37) (hK _ _ (le8_refl _) rfl)
          · intro ac w' hF hL hP hU K hK
            have hB : Below _ _ _ := hL
            have e38 : ac.eval (.tmp 38) = .int .i64 (i : Int) := hP 10 (by kernel_rfl)
            have e37 : ac.eval (.tmp 37) = .bool false := hP 9 (by kernel_rfl)
            exact rop_bin _ _ _ _ _ rfl e38 rfl (guard_int _ _ _ _ _ _ _ w') (add_int _ _ _ (rfl) (by omega) w') (wanted_of (j := 9) (b := false) rfl rfl e37) (hK _ _ (le8_refl _) rfl)
          · intro ac w' hF hL hP hU K hK
            have hB : Below _ _ _ := hL
            have e5 : ac.eval (.tmp 5) = .slice (some ⟨g, 0, none⟩) N cap := hF.at 5 (by kernel_rfl)
            have e37 : ac.eval (.tmp 37) = .bool false := hP 9 (by kernel_rfl)
            exact rop_move _ rfl e5 (wanted_of (j := 9) (b := false) rfl rfl e37) (hK _ _ (le8_refl _) rfl)
          · intro ac w' hF hL hP hU K hK
            have hB : Below _ _ _ := hL
            have e40 : ac.eval (.tmp 40) = .slice (some ⟨g, 0, none⟩) N cap := hP 12 (by kernel_rfl)
            have e37 : ac.eval (.tmp 37) = .bool false := hP 9 (by kernel_rfl)
            exact rop_lenG _ Tryd.underlying34 rfl e40 (wanted_of (j := 9) (b := false) rfl rfl e37) (hK _ _ (le8_refl _) rfl)
          · intro ac w' hF hL hP hU K hK
            have hB : Below _ _ _ := hL
            have e39 : ac.eval (.tmp 39) = .int .i64 ((i : Int) + 1) := hP 11 (by kernel_rfl)
            have e41 : ac.eval (.tmp 41) = .int .i64 (N : Int) := hP 13 (by kernel_rfl)
            have e37 : ac.eval (.tmp 37) = .bool false := hP 9 (by kernel_rfl)
            exact rop_bin _ _ _ _ _ rfl e39 e41 (guard_int _ _ _ _ _ _ _ w') (eql_iG _ _ _ (decide_eq_false (by omega)) w') (wanted_of (j := 9) (b := false) rfl rfl e37) (hK _ _ (le8_refl _) rfl)
          · intro ac w' hF hL hP hU K hK
            have hB : Below _ _ _ := hL
            have e42 : ac.eval (.tmp 42) = .bool false := hP 14 (by kernel_rfl)
            have e37 : ac.eval (.tmp 37) = .bool false := hP 9 (by kernel_rfl)
            exact rop_move _ rfl e42 (wanted_of (j := 9) (b := false) rfl rfl e37) (hK _ _ (le8_refl _) rfl)
          · intro ac w' hF hL hP hU K hK
            have hB : Below _ _ _ := hL
            have e43 : ac.eval (.tmp 43) = .bool false := hP 15 (by kernel_rfl)
            exact rop_offG (j := 15) (b := true) rfl rfl e43 (by decide) (hK _ _ (le8_refl _) trivial)
          · intro ac w' hF hL hP hU K hK
            have hB : Below _ _ _ := hL
            have e43 : ac.eval (.tmp 43) = .bool false := hP 15 (by kernel_rfl)
            exact rop_offG (j := 15) (b := true) rfl rfl e43 (by decide) (hK _ _ (le8_refl _) trivial)
          · intro ac w' hF hL hP hU K hK
            have hB : Below _ _ _ := hL
            have e43 : ac.eval (.tmp 43) = .bool false := hP 15 (by kernel_rfl)
            have e37 : ac.eval (.tmp 37) = .bool false := hP 9 (by kernel_rfl)
            exact rop_pick _ _ _ rfl false e43 (by rfl) (wanted_of (j := 9) (b := false) rfl rfl e37) (hK _ _ (le8_refl _) rfl)
          · intro ac w' hF hL hP hU K hK
            have hB : Below _ _ _ := hL
            have e37 : ac.eval (.tmp 37) = .bool false := hP 9 (by kernel_rfl)
            have e46 : ac.eval (.tmp 46) = .bool false := hP 18 (by kernel_rfl)
            exact rop_pick _ _ _ rfl false e37 (by simpa using e46) (wanted_none rfl) (hK _ _ (le8_refl _) rfl)
          · intro ac w' hF hB hT
            have e47 : ac.eval (.tmp 47) = .bool false := hT 19 (by decide)
            rw [hF.setsG [28, 29, 30, 31, 32, 33, 34, 35, 36, 37, 38, 39, 40, 41, 42, 43, 44, 45, 46, 47] (by kernel_rfl)]
            simp only [List.foldl_cons, List.foldl_nil, List.setIfInBounds_toArray, List.set_cons_succ, List.set_cons_zero, e47]
            generalize ac.eval (.tmp 28) = u28
            generalize ac.eval (.tmp 29) = u29
            generalize ac.eval (.tmp 30) = u30
            generalize ac.eval (.tmp 31) = u31
            generalize ac.eval (.tmp 32) = u32
            generalize ac.eval (.tmp 33) = u33
            generalize ac.eval (.tmp 34) = u34
            generalize ac.eval (.tmp 35) = u35
            generalize ac.eval (.tmp 36) = u36
            generalize ac.eval (.tmp 37) = u37
            generalize ac.eval (.tmp 38) = u38
            generalize ac.eval (.tmp 39) = u39
            generalize ac.eval (.tmp 40) = u40
            generalize ac.eval (.tmp 41) = u41
            generalize ac.eval (.tmp 42) = u42
            generalize ac.eval (.tmp 43) = u43
            generalize ac.eval (.tmp 44) = u44
            generalize ac.eval (.tmp 45) = u45
            generalize ac.eval (.tmp 46) = u46
            clear e47 hT hF ac
            have hbel3 := below_step hbel2 (Nat.le_refl _) hB
            go_wp2
            refine ⟨⟨⟨i + 1, (n + 1) / 2, by simp, by simp, by have := HN.out; omega, by omega, fun h => ⟨Tree.up cur, Hd2.out, Hup.out.symm⟩⟩, hbel3⟩, ?_⟩
            simp [intOf]
            omega
    · have hiN' : ¬ (i : Int) < (N : Int) := by omega
      go_upto_region 13 with (fail)
      try simp only [Act.put]
      refine wp_region_tab0 [RT.is (.bool true), RT.is (.bool true), RT.is (.slice (some ⟨g, 0, none⟩) N cap), RT.is (.int .i64 (N : Int)), RT.is (.bool true), RT.is (.bool true), RT.is (.bool true)] (by kernel_rfl) (by kernel_rfl) (by kernel_rfl) ⟨?_, ?_, ?_, ?_, ?_, ?_, ?_, trivial⟩ ?_
      · intro ac w' hF hL hP hU K hK
        have hB : Below _ _ _ := hL
        have e3 : ac.eval (.tmp 3) = .bool true := hF.at 3 (by kernel_rfl)
        exact rop_move _ rfl e3 (wanted_none rfl) (hK _ _ (le8_refl _) rfl)
      · intro ac w' hF hL hP hU K hK
        have hB : Below _ _ _ := hL
        have e51 : ac.eval (.tmp 51) = .bool true := hP 0 (by kernel_rfl)
        exact rop_move _ rfl e51 (wanted_none rfl) (hK _ _ (le8_refl _) rfl)
      · intro ac w' hF hL hP hU K hK
        have hB : Below _ _ _ := hL
        have e5 : ac.eval (.tmp 5) = .slice (some ⟨g, 0, none⟩) N cap := hF.at 5 (by kernel_rfl)
        have e52 : ac.eval (.tmp 52) = .bool true := hP 1 (by kernel_rfl)
        exact rop_move _ rfl e5 (wanted_of (j := 1) (b := true) rfl rfl e52) (hK _ _ (le8_refl _) rfl)
      · intro ac w' hF hL hP hU K hK
        have hB : Below _ _ _ := hL
        have e53 : ac.eval (.tmp 53) = .slice (some ⟨g, 0, none⟩) N cap := hP 2 (by kernel_rfl)
        have e52 : ac.eval (.tmp 52) = .bool true := hP 1 (by kernel_rfl)
        exact rop_lenG _ Tryd.underlying34 rfl e53 (wanted_of (j := 1) (b := true) rfl rfl e52) (hK _ _ (le8_refl _) rfl)
      · intro ac w' hF hL hP hU K hK
        have hB : Below _ _ _ := hL
        have e54 : ac.eval (.tmp 54) = .int .i64 (N : Int) := hP 3 (by kernel_rfl)
        have e52 : ac.eval (.tmp 52) = .bool true := hP 1 (by kernel_rfl)
        exact rop_bin _ _ _ _ _ rfl e54 rfl (guard_int _ _ _ _ _ _ _ w') (gtr_iG _ _ _ (decide_eq_true (by omega)) w') (wanted_of (j := 1) (b := true) rfl rfl e52) (hK _ _ (le8_refl _) rfl)
      · intro ac w' hF hL hP hU K hK
        have hB : Below _ _ _ := hL
        have e52 : ac.eval (.tmp 52) = .bool true := hP 1 (by kernel_rfl)
        have e55 : ac.eval (.tmp 55) = .bool true := hP 4 (by kernel_rfl)
        exact rop_pick _ _ _ rfl true e52 (by simpa using e55) (wanted_none rfl) (hK _ _ (le8_refl _) rfl)
      · intro ac w' hF hL hP hU K hK
        have hB : Below _ _ _ := hL
        have e56 : ac.eval (.tmp 56) = .bool true := hP 5 (by kernel_rfl)
        exact rop_assign _ rfl e56 (wanted_none rfl) (hK _ _ (le8_refl _) rfl)
      · intro ac w' hF hB hT
        have e2 : ac.eval (.tmp 2) = .bool true := hT 6 (by decide)
        rw [hF.setsG [51, 52, 53, 54, 55, 56, 2] (by kernel_rfl)]
        simp only [List.foldl_cons, List.foldl_nil, List.setIfInBounds_toArray, List.set_cons_succ, List.set_cons_zero, e2]
        generalize ac.eval (.tmp 51) = u51
        generalize ac.eval (.tmp 52) = u52
        generalize ac.eval (.tmp 53) = u53
        generalize ac.eval (.tmp 54) = u54
        generalize ac.eval (.tmp 55) = u55
        generalize ac.eval (.tmp 56) = u56
        clear e2 hT hF ac
        go_wp2
        go_ret
        exact ⟨rfl, below_step bw (Nat.le_refl _) (below_step hbel (Nat.le_refl _) hB)⟩

set_option maxRecDepth 100000 in
theorem lifted (os : Os) (started : os.Started) (H : Type) (enc : TypeId × Value → H) :
    ReturnsInHanded {} Tryd.checked os 8 .any (fun w args => (Rows.leafCountsSpec.pre enc Tryd.prog Tryd.f8 [] false w args ∧ laidMetH Tryd.prog [("scrinium/sha.k", Rows.laid_scrinium_sha_k)] w) ∧ sizedMet enc Tryd.prog Tryd.f8 (OpenSpec.ofChange Rows.leafCountsSpec) false w args)
      (Rows.leafCountsSpec.post enc Tryd.prog Tryd.f8 false true false false) := by
  refine returnsInHanded_of_change_and (C := Tryd.checked) (X := fun w _ => laidMetH Tryd.prog [("scrinium/sha.k", Rows.laid_scrinium_sha_k)] w) (fun _ _ _ hh h => h.of_heap hh) lawOwn started (by kernel_rfl) Tryd.func8
    (ChangeSpec.witness_shaped (enc := enc) (C := Tryd.checked) (os := os) (X := fun w _ => laidMetH Tryd.prog [("scrinium/sha.k", Rows.laid_scrinium_sha_k)] w) false (World.doorLaid Tryd.prog 400 os) #[.slice none 0 0] 8 rfl (World.shaped_of_RefB (by kernel_rfl) (by kernel_rfl)) (by kernel_rfl) (by kernel_rfl) (by kernel_rfl) (door_met os _)) ?_
  intro W base args ds gs before hval0 hW _ _ hL _
  have hval : ∀ (j : Nat) t v, Tryd.f8.params[j]? = some t → args[j]? = some v → Value.okWide Tryd.prog W .any base t v := hval0
  have hW' := hW
  obtain ⟨p, q, hA0, hV, rfl, hfz, hnd⟩ := hW
  have hA : DataW.TrodAll enc Tryd.prog W 0 (fun _ => true) true Tryd.f8.params.toList args.toList ds p := hA0
  rw [Tryd.params8] at hA hval
  obtain ⟨v0, vs0, d0, ds0, p0, q0, hargs, rfl, rfl, h0, r0⟩ := trodAll_cons hA
  obtain ⟨rfl, rfl, rfl⟩ := trodAll_nil r0
  obtain rfl : args = #[v0] := by cases args; simp_all
  obtain ⟨rfl, rfl⟩ := trodVars_none hV
  have hKT := KT_of_laid hL
  obtain ⟨a0, len0, cap0, rfl⟩ := okWide_slice Tryd.underlying29 (hval 0 29 v0 rfl rfl)
  obtain ⟨l0, w0⟩ := sums_of h0
  clear hA0 hval0
  refine (walk (w := W) hKT _ l0 w0).mono fun e W' ⟨he, bel⟩ => ?_
  subst he
  exact ⟨_, rfl, law_post rfl rfl (by kernel_rfl) hW' rfl bel⟩

theorem row_holds : Rows.LeafCountsSaid :=
  OpenClaim.holds_of_wide 8 Tryd.f8 rfl rfl rfl rfl rfl rfl rfl ⟨rfl, rfl, rfl, rfl, rfl⟩ rfl rfl rfl rfl rfl (by kernel_rfl) Tryd.func8 (by kernel_rfl)
    (of_decide_eq_true (by kernel_rfl)) (by unfold Func.isWrapper; first | (rw [if_pos (by decide +kernel)]; kernel_rfl) | (rw [if_neg (by decide +kernel)]; exact ⟨rfl, rfl⟩))
    (fun os started H enc _ => lifted os started H enc)

theorem holds : Rows.LeafCountsCardSaid :=
  Claim7.holds_tied_plain_at .later [] [.data] true Rows.leafCountsCard.stood.harness false
    row_holds (fun _ h => by cases h) (by kernel_rfl) (fun _ h => by cases h) leafCounts_row_tie rfl ⟨rfl, rfl⟩ (by kernel_rfl) rfl
    (fun f fn hf hfn => by
      obtain rfl : f = 8 := Option.some.inj ((show Tryd.prog.funcNamed "scrinium/scriniumlaw09.LeafCounts" = some 8 by kernel_rfl).symm.trans hf) |>.symm
      obtain rfl : fn = Tryd.f8 := (Option.some.inj (Tryd.func8.symm.trans hfn)).symm
      exact ⟨by kernel_rfl, fun j t ht => by
        rw [Tryd.params8] at ht
        have hm : t ∈ [29] := by simpa using Array.mem_of_getElem? ht
        have hall : ([29].all fun u => !Tryd.prog.wantsStandIn u) = true := by kernel_rfl
        exact (show Tryd.prog.wantsStandIn t = false by simpa using List.all_eq_true.1 hall t hm)⟩)
    (by kernel_rfl)
end Go.Proofs.YtldknddgcbhllaaDoor.leafCounts

theorem Go.Proofs.YtldknddgcbhllaaDoor.leafCounts_holds : Go.Proofs.YtldknddgcbhllaaDoor.Rows.LeafCountsCardSaid := Go.Proofs.YtldknddgcbhllaaDoor.leafCounts.holds
#print axioms Go.Proofs.YtldknddgcbhllaaDoor.leafCounts_holds
