/-
  LeafTops: the root is the last row's one; of as many as a power of two it is the node of both halves' roots. For all hashes (the first 20 of them), and every power of two from 1 to 8 (twice as many leaves); the numbers K of the package sha are as the program's own start lays them.
-/
import Derived.Test.YtldknddgcbhllaaDoorLeafLaw
namespace Go.Proofs.YtldknddgcbhllaaDoor.leafTops
open Go.ChangeShapes Go.WideShapes Go.ChangeAt Go.RowKit

theorem mul_lit1 (w : World) : (binOp .mul 3 (.int .i64 2) (.int .i64 1)).run Tryd.prog w = .ok (.int .i64 2) w := by have := IntWalk.i64_in 2 (by omega); go_simp
theorem mul_lit2 (w : World) : (binOp .mul 3 (.int .i64 2) (.int .i64 2)).run Tryd.prog w = .ok (.int .i64 4) w := by have := IntWalk.i64_in 4 (by omega); go_simp
theorem mul_lit4 (w : World) : (binOp .mul 3 (.int .i64 2) (.int .i64 4)).run Tryd.prog w = .ok (.int .i64 8) w := by have := IntWalk.i64_in 8 (by omega); go_simp
theorem mul_lit8 (w : World) : (binOp .mul 3 (.int .i64 2) (.int .i64 8)).run Tryd.prog w = .ok (.int .i64 16) w := by have := IntWalk.i64_in 16 (by omega); go_simp
set_option maxHeartbeats 8000000 in
set_option maxRecDepth 100000 in
theorem walk {w : World} (hK : KT w) (v : Value) (l : Hs) (hv : Sums w v l) (p : Int) (_ : -9223372036854775808 ≤ p) (_ : p ≤ 9223372036854775807) :
    Calls Tryd.prog 6 #[v, .int .i64 p] w fun e w' => e = .returned (.bool true) ∧ Below w.heap.size w w' := by
  have HAW := Lib.hid (awake9_any w hK)
  have HV := Lib.hid hv
  have HKW := Lib.hid hK
  obtain ⟨m, hm⟩ : ∃ m : Hs, m = l.take 20 := ⟨_, rfl⟩
  have hml : m.length ≤ 20 := by rw [hm, List.length_take]; omega
  have hmo : all32 m := by rw [hm]; exact hv.ok.take 20
  have Hm := Lib.hid hm
  have Hmo := Lib.hid hmo
  obtain ⟨D, hD⟩ : ∃ D, D = Tree.root m := ⟨_, rfl⟩
  have HDl : Hid (D.length = 32) := Lib.hid (by rw [hD]; exact Tree.root_length _ hmo)
  have HD := Lib.hid hD
  clear hm hv hK hD hmo
  go_enter Tryd.func6, Tryd.ntmps6
  go_upto_region 4 with (first
    | (go_at_call 10; ((with_reducible refine HAW.out.mono ?_); rintro e w1 ⟨rfl, b1⟩))
    | (go_at_call 17; refine (few9_any _ l _ (HV.out.old b1)).mono ?_; rintro e w2 ⟨v6, rfl, h6, rfl⟩; rw [← Hm.out] at h6)
    | (go_at_call 22; refine (levels_any v6 m _ h6.1 (HKW.out.old b1) (by omega)).mono ?_; rintro e w3 ⟨v7, vs, rfl, hR, b3⟩))
  obtain ⟨L0, hL0⟩ := levels_last _ m (Nat.le_refl _)
  have hlen := hR.len
  have hN63 := levels_few m hml
  have hl1 : (Tree.levels m).length = L0.length + 1 := by rw [hL0]; simp
  have hne : 0 < vs.length := by omega
  obtain ⟨x, hx, hox⟩ := hR.at_ (i := L0.length) (l := if m.length = 0 then [] else [Tree.root m]) (by rw [hL0]; simp)
  obtain ⟨g, gc, rfl, -, hg, hcell⟩ := hR.open_ hne
  have hcx := hcell _ _ hx
  obtain ⟨N, hN⟩ : ∃ N, N = vs.length := ⟨_, rfl⟩
  obtain ⟨K, hKk⟩ : ∃ K, K = L0.length := ⟨_, rfl⟩
  have hNK : (N : Int) - 1 = (K : Int) := by omega
  have hKN : K < N := by omega
  have hN0 : ¬ (N : Int) = 0 := by omega
  rw [← hN] at ⊢
  rw [← hKk] at hcx
  have hw1 := IntWalk.i64_in ((N : Int) - 1) (by omega)
  have hw2 := IntWalk.wrap64_in (K : Int) ⟨by omega, by omega⟩
  obtain ⟨va, cap, rfl, hlc, hcap⟩ := h6.1.slice
  have h6' := h6.1.old b3
  have bw := below_step b1 (Nat.le_refl _) b3
  have hox' := hox.sums
  have hK3 := HKW.out.old bw
  have HK3 := Lib.hid hK3
  have H6 := Lib.hid h6'
  have HRT : Hid (∀ u : World, Below w3.heap.size w3 u → Calls Tryd.prog 20 #[.slice va m.length cap] u fun e w' => e = .returned (sumV D) ∧ Below u.heap.size u w') := Lib.hid fun u hu => by
    rw [HD.out]
    exact leafRoot_any _ m _ u rfl (by omega) (h6'.old hu) (hK3.old hu)
  by_cases h0 : m.length = 0
  · rw [if_pos h0] at hox'
    obtain rfl : m = [] := List.eq_nil_of_length_eq_zero h0
    obtain ⟨xa, xc, rfl, _, _⟩ := hox'.slice
    have HEM : Hid (∀ u : World, Below w3.heap.size w3 u → Calls Tryd.prog 25 #[] u fun e w' => e = .returned (sumV D) ∧ Below u.heap.size u w') := Lib.hid fun u hu => by
      rw [HD.out]
      exact leafEmpty_any u (hK3.old hu)
    simp only [List.length_nil] at hcx hlc ⊢
    have HRT' : Hid (∀ u : World, Below w3.heap.size w3 u → Calls Tryd.prog 20 #[.slice va 0 cap] u fun e w' => e = .returned (sumV D) ∧ Below u.heap.size u w') := HRT
    replace HRT := HRT'
    have hix := index_rows g N gc K ((N : Int) - 1) hNK hKN
    clear hR hL0 hlen hl1 hN hKk hx hox hox' hcell h6 h6' hK3 b3 b1
    go_upto_region 8 with (fail)
    try simp only [Act.put]
    refine wp_region_tab0 [RT.is (.bool true), RT.is (.bool true), RT.is (.slice xa 0 xc), RT.is (.int .i64 ((0 : Nat) : Int)), RT.is (.bool true), RT.is (.bool true), RT.is (.bool true), RT.is (.slice va 0 cap), RT.is (sumV D), RT.is (sumV D), RT.is (.bool true), RT.is (.bool true), RT.is (.bool true)] (by kernel_rfl) (by kernel_rfl) (by kernel_rfl) ⟨?_, ?_, ?_, ?_, ?_, ?_, ?_, ?_, ?_, ?_, ?_, ?_, ?_, trivial⟩ ?_
    · intro ac w' hF hL hP hU K hK
      have hB : Below _ _ _ := hL
      have e5 : ac.eval (.tmp 5) = .bool true := hF.at 5 (by kernel_rfl)
      exact rop_move _ rfl e5 (wanted_none rfl) (hK _ _ (le8_refl _) rfl)
    · intro ac w' hF hL hP hU K hK
      have hB : Below _ _ _ := hL
      have e27 : ac.eval (.tmp 27) = .bool true := hP 0 (by kernel_rfl)
      exact rop_move _ rfl e27 (wanted_none rfl) (hK _ _ (le8_refl _) rfl)
    · intro ac w' hF hL hP hU K hK
      have hB : Below _ _ _ := hL
      have e8 : ac.eval (.tmp 8) = .slice xa 0 xc := hF.at 8 (by kernel_rfl)
      have e28 : ac.eval (.tmp 28) = .bool true := hP 1 (by kernel_rfl)
      exact rop_move _ rfl e8 (wanted_of (j := 1) (b := true) rfl rfl e28) (hK _ _ (le8_refl _) rfl)
    · intro ac w' hF hL hP hU K hK
      have hB : Below _ _ _ := hL
      have e29 : ac.eval (.tmp 29) = .slice xa 0 xc := hP 2 (by kernel_rfl)
      have e28 : ac.eval (.tmp 28) = .bool true := hP 1 (by kernel_rfl)
      exact rop_lenG _ Tryd.underlying29 rfl e29 (wanted_of (j := 1) (b := true) rfl rfl e28) (hK _ _ (le8_refl _) rfl)
    · intro ac w' hF hL hP hU K hK
      have hB : Below _ _ _ := hL
      have e30 : ac.eval (.tmp 30) = .int .i64 ((0 : Nat) : Int) := hP 3 (by kernel_rfl)
      have e28 : ac.eval (.tmp 28) = .bool true := hP 1 (by kernel_rfl)
      exact rop_bin _ _ _ _ _ rfl e30 rfl (guard_int _ _ _ _ _ _ _ w') (eql_iG _ _ _ (rfl) w') (wanted_of (j := 1) (b := true) rfl rfl e28) (hK _ _ (le8_refl _) rfl)
    · intro ac w' hF hL hP hU K hK
      have hB : Below _ _ _ := hL
      have e28 : ac.eval (.tmp 28) = .bool true := hP 1 (by kernel_rfl)
      have e31 : ac.eval (.tmp 31) = .bool true := hP 4 (by kernel_rfl)
      exact rop_pick _ _ _ rfl true e28 (by simpa using e31) (wanted_none rfl) (hK _ _ (le8_refl _) rfl)
    · intro ac w' hF hL hP hU K hK
      have hB : Below _ _ _ := hL
      have e32 : ac.eval (.tmp 32) = .bool true := hP 5 (by kernel_rfl)
      exact rop_move _ rfl e32 (wanted_none rfl) (hK _ _ (le8_refl _) rfl)
    · intro ac w' hF hL hP hU K hK
      have hB : Below _ _ _ := hL
      have e6 : ac.eval (.tmp 6) = .slice va 0 cap := hF.at 6 (by kernel_rfl)
      have e33 : ac.eval (.tmp 33) = .bool true := hP 6 (by kernel_rfl)
      exact rop_move _ rfl e6 (wanted_of (j := 6) (b := true) rfl rfl e33) (hK _ _ (le8_refl _) rfl)
    · intro ac w' hF hL hP hU K hK
      have hB : Below _ _ _ := hL
      have e34 : ac.eval (.tmp 34) = .slice va 0 cap := hP 7 (by kernel_rfl)
      have e33 : ac.eval (.tmp 33) = .bool true := hP 6 (by kernel_rfl)
      refine rop_call 20 _ _ rfl #[.slice va 0 cap] (by simp [e34]) (by kernel_rfl) (wanted_of (j := 6) (b := true) rfl rfl e33) ?_
      refine (HRT.out w' hB).mono ?_
      rintro e w2 ⟨rfl, hb⟩
      exact ⟨_, rfl, hK _ _ hb rfl⟩
    · intro ac w' hF hL hP hU K hK
      have hB : Below _ _ _ := hL
      have e33 : ac.eval (.tmp 33) = .bool true := hP 6 (by kernel_rfl)
      refine rop_call 25 _ _ rfl #[] (by simp) (by kernel_rfl) (wanted_of (j := 6) (b := true) rfl rfl e33) ?_
      refine (HEM.out w' hB).mono ?_
      rintro e w2 ⟨rfl, hb⟩
      exact ⟨_, rfl, hK _ _ hb rfl⟩
    · intro ac w' hF hL hP hU K hK
      have hB : Below _ _ _ := hL
      have e35 : ac.eval (.tmp 35) = sumV D := hP 8 (by kernel_rfl)
      have e36 : ac.eval (.tmp 36) = sumV D := hP 9 (by kernel_rfl)
      have e33 : ac.eval (.tmp 33) = .bool true := hP 6 (by kernel_rfl)
      exact rop_bin _ _ _ _ _ rfl e35 e36 (guard_run .eql _ _ _ _ w') (eql_sum_tt D D HDl.out HDl.out rfl w') (wanted_of (j := 6) (b := true) rfl rfl e33) (hK _ _ (le8_refl _) rfl)
    · intro ac w' hF hL hP hU K hK
      have hB : Below _ _ _ := hL
      have e33 : ac.eval (.tmp 33) = .bool true := hP 6 (by kernel_rfl)
      have e37 : ac.eval (.tmp 37) = .bool true := hP 10 (by kernel_rfl)
      exact rop_pick _ _ _ rfl true e33 (by simpa using e37) (wanted_none rfl) (hK _ _ (le8_refl _) rfl)
    · intro ac w' hF hL hP hU K hK
      have hB : Below _ _ _ := hL
      have e38 : ac.eval (.tmp 38) = .bool true := hP 11 (by kernel_rfl)
      exact rop_assign _ rfl e38 (wanted_none rfl) (hK _ _ (le8_refl _) rfl)
    · intro ac w' hF hB hT
      have e4 : ac.eval (.tmp 4) = .bool true := hT 12 (by decide)
      rw [hF.setsG [27, 28, 29, 30, 31, 32, 33, 34, 35, 36, 37, 38, 4] (by kernel_rfl)]
      simp only [List.foldl_cons, List.foldl_nil, List.setIfInBounds_toArray, List.set_cons_succ, List.set_cons_zero, e4]
      generalize ac.eval (.tmp 27) = u27
      generalize ac.eval (.tmp 28) = u28
      generalize ac.eval (.tmp 29) = u29
      generalize ac.eval (.tmp 30) = u30
      generalize ac.eval (.tmp 31) = u31
      generalize ac.eval (.tmp 32) = u32
      generalize ac.eval (.tmp 33) = u33
      generalize ac.eval (.tmp 34) = u34
      generalize ac.eval (.tmp 35) = u35
      generalize ac.eval (.tmp 36) = u36
      generalize ac.eval (.tmp 37) = u37
      generalize ac.eval (.tmp 38) = u38
      clear e4 hT hF ac
      go_wp2
      go_ret
      exact ⟨rfl, below_step bw (Nat.le_refl _) hB⟩
  rw [if_neg h0] at hox'
  obtain ⟨xa, xc, rfl, _, _⟩ := hox'.slice
  obtain ⟨xb, xo, rfl, hxb, -, hxr⟩ := hox'.at 0 (by simp)
  have hxr' : w3.rangeAt xb (xo + 0 * 32) (D.map u8V) := by rw [HD.out]; exact hxr
  replace hxr := hxr'
  simp only [List.length_singleton] at hcx
  have hix := index_rows g N gc K ((N : Int) - 1) hNK hKN
  obtain ⟨yb, yo, rfl, hyb, -, hyr⟩ := h6'.at 0 (by omega)
  obtain ⟨y, hy⟩ : ∃ y, y = m[0]'(by omega) := ⟨_, rfl⟩
  rw [← hy] at hyr
  have HYl : Hid (y.length = 32) := Lib.hid (by rw [hy]; exact Hmo.out _ (List.getElem_mem _))
  have hy1 : m.take 1 = [y] := by
    rw [hy]
    exact (List.take_succ_eq_append_getElem (l := m) (i := 0) (by omega)).trans rfl
  have HY1 := Lib.hid hy1
  obtain ⟨M, hM⟩ : ∃ M, M = m.length := ⟨_, rfl⟩
  rw [← hM] at h6' hlc h0 HRT ⊢
  have HM := Lib.hid hM
  have H6' := Lib.hid h6'
  have hM0 : ¬ (M : Int) = 0 := by omega
  have hM20 : M ≤ 20 := by omega
  clear hR hL0 hlen hl1 hN hKk hx hox hox' hcell h6 h6' hK3 b3 b1 hy hy1 hM H6
  go_upto_region 9 with (fail)
  try simp only [Act.put]
  refine wp_region_tab [RT.is (.slice (some ⟨xb, xo, none⟩) 1 xc), RT.is (.int .i64 ((1 : Nat) : Int)), RT.is (.bool false), RT.is (.bool false), RT.is (.slice (some ⟨yb, yo, none⟩) M cap), RT.is (sumV D), RT.is (.slice (some ⟨xb, xo, none⟩) 1 xc), RT.is (.pointer (some ⟨xb, xo + 0 * 32, none⟩)), RT.is (sumV D), RT.is (.bool false), RT.is (.bool false)] (by kernel_rfl) (by kernel_rfl) (by kernel_rfl) (by kernel_rfl) ⟨?_, ?_, ?_, ?_, ?_, ?_, ?_, ?_, ?_, ?_, ?_, trivial⟩ ?_
  · intro ac w' hF hL hP hU K hK
    have hB := below_undrew hL
    have e8 : ac.eval (.tmp 8) = .slice (some ⟨xb, xo, none⟩) 1 xc := hF.at 8 (by kernel_rfl)
    exact rop_move _ rfl e8 (wanted_none rfl) (hK _ _ (le8_refl _) rfl)
  · intro ac w' hF hL hP hU K hK
    have hB := below_undrew hL
    have e39 : ac.eval (.tmp 39) = .slice (some ⟨xb, xo, none⟩) 1 xc := hP 0 (by kernel_rfl)
    exact rop_lenG _ Tryd.underlying29 rfl e39 (wanted_none rfl) (hK _ _ (le8_refl _) rfl)
  · intro ac w' hF hL hP hU K hK
    have hB := below_undrew hL
    have e40 : ac.eval (.tmp 40) = .int .i64 ((1 : Nat) : Int) := hP 1 (by kernel_rfl)
    exact rop_bin _ _ _ _ _ rfl e40 rfl (guard_int _ _ _ _ _ _ _ w') (neq_iG _ _ _ (by decide) w') (wanted_none rfl) (hK _ _ (le8_refl _) rfl)
  · intro ac w' hF hL hP hU K hK
    have hB := below_undrew hL
    have e41 : ac.eval (.tmp 41) = .bool false := hP 2 (by kernel_rfl)
    exact rop_move _ rfl e41 (wanted_none rfl) (hK _ _ (le8_refl _) rfl)
  · intro ac w' hF hL hP hU K hK
    have hB := below_undrew hL
    have e6 : ac.eval (.tmp 6) = .slice (some ⟨yb, yo, none⟩) M cap := hF.at 6 (by kernel_rfl)
    have e42 : ac.eval (.tmp 42) = .bool false := hP 3 (by kernel_rfl)
    exact rop_move _ rfl e6 (wanted_of (j := 3) (b := false) rfl rfl e42) (hK _ _ (le8_refl _) rfl)
  · intro ac w' hF hL hP hU K hK
    have hB := below_undrew hL
    have e43 : ac.eval (.tmp 43) = .slice (some ⟨yb, yo, none⟩) M cap := hP 4 (by kernel_rfl)
    have e42 : ac.eval (.tmp 42) = .bool false := hP 3 (by kernel_rfl)
    refine rop_call 20 _ _ rfl #[.slice (some ⟨yb, yo, none⟩) M cap] (by simp [e43]) (by kernel_rfl) (wanted_of (j := 3) (b := false) rfl rfl e42) ?_
    refine (HRT.out w' hB).mono ?_
    rintro e w2 ⟨rfl, hb⟩
    exact ⟨_, rfl, hK _ _ hb rfl⟩
  · intro ac w' hF hL hP hU K hK
    have hB := below_undrew hL
    have e8 : ac.eval (.tmp 8) = .slice (some ⟨xb, xo, none⟩) 1 xc := hF.at 8 (by kernel_rfl)
    have e42 : ac.eval (.tmp 42) = .bool false := hP 3 (by kernel_rfl)
    exact rop_move _ rfl e8 (wanted_of (j := 3) (b := false) rfl rfl e42) (hK _ _ (le8_refl _) rfl)
  · intro ac w' hF hL hP hU K hK
    have hB := below_undrew hL
    have e45 : ac.eval (.tmp 45) = .slice (some ⟨xb, xo, none⟩) 1 xc := hP 6 (by kernel_rfl)
    have e42 : ac.eval (.tmp 42) = .bool false := hP 3 (by kernel_rfl)
    exact rop_idx _ _ _ rfl e45 rfl (index_sums xb xo 1 xc 0 (by decide) w') (wanted_of (j := 3) (b := false) rfl rfl e42) (hK _ _ (le8_refl _) rfl)
  · intro ac w' hF hL hP hU K hK
    have hB := below_undrew hL
    have e46 : ac.eval (.tmp 46) = .pointer (some ⟨xb, xo + 0 * 32, none⟩) := hP 7 (by kernel_rfl)
    have e42 : ac.eval (.tmp 42) = .bool false := hP 3 (by kernel_rfl)
    exact rop_ld _ _ rfl e46 (run_loadAt_mid _ _ _ _ _ _ (below_range hB hxb hxr) Tryd.underlying23 rfl (sum_info' HDl.out)) (wanted_of (j := 3) (b := false) rfl rfl e42) (hK _ _ (le8_refl _) rfl)
  · intro ac w' hF hL hP hU K hK
    have hB := below_undrew hL
    have e44 : ac.eval (.tmp 44) = sumV D := hP 5 (by kernel_rfl)
    have e47 : ac.eval (.tmp 47) = sumV D := hP 8 (by kernel_rfl)
    have e42 : ac.eval (.tmp 42) = .bool false := hP 3 (by kernel_rfl)
    exact rop_bin _ _ _ _ _ rfl e44 e47 (guard_run .neq _ _ _ _ w') (neq_sum_ff D D HDl.out HDl.out rfl w') (wanted_of (j := 3) (b := false) rfl rfl e42) (hK _ _ (le8_refl _) rfl)
  · intro ac w' hF hL hP hU K hK
    have hB := below_undrew hL
    have e42 : ac.eval (.tmp 42) = .bool false := hP 3 (by kernel_rfl)
    have e48 : ac.eval (.tmp 48) = .bool false := hP 9 (by kernel_rfl)
    exact rop_pick _ _ _ rfl false e42 (by simpa using e48) (wanted_none rfl) (hK _ _ (le8_refl _) rfl)
  · intro ac w' hF hB hT
    have e49 : ac.eval (.tmp 49) = .bool false := hT 10 (by decide)
    rw [hF.setsG [39, 40, 41, 42, 43, 44, 45, 46, 47, 48, 49] (by kernel_rfl)]
    simp only [List.foldl_cons, List.foldl_nil, List.setIfInBounds_toArray, List.set_cons_succ, List.set_cons_zero, e49]
    generalize ac.eval (.tmp 39) = u39
    generalize ac.eval (.tmp 40) = u40
    generalize ac.eval (.tmp 41) = u41
    generalize ac.eval (.tmp 42) = u42
    generalize ac.eval (.tmp 43) = u43
    generalize ac.eval (.tmp 44) = u44
    generalize ac.eval (.tmp 45) = u45
    generalize ac.eval (.tmp 46) = u46
    generalize ac.eval (.tmp 47) = u47
    generalize ac.eval (.tmp 48) = u48
    clear e49 hT hF ac
    have bw4 := below_step bw (Nat.le_refl _) hB
    have b4 := hB
    replace hyr := below_range b4 hyb hyr
    replace hyb := Nat.lt_of_lt_of_le hyb b4.size
    have h64 := H6'.out.old b4
    have HK4 := Lib.hid (HK3.out.old b4)
    have H64 := Lib.hid h64
    clear hB b4 hxr h64 hxb hcx hix HRT
    obtain ⟨W, hW⟩ : ∃ W, W = w' := ⟨_, rfl⟩
    subst hW
    have hbits : ∃ k : Nat, k < 4 ∧ bits .and .i64 p 3 = (k : Int) := ⟨(p % 4).toNat, by omega, by rw [and_maskL p 2 3 (by decide) (by decide)]; omega⟩
    obtain ⟨k, hk4, hbit⟩ := hbits
    have hkc : k = 0 ∨ k = 1 ∨ k = 2 ∨ k = 3 := by omega
    rcases hkc with rfl | rfl | rfl | rfl
    · have hbit' : bits .and .i64 p 3 = 0 := hbit
      clear hbit
      by_cases hlt : M < 2
      · have hlt' : (M : Int) < 2 := by omega
        go_wp2
        go_ret
        exact ⟨rfl, bw4⟩
      · have hlt' : ¬ (M : Int) < 2 := by omega
        obtain ⟨T, hT⟩ : ∃ T, T = Tree.root (m.take 2) := ⟨_, rfl⟩
        obtain ⟨A, hA⟩ : ∃ A, A = Tree.root (m.take 1) := ⟨_, rfl⟩
        obtain ⟨B, hBB⟩ : ∃ B, B = Tree.root ((m.drop 1).take 1) := ⟨_, rfl⟩
        have hTl : T.length = 32 := by rw [hT]; exact Tree.root_length _ (Hmo.out.take _)
        have hAl : A.length = 32 := by rw [hA]; exact Tree.root_length _ (Hmo.out.take _)
        have hBl : B.length = 32 := by rw [hBB]; exact Tree.root_length _ ((Hmo.out.drop _).take _)
        have hhalf := root_halves m 0 (by rw [← HM.out]; omega)
        have hTN : T = Tree.node A B := by rw [hT, hA, hBB]; exact hhalf
        have HTl := Lib.hid hTl
        have s2 : Sums W (.slice (some ⟨yb, yo, none⟩) 2 cap) (m.take 2) := H64.out.head 2 (by rw [← HM.out]; omega)
        have s1 : Sums W (.slice (some ⟨yb, yo, none⟩) 1 cap) (m.take 1) := H64.out.head 1 (by rw [← HM.out]; omega)
        have s3 : Sums W (.slice (cutS (some ⟨yb, yo, none⟩) 1 cap) (2 - 1) (cap - 1)) ((m.drop 1).take 1) := (H64.out.tail 1 (by rw [← HM.out]; omega)).head 1 (by rw [List.length_drop, ← HM.out]; omega)
        have s4 : Sums W (.slice (some ⟨yb, yo, none⟩) 1 cap) [y] := by
          have := H64.out.head 1 (by rw [← HM.out]; omega)
          rwa [HY1.out] at this
        have HR2 : Hid (∀ u : World, Below W.heap.size W u → Calls Tryd.prog 20 #[.slice (some ⟨yb, yo, none⟩) 2 cap] u fun e w' => e = .returned (sumV T) ∧ Below u.heap.size u w') := Lib.hid fun u hu => by
          rw [hT]
          exact leafRoot_any _ _ _ u rfl (by rw [List.length_take]; omega) (s2.old hu) (HK4.out.old hu)
        have HRA : Hid (∀ u : World, Below W.heap.size W u → Calls Tryd.prog 20 #[.slice (some ⟨yb, yo, none⟩) 1 cap] u fun e w' => e = .returned (sumV A) ∧ Below u.heap.size u w') := Lib.hid fun u hu => by
          rw [hA]
          exact leafRoot_any _ _ _ u rfl (by rw [List.length_take]; omega) (s1.old hu) (HK4.out.old hu)
        have HRB : Hid (∀ u : World, Below W.heap.size W u → Calls Tryd.prog 20 #[.slice (cutS (some ⟨yb, yo, none⟩) 1 cap) (2 - 1) (cap - 1)] u fun e w' => e = .returned (sumV B) ∧ Below u.heap.size u w') := Lib.hid fun u hu => by
          rw [hBB]
          exact leafRoot_any _ _ _ u rfl (by rw [List.length_take]; omega) (s3.old hu) (HK4.out.old hu)
        have HND : Hid (∀ u : World, Below W.heap.size W u → Calls Tryd.prog 13 #[sumV A, sumV B] u fun e w' => e = .returned (sumV T) ∧ Below u.heap.size u w') := Lib.hid fun u hu => by
          rw [hTN]
          exact leafNode_any A B hAl hBl u (HK4.out.old hu)
        have HR1 : Hid (∀ u : World, Below W.heap.size W u → Calls Tryd.prog 20 #[.slice (some ⟨yb, yo, none⟩) 1 cap] u fun e w' => e = .returned (sumV y) ∧ Below u.heap.size u w') := Lib.hid fun u hu =>
          leafRoot_any 1 [y] _ u rfl (by decide) (s4.old hu) (HK4.out.old hu)
        clear hT hA hBB hTl hAl hBl hhalf hTN s1 s2 s3 s4
        go_upto_region 14 with (fail)
        try simp only [Act.put]
        refine wp_region_tab [RT.is (.bool true), RT.is (.bool true), RT.is (.slice (some ⟨yb, yo, none⟩) M cap), RT.is (.int .i64 1), RT.is (.int .i64 2), RT.is (.slice (some ⟨yb, yo, none⟩) 2 cap), RT.is (sumV T), RT.is (.slice (some ⟨yb, yo, none⟩) M cap), RT.is (.int .i64 1), RT.is (.slice (some ⟨yb, yo, none⟩) 1 cap), RT.is (sumV A), RT.is (.slice (some ⟨yb, yo, none⟩) M cap), RT.is (.int .i64 1), RT.is (.int .i64 1), RT.is (.int .i64 2), RT.is (.slice (cutS (some ⟨yb, yo, none⟩) 1 cap) (2 - 1) (cap - 1)), RT.is (sumV B), RT.is (sumV T), RT.is (.bool true), RT.is (.bool true), RT.is (.bool true), RT.is (.slice (some ⟨yb, yo, none⟩) M cap), RT.is (.slice (some ⟨yb, yo, none⟩) 1 cap), RT.is (sumV y), RT.is (.slice (some ⟨yb, yo, none⟩) M cap), RT.is (.pointer (some ⟨yb, yo + 0 * 32, none⟩)), RT.is (sumV y), RT.is (.bool true), RT.is (.bool true), RT.is (.bool true)] (by kernel_rfl) (by kernel_rfl) (by kernel_rfl) (by kernel_rfl) ⟨?_, ?_, ?_, ?_, ?_, ?_, ?_, ?_, ?_, ?_, ?_, ?_, ?_, ?_, ?_, ?_, ?_, ?_, ?_, ?_, ?_, ?_, ?_, ?_, ?_, ?_, ?_, ?_, ?_, ?_, trivial⟩ ?_
        · intro ac w' hF hL hP hU K hK
          have hB := below_undrew hL
          have e5 : ac.eval (.tmp 5) = .bool true := hF.at 5 (by kernel_rfl)
          exact rop_move _ rfl e5 (wanted_none rfl) (hK _ _ (le8_refl _) rfl)
        · intro ac w' hF hL hP hU K hK
          have hB := below_undrew hL
          have e60 : ac.eval (.tmp 60) = .bool true := hP 0 (by kernel_rfl)
          exact rop_move _ rfl e60 (wanted_none rfl) (hK _ _ (le8_refl _) rfl)
        · intro ac w' hF hL hP hU K hK
          have hB := below_undrew hL
          have e6 : ac.eval (.tmp 6) = .slice (some ⟨yb, yo, none⟩) M cap := hF.at 6 (by kernel_rfl)
          have e61 : ac.eval (.tmp 61) = .bool true := hP 1 (by kernel_rfl)
          exact rop_move _ rfl e6 (wanted_of (j := 1) (b := true) rfl rfl e61) (hK _ _ (le8_refl _) rfl)
        · intro ac w' hF hL hP hU K hK
          have hB := below_undrew hL
          have e9 : ac.eval (.tmp 9) = .int .i64 1 := hF.at 9 (by kernel_rfl)
          have e61 : ac.eval (.tmp 61) = .bool true := hP 1 (by kernel_rfl)
          exact rop_move _ rfl e9 (wanted_of (j := 1) (b := true) rfl rfl e61) (hK _ _ (le8_refl _) rfl)
        · intro ac w' hF hL hP hU K hK
          have hB := below_undrew hL
          have e63 : ac.eval (.tmp 63) = .int .i64 1 := hP 3 (by kernel_rfl)
          have e61 : ac.eval (.tmp 61) = .bool true := hP 1 (by kernel_rfl)
          exact rop_bin _ _ _ _ _ rfl rfl e63 (guard_int _ _ _ _ _ _ _ w') (mul_lit1 w') (wanted_of (j := 1) (b := true) rfl rfl e61) (hK _ _ (le8_refl _) rfl)
        · intro ac w' hF hL hP hU K hK
          have hB := below_undrew hL
          have e62 : ac.eval (.tmp 62) = .slice (some ⟨yb, yo, none⟩) M cap := hP 2 (by kernel_rfl)
          have e64 : ac.eval (.tmp 64) = .int .i64 2 := hP 4 (by kernel_rfl)
          have e61 : ac.eval (.tmp 61) = .bool true := hP 1 (by kernel_rfl)
          exact rop_sliceG _ _ _ _ _ rfl e62 rfl (by simp [e64]) rfl (scut_h (some ⟨yb, yo, none⟩) M cap 2 (by omega) w') (wanted_of (j := 1) (b := true) rfl rfl e61) (hK _ _ (le8_refl _) rfl)
        · intro ac w' hF hL hP hU K hK
          have hB := below_undrew hL
          have e65 : ac.eval (.tmp 65) = .slice (some ⟨yb, yo, none⟩) 2 cap := hP 5 (by kernel_rfl)
          have e61 : ac.eval (.tmp 61) = .bool true := hP 1 (by kernel_rfl)
          refine rop_call 20 _ _ rfl #[.slice (some ⟨yb, yo, none⟩) 2 cap] (by simp [e65]) (by kernel_rfl) (wanted_of (j := 1) (b := true) rfl rfl e61) ?_
          refine (HR2.out w' hB).mono ?_
          rintro e w2 ⟨rfl, hb⟩
          exact ⟨_, rfl, hK _ _ hb rfl⟩
        · intro ac w' hF hL hP hU K hK
          have hB := below_undrew hL
          have e6 : ac.eval (.tmp 6) = .slice (some ⟨yb, yo, none⟩) M cap := hF.at 6 (by kernel_rfl)
          have e61 : ac.eval (.tmp 61) = .bool true := hP 1 (by kernel_rfl)
          exact rop_move _ rfl e6 (wanted_of (j := 1) (b := true) rfl rfl e61) (hK _ _ (le8_refl _) rfl)
        · intro ac w' hF hL hP hU K hK
          have hB := below_undrew hL
          have e9 : ac.eval (.tmp 9) = .int .i64 1 := hF.at 9 (by kernel_rfl)
          have e61 : ac.eval (.tmp 61) = .bool true := hP 1 (by kernel_rfl)
          exact rop_move _ rfl e9 (wanted_of (j := 1) (b := true) rfl rfl e61) (hK _ _ (le8_refl _) rfl)
        · intro ac w' hF hL hP hU K hK
          have hB := below_undrew hL
          have e67 : ac.eval (.tmp 67) = .slice (some ⟨yb, yo, none⟩) M cap := hP 7 (by kernel_rfl)
          have e68 : ac.eval (.tmp 68) = .int .i64 1 := hP 8 (by kernel_rfl)
          have e61 : ac.eval (.tmp 61) = .bool true := hP 1 (by kernel_rfl)
          exact rop_sliceG _ _ _ _ _ rfl e67 rfl (by simp [e68]) rfl (scut_h (some ⟨yb, yo, none⟩) M cap 1 (by omega) w') (wanted_of (j := 1) (b := true) rfl rfl e61) (hK _ _ (le8_refl _) rfl)
        · intro ac w' hF hL hP hU K hK
          have hB := below_undrew hL
          have e69 : ac.eval (.tmp 69) = .slice (some ⟨yb, yo, none⟩) 1 cap := hP 9 (by kernel_rfl)
          have e61 : ac.eval (.tmp 61) = .bool true := hP 1 (by kernel_rfl)
          refine rop_call 20 _ _ rfl #[.slice (some ⟨yb, yo, none⟩) 1 cap] (by simp [e69]) (by kernel_rfl) (wanted_of (j := 1) (b := true) rfl rfl e61) ?_
          refine (HRA.out w' hB).mono ?_
          rintro e w2 ⟨rfl, hb⟩
          exact ⟨_, rfl, hK _ _ hb rfl⟩
        · intro ac w' hF hL hP hU K hK
          have hB := below_undrew hL
          have e6 : ac.eval (.tmp 6) = .slice (some ⟨yb, yo, none⟩) M cap := hF.at 6 (by kernel_rfl)
          have e61 : ac.eval (.tmp 61) = .bool true := hP 1 (by kernel_rfl)
          exact rop_move _ rfl e6 (wanted_of (j := 1) (b := true) rfl rfl e61) (hK _ _ (le8_refl _) rfl)
        · intro ac w' hF hL hP hU K hK
          have hB := below_undrew hL
          have e9 : ac.eval (.tmp 9) = .int .i64 1 := hF.at 9 (by kernel_rfl)
          have e61 : ac.eval (.tmp 61) = .bool true := hP 1 (by kernel_rfl)
          exact rop_move _ rfl e9 (wanted_of (j := 1) (b := true) rfl rfl e61) (hK _ _ (le8_refl _) rfl)
        · intro ac w' hF hL hP hU K hK
          have hB := below_undrew hL
          have e9 : ac.eval (.tmp 9) = .int .i64 1 := hF.at 9 (by kernel_rfl)
          have e61 : ac.eval (.tmp 61) = .bool true := hP 1 (by kernel_rfl)
          exact rop_move _ rfl e9 (wanted_of (j := 1) (b := true) rfl rfl e61) (hK _ _ (le8_refl _) rfl)
        · intro ac w' hF hL hP hU K hK
          have hB := below_undrew hL
          have e73 : ac.eval (.tmp 73) = .int .i64 1 := hP 13 (by kernel_rfl)
          have e61 : ac.eval (.tmp 61) = .bool true := hP 1 (by kernel_rfl)
          exact rop_bin _ _ _ _ _ rfl rfl e73 (guard_int _ _ _ _ _ _ _ w') (mul_lit1 w') (wanted_of (j := 1) (b := true) rfl rfl e61) (hK _ _ (le8_refl _) rfl)
        · intro ac w' hF hL hP hU K hK
          have hB := below_undrew hL
          have e71 : ac.eval (.tmp 71) = .slice (some ⟨yb, yo, none⟩) M cap := hP 11 (by kernel_rfl)
          have e72 : ac.eval (.tmp 72) = .int .i64 1 := hP 12 (by kernel_rfl)
          have e74 : ac.eval (.tmp 74) = .int .i64 2 := hP 14 (by kernel_rfl)
          have e61 : ac.eval (.tmp 61) = .bool true := hP 1 (by kernel_rfl)
          exact rop_sliceG _ _ _ _ _ rfl e71 (by simp [e72]) (by simp [e74]) rfl (scut_lh (some ⟨yb, yo, none⟩) M cap 1 2 (by decide) (by omega) w') (wanted_of (j := 1) (b := true) rfl rfl e61) (hK _ _ (le8_refl _) rfl)
        · intro ac w' hF hL hP hU K hK
          have hB := below_undrew hL
          have e75 : ac.eval (.tmp 75) = .slice (cutS (some ⟨yb, yo, none⟩) 1 cap) (2 - 1) (cap - 1) := hP 15 (by kernel_rfl)
          have e61 : ac.eval (.tmp 61) = .bool true := hP 1 (by kernel_rfl)
          refine rop_call 20 _ _ rfl #[.slice (cutS (some ⟨yb, yo, none⟩) 1 cap) (2 - 1) (cap - 1)] (by simp [e75]) (by kernel_rfl) (wanted_of (j := 1) (b := true) rfl rfl e61) ?_
          refine (HRB.out w' hB).mono ?_
          rintro e w2 ⟨rfl, hb⟩
          exact ⟨_, rfl, hK _ _ hb rfl⟩
        · intro ac w' hF hL hP hU K hK
          have hB := below_undrew hL
          have e70 : ac.eval (.tmp 70) = sumV A := hP 10 (by kernel_rfl)
          have e76 : ac.eval (.tmp 76) = sumV B := hP 16 (by kernel_rfl)
          have e61 : ac.eval (.tmp 61) = .bool true := hP 1 (by kernel_rfl)
          refine rop_call 13 _ _ rfl #[sumV A, sumV B] (by simp [e70, e76]) (by kernel_rfl) (wanted_of (j := 1) (b := true) rfl rfl e61) ?_
          refine (HND.out w' hB).mono ?_
          rintro e w2 ⟨rfl, hb⟩
          exact ⟨_, rfl, hK _ _ hb rfl⟩
        · intro ac w' hF hL hP hU K hK
          have hB := below_undrew hL
          have e66 : ac.eval (.tmp 66) = sumV T := hP 6 (by kernel_rfl)
          have e77 : ac.eval (.tmp 77) = sumV T := hP 17 (by kernel_rfl)
          have e61 : ac.eval (.tmp 61) = .bool true := hP 1 (by kernel_rfl)
          exact rop_bin _ _ _ _ _ rfl e66 e77 (guard_run .eql _ _ _ _ w') (eql_sum_tt T T HTl.out HTl.out rfl w') (wanted_of (j := 1) (b := true) rfl rfl e61) (hK _ _ (le8_refl _) rfl)
        · intro ac w' hF hL hP hU K hK
          have hB := below_undrew hL
          have e61 : ac.eval (.tmp 61) = .bool true := hP 1 (by kernel_rfl)
          have e78 : ac.eval (.tmp 78) = .bool true := hP 18 (by kernel_rfl)
          exact rop_pick _ _ _ rfl true e61 (by simpa using e78) (wanted_none rfl) (hK _ _ (le8_refl _) rfl)
        · intro ac w' hF hL hP hU K hK
          have hB := below_undrew hL
          have e79 : ac.eval (.tmp 79) = .bool true := hP 19 (by kernel_rfl)
          exact rop_move _ rfl e79 (wanted_none rfl) (hK _ _ (le8_refl _) rfl)
        · intro ac w' hF hL hP hU K hK
          have hB := below_undrew hL
          have e6 : ac.eval (.tmp 6) = .slice (some ⟨yb, yo, none⟩) M cap := hF.at 6 (by kernel_rfl)
          have e80 : ac.eval (.tmp 80) = .bool true := hP 20 (by kernel_rfl)
          exact rop_move _ rfl e6 (wanted_of (j := 20) (b := true) rfl rfl e80) (hK _ _ (le8_refl _) rfl)
        · intro ac w' hF hL hP hU K hK
          have hB := below_undrew hL
          have e81 : ac.eval (.tmp 81) = .slice (some ⟨yb, yo, none⟩) M cap := hP 21 (by kernel_rfl)
          have e80 : ac.eval (.tmp 80) = .bool true := hP 20 (by kernel_rfl)
          exact rop_sliceG _ _ _ _ _ rfl e81 rfl rfl rfl (scut_h (some ⟨yb, yo, none⟩) M cap 1 (by omega) w') (wanted_of (j := 20) (b := true) rfl rfl e80) (hK _ _ (le8_refl _) rfl)
        · intro ac w' hF hL hP hU K hK
          have hB := below_undrew hL
          have e82 : ac.eval (.tmp 82) = .slice (some ⟨yb, yo, none⟩) 1 cap := hP 22 (by kernel_rfl)
          have e80 : ac.eval (.tmp 80) = .bool true := hP 20 (by kernel_rfl)
          refine rop_call 20 _ _ rfl #[.slice (some ⟨yb, yo, none⟩) 1 cap] (by simp [e82]) (by kernel_rfl) (wanted_of (j := 20) (b := true) rfl rfl e80) ?_
          refine (HR1.out w' hB).mono ?_
          rintro e w2 ⟨rfl, hb⟩
          exact ⟨_, rfl, hK _ _ hb rfl⟩
        · intro ac w' hF hL hP hU K hK
          have hB := below_undrew hL
          have e6 : ac.eval (.tmp 6) = .slice (some ⟨yb, yo, none⟩) M cap := hF.at 6 (by kernel_rfl)
          have e80 : ac.eval (.tmp 80) = .bool true := hP 20 (by kernel_rfl)
          exact rop_move _ rfl e6 (wanted_of (j := 20) (b := true) rfl rfl e80) (hK _ _ (le8_refl _) rfl)
        · intro ac w' hF hL hP hU K hK
          have hB := below_undrew hL
          have e84 : ac.eval (.tmp 84) = .slice (some ⟨yb, yo, none⟩) M cap := hP 24 (by kernel_rfl)
          have e80 : ac.eval (.tmp 80) = .bool true := hP 20 (by kernel_rfl)
          exact rop_idx _ _ _ rfl e84 rfl (index_sums yb yo M cap 0 (by omega) w') (wanted_of (j := 20) (b := true) rfl rfl e80) (hK _ _ (le8_refl _) rfl)
        · intro ac w' hF hL hP hU K hK
          have hB := below_undrew hL
          have e85 : ac.eval (.tmp 85) = .pointer (some ⟨yb, yo + 0 * 32, none⟩) := hP 25 (by kernel_rfl)
          have e80 : ac.eval (.tmp 80) = .bool true := hP 20 (by kernel_rfl)
          exact rop_ld _ _ rfl e85 (run_loadAt_mid _ _ _ _ _ _ (below_range hB hyb hyr) Tryd.underlying23 rfl (sum_info' HYl.out)) (wanted_of (j := 20) (b := true) rfl rfl e80) (hK _ _ (le8_refl _) rfl)
        · intro ac w' hF hL hP hU K hK
          have hB := below_undrew hL
          have e83 : ac.eval (.tmp 83) = sumV y := hP 23 (by kernel_rfl)
          have e86 : ac.eval (.tmp 86) = sumV y := hP 26 (by kernel_rfl)
          have e80 : ac.eval (.tmp 80) = .bool true := hP 20 (by kernel_rfl)
          exact rop_bin _ _ _ _ _ rfl e83 e86 (guard_run .eql _ _ _ _ w') (eql_sum_tt y y HYl.out HYl.out rfl w') (wanted_of (j := 20) (b := true) rfl rfl e80) (hK _ _ (le8_refl _) rfl)
        · intro ac w' hF hL hP hU K hK
          have hB := below_undrew hL
          have e80 : ac.eval (.tmp 80) = .bool true := hP 20 (by kernel_rfl)
          have e87 : ac.eval (.tmp 87) = .bool true := hP 27 (by kernel_rfl)
          exact rop_pick _ _ _ rfl true e80 (by simpa using e87) (wanted_none rfl) (hK _ _ (le8_refl _) rfl)
        · intro ac w' hF hL hP hU K hK
          have hB := below_undrew hL
          have e88 : ac.eval (.tmp 88) = .bool true := hP 28 (by kernel_rfl)
          exact rop_assign _ rfl e88 (wanted_none rfl) (hK _ _ (le8_refl _) rfl)
        · intro ac w' hF hB hT
          have e4 : ac.eval (.tmp 4) = .bool true := hT 29 (by decide)
          rw [hF.setsG [60, 61, 62, 63, 64, 65, 66, 67, 68, 69, 70, 71, 72, 73, 74, 75, 76, 77, 78, 79, 80, 81, 82, 83, 84, 85, 86, 87, 88, 4] (by kernel_rfl)]
          simp only [List.foldl_cons, List.foldl_nil, List.setIfInBounds_toArray, List.set_cons_succ, List.set_cons_zero, e4]
          generalize ac.eval (.tmp 60) = u60
          generalize ac.eval (.tmp 61) = u61
          generalize ac.eval (.tmp 62) = u62
          generalize ac.eval (.tmp 63) = u63
          generalize ac.eval (.tmp 64) = u64
          generalize ac.eval (.tmp 65) = u65
          generalize ac.eval (.tmp 66) = u66
          generalize ac.eval (.tmp 67) = u67
          generalize ac.eval (.tmp 68) = u68
          generalize ac.eval (.tmp 69) = u69
          generalize ac.eval (.tmp 70) = u70
          generalize ac.eval (.tmp 71) = u71
          generalize ac.eval (.tmp 72) = u72
          generalize ac.eval (.tmp 73) = u73
          generalize ac.eval (.tmp 74) = u74
          generalize ac.eval (.tmp 75) = u75
          generalize ac.eval (.tmp 76) = u76
          generalize ac.eval (.tmp 77) = u77
          generalize ac.eval (.tmp 78) = u78
          generalize ac.eval (.tmp 79) = u79
          generalize ac.eval (.tmp 80) = u80
          generalize ac.eval (.tmp 81) = u81
          generalize ac.eval (.tmp 82) = u82
          generalize ac.eval (.tmp 83) = u83
          generalize ac.eval (.tmp 84) = u84
          generalize ac.eval (.tmp 85) = u85
          generalize ac.eval (.tmp 86) = u86
          generalize ac.eval (.tmp 87) = u87
          generalize ac.eval (.tmp 88) = u88
          clear e4 hT hF ac
          go_wp2
          go_ret
          exact ⟨rfl, below_step bw4 (Nat.le_refl _) hB⟩
    · have hbit' : bits .and .i64 p 3 = 1 := hbit
      clear hbit
      by_cases hlt : M < 4
      · have hlt' : (M : Int) < 4 := by omega
        go_wp2
        go_ret
        exact ⟨rfl, bw4⟩
      · have hlt' : ¬ (M : Int) < 4 := by omega
        obtain ⟨T, hT⟩ : ∃ T, T = Tree.root (m.take 4) := ⟨_, rfl⟩
        obtain ⟨A, hA⟩ : ∃ A, A = Tree.root (m.take 2) := ⟨_, rfl⟩
        obtain ⟨B, hBB⟩ : ∃ B, B = Tree.root ((m.drop 2).take 2) := ⟨_, rfl⟩
        have hTl : T.length = 32 := by rw [hT]; exact Tree.root_length _ (Hmo.out.take _)
        have hAl : A.length = 32 := by rw [hA]; exact Tree.root_length _ (Hmo.out.take _)
        have hBl : B.length = 32 := by rw [hBB]; exact Tree.root_length _ ((Hmo.out.drop _).take _)
        have hhalf := root_halves m 1 (by rw [← HM.out]; omega)
        have hTN : T = Tree.node A B := by rw [hT, hA, hBB]; exact hhalf
        have HTl := Lib.hid hTl
        have s2 : Sums W (.slice (some ⟨yb, yo, none⟩) 4 cap) (m.take 4) := H64.out.head 4 (by rw [← HM.out]; omega)
        have s1 : Sums W (.slice (some ⟨yb, yo, none⟩) 2 cap) (m.take 2) := H64.out.head 2 (by rw [← HM.out]; omega)
        have s3 : Sums W (.slice (cutS (some ⟨yb, yo, none⟩) 2 cap) (4 - 2) (cap - 2)) ((m.drop 2).take 2) := (H64.out.tail 2 (by rw [← HM.out]; omega)).head 2 (by rw [List.length_drop, ← HM.out]; omega)
        have s4 : Sums W (.slice (some ⟨yb, yo, none⟩) 1 cap) [y] := by
          have := H64.out.head 1 (by rw [← HM.out]; omega)
          rwa [HY1.out] at this
        have HR2 : Hid (∀ u : World, Below W.heap.size W u → Calls Tryd.prog 20 #[.slice (some ⟨yb, yo, none⟩) 4 cap] u fun e w' => e = .returned (sumV T) ∧ Below u.heap.size u w') := Lib.hid fun u hu => by
          rw [hT]
          exact leafRoot_any _ _ _ u rfl (by rw [List.length_take]; omega) (s2.old hu) (HK4.out.old hu)
        have HRA : Hid (∀ u : World, Below W.heap.size W u → Calls Tryd.prog 20 #[.slice (some ⟨yb, yo, none⟩) 2 cap] u fun e w' => e = .returned (sumV A) ∧ Below u.heap.size u w') := Lib.hid fun u hu => by
          rw [hA]
          exact leafRoot_any _ _ _ u rfl (by rw [List.length_take]; omega) (s1.old hu) (HK4.out.old hu)
        have HRB : Hid (∀ u : World, Below W.heap.size W u → Calls Tryd.prog 20 #[.slice (cutS (some ⟨yb, yo, none⟩) 2 cap) (4 - 2) (cap - 2)] u fun e w' => e = .returned (sumV B) ∧ Below u.heap.size u w') := Lib.hid fun u hu => by
          rw [hBB]
          exact leafRoot_any _ _ _ u rfl (by rw [List.length_take]; omega) (s3.old hu) (HK4.out.old hu)
        have HND : Hid (∀ u : World, Below W.heap.size W u → Calls Tryd.prog 13 #[sumV A, sumV B] u fun e w' => e = .returned (sumV T) ∧ Below u.heap.size u w') := Lib.hid fun u hu => by
          rw [hTN]
          exact leafNode_any A B hAl hBl u (HK4.out.old hu)
        have HR1 : Hid (∀ u : World, Below W.heap.size W u → Calls Tryd.prog 20 #[.slice (some ⟨yb, yo, none⟩) 1 cap] u fun e w' => e = .returned (sumV y) ∧ Below u.heap.size u w') := Lib.hid fun u hu =>
          leafRoot_any 1 [y] _ u rfl (by decide) (s4.old hu) (HK4.out.old hu)
        clear hT hA hBB hTl hAl hBl hhalf hTN s1 s2 s3 s4
        go_upto_region 14 with (fail)
        try simp only [Act.put]
        refine wp_region_tab [RT.is (.bool true), RT.is (.bool true), RT.is (.slice (some ⟨yb, yo, none⟩) M cap), RT.is (.int .i64 2), RT.is (.int .i64 4), RT.is (.slice (some ⟨yb, yo, none⟩) 4 cap), RT.is (sumV T), RT.is (.slice (some ⟨yb, yo, none⟩) M cap), RT.is (.int .i64 2), RT.is (.slice (some ⟨yb, yo, none⟩) 2 cap), RT.is (sumV A), RT.is (.slice (some ⟨yb, yo, none⟩) M cap), RT.is (.int .i64 2), RT.is (.int .i64 2), RT.is (.int .i64 4), RT.is (.slice (cutS (some ⟨yb, yo, none⟩) 2 cap) (4 - 2) (cap - 2)), RT.is (sumV B), RT.is (sumV T), RT.is (.bool true), RT.is (.bool true), RT.is (.bool true), RT.is (.slice (some ⟨yb, yo, none⟩) M cap), RT.is (.slice (some ⟨yb, yo, none⟩) 1 cap), RT.is (sumV y), RT.is (.slice (some ⟨yb, yo, none⟩) M cap), RT.is (.pointer (some ⟨yb, yo + 0 * 32, none⟩)), RT.is (sumV y), RT.is (.bool true), RT.is (.bool true), RT.is (.bool true)] (by kernel_rfl) (by kernel_rfl) (by kernel_rfl) (by kernel_rfl) ⟨?_, ?_, ?_, ?_, ?_, ?_, ?_, ?_, ?_, ?_, ?_, ?_, ?_, ?_, ?_, ?_, ?_, ?_, ?_, ?_, ?_, ?_, ?_, ?_, ?_, ?_, ?_, ?_, ?_, ?_, trivial⟩ ?_
        · intro ac w' hF hL hP hU K hK
          have hB := below_undrew hL
          have e5 : ac.eval (.tmp 5) = .bool true := hF.at 5 (by kernel_rfl)
          exact rop_move _ rfl e5 (wanted_none rfl) (hK _ _ (le8_refl _) rfl)
        · intro ac w' hF hL hP hU K hK
          have hB := below_undrew hL
          have e60 : ac.eval (.tmp 60) = .bool true := hP 0 (by kernel_rfl)
          exact rop_move _ rfl e60 (wanted_none rfl) (hK _ _ (le8_refl _) rfl)
        · intro ac w' hF hL hP hU K hK
          have hB := below_undrew hL
          have e6 : ac.eval (.tmp 6) = .slice (some ⟨yb, yo, none⟩) M cap := hF.at 6 (by kernel_rfl)
          have e61 : ac.eval (.tmp 61) = .bool true := hP 1 (by kernel_rfl)
          exact rop_move _ rfl e6 (wanted_of (j := 1) (b := true) rfl rfl e61) (hK _ _ (le8_refl _) rfl)
        · intro ac w' hF hL hP hU K hK
          have hB := below_undrew hL
          have e9 : ac.eval (.tmp 9) = .int .i64 2 := hF.at 9 (by kernel_rfl)
          have e61 : ac.eval (.tmp 61) = .bool true := hP 1 (by kernel_rfl)
          exact rop_move _ rfl e9 (wanted_of (j := 1) (b := true) rfl rfl e61) (hK _ _ (le8_refl _) rfl)
        · intro ac w' hF hL hP hU K hK
          have hB := below_undrew hL
          have e63 : ac.eval (.tmp 63) = .int .i64 2 := hP 3 (by kernel_rfl)
          have e61 : ac.eval (.tmp 61) = .bool true := hP 1 (by kernel_rfl)
          exact rop_bin _ _ _ _ _ rfl rfl e63 (guard_int _ _ _ _ _ _ _ w') (mul_lit2 w') (wanted_of (j := 1) (b := true) rfl rfl e61) (hK _ _ (le8_refl _) rfl)
        · intro ac w' hF hL hP hU K hK
          have hB := below_undrew hL
          have e62 : ac.eval (.tmp 62) = .slice (some ⟨yb, yo, none⟩) M cap := hP 2 (by kernel_rfl)
          have e64 : ac.eval (.tmp 64) = .int .i64 4 := hP 4 (by kernel_rfl)
          have e61 : ac.eval (.tmp 61) = .bool true := hP 1 (by kernel_rfl)
          exact rop_sliceG _ _ _ _ _ rfl e62 rfl (by simp [e64]) rfl (scut_h (some ⟨yb, yo, none⟩) M cap 4 (by omega) w') (wanted_of (j := 1) (b := true) rfl rfl e61) (hK _ _ (le8_refl _) rfl)
        · intro ac w' hF hL hP hU K hK
          have hB := below_undrew hL
          have e65 : ac.eval (.tmp 65) = .slice (some ⟨yb, yo, none⟩) 4 cap := hP 5 (by kernel_rfl)
          have e61 : ac.eval (.tmp 61) = .bool true := hP 1 (by kernel_rfl)
          refine rop_call 20 _ _ rfl #[.slice (some ⟨yb, yo, none⟩) 4 cap] (by simp [e65]) (by kernel_rfl) (wanted_of (j := 1) (b := true) rfl rfl e61) ?_
          refine (HR2.out w' hB).mono ?_
          rintro e w2 ⟨rfl, hb⟩
          exact ⟨_, rfl, hK _ _ hb rfl⟩
        · intro ac w' hF hL hP hU K hK
          have hB := below_undrew hL
          have e6 : ac.eval (.tmp 6) = .slice (some ⟨yb, yo, none⟩) M cap := hF.at 6 (by kernel_rfl)
          have e61 : ac.eval (.tmp 61) = .bool true := hP 1 (by kernel_rfl)
          exact rop_move _ rfl e6 (wanted_of (j := 1) (b := true) rfl rfl e61) (hK _ _ (le8_refl _) rfl)
        · intro ac w' hF hL hP hU K hK
          have hB := below_undrew hL
          have e9 : ac.eval (.tmp 9) = .int .i64 2 := hF.at 9 (by kernel_rfl)
          have e61 : ac.eval (.tmp 61) = .bool true := hP 1 (by kernel_rfl)
          exact rop_move _ rfl e9 (wanted_of (j := 1) (b := true) rfl rfl e61) (hK _ _ (le8_refl _) rfl)
        · intro ac w' hF hL hP hU K hK
          have hB := below_undrew hL
          have e67 : ac.eval (.tmp 67) = .slice (some ⟨yb, yo, none⟩) M cap := hP 7 (by kernel_rfl)
          have e68 : ac.eval (.tmp 68) = .int .i64 2 := hP 8 (by kernel_rfl)
          have e61 : ac.eval (.tmp 61) = .bool true := hP 1 (by kernel_rfl)
          exact rop_sliceG _ _ _ _ _ rfl e67 rfl (by simp [e68]) rfl (scut_h (some ⟨yb, yo, none⟩) M cap 2 (by omega) w') (wanted_of (j := 1) (b := true) rfl rfl e61) (hK _ _ (le8_refl _) rfl)
        · intro ac w' hF hL hP hU K hK
          have hB := below_undrew hL
          have e69 : ac.eval (.tmp 69) = .slice (some ⟨yb, yo, none⟩) 2 cap := hP 9 (by kernel_rfl)
          have e61 : ac.eval (.tmp 61) = .bool true := hP 1 (by kernel_rfl)
          refine rop_call 20 _ _ rfl #[.slice (some ⟨yb, yo, none⟩) 2 cap] (by simp [e69]) (by kernel_rfl) (wanted_of (j := 1) (b := true) rfl rfl e61) ?_
          refine (HRA.out w' hB).mono ?_
          rintro e w2 ⟨rfl, hb⟩
          exact ⟨_, rfl, hK _ _ hb rfl⟩
        · intro ac w' hF hL hP hU K hK
          have hB := below_undrew hL
          have e6 : ac.eval (.tmp 6) = .slice (some ⟨yb, yo, none⟩) M cap := hF.at 6 (by kernel_rfl)
          have e61 : ac.eval (.tmp 61) = .bool true := hP 1 (by kernel_rfl)
          exact rop_move _ rfl e6 (wanted_of (j := 1) (b := true) rfl rfl e61) (hK _ _ (le8_refl _) rfl)
        · intro ac w' hF hL hP hU K hK
          have hB := below_undrew hL
          have e9 : ac.eval (.tmp 9) = .int .i64 2 := hF.at 9 (by kernel_rfl)
          have e61 : ac.eval (.tmp 61) = .bool true := hP 1 (by kernel_rfl)
          exact rop_move _ rfl e9 (wanted_of (j := 1) (b := true) rfl rfl e61) (hK _ _ (le8_refl _) rfl)
        · intro ac w' hF hL hP hU K hK
          have hB := below_undrew hL
          have e9 : ac.eval (.tmp 9) = .int .i64 2 := hF.at 9 (by kernel_rfl)
          have e61 : ac.eval (.tmp 61) = .bool true := hP 1 (by kernel_rfl)
          exact rop_move _ rfl e9 (wanted_of (j := 1) (b := true) rfl rfl e61) (hK _ _ (le8_refl _) rfl)
        · intro ac w' hF hL hP hU K hK
          have hB := below_undrew hL
          have e73 : ac.eval (.tmp 73) = .int .i64 2 := hP 13 (by kernel_rfl)
          have e61 : ac.eval (.tmp 61) = .bool true := hP 1 (by kernel_rfl)
          exact rop_bin _ _ _ _ _ rfl rfl e73 (guard_int _ _ _ _ _ _ _ w') (mul_lit2 w') (wanted_of (j := 1) (b := true) rfl rfl e61) (hK _ _ (le8_refl _) rfl)
        · intro ac w' hF hL hP hU K hK
          have hB := below_undrew hL
          have e71 : ac.eval (.tmp 71) = .slice (some ⟨yb, yo, none⟩) M cap := hP 11 (by kernel_rfl)
          have e72 : ac.eval (.tmp 72) = .int .i64 2 := hP 12 (by kernel_rfl)
          have e74 : ac.eval (.tmp 74) = .int .i64 4 := hP 14 (by kernel_rfl)
          have e61 : ac.eval (.tmp 61) = .bool true := hP 1 (by kernel_rfl)
          exact rop_sliceG _ _ _ _ _ rfl e71 (by simp [e72]) (by simp [e74]) rfl (scut_lh (some ⟨yb, yo, none⟩) M cap 2 4 (by decide) (by omega) w') (wanted_of (j := 1) (b := true) rfl rfl e61) (hK _ _ (le8_refl _) rfl)
        · intro ac w' hF hL hP hU K hK
          have hB := below_undrew hL
          have e75 : ac.eval (.tmp 75) = .slice (cutS (some ⟨yb, yo, none⟩) 2 cap) (4 - 2) (cap - 2) := hP 15 (by kernel_rfl)
          have e61 : ac.eval (.tmp 61) = .bool true := hP 1 (by kernel_rfl)
          refine rop_call 20 _ _ rfl #[.slice (cutS (some ⟨yb, yo, none⟩) 2 cap) (4 - 2) (cap - 2)] (by simp [e75]) (by kernel_rfl) (wanted_of (j := 1) (b := true) rfl rfl e61) ?_
          refine (HRB.out w' hB).mono ?_
          rintro e w2 ⟨rfl, hb⟩
          exact ⟨_, rfl, hK _ _ hb rfl⟩
        · intro ac w' hF hL hP hU K hK
          have hB := below_undrew hL
          have e70 : ac.eval (.tmp 70) = sumV A := hP 10 (by kernel_rfl)
          have e76 : ac.eval (.tmp 76) = sumV B := hP 16 (by kernel_rfl)
          have e61 : ac.eval (.tmp 61) = .bool true := hP 1 (by kernel_rfl)
          refine rop_call 13 _ _ rfl #[sumV A, sumV B] (by simp [e70, e76]) (by kernel_rfl) (wanted_of (j := 1) (b := true) rfl rfl e61) ?_
          refine (HND.out w' hB).mono ?_
          rintro e w2 ⟨rfl, hb⟩
          exact ⟨_, rfl, hK _ _ hb rfl⟩
        · intro ac w' hF hL hP hU K hK
          have hB := below_undrew hL
          have e66 : ac.eval (.tmp 66) = sumV T := hP 6 (by kernel_rfl)
          have e77 : ac.eval (.tmp 77) = sumV T := hP 17 (by kernel_rfl)
          have e61 : ac.eval (.tmp 61) = .bool true := hP 1 (by kernel_rfl)
          exact rop_bin _ _ _ _ _ rfl e66 e77 (guard_run .eql _ _ _ _ w') (eql_sum_tt T T HTl.out HTl.out rfl w') (wanted_of (j := 1) (b := true) rfl rfl e61) (hK _ _ (le8_refl _) rfl)
        · intro ac w' hF hL hP hU K hK
          have hB := below_undrew hL
          have e61 : ac.eval (.tmp 61) = .bool true := hP 1 (by kernel_rfl)
          have e78 : ac.eval (.tmp 78) = .bool true := hP 18 (by kernel_rfl)
          exact rop_pick _ _ _ rfl true e61 (by simpa using e78) (wanted_none rfl) (hK _ _ (le8_refl _) rfl)
        · intro ac w' hF hL hP hU K hK
          have hB := below_undrew hL
          have e79 : ac.eval (.tmp 79) = .bool true := hP 19 (by kernel_rfl)
          exact rop_move _ rfl e79 (wanted_none rfl) (hK _ _ (le8_refl _) rfl)
        · intro ac w' hF hL hP hU K hK
          have hB := below_undrew hL
          have e6 : ac.eval (.tmp 6) = .slice (some ⟨yb, yo, none⟩) M cap := hF.at 6 (by kernel_rfl)
          have e80 : ac.eval (.tmp 80) = .bool true := hP 20 (by kernel_rfl)
          exact rop_move _ rfl e6 (wanted_of (j := 20) (b := true) rfl rfl e80) (hK _ _ (le8_refl _) rfl)
        · intro ac w' hF hL hP hU K hK
          have hB := below_undrew hL
          have e81 : ac.eval (.tmp 81) = .slice (some ⟨yb, yo, none⟩) M cap := hP 21 (by kernel_rfl)
          have e80 : ac.eval (.tmp 80) = .bool true := hP 20 (by kernel_rfl)
          exact rop_sliceG _ _ _ _ _ rfl e81 rfl rfl rfl (scut_h (some ⟨yb, yo, none⟩) M cap 1 (by omega) w') (wanted_of (j := 20) (b := true) rfl rfl e80) (hK _ _ (le8_refl _) rfl)
        · intro ac w' hF hL hP hU K hK
          have hB := below_undrew hL
          have e82 : ac.eval (.tmp 82) = .slice (some ⟨yb, yo, none⟩) 1 cap := hP 22 (by kernel_rfl)
          have e80 : ac.eval (.tmp 80) = .bool true := hP 20 (by kernel_rfl)
          refine rop_call 20 _ _ rfl #[.slice (some ⟨yb, yo, none⟩) 1 cap] (by simp [e82]) (by kernel_rfl) (wanted_of (j := 20) (b := true) rfl rfl e80) ?_
          refine (HR1.out w' hB).mono ?_
          rintro e w2 ⟨rfl, hb⟩
          exact ⟨_, rfl, hK _ _ hb rfl⟩
        · intro ac w' hF hL hP hU K hK
          have hB := below_undrew hL
          have e6 : ac.eval (.tmp 6) = .slice (some ⟨yb, yo, none⟩) M cap := hF.at 6 (by kernel_rfl)
          have e80 : ac.eval (.tmp 80) = .bool true := hP 20 (by kernel_rfl)
          exact rop_move _ rfl e6 (wanted_of (j := 20) (b := true) rfl rfl e80) (hK _ _ (le8_refl _) rfl)
        · intro ac w' hF hL hP hU K hK
          have hB := below_undrew hL
          have e84 : ac.eval (.tmp 84) = .slice (some ⟨yb, yo, none⟩) M cap := hP 24 (by kernel_rfl)
          have e80 : ac.eval (.tmp 80) = .bool true := hP 20 (by kernel_rfl)
          exact rop_idx _ _ _ rfl e84 rfl (index_sums yb yo M cap 0 (by omega) w') (wanted_of (j := 20) (b := true) rfl rfl e80) (hK _ _ (le8_refl _) rfl)
        · intro ac w' hF hL hP hU K hK
          have hB := below_undrew hL
          have e85 : ac.eval (.tmp 85) = .pointer (some ⟨yb, yo + 0 * 32, none⟩) := hP 25 (by kernel_rfl)
          have e80 : ac.eval (.tmp 80) = .bool true := hP 20 (by kernel_rfl)
          exact rop_ld _ _ rfl e85 (run_loadAt_mid _ _ _ _ _ _ (below_range hB hyb hyr) Tryd.underlying23 rfl (sum_info' HYl.out)) (wanted_of (j := 20) (b := true) rfl rfl e80) (hK _ _ (le8_refl _) rfl)
        · intro ac w' hF hL hP hU K hK
          have hB := below_undrew hL
          have e83 : ac.eval (.tmp 83) = sumV y := hP 23 (by kernel_rfl)
          have e86 : ac.eval (.tmp 86) = sumV y := hP 26 (by kernel_rfl)
          have e80 : ac.eval (.tmp 80) = .bool true := hP 20 (by kernel_rfl)
          exact rop_bin _ _ _ _ _ rfl e83 e86 (guard_run .eql _ _ _ _ w') (eql_sum_tt y y HYl.out HYl.out rfl w') (wanted_of (j := 20) (b := true) rfl rfl e80) (hK _ _ (le8_refl _) rfl)
        · intro ac w' hF hL hP hU K hK
          have hB := below_undrew hL
          have e80 : ac.eval (.tmp 80) = .bool true := hP 20 (by kernel_rfl)
          have e87 : ac.eval (.tmp 87) = .bool true := hP 27 (by kernel_rfl)
          exact rop_pick _ _ _ rfl true e80 (by simpa using e87) (wanted_none rfl) (hK _ _ (le8_refl _) rfl)
        · intro ac w' hF hL hP hU K hK
          have hB := below_undrew hL
          have e88 : ac.eval (.tmp 88) = .bool true := hP 28 (by kernel_rfl)
          exact rop_assign _ rfl e88 (wanted_none rfl) (hK _ _ (le8_refl _) rfl)
        · intro ac w' hF hB hT
          have e4 : ac.eval (.tmp 4) = .bool true := hT 29 (by decide)
          rw [hF.setsG [60, 61, 62, 63, 64, 65, 66, 67, 68, 69, 70, 71, 72, 73, 74, 75, 76, 77, 78, 79, 80, 81, 82, 83, 84, 85, 86, 87, 88, 4] (by kernel_rfl)]
          simp only [List.foldl_cons, List.foldl_nil, List.setIfInBounds_toArray, List.set_cons_succ, List.set_cons_zero, e4]
          generalize ac.eval (.tmp 60) = u60
          generalize ac.eval (.tmp 61) = u61
          generalize ac.eval (.tmp 62) = u62
          generalize ac.eval (.tmp 63) = u63
          generalize ac.eval (.tmp 64) = u64
          generalize ac.eval (.tmp 65) = u65
          generalize ac.eval (.tmp 66) = u66
          generalize ac.eval (.tmp 67) = u67
          generalize ac.eval (.tmp 68) = u68
          generalize ac.eval (.tmp 69) = u69
          generalize ac.eval (.tmp 70) = u70
          generalize ac.eval (.tmp 71) = u71
          generalize ac.eval (.tmp 72) = u72
          generalize ac.eval (.tmp 73) = u73
          generalize ac.eval (.tmp 74) = u74
          generalize ac.eval (.tmp 75) = u75
          generalize ac.eval (.tmp 76) = u76
          generalize ac.eval (.tmp 77) = u77
          generalize ac.eval (.tmp 78) = u78
          generalize ac.eval (.tmp 79) = u79
          generalize ac.eval (.tmp 80) = u80
          generalize ac.eval (.tmp 81) = u81
          generalize ac.eval (.tmp 82) = u82
          generalize ac.eval (.tmp 83) = u83
          generalize ac.eval (.tmp 84) = u84
          generalize ac.eval (.tmp 85) = u85
          generalize ac.eval (.tmp 86) = u86
          generalize ac.eval (.tmp 87) = u87
          generalize ac.eval (.tmp 88) = u88
          clear e4 hT hF ac
          go_wp2
          go_ret
          exact ⟨rfl, below_step bw4 (Nat.le_refl _) hB⟩
    · have hbit' : bits .and .i64 p 3 = 2 := hbit
      clear hbit
      by_cases hlt : M < 8
      · have hlt' : (M : Int) < 8 := by omega
        go_wp2
        go_ret
        exact ⟨rfl, bw4⟩
      · have hlt' : ¬ (M : Int) < 8 := by omega
        obtain ⟨T, hT⟩ : ∃ T, T = Tree.root (m.take 8) := ⟨_, rfl⟩
        obtain ⟨A, hA⟩ : ∃ A, A = Tree.root (m.take 4) := ⟨_, rfl⟩
        obtain ⟨B, hBB⟩ : ∃ B, B = Tree.root ((m.drop 4).take 4) := ⟨_, rfl⟩
        have hTl : T.length = 32 := by rw [hT]; exact Tree.root_length _ (Hmo.out.take _)
        have hAl : A.length = 32 := by rw [hA]; exact Tree.root_length _ (Hmo.out.take _)
        have hBl : B.length = 32 := by rw [hBB]; exact Tree.root_length _ ((Hmo.out.drop _).take _)
        have hhalf := root_halves m 2 (by rw [← HM.out]; omega)
        have hTN : T = Tree.node A B := by rw [hT, hA, hBB]; exact hhalf
        have HTl := Lib.hid hTl
        have s2 : Sums W (.slice (some ⟨yb, yo, none⟩) 8 cap) (m.take 8) := H64.out.head 8 (by rw [← HM.out]; omega)
        have s1 : Sums W (.slice (some ⟨yb, yo, none⟩) 4 cap) (m.take 4) := H64.out.head 4 (by rw [← HM.out]; omega)
        have s3 : Sums W (.slice (cutS (some ⟨yb, yo, none⟩) 4 cap) (8 - 4) (cap - 4)) ((m.drop 4).take 4) := (H64.out.tail 4 (by rw [← HM.out]; omega)).head 4 (by rw [List.length_drop, ← HM.out]; omega)
        have s4 : Sums W (.slice (some ⟨yb, yo, none⟩) 1 cap) [y] := by
          have := H64.out.head 1 (by rw [← HM.out]; omega)
          rwa [HY1.out] at this
        have HR2 : Hid (∀ u : World, Below W.heap.size W u → Calls Tryd.prog 20 #[.slice (some ⟨yb, yo, none⟩) 8 cap] u fun e w' => e = .returned (sumV T) ∧ Below u.heap.size u w') := Lib.hid fun u hu => by
          rw [hT]
          exact leafRoot_any _ _ _ u rfl (by rw [List.length_take]; omega) (s2.old hu) (HK4.out.old hu)
        have HRA : Hid (∀ u : World, Below W.heap.size W u → Calls Tryd.prog 20 #[.slice (some ⟨yb, yo, none⟩) 4 cap] u fun e w' => e = .returned (sumV A) ∧ Below u.heap.size u w') := Lib.hid fun u hu => by
          rw [hA]
          exact leafRoot_any _ _ _ u rfl (by rw [List.length_take]; omega) (s1.old hu) (HK4.out.old hu)
        have HRB : Hid (∀ u : World, Below W.heap.size W u → Calls Tryd.prog 20 #[.slice (cutS (some ⟨yb, yo, none⟩) 4 cap) (8 - 4) (cap - 4)] u fun e w' => e = .returned (sumV B) ∧ Below u.heap.size u w') := Lib.hid fun u hu => by
          rw [hBB]
          exact leafRoot_any _ _ _ u rfl (by rw [List.length_take]; omega) (s3.old hu) (HK4.out.old hu)
        have HND : Hid (∀ u : World, Below W.heap.size W u → Calls Tryd.prog 13 #[sumV A, sumV B] u fun e w' => e = .returned (sumV T) ∧ Below u.heap.size u w') := Lib.hid fun u hu => by
          rw [hTN]
          exact leafNode_any A B hAl hBl u (HK4.out.old hu)
        have HR1 : Hid (∀ u : World, Below W.heap.size W u → Calls Tryd.prog 20 #[.slice (some ⟨yb, yo, none⟩) 1 cap] u fun e w' => e = .returned (sumV y) ∧ Below u.heap.size u w') := Lib.hid fun u hu =>
          leafRoot_any 1 [y] _ u rfl (by decide) (s4.old hu) (HK4.out.old hu)
        clear hT hA hBB hTl hAl hBl hhalf hTN s1 s2 s3 s4
        go_upto_region 14 with (fail)
        try simp only [Act.put]
        refine wp_region_tab [RT.is (.bool true), RT.is (.bool true), RT.is (.slice (some ⟨yb, yo, none⟩) M cap), RT.is (.int .i64 4), RT.is (.int .i64 8), RT.is (.slice (some ⟨yb, yo, none⟩) 8 cap), RT.is (sumV T), RT.is (.slice (some ⟨yb, yo, none⟩) M cap), RT.is (.int .i64 4), RT.is (.slice (some ⟨yb, yo, none⟩) 4 cap), RT.is (sumV A), RT.is (.slice (some ⟨yb, yo, none⟩) M cap), RT.is (.int .i64 4), RT.is (.int .i64 4), RT.is (.int .i64 8), RT.is (.slice (cutS (some ⟨yb, yo, none⟩) 4 cap) (8 - 4) (cap - 4)), RT.is (sumV B), RT.is (sumV T), RT.is (.bool true), RT.is (.bool true), RT.is (.bool true), RT.is (.slice (some ⟨yb, yo, none⟩) M cap), RT.is (.slice (some ⟨yb, yo, none⟩) 1 cap), RT.is (sumV y), RT.is (.slice (some ⟨yb, yo, none⟩) M cap), RT.is (.pointer (some ⟨yb, yo + 0 * 32, none⟩)), RT.is (sumV y), RT.is (.bool true), RT.is (.bool true), RT.is (.bool true)] (by kernel_rfl) (by kernel_rfl) (by kernel_rfl) (by kernel_rfl) ⟨?_, ?_, ?_, ?_, ?_, ?_, ?_, ?_, ?_, ?_, ?_, ?_, ?_, ?_, ?_, ?_, ?_, ?_, ?_, ?_, ?_, ?_, ?_, ?_, ?_, ?_, ?_, ?_, ?_, ?_, trivial⟩ ?_
        · intro ac w' hF hL hP hU K hK
          have hB := below_undrew hL
          have e5 : ac.eval (.tmp 5) = .bool true := hF.at 5 (by kernel_rfl)
          exact rop_move _ rfl e5 (wanted_none rfl) (hK _ _ (le8_refl _) rfl)
        · intro ac w' hF hL hP hU K hK
          have hB := below_undrew hL
          have e60 : ac.eval (.tmp 60) = .bool true := hP 0 (by kernel_rfl)
          exact rop_move _ rfl e60 (wanted_none rfl) (hK _ _ (le8_refl _) rfl)
        · intro ac w' hF hL hP hU K hK
          have hB := below_undrew hL
          have e6 : ac.eval (.tmp 6) = .slice (some ⟨yb, yo, none⟩) M cap := hF.at 6 (by kernel_rfl)
          have e61 : ac.eval (.tmp 61) = .bool true := hP 1 (by kernel_rfl)
          exact rop_move _ rfl e6 (wanted_of (j := 1) (b := true) rfl rfl e61) (hK _ _ (le8_refl _) rfl)
        · intro ac w' hF hL hP hU K hK
          have hB := below_undrew hL
          have e9 : ac.eval (.tmp 9) = .int .i64 4 := hF.at 9 (by kernel_rfl)
          have e61 : ac.eval (.tmp 61) = .bool true := hP 1 (by kernel_rfl)
          exact rop_move _ rfl e9 (wanted_of (j := 1) (b := true) rfl rfl e61) (hK _ _ (le8_refl _) rfl)
        · intro ac w' hF hL hP hU K hK
          have hB := below_undrew hL
          have e63 : ac.eval (.tmp 63) = .int .i64 4 := hP 3 (by kernel_rfl)
          have e61 : ac.eval (.tmp 61) = .bool true := hP 1 (by kernel_rfl)
          exact rop_bin _ _ _ _ _ rfl rfl e63 (guard_int _ _ _ _ _ _ _ w') (mul_lit4 w') (wanted_of (j := 1) (b := true) rfl rfl e61) (hK _ _ (le8_refl _) rfl)
        · intro ac w' hF hL hP hU K hK
          have hB := below_undrew hL
          have e62 : ac.eval (.tmp 62) = .slice (some ⟨yb, yo, none⟩) M cap := hP 2 (by kernel_rfl)
          have e64 : ac.eval (.tmp 64) = .int .i64 8 := hP 4 (by kernel_rfl)
          have e61 : ac.eval (.tmp 61) = .bool true := hP 1 (by kernel_rfl)
          exact rop_sliceG _ _ _ _ _ rfl e62 rfl (by simp [e64]) rfl (scut_h (some ⟨yb, yo, none⟩) M cap 8 (by omega) w') (wanted_of (j := 1) (b := true) rfl rfl e61) (hK _ _ (le8_refl _) rfl)
        · intro ac w' hF hL hP hU K hK
          have hB := below_undrew hL
          have e65 : ac.eval (.tmp 65) = .slice (some ⟨yb, yo, none⟩) 8 cap := hP 5 (by kernel_rfl)
          have e61 : ac.eval (.tmp 61) = .bool true := hP 1 (by kernel_rfl)
          refine rop_call 20 _ _ rfl #[.slice (some ⟨yb, yo, none⟩) 8 cap] (by simp [e65]) (by kernel_rfl) (wanted_of (j := 1) (b := true) rfl rfl e61) ?_
          refine (HR2.out w' hB).mono ?_
          rintro e w2 ⟨rfl, hb⟩
          exact ⟨_, rfl, hK _ _ hb rfl⟩
        · intro ac w' hF hL hP hU K hK
          have hB := below_undrew hL
          have e6 : ac.eval (.tmp 6) = .slice (some ⟨yb, yo, none⟩) M cap := hF.at 6 (by kernel_rfl)
          have e61 : ac.eval (.tmp 61) = .bool true := hP 1 (by kernel_rfl)
          exact rop_move _ rfl e6 (wanted_of (j := 1) (b := true) rfl rfl e61) (hK _ _ (le8_refl _) rfl)
        · intro ac w' hF hL hP hU K hK
          have hB := below_undrew hL
          have e9 : ac.eval (.tmp 9) = .int .i64 4 := hF.at 9 (by kernel_rfl)
          have e61 : ac.eval (.tmp 61) = .bool true := hP 1 (by kernel_rfl)
          exact rop_move _ rfl e9 (wanted_of (j := 1) (b := true) rfl rfl e61) (hK _ _ (le8_refl _) rfl)
        · intro ac w' hF hL hP hU K hK
          have hB := below_undrew hL
          have e67 : ac.eval (.tmp 67) = .slice (some ⟨yb, yo, none⟩) M cap := hP 7 (by kernel_rfl)
          have e68 : ac.eval (.tmp 68) = .int .i64 4 := hP 8 (by kernel_rfl)
          have e61 : ac.eval (.tmp 61) = .bool true := hP 1 (by kernel_rfl)
          exact rop_sliceG _ _ _ _ _ rfl e67 rfl (by simp [e68]) rfl (scut_h (some ⟨yb, yo, none⟩) M cap 4 (by omega) w') (wanted_of (j := 1) (b := true) rfl rfl e61) (hK _ _ (le8_refl _) rfl)
        · intro ac w' hF hL hP hU K hK
          have hB := below_undrew hL
          have e69 : ac.eval (.tmp 69) = .slice (some ⟨yb, yo, none⟩) 4 cap := hP 9 (by kernel_rfl)
          have e61 : ac.eval (.tmp 61) = .bool true := hP 1 (by kernel_rfl)
          refine rop_call 20 _ _ rfl #[.slice (some ⟨yb, yo, none⟩) 4 cap] (by simp [e69]) (by kernel_rfl) (wanted_of (j := 1) (b := true) rfl rfl e61) ?_
          refine (HRA.out w' hB).mono ?_
          rintro e w2 ⟨rfl, hb⟩
          exact ⟨_, rfl, hK _ _ hb rfl⟩
        · intro ac w' hF hL hP hU K hK
          have hB := below_undrew hL
          have e6 : ac.eval (.tmp 6) = .slice (some ⟨yb, yo, none⟩) M cap := hF.at 6 (by kernel_rfl)
          have e61 : ac.eval (.tmp 61) = .bool true := hP 1 (by kernel_rfl)
          exact rop_move _ rfl e6 (wanted_of (j := 1) (b := true) rfl rfl e61) (hK _ _ (le8_refl _) rfl)
        · intro ac w' hF hL hP hU K hK
          have hB := below_undrew hL
          have e9 : ac.eval (.tmp 9) = .int .i64 4 := hF.at 9 (by kernel_rfl)
          have e61 : ac.eval (.tmp 61) = .bool true := hP 1 (by kernel_rfl)
          exact rop_move _ rfl e9 (wanted_of (j := 1) (b := true) rfl rfl e61) (hK _ _ (le8_refl _) rfl)
        · intro ac w' hF hL hP hU K hK
          have hB := below_undrew hL
          have e9 : ac.eval (.tmp 9) = .int .i64 4 := hF.at 9 (by kernel_rfl)
          have e61 : ac.eval (.tmp 61) = .bool true := hP 1 (by kernel_rfl)
          exact rop_move _ rfl e9 (wanted_of (j := 1) (b := true) rfl rfl e61) (hK _ _ (le8_refl _) rfl)
        · intro ac w' hF hL hP hU K hK
          have hB := below_undrew hL
          have e73 : ac.eval (.tmp 73) = .int .i64 4 := hP 13 (by kernel_rfl)
          have e61 : ac.eval (.tmp 61) = .bool true := hP 1 (by kernel_rfl)
          exact rop_bin _ _ _ _ _ rfl rfl e73 (guard_int _ _ _ _ _ _ _ w') (mul_lit4 w') (wanted_of (j := 1) (b := true) rfl rfl e61) (hK _ _ (le8_refl _) rfl)
        · intro ac w' hF hL hP hU K hK
          have hB := below_undrew hL
          have e71 : ac.eval (.tmp 71) = .slice (some ⟨yb, yo, none⟩) M cap := hP 11 (by kernel_rfl)
          have e72 : ac.eval (.tmp 72) = .int .i64 4 := hP 12 (by kernel_rfl)
          have e74 : ac.eval (.tmp 74) = .int .i64 8 := hP 14 (by kernel_rfl)
          have e61 : ac.eval (.tmp 61) = .bool true := hP 1 (by kernel_rfl)
          exact rop_sliceG _ _ _ _ _ rfl e71 (by simp [e72]) (by simp [e74]) rfl (scut_lh (some ⟨yb, yo, none⟩) M cap 4 8 (by decide) (by omega) w') (wanted_of (j := 1) (b := true) rfl rfl e61) (hK _ _ (le8_refl _) rfl)
        · intro ac w' hF hL hP hU K hK
          have hB := below_undrew hL
          have e75 : ac.eval (.tmp 75) = .slice (cutS (some ⟨yb, yo, none⟩) 4 cap) (8 - 4) (cap - 4) := hP 15 (by kernel_rfl)
          have e61 : ac.eval (.tmp 61) = .bool true := hP 1 (by kernel_rfl)
          refine rop_call 20 _ _ rfl #[.slice (cutS (some ⟨yb, yo, none⟩) 4 cap) (8 - 4) (cap - 4)] (by simp [e75]) (by kernel_rfl) (wanted_of (j := 1) (b := true) rfl rfl e61) ?_
          refine (HRB.out w' hB).mono ?_
          rintro e w2 ⟨rfl, hb⟩
          exact ⟨_, rfl, hK _ _ hb rfl⟩
        · intro ac w' hF hL hP hU K hK
          have hB := below_undrew hL
          have e70 : ac.eval (.tmp 70) = sumV A := hP 10 (by kernel_rfl)
          have e76 : ac.eval (.tmp 76) = sumV B := hP 16 (by kernel_rfl)
          have e61 : ac.eval (.tmp 61) = .bool true := hP 1 (by kernel_rfl)
          refine rop_call 13 _ _ rfl #[sumV A, sumV B] (by simp [e70, e76]) (by kernel_rfl) (wanted_of (j := 1) (b := true) rfl rfl e61) ?_
          refine (HND.out w' hB).mono ?_
          rintro e w2 ⟨rfl, hb⟩
          exact ⟨_, rfl, hK _ _ hb rfl⟩
        · intro ac w' hF hL hP hU K hK
          have hB := below_undrew hL
          have e66 : ac.eval (.tmp 66) = sumV T := hP 6 (by kernel_rfl)
          have e77 : ac.eval (.tmp 77) = sumV T := hP 17 (by kernel_rfl)
          have e61 : ac.eval (.tmp 61) = .bool true := hP 1 (by kernel_rfl)
          exact rop_bin _ _ _ _ _ rfl e66 e77 (guard_run .eql _ _ _ _ w') (eql_sum_tt T T HTl.out HTl.out rfl w') (wanted_of (j := 1) (b := true) rfl rfl e61) (hK _ _ (le8_refl _) rfl)
        · intro ac w' hF hL hP hU K hK
          have hB := below_undrew hL
          have e61 : ac.eval (.tmp 61) = .bool true := hP 1 (by kernel_rfl)
          have e78 : ac.eval (.tmp 78) = .bool true := hP 18 (by kernel_rfl)
          exact rop_pick _ _ _ rfl true e61 (by simpa using e78) (wanted_none rfl) (hK _ _ (le8_refl _) rfl)
        · intro ac w' hF hL hP hU K hK
          have hB := below_undrew hL
          have e79 : ac.eval (.tmp 79) = .bool true := hP 19 (by kernel_rfl)
          exact rop_move _ rfl e79 (wanted_none rfl) (hK _ _ (le8_refl _) rfl)
        · intro ac w' hF hL hP hU K hK
          have hB := below_undrew hL
          have e6 : ac.eval (.tmp 6) = .slice (some ⟨yb, yo, none⟩) M cap := hF.at 6 (by kernel_rfl)
          have e80 : ac.eval (.tmp 80) = .bool true := hP 20 (by kernel_rfl)
          exact rop_move _ rfl e6 (wanted_of (j := 20) (b := true) rfl rfl e80) (hK _ _ (le8_refl _) rfl)
        · intro ac w' hF hL hP hU K hK
          have hB := below_undrew hL
          have e81 : ac.eval (.tmp 81) = .slice (some ⟨yb, yo, none⟩) M cap := hP 21 (by kernel_rfl)
          have e80 : ac.eval (.tmp 80) = .bool true := hP 20 (by kernel_rfl)
          exact rop_sliceG _ _ _ _ _ rfl e81 rfl rfl rfl (scut_h (some ⟨yb, yo, none⟩) M cap 1 (by omega) w') (wanted_of (j := 20) (b := true) rfl rfl e80) (hK _ _ (le8_refl _) rfl)
        · intro ac w' hF hL hP hU K hK
          have hB := below_undrew hL
          have e82 : ac.eval (.tmp 82) = .slice (some ⟨yb, yo, none⟩) 1 cap := hP 22 (by kernel_rfl)
          have e80 : ac.eval (.tmp 80) = .bool true := hP 20 (by kernel_rfl)
          refine rop_call 20 _ _ rfl #[.slice (some ⟨yb, yo, none⟩) 1 cap] (by simp [e82]) (by kernel_rfl) (wanted_of (j := 20) (b := true) rfl rfl e80) ?_
          refine (HR1.out w' hB).mono ?_
          rintro e w2 ⟨rfl, hb⟩
          exact ⟨_, rfl, hK _ _ hb rfl⟩
        · intro ac w' hF hL hP hU K hK
          have hB := below_undrew hL
          have e6 : ac.eval (.tmp 6) = .slice (some ⟨yb, yo, none⟩) M cap := hF.at 6 (by kernel_rfl)
          have e80 : ac.eval (.tmp 80) = .bool true := hP 20 (by kernel_rfl)
          exact rop_move _ rfl e6 (wanted_of (j := 20) (b := true) rfl rfl e80) (hK _ _ (le8_refl _) rfl)
        · intro ac w' hF hL hP hU K hK
          have hB := below_undrew hL
          have e84 : ac.eval (.tmp 84) = .slice (some ⟨yb, yo, none⟩) M cap := hP 24 (by kernel_rfl)
          have e80 : ac.eval (.tmp 80) = .bool true := hP 20 (by kernel_rfl)
          exact rop_idx _ _ _ rfl e84 rfl (index_sums yb yo M cap 0 (by omega) w') (wanted_of (j := 20) (b := true) rfl rfl e80) (hK _ _ (le8_refl _) rfl)
        · intro ac w' hF hL hP hU K hK
          have hB := below_undrew hL
          have e85 : ac.eval (.tmp 85) = .pointer (some ⟨yb, yo + 0 * 32, none⟩) := hP 25 (by kernel_rfl)
          have e80 : ac.eval (.tmp 80) = .bool true := hP 20 (by kernel_rfl)
          exact rop_ld _ _ rfl e85 (run_loadAt_mid _ _ _ _ _ _ (below_range hB hyb hyr) Tryd.underlying23 rfl (sum_info' HYl.out)) (wanted_of (j := 20) (b := true) rfl rfl e80) (hK _ _ (le8_refl _) rfl)
        · intro ac w' hF hL hP hU K hK
          have hB := below_undrew hL
          have e83 : ac.eval (.tmp 83) = sumV y := hP 23 (by kernel_rfl)
          have e86 : ac.eval (.tmp 86) = sumV y := hP 26 (by kernel_rfl)
          have e80 : ac.eval (.tmp 80) = .bool true := hP 20 (by kernel_rfl)
          exact rop_bin _ _ _ _ _ rfl e83 e86 (guard_run .eql _ _ _ _ w') (eql_sum_tt y y HYl.out HYl.out rfl w') (wanted_of (j := 20) (b := true) rfl rfl e80) (hK _ _ (le8_refl _) rfl)
        · intro ac w' hF hL hP hU K hK
          have hB := below_undrew hL
          have e80 : ac.eval (.tmp 80) = .bool true := hP 20 (by kernel_rfl)
          have e87 : ac.eval (.tmp 87) = .bool true := hP 27 (by kernel_rfl)
          exact rop_pick _ _ _ rfl true e80 (by simpa using e87) (wanted_none rfl) (hK _ _ (le8_refl _) rfl)
        · intro ac w' hF hL hP hU K hK
          have hB := below_undrew hL
          have e88 : ac.eval (.tmp 88) = .bool true := hP 28 (by kernel_rfl)
          exact rop_assign _ rfl e88 (wanted_none rfl) (hK _ _ (le8_refl _) rfl)
        · intro ac w' hF hB hT
          have e4 : ac.eval (.tmp 4) = .bool true := hT 29 (by decide)
          rw [hF.setsG [60, 61, 62, 63, 64, 65, 66, 67, 68, 69, 70, 71, 72, 73, 74, 75, 76, 77, 78, 79, 80, 81, 82, 83, 84, 85, 86, 87, 88, 4] (by kernel_rfl)]
          simp only [List.foldl_cons, List.foldl_nil, List.setIfInBounds_toArray, List.set_cons_succ, List.set_cons_zero, e4]
          generalize ac.eval (.tmp 60) = u60
          generalize ac.eval (.tmp 61) = u61
          generalize ac.eval (.tmp 62) = u62
          generalize ac.eval (.tmp 63) = u63
          generalize ac.eval (.tmp 64) = u64
          generalize ac.eval (.tmp 65) = u65
          generalize ac.eval (.tmp 66) = u66
          generalize ac.eval (.tmp 67) = u67
          generalize ac.eval (.tmp 68) = u68
          generalize ac.eval (.tmp 69) = u69
          generalize ac.eval (.tmp 70) = u70
          generalize ac.eval (.tmp 71) = u71
          generalize ac.eval (.tmp 72) = u72
          generalize ac.eval (.tmp 73) = u73
          generalize ac.eval (.tmp 74) = u74
          generalize ac.eval (.tmp 75) = u75
          generalize ac.eval (.tmp 76) = u76
          generalize ac.eval (.tmp 77) = u77
          generalize ac.eval (.tmp 78) = u78
          generalize ac.eval (.tmp 79) = u79
          generalize ac.eval (.tmp 80) = u80
          generalize ac.eval (.tmp 81) = u81
          generalize ac.eval (.tmp 82) = u82
          generalize ac.eval (.tmp 83) = u83
          generalize ac.eval (.tmp 84) = u84
          generalize ac.eval (.tmp 85) = u85
          generalize ac.eval (.tmp 86) = u86
          generalize ac.eval (.tmp 87) = u87
          generalize ac.eval (.tmp 88) = u88
          clear e4 hT hF ac
          go_wp2
          go_ret
          exact ⟨rfl, below_step bw4 (Nat.le_refl _) hB⟩
    · have hbit' : bits .and .i64 p 3 = 3 := hbit
      clear hbit
      by_cases hlt : M < 16
      · have hlt' : (M : Int) < 16 := by omega
        go_wp2
        go_ret
        exact ⟨rfl, bw4⟩
      · have hlt' : ¬ (M : Int) < 16 := by omega
        obtain ⟨T, hT⟩ : ∃ T, T = Tree.root (m.take 16) := ⟨_, rfl⟩
        obtain ⟨A, hA⟩ : ∃ A, A = Tree.root (m.take 8) := ⟨_, rfl⟩
        obtain ⟨B, hBB⟩ : ∃ B, B = Tree.root ((m.drop 8).take 8) := ⟨_, rfl⟩
        have hTl : T.length = 32 := by rw [hT]; exact Tree.root_length _ (Hmo.out.take _)
        have hAl : A.length = 32 := by rw [hA]; exact Tree.root_length _ (Hmo.out.take _)
        have hBl : B.length = 32 := by rw [hBB]; exact Tree.root_length _ ((Hmo.out.drop _).take _)
        have hhalf := root_halves m 3 (by rw [← HM.out]; omega)
        have hTN : T = Tree.node A B := by rw [hT, hA, hBB]; exact hhalf
        have HTl := Lib.hid hTl
        have s2 : Sums W (.slice (some ⟨yb, yo, none⟩) 16 cap) (m.take 16) := H64.out.head 16 (by rw [← HM.out]; omega)
        have s1 : Sums W (.slice (some ⟨yb, yo, none⟩) 8 cap) (m.take 8) := H64.out.head 8 (by rw [← HM.out]; omega)
        have s3 : Sums W (.slice (cutS (some ⟨yb, yo, none⟩) 8 cap) (16 - 8) (cap - 8)) ((m.drop 8).take 8) := (H64.out.tail 8 (by rw [← HM.out]; omega)).head 8 (by rw [List.length_drop, ← HM.out]; omega)
        have s4 : Sums W (.slice (some ⟨yb, yo, none⟩) 1 cap) [y] := by
          have := H64.out.head 1 (by rw [← HM.out]; omega)
          rwa [HY1.out] at this
        have HR2 : Hid (∀ u : World, Below W.heap.size W u → Calls Tryd.prog 20 #[.slice (some ⟨yb, yo, none⟩) 16 cap] u fun e w' => e = .returned (sumV T) ∧ Below u.heap.size u w') := Lib.hid fun u hu => by
          rw [hT]
          exact leafRoot_any _ _ _ u rfl (by rw [List.length_take]; omega) (s2.old hu) (HK4.out.old hu)
        have HRA : Hid (∀ u : World, Below W.heap.size W u → Calls Tryd.prog 20 #[.slice (some ⟨yb, yo, none⟩) 8 cap] u fun e w' => e = .returned (sumV A) ∧ Below u.heap.size u w') := Lib.hid fun u hu => by
          rw [hA]
          exact leafRoot_any _ _ _ u rfl (by rw [List.length_take]; omega) (s1.old hu) (HK4.out.old hu)
        have HRB : Hid (∀ u : World, Below W.heap.size W u → Calls Tryd.prog 20 #[.slice (cutS (some ⟨yb, yo, none⟩) 8 cap) (16 - 8) (cap - 8)] u fun e w' => e = .returned (sumV B) ∧ Below u.heap.size u w') := Lib.hid fun u hu => by
          rw [hBB]
          exact leafRoot_any _ _ _ u rfl (by rw [List.length_take]; omega) (s3.old hu) (HK4.out.old hu)
        have HND : Hid (∀ u : World, Below W.heap.size W u → Calls Tryd.prog 13 #[sumV A, sumV B] u fun e w' => e = .returned (sumV T) ∧ Below u.heap.size u w') := Lib.hid fun u hu => by
          rw [hTN]
          exact leafNode_any A B hAl hBl u (HK4.out.old hu)
        have HR1 : Hid (∀ u : World, Below W.heap.size W u → Calls Tryd.prog 20 #[.slice (some ⟨yb, yo, none⟩) 1 cap] u fun e w' => e = .returned (sumV y) ∧ Below u.heap.size u w') := Lib.hid fun u hu =>
          leafRoot_any 1 [y] _ u rfl (by decide) (s4.old hu) (HK4.out.old hu)
        clear hT hA hBB hTl hAl hBl hhalf hTN s1 s2 s3 s4
        go_upto_region 14 with (fail)
        try simp only [Act.put]
        refine wp_region_tab [RT.is (.bool true), RT.is (.bool true), RT.is (.slice (some ⟨yb, yo, none⟩) M cap), RT.is (.int .i64 8), RT.is (.int .i64 16), RT.is (.slice (some ⟨yb, yo, none⟩) 16 cap), RT.is (sumV T), RT.is (.slice (some ⟨yb, yo, none⟩) M cap), RT.is (.int .i64 8), RT.is (.slice (some ⟨yb, yo, none⟩) 8 cap), RT.is (sumV A), RT.is (.slice (some ⟨yb, yo, none⟩) M cap), RT.is (.int .i64 8), RT.is (.int .i64 8), RT.is (.int .i64 16), RT.is (.slice (cutS (some ⟨yb, yo, none⟩) 8 cap) (16 - 8) (cap - 8)), RT.is (sumV B), RT.is (sumV T), RT.is (.bool true), RT.is (.bool true), RT.is (.bool true), RT.is (.slice (some ⟨yb, yo, none⟩) M cap), RT.is (.slice (some ⟨yb, yo, none⟩) 1 cap), RT.is (sumV y), RT.is (.slice (some ⟨yb, yo, none⟩) M cap), RT.is (.pointer (some ⟨yb, yo + 0 * 32, none⟩)), RT.is (sumV y), RT.is (.bool true), RT.is (.bool true), RT.is (.bool true)] (by kernel_rfl) (by kernel_rfl) (by kernel_rfl) (by kernel_rfl) ⟨?_, ?_, ?_, ?_, ?_, ?_, ?_, ?_, ?_, ?_, ?_, ?_, ?_, ?_, ?_, ?_, ?_, ?_, ?_, ?_, ?_, ?_, ?_, ?_, ?_, ?_, ?_, ?_, ?_, ?_, trivial⟩ ?_
        · intro ac w' hF hL hP hU K hK
          have hB := below_undrew hL
          have e5 : ac.eval (.tmp 5) = .bool true := hF.at 5 (by kernel_rfl)
          exact rop_move _ rfl e5 (wanted_none rfl) (hK _ _ (le8_refl _) rfl)
        · intro ac w' hF hL hP hU K hK
          have hB := below_undrew hL
          have e60 : ac.eval (.tmp 60) = .bool true := hP 0 (by kernel_rfl)
          exact rop_move _ rfl e60 (wanted_none rfl) (hK _ _ (le8_refl _) rfl)
        · intro ac w' hF hL hP hU K hK
          have hB := below_undrew hL
          have e6 : ac.eval (.tmp 6) = .slice (some ⟨yb, yo, none⟩) M cap := hF.at 6 (by kernel_rfl)
          have e61 : ac.eval (.tmp 61) = .bool true := hP 1 (by kernel_rfl)
          exact rop_move _ rfl e6 (wanted_of (j := 1) (b := true) rfl rfl e61) (hK _ _ (le8_refl _) rfl)
        · intro ac w' hF hL hP hU K hK
          have hB := below_undrew hL
          have e9 : ac.eval (.tmp 9) = .int .i64 8 := hF.at 9 (by kernel_rfl)
          have e61 : ac.eval (.tmp 61) = .bool true := hP 1 (by kernel_rfl)
          exact rop_move _ rfl e9 (wanted_of (j := 1) (b := true) rfl rfl e61) (hK _ _ (le8_refl _) rfl)
        · intro ac w' hF hL hP hU K hK
          have hB := below_undrew hL
          have e63 : ac.eval (.tmp 63) = .int .i64 8 := hP 3 (by kernel_rfl)
          have e61 : ac.eval (.tmp 61) = .bool true := hP 1 (by kernel_rfl)
          exact rop_bin _ _ _ _ _ rfl rfl e63 (guard_int _ _ _ _ _ _ _ w') (mul_lit8 w') (wanted_of (j := 1) (b := true) rfl rfl e61) (hK _ _ (le8_refl _) rfl)
        · intro ac w' hF hL hP hU K hK
          have hB := below_undrew hL
          have e62 : ac.eval (.tmp 62) = .slice (some ⟨yb, yo, none⟩) M cap := hP 2 (by kernel_rfl)
          have e64 : ac.eval (.tmp 64) = .int .i64 16 := hP 4 (by kernel_rfl)
          have e61 : ac.eval (.tmp 61) = .bool true := hP 1 (by kernel_rfl)
          exact rop_sliceG _ _ _ _ _ rfl e62 rfl (by simp [e64]) rfl (scut_h (some ⟨yb, yo, none⟩) M cap 16 (by omega) w') (wanted_of (j := 1) (b := true) rfl rfl e61) (hK _ _ (le8_refl _) rfl)
        · intro ac w' hF hL hP hU K hK
          have hB := below_undrew hL
          have e65 : ac.eval (.tmp 65) = .slice (some ⟨yb, yo, none⟩) 16 cap := hP 5 (by kernel_rfl)
          have e61 : ac.eval (.tmp 61) = .bool true := hP 1 (by kernel_rfl)
          refine rop_call 20 _ _ rfl #[.slice (some ⟨yb, yo, none⟩) 16 cap] (by simp [e65]) (by kernel_rfl) (wanted_of (j := 1) (b := true) rfl rfl e61) ?_
          refine (HR2.out w' hB).mono ?_
          rintro e w2 ⟨rfl, hb⟩
          exact ⟨_, rfl, hK _ _ hb rfl⟩
        · intro ac w' hF hL hP hU K hK
          have hB := below_undrew hL
          have e6 : ac.eval (.tmp 6) = .slice (some ⟨yb, yo, none⟩) M cap := hF.at 6 (by kernel_rfl)
          have e61 : ac.eval (.tmp 61) = .bool true := hP 1 (by kernel_rfl)
          exact rop_move _ rfl e6 (wanted_of (j := 1) (b := true) rfl rfl e61) (hK _ _ (le8_refl _) rfl)
        · intro ac w' hF hL hP hU K hK
          have hB := below_undrew hL
          have e9 : ac.eval (.tmp 9) = .int .i64 8 := hF.at 9 (by kernel_rfl)
          have e61 : ac.eval (.tmp 61) = .bool true := hP 1 (by kernel_rfl)
          exact rop_move _ rfl e9 (wanted_of (j := 1) (b := true) rfl rfl e61) (hK _ _ (le8_refl _) rfl)
        · intro ac w' hF hL hP hU K hK
          have hB := below_undrew hL
          have e67 : ac.eval (.tmp 67) = .slice (some ⟨yb, yo, none⟩) M cap := hP 7 (by kernel_rfl)
          have e68 : ac.eval (.tmp 68) = .int .i64 8 := hP 8 (by kernel_rfl)
          have e61 : ac.eval (.tmp 61) = .bool true := hP 1 (by kernel_rfl)
          exact rop_sliceG _ _ _ _ _ rfl e67 rfl (by simp [e68]) rfl (scut_h (some ⟨yb, yo, none⟩) M cap 8 (by omega) w') (wanted_of (j := 1) (b := true) rfl rfl e61) (hK _ _ (le8_refl _) rfl)
        · intro ac w' hF hL hP hU K hK
          have hB := below_undrew hL
          have e69 : ac.eval (.tmp 69) = .slice (some ⟨yb, yo, none⟩) 8 cap := hP 9 (by kernel_rfl)
          have e61 : ac.eval (.tmp 61) = .bool true := hP 1 (by kernel_rfl)
          refine rop_call 20 _ _ rfl #[.slice (some ⟨yb, yo, none⟩) 8 cap] (by simp [e69]) (by kernel_rfl) (wanted_of (j := 1) (b := true) rfl rfl e61) ?_
          refine (HRA.out w' hB).mono ?_
          rintro e w2 ⟨rfl, hb⟩
          exact ⟨_, rfl, hK _ _ hb rfl⟩
        · intro ac w' hF hL hP hU K hK
          have hB := below_undrew hL
          have e6 : ac.eval (.tmp 6) = .slice (some ⟨yb, yo, none⟩) M cap := hF.at 6 (by kernel_rfl)
          have e61 : ac.eval (.tmp 61) = .bool true := hP 1 (by kernel_rfl)
          exact rop_move _ rfl e6 (wanted_of (j := 1) (b := true) rfl rfl e61) (hK _ _ (le8_refl _) rfl)
        · intro ac w' hF hL hP hU K hK
          have hB := below_undrew hL
          have e9 : ac.eval (.tmp 9) = .int .i64 8 := hF.at 9 (by kernel_rfl)
          have e61 : ac.eval (.tmp 61) = .bool true := hP 1 (by kernel_rfl)
          exact rop_move _ rfl e9 (wanted_of (j := 1) (b := true) rfl rfl e61) (hK _ _ (le8_refl _) rfl)
        · intro ac w' hF hL hP hU K hK
          have hB := below_undrew hL
          have e9 : ac.eval (.tmp 9) = .int .i64 8 := hF.at 9 (by kernel_rfl)
          have e61 : ac.eval (.tmp 61) = .bool true := hP 1 (by kernel_rfl)
          exact rop_move _ rfl e9 (wanted_of (j := 1) (b := true) rfl rfl e61) (hK _ _ (le8_refl _) rfl)
        · intro ac w' hF hL hP hU K hK
          have hB := below_undrew hL
          have e73 : ac.eval (.tmp 73) = .int .i64 8 := hP 13 (by kernel_rfl)
          have e61 : ac.eval (.tmp 61) = .bool true := hP 1 (by kernel_rfl)
          exact rop_bin _ _ _ _ _ rfl rfl e73 (guard_int _ _ _ _ _ _ _ w') (mul_lit8 w') (wanted_of (j := 1) (b := true) rfl rfl e61) (hK _ _ (le8_refl _) rfl)
        · intro ac w' hF hL hP hU K hK
          have hB := below_undrew hL
          have e71 : ac.eval (.tmp 71) = .slice (some ⟨yb, yo, none⟩) M cap := hP 11 (by kernel_rfl)
          have e72 : ac.eval (.tmp 72) = .int .i64 8 := hP 12 (by kernel_rfl)
          have e74 : ac.eval (.tmp 74) = .int .i64 16 := hP 14 (by kernel_rfl)
          have e61 : ac.eval (.tmp 61) = .bool true := hP 1 (by kernel_rfl)
          exact rop_sliceG _ _ _ _ _ rfl e71 (by simp [e72]) (by simp [e74]) rfl (scut_lh (some ⟨yb, yo, none⟩) M cap 8 16 (by decide) (by omega) w') (wanted_of (j := 1) (b := true) rfl rfl e61) (hK _ _ (le8_refl _) rfl)
        · intro ac w' hF hL hP hU K hK
          have hB := below_undrew hL
          have e75 : ac.eval (.tmp 75) = .slice (cutS (some ⟨yb, yo, none⟩) 8 cap) (16 - 8) (cap - 8) := hP 15 (by kernel_rfl)
          have e61 : ac.eval (.tmp 61) = .bool true := hP 1 (by kernel_rfl)
          refine rop_call 20 _ _ rfl #[.slice (cutS (some ⟨yb, yo, none⟩) 8 cap) (16 - 8) (cap - 8)] (by simp [e75]) (by kernel_rfl) (wanted_of (j := 1) (b := true) rfl rfl e61) ?_
          refine (HRB.out w' hB).mono ?_
          rintro e w2 ⟨rfl, hb⟩
          exact ⟨_, rfl, hK _ _ hb rfl⟩
        · intro ac w' hF hL hP hU K hK
          have hB := below_undrew hL
          have e70 : ac.eval (.tmp 70) = sumV A := hP 10 (by kernel_rfl)
          have e76 : ac.eval (.tmp 76) = sumV B := hP 16 (by kernel_rfl)
          have e61 : ac.eval (.tmp 61) = .bool true := hP 1 (by kernel_rfl)
          refine rop_call 13 _ _ rfl #[sumV A, sumV B] (by simp [e70, e76]) (by kernel_rfl) (wanted_of (j := 1) (b := true) rfl rfl e61) ?_
          refine (HND.out w' hB).mono ?_
          rintro e w2 ⟨rfl, hb⟩
          exact ⟨_, rfl, hK _ _ hb rfl⟩
        · intro ac w' hF hL hP hU K hK
          have hB := below_undrew hL
          have e66 : ac.eval (.tmp 66) = sumV T := hP 6 (by kernel_rfl)
          have e77 : ac.eval (.tmp 77) = sumV T := hP 17 (by kernel_rfl)
          have e61 : ac.eval (.tmp 61) = .bool true := hP 1 (by kernel_rfl)
          exact rop_bin _ _ _ _ _ rfl e66 e77 (guard_run .eql _ _ _ _ w') (eql_sum_tt T T HTl.out HTl.out rfl w') (wanted_of (j := 1) (b := true) rfl rfl e61) (hK _ _ (le8_refl _) rfl)
        · intro ac w' hF hL hP hU K hK
          have hB := below_undrew hL
          have e61 : ac.eval (.tmp 61) = .bool true := hP 1 (by kernel_rfl)
          have e78 : ac.eval (.tmp 78) = .bool true := hP 18 (by kernel_rfl)
          exact rop_pick _ _ _ rfl true e61 (by simpa using e78) (wanted_none rfl) (hK _ _ (le8_refl _) rfl)
        · intro ac w' hF hL hP hU K hK
          have hB := below_undrew hL
          have e79 : ac.eval (.tmp 79) = .bool true := hP 19 (by kernel_rfl)
          exact rop_move _ rfl e79 (wanted_none rfl) (hK _ _ (le8_refl _) rfl)
        · intro ac w' hF hL hP hU K hK
          have hB := below_undrew hL
          have e6 : ac.eval (.tmp 6) = .slice (some ⟨yb, yo, none⟩) M cap := hF.at 6 (by kernel_rfl)
          have e80 : ac.eval (.tmp 80) = .bool true := hP 20 (by kernel_rfl)
          exact rop_move _ rfl e6 (wanted_of (j := 20) (b := true) rfl rfl e80) (hK _ _ (le8_refl _) rfl)
        · intro ac w' hF hL hP hU K hK
          have hB := below_undrew hL
          have e81 : ac.eval (.tmp 81) = .slice (some ⟨yb, yo, none⟩) M cap := hP 21 (by kernel_rfl)
          have e80 : ac.eval (.tmp 80) = .bool true := hP 20 (by kernel_rfl)
          exact rop_sliceG _ _ _ _ _ rfl e81 rfl rfl rfl (scut_h (some ⟨yb, yo, none⟩) M cap 1 (by omega) w') (wanted_of (j := 20) (b := true) rfl rfl e80) (hK _ _ (le8_refl _) rfl)
        · intro ac w' hF hL hP hU K hK
          have hB := below_undrew hL
          have e82 : ac.eval (.tmp 82) = .slice (some ⟨yb, yo, none⟩) 1 cap := hP 22 (by kernel_rfl)
          have e80 : ac.eval (.tmp 80) = .bool true := hP 20 (by kernel_rfl)
          refine rop_call 20 _ _ rfl #[.slice (some ⟨yb, yo, none⟩) 1 cap] (by simp [e82]) (by kernel_rfl) (wanted_of (j := 20) (b := true) rfl rfl e80) ?_
          refine (HR1.out w' hB).mono ?_
          rintro e w2 ⟨rfl, hb⟩
          exact ⟨_, rfl, hK _ _ hb rfl⟩
        · intro ac w' hF hL hP hU K hK
          have hB := below_undrew hL
          have e6 : ac.eval (.tmp 6) = .slice (some ⟨yb, yo, none⟩) M cap := hF.at 6 (by kernel_rfl)
          have e80 : ac.eval (.tmp 80) = .bool true := hP 20 (by kernel_rfl)
          exact rop_move _ rfl e6 (wanted_of (j := 20) (b := true) rfl rfl e80) (hK _ _ (le8_refl _) rfl)
        · intro ac w' hF hL hP hU K hK
          have hB := below_undrew hL
          have e84 : ac.eval (.tmp 84) = .slice (some ⟨yb, yo, none⟩) M cap := hP 24 (by kernel_rfl)
          have e80 : ac.eval (.tmp 80) = .bool true := hP 20 (by kernel_rfl)
          exact rop_idx _ _ _ rfl e84 rfl (index_sums yb yo M cap 0 (by omega) w') (wanted_of (j := 20) (b := true) rfl rfl e80) (hK _ _ (le8_refl _) rfl)
        · intro ac w' hF hL hP hU K hK
          have hB := below_undrew hL
          have e85 : ac.eval (.tmp 85) = .pointer (some ⟨yb, yo + 0 * 32, none⟩) := hP 25 (by kernel_rfl)
          have e80 : ac.eval (.tmp 80) = .bool true := hP 20 (by kernel_rfl)
          exact rop_ld _ _ rfl e85 (run_loadAt_mid _ _ _ _ _ _ (below_range hB hyb hyr) Tryd.underlying23 rfl (sum_info' HYl.out)) (wanted_of (j := 20) (b := true) rfl rfl e80) (hK _ _ (le8_refl _) rfl)
        · intro ac w' hF hL hP hU K hK
          have hB := below_undrew hL
          have e83 : ac.eval (.tmp 83) = sumV y := hP 23 (by kernel_rfl)
          have e86 : ac.eval (.tmp 86) = sumV y := hP 26 (by kernel_rfl)
          have e80 : ac.eval (.tmp 80) = .bool true := hP 20 (by kernel_rfl)
          exact rop_bin _ _ _ _ _ rfl e83 e86 (guard_run .eql _ _ _ _ w') (eql_sum_tt y y HYl.out HYl.out rfl w') (wanted_of (j := 20) (b := true) rfl rfl e80) (hK _ _ (le8_refl _) rfl)
        · intro ac w' hF hL hP hU K hK
          have hB := below_undrew hL
          have e80 : ac.eval (.tmp 80) = .bool true := hP 20 (by kernel_rfl)
          have e87 : ac.eval (.tmp 87) = .bool true := hP 27 (by kernel_rfl)
          exact rop_pick _ _ _ rfl true e80 (by simpa using e87) (wanted_none rfl) (hK _ _ (le8_refl _) rfl)
        · intro ac w' hF hL hP hU K hK
          have hB := below_undrew hL
          have e88 : ac.eval (.tmp 88) = .bool true := hP 28 (by kernel_rfl)
          exact rop_assign _ rfl e88 (wanted_none rfl) (hK _ _ (le8_refl _) rfl)
        · intro ac w' hF hB hT
          have e4 : ac.eval (.tmp 4) = .bool true := hT 29 (by decide)
          rw [hF.setsG [60, 61, 62, 63, 64, 65, 66, 67, 68, 69, 70, 71, 72, 73, 74, 75, 76, 77, 78, 79, 80, 81, 82, 83, 84, 85, 86, 87, 88, 4] (by kernel_rfl)]
          simp only [List.foldl_cons, List.foldl_nil, List.setIfInBounds_toArray, List.set_cons_succ, List.set_cons_zero, e4]
          generalize ac.eval (.tmp 60) = u60
          generalize ac.eval (.tmp 61) = u61
          generalize ac.eval (.tmp 62) = u62
          generalize ac.eval (.tmp 63) = u63
          generalize ac.eval (.tmp 64) = u64
          generalize ac.eval (.tmp 65) = u65
          generalize ac.eval (.tmp 66) = u66
          generalize ac.eval (.tmp 67) = u67
          generalize ac.eval (.tmp 68) = u68
          generalize ac.eval (.tmp 69) = u69
          generalize ac.eval (.tmp 70) = u70
          generalize ac.eval (.tmp 71) = u71
          generalize ac.eval (.tmp 72) = u72
          generalize ac.eval (.tmp 73) = u73
          generalize ac.eval (.tmp 74) = u74
          generalize ac.eval (.tmp 75) = u75
          generalize ac.eval (.tmp 76) = u76
          generalize ac.eval (.tmp 77) = u77
          generalize ac.eval (.tmp 78) = u78
          generalize ac.eval (.tmp 79) = u79
          generalize ac.eval (.tmp 80) = u80
          generalize ac.eval (.tmp 81) = u81
          generalize ac.eval (.tmp 82) = u82
          generalize ac.eval (.tmp 83) = u83
          generalize ac.eval (.tmp 84) = u84
          generalize ac.eval (.tmp 85) = u85
          generalize ac.eval (.tmp 86) = u86
          generalize ac.eval (.tmp 87) = u87
          generalize ac.eval (.tmp 88) = u88
          clear e4 hT hF ac
          go_wp2
          go_ret
          exact ⟨rfl, below_step bw4 (Nat.le_refl _) hB⟩
set_option maxRecDepth 100000 in
theorem lifted (os : Os) (started : os.Started) (H : Type) (enc : TypeId × Value → H) :
    ReturnsInHanded {} Tryd.checked os 6 .any (fun w args => (Rows.leafTopsSpec.pre enc Tryd.prog Tryd.f6 [] false w args ∧ laidMetH Tryd.prog [("scrinium/sha.k", Rows.laid_scrinium_sha_k)] w) ∧ sizedMet enc Tryd.prog Tryd.f6 (OpenSpec.ofChange Rows.leafTopsSpec) false w args)
      (Rows.leafTopsSpec.post enc Tryd.prog Tryd.f6 false true false false) := by
  refine returnsInHanded_of_change_and (C := Tryd.checked) (X := fun w _ => laidMetH Tryd.prog [("scrinium/sha.k", Rows.laid_scrinium_sha_k)] w) (fun _ _ _ hh h => h.of_heap hh) lawOwn started (by kernel_rfl) Tryd.func6
    (ChangeSpec.witness_shaped (enc := enc) (C := Tryd.checked) (os := os) (X := fun w _ => laidMetH Tryd.prog [("scrinium/sha.k", Rows.laid_scrinium_sha_k)] w) false (World.doorLaid Tryd.prog 400 os) #[.slice none 0 0, .int .i64 0] 8 rfl (World.shaped_of_RefB (by kernel_rfl) (by kernel_rfl)) (by kernel_rfl) (by kernel_rfl) (by kernel_rfl) (door_met os _)) ?_
  intro W base args ds gs before hval0 hW _ _ hL _
  have hval : ∀ (j : Nat) t v, Tryd.f6.params[j]? = some t → args[j]? = some v → Value.okWide Tryd.prog W .any base t v := hval0
  have hW' := hW
  obtain ⟨p, q, hA0, hV, rfl, hfz, hnd⟩ := hW
  have hA : DataW.TrodAll enc Tryd.prog W 0 (fun _ => true) true Tryd.f6.params.toList args.toList ds p := hA0
  rw [Tryd.params6] at hA hval
  obtain ⟨v0, vs0, d0, ds0, p0, q0, hargs, rfl, rfl, h0, r0⟩ := trodAll_cons hA
  obtain ⟨v1, vs1, d1, ds1, p1, q1, rfl, rfl, rfl, h1, r1⟩ := trodAll_cons r0
  obtain ⟨rfl, rfl, rfl⟩ := trodAll_nil r1
  obtain rfl : args = #[v0, v1] := by cases args; simp_all
  obtain ⟨rfl, rfl⟩ := trodVars_none hV
  have hKT := KT_of_laid hL
  obtain ⟨a0, len0, cap0, rfl⟩ := okWide_slice Tryd.underlying29 (hval 0 29 v0 rfl rfl)
  obtain ⟨l0, w0⟩ := sums_of h0
  obtain ⟨a1, rfl, rfl, rfl, w1⟩ := open_int Tryd.underlying3 (hval 1 3 v1 rfl rfl) h1
  clear hA0 hval0
  obtain ⟨l1, m1⟩ := i64_bounds w1
  refine (walk (w := W) hKT _ l0 w0 a1 l1 m1).mono fun e W' ⟨he, bel⟩ => ?_
  subst he
  exact ⟨_, rfl, law_post rfl rfl (by kernel_rfl) hW' rfl bel⟩

theorem row_holds : Rows.LeafTopsSaid :=
  OpenClaim.holds_of_wide 6 Tryd.f6 rfl rfl rfl rfl rfl rfl rfl ⟨rfl, rfl, rfl, rfl, rfl⟩ rfl rfl rfl rfl rfl (by kernel_rfl) Tryd.func6 (by kernel_rfl)
    (of_decide_eq_true (by kernel_rfl)) (by unfold Func.isWrapper; first | (rw [if_pos (by decide +kernel)]; kernel_rfl) | (rw [if_neg (by decide +kernel)]; exact ⟨rfl, rfl⟩))
    (fun os started H enc _ => lifted os started H enc)

theorem holds : Rows.LeafTopsCardSaid :=
  Claim7.holds_tied_plain_at .later [] [.data] true Rows.leafTopsCard.stood.harness false
    row_holds (fun _ h => by cases h) (by kernel_rfl) (fun _ h => by cases h) leafTops_row_tie rfl ⟨rfl, rfl⟩ (by kernel_rfl) rfl
    (fun f fn hf hfn => by
      obtain rfl : f = 6 := Option.some.inj ((show Tryd.prog.funcNamed "scrinium/scriniumlaw09.LeafTops" = some 6 by kernel_rfl).symm.trans hf) |>.symm
      obtain rfl : fn = Tryd.f6 := (Option.some.inj (Tryd.func6.symm.trans hfn)).symm
      exact ⟨by kernel_rfl, fun j t ht => by
        rw [Tryd.params6] at ht
        have hm : t ∈ [29, 3] := by simpa using Array.mem_of_getElem? ht
        have hall : ([29, 3].all fun u => !Tryd.prog.wantsStandIn u) = true := by kernel_rfl
        exact (show Tryd.prog.wantsStandIn t = false by simpa using List.all_eq_true.1 hall t hm)⟩)
    (by kernel_rfl)
end Go.Proofs.YtldknddgcbhllaaDoor.leafTops

theorem Go.Proofs.YtldknddgcbhllaaDoor.leafTops_holds : Go.Proofs.YtldknddgcbhllaaDoor.Rows.LeafTopsCardSaid := Go.Proofs.YtldknddgcbhllaaDoor.leafTops.holds
#print axioms Go.Proofs.YtldknddgcbhllaaDoor.leafTops_holds
