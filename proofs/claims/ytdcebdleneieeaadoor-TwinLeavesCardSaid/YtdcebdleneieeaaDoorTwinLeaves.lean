/-
  TwinLeaves: where two leaves, or two paths, are right of one root, place and number, but unlike, twins are told; else none. For any place of any number, any two hashes and rows of as many hashes as a path has (up to 50); the numbers K of the package sha are as the program's own start lays them.
-/
import Derived.Test.YtdcebdleneieeaaDoorTwinArg
namespace Go.Proofs.YtdcebdleneieeaaDoor.twinLeaves
open Go.ChangeShapes Go.WideShapes Go.ChangeAt Go.RowKit

theorem firstT_mem : ∀ (a b : Ts) (p : TT), Tree.firstT a b = some p → p.1 ∈ a ∧ p.2 ∈ b
  | s :: a, t :: b, p, h => by
    rw [Tree.firstT_cons] at h
    split at h
    · injection h with h
      rw [← h]
      exact ⟨by simp, by simp⟩
    · obtain ⟨h1, h2⟩ := firstT_mem a b p h
      exact ⟨List.mem_cons_of_mem _ h1, List.mem_cons_of_mem _ h2⟩
  | [], _, _, h => by cases h
  | _ :: _, [], _, h => by cases h
theorem leaves_are {x y : List UInt8} {m n : Int} {A B : Hs} {p : TT} (h : leavesZ x y m n A B = some p) : Tree.areT p.1 p.2 = true := by
  unfold leavesZ at h
  split at h
  · exact Tree.firstT_are _ _ _ h
  · cases h
theorem leaves_small {x y : List UInt8} {m n : Int} {A B : Hs} {p : TT} (hx : x.length = 32) (hy : y.length = 32) (oA : all32 A) (oB : all32 B) (h : leavesZ x y m n A B = some p) : p.1.length ≤ 1000000 ∧ p.2.length ≤ 1000000 := by
  unfold leavesZ at h
  split at h
  · obtain ⟨h1, h2⟩ := firstT_mem _ _ _ h
    exact ⟨wayZ_small hx oA _ h1, wayZ_small hy oB _ h2⟩
  · cases h
theorem leaves_no {x y : List UInt8} {m n : Int} {A B : Hs} (h : (foldZ x m n A).1 ≠ (foldZ y m n B).1 ∨ (x = y ∧ A = B)) : leavesZ x y m n A B = none := by
  unfold leavesZ
  rcases h with h | ⟨rfl, rfl⟩
  · rw [decide_eq_false (fun e => h e.symm), Bool.and_false, Bool.and_false]
    rfl
  · rw [Tree.firstT_self]
    split <;> rfl
theorem leaves_yes {x y : List UInt8} {m n : Int} {A B : Hs} (hx : x.length = 32) (hy : y.length = 32) (oA : all32 A) (oB : all32 B) (hA : foldLen m n A = true) (hB : foldLen m n B = true) (he : (foldZ x m n A).1 = (foldZ y m n B).1) (hu : ¬ (x = y ∧ A = B)) : ∃ p, leavesZ x y m n A B = some p := by
  have e1 : foldZ x m n A = (Tree.fold x A (turnsZ m n), true) := by unfold foldZ; rw [hA]; rfl
  have e2 : foldZ y m n B = (Tree.fold y B (turnsZ m n), true) := by unfold foldZ; rw [hB]; rfl
  have w1 : wayZ x m n A = Tree.wayL x A (turnsZ m n) := by unfold wayZ; rw [if_pos hA]
  have w2 : wayZ y m n B = Tree.wayL y B (turnsZ m n) := by unfold wayZ; rw [if_pos hB]
  unfold leavesZ
  rw [e1, e2] at he ⊢
  rw [w1, w2]
  simp only [Bool.true_and]
  rw [decide_eq_true he.symm, if_pos rfl]
  rcases Tree.way_twins A B (turnsZ m n) x y (turnsZ_length hA) (turnsZ_length hB) hx hy oA oB he with h | h
  · exact absurd h hu
  · exact h
set_option maxHeartbeats 16000000 in
set_option maxRecDepth 100000 in
theorem walk {w : World} (hK : KT w) (m n : Int) (hm : -9223372036854775808 ≤ m ∧ m ≤ 9223372036854775807) (hn : -9223372036854775808 ≤ n ∧ n ≤ 9223372036854775807) (x0 x1 : List UInt8) (hx0 : x0.length = 32) (hx1 : x1.length = 32) (va : Value) (la : Hs) (hva : Sums w va la) (vb : Value) (lb : Hs) (hvb : Sums w vb lb) (o : Bool) :
    Calls Tryd.prog 5 #[.agg #[.int .i64 m, .int .i64 n], .agg (sc [x0, x1]).toArray, .agg #[va, vb, .bool o]] w fun e w' => e = .returned (.bool true) ∧ Below w.heap.size w w' := by
  obtain ⟨aa, ca, rfl, hca, -⟩ := hva.slice
  obtain ⟨ab, cb, rfl, hcb, -⟩ := hvb.slice
  obtain ⟨na, hna⟩ : ∃ k, k = la.length := ⟨_, rfl⟩
  obtain ⟨nb, hnb⟩ : ∃ k, k = lb.length := ⟨_, rfl⟩
  rw [← hna] at hva hca ⊢
  rw [← hnb] at hvb hcb ⊢
  have hkw : ∀ u, Below w.heap.size w u → KT u := fun u hu => hK.old hu
  obtain ⟨z, hz⟩ : ∃ z, z = (if okP m n then ((Tree.long m.toNat n.toNat : Nat) : Int) else -1) := ⟨_, rfl⟩
  have HLO : Hid (∀ u, Calls Tryd.prog 19 #[.int .i64 m, .int .i64 n] u fun e w' => e = .returned (.int .i64 z) ∧ Below u.heap.size u w') := Lib.hid fun u => by rw [hz]; exact rlong_any m n u hm.2 hn.2
  obtain ⟨bad, hbad⟩ : ∃ b, b = decide (z < 0 ∨ 50 < z ∨ (na : Int) < z ∨ (nb : Int) < z) := ⟨_, rfl⟩
  obtain ⟨w0, hw0⟩ : ∃ w0, w0 = ((w.alloc (.cells #[.int .i64 m, .int .i64 n] 22)).alloc (.cells (sc [x0, x1]).toArray 25)).alloc (.cells #[.slice aa na ca, .slice ab nb cb, .bool o] 28) := ⟨_, rfl⟩
  have b0 : Below w.heap.size w w0 := by rw [hw0]; exact (((Below.refl _ _).alloc (Nat.le_refl _) _).alloc (by simp) _).alloc (by simp; omega) _
  have j3 : w0.heap[w.heap.size]? = some (.cells #[.int .i64 m, .int .i64 n] 22 (0, 0)) := by
    rw [hw0]
    exact ((((Below.refl (w.alloc (.cells #[.int .i64 m, .int .i64 n] 22)).heap.size _).alloc (Nat.le_refl _) _).alloc (by simp) _).block w.heap.size (by simp)).trans (heap_alloc_last w _)
  have j4 : w0.heap[w.heap.size + 1]? = some (.cells (sc [x0, x1]).toArray 25 (0, 0)) := by
    rw [hw0]
    refine (Below.heap_alloc _ _ _ (by simp)).trans ?_
    have := heap_alloc_last (w.alloc (.cells #[.int .i64 m, .int .i64 n] 22)) (.cells (sc [x0, x1]).toArray 25)
    rwa [World.size_alloc] at this
  have j5 : w0.heap[w.heap.size + 1 + 1]? = some (.cells #[.slice aa na ca, .slice ab nb cb, .bool o] 28 (0, 0)) := by
    have := heap_alloc_last ((w.alloc (.cells #[.int .i64 m, .int .i64 n] 22)).alloc (.cells (sc [x0, x1]).toArray 25)) (.cells #[.slice aa na ca, .slice ab nb cb, .bool o] 28)
    rwa [World.size_alloc, World.size_alloc, ← hw0] at this
  have HX0l := Lib.hid hx0
  have HX1l := Lib.hid hx1
  have HXo : Hid (all32 [x0, x1]) := Lib.hid (by
    intro x hx
    simp at hx
    rcases hx with rfl | rfl
    · exact hx0
    · exact hx1)
  have HAW := Lib.hid (awake13_any w0 (hkw _ b0))
  have HKW := Lib.hid hkw
  have HVA := Lib.hid hva
  have HVB := Lib.hid hvb
  have Hz := Lib.hid hz
  have Hna := Lib.hid hna
  have Hnb := Lib.hid hnb
  have HBAD := Lib.hid hbad
  have HJ3 := Lib.hid j3
  have HJ4 := Lib.hid j4
  have HJ5 := Lib.hid j5
  have Hm := Lib.hid hm
  have Hn := Lib.hid hn
  clear hx0 hx1 hva hvb hna hnb hK hkw j3 j4 j5 hm hn hz hbad
  obtain ⟨XX, hXX⟩ : ∃ XX, XX = (sc [x0, x1]).toArray := ⟨_, rfl⟩
  rw [← hXX] at hw0 ⊢
  clear hXX
  go_enter Tryd.func5, Tryd.ntmps5
  go_upto_region 1 with (fail)
  rw [← hw0]
  clear hw0
  go_upto_region 2 with (go_at_call 9; ((with_reducible refine HAW.out.mono ?_); rintro e w1 ⟨rfl, b1⟩; have b2 := below_step b0 (Nat.le_refl _) b1))
  have Jq3' : Hid (w1.heap[w.heap.size]? = some (.cells #[.int .i64 m, .int .i64 n] 22 (0, 0))) := Lib.hid (heap_oldP HJ3.out b1)
  have Jq4' : Hid (w1.heap[w.heap.size + 1]? = some (.cells (sc [x0, x1]).toArray 25 (0, 0))) := Lib.hid (heap_oldP HJ4.out b1)
  have Jq5' : Hid (w1.heap[w.heap.size + 1 + 1]? = some (.cells #[.slice aa na ca, .slice ab nb cb, .bool o] 28 (0, 0))) := Lib.hid (heap_oldP HJ5.out b1)
  have HBW := Lib.hid b2
  obtain ⟨q5, hq5⟩ : ∃ q, q = w.heap.size + 1 + 1 := ⟨_, rfl⟩
  rw [← hq5] at Jq5' ⊢
  obtain ⟨q4, hq4⟩ : ∃ q, q = w.heap.size + 1 := ⟨_, rfl⟩
  rw [← hq4] at Jq4' ⊢
  obtain ⟨q3, hq3⟩ : ∃ q, q = w.heap.size := ⟨_, rfl⟩
  rw [← hq3] at Jq3' ⊢
  have Jq3 := Jq3'
  have Jq4 := Jq4'
  have Jq5 := Jq5'
  clear hq3 hq4 hq5 Jq3' Jq4' Jq5' HJ3 HJ4 HJ5 b0 b1 b2 HAW
  have i30 : ∀ u, (Instr.indexAt 22 (.pointer (some ⟨q3, 0, none⟩)) (.int .i64 0)).run Tryd.prog u = .ok (.pointer (some ⟨q3, 0, none⟩)) u := fun u => idx2i q3 0 0 rfl (by decide) u
  have i31 : ∀ u, (Instr.indexAt 22 (.pointer (some ⟨q3, 0, none⟩)) (.int .i64 1)).run Tryd.prog u = .ok (.pointer (some ⟨q3, 1, none⟩)) u := fun u => idx2i q3 1 1 rfl (by decide) u
  have i40 : ∀ u, (Instr.indexAt 25 (.pointer (some ⟨q4, 0, none⟩)) (.int .i64 0)).run Tryd.prog u = .ok (.pointer (some ⟨q4, 0, none⟩)) u := fun u => by simpa using idx2S q4 0 0 rfl (by decide) u
  have i41 : ∀ u, (Instr.indexAt 25 (.pointer (some ⟨q4, 0, none⟩)) (.int .i64 1)).run Tryd.prog u = .ok (.pointer (some ⟨q4, 32, none⟩)) u := fun u => by simpa using idx2S q4 1 1 rfl (by decide) u
  have c30 : w1.cell? ⟨q3, 0, none⟩ = some (.int .i64 m) := cell_of Jq3.out 0
  have c31 : w1.cell? ⟨q3, 1, none⟩ = some (.int .i64 n) := cell_of Jq3.out 1
  go_upto_region 3 with (first
    | (go_at_call 19; (refine (HLO.out _).mono ?_); rintro e v2 ⟨rfl, c2⟩))
  obtain ⟨w2, hw2⟩ : ∃ u, u = v2 := ⟨_, rfl⟩
  have k2 : Below w1.heap.size w1 w2 := by rw [hw2]; exact c2
  rw [← hw2]
  replace Jq3 := Lib.hid (heap_oldP Jq3.out k2)
  replace Jq4 := Lib.hid (heap_oldP Jq4.out k2)
  replace Jq5 := Lib.hid (heap_oldP Jq5.out k2)
  replace HBW := Lib.hid (below_step HBW.out (Nat.le_refl _) k2)
  clear hw2 k2 c2 c30 c31
  obtain ⟨W, hW⟩ : ∃ W, W = w2 := ⟨_, rfl⟩
  subst hW
  go_cut [44] from 25 to 44 (fun s wx => s = .bool bad ∧ Below W.heap.size W wx)
  case first =>
    by_cases g0 : z < 0
    · have hb : bad = true := by rw [HBAD.out]; exact decide_eq_true (.inl g0)
      try simp only [Act.put]
      refine wp_region_tab0 [RT.is (.int .i64 z), RT.is (.bool true), RT.is (.bool true), RT.is undef, RT.is undef, RT.is (.bool true), RT.is (.bool true), RT.is undef, RT.is undef, RT.is undef, RT.is undef, RT.is undef, RT.is (.bool true), RT.is (.bool true), RT.is undef, RT.is undef, RT.is undef, RT.is undef, RT.is undef, RT.is (.bool true)] (by kernel_rfl) (by kernel_rfl) (by kernel_rfl) ⟨?_, ?_, ?_, ?_, ?_, ?_, ?_, ?_, ?_, ?_, ?_, ?_, ?_, ?_, ?_, ?_, ?_, ?_, ?_, ?_, trivial⟩ ?_
      · intro ac w' hF hL hP hU K hK
        have hB : Below _ _ _ := hL
        have e8 : ac.eval (.tmp 8) = .int .i64 z := hF.at 8 (by kernel_rfl)
        exact rop_move _ rfl e8 (wanted_none rfl) (hK _ _ (le8_refl _) rfl)
      · intro ac w' hF hL hP hU K hK
        have hB : Below _ _ _ := hL
        have e25 : ac.eval (.tmp 25) = .int .i64 z := hP 0 (by kernel_rfl)
        exact rop_bin _ _ _ _ _ rfl e25 rfl (guard_int _ _ _ _ _ _ _ w') (lss_iG _ _ _ (by simp; omega) w') (wanted_none rfl) (hK _ _ (le8_refl _) rfl)
      · intro ac w' hF hL hP hU K hK
        have hB : Below _ _ _ := hL
        have e26 : ac.eval (.tmp 26) = .bool true := hP 1 (by kernel_rfl)
        exact rop_move _ rfl e26 (wanted_none rfl) (hK _ _ (le8_refl _) rfl)
      · intro ac w' hF hL hP hU K hK
        have hB : Below _ _ _ := hL
        have e27 : ac.eval (.tmp 27) = .bool true := hP 2 (by kernel_rfl)
        exact rop_offG (j := 2) (b := false) rfl rfl e27 (by decide) (hK _ _ (le8_refl _) rfl)
      · intro ac w' hF hL hP hU K hK
        have hB : Below _ _ _ := hL
        have e27 : ac.eval (.tmp 27) = .bool true := hP 2 (by kernel_rfl)
        exact rop_offG (j := 2) (b := false) rfl rfl e27 (by decide) (hK _ _ (le8_refl _) rfl)
      · intro ac w' hF hL hP hU K hK
        have hB : Below _ _ _ := hL
        have e27 : ac.eval (.tmp 27) = .bool true := hP 2 (by kernel_rfl)
        exact rop_pick _ _ _ rfl true e27 (by rfl) (wanted_none rfl) (hK _ _ (le8_refl _) rfl)
      · intro ac w' hF hL hP hU K hK
        have hB : Below _ _ _ := hL
        have e30 : ac.eval (.tmp 30) = .bool true := hP 5 (by kernel_rfl)
        exact rop_move _ rfl e30 (wanted_none rfl) (hK _ _ (le8_refl _) rfl)
      · intro ac w' hF hL hP hU K hK
        have hB : Below _ _ _ := hL
        have e31 : ac.eval (.tmp 31) = .bool true := hP 6 (by kernel_rfl)
        exact rop_offG (j := 6) (b := false) rfl rfl e31 (by decide) (hK _ _ (le8_refl _) rfl)
      · intro ac w' hF hL hP hU K hK
        have hB : Below _ _ _ := hL
        have e31 : ac.eval (.tmp 31) = .bool true := hP 6 (by kernel_rfl)
        exact rop_offG (j := 6) (b := false) rfl rfl e31 (by decide) (hK _ _ (le8_refl _) rfl)
      · intro ac w' hF hL hP hU K hK
        have hB : Below _ _ _ := hL
        have e31 : ac.eval (.tmp 31) = .bool true := hP 6 (by kernel_rfl)
        exact rop_offG (j := 6) (b := false) rfl rfl e31 (by decide) (hK _ _ (le8_refl _) rfl)
      · intro ac w' hF hL hP hU K hK
        have hB : Below _ _ _ := hL
        have e31 : ac.eval (.tmp 31) = .bool true := hP 6 (by kernel_rfl)
        exact rop_offG (j := 6) (b := false) rfl rfl e31 (by decide) (hK _ _ (le8_refl _) rfl)
      · intro ac w' hF hL hP hU K hK
        have hB : Below _ _ _ := hL
        have e31 : ac.eval (.tmp 31) = .bool true := hP 6 (by kernel_rfl)
        exact rop_offG (j := 6) (b := false) rfl rfl e31 (by decide) (hK _ _ (le8_refl _) rfl)
      · intro ac w' hF hL hP hU K hK
        have hB : Below _ _ _ := hL
        have e31 : ac.eval (.tmp 31) = .bool true := hP 6 (by kernel_rfl)
        exact rop_pick _ _ _ rfl true e31 (by rfl) (wanted_none rfl) (hK _ _ (le8_refl _) rfl)
      · intro ac w' hF hL hP hU K hK
        have hB : Below _ _ _ := hL
        have e37 : ac.eval (.tmp 37) = .bool true := hP 12 (by kernel_rfl)
        exact rop_move _ rfl e37 (wanted_none rfl) (hK _ _ (le8_refl _) rfl)
      · intro ac w' hF hL hP hU K hK
        have hB : Below _ _ _ := hL
        have e38 : ac.eval (.tmp 38) = .bool true := hP 13 (by kernel_rfl)
        exact rop_offG (j := 13) (b := false) rfl rfl e38 (by decide) (hK _ _ (le8_refl _) rfl)
      · intro ac w' hF hL hP hU K hK
        have hB : Below _ _ _ := hL
        have e38 : ac.eval (.tmp 38) = .bool true := hP 13 (by kernel_rfl)
        exact rop_offG (j := 13) (b := false) rfl rfl e38 (by decide) (hK _ _ (le8_refl _) rfl)
      · intro ac w' hF hL hP hU K hK
        have hB : Below _ _ _ := hL
        have e38 : ac.eval (.tmp 38) = .bool true := hP 13 (by kernel_rfl)
        exact rop_offG (j := 13) (b := false) rfl rfl e38 (by decide) (hK _ _ (le8_refl _) rfl)
      · intro ac w' hF hL hP hU K hK
        have hB : Below _ _ _ := hL
        have e38 : ac.eval (.tmp 38) = .bool true := hP 13 (by kernel_rfl)
        exact rop_offG (j := 13) (b := false) rfl rfl e38 (by decide) (hK _ _ (le8_refl _) rfl)
      · intro ac w' hF hL hP hU K hK
        have hB : Below _ _ _ := hL
        have e38 : ac.eval (.tmp 38) = .bool true := hP 13 (by kernel_rfl)
        exact rop_offG (j := 13) (b := false) rfl rfl e38 (by decide) (hK _ _ (le8_refl _) rfl)
      · intro ac w' hF hL hP hU K hK
        have hB : Below _ _ _ := hL
        have e38 : ac.eval (.tmp 38) = .bool true := hP 13 (by kernel_rfl)
        exact rop_pick _ _ _ rfl true e38 (by rfl) (wanted_none rfl) (hK _ _ (le8_refl _) rfl)
      · intro ac w' hF hB hT
        have e44 : ac.eval (.tmp 44) = .bool true := hT 19 (by decide)
        rw [hF.setsG [25, 26, 27, 28, 29, 30, 31, 32, 33, 34, 35, 36, 37, 38, 39, 40, 41, 42, 43, 44] (by kernel_rfl)]
        simp only [List.foldl_cons, List.foldl_nil, List.setIfInBounds_toArray, List.set_cons_succ, List.set_cons_zero, e44]
        generalize ac.eval (.tmp 25) = u25
        generalize ac.eval (.tmp 26) = u26
        generalize ac.eval (.tmp 27) = u27
        generalize ac.eval (.tmp 28) = u28
        generalize ac.eval (.tmp 29) = u29
        generalize ac.eval (.tmp 30) = u30
        generalize ac.eval (.tmp 31) = u31
        generalize ac.eval (.tmp 32) = u32
        generalize ac.eval (.tmp 33) = u33
        generalize ac.eval (.tmp 34) = u34
        generalize ac.eval (.tmp 35) = u35
        generalize ac.eval (.tmp 36) = u36
        generalize ac.eval (.tmp 37) = u37
        generalize ac.eval (.tmp 38) = u38
        generalize ac.eval (.tmp 39) = u39
        generalize ac.eval (.tmp 40) = u40
        generalize ac.eval (.tmp 41) = u41
        generalize ac.eval (.tmp 42) = u42
        generalize ac.eval (.tmp 43) = u43
        clear e44 hT hF ac
        go_wp2_with fail
        go_meet
        exact ⟨by rw [hb], hB⟩
    · by_cases g1 : 50 < z
      · have hb : bad = true := by rw [HBAD.out]; exact decide_eq_true (.inr (.inl g1))
        try simp only [Act.put]
        refine wp_region_tab0 [RT.is (.int .i64 z), RT.is (.bool false), RT.is (.bool false), RT.is (.int .i64 z), RT.is (.bool true), RT.is (.bool true), RT.is (.bool true), RT.is undef, RT.is undef, RT.is undef, RT.is undef, RT.is undef, RT.is (.bool true), RT.is (.bool true), RT.is undef, RT.is undef, RT.is undef, RT.is undef, RT.is undef, RT.is (.bool true)] (by kernel_rfl) (by kernel_rfl) (by kernel_rfl) ⟨?_, ?_, ?_, ?_, ?_, ?_, ?_, ?_, ?_, ?_, ?_, ?_, ?_, ?_, ?_, ?_, ?_, ?_, ?_, ?_, trivial⟩ ?_
        · intro ac w' hF hL hP hU K hK
          have hB : Below _ _ _ := hL
          have e8 : ac.eval (.tmp 8) = .int .i64 z := hF.at 8 (by kernel_rfl)
          exact rop_move _ rfl e8 (wanted_none rfl) (hK _ _ (le8_refl _) rfl)
        · intro ac w' hF hL hP hU K hK
          have hB : Below _ _ _ := hL
          have e25 : ac.eval (.tmp 25) = .int .i64 z := hP 0 (by kernel_rfl)
          exact rop_bin _ _ _ _ _ rfl e25 rfl (guard_int _ _ _ _ _ _ _ w') (lss_iG _ _ _ (by simp; omega) w') (wanted_none rfl) (hK _ _ (le8_refl _) rfl)
        · intro ac w' hF hL hP hU K hK
          have hB : Below _ _ _ := hL
          have e26 : ac.eval (.tmp 26) = .bool false := hP 1 (by kernel_rfl)
          exact rop_move _ rfl e26 (wanted_none rfl) (hK _ _ (le8_refl _) rfl)
        · intro ac w' hF hL hP hU K hK
          have hB : Below _ _ _ := hL
          have e8 : ac.eval (.tmp 8) = .int .i64 z := hF.at 8 (by kernel_rfl)
          have e27 : ac.eval (.tmp 27) = .bool false := hP 2 (by kernel_rfl)
          exact rop_move _ rfl e8 (wanted_of (j := 2) (b := false) rfl rfl e27) (hK _ _ (le8_refl _) rfl)
        · intro ac w' hF hL hP hU K hK
          have hB : Below _ _ _ := hL
          have e28 : ac.eval (.tmp 28) = .int .i64 z := hP 3 (by kernel_rfl)
          have e27 : ac.eval (.tmp 27) = .bool false := hP 2 (by kernel_rfl)
          exact rop_bin _ _ _ _ _ rfl e28 rfl (guard_int _ _ _ _ _ _ _ w') (gtr_iG _ _ _ (by simp; omega) w') (wanted_of (j := 2) (b := false) rfl rfl e27) (hK _ _ (le8_refl _) rfl)
        · intro ac w' hF hL hP hU K hK
          have hB : Below _ _ _ := hL
          have e27 : ac.eval (.tmp 27) = .bool false := hP 2 (by kernel_rfl)
          have e29 : ac.eval (.tmp 29) = .bool true := hP 4 (by kernel_rfl)
          exact rop_pick _ _ _ rfl false e27 (by simpa using e29) (wanted_none rfl) (hK _ _ (le8_refl _) rfl)
        · intro ac w' hF hL hP hU K hK
          have hB : Below _ _ _ := hL
          have e30 : ac.eval (.tmp 30) = .bool true := hP 5 (by kernel_rfl)
          exact rop_move _ rfl e30 (wanted_none rfl) (hK _ _ (le8_refl _) rfl)
        · intro ac w' hF hL hP hU K hK
          have hB : Below _ _ _ := hL
          have e31 : ac.eval (.tmp 31) = .bool true := hP 6 (by kernel_rfl)
          exact rop_offG (j := 6) (b := false) rfl rfl e31 (by decide) (hK _ _ (le8_refl _) rfl)
        · intro ac w' hF hL hP hU K hK
          have hB : Below _ _ _ := hL
          have e31 : ac.eval (.tmp 31) = .bool true := hP 6 (by kernel_rfl)
          exact rop_offG (j := 6) (b := false) rfl rfl e31 (by decide) (hK _ _ (le8_refl _) rfl)
        · intro ac w' hF hL hP hU K hK
          have hB : Below _ _ _ := hL
          have e31 : ac.eval (.tmp 31) = .bool true := hP 6 (by kernel_rfl)
          exact rop_offG (j := 6) (b := false) rfl rfl e31 (by decide) (hK _ _ (le8_refl _) rfl)
        · intro ac w' hF hL hP hU K hK
          have hB : Below _ _ _ := hL
          have e31 : ac.eval (.tmp 31) = .bool true := hP 6 (by kernel_rfl)
          exact rop_offG (j := 6) (b := false) rfl rfl e31 (by decide) (hK _ _ (le8_refl _) rfl)
        · intro ac w' hF hL hP hU K hK
          have hB : Below _ _ _ := hL
          have e31 : ac.eval (.tmp 31) = .bool true := hP 6 (by kernel_rfl)
          exact rop_offG (j := 6) (b := false) rfl rfl e31 (by decide) (hK _ _ (le8_refl _) rfl)
        · intro ac w' hF hL hP hU K hK
          have hB : Below _ _ _ := hL
          have e31 : ac.eval (.tmp 31) = .bool true := hP 6 (by kernel_rfl)
          exact rop_pick _ _ _ rfl true e31 (by rfl) (wanted_none rfl) (hK _ _ (le8_refl _) rfl)
        · intro ac w' hF hL hP hU K hK
          have hB : Below _ _ _ := hL
          have e37 : ac.eval (.tmp 37) = .bool true := hP 12 (by kernel_rfl)
          exact rop_move _ rfl e37 (wanted_none rfl) (hK _ _ (le8_refl _) rfl)
        · intro ac w' hF hL hP hU K hK
          have hB : Below _ _ _ := hL
          have e38 : ac.eval (.tmp 38) = .bool true := hP 13 (by kernel_rfl)
          exact rop_offG (j := 13) (b := false) rfl rfl e38 (by decide) (hK _ _ (le8_refl _) rfl)
        · intro ac w' hF hL hP hU K hK
          have hB : Below _ _ _ := hL
          have e38 : ac.eval (.tmp 38) = .bool true := hP 13 (by kernel_rfl)
          exact rop_offG (j := 13) (b := false) rfl rfl e38 (by decide) (hK _ _ (le8_refl _) rfl)
        · intro ac w' hF hL hP hU K hK
          have hB : Below _ _ _ := hL
          have e38 : ac.eval (.tmp 38) = .bool true := hP 13 (by kernel_rfl)
          exact rop_offG (j := 13) (b := false) rfl rfl e38 (by decide) (hK _ _ (le8_refl _) rfl)
        · intro ac w' hF hL hP hU K hK
          have hB : Below _ _ _ := hL
          have e38 : ac.eval (.tmp 38) = .bool true := hP 13 (by kernel_rfl)
          exact rop_offG (j := 13) (b := false) rfl rfl e38 (by decide) (hK _ _ (le8_refl _) rfl)
        · intro ac w' hF hL hP hU K hK
          have hB : Below _ _ _ := hL
          have e38 : ac.eval (.tmp 38) = .bool true := hP 13 (by kernel_rfl)
          exact rop_offG (j := 13) (b := false) rfl rfl e38 (by decide) (hK _ _ (le8_refl _) rfl)
        · intro ac w' hF hL hP hU K hK
          have hB : Below _ _ _ := hL
          have e38 : ac.eval (.tmp 38) = .bool true := hP 13 (by kernel_rfl)
          exact rop_pick _ _ _ rfl true e38 (by rfl) (wanted_none rfl) (hK _ _ (le8_refl _) rfl)
        · intro ac w' hF hB hT
          have e44 : ac.eval (.tmp 44) = .bool true := hT 19 (by decide)
          rw [hF.setsG [25, 26, 27, 28, 29, 30, 31, 32, 33, 34, 35, 36, 37, 38, 39, 40, 41, 42, 43, 44] (by kernel_rfl)]
          simp only [List.foldl_cons, List.foldl_nil, List.setIfInBounds_toArray, List.set_cons_succ, List.set_cons_zero, e44]
          generalize ac.eval (.tmp 25) = u25
          generalize ac.eval (.tmp 26) = u26
          generalize ac.eval (.tmp 27) = u27
          generalize ac.eval (.tmp 28) = u28
          generalize ac.eval (.tmp 29) = u29
          generalize ac.eval (.tmp 30) = u30
          generalize ac.eval (.tmp 31) = u31
          generalize ac.eval (.tmp 32) = u32
          generalize ac.eval (.tmp 33) = u33
          generalize ac.eval (.tmp 34) = u34
          generalize ac.eval (.tmp 35) = u35
          generalize ac.eval (.tmp 36) = u36
          generalize ac.eval (.tmp 37) = u37
          generalize ac.eval (.tmp 38) = u38
          generalize ac.eval (.tmp 39) = u39
          generalize ac.eval (.tmp 40) = u40
          generalize ac.eval (.tmp 41) = u41
          generalize ac.eval (.tmp 42) = u42
          generalize ac.eval (.tmp 43) = u43
          clear e44 hT hF ac
          go_wp2_with fail
          go_meet
          exact ⟨by rw [hb], hB⟩
      · by_cases g2 : (na : Int) < z
        · have hb : bad = true := by rw [HBAD.out]; exact decide_eq_true (.inr (.inr (.inl g2)))
          try simp only [Act.put]
          refine wp_region_tab0 [RT.is (.int .i64 z), RT.is (.bool false), RT.is (.bool false), RT.is (.int .i64 z), RT.is (.bool false), RT.is (.bool false), RT.is (.bool false), RT.is (.pointer (some ⟨q5, 0, none⟩)), RT.is (.slice aa na ca), RT.is (.int .i64 (na : Int)), RT.is (.int .i64 z), RT.is (.bool true), RT.is (.bool true), RT.is (.bool true), RT.is undef, RT.is undef, RT.is undef, RT.is undef, RT.is undef, RT.is (.bool true)] (by kernel_rfl) (by kernel_rfl) (by kernel_rfl) ⟨?_, ?_, ?_, ?_, ?_, ?_, ?_, ?_, ?_, ?_, ?_, ?_, ?_, ?_, ?_, ?_, ?_, ?_, ?_, ?_, trivial⟩ ?_
          · intro ac w' hF hL hP hU K hK
            have hB : Below _ _ _ := hL
            have e8 : ac.eval (.tmp 8) = .int .i64 z := hF.at 8 (by kernel_rfl)
            exact rop_move _ rfl e8 (wanted_none rfl) (hK _ _ (le8_refl _) rfl)
          · intro ac w' hF hL hP hU K hK
            have hB : Below _ _ _ := hL
            have e25 : ac.eval (.tmp 25) = .int .i64 z := hP 0 (by kernel_rfl)
            exact rop_bin _ _ _ _ _ rfl e25 rfl (guard_int _ _ _ _ _ _ _ w') (lss_iG _ _ _ (by simp; omega) w') (wanted_none rfl) (hK _ _ (le8_refl _) rfl)
          · intro ac w' hF hL hP hU K hK
            have hB : Below _ _ _ := hL
            have e26 : ac.eval (.tmp 26) = .bool false := hP 1 (by kernel_rfl)
            exact rop_move _ rfl e26 (wanted_none rfl) (hK _ _ (le8_refl _) rfl)
          · intro ac w' hF hL hP hU K hK
            have hB : Below _ _ _ := hL
            have e8 : ac.eval (.tmp 8) = .int .i64 z := hF.at 8 (by kernel_rfl)
            have e27 : ac.eval (.tmp 27) = .bool false := hP 2 (by kernel_rfl)
            exact rop_move _ rfl e8 (wanted_of (j := 2) (b := false) rfl rfl e27) (hK _ _ (le8_refl _) rfl)
          · intro ac w' hF hL hP hU K hK
            have hB : Below _ _ _ := hL
            have e28 : ac.eval (.tmp 28) = .int .i64 z := hP 3 (by kernel_rfl)
            have e27 : ac.eval (.tmp 27) = .bool false := hP 2 (by kernel_rfl)
            exact rop_bin _ _ _ _ _ rfl e28 rfl (guard_int _ _ _ _ _ _ _ w') (gtr_iG _ _ _ (by simp; omega) w') (wanted_of (j := 2) (b := false) rfl rfl e27) (hK _ _ (le8_refl _) rfl)
          · intro ac w' hF hL hP hU K hK
            have hB : Below _ _ _ := hL
            have e27 : ac.eval (.tmp 27) = .bool false := hP 2 (by kernel_rfl)
            have e29 : ac.eval (.tmp 29) = .bool false := hP 4 (by kernel_rfl)
            exact rop_pick _ _ _ rfl false e27 (by simpa using e29) (wanted_none rfl) (hK _ _ (le8_refl _) rfl)
          · intro ac w' hF hL hP hU K hK
            have hB : Below _ _ _ := hL
            have e30 : ac.eval (.tmp 30) = .bool false := hP 5 (by kernel_rfl)
            exact rop_move _ rfl e30 (wanted_none rfl) (hK _ _ (le8_refl _) rfl)
          · intro ac w' hF hL hP hU K hK
            have hB : Below _ _ _ := hL
            have e5 : ac.eval (.tmp 5) = .pointer (some ⟨q5, 0, none⟩) := hF.at 5 (by kernel_rfl)
            have e31 : ac.eval (.tmp 31) = .bool false := hP 6 (by kernel_rfl)
            exact rop_fld _ _ _ rfl e5 (fld_rows q5 0 (by decide) w') (wanted_of (j := 6) (b := false) rfl rfl e31) (hK _ _ (le8_refl _) rfl)
          · intro ac w' hF hL hP hU K hK
            have hB : Below _ _ _ := hL
            have e32 : ac.eval (.tmp 32) = .pointer (some ⟨q5, 0, none⟩) := hP 7 (by kernel_rfl)
            have e31 : ac.eval (.tmp 31) = .bool false := hP 6 (by kernel_rfl)
            exact rop_ld _ _ rfl e32 (load_sumslP (cell_of (heap_oldP Jq5.out hB) 0)) (wanted_of (j := 6) (b := false) rfl rfl e31) (hK _ _ (le8_refl _) rfl)
          · intro ac w' hF hL hP hU K hK
            have hB : Below _ _ _ := hL
            have e33 : ac.eval (.tmp 33) = .slice aa na ca := hP 8 (by kernel_rfl)
            have e31 : ac.eval (.tmp 31) = .bool false := hP 6 (by kernel_rfl)
            exact rop_lenG _ Tryd.underlying26 rfl e33 (wanted_of (j := 6) (b := false) rfl rfl e31) (hK _ _ (le8_refl _) rfl)
          · intro ac w' hF hL hP hU K hK
            have hB : Below _ _ _ := hL
            have e8 : ac.eval (.tmp 8) = .int .i64 z := hF.at 8 (by kernel_rfl)
            have e31 : ac.eval (.tmp 31) = .bool false := hP 6 (by kernel_rfl)
            exact rop_move _ rfl e8 (wanted_of (j := 6) (b := false) rfl rfl e31) (hK _ _ (le8_refl _) rfl)
          · intro ac w' hF hL hP hU K hK
            have hB : Below _ _ _ := hL
            have e34 : ac.eval (.tmp 34) = .int .i64 (na : Int) := hP 9 (by kernel_rfl)
            have e35 : ac.eval (.tmp 35) = .int .i64 z := hP 10 (by kernel_rfl)
            have e31 : ac.eval (.tmp 31) = .bool false := hP 6 (by kernel_rfl)
            exact rop_bin _ _ _ _ _ rfl e34 e35 (guard_int _ _ _ _ _ _ _ w') (lss_iG _ _ _ (by simp; omega) w') (wanted_of (j := 6) (b := false) rfl rfl e31) (hK _ _ (le8_refl _) rfl)
          · intro ac w' hF hL hP hU K hK
            have hB : Below _ _ _ := hL
            have e31 : ac.eval (.tmp 31) = .bool false := hP 6 (by kernel_rfl)
            have e36 : ac.eval (.tmp 36) = .bool true := hP 11 (by kernel_rfl)
            exact rop_pick _ _ _ rfl false e31 (by simpa using e36) (wanted_none rfl) (hK _ _ (le8_refl _) rfl)
          · intro ac w' hF hL hP hU K hK
            have hB : Below _ _ _ := hL
            have e37 : ac.eval (.tmp 37) = .bool true := hP 12 (by kernel_rfl)
            exact rop_move _ rfl e37 (wanted_none rfl) (hK _ _ (le8_refl _) rfl)
          · intro ac w' hF hL hP hU K hK
            have hB : Below _ _ _ := hL
            have e38 : ac.eval (.tmp 38) = .bool true := hP 13 (by kernel_rfl)
            exact rop_offG (j := 13) (b := false) rfl rfl e38 (by decide) (hK _ _ (le8_refl _) rfl)
          · intro ac w' hF hL hP hU K hK
            have hB : Below _ _ _ := hL
            have e38 : ac.eval (.tmp 38) = .bool true := hP 13 (by kernel_rfl)
            exact rop_offG (j := 13) (b := false) rfl rfl e38 (by decide) (hK _ _ (le8_refl _) rfl)
          · intro ac w' hF hL hP hU K hK
            have hB : Below _ _ _ := hL
            have e38 : ac.eval (.tmp 38) = .bool true := hP 13 (by kernel_rfl)
            exact rop_offG (j := 13) (b := false) rfl rfl e38 (by decide) (hK _ _ (le8_refl _) rfl)
          · intro ac w' hF hL hP hU K hK
            have hB : Below _ _ _ := hL
            have e38 : ac.eval (.tmp 38) = .bool true := hP 13 (by kernel_rfl)
            exact rop_offG (j := 13) (b := false) rfl rfl e38 (by decide) (hK _ _ (le8_refl _) rfl)
          · intro ac w' hF hL hP hU K hK
            have hB : Below _ _ _ := hL
            have e38 : ac.eval (.tmp 38) = .bool true := hP 13 (by kernel_rfl)
            exact rop_offG (j := 13) (b := false) rfl rfl e38 (by decide) (hK _ _ (le8_refl _) rfl)
          · intro ac w' hF hL hP hU K hK
            have hB : Below _ _ _ := hL
            have e38 : ac.eval (.tmp 38) = .bool true := hP 13 (by kernel_rfl)
            exact rop_pick _ _ _ rfl true e38 (by rfl) (wanted_none rfl) (hK _ _ (le8_refl _) rfl)
          · intro ac w' hF hB hT
            have e44 : ac.eval (.tmp 44) = .bool true := hT 19 (by decide)
            rw [hF.setsG [25, 26, 27, 28, 29, 30, 31, 32, 33, 34, 35, 36, 37, 38, 39, 40, 41, 42, 43, 44] (by kernel_rfl)]
            simp only [List.foldl_cons, List.foldl_nil, List.setIfInBounds_toArray, List.set_cons_succ, List.set_cons_zero, e44]
            generalize ac.eval (.tmp 25) = u25
            generalize ac.eval (.tmp 26) = u26
            generalize ac.eval (.tmp 27) = u27
            generalize ac.eval (.tmp 28) = u28
            generalize ac.eval (.tmp 29) = u29
            generalize ac.eval (.tmp 30) = u30
            generalize ac.eval (.tmp 31) = u31
            generalize ac.eval (.tmp 32) = u32
            generalize ac.eval (.tmp 33) = u33
            generalize ac.eval (.tmp 34) = u34
            generalize ac.eval (.tmp 35) = u35
            generalize ac.eval (.tmp 36) = u36
            generalize ac.eval (.tmp 37) = u37
            generalize ac.eval (.tmp 38) = u38
            generalize ac.eval (.tmp 39) = u39
            generalize ac.eval (.tmp 40) = u40
            generalize ac.eval (.tmp 41) = u41
            generalize ac.eval (.tmp 42) = u42
            generalize ac.eval (.tmp 43) = u43
            clear e44 hT hF ac
            go_wp2_with fail
            go_meet
            exact ⟨by rw [hb], hB⟩
        · by_cases g3 : (nb : Int) < z
          · have hb : bad = true := by rw [HBAD.out]; exact decide_eq_true (.inr (.inr (.inr g3)))
            try simp only [Act.put]
            refine wp_region_tab0 [RT.is (.int .i64 z), RT.is (.bool false), RT.is (.bool false), RT.is (.int .i64 z), RT.is (.bool false), RT.is (.bool false), RT.is (.bool false), RT.is (.pointer (some ⟨q5, 0, none⟩)), RT.is (.slice aa na ca), RT.is (.int .i64 (na : Int)), RT.is (.int .i64 z), RT.is (.bool false), RT.is (.bool false), RT.is (.bool false), RT.is (.pointer (some ⟨q5, 1, none⟩)), RT.is (.slice ab nb cb), RT.is (.int .i64 (nb : Int)), RT.is (.int .i64 z), RT.is (.bool true), RT.is (.bool true)] (by kernel_rfl) (by kernel_rfl) (by kernel_rfl) ⟨?_, ?_, ?_, ?_, ?_, ?_, ?_, ?_, ?_, ?_, ?_, ?_, ?_, ?_, ?_, ?_, ?_, ?_, ?_, ?_, trivial⟩ ?_
            · intro ac w' hF hL hP hU K hK
              have hB : Below _ _ _ := hL
              have e8 : ac.eval (.tmp 8) = .int .i64 z := hF.at 8 (by kernel_rfl)
              exact rop_move _ rfl e8 (wanted_none rfl) (hK _ _ (le8_refl _) rfl)
            · intro ac w' hF hL hP hU K hK
              have hB : Below _ _ _ := hL
              have e25 : ac.eval (.tmp 25) = .int .i64 z := hP 0 (by kernel_rfl)
              exact rop_bin _ _ _ _ _ rfl e25 rfl (guard_int _ _ _ _ _ _ _ w') (lss_iG _ _ _ (by simp; omega) w') (wanted_none rfl) (hK _ _ (le8_refl _) rfl)
            · intro ac w' hF hL hP hU K hK
              have hB : Below _ _ _ := hL
              have e26 : ac.eval (.tmp 26) = .bool false := hP 1 (by kernel_rfl)
              exact rop_move _ rfl e26 (wanted_none rfl) (hK _ _ (le8_refl _) rfl)
            · intro ac w' hF hL hP hU K hK
              have hB : Below _ _ _ := hL
              have e8 : ac.eval (.tmp 8) = .int .i64 z := hF.at 8 (by kernel_rfl)
              have e27 : ac.eval (.tmp 27) = .bool false := hP 2 (by kernel_rfl)
              exact rop_move _ rfl e8 (wanted_of (j := 2) (b := false) rfl rfl e27) (hK _ _ (le8_refl _) rfl)
            · intro ac w' hF hL hP hU K hK
              have hB : Below _ _ _ := hL
              have e28 : ac.eval (.tmp 28) = .int .i64 z := hP 3 (by kernel_rfl)
              have e27 : ac.eval (.tmp 27) = .bool false := hP 2 (by kernel_rfl)
              exact rop_bin _ _ _ _ _ rfl e28 rfl (guard_int _ _ _ _ _ _ _ w') (gtr_iG _ _ _ (by simp; omega) w') (wanted_of (j := 2) (b := false) rfl rfl e27) (hK _ _ (le8_refl _) rfl)
            · intro ac w' hF hL hP hU K hK
              have hB : Below _ _ _ := hL
              have e27 : ac.eval (.tmp 27) = .bool false := hP 2 (by kernel_rfl)
              have e29 : ac.eval (.tmp 29) = .bool false := hP 4 (by kernel_rfl)
              exact rop_pick _ _ _ rfl false e27 (by simpa using e29) (wanted_none rfl) (hK _ _ (le8_refl _) rfl)
            · intro ac w' hF hL hP hU K hK
              have hB : Below _ _ _ := hL
              have e30 : ac.eval (.tmp 30) = .bool false := hP 5 (by kernel_rfl)
              exact rop_move _ rfl e30 (wanted_none rfl) (hK _ _ (le8_refl _) rfl)
            · intro ac w' hF hL hP hU K hK
              have hB : Below _ _ _ := hL
              have e5 : ac.eval (.tmp 5) = .pointer (some ⟨q5, 0, none⟩) := hF.at 5 (by kernel_rfl)
              have e31 : ac.eval (.tmp 31) = .bool false := hP 6 (by kernel_rfl)
              exact rop_fld _ _ _ rfl e5 (fld_rows q5 0 (by decide) w') (wanted_of (j := 6) (b := false) rfl rfl e31) (hK _ _ (le8_refl _) rfl)
            · intro ac w' hF hL hP hU K hK
              have hB : Below _ _ _ := hL
              have e32 : ac.eval (.tmp 32) = .pointer (some ⟨q5, 0, none⟩) := hP 7 (by kernel_rfl)
              have e31 : ac.eval (.tmp 31) = .bool false := hP 6 (by kernel_rfl)
              exact rop_ld _ _ rfl e32 (load_sumslP (cell_of (heap_oldP Jq5.out hB) 0)) (wanted_of (j := 6) (b := false) rfl rfl e31) (hK _ _ (le8_refl _) rfl)
            · intro ac w' hF hL hP hU K hK
              have hB : Below _ _ _ := hL
              have e33 : ac.eval (.tmp 33) = .slice aa na ca := hP 8 (by kernel_rfl)
              have e31 : ac.eval (.tmp 31) = .bool false := hP 6 (by kernel_rfl)
              exact rop_lenG _ Tryd.underlying26 rfl e33 (wanted_of (j := 6) (b := false) rfl rfl e31) (hK _ _ (le8_refl _) rfl)
            · intro ac w' hF hL hP hU K hK
              have hB : Below _ _ _ := hL
              have e8 : ac.eval (.tmp 8) = .int .i64 z := hF.at 8 (by kernel_rfl)
              have e31 : ac.eval (.tmp 31) = .bool false := hP 6 (by kernel_rfl)
              exact rop_move _ rfl e8 (wanted_of (j := 6) (b := false) rfl rfl e31) (hK _ _ (le8_refl _) rfl)
            · intro ac w' hF hL hP hU K hK
              have hB : Below _ _ _ := hL
              have e34 : ac.eval (.tmp 34) = .int .i64 (na : Int) := hP 9 (by kernel_rfl)
              have e35 : ac.eval (.tmp 35) = .int .i64 z := hP 10 (by kernel_rfl)
              have e31 : ac.eval (.tmp 31) = .bool false := hP 6 (by kernel_rfl)
              exact rop_bin _ _ _ _ _ rfl e34 e35 (guard_int _ _ _ _ _ _ _ w') (lss_iG _ _ _ (by simp; omega) w') (wanted_of (j := 6) (b := false) rfl rfl e31) (hK _ _ (le8_refl _) rfl)
            · intro ac w' hF hL hP hU K hK
              have hB : Below _ _ _ := hL
              have e31 : ac.eval (.tmp 31) = .bool false := hP 6 (by kernel_rfl)
              have e36 : ac.eval (.tmp 36) = .bool false := hP 11 (by kernel_rfl)
              exact rop_pick _ _ _ rfl false e31 (by simpa using e36) (wanted_none rfl) (hK _ _ (le8_refl _) rfl)
            · intro ac w' hF hL hP hU K hK
              have hB : Below _ _ _ := hL
              have e37 : ac.eval (.tmp 37) = .bool false := hP 12 (by kernel_rfl)
              exact rop_move _ rfl e37 (wanted_none rfl) (hK _ _ (le8_refl _) rfl)
            · intro ac w' hF hL hP hU K hK
              have hB : Below _ _ _ := hL
              have e5 : ac.eval (.tmp 5) = .pointer (some ⟨q5, 0, none⟩) := hF.at 5 (by kernel_rfl)
              have e38 : ac.eval (.tmp 38) = .bool false := hP 13 (by kernel_rfl)
              exact rop_fld _ _ _ rfl e5 (fld_rows q5 1 (by decide) w') (wanted_of (j := 13) (b := false) rfl rfl e38) (hK _ _ (le8_refl _) rfl)
            · intro ac w' hF hL hP hU K hK
              have hB : Below _ _ _ := hL
              have e39 : ac.eval (.tmp 39) = .pointer (some ⟨q5, 1, none⟩) := hP 14 (by kernel_rfl)
              have e38 : ac.eval (.tmp 38) = .bool false := hP 13 (by kernel_rfl)
              exact rop_ld _ _ rfl e39 (load_sumslP (cell_of (heap_oldP Jq5.out hB) 1)) (wanted_of (j := 13) (b := false) rfl rfl e38) (hK _ _ (le8_refl _) rfl)
            · intro ac w' hF hL hP hU K hK
              have hB : Below _ _ _ := hL
              have e40 : ac.eval (.tmp 40) = .slice ab nb cb := hP 15 (by kernel_rfl)
              have e38 : ac.eval (.tmp 38) = .bool false := hP 13 (by kernel_rfl)
              exact rop_lenG _ Tryd.underlying26 rfl e40 (wanted_of (j := 13) (b := false) rfl rfl e38) (hK _ _ (le8_refl _) rfl)
            · intro ac w' hF hL hP hU K hK
              have hB : Below _ _ _ := hL
              have e8 : ac.eval (.tmp 8) = .int .i64 z := hF.at 8 (by kernel_rfl)
              have e38 : ac.eval (.tmp 38) = .bool false := hP 13 (by kernel_rfl)
              exact rop_move _ rfl e8 (wanted_of (j := 13) (b := false) rfl rfl e38) (hK _ _ (le8_refl _) rfl)
            · intro ac w' hF hL hP hU K hK
              have hB : Below _ _ _ := hL
              have e41 : ac.eval (.tmp 41) = .int .i64 (nb : Int) := hP 16 (by kernel_rfl)
              have e42 : ac.eval (.tmp 42) = .int .i64 z := hP 17 (by kernel_rfl)
              have e38 : ac.eval (.tmp 38) = .bool false := hP 13 (by kernel_rfl)
              exact rop_bin _ _ _ _ _ rfl e41 e42 (guard_int _ _ _ _ _ _ _ w') (lss_iG _ _ _ (by simp; omega) w') (wanted_of (j := 13) (b := false) rfl rfl e38) (hK _ _ (le8_refl _) rfl)
            · intro ac w' hF hL hP hU K hK
              have hB : Below _ _ _ := hL
              have e38 : ac.eval (.tmp 38) = .bool false := hP 13 (by kernel_rfl)
              have e43 : ac.eval (.tmp 43) = .bool true := hP 18 (by kernel_rfl)
              exact rop_pick _ _ _ rfl false e38 (by simpa using e43) (wanted_none rfl) (hK _ _ (le8_refl _) rfl)
            · intro ac w' hF hB hT
              have e44 : ac.eval (.tmp 44) = .bool true := hT 19 (by decide)
              rw [hF.setsG [25, 26, 27, 28, 29, 30, 31, 32, 33, 34, 35, 36, 37, 38, 39, 40, 41, 42, 43, 44] (by kernel_rfl)]
              simp only [List.foldl_cons, List.foldl_nil, List.setIfInBounds_toArray, List.set_cons_succ, List.set_cons_zero, e44]
              generalize ac.eval (.tmp 25) = u25
              generalize ac.eval (.tmp 26) = u26
              generalize ac.eval (.tmp 27) = u27
              generalize ac.eval (.tmp 28) = u28
              generalize ac.eval (.tmp 29) = u29
              generalize ac.eval (.tmp 30) = u30
              generalize ac.eval (.tmp 31) = u31
              generalize ac.eval (.tmp 32) = u32
              generalize ac.eval (.tmp 33) = u33
              generalize ac.eval (.tmp 34) = u34
              generalize ac.eval (.tmp 35) = u35
              generalize ac.eval (.tmp 36) = u36
              generalize ac.eval (.tmp 37) = u37
              generalize ac.eval (.tmp 38) = u38
              generalize ac.eval (.tmp 39) = u39
              generalize ac.eval (.tmp 40) = u40
              generalize ac.eval (.tmp 41) = u41
              generalize ac.eval (.tmp 42) = u42
              generalize ac.eval (.tmp 43) = u43
              clear e44 hT hF ac
              go_wp2_with fail
              go_meet
              exact ⟨by rw [hb], hB⟩
          · have hb : bad = false := by rw [HBAD.out]; exact decide_eq_false (by omega)
            try simp only [Act.put]
            refine wp_region_tab0 [RT.is (.int .i64 z), RT.is (.bool false), RT.is (.bool false), RT.is (.int .i64 z), RT.is (.bool false), RT.is (.bool false), RT.is (.bool false), RT.is (.pointer (some ⟨q5, 0, none⟩)), RT.is (.slice aa na ca), RT.is (.int .i64 (na : Int)), RT.is (.int .i64 z), RT.is (.bool false), RT.is (.bool false), RT.is (.bool false), RT.is (.pointer (some ⟨q5, 1, none⟩)), RT.is (.slice ab nb cb), RT.is (.int .i64 (nb : Int)), RT.is (.int .i64 z), RT.is (.bool false), RT.is (.bool false)] (by kernel_rfl) (by kernel_rfl) (by kernel_rfl) ⟨?_, ?_, ?_, ?_, ?_, ?_, ?_, ?_, ?_, ?_, ?_, ?_, ?_, ?_, ?_, ?_, ?_, ?_, ?_, ?_, trivial⟩ ?_
            · intro ac w' hF hL hP hU K hK
              have hB : Below _ _ _ := hL
              have e8 : ac.eval (.tmp 8) = .int .i64 z := hF.at 8 (by kernel_rfl)
              exact rop_move _ rfl e8 (wanted_none rfl) (hK _ _ (le8_refl _) rfl)
            · intro ac w' hF hL hP hU K hK
              have hB : Below _ _ _ := hL
              have e25 : ac.eval (.tmp 25) = .int .i64 z := hP 0 (by kernel_rfl)
              exact rop_bin _ _ _ _ _ rfl e25 rfl (guard_int _ _ _ _ _ _ _ w') (lss_iG _ _ _ (by simp; omega) w') (wanted_none rfl) (hK _ _ (le8_refl _) rfl)
            · intro ac w' hF hL hP hU K hK
              have hB : Below _ _ _ := hL
              have e26 : ac.eval (.tmp 26) = .bool false := hP 1 (by kernel_rfl)
              exact rop_move _ rfl e26 (wanted_none rfl) (hK _ _ (le8_refl _) rfl)
            · intro ac w' hF hL hP hU K hK
              have hB : Below _ _ _ := hL
              have e8 : ac.eval (.tmp 8) = .int .i64 z := hF.at 8 (by kernel_rfl)
              have e27 : ac.eval (.tmp 27) = .bool false := hP 2 (by kernel_rfl)
              exact rop_move _ rfl e8 (wanted_of (j := 2) (b := false) rfl rfl e27) (hK _ _ (le8_refl _) rfl)
            · intro ac w' hF hL hP hU K hK
              have hB : Below _ _ _ := hL
              have e28 : ac.eval (.tmp 28) = .int .i64 z := hP 3 (by kernel_rfl)
              have e27 : ac.eval (.tmp 27) = .bool false := hP 2 (by kernel_rfl)
              exact rop_bin _ _ _ _ _ rfl e28 rfl (guard_int _ _ _ _ _ _ _ w') (gtr_iG _ _ _ (by simp; omega) w') (wanted_of (j := 2) (b := false) rfl rfl e27) (hK _ _ (le8_refl _) rfl)
            · intro ac w' hF hL hP hU K hK
              have hB : Below _ _ _ := hL
              have e27 : ac.eval (.tmp 27) = .bool false := hP 2 (by kernel_rfl)
              have e29 : ac.eval (.tmp 29) = .bool false := hP 4 (by kernel_rfl)
              exact rop_pick _ _ _ rfl false e27 (by simpa using e29) (wanted_none rfl) (hK _ _ (le8_refl _) rfl)
            · intro ac w' hF hL hP hU K hK
              have hB : Below _ _ _ := hL
              have e30 : ac.eval (.tmp 30) = .bool false := hP 5 (by kernel_rfl)
              exact rop_move _ rfl e30 (wanted_none rfl) (hK _ _ (le8_refl _) rfl)
            · intro ac w' hF hL hP hU K hK
              have hB : Below _ _ _ := hL
              have e5 : ac.eval (.tmp 5) = .pointer (some ⟨q5, 0, none⟩) := hF.at 5 (by kernel_rfl)
              have e31 : ac.eval (.tmp 31) = .bool false := hP 6 (by kernel_rfl)
              exact rop_fld _ _ _ rfl e5 (fld_rows q5 0 (by decide) w') (wanted_of (j := 6) (b := false) rfl rfl e31) (hK _ _ (le8_refl _) rfl)
            · intro ac w' hF hL hP hU K hK
              have hB : Below _ _ _ := hL
              have e32 : ac.eval (.tmp 32) = .pointer (some ⟨q5, 0, none⟩) := hP 7 (by kernel_rfl)
              have e31 : ac.eval (.tmp 31) = .bool false := hP 6 (by kernel_rfl)
              exact rop_ld _ _ rfl e32 (load_sumslP (cell_of (heap_oldP Jq5.out hB) 0)) (wanted_of (j := 6) (b := false) rfl rfl e31) (hK _ _ (le8_refl _) rfl)
            · intro ac w' hF hL hP hU K hK
              have hB : Below _ _ _ := hL
              have e33 : ac.eval (.tmp 33) = .slice aa na ca := hP 8 (by kernel_rfl)
              have e31 : ac.eval (.tmp 31) = .bool false := hP 6 (by kernel_rfl)
              exact rop_lenG _ Tryd.underlying26 rfl e33 (wanted_of (j := 6) (b := false) rfl rfl e31) (hK _ _ (le8_refl _) rfl)
            · intro ac w' hF hL hP hU K hK
              have hB : Below _ _ _ := hL
              have e8 : ac.eval (.tmp 8) = .int .i64 z := hF.at 8 (by kernel_rfl)
              have e31 : ac.eval (.tmp 31) = .bool false := hP 6 (by kernel_rfl)
              exact rop_move _ rfl e8 (wanted_of (j := 6) (b := false) rfl rfl e31) (hK _ _ (le8_refl _) rfl)
            · intro ac w' hF hL hP hU K hK
              have hB : Below _ _ _ := hL
              have e34 : ac.eval (.tmp 34) = .int .i64 (na : Int) := hP 9 (by kernel_rfl)
              have e35 : ac.eval (.tmp 35) = .int .i64 z := hP 10 (by kernel_rfl)
              have e31 : ac.eval (.tmp 31) = .bool false := hP 6 (by kernel_rfl)
              exact rop_bin _ _ _ _ _ rfl e34 e35 (guard_int _ _ _ _ _ _ _ w') (lss_iG _ _ _ (by simp; omega) w') (wanted_of (j := 6) (b := false) rfl rfl e31) (hK _ _ (le8_refl _) rfl)
            · intro ac w' hF hL hP hU K hK
              have hB : Below _ _ _ := hL
              have e31 : ac.eval (.tmp 31) = .bool false := hP 6 (by kernel_rfl)
              have e36 : ac.eval (.tmp 36) = .bool false := hP 11 (by kernel_rfl)
              exact rop_pick _ _ _ rfl false e31 (by simpa using e36) (wanted_none rfl) (hK _ _ (le8_refl _) rfl)
            · intro ac w' hF hL hP hU K hK
              have hB : Below _ _ _ := hL
              have e37 : ac.eval (.tmp 37) = .bool false := hP 12 (by kernel_rfl)
              exact rop_move _ rfl e37 (wanted_none rfl) (hK _ _ (le8_refl _) rfl)
            · intro ac w' hF hL hP hU K hK
              have hB : Below _ _ _ := hL
              have e5 : ac.eval (.tmp 5) = .pointer (some ⟨q5, 0, none⟩) := hF.at 5 (by kernel_rfl)
              have e38 : ac.eval (.tmp 38) = .bool false := hP 13 (by kernel_rfl)
              exact rop_fld _ _ _ rfl e5 (fld_rows q5 1 (by decide) w') (wanted_of (j := 13) (b := false) rfl rfl e38) (hK _ _ (le8_refl _) rfl)
            · intro ac w' hF hL hP hU K hK
              have hB : Below _ _ _ := hL
              have e39 : ac.eval (.tmp 39) = .pointer (some ⟨q5, 1, none⟩) := hP 14 (by kernel_rfl)
              have e38 : ac.eval (.tmp 38) = .bool false := hP 13 (by kernel_rfl)
              exact rop_ld _ _ rfl e39 (load_sumslP (cell_of (heap_oldP Jq5.out hB) 1)) (wanted_of (j := 13) (b := false) rfl rfl e38) (hK _ _ (le8_refl _) rfl)
            · intro ac w' hF hL hP hU K hK
              have hB : Below _ _ _ := hL
              have e40 : ac.eval (.tmp 40) = .slice ab nb cb := hP 15 (by kernel_rfl)
              have e38 : ac.eval (.tmp 38) = .bool false := hP 13 (by kernel_rfl)
              exact rop_lenG _ Tryd.underlying26 rfl e40 (wanted_of (j := 13) (b := false) rfl rfl e38) (hK _ _ (le8_refl _) rfl)
            · intro ac w' hF hL hP hU K hK
              have hB : Below _ _ _ := hL
              have e8 : ac.eval (.tmp 8) = .int .i64 z := hF.at 8 (by kernel_rfl)
              have e38 : ac.eval (.tmp 38) = .bool false := hP 13 (by kernel_rfl)
              exact rop_move _ rfl e8 (wanted_of (j := 13) (b := false) rfl rfl e38) (hK _ _ (le8_refl _) rfl)
            · intro ac w' hF hL hP hU K hK
              have hB : Below _ _ _ := hL
              have e41 : ac.eval (.tmp 41) = .int .i64 (nb : Int) := hP 16 (by kernel_rfl)
              have e42 : ac.eval (.tmp 42) = .int .i64 z := hP 17 (by kernel_rfl)
              have e38 : ac.eval (.tmp 38) = .bool false := hP 13 (by kernel_rfl)
              exact rop_bin _ _ _ _ _ rfl e41 e42 (guard_int _ _ _ _ _ _ _ w') (lss_iG _ _ _ (by simp; omega) w') (wanted_of (j := 13) (b := false) rfl rfl e38) (hK _ _ (le8_refl _) rfl)
            · intro ac w' hF hL hP hU K hK
              have hB : Below _ _ _ := hL
              have e38 : ac.eval (.tmp 38) = .bool false := hP 13 (by kernel_rfl)
              have e43 : ac.eval (.tmp 43) = .bool false := hP 18 (by kernel_rfl)
              exact rop_pick _ _ _ rfl false e38 (by simpa using e43) (wanted_none rfl) (hK _ _ (le8_refl _) rfl)
            · intro ac w' hF hB hT
              have e44 : ac.eval (.tmp 44) = .bool false := hT 19 (by decide)
              rw [hF.setsG [25, 26, 27, 28, 29, 30, 31, 32, 33, 34, 35, 36, 37, 38, 39, 40, 41, 42, 43, 44] (by kernel_rfl)]
              simp only [List.foldl_cons, List.foldl_nil, List.setIfInBounds_toArray, List.set_cons_succ, List.set_cons_zero, e44]
              generalize ac.eval (.tmp 25) = u25
              generalize ac.eval (.tmp 26) = u26
              generalize ac.eval (.tmp 27) = u27
              generalize ac.eval (.tmp 28) = u28
              generalize ac.eval (.tmp 29) = u29
              generalize ac.eval (.tmp 30) = u30
              generalize ac.eval (.tmp 31) = u31
              generalize ac.eval (.tmp 32) = u32
              generalize ac.eval (.tmp 33) = u33
              generalize ac.eval (.tmp 34) = u34
              generalize ac.eval (.tmp 35) = u35
              generalize ac.eval (.tmp 36) = u36
              generalize ac.eval (.tmp 37) = u37
              generalize ac.eval (.tmp 38) = u38
              generalize ac.eval (.tmp 39) = u39
              generalize ac.eval (.tmp 40) = u40
              generalize ac.eval (.tmp 41) = u41
              generalize ac.eval (.tmp 42) = u42
              generalize ac.eval (.tmp 43) = u43
              clear e44 hT hF ac
              go_wp2_with fail
              go_meet
              exact ⟨by rw [hb], hB⟩
  case rest =>
  obtain ⟨rfl, hBc⟩ := hcut
  replace HBW := Lib.hid (below_step HBW.out (Nat.le_refl _) hBc)
  replace Jq3 := Lib.hid (heap_oldP Jq3.out hBc)
  replace Jq4 := Lib.hid (heap_oldP Jq4.out hBc)
  replace Jq5 := Lib.hid (heap_oldP Jq5.out hBc)
  obtain ⟨w5, hw5⟩ : ∃ w5, w5 = wc := ⟨_, rfl⟩
  subst hw5
  clear hBc
  cases bad with
  | true =>
    go_wp2
    go_ret
    exact ⟨rfl, HBW.out⟩
  | false =>
    have hgood : ¬ (z < 0 ∨ 50 < z ∨ (na : Int) < z ∨ (nb : Int) < z) := of_decide_eq_false HBAD.out.symm
    obtain ⟨k, rfl⟩ := Int.eq_ofNat_of_zero_le (show 0 ≤ z by omega)
    have hka : k ≤ na := by omega
    have hkb : k ≤ nb := by omega
    have hk50 : k ≤ 50 := by omega
    obtain ⟨PA, hPA⟩ : ∃ P, P = la.take k := ⟨_, rfl⟩
    obtain ⟨P1, hP1⟩ : ∃ P, P = lb.take k := ⟨_, rfl⟩
    obtain ⟨PB, hPB⟩ : ∃ P, P = if o then PA else P1 := ⟨_, rfl⟩
    have hAk : PA.length = k := by rw [hPA, List.length_take, ← Hna.out]; omega
    have h1k : P1.length = k := by rw [hP1, List.length_take, ← Hnb.out]; omega
    have hBk : PB.length = k := by rw [hPB]; split; exact hAk; exact h1k
    have hfl : ∀ P : Hs, P.length = k → foldLen m n P = true := fun P hP => by unfold foldLen; rw [hP, ← Hz.out]; exact decide_eq_true rfl
    have hfA := hfl PA hAk
    have hfB := hfl PB hBk
    have hSA : Sums w (.slice aa k ca) PA := by rw [hPA]; exact HVA.out.head k (by rw [← Hna.out]; exact hka)
    have hS1 : Sums w (.slice ab k cb) P1 := by rw [hP1]; exact HVB.out.head k (by rw [← Hnb.out]; exact hkb)
    have hcA := fun u => scut_h aa na ca k (Nat.le_trans hka hca) u
    have hcB := fun u => scut_h ab nb cb k (Nat.le_trans hkb hcb) u
    have HCA := Lib.hid hcA
    have HCB := Lib.hid hcB
    have c50 : w5.cell? ⟨q5, 0, none⟩ = some (.slice aa na ca) := cell_of Jq5.out 0
    have c51 : w5.cell? ⟨q5, 1, none⟩ = some (.slice ab nb cb) := cell_of Jq5.out 1
    have c52 : w5.cell? ⟨q5, 2, none⟩ = some (.bool o) := cell_of Jq5.out 2
    obtain ⟨bp, nbp, cbp, hsb⟩ : ∃ a n c, (if o then Value.slice aa k ca else .slice ab k cb) = .slice a n c := by cases o <;> exact ⟨_, _, _, rfl⟩
    have HSA : Hid (Sums w5 (.slice aa k ca) PA) := Lib.hid (hSA.old HBW.out)
    have HSB : Hid (Sums w5 (.slice bp nbp cbp) PB) := Lib.hid (by
      rw [← hsb, hPB]
      cases o with
      | true => exact hSA.old HBW.out
      | false => exact hS1.old HBW.out)
    have HSL := Lib.hid hsb
    have HPAl : Hid (PA.length ≤ 1000) := Lib.hid (by omega)
    have HPBl : Hid (PB.length ≤ 1000) := Lib.hid (by omega)
    have HfA := Lib.hid hfA
    have HfB := Lib.hid hfB
    have HoA := Lib.hid hSA.ok
    have HoB := Lib.hid HSB.out.ok
    clear hgood hPA hP1 hPB hAk h1k hBk hfl hfA hfB hSA hS1 hcA hcB hsb HBAD Hz Hna Hnb
    obtain ⟨Rz, hRz⟩ : ∃ r, r = leavesZ x0 x1 m n PA PB := ⟨_, rfl⟩
    obtain ⟨p, hp⟩ : ∃ p, p = Rz.getD ([], []) := ⟨_, rfl⟩
    obtain ⟨s, hs⟩ : ∃ s, s = Rz.isSome := ⟨_, rfl⟩
    have htw : twR (leavesZ x0 x1 m n PA PB) = .tuple #[twV p, .bool s] := by rw [← hRz, hp, hs]; rfl
    obtain ⟨Da, hDa⟩ : ∃ D, D = (foldZ x0 m n PA).1 := ⟨_, rfl⟩
    obtain ⟨Db, hDb⟩ : ∃ D, D = (foldZ x1 m n PB).1 := ⟨_, rfl⟩
    have HDal : Hid (Da.length = 32) := Lib.hid (by rw [hDa]; exact foldZ_length x0 m n PA HX0l.out)
    have HDbl : Hid (Db.length = 32) := Lib.hid (by rw [hDb]; exact foldZ_length x1 m n PB HX1l.out)
    obtain ⟨i1, hi1⟩ : ∃ i, i = (foldZ x0 m n PA).2 := ⟨_, rfl⟩
    have HC1 : Hid (∀ v u, Sums u v PA → Calls Tryd.prog 20 #[sumV x0, .int .i64 m, .int .i64 n, v] u fun e w' => e = .returned (.tuple #[sumV Da, .bool i1]) ∧ Below u.heap.size u w') := Lib.hid fun v u hv => by
      rw [hDa, hi1]
      exact rfold_any x0 HX0l.out m n Hm.out.2 Hn.out.2 v PA u hv HPAl.out
    obtain ⟨i2, hi2⟩ : ∃ i, i = (foldZ x1 m n PB).2 := ⟨_, rfl⟩
    have HC2 : Hid (∀ v u, Sums u v PB → Calls Tryd.prog 20 #[sumV x1, .int .i64 m, .int .i64 n, v] u fun e w' => e = .returned (.tuple #[sumV Db, .bool i2]) ∧ Below u.heap.size u w') := Lib.hid fun v u hv => by
      rw [hDb, hi2]
      exact rfold_any x1 HX1l.out m n Hm.out.2 Hn.out.2 v PB u hv HPBl.out
    have HTW : Hid (∀ v v' u, Below w.heap.size w u → Sums u v PA → Sums u v' PB → Calls Tryd.prog 11 #[.int .i64 m, .int .i64 n, sumV x0, sumV x1, v, v'] u fun e w' => e = .returned (.tuple #[twV p, .bool s]) ∧ Below u.heap.size u w') := Lib.hid fun v v' u hu h1 h2 => by
      rw [← htw]
      exact Leaves_any x0 x1 HX0l.out HX1l.out m n Hm.out.2 Hn.out.2 v v' PA PB u h1 h2 HPAl.out HPBl.out (HKW.out _ hu)
    have hare : s = true → Tree.areT p.1 p.2 = true ∧ p.1.length ≤ 1000000 ∧ p.2.length ≤ 1000000 := fun h => by
      cases Rz with
      | none => rw [hs] at h; cases h
      | some r =>
        have : p = r := hp
        rw [this]
        exact ⟨leaves_are hRz.symm, leaves_small HX0l.out HX1l.out HoA.out HoB.out hRz.symm⟩
    have hno : s = false → p = ([], []) := fun h => by
      cases Rz with
      | none => exact hp
      | some r => rw [hs] at h; cases h
    obtain ⟨sm, hsm⟩ : ∃ b, b = decide (PA = PB) := ⟨_, rfl⟩
    have HSM : Hid (∀ v v' u, Sums u v PA → Sums u v' PB → Calls Tryd.prog 21 #[v, v'] u fun e w' => e = .returned (.bool sm) ∧ Below u.heap.size u w') := Lib.hid fun v v' u h1 h2 => by rw [hsm]; exact same_any v v' PA PB u h1 h2 HPAl.out
    obtain ⟨cc, hcc⟩ : ∃ b, b = decide (Da ≠ Db ∨ (x0 = x1 ∧ sm = true)) := ⟨_, rfl⟩
    have hdc : s = !cc := by
      by_cases h : Da ≠ Db ∨ (x0 = x1 ∧ sm = true)
      · have hn : Rz = none := by
          rw [hRz]
          refine leaves_no (h.imp (fun h => by rw [← hDa, ← hDb]; exact h) (fun h => ⟨h.1, ?_⟩))
          rw [hsm] at h
          exact of_decide_eq_true h.2
        rw [hcc, decide_eq_true h, hs, hn]
        rfl
      · have he : Da = Db := Decidable.byContradiction fun e => h (.inl e)
        obtain ⟨r, hr⟩ := leaves_yes (m := m) (n := n) HX0l.out HX1l.out HoA.out HoB.out HfA.out HfB.out (by rw [← hDa, ← hDb]; exact he) (fun e => h (.inr ⟨e.1, by rw [hsm]; exact decide_eq_true e.2⟩))
        rw [hcc, decide_eq_false h, hs, hRz, hr]
        rfl
    have HARE := Lib.hid hare
    have HNO := Lib.hid hno
    have HDC := Lib.hid hdc
    clear hRz hp hs htw hi1 hi2 hare hno hdc hDa hDb hsm
    have HCC := Lib.hid hcc
    clear hcc
    go_upto_if 55 with (first
      | refine wpList_slice_runS rfl 26 (.tmp 47) none (some (.tmp 48)) none rfl rfl rfl rfl rfl (HCA.out _) ?_
      | refine wpList_slice_runS rfl 26 (.tmp 51) none (some (.tmp 52)) none rfl rfl rfl rfl rfl (HCB.out _) ?_)
    go_cut [10] from 56 to 56 (fun s wx => s = .slice bp nbp cbp ∧ wx = w5)
    case first =>
      cases o with
      | true =>
        go_wp2
        go_meet
        exact ⟨HSL.out, rfl⟩
      | false =>
        go_wp2
        go_meet
        exact ⟨HSL.out, rfl⟩
    case rest =>
    obtain ⟨rfl, hwc⟩ := hcut
    rw [hwc]
    clear hwc c50 c51 c52 HSL HCA HCB
    go_upto_region 10 with (fail)
    change Code.wp _ _ _ _ (w5.alloc (.cells #[tV [], tV []] 32))
    obtain ⟨w6, hw6⟩ : ∃ u, u = w5.alloc (.cells #[tV [], tV []] 32) := ⟨_, rfl⟩
    have k6 : Below w5.heap.size w5 w6 := by rw [hw6]; exact (Below.refl _ _).alloc (Nat.le_refl _) _
    have nq11 : IsTw ([], []) w6 w5.heap.size := by rw [hw6]; exact heap_alloc_last w5 _
    rw [← hw6]
    replace Jq3 := Lib.hid (heap_oldP Jq3.out k6)
    replace Jq4 := Lib.hid (heap_oldP Jq4.out k6)
    replace Jq5 := Lib.hid (heap_oldP Jq5.out k6)
    replace HSA := Lib.hid (HSA.out.old k6)
    replace HSB := Lib.hid (HSB.out.old k6)
    replace HBW := Lib.hid (below_step HBW.out (Nat.le_refl _) k6)
    obtain ⟨q11, hq11⟩ : ∃ q, q = w5.heap.size := ⟨_, rfl⟩
    rw [← hq11] at nq11 ⊢
    have Jq11 := Lib.hid nq11
    clear hw6 k6 nq11 hq11
    have c30 : w6.cell? ⟨q3, 0, none⟩ = some (.int .i64 m) := cell_of Jq3.out 0
    have c31 : w6.cell? ⟨q3, 1, none⟩ = some (.int .i64 n) := cell_of Jq3.out 1
    go_upto_region 11 with (first
      | refine wpList_load_mid rfl 24 (.tmp 62) rfl q4 0 rfl (x0.map u8V) _ (sc_rangeAt Jq4.out HXo.out 0 x0 rfl) Tryd.underlying24 rfl (sum_info' HX0l.out) ?_
      | refine wpList_load_mid rfl 24 (.tmp 64) rfl q4 32 rfl (x1.map u8V) _ (sc_rangeAt Jq4.out HXo.out 1 x1 rfl) Tryd.underlying24 rfl (sum_info' HX1l.out) ?_
      | (go_at_call 11; (refine (HTW.out _ _ _ HBW.out HSA.out HSB.out).mono ?_); rintro e v7 ⟨rfl, c7⟩; have t7 := heap_alloc_last v7 (.cells #[tV [], tV []] 32))
      | refine wpList_store_tw rfl (.tmp 12) (.tmp 69) rfl v7.heap.size p ([], []) rfl rfl t7 ?_)
    change Code.wp _ _ _ _ ((v7.alloc (.cells #[tV [], tV []] 32)).setCells v7.heap.size 0 [tV p.1, tV p.2])
    obtain ⟨w7, hw7⟩ : ∃ u, u = ((v7.alloc (.cells #[tV [], tV []] 32)).setCells v7.heap.size 0 [tV p.1, tV p.2]) := ⟨_, rfl⟩
    have k7 : Below w6.heap.size w6 w7 := by rw [hw7]; exact below_setCells c7.size _ _ _ ((c7).alloc (Nat.le_trans c7.size (by simp)) _)
    have nq12 : IsTw p w7 (v7.heap.size) := by rw [hw7]; exact (IsTw.set (p := ([], [])) (r := p) t7)
    rw [← hw7]
    replace Jq3 := Lib.hid (heap_oldP Jq3.out k7)
    replace Jq4 := Lib.hid (heap_oldP Jq4.out k7)
    replace Jq5 := Lib.hid (heap_oldP Jq5.out k7)
    replace Jq11 := Lib.hid (Jq11.out.old k7)
    replace HSA := Lib.hid (HSA.out.old k7)
    replace HSB := Lib.hid (HSB.out.old k7)
    replace HBW := Lib.hid (below_step HBW.out (Nat.le_refl _) k7)
    obtain ⟨q12, hq12⟩ : ∃ q, q = v7.heap.size := ⟨_, rfl⟩
    rw [← hq12] at nq12 ⊢
    have Jq12 := Lib.hid nq12
    clear hw7 k7 c7 c30 c31 t7 nq12 hq12
    have c30 : w7.cell? ⟨q3, 0, none⟩ = some (.int .i64 m) := cell_of Jq3.out 0
    have c31 : w7.cell? ⟨q3, 1, none⟩ = some (.int .i64 n) := cell_of Jq3.out 1
    go_upto_region 12 with (first
      | refine wpList_load_mid rfl 24 (.tmp 72) rfl q4 0 rfl (x0.map u8V) _ (sc_rangeAt Jq4.out HXo.out 0 x0 rfl) Tryd.underlying24 rfl (sum_info' HX0l.out) ?_
      | (go_at_call 20; (refine (HC1.out _ _ HSA.out).mono ?_); rintro e v8 ⟨rfl, c8⟩; have t8 := heap_alloc_last v8 zSum)
      | refine wpList_store_mid rfl 24 (.tmp 14) (.tmp 80) rfl v8.heap.size 0 (Da.map u8V).toArray rfl rfl (sum_there t8 HDal.out) (sum_info HDal.out) (sum_one Da) ?_)
    change Code.wp _ _ _ _ ((v8.alloc zSum).setCells v8.heap.size 0 (Da.map u8V))
    obtain ⟨w8, hw8⟩ : ∃ u, u = ((v8.alloc zSum).setCells v8.heap.size 0 (Da.map u8V)) := ⟨_, rfl⟩
    have k8 : Below w7.heap.size w7 w8 := by rw [hw8]; exact below_setCells c8.size _ _ _ ((c8).alloc (Nat.le_trans c8.size (by simp)) _)
    have nq14 : IsH Da w8 (v8.heap.size) := by rw [hw8]; exact (var_sum v8 Da HDal.out).1
    rw [← hw8]
    replace Jq3 := Lib.hid (heap_oldP Jq3.out k8)
    replace Jq4 := Lib.hid (heap_oldP Jq4.out k8)
    replace Jq5 := Lib.hid (heap_oldP Jq5.out k8)
    replace Jq11 := Lib.hid (Jq11.out.old k8)
    replace Jq12 := Lib.hid (Jq12.out.old k8)
    replace HSA := Lib.hid (HSA.out.old k8)
    replace HSB := Lib.hid (HSB.out.old k8)
    replace HBW := Lib.hid (below_step HBW.out (Nat.le_refl _) k8)
    obtain ⟨q14, hq14⟩ : ∃ q, q = v8.heap.size := ⟨_, rfl⟩
    rw [← hq14] at nq14 ⊢
    have Jq14 := Lib.hid nq14
    clear hw8 k8 c8 c30 c31 t8 nq14 hq14
    have c30 : w8.cell? ⟨q3, 0, none⟩ = some (.int .i64 m) := cell_of Jq3.out 0
    have c31 : w8.cell? ⟨q3, 1, none⟩ = some (.int .i64 n) := cell_of Jq3.out 1
    go_upto_region 13 with (first
      | refine wpList_load_mid rfl 24 (.tmp 83) rfl q4 32 rfl (x1.map u8V) _ (sc_rangeAt Jq4.out HXo.out 1 x1 rfl) Tryd.underlying24 rfl (sum_info' HX1l.out) ?_
      | (go_at_call 20; (refine (HC2.out _ _ HSB.out).mono ?_); rintro e v9 ⟨rfl, c9⟩; have t9 := heap_alloc_last v9 zSum)
      | refine wpList_store_mid rfl 24 (.tmp 16) (.tmp 91) rfl v9.heap.size 0 (Db.map u8V).toArray rfl rfl (sum_there t9 HDbl.out) (sum_info HDbl.out) (sum_one Db) ?_)
    change Code.wp _ _ _ _ ((v9.alloc zSum).setCells v9.heap.size 0 (Db.map u8V))
    obtain ⟨w9, hw9⟩ : ∃ u, u = ((v9.alloc zSum).setCells v9.heap.size 0 (Db.map u8V)) := ⟨_, rfl⟩
    have k9 : Below w8.heap.size w8 w9 := by rw [hw9]; exact below_setCells c9.size _ _ _ ((c9).alloc (Nat.le_trans c9.size (by simp)) _)
    have nq16 : IsH Db w9 (v9.heap.size) := by rw [hw9]; exact (var_sum v9 Db HDbl.out).1
    rw [← hw9]
    replace Jq3 := Lib.hid (heap_oldP Jq3.out k9)
    replace Jq4 := Lib.hid (heap_oldP Jq4.out k9)
    replace Jq5 := Lib.hid (heap_oldP Jq5.out k9)
    replace Jq11 := Lib.hid (Jq11.out.old k9)
    replace Jq12 := Lib.hid (Jq12.out.old k9)
    replace Jq14 := Lib.hid (IsH.old Jq14.out k9)
    replace HSA := Lib.hid (HSA.out.old k9)
    replace HSB := Lib.hid (HSB.out.old k9)
    replace HBW := Lib.hid (below_step HBW.out (Nat.le_refl _) k9)
    obtain ⟨q16, hq16⟩ : ∃ q, q = v9.heap.size := ⟨_, rfl⟩
    rw [← hq16] at nq16 ⊢
    have Jq16 := Lib.hid nq16
    clear hw9 k9 c9 c30 c31 t9 nq16 hq16
    have c30 : w9.cell? ⟨q3, 0, none⟩ = some (.int .i64 m) := cell_of Jq3.out 0
    have c31 : w9.cell? ⟨q3, 1, none⟩ = some (.int .i64 n) := cell_of Jq3.out 1
    go_upto_region 14 with (first
      | (go_at_call 21; (refine (HSM.out _ _ _ HSA.out HSB.out).mono ?_); rintro e v10 ⟨rfl, c10⟩))
    obtain ⟨w10, hw10⟩ : ∃ u, u = v10 := ⟨_, rfl⟩
    have k10 : Below w9.heap.size w9 w10 := by rw [hw10]; exact c10
    rw [← hw10]
    replace Jq3 := Lib.hid (heap_oldP Jq3.out k10)
    replace Jq4 := Lib.hid (heap_oldP Jq4.out k10)
    replace Jq5 := Lib.hid (heap_oldP Jq5.out k10)
    replace Jq11 := Lib.hid (Jq11.out.old k10)
    replace Jq12 := Lib.hid (Jq12.out.old k10)
    replace Jq14 := Lib.hid (IsH.old Jq14.out k10)
    replace Jq16 := Lib.hid (IsH.old Jq16.out k10)
    replace HSA := Lib.hid (HSA.out.old k10)
    replace HSB := Lib.hid (HSB.out.old k10)
    replace HBW := Lib.hid (below_step HBW.out (Nat.le_refl _) k10)
    clear hw10 k10 c10 c30 c31
    obtain ⟨W, hW⟩ : ∃ W, W = w10 := ⟨_, rfl⟩
    subst hW
    go_cut [108] from 96 to 108 (fun s wx => s = .bool cc ∧ Below W.heap.size W wx)
    case first =>
      by_cases hd : Da = Db
      · by_cases hxe : x0 = x1
        · have hcv : cc = sm := by
            rw [HCC.out]
            cases sm with
            | true => exact decide_eq_true (.inr ⟨hxe, rfl⟩)
            | false => exact decide_eq_false (fun h => h.elim (fun h => h hd) (fun h => by cases h.2))
          try simp only [Act.put]
          refine wp_region_tab0 [RT.is (sumV Da), RT.is (sumV Db), RT.is (.bool false), RT.is (.bool false), RT.is (.pointer (some ⟨q4, 0, none⟩)), RT.is (sumV x0), RT.is (.pointer (some ⟨q4, 32, none⟩)), RT.is (sumV x1), RT.is (.bool true), RT.is (.bool true), RT.is (.bool sm), RT.is (.bool sm), RT.is (.bool sm)] (by kernel_rfl) (by kernel_rfl) (by kernel_rfl) ⟨?_, ?_, ?_, ?_, ?_, ?_, ?_, ?_, ?_, ?_, ?_, ?_, ?_, trivial⟩ ?_
          · intro ac w' hF hL hP hU K hK
            have hB : Below _ _ _ := hL
            have e14 : ac.eval (.tmp 14) = .pointer (some ⟨q14, 0, none⟩) := hF.at 14 (by kernel_rfl)
            exact rop_ld _ _ rfl e14 (load_sumP HDal.out (range_var (IsH.old Jq14.out hB))) (wanted_none rfl) (hK _ _ (le8_refl _) rfl)
          · intro ac w' hF hL hP hU K hK
            have hB : Below _ _ _ := hL
            have e16 : ac.eval (.tmp 16) = .pointer (some ⟨q16, 0, none⟩) := hF.at 16 (by kernel_rfl)
            exact rop_ld _ _ rfl e16 (load_sumP HDbl.out (range_var (IsH.old Jq16.out hB))) (wanted_none rfl) (hK _ _ (le8_refl _) rfl)
          · intro ac w' hF hL hP hU K hK
            have hB : Below _ _ _ := hL
            have e96 : ac.eval (.tmp 96) = sumV Da := hP 0 (by kernel_rfl)
            have e97 : ac.eval (.tmp 97) = sumV Db := hP 1 (by kernel_rfl)
            exact rop_bin _ _ _ _ _ rfl e96 e97 (guard_run _ _ _ _ _ w') (neq_sum_ff Da Db HDal.out HDbl.out hd w') (wanted_none rfl) (hK _ _ (le8_refl _) rfl)
          · intro ac w' hF hL hP hU K hK
            have hB : Below _ _ _ := hL
            have e98 : ac.eval (.tmp 98) = .bool false := hP 2 (by kernel_rfl)
            exact rop_move _ rfl e98 (wanted_none rfl) (hK _ _ (le8_refl _) rfl)
          · intro ac w' hF hL hP hU K hK
            have hB : Below _ _ _ := hL
            have e4 : ac.eval (.tmp 4) = .pointer (some ⟨q4, 0, none⟩) := hF.at 4 (by kernel_rfl)
            have e99 : ac.eval (.tmp 99) = .bool false := hP 3 (by kernel_rfl)
            exact rop_idx _ _ _ rfl e4 rfl (i40 w') (wanted_of (j := 3) (b := false) rfl rfl e99) (hK _ _ (le8_refl _) rfl)
          · intro ac w' hF hL hP hU K hK
            have hB : Below _ _ _ := hL
            have e100 : ac.eval (.tmp 100) = .pointer (some ⟨q4, 0, none⟩) := hP 4 (by kernel_rfl)
            have e99 : ac.eval (.tmp 99) = .bool false := hP 3 (by kernel_rfl)
            exact rop_ld _ _ rfl e100 (load_sumP HX0l.out (sc_rangeAt (heap_oldP Jq4.out hB) HXo.out 0 x0 rfl)) (wanted_of (j := 3) (b := false) rfl rfl e99) (hK _ _ (le8_refl _) rfl)
          · intro ac w' hF hL hP hU K hK
            have hB : Below _ _ _ := hL
            have e4 : ac.eval (.tmp 4) = .pointer (some ⟨q4, 0, none⟩) := hF.at 4 (by kernel_rfl)
            have e99 : ac.eval (.tmp 99) = .bool false := hP 3 (by kernel_rfl)
            exact rop_idx _ _ _ rfl e4 rfl (i41 w') (wanted_of (j := 3) (b := false) rfl rfl e99) (hK _ _ (le8_refl _) rfl)
          · intro ac w' hF hL hP hU K hK
            have hB : Below _ _ _ := hL
            have e102 : ac.eval (.tmp 102) = .pointer (some ⟨q4, 32, none⟩) := hP 6 (by kernel_rfl)
            have e99 : ac.eval (.tmp 99) = .bool false := hP 3 (by kernel_rfl)
            exact rop_ld _ _ rfl e102 (load_sumP HX1l.out (sc_rangeAt (heap_oldP Jq4.out hB) HXo.out 1 x1 rfl)) (wanted_of (j := 3) (b := false) rfl rfl e99) (hK _ _ (le8_refl _) rfl)
          · intro ac w' hF hL hP hU K hK
            have hB : Below _ _ _ := hL
            have e101 : ac.eval (.tmp 101) = sumV x0 := hP 5 (by kernel_rfl)
            have e103 : ac.eval (.tmp 103) = sumV x1 := hP 7 (by kernel_rfl)
            have e99 : ac.eval (.tmp 99) = .bool false := hP 3 (by kernel_rfl)
            exact rop_bin _ _ _ _ _ rfl e101 e103 (guard_run _ _ _ _ _ w') (eql_sum_tt x0 x1 HX0l.out HX1l.out hxe w') (wanted_of (j := 3) (b := false) rfl rfl e99) (hK _ _ (le8_refl _) rfl)
          · intro ac w' hF hL hP hU K hK
            have hB : Below _ _ _ := hL
            have e104 : ac.eval (.tmp 104) = .bool true := hP 8 (by kernel_rfl)
            have e99 : ac.eval (.tmp 99) = .bool false := hP 3 (by kernel_rfl)
            exact rop_move _ rfl e104 (wanted_of (j := 3) (b := false) rfl rfl e99) (hK _ _ (le8_refl _) rfl)
          · intro ac w' hF hL hP hU K hK
            have hB : Below _ _ _ := hL
            have e18 : ac.eval (.tmp 18) = .bool sm := hF.at 18 (by kernel_rfl)
            have e105 : ac.eval (.tmp 105) = .bool true := hP 9 (by kernel_rfl)
            exact rop_move _ rfl e18 (wanted_of (j := 9) (b := true) rfl rfl e105) (hK _ _ (le8_refl _) rfl)
          · intro ac w' hF hL hP hU K hK
            have hB : Below _ _ _ := hL
            have e105 : ac.eval (.tmp 105) = .bool true := hP 9 (by kernel_rfl)
            have e106 : ac.eval (.tmp 106) = .bool sm := hP 10 (by kernel_rfl)
            have e99 : ac.eval (.tmp 99) = .bool false := hP 3 (by kernel_rfl)
            exact rop_pick _ _ _ rfl true e105 (by simpa using e106) (wanted_of (j := 3) (b := false) rfl rfl e99) (hK _ _ (le8_refl _) rfl)
          · intro ac w' hF hL hP hU K hK
            have hB : Below _ _ _ := hL
            have e99 : ac.eval (.tmp 99) = .bool false := hP 3 (by kernel_rfl)
            have e107 : ac.eval (.tmp 107) = .bool sm := hP 11 (by kernel_rfl)
            exact rop_pick _ _ _ rfl false e99 (by simpa using e107) (wanted_none rfl) (hK _ _ (le8_refl _) rfl)
          · intro ac w' hF hB hT
            have e108 : ac.eval (.tmp 108) = .bool sm := hT 12 (by decide)
            rw [hF.setsG [96, 97, 98, 99, 100, 101, 102, 103, 104, 105, 106, 107, 108] (by kernel_rfl)]
            simp only [List.foldl_cons, List.foldl_nil, List.setIfInBounds_toArray, List.set_cons_succ, List.set_cons_zero, e108]
            generalize ac.eval (.tmp 96) = u96
            generalize ac.eval (.tmp 97) = u97
            generalize ac.eval (.tmp 98) = u98
            generalize ac.eval (.tmp 99) = u99
            generalize ac.eval (.tmp 100) = u100
            generalize ac.eval (.tmp 101) = u101
            generalize ac.eval (.tmp 102) = u102
            generalize ac.eval (.tmp 103) = u103
            generalize ac.eval (.tmp 104) = u104
            generalize ac.eval (.tmp 105) = u105
            generalize ac.eval (.tmp 106) = u106
            generalize ac.eval (.tmp 107) = u107
            clear e108 hT hF ac
            go_wp2_with fail
            go_meet
            exact ⟨by rw [hcv], hB⟩
        · have hcv : cc = false := by
            rw [HCC.out]
            exact decide_eq_false (fun h => h.elim (fun h => h hd) (fun h => hxe h.1))
          try simp only [Act.put]
          refine wp_region_tab0 [RT.is (sumV Da), RT.is (sumV Db), RT.is (.bool false), RT.is (.bool false), RT.is (.pointer (some ⟨q4, 0, none⟩)), RT.is (sumV x0), RT.is (.pointer (some ⟨q4, 32, none⟩)), RT.is (sumV x1), RT.is (.bool false), RT.is (.bool false), RT.is undef, RT.is (.bool false), RT.is (.bool false)] (by kernel_rfl) (by kernel_rfl) (by kernel_rfl) ⟨?_, ?_, ?_, ?_, ?_, ?_, ?_, ?_, ?_, ?_, ?_, ?_, ?_, trivial⟩ ?_
          · intro ac w' hF hL hP hU K hK
            have hB : Below _ _ _ := hL
            have e14 : ac.eval (.tmp 14) = .pointer (some ⟨q14, 0, none⟩) := hF.at 14 (by kernel_rfl)
            exact rop_ld _ _ rfl e14 (load_sumP HDal.out (range_var (IsH.old Jq14.out hB))) (wanted_none rfl) (hK _ _ (le8_refl _) rfl)
          · intro ac w' hF hL hP hU K hK
            have hB : Below _ _ _ := hL
            have e16 : ac.eval (.tmp 16) = .pointer (some ⟨q16, 0, none⟩) := hF.at 16 (by kernel_rfl)
            exact rop_ld _ _ rfl e16 (load_sumP HDbl.out (range_var (IsH.old Jq16.out hB))) (wanted_none rfl) (hK _ _ (le8_refl _) rfl)
          · intro ac w' hF hL hP hU K hK
            have hB : Below _ _ _ := hL
            have e96 : ac.eval (.tmp 96) = sumV Da := hP 0 (by kernel_rfl)
            have e97 : ac.eval (.tmp 97) = sumV Db := hP 1 (by kernel_rfl)
            exact rop_bin _ _ _ _ _ rfl e96 e97 (guard_run _ _ _ _ _ w') (neq_sum_ff Da Db HDal.out HDbl.out hd w') (wanted_none rfl) (hK _ _ (le8_refl _) rfl)
          · intro ac w' hF hL hP hU K hK
            have hB : Below _ _ _ := hL
            have e98 : ac.eval (.tmp 98) = .bool false := hP 2 (by kernel_rfl)
            exact rop_move _ rfl e98 (wanted_none rfl) (hK _ _ (le8_refl _) rfl)
          · intro ac w' hF hL hP hU K hK
            have hB : Below _ _ _ := hL
            have e4 : ac.eval (.tmp 4) = .pointer (some ⟨q4, 0, none⟩) := hF.at 4 (by kernel_rfl)
            have e99 : ac.eval (.tmp 99) = .bool false := hP 3 (by kernel_rfl)
            exact rop_idx _ _ _ rfl e4 rfl (i40 w') (wanted_of (j := 3) (b := false) rfl rfl e99) (hK _ _ (le8_refl _) rfl)
          · intro ac w' hF hL hP hU K hK
            have hB : Below _ _ _ := hL
            have e100 : ac.eval (.tmp 100) = .pointer (some ⟨q4, 0, none⟩) := hP 4 (by kernel_rfl)
            have e99 : ac.eval (.tmp 99) = .bool false := hP 3 (by kernel_rfl)
            exact rop_ld _ _ rfl e100 (load_sumP HX0l.out (sc_rangeAt (heap_oldP Jq4.out hB) HXo.out 0 x0 rfl)) (wanted_of (j := 3) (b := false) rfl rfl e99) (hK _ _ (le8_refl _) rfl)
          · intro ac w' hF hL hP hU K hK
            have hB : Below _ _ _ := hL
            have e4 : ac.eval (.tmp 4) = .pointer (some ⟨q4, 0, none⟩) := hF.at 4 (by kernel_rfl)
            have e99 : ac.eval (.tmp 99) = .bool false := hP 3 (by kernel_rfl)
            exact rop_idx _ _ _ rfl e4 rfl (i41 w') (wanted_of (j := 3) (b := false) rfl rfl e99) (hK _ _ (le8_refl _) rfl)
          · intro ac w' hF hL hP hU K hK
            have hB : Below _ _ _ := hL
            have e102 : ac.eval (.tmp 102) = .pointer (some ⟨q4, 32, none⟩) := hP 6 (by kernel_rfl)
            have e99 : ac.eval (.tmp 99) = .bool false := hP 3 (by kernel_rfl)
            exact rop_ld _ _ rfl e102 (load_sumP HX1l.out (sc_rangeAt (heap_oldP Jq4.out hB) HXo.out 1 x1 rfl)) (wanted_of (j := 3) (b := false) rfl rfl e99) (hK _ _ (le8_refl _) rfl)
          · intro ac w' hF hL hP hU K hK
            have hB : Below _ _ _ := hL
            have e101 : ac.eval (.tmp 101) = sumV x0 := hP 5 (by kernel_rfl)
            have e103 : ac.eval (.tmp 103) = sumV x1 := hP 7 (by kernel_rfl)
            have e99 : ac.eval (.tmp 99) = .bool false := hP 3 (by kernel_rfl)
            exact rop_bin _ _ _ _ _ rfl e101 e103 (guard_run _ _ _ _ _ w') (eql_sum_ff x0 x1 HX0l.out HX1l.out hxe w') (wanted_of (j := 3) (b := false) rfl rfl e99) (hK _ _ (le8_refl _) rfl)
          · intro ac w' hF hL hP hU K hK
            have hB : Below _ _ _ := hL
            have e104 : ac.eval (.tmp 104) = .bool false := hP 8 (by kernel_rfl)
            have e99 : ac.eval (.tmp 99) = .bool false := hP 3 (by kernel_rfl)
            exact rop_move _ rfl e104 (wanted_of (j := 3) (b := false) rfl rfl e99) (hK _ _ (le8_refl _) rfl)
          · intro ac w' hF hL hP hU K hK
            have hB : Below _ _ _ := hL
            have e105 : ac.eval (.tmp 105) = .bool false := hP 9 (by kernel_rfl)
            exact rop_offG (j := 9) (b := true) rfl rfl e105 (by decide) (hK _ _ (le8_refl _) rfl)
          · intro ac w' hF hL hP hU K hK
            have hB : Below _ _ _ := hL
            have e105 : ac.eval (.tmp 105) = .bool false := hP 9 (by kernel_rfl)
            have e99 : ac.eval (.tmp 99) = .bool false := hP 3 (by kernel_rfl)
            exact rop_pick _ _ _ rfl false e105 (by rfl) (wanted_of (j := 3) (b := false) rfl rfl e99) (hK _ _ (le8_refl _) rfl)
          · intro ac w' hF hL hP hU K hK
            have hB : Below _ _ _ := hL
            have e99 : ac.eval (.tmp 99) = .bool false := hP 3 (by kernel_rfl)
            have e107 : ac.eval (.tmp 107) = .bool false := hP 11 (by kernel_rfl)
            exact rop_pick _ _ _ rfl false e99 (by simpa using e107) (wanted_none rfl) (hK _ _ (le8_refl _) rfl)
          · intro ac w' hF hB hT
            have e108 : ac.eval (.tmp 108) = .bool false := hT 12 (by decide)
            rw [hF.setsG [96, 97, 98, 99, 100, 101, 102, 103, 104, 105, 106, 107, 108] (by kernel_rfl)]
            simp only [List.foldl_cons, List.foldl_nil, List.setIfInBounds_toArray, List.set_cons_succ, List.set_cons_zero, e108]
            generalize ac.eval (.tmp 96) = u96
            generalize ac.eval (.tmp 97) = u97
            generalize ac.eval (.tmp 98) = u98
            generalize ac.eval (.tmp 99) = u99
            generalize ac.eval (.tmp 100) = u100
            generalize ac.eval (.tmp 101) = u101
            generalize ac.eval (.tmp 102) = u102
            generalize ac.eval (.tmp 103) = u103
            generalize ac.eval (.tmp 104) = u104
            generalize ac.eval (.tmp 105) = u105
            generalize ac.eval (.tmp 106) = u106
            generalize ac.eval (.tmp 107) = u107
            clear e108 hT hF ac
            go_wp2_with fail
            go_meet
            exact ⟨by rw [hcv], hB⟩
      · have hcv : cc = true := by rw [HCC.out]; exact decide_eq_true (.inl hd)
        have hxe : True := trivial
        try simp only [Act.put]
        refine wp_region_tab0 [RT.is (sumV Da), RT.is (sumV Db), RT.is (.bool true), RT.is (.bool true), RT.is undef, RT.is undef, RT.is undef, RT.is undef, RT.is undef, RT.is undef, RT.is undef, RT.is undef, RT.is (.bool true)] (by kernel_rfl) (by kernel_rfl) (by kernel_rfl) ⟨?_, ?_, ?_, ?_, ?_, ?_, ?_, ?_, ?_, ?_, ?_, ?_, ?_, trivial⟩ ?_
        · intro ac w' hF hL hP hU K hK
          have hB : Below _ _ _ := hL
          have e14 : ac.eval (.tmp 14) = .pointer (some ⟨q14, 0, none⟩) := hF.at 14 (by kernel_rfl)
          exact rop_ld _ _ rfl e14 (load_sumP HDal.out (range_var (IsH.old Jq14.out hB))) (wanted_none rfl) (hK _ _ (le8_refl _) rfl)
        · intro ac w' hF hL hP hU K hK
          have hB : Below _ _ _ := hL
          have e16 : ac.eval (.tmp 16) = .pointer (some ⟨q16, 0, none⟩) := hF.at 16 (by kernel_rfl)
          exact rop_ld _ _ rfl e16 (load_sumP HDbl.out (range_var (IsH.old Jq16.out hB))) (wanted_none rfl) (hK _ _ (le8_refl _) rfl)
        · intro ac w' hF hL hP hU K hK
          have hB : Below _ _ _ := hL
          have e96 : ac.eval (.tmp 96) = sumV Da := hP 0 (by kernel_rfl)
          have e97 : ac.eval (.tmp 97) = sumV Db := hP 1 (by kernel_rfl)
          exact rop_bin _ _ _ _ _ rfl e96 e97 (guard_run _ _ _ _ _ w') (neq_sum_tt Da Db HDal.out HDbl.out hd w') (wanted_none rfl) (hK _ _ (le8_refl _) rfl)
        · intro ac w' hF hL hP hU K hK
          have hB : Below _ _ _ := hL
          have e98 : ac.eval (.tmp 98) = .bool true := hP 2 (by kernel_rfl)
          exact rop_move _ rfl e98 (wanted_none rfl) (hK _ _ (le8_refl _) rfl)
        · intro ac w' hF hL hP hU K hK
          have hB : Below _ _ _ := hL
          have e99 : ac.eval (.tmp 99) = .bool true := hP 3 (by kernel_rfl)
          exact rop_offG (j := 3) (b := false) rfl rfl e99 (by decide) (hK _ _ (le8_refl _) rfl)
        · intro ac w' hF hL hP hU K hK
          have hB : Below _ _ _ := hL
          have e99 : ac.eval (.tmp 99) = .bool true := hP 3 (by kernel_rfl)
          exact rop_offG (j := 3) (b := false) rfl rfl e99 (by decide) (hK _ _ (le8_refl _) rfl)
        · intro ac w' hF hL hP hU K hK
          have hB : Below _ _ _ := hL
          have e99 : ac.eval (.tmp 99) = .bool true := hP 3 (by kernel_rfl)
          exact rop_offG (j := 3) (b := false) rfl rfl e99 (by decide) (hK _ _ (le8_refl _) rfl)
        · intro ac w' hF hL hP hU K hK
          have hB : Below _ _ _ := hL
          have e99 : ac.eval (.tmp 99) = .bool true := hP 3 (by kernel_rfl)
          exact rop_offG (j := 3) (b := false) rfl rfl e99 (by decide) (hK _ _ (le8_refl _) rfl)
        · intro ac w' hF hL hP hU K hK
          have hB : Below _ _ _ := hL
          have e99 : ac.eval (.tmp 99) = .bool true := hP 3 (by kernel_rfl)
          exact rop_offG (j := 3) (b := false) rfl rfl e99 (by decide) (hK _ _ (le8_refl _) rfl)
        · intro ac w' hF hL hP hU K hK
          have hB : Below _ _ _ := hL
          have e99 : ac.eval (.tmp 99) = .bool true := hP 3 (by kernel_rfl)
          exact rop_offG (j := 3) (b := false) rfl rfl e99 (by decide) (hK _ _ (le8_refl _) rfl)
        · intro ac w' hF hL hP hU K hK
          have hB : Below _ _ _ := hL
          have e105 : ac.eval (.tmp 105) = undef := hP 9 (by kernel_rfl)
          exact rop_offU (j := 9) (b := true) rfl rfl e105 (hK _ _ (le8_refl _) rfl)
        · intro ac w' hF hL hP hU K hK
          have hB : Below _ _ _ := hL
          have e99 : ac.eval (.tmp 99) = .bool true := hP 3 (by kernel_rfl)
          exact rop_offG (j := 3) (b := false) rfl rfl e99 (by decide) (hK _ _ (le8_refl _) rfl)
        · intro ac w' hF hL hP hU K hK
          have hB : Below _ _ _ := hL
          have e99 : ac.eval (.tmp 99) = .bool true := hP 3 (by kernel_rfl)
          exact rop_pick _ _ _ rfl true e99 (by rfl) (wanted_none rfl) (hK _ _ (le8_refl _) rfl)
        · intro ac w' hF hB hT
          have e108 : ac.eval (.tmp 108) = .bool true := hT 12 (by decide)
          rw [hF.setsG [96, 97, 98, 99, 100, 101, 102, 103, 104, 105, 106, 107, 108] (by kernel_rfl)]
          simp only [List.foldl_cons, List.foldl_nil, List.setIfInBounds_toArray, List.set_cons_succ, List.set_cons_zero, e108]
          generalize ac.eval (.tmp 96) = u96
          generalize ac.eval (.tmp 97) = u97
          generalize ac.eval (.tmp 98) = u98
          generalize ac.eval (.tmp 99) = u99
          generalize ac.eval (.tmp 100) = u100
          generalize ac.eval (.tmp 101) = u101
          generalize ac.eval (.tmp 102) = u102
          generalize ac.eval (.tmp 103) = u103
          generalize ac.eval (.tmp 104) = u104
          generalize ac.eval (.tmp 105) = u105
          generalize ac.eval (.tmp 106) = u106
          generalize ac.eval (.tmp 107) = u107
          clear e108 hT hF ac
          go_wp2_with fail
          go_meet
          exact ⟨by rw [hcv], hB⟩
    case rest =>
    obtain ⟨rfl, hBd⟩ := hcut
    replace Jq12 := Lib.hid (Jq12.out.old hBd)
    replace Jq11 := Lib.hid (Jq11.out.old hBd)
    replace HBW := Lib.hid (below_step HBW.out (Nat.le_refl _) hBd)
    obtain ⟨W6, hW6⟩ : ∃ W, W = wc := ⟨_, rfl⟩
    subst hW6
    clear hBd HCC Jq14 Jq16
    have hsv := HDC.out
    cases cc with
    | true =>
      have hs0 : s = false := hsv
      subst hs0
      obtain rfl := HNO.out rfl
      clear hsv HDC HNO HARE
      go_upto_region 15 with (fail)
      obtain ⟨W, hW⟩ : ∃ W, W = W6 := ⟨_, rfl⟩
      subst hW
      try simp only [Act.put]
      refine wp_region_tab0 [RT.is (.bool true), RT.is (.bool true), RT.is (.bool false), RT.is (.bool true), RT.is (.bool true), RT.is (.bool true), RT.is (twV ([], [])), RT.is (twV ([], [])), RT.is (.bool true), RT.is (.bool true), RT.is (.bool true)] (by kernel_rfl) (by kernel_rfl) (by kernel_rfl) ⟨?_, ?_, ?_, ?_, ?_, ?_, ?_, ?_, ?_, ?_, ?_, trivial⟩ ?_
      · intro ac w' hF hL hP hU K hK
        have hB : Below _ _ _ := hL
        have e7 : ac.eval (.tmp 7) = .bool true := hF.at 7 (by kernel_rfl)
        exact rop_move _ rfl e7 (wanted_none rfl) (hK _ _ (le8_refl _) rfl)
      · intro ac w' hF hL hP hU K hK
        have hB : Below _ _ _ := hL
        have e109 : ac.eval (.tmp 109) = .bool true := hP 0 (by kernel_rfl)
        exact rop_move _ rfl e109 (wanted_none rfl) (hK _ _ (le8_refl _) rfl)
      · intro ac w' hF hL hP hU K hK
        have hB : Below _ _ _ := hL
        have e13 : ac.eval (.tmp 13) = .bool false := hF.at 13 (by kernel_rfl)
        have e110 : ac.eval (.tmp 110) = .bool true := hP 1 (by kernel_rfl)
        exact rop_move _ rfl e13 (wanted_of (j := 1) (b := true) rfl rfl e110) (hK _ _ (le8_refl _) rfl)
      · intro ac w' hF hL hP hU K hK
        have hB : Below _ _ _ := hL
        have e111 : ac.eval (.tmp 111) = .bool false := hP 2 (by kernel_rfl)
        have e110 : ac.eval (.tmp 110) = .bool true := hP 1 (by kernel_rfl)
        exact rop_not _ _ rfl false e111 (wanted_of (j := 1) (b := true) rfl rfl e110) (hK _ _ (le8_refl _) rfl)
      · intro ac w' hF hL hP hU K hK
        have hB : Below _ _ _ := hL
        have e110 : ac.eval (.tmp 110) = .bool true := hP 1 (by kernel_rfl)
        have e112 : ac.eval (.tmp 112) = .bool true := hP 3 (by kernel_rfl)
        exact rop_pick _ _ _ rfl true e110 (by simpa using e112) (wanted_none rfl) (hK _ _ (le8_refl _) rfl)
      · intro ac w' hF hL hP hU K hK
        have hB : Below _ _ _ := hL
        have e113 : ac.eval (.tmp 113) = .bool true := hP 4 (by kernel_rfl)
        exact rop_move _ rfl e113 (wanted_none rfl) (hK _ _ (le8_refl _) rfl)
      · intro ac w' hF hL hP hU K hK
        have hB : Below _ _ _ := hL
        have e12 : ac.eval (.tmp 12) = .pointer (some ⟨q12, 0, none⟩) := hF.at 12 (by kernel_rfl)
        have e114 : ac.eval (.tmp 114) = .bool true := hP 5 (by kernel_rfl)
        exact rop_ld _ _ rfl e12 (load_tw (Jq12.out.old hB)) (wanted_of (j := 5) (b := true) rfl rfl e114) (hK _ _ (le8_refl _) rfl)
      · intro ac w' hF hL hP hU K hK
        have hB : Below _ _ _ := hL
        have e11 : ac.eval (.tmp 11) = .pointer (some ⟨q11, 0, none⟩) := hF.at 11 (by kernel_rfl)
        have e114 : ac.eval (.tmp 114) = .bool true := hP 5 (by kernel_rfl)
        exact rop_ld _ _ rfl e11 (load_tw (Jq11.out.old hB)) (wanted_of (j := 5) (b := true) rfl rfl e114) (hK _ _ (le8_refl _) rfl)
      · intro ac w' hF hL hP hU K hK
        have hB : Below _ _ _ := hL
        have e115 : ac.eval (.tmp 115) = twV ([], []) := hP 6 (by kernel_rfl)
        have e116 : ac.eval (.tmp 116) = twV ([], []) := hP 7 (by kernel_rfl)
        have e114 : ac.eval (.tmp 114) = .bool true := hP 5 (by kernel_rfl)
        exact rop_bin _ _ _ _ _ rfl e115 e116 (guard_tw _ _ _ _ _ w') (eql_tw_t ([], []) w') (wanted_of (j := 5) (b := true) rfl rfl e114) (hK _ _ (le8_refl _) rfl)
      · intro ac w' hF hL hP hU K hK
        have hB : Below _ _ _ := hL
        have e114 : ac.eval (.tmp 114) = .bool true := hP 5 (by kernel_rfl)
        have e117 : ac.eval (.tmp 117) = .bool true := hP 8 (by kernel_rfl)
        exact rop_pick _ _ _ rfl true e114 (by simpa using e117) (wanted_none rfl) (hK _ _ (le8_refl _) rfl)
      · intro ac w' hF hL hP hU K hK
        have hB : Below _ _ _ := hL
        have e118 : ac.eval (.tmp 118) = .bool true := hP 9 (by kernel_rfl)
        exact rop_assign _ rfl e118 (wanted_none rfl) (hK _ _ (le8_refl _) rfl)
      · intro ac w' hF hB hT
        have e6 : ac.eval (.tmp 6) = .bool true := hT 10 (by decide)
        rw [hF.setsG [109, 110, 111, 112, 113, 114, 115, 116, 117, 118, 6] (by kernel_rfl)]
        simp only [List.foldl_cons, List.foldl_nil, List.setIfInBounds_toArray, List.set_cons_succ, List.set_cons_zero, e6]
        generalize ac.eval (.tmp 109) = u109
        generalize ac.eval (.tmp 110) = u110
        generalize ac.eval (.tmp 111) = u111
        generalize ac.eval (.tmp 112) = u112
        generalize ac.eval (.tmp 113) = u113
        generalize ac.eval (.tmp 114) = u114
        generalize ac.eval (.tmp 115) = u115
        generalize ac.eval (.tmp 116) = u116
        generalize ac.eval (.tmp 117) = u117
        generalize ac.eval (.tmp 118) = u118
        clear e6 hT hF ac
        have HF := Lib.hid (below_step HBW.out (Nat.le_refl _) hB)
        clear hB
        go_wp2
        go_ret
        exact ⟨rfl, HF.out⟩
    | false =>
      have hs0 : s = true := hsv
      subst hs0
      clear hsv HDC HNO
      obtain ⟨W, hW⟩ : ∃ W, W = W6 := ⟨_, rfl⟩
      subst hW
      obtain ⟨ha, hl1, hl2⟩ := HARE.out rfl
      obtain ⟨hn, hd⟩ := Tree.areT_t ha
      obtain ⟨S, hS⟩ : ∃ S, S = tS p.1 := ⟨_, rfl⟩
      obtain ⟨T, hT⟩ : ∃ T, T = tS p.2 := ⟨_, rfl⟩
      have hne : ¬ S = T := by rw [hS, hT]; exact fun e => hn (tS_inj e)
      obtain ⟨D, hD⟩ : ∃ D, D = Sha.digest p.1 := ⟨_, rfl⟩
      have HDl : Hid (D.length = 32) := Lib.hid (by rw [hD]; exact Sha.digest_length _)
      have HC0 : Hid (W.cell? ⟨q12, 0, none⟩ = some (.string S)) := Lib.hid (by rw [hS]; exact Jq12.out.c0)
      have HC1 : Hid (W.cell? ⟨q12, 1, none⟩ = some (.string T)) := Lib.hid (by rw [hT]; exact Jq12.out.c1)
      have HOF1 : Hid (∀ u, Calls Tryd.prog 15 #[.string S] u fun e w' => e = .returned (sumV D) ∧ Below u.heap.size u w') := Lib.hid fun u => by rw [hS, hD]; exact rof_any _ _ (tS_list _) u (by omega)
      have HOF2 : Hid (∀ u, Calls Tryd.prog 15 #[.string T] u fun e w' => e = .returned (sumV D) ∧ Below u.heap.size u w') := Lib.hid fun u => by rw [hT, hD, hd]; exact rof_any _ _ (tS_list _) u (by omega)
      clear ha hl1 hl2 hn hd hS hT hD
      go_upto_region 16 with (fail)
      try simp only [Act.put]
      refine wp_region_tab [RT.is (.bool true), RT.is (.bool true), RT.is (.bool true), RT.is (.bool true), RT.is (.bool true), RT.is (.pointer (some ⟨q12, 0, none⟩)), RT.is (.string S), RT.is (.pointer (some ⟨q12, 1, none⟩)), RT.is (.string T), RT.is (.bool true), RT.is (.bool true), RT.is (.bool true), RT.is (.pointer (some ⟨q12, 0, none⟩)), RT.is (.string S), RT.is (sumV D), RT.is (.pointer (some ⟨q12, 1, none⟩)), RT.is (.string T), RT.is (sumV D), RT.is (.bool true), RT.is (.bool true), RT.is (.bool true)] (by kernel_rfl) (by kernel_rfl) (by kernel_rfl) (by kernel_rfl) ⟨?_, ?_, ?_, ?_, ?_, ?_, ?_, ?_, ?_, ?_, ?_, ?_, ?_, ?_, ?_, ?_, ?_, ?_, ?_, ?_, ?_, trivial⟩ ?_
      · intro ac w' hF hL hP hU K hK
        have hB := below_undrew hL
        have e7 : ac.eval (.tmp 7) = .bool true := hF.at 7 (by kernel_rfl)
        exact rop_move _ rfl e7 (wanted_none rfl) (hK _ _ (le8_refl _) rfl)
      · intro ac w' hF hL hP hU K hK
        have hB := below_undrew hL
        have e119 : ac.eval (.tmp 119) = .bool true := hP 0 (by kernel_rfl)
        exact rop_move _ rfl e119 (wanted_none rfl) (hK _ _ (le8_refl _) rfl)
      · intro ac w' hF hL hP hU K hK
        have hB := below_undrew hL
        have e13 : ac.eval (.tmp 13) = .bool true := hF.at 13 (by kernel_rfl)
        have e120 : ac.eval (.tmp 120) = .bool true := hP 1 (by kernel_rfl)
        exact rop_move _ rfl e13 (wanted_of (j := 1) (b := true) rfl rfl e120) (hK _ _ (le8_refl _) rfl)
      · intro ac w' hF hL hP hU K hK
        have hB := below_undrew hL
        have e120 : ac.eval (.tmp 120) = .bool true := hP 1 (by kernel_rfl)
        have e121 : ac.eval (.tmp 121) = .bool true := hP 2 (by kernel_rfl)
        exact rop_pick _ _ _ rfl true e120 (by simpa using e121) (wanted_none rfl) (hK _ _ (le8_refl _) rfl)
      · intro ac w' hF hL hP hU K hK
        have hB := below_undrew hL
        have e122 : ac.eval (.tmp 122) = .bool true := hP 3 (by kernel_rfl)
        exact rop_move _ rfl e122 (wanted_none rfl) (hK _ _ (le8_refl _) rfl)
      · intro ac w' hF hL hP hU K hK
        have hB := below_undrew hL
        have e12 : ac.eval (.tmp 12) = .pointer (some ⟨q12, 0, none⟩) := hF.at 12 (by kernel_rfl)
        have e123 : ac.eval (.tmp 123) = .bool true := hP 4 (by kernel_rfl)
        exact rop_fld _ _ _ rfl e12 (fld_tw0 q12 w') (wanted_of (j := 4) (b := true) rfl rfl e123) (hK _ _ (le8_refl _) rfl)
      · intro ac w' hF hL hP hU K hK
        have hB := below_undrew hL
        have e124 : ac.eval (.tmp 124) = .pointer (some ⟨q12, 0, none⟩) := hP 5 (by kernel_rfl)
        have e123 : ac.eval (.tmp 123) = .bool true := hP 4 (by kernel_rfl)
        exact rop_ld _ _ rfl e124 (load_text ((hB.cell (p := ⟨q12, 0, none⟩) Jq12.out.lt).trans HC0.out)) (wanted_of (j := 4) (b := true) rfl rfl e123) (hK _ _ (le8_refl _) rfl)
      · intro ac w' hF hL hP hU K hK
        have hB := below_undrew hL
        have e12 : ac.eval (.tmp 12) = .pointer (some ⟨q12, 0, none⟩) := hF.at 12 (by kernel_rfl)
        have e123 : ac.eval (.tmp 123) = .bool true := hP 4 (by kernel_rfl)
        exact rop_fld _ _ _ rfl e12 (fld_tw1 q12 w') (wanted_of (j := 4) (b := true) rfl rfl e123) (hK _ _ (le8_refl _) rfl)
      · intro ac w' hF hL hP hU K hK
        have hB := below_undrew hL
        have e126 : ac.eval (.tmp 126) = .pointer (some ⟨q12, 1, none⟩) := hP 7 (by kernel_rfl)
        have e123 : ac.eval (.tmp 123) = .bool true := hP 4 (by kernel_rfl)
        exact rop_ld _ _ rfl e126 (load_text ((hB.cell (p := ⟨q12, 1, none⟩) Jq12.out.lt).trans HC1.out)) (wanted_of (j := 4) (b := true) rfl rfl e123) (hK _ _ (le8_refl _) rfl)
      · intro ac w' hF hL hP hU K hK
        have hB := below_undrew hL
        have e125 : ac.eval (.tmp 125) = .string S := hP 6 (by kernel_rfl)
        have e127 : ac.eval (.tmp 127) = .string T := hP 8 (by kernel_rfl)
        have e123 : ac.eval (.tmp 123) = .bool true := hP 4 (by kernel_rfl)
        exact rop_bin _ _ _ _ _ rfl e125 e127 (guard_str _ _ _ _ _ _ w') (neq_txt_tt S T hne w') (wanted_of (j := 4) (b := true) rfl rfl e123) (hK _ _ (le8_refl _) rfl)
      · intro ac w' hF hL hP hU K hK
        have hB := below_undrew hL
        have e123 : ac.eval (.tmp 123) = .bool true := hP 4 (by kernel_rfl)
        have e128 : ac.eval (.tmp 128) = .bool true := hP 9 (by kernel_rfl)
        exact rop_pick _ _ _ rfl true e123 (by simpa using e128) (wanted_none rfl) (hK _ _ (le8_refl _) rfl)
      · intro ac w' hF hL hP hU K hK
        have hB := below_undrew hL
        have e129 : ac.eval (.tmp 129) = .bool true := hP 10 (by kernel_rfl)
        exact rop_move _ rfl e129 (wanted_none rfl) (hK _ _ (le8_refl _) rfl)
      · intro ac w' hF hL hP hU K hK
        have hB := below_undrew hL
        have e12 : ac.eval (.tmp 12) = .pointer (some ⟨q12, 0, none⟩) := hF.at 12 (by kernel_rfl)
        have e130 : ac.eval (.tmp 130) = .bool true := hP 11 (by kernel_rfl)
        exact rop_fld _ _ _ rfl e12 (fld_tw0 q12 w') (wanted_of (j := 11) (b := true) rfl rfl e130) (hK _ _ (le8_refl _) rfl)
      · intro ac w' hF hL hP hU K hK
        have hB := below_undrew hL
        have e131 : ac.eval (.tmp 131) = .pointer (some ⟨q12, 0, none⟩) := hP 12 (by kernel_rfl)
        have e130 : ac.eval (.tmp 130) = .bool true := hP 11 (by kernel_rfl)
        exact rop_ld _ _ rfl e131 (load_text ((hB.cell (p := ⟨q12, 0, none⟩) Jq12.out.lt).trans HC0.out)) (wanted_of (j := 11) (b := true) rfl rfl e130) (hK _ _ (le8_refl _) rfl)
      · intro ac w' hF hL hP hU K hK
        have hB := below_undrew hL
        have e132 : ac.eval (.tmp 132) = .string S := hP 13 (by kernel_rfl)
        have e130 : ac.eval (.tmp 130) = .bool true := hP 11 (by kernel_rfl)
        refine rop_call 15 _ _ rfl #[.string S] (by simp [e132]) (by kernel_rfl) (wanted_of (j := 11) (b := true) rfl rfl e130) ?_
        refine (HOF1.out w').mono ?_
        rintro e w2 ⟨rfl, hb⟩
        exact ⟨_, rfl, hK _ _ hb rfl⟩
      · intro ac w' hF hL hP hU K hK
        have hB := below_undrew hL
        have e12 : ac.eval (.tmp 12) = .pointer (some ⟨q12, 0, none⟩) := hF.at 12 (by kernel_rfl)
        have e130 : ac.eval (.tmp 130) = .bool true := hP 11 (by kernel_rfl)
        exact rop_fld _ _ _ rfl e12 (fld_tw1 q12 w') (wanted_of (j := 11) (b := true) rfl rfl e130) (hK _ _ (le8_refl _) rfl)
      · intro ac w' hF hL hP hU K hK
        have hB := below_undrew hL
        have e134 : ac.eval (.tmp 134) = .pointer (some ⟨q12, 1, none⟩) := hP 15 (by kernel_rfl)
        have e130 : ac.eval (.tmp 130) = .bool true := hP 11 (by kernel_rfl)
        exact rop_ld _ _ rfl e134 (load_text ((hB.cell (p := ⟨q12, 1, none⟩) Jq12.out.lt).trans HC1.out)) (wanted_of (j := 11) (b := true) rfl rfl e130) (hK _ _ (le8_refl _) rfl)
      · intro ac w' hF hL hP hU K hK
        have hB := below_undrew hL
        have e135 : ac.eval (.tmp 135) = .string T := hP 16 (by kernel_rfl)
        have e130 : ac.eval (.tmp 130) = .bool true := hP 11 (by kernel_rfl)
        refine rop_call 15 _ _ rfl #[.string T] (by simp [e135]) (by kernel_rfl) (wanted_of (j := 11) (b := true) rfl rfl e130) ?_
        refine (HOF2.out w').mono ?_
        rintro e w2 ⟨rfl, hb⟩
        exact ⟨_, rfl, hK _ _ hb rfl⟩
      · intro ac w' hF hL hP hU K hK
        have hB := below_undrew hL
        have e133 : ac.eval (.tmp 133) = sumV D := hP 14 (by kernel_rfl)
        have e136 : ac.eval (.tmp 136) = sumV D := hP 17 (by kernel_rfl)
        have e130 : ac.eval (.tmp 130) = .bool true := hP 11 (by kernel_rfl)
        exact rop_bin _ _ _ _ _ rfl e133 e136 (guard_run _ _ _ _ _ w') (eql_sum_tt D D HDl.out HDl.out rfl w') (wanted_of (j := 11) (b := true) rfl rfl e130) (hK _ _ (le8_refl _) rfl)
      · intro ac w' hF hL hP hU K hK
        have hB := below_undrew hL
        have e130 : ac.eval (.tmp 130) = .bool true := hP 11 (by kernel_rfl)
        have e137 : ac.eval (.tmp 137) = .bool true := hP 18 (by kernel_rfl)
        exact rop_pick _ _ _ rfl true e130 (by simpa using e137) (wanted_none rfl) (hK _ _ (le8_refl _) rfl)
      · intro ac w' hF hL hP hU K hK
        have hB := below_undrew hL
        have e138 : ac.eval (.tmp 138) = .bool true := hP 19 (by kernel_rfl)
        exact rop_assign _ rfl e138 (wanted_none rfl) (hK _ _ (le8_refl _) rfl)
      · intro ac w' hF hB hT
        have e6 : ac.eval (.tmp 6) = .bool true := hT 20 (by decide)
        rw [hF.setsG [119, 120, 121, 122, 123, 124, 125, 126, 127, 128, 129, 130, 131, 132, 133, 134, 135, 136, 137, 138, 6] (by kernel_rfl)]
        simp only [List.foldl_cons, List.foldl_nil, List.setIfInBounds_toArray, List.set_cons_succ, List.set_cons_zero, e6]
        generalize ac.eval (.tmp 119) = u119
        generalize ac.eval (.tmp 120) = u120
        generalize ac.eval (.tmp 121) = u121
        generalize ac.eval (.tmp 122) = u122
        generalize ac.eval (.tmp 123) = u123
        generalize ac.eval (.tmp 124) = u124
        generalize ac.eval (.tmp 125) = u125
        generalize ac.eval (.tmp 126) = u126
        generalize ac.eval (.tmp 127) = u127
        generalize ac.eval (.tmp 128) = u128
        generalize ac.eval (.tmp 129) = u129
        generalize ac.eval (.tmp 130) = u130
        generalize ac.eval (.tmp 131) = u131
        generalize ac.eval (.tmp 132) = u132
        generalize ac.eval (.tmp 133) = u133
        generalize ac.eval (.tmp 134) = u134
        generalize ac.eval (.tmp 135) = u135
        generalize ac.eval (.tmp 136) = u136
        generalize ac.eval (.tmp 137) = u137
        generalize ac.eval (.tmp 138) = u138
        clear e6 hT hF ac
        have HF := Lib.hid (below_step HBW.out (Nat.le_refl _) hB)
        clear hB
        go_wp2
        go_ret
        exact ⟨rfl, HF.out⟩

set_option maxRecDepth 100000 in
theorem lifted (os : Os) (started : os.Started) (H : Type) (enc : TypeId × Value → H) :
    ReturnsInHanded {} Tryd.checked os 5 .any (fun w args => (Rows.twinLeavesSpec.pre enc Tryd.prog Tryd.f5 [] false w args ∧ laidMetH Tryd.prog [("scrinium/sha.k", Rows.laid_scrinium_sha_k)] w) ∧ sizedMet enc Tryd.prog Tryd.f5 (OpenSpec.ofChange Rows.twinLeavesSpec) false w args)
      (Rows.twinLeavesSpec.post enc Tryd.prog Tryd.f5 false true false false) := by
  refine returnsInHanded_of_change_and (C := Tryd.checked) (X := fun w _ => laidMetH Tryd.prog [("scrinium/sha.k", Rows.laid_scrinium_sha_k)] w) (fun _ _ _ hh h => h.of_heap hh) lawOwn started (by kernel_rfl) Tryd.func5
    (ChangeSpec.witness_shaped (enc := enc) (C := Tryd.checked) (os := os) (X := fun w _ => laidMetH Tryd.prog [("scrinium/sha.k", Rows.laid_scrinium_sha_k)] w) false (World.doorLaid Tryd.prog 400 os) #[.agg #[.int .i64 0, .int .i64 0], .agg (sc [List.replicate 32 0, List.replicate 32 0]).toArray, .agg #[.slice none 0 0, .slice none 0 0, .bool false]] 8 rfl (World.shaped_of_RefB (by kernel_rfl) (by kernel_rfl)) (by kernel_rfl) (by kernel_rfl) (by kernel_rfl) (door_met os _)) ?_
  intro W base args ds gs before hval0 hW _ _ hL _
  have hval : ∀ (j : Nat) t v, Tryd.f5.params[j]? = some t → args[j]? = some v → Value.okWide Tryd.prog W .any base t v := hval0
  have hW' := hW
  obtain ⟨p, q, hA0, hV, rfl, hfz, hnd⟩ := hW
  have hA : DataW.TrodAll enc Tryd.prog W 0 (fun _ => true) true Tryd.f5.params.toList args.toList ds p := hA0
  rw [Tryd.params5] at hA hval
  obtain ⟨v0, vs0, d0, ds0, p0, q0, hargs, rfl, rfl, h0, r0⟩ := trodAll_cons hA
  obtain ⟨v1, vs1, d1, ds1, p1, q1, rfl, rfl, rfl, h1, r1⟩ := trodAll_cons r0
  obtain ⟨v2, vs2, d2, ds2, p2, q2, rfl, rfl, rfl, h2, r2⟩ := trodAll_cons r1
  obtain ⟨rfl, rfl, rfl⟩ := trodAll_nil r2
  obtain rfl : args = #[v0, v1, v2] := by cases args; simp_all
  obtain ⟨rfl, rfl⟩ := trodVars_none hV
  have hKT := KT_of_laid hL
  obtain ⟨z0, y0, rfl, w0, w0b⟩ := ints2_argP (hval 0 22 v0 rfl rfl) h0
  obtain ⟨l1, rfl, w1, u1⟩ := open_sumsN Tryd.underlying25 (by kernel_rfl) (hval 1 25 v1 rfl rfl) h1
  obtain ⟨x1a, x1b, rfl⟩ := len2P w1
  obtain ⟨ra2, rb2, la2, lb2, o2, rfl, w2, u2⟩ := open_rows13 (hval 2 28 v2 rfl rfl) h2
  clear hA0 hval0
  refine (walk (w := W) hKT z0 y0 w0 w0b x1a x1b (u1 x1a (by simp)) (u1 x1b (by simp)) ra2 la2 w2 rb2 lb2 u2 o2).mono fun e W' ⟨he, bel⟩ => ?_
  subst he
  exact ⟨_, rfl, law_post rfl rfl (by kernel_rfl) hW' rfl bel⟩

theorem row_holds : Rows.TwinLeavesSaid :=
  OpenClaim.holds_of_wide 5 Tryd.f5 rfl rfl rfl rfl rfl rfl rfl ⟨rfl, rfl, rfl, rfl, rfl⟩ rfl rfl rfl rfl rfl (by kernel_rfl) Tryd.func5 (by kernel_rfl)
    (of_decide_eq_true (by kernel_rfl)) (by unfold Func.isWrapper; first | (rw [if_pos (by decide +kernel)]; kernel_rfl) | (rw [if_neg (by decide +kernel)]; exact ⟨rfl, rfl⟩))
    (fun os started H enc _ => lifted os started H enc)

theorem holds : Rows.TwinLeavesCardSaid :=
  Claim7.holds_tied_plain_at .later [] [.data] true Rows.twinLeavesCard.stood.harness false
    row_holds (fun _ h => by cases h) (by kernel_rfl) (fun _ h => by cases h) twinLeaves_row_tie rfl ⟨rfl, rfl⟩ (by kernel_rfl) rfl
    (fun f fn hf hfn => by
      obtain rfl : f = 5 := Option.some.inj ((show Tryd.prog.funcNamed "scrinium/scriniumlaw13.TwinLeaves" = some 5 by kernel_rfl).symm.trans hf) |>.symm
      obtain rfl : fn = Tryd.f5 := (Option.some.inj (Tryd.func5.symm.trans hfn)).symm
      exact ⟨by kernel_rfl, fun j t ht => by
        rw [Tryd.params5] at ht
        have hm : t ∈ [22, 25, 28] := by simpa using Array.mem_of_getElem? ht
        have hall : ([22, 25, 28].all fun u => !Tryd.prog.wantsStandIn u) = true := by kernel_rfl
        exact (show Tryd.prog.wantsStandIn t = false by simpa using List.all_eq_true.1 hall t hm)⟩)
    (by kernel_rfl)
end Go.Proofs.YtdcebdleneieeaaDoor.twinLeaves

theorem Go.Proofs.YtdcebdleneieeaaDoor.twinLeaves_holds : Go.Proofs.YtdcebdleneieeaaDoor.Rows.TwinLeavesCardSaid := Go.Proofs.YtdcebdleneieeaaDoor.twinLeaves.holds
#print axioms Go.Proofs.YtdcebdleneieeaaDoor.twinLeaves_holds
