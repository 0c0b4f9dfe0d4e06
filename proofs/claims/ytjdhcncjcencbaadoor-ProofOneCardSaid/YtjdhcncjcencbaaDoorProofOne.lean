/-
  ProofOne: where a path is right of one root, place and number with two leaves that are unlike, or two paths of one leaf, two unlike texts are found that have one hash. For any two hashes, any place of any number, any two rows of as many hashes as a path has (up to 50); the numbers K of the package sha are as the program's own start lays them.
-/
import Derived.Test.YtjdhcncjcencbaaDoorProofHelp
import Derived.Test.YtjdhcncjcencbaaDoorGenSeq
namespace Go.Proofs.YtjdhcncjcencbaaDoor.proofOne
open Go.ChangeShapes Go.WideShapes Go.ChangeAt Go.RowKit

theorem neq_str_fP (a b : ByteArray) (h : a = b) (w : World) : (binOp .neq 9 (.string a) (.string b)).run Tryd.prog w = .ok (.bool false) w := by
  subst h
  go_simp
/-- Ahead of hash i: both ways come to R, and they are not one. -/
def ORel (A B : Hs) (T : List Bool) (R : List UInt8) (q15 q16 : Nat) (V : World) (s17 : Value) (wr : World) : Prop :=
  ∃ (i : Nat) (X Y : List UInt8), s17 = .int .i64 (i : Int) ∧ i ≤ T.length ∧ X.length = 32 ∧ Y.length = 32 ∧ Tree.fold X (A.drop i) (T.drop i) = R ∧ Tree.fold Y (B.drop i) (T.drop i) = R ∧ ¬ (X = Y ∧ A.drop i = B.drop i) ∧ OnlyS (fun k => k = q15 ∨ k = q16) V wr ∧ IsH X wr q15 ∧ IsH Y wr q16
set_option maxHeartbeats 16000000 in
set_option maxRecDepth 100000 in
theorem walk {w : World} (hK : KT w) (x0 x1 : List UInt8) (hx0 : x0.length = 32) (hx1 : x1.length = 32) (m n : Int) (hm : -9223372036854775808 ≤ m ∧ m ≤ 9223372036854775807) (hn : -9223372036854775808 ≤ n ∧ n ≤ 9223372036854775807) (ra : Value) (la : Hs) (hra : Sums w ra la) (rb : Value) (lb : Hs) (hrb : Sums w rb lb) :
    Calls Tryd.prog 7 #[.agg (sc [x0, x1]).toArray, .agg #[.int .i64 m, .int .i64 n], .agg #[ra, rb]] w fun e w' => e = .returned (.bool true) ∧ Below w.heap.size w w' := by
  obtain ⟨z1, hz1⟩ : ∃ z1, z1 = (if okP m n then ((Tree.long m.toNat n.toNat : Nat) : Int) else -1) := ⟨_, rfl⟩
  obtain ⟨a0, c0, rfl, hc0, -⟩ := hra.slice
  obtain ⟨a1, c1, rfl, hc1, -⟩ := hrb.slice
  obtain ⟨k0, hk0⟩ : ∃ k0, k0 = la.length := ⟨_, rfl⟩
  obtain ⟨k1, hk1⟩ : ∃ k1, k1 = lb.length := ⟨_, rfl⟩
  rw [← hk0] at hra hc0 ⊢
  rw [← hk1] at hrb hc1 ⊢
  have HX0l := Lib.hid hx0
  have HX1l := Lib.hid hx1
  have Hx0l := HX0l
  have Hx1l := HX1l
  have HXo : Hid (all32 [x0, x1]) := Lib.hid (by
    intro x hx
    simp at hx
    rcases hx with rfl | rfl
    · exact hx0
    · exact hx1)
  have HL : Hid (∀ u, Calls Tryd.prog 22 #[.int .i64 m, .int .i64 n] u fun e w' => e = .returned (.int .i64 z1) ∧ Below u.heap.size u w') := Lib.hid fun u => by rw [hz1]; exact rlong_any m n u hm.2 hn.2
  have hkw : ∀ u, Below w.heap.size w u → KT u := fun u hu => hK.old hu
  obtain ⟨XX, hXX⟩ : ∃ XX, XX = (sc [x0, x1]).toArray := ⟨_, rfl⟩
  rw [← hXX]
  obtain ⟨w0, hw0⟩ : ∃ w0, w0 = ((w.alloc (.cells XX 41)).alloc (.cells #[.int .i64 m, .int .i64 n] 24)).alloc (.cells #[.slice a0 k0 c0, .slice a1 k1 c1] 42) := ⟨_, rfl⟩
  have b0 : Below w.heap.size w w0 := by rw [hw0]; exact (((Below.refl _ _).alloc (Nat.le_refl _) _).alloc (by simp) _).alloc (by simp; omega) _
  have j3 : w0.heap[w.heap.size]? = some (.cells XX 41 (0, 0)) := by
    rw [hw0]
    exact ((((Below.refl (w.alloc (.cells XX 41)).heap.size _).alloc (Nat.le_refl _) _).alloc (by simp) _).block w.heap.size (by simp)).trans (heap_alloc_last w _)
  have j4 : w0.heap[w.heap.size + 1]? = some (.cells #[.int .i64 m, .int .i64 n] 24 (0, 0)) := by
    rw [hw0]
    refine (Below.heap_alloc _ _ _ (by simp)).trans ?_
    have := heap_alloc_last (w.alloc (.cells XX 41)) (.cells #[.int .i64 m, .int .i64 n] 24)
    rwa [World.size_alloc] at this
  have j5 : w0.heap[w.heap.size + 1 + 1]? = some (.cells #[.slice a0 k0 c0, .slice a1 k1 c1] 42 (0, 0)) := by
    have := heap_alloc_last ((w.alloc (.cells XX 41)).alloc (.cells #[.int .i64 m, .int .i64 n] 24)) (.cells #[.slice a0 k0 c0, .slice a1 k1 c1] 42)
    rwa [World.size_alloc, World.size_alloc, ← hw0] at this
  have HAW := Lib.hid (awake12_any w0 (hkw _ b0))
  have HJ3 := Lib.hid j3
  have HJ4 := Lib.hid j4
  have HJ5 := Lib.hid j5
  have Hz1 := Lib.hid hz1
  have Hk0 := Lib.hid hk0
  have Hk1 := Lib.hid hk1
  have HRA := Lib.hid hra
  have HRB := Lib.hid hrb
  have HXX := Lib.hid hXX
  clear hz1 hk0 hk1 hra hrb hXX hx0 hx1 hK j3 j4 j5
  go_enter Tryd.func7, Tryd.ntmps7
  go_upto_region 1 with (fail)
  rw [← hw0]
  clear hw0
  go_upto_region 3 with (first
    | (go_at_call 10; ((with_reducible refine HAW.out.mono ?_); rintro e w1 ⟨rfl, b1⟩; have d0 : w1.cell? ⟨w.heap.size + 1, 0, none⟩ = some (.int .i64 m) := cell_of (heap_oldP HJ4.out b1) 0; have d1 : w1.cell? ⟨w.heap.size + 1, 1, none⟩ = some (.int .i64 n) := cell_of (heap_oldP HJ4.out b1) 1))
    | (go_at_call 22; ((with_reducible refine (HL.out _).mono ?_); rintro e w2 ⟨rfl, b2⟩)))
  have b12 := below_step b1 (Nat.le_refl _) b2
  have Jq3' := Lib.hid (heap_oldP HJ3.out b12)
  have Jq4' := Lib.hid (heap_oldP HJ4.out b12)
  have Jq5' := Lib.hid (heap_oldP HJ5.out b12)
  have bw2 : Below w.heap.size w w2 := below_step b0 (Nat.le_refl _) b12
  obtain ⟨q5, hq5⟩ : ∃ q5, q5 = w.heap.size + 1 + 1 := ⟨_, rfl⟩
  rw [← hq5] at Jq5' ⊢
  obtain ⟨q4, hq4⟩ : ∃ q4, q4 = w.heap.size + 1 := ⟨_, rfl⟩
  rw [← hq4] at Jq4' ⊢
  obtain ⟨q3, hq3⟩ : ∃ q3, q3 = w.heap.size := ⟨_, rfl⟩
  rw [← hq3] at Jq3' ⊢
  obtain ⟨W, hW⟩ : ∃ W, W = w2 := ⟨_, rfl⟩
  subst hW
  rw [HXX.out] at Jq3'
  have Jq3 := Jq3'
  have Jq4 := Jq4'
  have Jq5 := Jq5'
  have HBW := Lib.hid bw2
  clear b0 b1 b2 b12 bw2 d0 d1 hq3 hq4 hq5 Jq3' Jq4' Jq5' HJ3 HJ4 HJ5 HAW HL
  obtain ⟨bad, hbad⟩ : ∃ bad, bad = decide (z1 < 0 ∨ 50 < z1 ∨ (k0 : Int) < z1 ∨ (k1 : Int) < z1) := ⟨_, rfl⟩
  have Hbad := Lib.hid hbad
  clear hbad
  go_cut [45] from 26 to 45 (fun s wx => s = .bool bad ∧ Below W.heap.size W wx)
  case first =>
    by_cases g0 : z1 < 0
    · have hb : bad = true := Hbad.out.trans (decide_eq_true (.inl g0))
      have HB := Lib.hid hb
      try simp only [Act.put]
      refine wp_region_tab0 [RT.is (.int .i64 z1), RT.is (.bool true), RT.is (.bool true), RT.any, RT.any, RT.is (.bool true), RT.is (.bool true), RT.any, RT.any, RT.any, RT.any, RT.any, RT.is (.bool true), RT.is (.bool true), RT.any, RT.any, RT.any, RT.any, RT.any, RT.is (.bool true)] (by kernel_rfl) (by kernel_rfl) (by kernel_rfl) ⟨?_, ?_, ?_, ?_, ?_, ?_, ?_, ?_, ?_, ?_, ?_, ?_, ?_, ?_, ?_, ?_, ?_, ?_, ?_, ?_, trivial⟩ ?_
      · intro ac w' hF hL hP hU K hK
        have hB : Below _ _ _ := hL
        have e8 : ac.eval (.tmp 8) = .int .i64 z1 := hF.at 8 (by kernel_rfl)
        exact rop_move _ rfl e8 (wanted_none rfl) (hK _ _ (le8_refl _) rfl)
      · intro ac w' hF hL hP hU K hK
        have hB : Below _ _ _ := hL
        have e26 : ac.eval (.tmp 26) = .int .i64 z1 := hP 0 (by kernel_rfl)
        exact rop_bin _ _ _ _ _ rfl e26 rfl (guard_int _ _ _ _ _ _ _ w') (lss_iG _ _ _ (decide_eq_true g0) w') (wanted_none rfl) (hK _ _ (le8_refl _) rfl)
      · intro ac w' hF hL hP hU K hK
        have hB : Below _ _ _ := hL
        have e27 : ac.eval (.tmp 27) = .bool true := hP 1 (by kernel_rfl)
        exact rop_move _ rfl e27 (wanted_none rfl) (hK _ _ (le8_refl _) rfl)
      · intro ac w' hF hL hP hU K hK
        have hB : Below _ _ _ := hL
        have e28 : ac.eval (.tmp 28) = .bool true := hP 2 (by kernel_rfl)
        exact rop_offG (j := 2) (b := false) rfl rfl e28 (by decide) (hK _ _ (le8_refl _) trivial)
      · intro ac w' hF hL hP hU K hK
        have hB : Below _ _ _ := hL
        have e28 : ac.eval (.tmp 28) = .bool true := hP 2 (by kernel_rfl)
        exact rop_offG (j := 2) (b := false) rfl rfl e28 (by decide) (hK _ _ (le8_refl _) trivial)
      · intro ac w' hF hL hP hU K hK
        have hB : Below _ _ _ := hL
        have e28 : ac.eval (.tmp 28) = .bool true := hP 2 (by kernel_rfl)
        exact rop_pick _ _ _ rfl true e28 (by rfl) (wanted_none rfl) (hK _ _ (le8_refl _) rfl)
      · intro ac w' hF hL hP hU K hK
        have hB : Below _ _ _ := hL
        have e31 : ac.eval (.tmp 31) = .bool true := hP 5 (by kernel_rfl)
        exact rop_move _ rfl e31 (wanted_none rfl) (hK _ _ (le8_refl _) rfl)
      · intro ac w' hF hL hP hU K hK
        have hB : Below _ _ _ := hL
        have e32 : ac.eval (.tmp 32) = .bool true := hP 6 (by kernel_rfl)
        exact rop_offG (j := 6) (b := false) rfl rfl e32 (by decide) (hK _ _ (le8_refl _) trivial)
      · intro ac w' hF hL hP hU K hK
        have hB : Below _ _ _ := hL
        have e32 : ac.eval (.tmp 32) = .bool true := hP 6 (by kernel_rfl)
        exact rop_offG (j := 6) (b := false) rfl rfl e32 (by decide) (hK _ _ (le8_refl _) trivial)
      · intro ac w' hF hL hP hU K hK
        have hB : Below _ _ _ := hL
        have e32 : ac.eval (.tmp 32) = .bool true := hP 6 (by kernel_rfl)
        exact rop_offG (j := 6) (b := false) rfl rfl e32 (by decide) (hK _ _ (le8_refl _) trivial)
      · intro ac w' hF hL hP hU K hK
        have hB : Below _ _ _ := hL
        have e32 : ac.eval (.tmp 32) = .bool true := hP 6 (by kernel_rfl)
        exact rop_offG (j := 6) (b := false) rfl rfl e32 (by decide) (hK _ _ (le8_refl _) trivial)
      · intro ac w' hF hL hP hU K hK
        have hB : Below _ _ _ := hL
        have e32 : ac.eval (.tmp 32) = .bool true := hP 6 (by kernel_rfl)
        exact rop_offG (j := 6) (b := false) rfl rfl e32 (by decide) (hK _ _ (le8_refl _) trivial)
      · intro ac w' hF hL hP hU K hK
        have hB : Below _ _ _ := hL
        have e32 : ac.eval (.tmp 32) = .bool true := hP 6 (by kernel_rfl)
        exact rop_pick _ _ _ rfl true e32 (by rfl) (wanted_none rfl) (hK _ _ (le8_refl _) rfl)
      · intro ac w' hF hL hP hU K hK
        have hB : Below _ _ _ := hL
        have e38 : ac.eval (.tmp 38) = .bool true := hP 12 (by kernel_rfl)
        exact rop_move _ rfl e38 (wanted_none rfl) (hK _ _ (le8_refl _) rfl)
      · intro ac w' hF hL hP hU K hK
        have hB : Below _ _ _ := hL
        have e39 : ac.eval (.tmp 39) = .bool true := hP 13 (by kernel_rfl)
        exact rop_offG (j := 13) (b := false) rfl rfl e39 (by decide) (hK _ _ (le8_refl _) trivial)
      · intro ac w' hF hL hP hU K hK
        have hB : Below _ _ _ := hL
        have e39 : ac.eval (.tmp 39) = .bool true := hP 13 (by kernel_rfl)
        exact rop_offG (j := 13) (b := false) rfl rfl e39 (by decide) (hK _ _ (le8_refl _) trivial)
      · intro ac w' hF hL hP hU K hK
        have hB : Below _ _ _ := hL
        have e39 : ac.eval (.tmp 39) = .bool true := hP 13 (by kernel_rfl)
        exact rop_offG (j := 13) (b := false) rfl rfl e39 (by decide) (hK _ _ (le8_refl _) trivial)
      · intro ac w' hF hL hP hU K hK
        have hB : Below _ _ _ := hL
        have e39 : ac.eval (.tmp 39) = .bool true := hP 13 (by kernel_rfl)
        exact rop_offG (j := 13) (b := false) rfl rfl e39 (by decide) (hK _ _ (le8_refl _) trivial)
      · intro ac w' hF hL hP hU K hK
        have hB : Below _ _ _ := hL
        have e39 : ac.eval (.tmp 39) = .bool true := hP 13 (by kernel_rfl)
        exact rop_offG (j := 13) (b := false) rfl rfl e39 (by decide) (hK _ _ (le8_refl _) trivial)
      · intro ac w' hF hL hP hU K hK
        have hB : Below _ _ _ := hL
        have e39 : ac.eval (.tmp 39) = .bool true := hP 13 (by kernel_rfl)
        exact rop_pick _ _ _ rfl true e39 (by rfl) (wanted_none rfl) (hK _ _ (le8_refl _) rfl)
      · intro ac w' hF hB hT
        have e45 : ac.eval (.tmp 45) = .bool true := hT 19 (by decide)
        rw [hF.setsG [26, 27, 28, 29, 30, 31, 32, 33, 34, 35, 36, 37, 38, 39, 40, 41, 42, 43, 44, 45] (by kernel_rfl)]
        simp only [List.foldl_cons, List.foldl_nil, List.setIfInBounds_toArray, List.set_cons_succ, List.set_cons_zero, e45]
        generalize ac.eval (.tmp 26) = u26
        generalize ac.eval (.tmp 27) = u27
        generalize ac.eval (.tmp 28) = u28
        generalize ac.eval (.tmp 29) = u29
        generalize ac.eval (.tmp 30) = u30
        generalize ac.eval (.tmp 31) = u31
        generalize ac.eval (.tmp 32) = u32
        generalize ac.eval (.tmp 33) = u33
        generalize ac.eval (.tmp 34) = u34
        generalize ac.eval (.tmp 35) = u35
        generalize ac.eval (.tmp 36) = u36
        generalize ac.eval (.tmp 37) = u37
        generalize ac.eval (.tmp 38) = u38
        generalize ac.eval (.tmp 39) = u39
        generalize ac.eval (.tmp 40) = u40
        generalize ac.eval (.tmp 41) = u41
        generalize ac.eval (.tmp 42) = u42
        generalize ac.eval (.tmp 43) = u43
        generalize ac.eval (.tmp 44) = u44
        clear e45 hT hF ac
        clear hb g0
        go_wp2_with fail
        go_meet
        exact ⟨by rw [HB.out], hB⟩
    · skip
      by_cases g1 : 50 < z1
      · have hb : bad = true := Hbad.out.trans (decide_eq_true (.inr (.inl g1)))
        have HB := Lib.hid hb
        try simp only [Act.put]
        refine wp_region_tab0 [RT.is (.int .i64 z1), RT.is (.bool false), RT.is (.bool false), RT.is (.int .i64 z1), RT.is (.bool true), RT.is (.bool true), RT.is (.bool true), RT.any, RT.any, RT.any, RT.any, RT.any, RT.is (.bool true), RT.is (.bool true), RT.any, RT.any, RT.any, RT.any, RT.any, RT.is (.bool true)] (by kernel_rfl) (by kernel_rfl) (by kernel_rfl) ⟨?_, ?_, ?_, ?_, ?_, ?_, ?_, ?_, ?_, ?_, ?_, ?_, ?_, ?_, ?_, ?_, ?_, ?_, ?_, ?_, trivial⟩ ?_
        · intro ac w' hF hL hP hU K hK
          have hB : Below _ _ _ := hL
          have e8 : ac.eval (.tmp 8) = .int .i64 z1 := hF.at 8 (by kernel_rfl)
          exact rop_move _ rfl e8 (wanted_none rfl) (hK _ _ (le8_refl _) rfl)
        · intro ac w' hF hL hP hU K hK
          have hB : Below _ _ _ := hL
          have e26 : ac.eval (.tmp 26) = .int .i64 z1 := hP 0 (by kernel_rfl)
          exact rop_bin _ _ _ _ _ rfl e26 rfl (guard_int _ _ _ _ _ _ _ w') (lss_iG _ _ _ (decide_eq_false g0) w') (wanted_none rfl) (hK _ _ (le8_refl _) rfl)
        · intro ac w' hF hL hP hU K hK
          have hB : Below _ _ _ := hL
          have e27 : ac.eval (.tmp 27) = .bool false := hP 1 (by kernel_rfl)
          exact rop_move _ rfl e27 (wanted_none rfl) (hK _ _ (le8_refl _) rfl)
        · intro ac w' hF hL hP hU K hK
          have hB : Below _ _ _ := hL
          have e8 : ac.eval (.tmp 8) = .int .i64 z1 := hF.at 8 (by kernel_rfl)
          have e28 : ac.eval (.tmp 28) = .bool false := hP 2 (by kernel_rfl)
          exact rop_move _ rfl e8 (wanted_of (j := 2) (b := false) rfl rfl e28) (hK _ _ (le8_refl _) rfl)
        · intro ac w' hF hL hP hU K hK
          have hB : Below _ _ _ := hL
          have e29 : ac.eval (.tmp 29) = .int .i64 z1 := hP 3 (by kernel_rfl)
          have e28 : ac.eval (.tmp 28) = .bool false := hP 2 (by kernel_rfl)
          exact rop_bin _ _ _ _ _ rfl e29 rfl (guard_int _ _ _ _ _ _ _ w') (gtr_iG _ _ _ (decide_eq_true g1) w') (wanted_of (j := 2) (b := false) rfl rfl e28) (hK _ _ (le8_refl _) rfl)
        · intro ac w' hF hL hP hU K hK
          have hB : Below _ _ _ := hL
          have e28 : ac.eval (.tmp 28) = .bool false := hP 2 (by kernel_rfl)
          have e30 : ac.eval (.tmp 30) = .bool true := hP 4 (by kernel_rfl)
          exact rop_pick _ _ _ rfl false e28 (by simpa using e30) (wanted_none rfl) (hK _ _ (le8_refl _) rfl)
        · intro ac w' hF hL hP hU K hK
          have hB : Below _ _ _ := hL
          have e31 : ac.eval (.tmp 31) = .bool true := hP 5 (by kernel_rfl)
          exact rop_move _ rfl e31 (wanted_none rfl) (hK _ _ (le8_refl _) rfl)
        · intro ac w' hF hL hP hU K hK
          have hB : Below _ _ _ := hL
          have e32 : ac.eval (.tmp 32) = .bool true := hP 6 (by kernel_rfl)
          exact rop_offG (j := 6) (b := false) rfl rfl e32 (by decide) (hK _ _ (le8_refl _) trivial)
        · intro ac w' hF hL hP hU K hK
          have hB : Below _ _ _ := hL
          have e32 : ac.eval (.tmp 32) = .bool true := hP 6 (by kernel_rfl)
          exact rop_offG (j := 6) (b := false) rfl rfl e32 (by decide) (hK _ _ (le8_refl _) trivial)
        · intro ac w' hF hL hP hU K hK
          have hB : Below _ _ _ := hL
          have e32 : ac.eval (.tmp 32) = .bool true := hP 6 (by kernel_rfl)
          exact rop_offG (j := 6) (b := false) rfl rfl e32 (by decide) (hK _ _ (le8_refl _) trivial)
        · intro ac w' hF hL hP hU K hK
          have hB : Below _ _ _ := hL
          have e32 : ac.eval (.tmp 32) = .bool true := hP 6 (by kernel_rfl)
          exact rop_offG (j := 6) (b := false) rfl rfl e32 (by decide) (hK _ _ (le8_refl _) trivial)
        · intro ac w' hF hL hP hU K hK
          have hB : Below _ _ _ := hL
          have e32 : ac.eval (.tmp 32) = .bool true := hP 6 (by kernel_rfl)
          exact rop_offG (j := 6) (b := false) rfl rfl e32 (by decide) (hK _ _ (le8_refl _) trivial)
        · intro ac w' hF hL hP hU K hK
          have hB : Below _ _ _ := hL
          have e32 : ac.eval (.tmp 32) = .bool true := hP 6 (by kernel_rfl)
          exact rop_pick _ _ _ rfl true e32 (by rfl) (wanted_none rfl) (hK _ _ (le8_refl _) rfl)
        · intro ac w' hF hL hP hU K hK
          have hB : Below _ _ _ := hL
          have e38 : ac.eval (.tmp 38) = .bool true := hP 12 (by kernel_rfl)
          exact rop_move _ rfl e38 (wanted_none rfl) (hK _ _ (le8_refl _) rfl)
        · intro ac w' hF hL hP hU K hK
          have hB : Below _ _ _ := hL
          have e39 : ac.eval (.tmp 39) = .bool true := hP 13 (by kernel_rfl)
          exact rop_offG (j := 13) (b := false) rfl rfl e39 (by decide) (hK _ _ (le8_refl _) trivial)
        · intro ac w' hF hL hP hU K hK
          have hB : Below _ _ _ := hL
          have e39 : ac.eval (.tmp 39) = .bool true := hP 13 (by kernel_rfl)
          exact rop_offG (j := 13) (b := false) rfl rfl e39 (by decide) (hK _ _ (le8_refl _) trivial)
        · intro ac w' hF hL hP hU K hK
          have hB : Below _ _ _ := hL
          have e39 : ac.eval (.tmp 39) = .bool true := hP 13 (by kernel_rfl)
          exact rop_offG (j := 13) (b := false) rfl rfl e39 (by decide) (hK _ _ (le8_refl _) trivial)
        · intro ac w' hF hL hP hU K hK
          have hB : Below _ _ _ := hL
          have e39 : ac.eval (.tmp 39) = .bool true := hP 13 (by kernel_rfl)
          exact rop_offG (j := 13) (b := false) rfl rfl e39 (by decide) (hK _ _ (le8_refl _) trivial)
        · intro ac w' hF hL hP hU K hK
          have hB : Below _ _ _ := hL
          have e39 : ac.eval (.tmp 39) = .bool true := hP 13 (by kernel_rfl)
          exact rop_offG (j := 13) (b := false) rfl rfl e39 (by decide) (hK _ _ (le8_refl _) trivial)
        · intro ac w' hF hL hP hU K hK
          have hB : Below _ _ _ := hL
          have e39 : ac.eval (.tmp 39) = .bool true := hP 13 (by kernel_rfl)
          exact rop_pick _ _ _ rfl true e39 (by rfl) (wanted_none rfl) (hK _ _ (le8_refl _) rfl)
        · intro ac w' hF hB hT
          have e45 : ac.eval (.tmp 45) = .bool true := hT 19 (by decide)
          rw [hF.setsG [26, 27, 28, 29, 30, 31, 32, 33, 34, 35, 36, 37, 38, 39, 40, 41, 42, 43, 44, 45] (by kernel_rfl)]
          simp only [List.foldl_cons, List.foldl_nil, List.setIfInBounds_toArray, List.set_cons_succ, List.set_cons_zero, e45]
          generalize ac.eval (.tmp 26) = u26
          generalize ac.eval (.tmp 27) = u27
          generalize ac.eval (.tmp 28) = u28
          generalize ac.eval (.tmp 29) = u29
          generalize ac.eval (.tmp 30) = u30
          generalize ac.eval (.tmp 31) = u31
          generalize ac.eval (.tmp 32) = u32
          generalize ac.eval (.tmp 33) = u33
          generalize ac.eval (.tmp 34) = u34
          generalize ac.eval (.tmp 35) = u35
          generalize ac.eval (.tmp 36) = u36
          generalize ac.eval (.tmp 37) = u37
          generalize ac.eval (.tmp 38) = u38
          generalize ac.eval (.tmp 39) = u39
          generalize ac.eval (.tmp 40) = u40
          generalize ac.eval (.tmp 41) = u41
          generalize ac.eval (.tmp 42) = u42
          generalize ac.eval (.tmp 43) = u43
          generalize ac.eval (.tmp 44) = u44
          clear e45 hT hF ac
          clear hb g0 g1
          go_wp2_with fail
          go_meet
          exact ⟨by rw [HB.out], hB⟩
      · skip
        by_cases g2 : (k0 : Int) < z1
        · have hb : bad = true := Hbad.out.trans (decide_eq_true (.inr (.inr (.inl g2))))
          have HB := Lib.hid hb
          try simp only [Act.put]
          refine wp_region_tab0 [RT.is (.int .i64 z1), RT.is (.bool false), RT.is (.bool false), RT.is (.int .i64 z1), RT.is (.bool false), RT.is (.bool false), RT.is (.bool false), RT.is (.pointer (some ⟨q5, 0, none⟩)), RT.is (.slice a0 k0 c0), RT.is (.int .i64 (k0 : Int)), RT.is (.int .i64 z1), RT.is (.bool true), RT.is (.bool true), RT.is (.bool true), RT.any, RT.any, RT.any, RT.any, RT.any, RT.is (.bool true)] (by kernel_rfl) (by kernel_rfl) (by kernel_rfl) ⟨?_, ?_, ?_, ?_, ?_, ?_, ?_, ?_, ?_, ?_, ?_, ?_, ?_, ?_, ?_, ?_, ?_, ?_, ?_, ?_, trivial⟩ ?_
          · intro ac w' hF hL hP hU K hK
            have hB : Below _ _ _ := hL
            have e8 : ac.eval (.tmp 8) = .int .i64 z1 := hF.at 8 (by kernel_rfl)
            exact rop_move _ rfl e8 (wanted_none rfl) (hK _ _ (le8_refl _) rfl)
          · intro ac w' hF hL hP hU K hK
            have hB : Below _ _ _ := hL
            have e26 : ac.eval (.tmp 26) = .int .i64 z1 := hP 0 (by kernel_rfl)
            exact rop_bin _ _ _ _ _ rfl e26 rfl (guard_int _ _ _ _ _ _ _ w') (lss_iG _ _ _ (decide_eq_false g0) w') (wanted_none rfl) (hK _ _ (le8_refl _) rfl)
          · intro ac w' hF hL hP hU K hK
            have hB : Below _ _ _ := hL
            have e27 : ac.eval (.tmp 27) = .bool false := hP 1 (by kernel_rfl)
            exact rop_move _ rfl e27 (wanted_none rfl) (hK _ _ (le8_refl _) rfl)
          · intro ac w' hF hL hP hU K hK
            have hB : Below _ _ _ := hL
            have e8 : ac.eval (.tmp 8) = .int .i64 z1 := hF.at 8 (by kernel_rfl)
            have e28 : ac.eval (.tmp 28) = .bool false := hP 2 (by kernel_rfl)
            exact rop_move _ rfl e8 (wanted_of (j := 2) (b := false) rfl rfl e28) (hK _ _ (le8_refl _) rfl)
          · intro ac w' hF hL hP hU K hK
            have hB : Below _ _ _ := hL
            have e29 : ac.eval (.tmp 29) = .int .i64 z1 := hP 3 (by kernel_rfl)
            have e28 : ac.eval (.tmp 28) = .bool false := hP 2 (by kernel_rfl)
            exact rop_bin _ _ _ _ _ rfl e29 rfl (guard_int _ _ _ _ _ _ _ w') (gtr_iG _ _ _ (decide_eq_false g1) w') (wanted_of (j := 2) (b := false) rfl rfl e28) (hK _ _ (le8_refl _) rfl)
          · intro ac w' hF hL hP hU K hK
            have hB : Below _ _ _ := hL
            have e28 : ac.eval (.tmp 28) = .bool false := hP 2 (by kernel_rfl)
            have e30 : ac.eval (.tmp 30) = .bool false := hP 4 (by kernel_rfl)
            exact rop_pick _ _ _ rfl false e28 (by simpa using e30) (wanted_none rfl) (hK _ _ (le8_refl _) rfl)
          · intro ac w' hF hL hP hU K hK
            have hB : Below _ _ _ := hL
            have e31 : ac.eval (.tmp 31) = .bool false := hP 5 (by kernel_rfl)
            exact rop_move _ rfl e31 (wanted_none rfl) (hK _ _ (le8_refl _) rfl)
          · intro ac w' hF hL hP hU K hK
            have hB : Below _ _ _ := hL
            have e5 : ac.eval (.tmp 5) = .pointer (some ⟨q5, 0, none⟩) := hF.at 5 (by kernel_rfl)
            have e32 : ac.eval (.tmp 32) = .bool false := hP 6 (by kernel_rfl)
            exact rop_idx _ _ _ rfl e5 rfl (idx2R q5 0 _ rfl (by decide) w') (wanted_of (j := 6) (b := false) rfl rfl e32) (hK _ _ (le8_refl _) rfl)
          · intro ac w' hF hL hP hU K hK
            have hB : Below _ _ _ := hL
            have e33 : ac.eval (.tmp 33) = .pointer (some ⟨q5, 0, none⟩) := hP 7 (by kernel_rfl)
            have e32 : ac.eval (.tmp 32) = .bool false := hP 6 (by kernel_rfl)
            exact rop_ld _ _ rfl e33 (load_sumslP (cell_of (heap_oldP Jq5.out hB) 0)) (wanted_of (j := 6) (b := false) rfl rfl e32) (hK _ _ (le8_refl _) rfl)
          · intro ac w' hF hL hP hU K hK
            have hB : Below _ _ _ := hL
            have e34 : ac.eval (.tmp 34) = .slice a0 k0 c0 := hP 8 (by kernel_rfl)
            have e32 : ac.eval (.tmp 32) = .bool false := hP 6 (by kernel_rfl)
            exact rop_lenG _ Tryd.underlying25 rfl e34 (wanted_of (j := 6) (b := false) rfl rfl e32) (hK _ _ (le8_refl _) rfl)
          · intro ac w' hF hL hP hU K hK
            have hB : Below _ _ _ := hL
            have e8 : ac.eval (.tmp 8) = .int .i64 z1 := hF.at 8 (by kernel_rfl)
            have e32 : ac.eval (.tmp 32) = .bool false := hP 6 (by kernel_rfl)
            exact rop_move _ rfl e8 (wanted_of (j := 6) (b := false) rfl rfl e32) (hK _ _ (le8_refl _) rfl)
          · intro ac w' hF hL hP hU K hK
            have hB : Below _ _ _ := hL
            have e35 : ac.eval (.tmp 35) = .int .i64 (k0 : Int) := hP 9 (by kernel_rfl)
            have e36 : ac.eval (.tmp 36) = .int .i64 z1 := hP 10 (by kernel_rfl)
            have e32 : ac.eval (.tmp 32) = .bool false := hP 6 (by kernel_rfl)
            exact rop_bin _ _ _ _ _ rfl e35 e36 (guard_int _ _ _ _ _ _ _ w') (lss_iG _ _ _ (decide_eq_true g2) w') (wanted_of (j := 6) (b := false) rfl rfl e32) (hK _ _ (le8_refl _) rfl)
          · intro ac w' hF hL hP hU K hK
            have hB : Below _ _ _ := hL
            have e32 : ac.eval (.tmp 32) = .bool false := hP 6 (by kernel_rfl)
            have e37 : ac.eval (.tmp 37) = .bool true := hP 11 (by kernel_rfl)
            exact rop_pick _ _ _ rfl false e32 (by simpa using e37) (wanted_none rfl) (hK _ _ (le8_refl _) rfl)
          · intro ac w' hF hL hP hU K hK
            have hB : Below _ _ _ := hL
            have e38 : ac.eval (.tmp 38) = .bool true := hP 12 (by kernel_rfl)
            exact rop_move _ rfl e38 (wanted_none rfl) (hK _ _ (le8_refl _) rfl)
          · intro ac w' hF hL hP hU K hK
            have hB : Below _ _ _ := hL
            have e39 : ac.eval (.tmp 39) = .bool true := hP 13 (by kernel_rfl)
            exact rop_offG (j := 13) (b := false) rfl rfl e39 (by decide) (hK _ _ (le8_refl _) trivial)
          · intro ac w' hF hL hP hU K hK
            have hB : Below _ _ _ := hL
            have e39 : ac.eval (.tmp 39) = .bool true := hP 13 (by kernel_rfl)
            exact rop_offG (j := 13) (b := false) rfl rfl e39 (by decide) (hK _ _ (le8_refl _) trivial)
          · intro ac w' hF hL hP hU K hK
            have hB : Below _ _ _ := hL
            have e39 : ac.eval (.tmp 39) = .bool true := hP 13 (by kernel_rfl)
            exact rop_offG (j := 13) (b := false) rfl rfl e39 (by decide) (hK _ _ (le8_refl _) trivial)
          · intro ac w' hF hL hP hU K hK
            have hB : Below _ _ _ := hL
            have e39 : ac.eval (.tmp 39) = .bool true := hP 13 (by kernel_rfl)
            exact rop_offG (j := 13) (b := false) rfl rfl e39 (by decide) (hK _ _ (le8_refl _) trivial)
          · intro ac w' hF hL hP hU K hK
            have hB : Below _ _ _ := hL
            have e39 : ac.eval (.tmp 39) = .bool true := hP 13 (by kernel_rfl)
            exact rop_offG (j := 13) (b := false) rfl rfl e39 (by decide) (hK _ _ (le8_refl _) trivial)
          · intro ac w' hF hL hP hU K hK
            have hB : Below _ _ _ := hL
            have e39 : ac.eval (.tmp 39) = .bool true := hP 13 (by kernel_rfl)
            exact rop_pick _ _ _ rfl true e39 (by rfl) (wanted_none rfl) (hK _ _ (le8_refl _) rfl)
          · intro ac w' hF hB hT
            have e45 : ac.eval (.tmp 45) = .bool true := hT 19 (by decide)
            rw [hF.setsG [26, 27, 28, 29, 30, 31, 32, 33, 34, 35, 36, 37, 38, 39, 40, 41, 42, 43, 44, 45] (by kernel_rfl)]
            simp only [List.foldl_cons, List.foldl_nil, List.setIfInBounds_toArray, List.set_cons_succ, List.set_cons_zero, e45]
            generalize ac.eval (.tmp 26) = u26
            generalize ac.eval (.tmp 27) = u27
            generalize ac.eval (.tmp 28) = u28
            generalize ac.eval (.tmp 29) = u29
            generalize ac.eval (.tmp 30) = u30
            generalize ac.eval (.tmp 31) = u31
            generalize ac.eval (.tmp 32) = u32
            generalize ac.eval (.tmp 33) = u33
            generalize ac.eval (.tmp 34) = u34
            generalize ac.eval (.tmp 35) = u35
            generalize ac.eval (.tmp 36) = u36
            generalize ac.eval (.tmp 37) = u37
            generalize ac.eval (.tmp 38) = u38
            generalize ac.eval (.tmp 39) = u39
            generalize ac.eval (.tmp 40) = u40
            generalize ac.eval (.tmp 41) = u41
            generalize ac.eval (.tmp 42) = u42
            generalize ac.eval (.tmp 43) = u43
            generalize ac.eval (.tmp 44) = u44
            clear e45 hT hF ac
            clear hb g0 g1 g2
            go_wp2_with fail
            go_meet
            exact ⟨by rw [HB.out], hB⟩
        · skip
          by_cases g3 : (k1 : Int) < z1
          · have hb : bad = true := Hbad.out.trans (decide_eq_true (.inr (.inr (.inr g3))))
            have HB := Lib.hid hb
            try simp only [Act.put]
            refine wp_region_tab0 [RT.is (.int .i64 z1), RT.is (.bool false), RT.is (.bool false), RT.is (.int .i64 z1), RT.is (.bool false), RT.is (.bool false), RT.is (.bool false), RT.is (.pointer (some ⟨q5, 0, none⟩)), RT.is (.slice a0 k0 c0), RT.is (.int .i64 (k0 : Int)), RT.is (.int .i64 z1), RT.is (.bool false), RT.is (.bool false), RT.is (.bool false), RT.is (.pointer (some ⟨q5, 1, none⟩)), RT.is (.slice a1 k1 c1), RT.is (.int .i64 (k1 : Int)), RT.is (.int .i64 z1), RT.is (.bool true), RT.is (.bool true)] (by kernel_rfl) (by kernel_rfl) (by kernel_rfl) ⟨?_, ?_, ?_, ?_, ?_, ?_, ?_, ?_, ?_, ?_, ?_, ?_, ?_, ?_, ?_, ?_, ?_, ?_, ?_, ?_, trivial⟩ ?_
            · intro ac w' hF hL hP hU K hK
              have hB : Below _ _ _ := hL
              have e8 : ac.eval (.tmp 8) = .int .i64 z1 := hF.at 8 (by kernel_rfl)
              exact rop_move _ rfl e8 (wanted_none rfl) (hK _ _ (le8_refl _) rfl)
            · intro ac w' hF hL hP hU K hK
              have hB : Below _ _ _ := hL
              have e26 : ac.eval (.tmp 26) = .int .i64 z1 := hP 0 (by kernel_rfl)
              exact rop_bin _ _ _ _ _ rfl e26 rfl (guard_int _ _ _ _ _ _ _ w') (lss_iG _ _ _ (decide_eq_false g0) w') (wanted_none rfl) (hK _ _ (le8_refl _) rfl)
            · intro ac w' hF hL hP hU K hK
              have hB : Below _ _ _ := hL
              have e27 : ac.eval (.tmp 27) = .bool false := hP 1 (by kernel_rfl)
              exact rop_move _ rfl e27 (wanted_none rfl) (hK _ _ (le8_refl _) rfl)
            · intro ac w' hF hL hP hU K hK
              have hB : Below _ _ _ := hL
              have e8 : ac.eval (.tmp 8) = .int .i64 z1 := hF.at 8 (by kernel_rfl)
              have e28 : ac.eval (.tmp 28) = .bool false := hP 2 (by kernel_rfl)
              exact rop_move _ rfl e8 (wanted_of (j := 2) (b := false) rfl rfl e28) (hK _ _ (le8_refl _) rfl)
            · intro ac w' hF hL hP hU K hK
              have hB : Below _ _ _ := hL
              have e29 : ac.eval (.tmp 29) = .int .i64 z1 := hP 3 (by kernel_rfl)
              have e28 : ac.eval (.tmp 28) = .bool false := hP 2 (by kernel_rfl)
              exact rop_bin _ _ _ _ _ rfl e29 rfl (guard_int _ _ _ _ _ _ _ w') (gtr_iG _ _ _ (decide_eq_false g1) w') (wanted_of (j := 2) (b := false) rfl rfl e28) (hK _ _ (le8_refl _) rfl)
            · intro ac w' hF hL hP hU K hK
              have hB : Below _ _ _ := hL
              have e28 : ac.eval (.tmp 28) = .bool false := hP 2 (by kernel_rfl)
              have e30 : ac.eval (.tmp 30) = .bool false := hP 4 (by kernel_rfl)
              exact rop_pick _ _ _ rfl false e28 (by simpa using e30) (wanted_none rfl) (hK _ _ (le8_refl _) rfl)
            · intro ac w' hF hL hP hU K hK
              have hB : Below _ _ _ := hL
              have e31 : ac.eval (.tmp 31) = .bool false := hP 5 (by kernel_rfl)
              exact rop_move _ rfl e31 (wanted_none rfl) (hK _ _ (le8_refl _) rfl)
            · intro ac w' hF hL hP hU K hK
              have hB : Below _ _ _ := hL
              have e5 : ac.eval (.tmp 5) = .pointer (some ⟨q5, 0, none⟩) := hF.at 5 (by kernel_rfl)
              have e32 : ac.eval (.tmp 32) = .bool false := hP 6 (by kernel_rfl)
              exact rop_idx _ _ _ rfl e5 rfl (idx2R q5 0 _ rfl (by decide) w') (wanted_of (j := 6) (b := false) rfl rfl e32) (hK _ _ (le8_refl _) rfl)
            · intro ac w' hF hL hP hU K hK
              have hB : Below _ _ _ := hL
              have e33 : ac.eval (.tmp 33) = .pointer (some ⟨q5, 0, none⟩) := hP 7 (by kernel_rfl)
              have e32 : ac.eval (.tmp 32) = .bool false := hP 6 (by kernel_rfl)
              exact rop_ld _ _ rfl e33 (load_sumslP (cell_of (heap_oldP Jq5.out hB) 0)) (wanted_of (j := 6) (b := false) rfl rfl e32) (hK _ _ (le8_refl _) rfl)
            · intro ac w' hF hL hP hU K hK
              have hB : Below _ _ _ := hL
              have e34 : ac.eval (.tmp 34) = .slice a0 k0 c0 := hP 8 (by kernel_rfl)
              have e32 : ac.eval (.tmp 32) = .bool false := hP 6 (by kernel_rfl)
              exact rop_lenG _ Tryd.underlying25 rfl e34 (wanted_of (j := 6) (b := false) rfl rfl e32) (hK _ _ (le8_refl _) rfl)
            · intro ac w' hF hL hP hU K hK
              have hB : Below _ _ _ := hL
              have e8 : ac.eval (.tmp 8) = .int .i64 z1 := hF.at 8 (by kernel_rfl)
              have e32 : ac.eval (.tmp 32) = .bool false := hP 6 (by kernel_rfl)
              exact rop_move _ rfl e8 (wanted_of (j := 6) (b := false) rfl rfl e32) (hK _ _ (le8_refl _) rfl)
            · intro ac w' hF hL hP hU K hK
              have hB : Below _ _ _ := hL
              have e35 : ac.eval (.tmp 35) = .int .i64 (k0 : Int) := hP 9 (by kernel_rfl)
              have e36 : ac.eval (.tmp 36) = .int .i64 z1 := hP 10 (by kernel_rfl)
              have e32 : ac.eval (.tmp 32) = .bool false := hP 6 (by kernel_rfl)
              exact rop_bin _ _ _ _ _ rfl e35 e36 (guard_int _ _ _ _ _ _ _ w') (lss_iG _ _ _ (decide_eq_false g2) w') (wanted_of (j := 6) (b := false) rfl rfl e32) (hK _ _ (le8_refl _) rfl)
            · intro ac w' hF hL hP hU K hK
              have hB : Below _ _ _ := hL
              have e32 : ac.eval (.tmp 32) = .bool false := hP 6 (by kernel_rfl)
              have e37 : ac.eval (.tmp 37) = .bool false := hP 11 (by kernel_rfl)
              exact rop_pick _ _ _ rfl false e32 (by simpa using e37) (wanted_none rfl) (hK _ _ (le8_refl _) rfl)
            · intro ac w' hF hL hP hU K hK
              have hB : Below _ _ _ := hL
              have e38 : ac.eval (.tmp 38) = .bool false := hP 12 (by kernel_rfl)
              exact rop_move _ rfl e38 (wanted_none rfl) (hK _ _ (le8_refl _) rfl)
            · intro ac w' hF hL hP hU K hK
              have hB : Below _ _ _ := hL
              have e5 : ac.eval (.tmp 5) = .pointer (some ⟨q5, 0, none⟩) := hF.at 5 (by kernel_rfl)
              have e39 : ac.eval (.tmp 39) = .bool false := hP 13 (by kernel_rfl)
              exact rop_idx _ _ _ rfl e5 rfl (idx2R q5 1 _ rfl (by decide) w') (wanted_of (j := 13) (b := false) rfl rfl e39) (hK _ _ (le8_refl _) rfl)
            · intro ac w' hF hL hP hU K hK
              have hB : Below _ _ _ := hL
              have e40 : ac.eval (.tmp 40) = .pointer (some ⟨q5, 1, none⟩) := hP 14 (by kernel_rfl)
              have e39 : ac.eval (.tmp 39) = .bool false := hP 13 (by kernel_rfl)
              exact rop_ld _ _ rfl e40 (load_sumslP (cell_of (heap_oldP Jq5.out hB) 1)) (wanted_of (j := 13) (b := false) rfl rfl e39) (hK _ _ (le8_refl _) rfl)
            · intro ac w' hF hL hP hU K hK
              have hB : Below _ _ _ := hL
              have e41 : ac.eval (.tmp 41) = .slice a1 k1 c1 := hP 15 (by kernel_rfl)
              have e39 : ac.eval (.tmp 39) = .bool false := hP 13 (by kernel_rfl)
              exact rop_lenG _ Tryd.underlying25 rfl e41 (wanted_of (j := 13) (b := false) rfl rfl e39) (hK _ _ (le8_refl _) rfl)
            · intro ac w' hF hL hP hU K hK
              have hB : Below _ _ _ := hL
              have e8 : ac.eval (.tmp 8) = .int .i64 z1 := hF.at 8 (by kernel_rfl)
              have e39 : ac.eval (.tmp 39) = .bool false := hP 13 (by kernel_rfl)
              exact rop_move _ rfl e8 (wanted_of (j := 13) (b := false) rfl rfl e39) (hK _ _ (le8_refl _) rfl)
            · intro ac w' hF hL hP hU K hK
              have hB : Below _ _ _ := hL
              have e42 : ac.eval (.tmp 42) = .int .i64 (k1 : Int) := hP 16 (by kernel_rfl)
              have e43 : ac.eval (.tmp 43) = .int .i64 z1 := hP 17 (by kernel_rfl)
              have e39 : ac.eval (.tmp 39) = .bool false := hP 13 (by kernel_rfl)
              exact rop_bin _ _ _ _ _ rfl e42 e43 (guard_int _ _ _ _ _ _ _ w') (lss_iG _ _ _ (decide_eq_true g3) w') (wanted_of (j := 13) (b := false) rfl rfl e39) (hK _ _ (le8_refl _) rfl)
            · intro ac w' hF hL hP hU K hK
              have hB : Below _ _ _ := hL
              have e39 : ac.eval (.tmp 39) = .bool false := hP 13 (by kernel_rfl)
              have e44 : ac.eval (.tmp 44) = .bool true := hP 18 (by kernel_rfl)
              exact rop_pick _ _ _ rfl false e39 (by simpa using e44) (wanted_none rfl) (hK _ _ (le8_refl _) rfl)
            · intro ac w' hF hB hT
              have e45 : ac.eval (.tmp 45) = .bool true := hT 19 (by decide)
              rw [hF.setsG [26, 27, 28, 29, 30, 31, 32, 33, 34, 35, 36, 37, 38, 39, 40, 41, 42, 43, 44, 45] (by kernel_rfl)]
              simp only [List.foldl_cons, List.foldl_nil, List.setIfInBounds_toArray, List.set_cons_succ, List.set_cons_zero, e45]
              generalize ac.eval (.tmp 26) = u26
              generalize ac.eval (.tmp 27) = u27
              generalize ac.eval (.tmp 28) = u28
              generalize ac.eval (.tmp 29) = u29
              generalize ac.eval (.tmp 30) = u30
              generalize ac.eval (.tmp 31) = u31
              generalize ac.eval (.tmp 32) = u32
              generalize ac.eval (.tmp 33) = u33
              generalize ac.eval (.tmp 34) = u34
              generalize ac.eval (.tmp 35) = u35
              generalize ac.eval (.tmp 36) = u36
              generalize ac.eval (.tmp 37) = u37
              generalize ac.eval (.tmp 38) = u38
              generalize ac.eval (.tmp 39) = u39
              generalize ac.eval (.tmp 40) = u40
              generalize ac.eval (.tmp 41) = u41
              generalize ac.eval (.tmp 42) = u42
              generalize ac.eval (.tmp 43) = u43
              generalize ac.eval (.tmp 44) = u44
              clear e45 hT hF ac
              clear hb g0 g1 g2 g3
              go_wp2_with fail
              go_meet
              exact ⟨by rw [HB.out], hB⟩
          · have hb : bad = false := Hbad.out.trans (decide_eq_false (fun h => by rcases h with h | h | h | h <;> contradiction))
            have HB := Lib.hid hb
            try simp only [Act.put]
            refine wp_region_tab0 [RT.is (.int .i64 z1), RT.is (.bool false), RT.is (.bool false), RT.is (.int .i64 z1), RT.is (.bool false), RT.is (.bool false), RT.is (.bool false), RT.is (.pointer (some ⟨q5, 0, none⟩)), RT.is (.slice a0 k0 c0), RT.is (.int .i64 (k0 : Int)), RT.is (.int .i64 z1), RT.is (.bool false), RT.is (.bool false), RT.is (.bool false), RT.is (.pointer (some ⟨q5, 1, none⟩)), RT.is (.slice a1 k1 c1), RT.is (.int .i64 (k1 : Int)), RT.is (.int .i64 z1), RT.is (.bool false), RT.is (.bool false)] (by kernel_rfl) (by kernel_rfl) (by kernel_rfl) ⟨?_, ?_, ?_, ?_, ?_, ?_, ?_, ?_, ?_, ?_, ?_, ?_, ?_, ?_, ?_, ?_, ?_, ?_, ?_, ?_, trivial⟩ ?_
            · intro ac w' hF hL hP hU K hK
              have hB : Below _ _ _ := hL
              have e8 : ac.eval (.tmp 8) = .int .i64 z1 := hF.at 8 (by kernel_rfl)
              exact rop_move _ rfl e8 (wanted_none rfl) (hK _ _ (le8_refl _) rfl)
            · intro ac w' hF hL hP hU K hK
              have hB : Below _ _ _ := hL
              have e26 : ac.eval (.tmp 26) = .int .i64 z1 := hP 0 (by kernel_rfl)
              exact rop_bin _ _ _ _ _ rfl e26 rfl (guard_int _ _ _ _ _ _ _ w') (lss_iG _ _ _ (decide_eq_false g0) w') (wanted_none rfl) (hK _ _ (le8_refl _) rfl)
            · intro ac w' hF hL hP hU K hK
              have hB : Below _ _ _ := hL
              have e27 : ac.eval (.tmp 27) = .bool false := hP 1 (by kernel_rfl)
              exact rop_move _ rfl e27 (wanted_none rfl) (hK _ _ (le8_refl _) rfl)
            · intro ac w' hF hL hP hU K hK
              have hB : Below _ _ _ := hL
              have e8 : ac.eval (.tmp 8) = .int .i64 z1 := hF.at 8 (by kernel_rfl)
              have e28 : ac.eval (.tmp 28) = .bool false := hP 2 (by kernel_rfl)
              exact rop_move _ rfl e8 (wanted_of (j := 2) (b := false) rfl rfl e28) (hK _ _ (le8_refl _) rfl)
            · intro ac w' hF hL hP hU K hK
              have hB : Below _ _ _ := hL
              have e29 : ac.eval (.tmp 29) = .int .i64 z1 := hP 3 (by kernel_rfl)
              have e28 : ac.eval (.tmp 28) = .bool false := hP 2 (by kernel_rfl)
              exact rop_bin _ _ _ _ _ rfl e29 rfl (guard_int _ _ _ _ _ _ _ w') (gtr_iG _ _ _ (decide_eq_false g1) w') (wanted_of (j := 2) (b := false) rfl rfl e28) (hK _ _ (le8_refl _) rfl)
            · intro ac w' hF hL hP hU K hK
              have hB : Below _ _ _ := hL
              have e28 : ac.eval (.tmp 28) = .bool false := hP 2 (by kernel_rfl)
              have e30 : ac.eval (.tmp 30) = .bool false := hP 4 (by kernel_rfl)
              exact rop_pick _ _ _ rfl false e28 (by simpa using e30) (wanted_none rfl) (hK _ _ (le8_refl _) rfl)
            · intro ac w' hF hL hP hU K hK
              have hB : Below _ _ _ := hL
              have e31 : ac.eval (.tmp 31) = .bool false := hP 5 (by kernel_rfl)
              exact rop_move _ rfl e31 (wanted_none rfl) (hK _ _ (le8_refl _) rfl)
            · intro ac w' hF hL hP hU K hK
              have hB : Below _ _ _ := hL
              have e5 : ac.eval (.tmp 5) = .pointer (some ⟨q5, 0, none⟩) := hF.at 5 (by kernel_rfl)
              have e32 : ac.eval (.tmp 32) = .bool false := hP 6 (by kernel_rfl)
              exact rop_idx _ _ _ rfl e5 rfl (idx2R q5 0 _ rfl (by decide) w') (wanted_of (j := 6) (b := false) rfl rfl e32) (hK _ _ (le8_refl _) rfl)
            · intro ac w' hF hL hP hU K hK
              have hB : Below _ _ _ := hL
              have e33 : ac.eval (.tmp 33) = .pointer (some ⟨q5, 0, none⟩) := hP 7 (by kernel_rfl)
              have e32 : ac.eval (.tmp 32) = .bool false := hP 6 (by kernel_rfl)
              exact rop_ld _ _ rfl e33 (load_sumslP (cell_of (heap_oldP Jq5.out hB) 0)) (wanted_of (j := 6) (b := false) rfl rfl e32) (hK _ _ (le8_refl _) rfl)
            · intro ac w' hF hL hP hU K hK
              have hB : Below _ _ _ := hL
              have e34 : ac.eval (.tmp 34) = .slice a0 k0 c0 := hP 8 (by kernel_rfl)
              have e32 : ac.eval (.tmp 32) = .bool false := hP 6 (by kernel_rfl)
              exact rop_lenG _ Tryd.underlying25 rfl e34 (wanted_of (j := 6) (b := false) rfl rfl e32) (hK _ _ (le8_refl _) rfl)
            · intro ac w' hF hL hP hU K hK
              have hB : Below _ _ _ := hL
              have e8 : ac.eval (.tmp 8) = .int .i64 z1 := hF.at 8 (by kernel_rfl)
              have e32 : ac.eval (.tmp 32) = .bool false := hP 6 (by kernel_rfl)
              exact rop_move _ rfl e8 (wanted_of (j := 6) (b := false) rfl rfl e32) (hK _ _ (le8_refl _) rfl)
            · intro ac w' hF hL hP hU K hK
              have hB : Below _ _ _ := hL
              have e35 : ac.eval (.tmp 35) = .int .i64 (k0 : Int) := hP 9 (by kernel_rfl)
              have e36 : ac.eval (.tmp 36) = .int .i64 z1 := hP 10 (by kernel_rfl)
              have e32 : ac.eval (.tmp 32) = .bool false := hP 6 (by kernel_rfl)
              exact rop_bin _ _ _ _ _ rfl e35 e36 (guard_int _ _ _ _ _ _ _ w') (lss_iG _ _ _ (decide_eq_false g2) w') (wanted_of (j := 6) (b := false) rfl rfl e32) (hK _ _ (le8_refl _) rfl)
            · intro ac w' hF hL hP hU K hK
              have hB : Below _ _ _ := hL
              have e32 : ac.eval (.tmp 32) = .bool false := hP 6 (by kernel_rfl)
              have e37 : ac.eval (.tmp 37) = .bool false := hP 11 (by kernel_rfl)
              exact rop_pick _ _ _ rfl false e32 (by simpa using e37) (wanted_none rfl) (hK _ _ (le8_refl _) rfl)
            · intro ac w' hF hL hP hU K hK
              have hB : Below _ _ _ := hL
              have e38 : ac.eval (.tmp 38) = .bool false := hP 12 (by kernel_rfl)
              exact rop_move _ rfl e38 (wanted_none rfl) (hK _ _ (le8_refl _) rfl)
            · intro ac w' hF hL hP hU K hK
              have hB : Below _ _ _ := hL
              have e5 : ac.eval (.tmp 5) = .pointer (some ⟨q5, 0, none⟩) := hF.at 5 (by kernel_rfl)
              have e39 : ac.eval (.tmp 39) = .bool false := hP 13 (by kernel_rfl)
              exact rop_idx _ _ _ rfl e5 rfl (idx2R q5 1 _ rfl (by decide) w') (wanted_of (j := 13) (b := false) rfl rfl e39) (hK _ _ (le8_refl _) rfl)
            · intro ac w' hF hL hP hU K hK
              have hB : Below _ _ _ := hL
              have e40 : ac.eval (.tmp 40) = .pointer (some ⟨q5, 1, none⟩) := hP 14 (by kernel_rfl)
              have e39 : ac.eval (.tmp 39) = .bool false := hP 13 (by kernel_rfl)
              exact rop_ld _ _ rfl e40 (load_sumslP (cell_of (heap_oldP Jq5.out hB) 1)) (wanted_of (j := 13) (b := false) rfl rfl e39) (hK _ _ (le8_refl _) rfl)
            · intro ac w' hF hL hP hU K hK
              have hB : Below _ _ _ := hL
              have e41 : ac.eval (.tmp 41) = .slice a1 k1 c1 := hP 15 (by kernel_rfl)
              have e39 : ac.eval (.tmp 39) = .bool false := hP 13 (by kernel_rfl)
              exact rop_lenG _ Tryd.underlying25 rfl e41 (wanted_of (j := 13) (b := false) rfl rfl e39) (hK _ _ (le8_refl _) rfl)
            · intro ac w' hF hL hP hU K hK
              have hB : Below _ _ _ := hL
              have e8 : ac.eval (.tmp 8) = .int .i64 z1 := hF.at 8 (by kernel_rfl)
              have e39 : ac.eval (.tmp 39) = .bool false := hP 13 (by kernel_rfl)
              exact rop_move _ rfl e8 (wanted_of (j := 13) (b := false) rfl rfl e39) (hK _ _ (le8_refl _) rfl)
            · intro ac w' hF hL hP hU K hK
              have hB : Below _ _ _ := hL
              have e42 : ac.eval (.tmp 42) = .int .i64 (k1 : Int) := hP 16 (by kernel_rfl)
              have e43 : ac.eval (.tmp 43) = .int .i64 z1 := hP 17 (by kernel_rfl)
              have e39 : ac.eval (.tmp 39) = .bool false := hP 13 (by kernel_rfl)
              exact rop_bin _ _ _ _ _ rfl e42 e43 (guard_int _ _ _ _ _ _ _ w') (lss_iG _ _ _ (decide_eq_false g3) w') (wanted_of (j := 13) (b := false) rfl rfl e39) (hK _ _ (le8_refl _) rfl)
            · intro ac w' hF hL hP hU K hK
              have hB : Below _ _ _ := hL
              have e39 : ac.eval (.tmp 39) = .bool false := hP 13 (by kernel_rfl)
              have e44 : ac.eval (.tmp 44) = .bool false := hP 18 (by kernel_rfl)
              exact rop_pick _ _ _ rfl false e39 (by simpa using e44) (wanted_none rfl) (hK _ _ (le8_refl _) rfl)
            · intro ac w' hF hB hT
              have e45 : ac.eval (.tmp 45) = .bool false := hT 19 (by decide)
              rw [hF.setsG [26, 27, 28, 29, 30, 31, 32, 33, 34, 35, 36, 37, 38, 39, 40, 41, 42, 43, 44, 45] (by kernel_rfl)]
              simp only [List.foldl_cons, List.foldl_nil, List.setIfInBounds_toArray, List.set_cons_succ, List.set_cons_zero, e45]
              generalize ac.eval (.tmp 26) = u26
              generalize ac.eval (.tmp 27) = u27
              generalize ac.eval (.tmp 28) = u28
              generalize ac.eval (.tmp 29) = u29
              generalize ac.eval (.tmp 30) = u30
              generalize ac.eval (.tmp 31) = u31
              generalize ac.eval (.tmp 32) = u32
              generalize ac.eval (.tmp 33) = u33
              generalize ac.eval (.tmp 34) = u34
              generalize ac.eval (.tmp 35) = u35
              generalize ac.eval (.tmp 36) = u36
              generalize ac.eval (.tmp 37) = u37
              generalize ac.eval (.tmp 38) = u38
              generalize ac.eval (.tmp 39) = u39
              generalize ac.eval (.tmp 40) = u40
              generalize ac.eval (.tmp 41) = u41
              generalize ac.eval (.tmp 42) = u42
              generalize ac.eval (.tmp 43) = u43
              generalize ac.eval (.tmp 44) = u44
              clear e45 hT hF ac
              clear hb g0 g1 g2 g3
              go_wp2_with fail
              go_meet
              exact ⟨by rw [HB.out], hB⟩
  case rest =>
  obtain ⟨rfl, hBc⟩ := hcut
  obtain ⟨W2, hW2⟩ : ∃ W2, W2 = wc := ⟨_, rfl⟩
  subst hW2
  replace HBW := Lib.hid (below_step HBW.out (Nat.le_refl _) hBc)
  cases bad with
  | true =>
    clear hBc Hbad
    go_wp2
    go_ret
    exact ⟨rfl, HBW.out⟩
  | false =>
  have hbd := of_decide_eq_false Hbad.out.symm
  obtain ⟨n0, rfl⟩ : ∃ n0 : Nat, z1 = (n0 : Int) := ⟨z1.toNat, by omega⟩
  have hn0 : n0 ≤ 50 ∧ n0 ≤ k0 ∧ n0 ≤ k1 := by omega
  have okp : okP m n = true := by
    have := Hz1.out
    cases e : okP m n with
    | true => rfl
    | false => rw [e, if_neg (by decide)] at this; omega
  have hlong : n0 = Tree.long m.toNat n.toNat := by
    have := Hz1.out
    rw [okp, if_pos rfl] at this
    omega
  obtain ⟨A, hA⟩ : ∃ A, A = la.take n0 := ⟨_, rfl⟩
  obtain ⟨B, hB0⟩ : ∃ B, B = lb.take n0 := ⟨_, rfl⟩
  obtain ⟨T, hT⟩ : ∃ T, T = turnsZ m n := ⟨_, rfl⟩
  have hAl : A.length = n0 := by rw [hA, List.length_take]; have := Hk0.out; omega
  have hBl : B.length = n0 := by rw [hB0, List.length_take]; have := Hk1.out; omega
  have hTl : T.length = n0 := by rw [hT, hlong]; unfold turnsZ; rw [if_pos okp]; rfl
  have hfA : foldZ x0 m n A = (Tree.fold x0 A T, true) := by
    unfold foldZ
    rw [foldLen_eq, if_pos okp, hAl, hlong, decide_eq_true rfl, if_pos rfl, hT]
  have hfB : foldZ x1 m n B = (Tree.fold x1 B T, true) := by
    unfold foldZ
    rw [foldLen_eq, if_pos okp, hBl, hlong, decide_eq_true rfl, if_pos rfl, hT]
  obtain ⟨R, hR⟩ : ∃ R, R = Tree.fold x0 A T := ⟨_, rfl⟩
  obtain ⟨rr, hrr⟩ : ∃ rr, rr = decide (Tree.fold x1 B T = R) := ⟨_, rfl⟩
  have HRl : Hid (R.length = 32) := Lib.hid (by rw [hR]; exact Tree.fold_length _ _ _ HX0l.out)
  have hsA : Sums w (.slice a0 n0 c0) A := by rw [hA]; exact HRA.out.head n0 (by rw [← Hk0.out]; omega)
  have hsB : Sums w (.slice a1 n0 c1) B := by rw [hB0]; exact HRB.out.head n0 (by rw [← Hk1.out]; omega)
  have HFO0 : Hid (∀ v u, KT u → Sums u v A → Calls Tryd.prog 12 #[sumV x0, .int .i64 m, .int .i64 n, v] u fun e w' => e = .returned (.tuple #[sumV R, .bool true]) ∧ Below u.heap.size u w') := Lib.hid fun v u hk hv => by
    have := fold_any x0 HX0l.out m n hm.2 hn.2 v A u hv (by omega) hk
    rw [hfA, ← hR] at this
    exact this
  have HRI0 : Hid (∀ v u, KT u → Sums u v B → Calls Tryd.prog 16 #[sumV R, sumV x1, .int .i64 m, .int .i64 n, v] u fun e w' => e = .returned (.bool rr) ∧ Below u.heap.size u w') := Lib.hid fun v u hk hv => by
    have := right_any R x1 HRl.out HX1l.out m n hm.2 hn.2 v B u hv (by omega) hk
    rw [hfB, Bool.true_and] at this
    rw [hrr]
    exact this
  obtain ⟨sm, hsm⟩ : ∃ sm, sm = decide (A = B) := ⟨_, rfl⟩
  have HSM : Hid (∀ va vb u, Sums u va A → Sums u vb B → Calls Tryd.prog 23 #[va, vb] u fun e w' => e = .returned (.bool sm) ∧ Below u.heap.size u w') := Lib.hid fun va vb u h1 h2 => by rw [hsm]; exact same_any va vb A B u h1 h2 (by omega)
  have HTU : Hid (∀ u, Calls Tryd.prog 24 #[.int .i64 m, .int .i64 n] u fun e w' => ∃ b c, e = .returned (.slice b n0 c) ∧ OwnB u.heap.size w' (.slice b n0 c) T ∧ Below u.heap.size u w') := Lib.hid fun u => by
    have := rturns_any m n u hm.2 hn.2
    rw [← hT] at this
    refine this.mono fun e w' ⟨v', he, ho, hb⟩ => ?_
    obtain ⟨b, c, rfl, -, -⟩ := ho.bools.slice
    have hs := ho
    rw [hTl] at he hs
    exact ⟨b, c, he, hs, hb⟩
  replace Jq3 := Lib.hid (heap_oldP Jq3.out hBc)
  replace Jq4 := Lib.hid (heap_oldP Jq4.out hBc)
  replace Jq5 := Lib.hid (heap_oldP Jq5.out hBc)
  have HAl := Lib.hid hAl
  have HBl := Lib.hid hBl
  have HTl := Lib.hid hTl
  have Hrr := Lib.hid hrr
  have Hsm := Lib.hid hsm
  have HR := Lib.hid hR
  have HSA := Lib.hid hsA
  have HSB := Lib.hid hsB
  have HA32 : Hid (all32 A) := Lib.hid hsA.ok
  have HB32 : Hid (all32 B) := Lib.hid hsB.ok
  have hcutA := fun u => scut_h a0 k0 c0 n0 (by omega) u
  have hcutB := fun u => scut_h a1 k1 c1 n0 (by omega) u
  have HcA := Lib.hid hcutA
  have HcB := Lib.hid hcutB
  have e0 : W2.cell? ⟨q5, 0, none⟩ = some (.slice a0 k0 c0) := cell_of Jq5.out 0
  have e1 : W2.cell? ⟨q5, 1, none⟩ = some (.slice a1 k1 c1) := cell_of Jq5.out 1
  have i0 := fun u => idx2R q5 0 0 rfl (by decide) u
  have i1 := fun u => idx2R q5 1 1 rfl (by decide) u
  clear hBc Hbad hbd okp hlong hA hB0 hT hAl hBl hTl hfA hfB hR hrr hsA hsB hsm Hz1 hcutA hcutB hc0 hc1
  go_upto_region 7 with (first
    | (refine wpList_slice_runS rfl 25 (.tmp 48) none (some (.tmp 49)) none rfl rfl rfl rfl rfl (HcA.out _) ?_)
    | (refine wpList_slice_runS rfl 25 (.tmp 52) none (some (.tmp 53)) none rfl rfl rfl rfl rfl (HcB.out _) ?_))
  clear e0 e1 i0 i1
  have bW2 := HBW.out
  have HPA : Hid (Sums W2 (.slice a0 n0 c0) A) := Lib.hid (HSA.out.old bW2)
  have HPB : Hid (Sums W2 (.slice a1 n0 c1) B) := Lib.hid (HSB.out.old bW2)
  have d0 := (cell_of Jq4.out 0 : W2.cell? ⟨q4, 0, none⟩ = some (.int .i64 m))
  have d1 := (cell_of Jq4.out 1 : W2.cell? ⟨q4, 1, none⟩ = some (.int .i64 n))
  have i1 := fun u => idx2S q3 0 0 rfl (by decide) u
  go_upto_region 8 with (first
    | refine wpList_load_mid rfl 23 (.tmp 56) rfl q3 (0 * 32) rfl (x0.map u8V) _ (sc_rangeAt Jq3.out HXo.out 0 x0 rfl) Tryd.underlying23 rfl (sum_info' HX0l.out) ?_
    | (go_at_call 12; (refine (HFO0.out _ _ (hkw _ bW2) HPA.out).mono ?_); rintro e v3 ⟨rfl, c3⟩; have t3 := heap_alloc_last v3 zSum)
    | refine wpList_store_mid rfl 23 (.tmp 11) (.tmp 64) rfl v3.heap.size 0 (R.map u8V).toArray rfl rfl (sum_there t3 HRl.out) (sum_info HRl.out) (sum_one R) ?_)
  change Code.wp _ _ _ _ ((v3.alloc zSum).setCells v3.heap.size 0 (R.map u8V))
  obtain ⟨w3, hw3⟩ : ∃ u, u = (v3.alloc zSum).setCells v3.heap.size 0 (R.map u8V) := ⟨_, rfl⟩
  obtain ⟨z3a, y3⟩ : IsH R w3 v3.heap.size ∧ Below v3.heap.size v3 w3 := by rw [hw3]; exact var_sum v3 R HRl.out
  have k3 : Below W2.heap.size W2 w3 := c3.trans (y3.mono c3.size)
  have b3 : Below w.heap.size w w3 := below_step bW2 (Nat.le_refl _) k3
  rw [← hw3]
  replace Jq3 : Hid (w3.heap[q3]? = some (.cells (sc [x0, x1]).toArray 41 (0, 0))) := Lib.hid ((k3.block _ (Array.getElem?_eq_some_iff.1 Jq3.out).1).trans Jq3.out)
  replace Jq4 : Hid (w3.heap[q4]? = some (.cells #[.int .i64 m, .int .i64 n] 24 (0, 0))) := Lib.hid ((k3.block _ (Array.getElem?_eq_some_iff.1 Jq4.out).1).trans Jq4.out)
  replace HPA : Hid (Sums w3 (.slice a0 n0 c0) A) := Lib.hid (HPA.out.old k3)
  replace HPB : Hid (Sums w3 (.slice a1 n0 c1) B) := Lib.hid (HPB.out.old k3)
  obtain ⟨q11, hq11⟩ : ∃ q, q = v3.heap.size := ⟨_, rfl⟩
  rw [← hq11] at z3a ⊢
  have Jq11 : Hid (IsH R w3 q11) := Lib.hid z3a
  clear hw3 c3 k3 t3 y3 z3a hq11 d0 d1 i1
  have hkw3 : ∀ u, Below w3.heap.size w3 u → KT u := fun u hu => hkw u (below_step b3 (Nat.le_refl _) hu)
  have HRI : Hid (∀ u, Below w3.heap.size w3 u → Calls Tryd.prog 16 #[sumV R, sumV x1, .int .i64 m, .int .i64 n, .slice a1 n0 c1] u fun e w' => e = .returned (.bool rr) ∧ Below u.heap.size u w') := Lib.hid fun u hu => HRI0.out _ u (hkw3 u hu) (HPB.out.old hu)
  obtain ⟨W, hW⟩ : ∃ W, W = w3 := ⟨_, rfl⟩
  subst hW
  replace HBW := Lib.hid b3
  clear hkw hkw3 HRI0 HFO0 b3 bW2
  go_cut [79] from 66 to 79 (fun s wx => s = .bool (!rr) ∧ Below W.heap.size W wx)
  case first =>
    cases rr with
    | true =>
      try simp only [Act.put]
      refine wp_region_tab0 [RT.is (.bool true), RT.is (.bool false), RT.is (.bool false), RT.is (sumV R), RT.is (.pointer (some ⟨q3, 1 * 32, none⟩)), RT.is (sumV x1), RT.is (.pointer (some ⟨q4, 0, none⟩)), RT.is (.int .i64 m), RT.is (.pointer (some ⟨q4, 1, none⟩)), RT.is (.int .i64 n), RT.is (.slice a1 n0 c1), RT.is (.bool true), RT.is (.bool false), RT.is (.bool false)] (by kernel_rfl) (by kernel_rfl) (by kernel_rfl) ⟨?_, ?_, ?_, ?_, ?_, ?_, ?_, ?_, ?_, ?_, ?_, ?_, ?_, ?_, trivial⟩ ?_
      · intro ac w' hF hL hP hU K hK
        have hB : Below _ _ _ := hL
        have e12 : ac.eval (.tmp 12) = .bool true := hF.at 12 (by kernel_rfl)
        exact rop_move _ rfl e12 (wanted_none rfl) (hK _ _ (le8_refl _) rfl)
      · intro ac w' hF hL hP hU K hK
        have hB : Below _ _ _ := hL
        have e66 : ac.eval (.tmp 66) = .bool true := hP 0 (by kernel_rfl)
        exact rop_not _ _ rfl true e66 (wanted_none rfl) (hK _ _ (le8_refl _) rfl)
      · intro ac w' hF hL hP hU K hK
        have hB : Below _ _ _ := hL
        have e67 : ac.eval (.tmp 67) = .bool false := hP 1 (by kernel_rfl)
        exact rop_move _ rfl e67 (wanted_none rfl) (hK _ _ (le8_refl _) rfl)
      · intro ac w' hF hL hP hU K hK
        have hB : Below _ _ _ := hL
        have e11 : ac.eval (.tmp 11) = .pointer (some ⟨q11, 0, none⟩) := hF.at 11 (by kernel_rfl)
        have e68 : ac.eval (.tmp 68) = .bool false := hP 2 (by kernel_rfl)
        exact rop_ld _ _ rfl e11 (load_sumP HRl.out (range_var (IsH.old Jq11.out hB))) (wanted_of (j := 2) (b := false) rfl rfl e68) (hK _ _ (le8_refl _) rfl)
      · intro ac w' hF hL hP hU K hK
        have hB : Below _ _ _ := hL
        have e3 : ac.eval (.tmp 3) = .pointer (some ⟨q3, 0, none⟩) := hF.at 3 (by kernel_rfl)
        have e68 : ac.eval (.tmp 68) = .bool false := hP 2 (by kernel_rfl)
        exact rop_idx _ _ _ rfl e3 rfl (idx2S q3 1 _ rfl (by decide) w') (wanted_of (j := 2) (b := false) rfl rfl e68) (hK _ _ (le8_refl _) rfl)
      · intro ac w' hF hL hP hU K hK
        have hB : Below _ _ _ := hL
        have e70 : ac.eval (.tmp 70) = .pointer (some ⟨q3, 1 * 32, none⟩) := hP 4 (by kernel_rfl)
        have e68 : ac.eval (.tmp 68) = .bool false := hP 2 (by kernel_rfl)
        exact rop_ld _ _ rfl e70 (load_sumP HX1l.out (sc_rangeAt (heap_oldP Jq3.out hB) HXo.out 1 x1 rfl)) (wanted_of (j := 2) (b := false) rfl rfl e68) (hK _ _ (le8_refl _) rfl)
      · intro ac w' hF hL hP hU K hK
        have hB : Below _ _ _ := hL
        have e4 : ac.eval (.tmp 4) = .pointer (some ⟨q4, 0, none⟩) := hF.at 4 (by kernel_rfl)
        have e68 : ac.eval (.tmp 68) = .bool false := hP 2 (by kernel_rfl)
        exact rop_idx _ _ _ rfl e4 rfl (idx2i q4 0 _ rfl (by decide) w') (wanted_of (j := 2) (b := false) rfl rfl e68) (hK _ _ (le8_refl _) rfl)
      · intro ac w' hF hL hP hU K hK
        have hB : Below _ _ _ := hL
        have e72 : ac.eval (.tmp 72) = .pointer (some ⟨q4, 0, none⟩) := hP 6 (by kernel_rfl)
        have e68 : ac.eval (.tmp 68) = .bool false := hP 2 (by kernel_rfl)
        exact rop_ld _ _ rfl e72 (load_intP (cell_of (heap_oldP Jq4.out hB) 0)) (wanted_of (j := 2) (b := false) rfl rfl e68) (hK _ _ (le8_refl _) rfl)
      · intro ac w' hF hL hP hU K hK
        have hB : Below _ _ _ := hL
        have e4 : ac.eval (.tmp 4) = .pointer (some ⟨q4, 0, none⟩) := hF.at 4 (by kernel_rfl)
        have e68 : ac.eval (.tmp 68) = .bool false := hP 2 (by kernel_rfl)
        exact rop_idx _ _ _ rfl e4 rfl (idx2i q4 1 _ rfl (by decide) w') (wanted_of (j := 2) (b := false) rfl rfl e68) (hK _ _ (le8_refl _) rfl)
      · intro ac w' hF hL hP hU K hK
        have hB : Below _ _ _ := hL
        have e74 : ac.eval (.tmp 74) = .pointer (some ⟨q4, 1, none⟩) := hP 8 (by kernel_rfl)
        have e68 : ac.eval (.tmp 68) = .bool false := hP 2 (by kernel_rfl)
        exact rop_ld _ _ rfl e74 (load_intP (cell_of (heap_oldP Jq4.out hB) 1)) (wanted_of (j := 2) (b := false) rfl rfl e68) (hK _ _ (le8_refl _) rfl)
      · intro ac w' hF hL hP hU K hK
        have hB : Below _ _ _ := hL
        have e10 : ac.eval (.tmp 10) = .slice a1 n0 c1 := hF.at 10 (by kernel_rfl)
        have e68 : ac.eval (.tmp 68) = .bool false := hP 2 (by kernel_rfl)
        exact rop_move _ rfl e10 (wanted_of (j := 2) (b := false) rfl rfl e68) (hK _ _ (le8_refl _) rfl)
      · intro ac w' hF hL hP hU K hK
        have hB : Below _ _ _ := hL
        have e69 : ac.eval (.tmp 69) = sumV R := hP 3 (by kernel_rfl)
        have e71 : ac.eval (.tmp 71) = sumV x1 := hP 5 (by kernel_rfl)
        have e73 : ac.eval (.tmp 73) = .int .i64 m := hP 7 (by kernel_rfl)
        have e75 : ac.eval (.tmp 75) = .int .i64 n := hP 9 (by kernel_rfl)
        have e76 : ac.eval (.tmp 76) = .slice a1 n0 c1 := hP 10 (by kernel_rfl)
        have e68 : ac.eval (.tmp 68) = .bool false := hP 2 (by kernel_rfl)
        refine rop_call 16 _ _ rfl #[sumV R, sumV x1, .int .i64 m, .int .i64 n, .slice a1 n0 c1] (by simp [e69, e71, e73, e75, e76]) (by kernel_rfl) (wanted_of (j := 2) (b := false) rfl rfl e68) ?_
        refine (HRI.out w' hB).mono ?_
        rintro e w2 ⟨rfl, hb⟩
        exact ⟨_, rfl, hK _ _ hb rfl⟩
      · intro ac w' hF hL hP hU K hK
        have hB : Below _ _ _ := hL
        have e77 : ac.eval (.tmp 77) = .bool true := hP 11 (by kernel_rfl)
        have e68 : ac.eval (.tmp 68) = .bool false := hP 2 (by kernel_rfl)
        exact rop_not _ _ rfl true e77 (wanted_of (j := 2) (b := false) rfl rfl e68) (hK _ _ (le8_refl _) rfl)
      · intro ac w' hF hL hP hU K hK
        have hB : Below _ _ _ := hL
        have e68 : ac.eval (.tmp 68) = .bool false := hP 2 (by kernel_rfl)
        have e78 : ac.eval (.tmp 78) = .bool false := hP 12 (by kernel_rfl)
        exact rop_pick _ _ _ rfl false e68 (by simpa using e78) (wanted_none rfl) (hK _ _ (le8_refl _) rfl)
      · intro ac w' hF hB hT
        have e79 : ac.eval (.tmp 79) = .bool false := hT 13 (by decide)
        rw [hF.setsG [66, 67, 68, 69, 70, 71, 72, 73, 74, 75, 76, 77, 78, 79] (by kernel_rfl)]
        simp only [List.foldl_cons, List.foldl_nil, List.setIfInBounds_toArray, List.set_cons_succ, List.set_cons_zero, e79]
        generalize ac.eval (.tmp 66) = u66
        generalize ac.eval (.tmp 67) = u67
        generalize ac.eval (.tmp 68) = u68
        generalize ac.eval (.tmp 69) = u69
        generalize ac.eval (.tmp 70) = u70
        generalize ac.eval (.tmp 71) = u71
        generalize ac.eval (.tmp 72) = u72
        generalize ac.eval (.tmp 73) = u73
        generalize ac.eval (.tmp 74) = u74
        generalize ac.eval (.tmp 75) = u75
        generalize ac.eval (.tmp 76) = u76
        generalize ac.eval (.tmp 77) = u77
        generalize ac.eval (.tmp 78) = u78
        clear e79 hT hF ac
        go_wp2_with fail
        go_meet
        exact ⟨rfl, hB⟩
    | false =>
      try simp only [Act.put]
      refine wp_region_tab0 [RT.is (.bool true), RT.is (.bool false), RT.is (.bool false), RT.is (sumV R), RT.is (.pointer (some ⟨q3, 1 * 32, none⟩)), RT.is (sumV x1), RT.is (.pointer (some ⟨q4, 0, none⟩)), RT.is (.int .i64 m), RT.is (.pointer (some ⟨q4, 1, none⟩)), RT.is (.int .i64 n), RT.is (.slice a1 n0 c1), RT.is (.bool false), RT.is (.bool true), RT.is (.bool true)] (by kernel_rfl) (by kernel_rfl) (by kernel_rfl) ⟨?_, ?_, ?_, ?_, ?_, ?_, ?_, ?_, ?_, ?_, ?_, ?_, ?_, ?_, trivial⟩ ?_
      · intro ac w' hF hL hP hU K hK
        have hB : Below _ _ _ := hL
        have e12 : ac.eval (.tmp 12) = .bool true := hF.at 12 (by kernel_rfl)
        exact rop_move _ rfl e12 (wanted_none rfl) (hK _ _ (le8_refl _) rfl)
      · intro ac w' hF hL hP hU K hK
        have hB : Below _ _ _ := hL
        have e66 : ac.eval (.tmp 66) = .bool true := hP 0 (by kernel_rfl)
        exact rop_not _ _ rfl true e66 (wanted_none rfl) (hK _ _ (le8_refl _) rfl)
      · intro ac w' hF hL hP hU K hK
        have hB : Below _ _ _ := hL
        have e67 : ac.eval (.tmp 67) = .bool false := hP 1 (by kernel_rfl)
        exact rop_move _ rfl e67 (wanted_none rfl) (hK _ _ (le8_refl _) rfl)
      · intro ac w' hF hL hP hU K hK
        have hB : Below _ _ _ := hL
        have e11 : ac.eval (.tmp 11) = .pointer (some ⟨q11, 0, none⟩) := hF.at 11 (by kernel_rfl)
        have e68 : ac.eval (.tmp 68) = .bool false := hP 2 (by kernel_rfl)
        exact rop_ld _ _ rfl e11 (load_sumP HRl.out (range_var (IsH.old Jq11.out hB))) (wanted_of (j := 2) (b := false) rfl rfl e68) (hK _ _ (le8_refl _) rfl)
      · intro ac w' hF hL hP hU K hK
        have hB : Below _ _ _ := hL
        have e3 : ac.eval (.tmp 3) = .pointer (some ⟨q3, 0, none⟩) := hF.at 3 (by kernel_rfl)
        have e68 : ac.eval (.tmp 68) = .bool false := hP 2 (by kernel_rfl)
        exact rop_idx _ _ _ rfl e3 rfl (idx2S q3 1 _ rfl (by decide) w') (wanted_of (j := 2) (b := false) rfl rfl e68) (hK _ _ (le8_refl _) rfl)
      · intro ac w' hF hL hP hU K hK
        have hB : Below _ _ _ := hL
        have e70 : ac.eval (.tmp 70) = .pointer (some ⟨q3, 1 * 32, none⟩) := hP 4 (by kernel_rfl)
        have e68 : ac.eval (.tmp 68) = .bool false := hP 2 (by kernel_rfl)
        exact rop_ld _ _ rfl e70 (load_sumP HX1l.out (sc_rangeAt (heap_oldP Jq3.out hB) HXo.out 1 x1 rfl)) (wanted_of (j := 2) (b := false) rfl rfl e68) (hK _ _ (le8_refl _) rfl)
      · intro ac w' hF hL hP hU K hK
        have hB : Below _ _ _ := hL
        have e4 : ac.eval (.tmp 4) = .pointer (some ⟨q4, 0, none⟩) := hF.at 4 (by kernel_rfl)
        have e68 : ac.eval (.tmp 68) = .bool false := hP 2 (by kernel_rfl)
        exact rop_idx _ _ _ rfl e4 rfl (idx2i q4 0 _ rfl (by decide) w') (wanted_of (j := 2) (b := false) rfl rfl e68) (hK _ _ (le8_refl _) rfl)
      · intro ac w' hF hL hP hU K hK
        have hB : Below _ _ _ := hL
        have e72 : ac.eval (.tmp 72) = .pointer (some ⟨q4, 0, none⟩) := hP 6 (by kernel_rfl)
        have e68 : ac.eval (.tmp 68) = .bool false := hP 2 (by kernel_rfl)
        exact rop_ld _ _ rfl e72 (load_intP (cell_of (heap_oldP Jq4.out hB) 0)) (wanted_of (j := 2) (b := false) rfl rfl e68) (hK _ _ (le8_refl _) rfl)
      · intro ac w' hF hL hP hU K hK
        have hB : Below _ _ _ := hL
        have e4 : ac.eval (.tmp 4) = .pointer (some ⟨q4, 0, none⟩) := hF.at 4 (by kernel_rfl)
        have e68 : ac.eval (.tmp 68) = .bool false := hP 2 (by kernel_rfl)
        exact rop_idx _ _ _ rfl e4 rfl (idx2i q4 1 _ rfl (by decide) w') (wanted_of (j := 2) (b := false) rfl rfl e68) (hK _ _ (le8_refl _) rfl)
      · intro ac w' hF hL hP hU K hK
        have hB : Below _ _ _ := hL
        have e74 : ac.eval (.tmp 74) = .pointer (some ⟨q4, 1, none⟩) := hP 8 (by kernel_rfl)
        have e68 : ac.eval (.tmp 68) = .bool false := hP 2 (by kernel_rfl)
        exact rop_ld _ _ rfl e74 (load_intP (cell_of (heap_oldP Jq4.out hB) 1)) (wanted_of (j := 2) (b := false) rfl rfl e68) (hK _ _ (le8_refl _) rfl)
      · intro ac w' hF hL hP hU K hK
        have hB : Below _ _ _ := hL
        have e10 : ac.eval (.tmp 10) = .slice a1 n0 c1 := hF.at 10 (by kernel_rfl)
        have e68 : ac.eval (.tmp 68) = .bool false := hP 2 (by kernel_rfl)
        exact rop_move _ rfl e10 (wanted_of (j := 2) (b := false) rfl rfl e68) (hK _ _ (le8_refl _) rfl)
      · intro ac w' hF hL hP hU K hK
        have hB : Below _ _ _ := hL
        have e69 : ac.eval (.tmp 69) = sumV R := hP 3 (by kernel_rfl)
        have e71 : ac.eval (.tmp 71) = sumV x1 := hP 5 (by kernel_rfl)
        have e73 : ac.eval (.tmp 73) = .int .i64 m := hP 7 (by kernel_rfl)
        have e75 : ac.eval (.tmp 75) = .int .i64 n := hP 9 (by kernel_rfl)
        have e76 : ac.eval (.tmp 76) = .slice a1 n0 c1 := hP 10 (by kernel_rfl)
        have e68 : ac.eval (.tmp 68) = .bool false := hP 2 (by kernel_rfl)
        refine rop_call 16 _ _ rfl #[sumV R, sumV x1, .int .i64 m, .int .i64 n, .slice a1 n0 c1] (by simp [e69, e71, e73, e75, e76]) (by kernel_rfl) (wanted_of (j := 2) (b := false) rfl rfl e68) ?_
        refine (HRI.out w' hB).mono ?_
        rintro e w2 ⟨rfl, hb⟩
        exact ⟨_, rfl, hK _ _ hb rfl⟩
      · intro ac w' hF hL hP hU K hK
        have hB : Below _ _ _ := hL
        have e77 : ac.eval (.tmp 77) = .bool false := hP 11 (by kernel_rfl)
        have e68 : ac.eval (.tmp 68) = .bool false := hP 2 (by kernel_rfl)
        exact rop_not _ _ rfl false e77 (wanted_of (j := 2) (b := false) rfl rfl e68) (hK _ _ (le8_refl _) rfl)
      · intro ac w' hF hL hP hU K hK
        have hB : Below _ _ _ := hL
        have e68 : ac.eval (.tmp 68) = .bool false := hP 2 (by kernel_rfl)
        have e78 : ac.eval (.tmp 78) = .bool true := hP 12 (by kernel_rfl)
        exact rop_pick _ _ _ rfl false e68 (by simpa using e78) (wanted_none rfl) (hK _ _ (le8_refl _) rfl)
      · intro ac w' hF hB hT
        have e79 : ac.eval (.tmp 79) = .bool true := hT 13 (by decide)
        rw [hF.setsG [66, 67, 68, 69, 70, 71, 72, 73, 74, 75, 76, 77, 78, 79] (by kernel_rfl)]
        simp only [List.foldl_cons, List.foldl_nil, List.setIfInBounds_toArray, List.set_cons_succ, List.set_cons_zero, e79]
        generalize ac.eval (.tmp 66) = u66
        generalize ac.eval (.tmp 67) = u67
        generalize ac.eval (.tmp 68) = u68
        generalize ac.eval (.tmp 69) = u69
        generalize ac.eval (.tmp 70) = u70
        generalize ac.eval (.tmp 71) = u71
        generalize ac.eval (.tmp 72) = u72
        generalize ac.eval (.tmp 73) = u73
        generalize ac.eval (.tmp 74) = u74
        generalize ac.eval (.tmp 75) = u75
        generalize ac.eval (.tmp 76) = u76
        generalize ac.eval (.tmp 77) = u77
        generalize ac.eval (.tmp 78) = u78
        clear e79 hT hF ac
        go_wp2_with fail
        go_meet
        exact ⟨rfl, hB⟩
  case rest =>
  obtain ⟨rfl, hBc⟩ := hcut
  obtain ⟨W2, hW2⟩ : ∃ W2, W2 = wc := ⟨_, rfl⟩
  subst hW2
  replace HBW := Lib.hid (below_step HBW.out (Nat.le_refl _) hBc)
  replace Jq3 := Lib.hid (heap_oldP Jq3.out hBc)
  replace Jq4 := Lib.hid (heap_oldP Jq4.out hBc)
  replace HPA : Hid (Sums W2 (.slice a0 n0 c0) A) := Lib.hid (HPA.out.old hBc)
  replace HPB : Hid (Sums W2 (.slice a1 n0 c1) B) := Lib.hid (HPB.out.old hBc)
  clear hBc HRI Jq11 Jq5
  cases rr with
  | false =>
    go_upto_region 9 with (fail)
    try simp only [Act.put]
    refine wp_region_tab0 [RT.is (.bool true), RT.is (.bool true), RT.is (.bool true), RT.is (.bool true), RT.is (.bool true)] (by kernel_rfl) (by kernel_rfl) (by kernel_rfl) ⟨?_, ?_, ?_, ?_, ?_, trivial⟩ ?_
    · intro ac w' hF hL hP hU K hK
      have hB : Below _ _ _ := hL
      have e7 : ac.eval (.tmp 7) = .bool true := hF.at 7 (by kernel_rfl)
      exact rop_move _ rfl e7 (wanted_none rfl) (hK _ _ (le8_refl _) rfl)
    · intro ac w' hF hL hP hU K hK
      have hB : Below _ _ _ := hL
      have e80 : ac.eval (.tmp 80) = .bool true := hP 0 (by kernel_rfl)
      exact rop_move _ rfl e80 (wanted_none rfl) (hK _ _ (le8_refl _) rfl)
    · intro ac w' hF hL hP hU K hK
      have hB : Below _ _ _ := hL
      have e12 : ac.eval (.tmp 12) = .bool true := hF.at 12 (by kernel_rfl)
      have e81 : ac.eval (.tmp 81) = .bool true := hP 1 (by kernel_rfl)
      exact rop_move _ rfl e12 (wanted_of (j := 1) (b := true) rfl rfl e81) (hK _ _ (le8_refl _) rfl)
    · intro ac w' hF hL hP hU K hK
      have hB : Below _ _ _ := hL
      have e81 : ac.eval (.tmp 81) = .bool true := hP 1 (by kernel_rfl)
      have e82 : ac.eval (.tmp 82) = .bool true := hP 2 (by kernel_rfl)
      exact rop_pick _ _ _ rfl true e81 (by simpa using e82) (wanted_none rfl) (hK _ _ (le8_refl _) rfl)
    · intro ac w' hF hL hP hU K hK
      have hB : Below _ _ _ := hL
      have e83 : ac.eval (.tmp 83) = .bool true := hP 3 (by kernel_rfl)
      exact rop_assign _ rfl e83 (wanted_none rfl) (hK _ _ (le8_refl _) rfl)
    · intro ac w' hF hB hT
      have e83 : ac.eval (.tmp 83) = .bool true := hT 3 (by decide)
      have e6 : ac.eval (.tmp 6) = .bool true := hT 4 (by decide)
      rw [hF.setsG [80, 81, 82, 83, 6] (by kernel_rfl)]
      simp only [List.foldl_cons, List.foldl_nil, List.setIfInBounds_toArray, List.set_cons_succ, List.set_cons_zero, e83, e6]
      generalize ac.eval (.tmp 80) = u80
      generalize ac.eval (.tmp 81) = u81
      generalize ac.eval (.tmp 82) = u82
      clear e83 e6 hT hF ac
      have HF := Lib.hid (below_step HBW.out (Nat.le_refl _) hB)
      clear hB
      go_wp2
      go_ret
      exact ⟨rfl, HF.out⟩
  | true =>
  have hRB := of_decide_eq_true Hrr.out.symm
  have HRB2 := Lib.hid hRB
  clear hRB Hrr
  go_upto_region 11 with (go_at_call 23; ((with_reducible refine (HSM.out _ _ _ HPA.out HPB.out).mono ?_); rintro e w4 ⟨rfl, b4⟩))
  replace HBW := Lib.hid (below_step HBW.out (Nat.le_refl _) b4)
  replace Jq3 := Lib.hid (heap_oldP Jq3.out b4)
  replace Jq4 := Lib.hid (heap_oldP Jq4.out b4)
  clear b4 HPA HPB HSM
  obtain ⟨W, hW⟩ : ∃ W, W = w4 := ⟨_, rfl⟩
  subst hW
  obtain ⟨both, hboth⟩ : ∃ both, both = (decide (x0 = x1) && sm) := ⟨_, rfl⟩
  have Hboth := Lib.hid hboth
  clear hboth
  go_cut [94] from 87 to 94 (fun s wx => s = .bool both ∧ Below W.heap.size W wx)
  case first =>
    by_cases h01 : x0 = x1
    · have HB : Hid (both = sm) := Lib.hid (by rw [Hboth.out, decide_eq_true h01, Bool.true_and])
      try simp only [Act.put]
      refine wp_region_tab0 [RT.is (.pointer (some ⟨q3, 0 * 32, none⟩)), RT.is (sumV x0), RT.is (.pointer (some ⟨q3, 1 * 32, none⟩)), RT.is (sumV x1), RT.is (.bool true), RT.is (.bool true), RT.is (.bool sm), RT.is (.bool sm)] (by kernel_rfl) (by kernel_rfl) (by kernel_rfl) ⟨?_, ?_, ?_, ?_, ?_, ?_, ?_, ?_, trivial⟩ ?_
      · intro ac w' hF hL hP hU K hK
        have hB : Below _ _ _ := hL
        have e3 : ac.eval (.tmp 3) = .pointer (some ⟨q3, 0, none⟩) := hF.at 3 (by kernel_rfl)
        exact rop_idx _ _ _ rfl e3 rfl (idx2S q3 0 _ rfl (by decide) w') (wanted_none rfl) (hK _ _ (le8_refl _) rfl)
      · intro ac w' hF hL hP hU K hK
        have hB : Below _ _ _ := hL
        have e87 : ac.eval (.tmp 87) = .pointer (some ⟨q3, 0 * 32, none⟩) := hP 0 (by kernel_rfl)
        exact rop_ld _ _ rfl e87 (load_sumP HX0l.out (sc_rangeAt (heap_oldP Jq3.out hB) HXo.out 0 x0 rfl)) (wanted_none rfl) (hK _ _ (le8_refl _) rfl)
      · intro ac w' hF hL hP hU K hK
        have hB : Below _ _ _ := hL
        have e3 : ac.eval (.tmp 3) = .pointer (some ⟨q3, 0, none⟩) := hF.at 3 (by kernel_rfl)
        exact rop_idx _ _ _ rfl e3 rfl (idx2S q3 1 _ rfl (by decide) w') (wanted_none rfl) (hK _ _ (le8_refl _) rfl)
      · intro ac w' hF hL hP hU K hK
        have hB : Below _ _ _ := hL
        have e89 : ac.eval (.tmp 89) = .pointer (some ⟨q3, 1 * 32, none⟩) := hP 2 (by kernel_rfl)
        exact rop_ld _ _ rfl e89 (load_sumP HX1l.out (sc_rangeAt (heap_oldP Jq3.out hB) HXo.out 1 x1 rfl)) (wanted_none rfl) (hK _ _ (le8_refl _) rfl)
      · intro ac w' hF hL hP hU K hK
        have hB : Below _ _ _ := hL
        have e88 : ac.eval (.tmp 88) = sumV x0 := hP 1 (by kernel_rfl)
        have e90 : ac.eval (.tmp 90) = sumV x1 := hP 3 (by kernel_rfl)
        exact rop_bin _ _ _ _ _ rfl e88 e90 (guard_run _ _ _ _ _ w') (eql_sum_tt x0 x1 HX0l.out HX1l.out h01 w') (wanted_none rfl) (hK _ _ (le8_refl _) rfl)
      · intro ac w' hF hL hP hU K hK
        have hB : Below _ _ _ := hL
        have e91 : ac.eval (.tmp 91) = .bool true := hP 4 (by kernel_rfl)
        exact rop_move _ rfl e91 (wanted_none rfl) (hK _ _ (le8_refl _) rfl)
      · intro ac w' hF hL hP hU K hK
        have hB : Below _ _ _ := hL
        have e13 : ac.eval (.tmp 13) = .bool sm := hF.at 13 (by kernel_rfl)
        have e92 : ac.eval (.tmp 92) = .bool true := hP 5 (by kernel_rfl)
        exact rop_move _ rfl e13 (wanted_of (j := 5) (b := true) rfl rfl e92) (hK _ _ (le8_refl _) rfl)
      · intro ac w' hF hL hP hU K hK
        have hB : Below _ _ _ := hL
        have e92 : ac.eval (.tmp 92) = .bool true := hP 5 (by kernel_rfl)
        have e93 : ac.eval (.tmp 93) = .bool sm := hP 6 (by kernel_rfl)
        exact rop_pick _ _ _ rfl true e92 (by simpa using e93) (wanted_none rfl) (hK _ _ (le8_refl _) rfl)
      · intro ac w' hF hB hT
        have e94 : ac.eval (.tmp 94) = .bool sm := hT 7 (by decide)
        rw [hF.setsG [87, 88, 89, 90, 91, 92, 93, 94] (by kernel_rfl)]
        simp only [List.foldl_cons, List.foldl_nil, List.setIfInBounds_toArray, List.set_cons_succ, List.set_cons_zero, e94]
        generalize ac.eval (.tmp 87) = u87
        generalize ac.eval (.tmp 88) = u88
        generalize ac.eval (.tmp 89) = u89
        generalize ac.eval (.tmp 90) = u90
        generalize ac.eval (.tmp 91) = u91
        generalize ac.eval (.tmp 92) = u92
        generalize ac.eval (.tmp 93) = u93
        clear e94 hT hF ac
        clear h01
        go_wp2_with fail
        go_meet
        exact ⟨by rw [HB.out], hB⟩
    · have HB : Hid (both = false) := Lib.hid (by rw [Hboth.out, decide_eq_false h01, Bool.false_and])
      try simp only [Act.put]
      refine wp_region_tab0 [RT.is (.pointer (some ⟨q3, 0 * 32, none⟩)), RT.is (sumV x0), RT.is (.pointer (some ⟨q3, 1 * 32, none⟩)), RT.is (sumV x1), RT.is (.bool false), RT.is (.bool false), RT.any, RT.is (.bool false)] (by kernel_rfl) (by kernel_rfl) (by kernel_rfl) ⟨?_, ?_, ?_, ?_, ?_, ?_, ?_, ?_, trivial⟩ ?_
      · intro ac w' hF hL hP hU K hK
        have hB : Below _ _ _ := hL
        have e3 : ac.eval (.tmp 3) = .pointer (some ⟨q3, 0, none⟩) := hF.at 3 (by kernel_rfl)
        exact rop_idx _ _ _ rfl e3 rfl (idx2S q3 0 _ rfl (by decide) w') (wanted_none rfl) (hK _ _ (le8_refl _) rfl)
      · intro ac w' hF hL hP hU K hK
        have hB : Below _ _ _ := hL
        have e87 : ac.eval (.tmp 87) = .pointer (some ⟨q3, 0 * 32, none⟩) := hP 0 (by kernel_rfl)
        exact rop_ld _ _ rfl e87 (load_sumP HX0l.out (sc_rangeAt (heap_oldP Jq3.out hB) HXo.out 0 x0 rfl)) (wanted_none rfl) (hK _ _ (le8_refl _) rfl)
      · intro ac w' hF hL hP hU K hK
        have hB : Below _ _ _ := hL
        have e3 : ac.eval (.tmp 3) = .pointer (some ⟨q3, 0, none⟩) := hF.at 3 (by kernel_rfl)
        exact rop_idx _ _ _ rfl e3 rfl (idx2S q3 1 _ rfl (by decide) w') (wanted_none rfl) (hK _ _ (le8_refl _) rfl)
      · intro ac w' hF hL hP hU K hK
        have hB : Below _ _ _ := hL
        have e89 : ac.eval (.tmp 89) = .pointer (some ⟨q3, 1 * 32, none⟩) := hP 2 (by kernel_rfl)
        exact rop_ld _ _ rfl e89 (load_sumP HX1l.out (sc_rangeAt (heap_oldP Jq3.out hB) HXo.out 1 x1 rfl)) (wanted_none rfl) (hK _ _ (le8_refl _) rfl)
      · intro ac w' hF hL hP hU K hK
        have hB : Below _ _ _ := hL
        have e88 : ac.eval (.tmp 88) = sumV x0 := hP 1 (by kernel_rfl)
        have e90 : ac.eval (.tmp 90) = sumV x1 := hP 3 (by kernel_rfl)
        exact rop_bin _ _ _ _ _ rfl e88 e90 (guard_run _ _ _ _ _ w') (eql_sum_ff x0 x1 HX0l.out HX1l.out h01 w') (wanted_none rfl) (hK _ _ (le8_refl _) rfl)
      · intro ac w' hF hL hP hU K hK
        have hB : Below _ _ _ := hL
        have e91 : ac.eval (.tmp 91) = .bool false := hP 4 (by kernel_rfl)
        exact rop_move _ rfl e91 (wanted_none rfl) (hK _ _ (le8_refl _) rfl)
      · intro ac w' hF hL hP hU K hK
        have hB : Below _ _ _ := hL
        have e92 : ac.eval (.tmp 92) = .bool false := hP 5 (by kernel_rfl)
        exact rop_offG (j := 5) (b := true) rfl rfl e92 (by decide) (hK _ _ (le8_refl _) trivial)
      · intro ac w' hF hL hP hU K hK
        have hB : Below _ _ _ := hL
        have e92 : ac.eval (.tmp 92) = .bool false := hP 5 (by kernel_rfl)
        exact rop_pick _ _ _ rfl false e92 (by rfl) (wanted_none rfl) (hK _ _ (le8_refl _) rfl)
      · intro ac w' hF hB hT
        have e94 : ac.eval (.tmp 94) = .bool false := hT 7 (by decide)
        rw [hF.setsG [87, 88, 89, 90, 91, 92, 93, 94] (by kernel_rfl)]
        simp only [List.foldl_cons, List.foldl_nil, List.setIfInBounds_toArray, List.set_cons_succ, List.set_cons_zero, e94]
        generalize ac.eval (.tmp 87) = u87
        generalize ac.eval (.tmp 88) = u88
        generalize ac.eval (.tmp 89) = u89
        generalize ac.eval (.tmp 90) = u90
        generalize ac.eval (.tmp 91) = u91
        generalize ac.eval (.tmp 92) = u92
        generalize ac.eval (.tmp 93) = u93
        clear e94 hT hF ac
        clear h01
        go_wp2_with fail
        go_meet
        exact ⟨by rw [HB.out], hB⟩
  case rest =>
  obtain ⟨rfl, hBc⟩ := hcut
  obtain ⟨W2, hW2⟩ : ∃ W2, W2 = wc := ⟨_, rfl⟩
  subst hW2
  replace HBW := Lib.hid (below_step HBW.out (Nat.le_refl _) hBc)
  replace Jq3 := Lib.hid (heap_oldP Jq3.out hBc)
  replace Jq4 := Lib.hid (heap_oldP Jq4.out hBc)
  clear hBc
  cases both with
  | true =>
    go_wp2
    go_ret
    exact ⟨rfl, HBW.out⟩
  | false =>
  have HNE : Hid (¬ (x0 = x1 ∧ A = B)) := Lib.hid (fun h => by
    have h1 := Hboth.out
    rw [decide_eq_true h.1, Hsm.out, decide_eq_true h.2] at h1
    cases h1)
  clear Hboth Hsm
  have d0 : W2.cell? ⟨q4, 0, none⟩ = some (.int .i64 m) := cell_of Jq4.out 0
  have d1 : W2.cell? ⟨q4, 1, none⟩ = some (.int .i64 n) := cell_of Jq4.out 1
  go_upto_region 14 with (go_at_call 24; ((with_reducible refine (HTU.out _).mono ?_); rintro e w5 ⟨aT, cT, rfl, hst, b5⟩; have HST := Lib.hid hst; clear hst))
  have hT5 : ∀ g, (Value.slice aT n0 cT).ownBlock = some g → g < w5.heap.size := fun g hg => (World.ownsRow.lt HST.out g hg).2
  have bw5 := below_step HBW.out (Nat.le_refl _) b5
  replace Jq3 := Lib.hid (heap_oldP Jq3.out b5)
  obtain ⟨oT, hoT⟩ : ∃ oT, oT = W2.heap.size := ⟨_, rfl⟩
  rw [← hoT] at HST
  clear d0 d1 hoT b5 HBW HTU Jq4
  have i1 := fun u => idx2S q3 0 0 rfl (by decide) u
  obtain ⟨v6, hv6⟩ : ∃ v, v = w5 := ⟨_, rfl⟩
  subst hv6
  have c6 : Below v6.heap.size v6 v6 := Below.refl _ _
  have t6 := heap_alloc_last v6 zSum
  go_upto_region 15 with (first
    | refine wpList_load_mid rfl 23 (.tmp 101) rfl q3 (0 * 32) rfl (x0.map u8V) _ (sc_rangeAt Jq3.out HXo.out 0 x0 rfl) Tryd.underlying23 rfl (sum_info' HX0l.out) ?_
    | refine wpList_store_mid rfl 23 (.tmp 15) (.tmp 102) rfl v6.heap.size 0 (x0.map u8V).toArray rfl rfl (sum_there t6 Hx0l.out) (sum_info Hx0l.out) (sum_one x0) ?_)
  change Code.wp _ _ _ _ ((v6.alloc zSum).setCells v6.heap.size 0 (x0.map u8V))
  obtain ⟨w6, hw6⟩ : ∃ u, u = (v6.alloc zSum).setCells v6.heap.size 0 (x0.map u8V) := ⟨_, rfl⟩
  obtain ⟨z6a, y6⟩ : IsH x0 w6 v6.heap.size ∧ Below v6.heap.size v6 w6 := by rw [hw6]; exact var_sum v6 x0 Hx0l.out
  have k6 : Below v6.heap.size v6 w6 := c6.trans (y6.mono c6.size)
  have b6 : Below w.heap.size w w6 := below_step bw5 (Nat.le_refl _) k6
  rw [← hw6]
  replace Jq3 : Hid (w6.heap[q3]? = some (.cells (sc [x0, x1]).toArray 41 (0, 0))) := Lib.hid ((k6.block _ (Array.getElem?_eq_some_iff.1 Jq3.out).1).trans Jq3.out)
  obtain ⟨q15, hq15⟩ : ∃ q, q = v6.heap.size := ⟨_, rfl⟩
  rw [← hq15] at z6a ⊢
  have Jq15 : Hid (IsH x0 w6 q15) := Lib.hid z6a
  have Hq15 := Lib.hid hq15
  have hq15L := Jq15.out.lt
  have kT6 := k6
  clear hw6 c6 k6 t6 y6 z6a hq15 i1
  have i1 := fun u => idx2S q3 1 1 rfl (by decide) u
  obtain ⟨v7, hv7⟩ : ∃ v, v = w6 := ⟨_, rfl⟩
  subst hv7
  have c7 : Below v7.heap.size v7 v7 := Below.refl _ _
  have t7 := heap_alloc_last v7 zSum
  go_upto_region 16 with (first
    | refine wpList_load_mid rfl 23 (.tmp 103) rfl q3 (1 * 32) rfl (x1.map u8V) _ (sc_rangeAt Jq3.out HXo.out 1 x1 rfl) Tryd.underlying23 rfl (sum_info' HX1l.out) ?_
    | refine wpList_store_mid rfl 23 (.tmp 16) (.tmp 104) rfl v7.heap.size 0 (x1.map u8V).toArray rfl rfl (sum_there t7 Hx1l.out) (sum_info Hx1l.out) (sum_one x1) ?_)
  change Code.wp _ _ _ _ ((v7.alloc zSum).setCells v7.heap.size 0 (x1.map u8V))
  obtain ⟨w7, hw7⟩ : ∃ u, u = (v7.alloc zSum).setCells v7.heap.size 0 (x1.map u8V) := ⟨_, rfl⟩
  obtain ⟨z7a, y7⟩ : IsH x1 w7 v7.heap.size ∧ Below v7.heap.size v7 w7 := by rw [hw7]; exact var_sum v7 x1 Hx1l.out
  have k7 : Below v7.heap.size v7 w7 := c7.trans (y7.mono c7.size)
  have b7 : Below w.heap.size w w7 := below_step b6 (Nat.le_refl _) k7
  rw [← hw7]
  replace Jq3 : Hid (w7.heap[q3]? = some (.cells (sc [x0, x1]).toArray 41 (0, 0))) := Lib.hid ((k7.block _ (Array.getElem?_eq_some_iff.1 Jq3.out).1).trans Jq3.out)
  replace Jq15 : Hid (IsH x0 w7 q15) := Lib.hid ((k7.block _ (Array.getElem?_eq_some_iff.1 Jq15.out).1).trans Jq15.out)
  obtain ⟨q16, hq16⟩ : ∃ q, q = v7.heap.size := ⟨_, rfl⟩
  rw [← hq16] at z7a ⊢
  have Jq16 : Hid (IsH x1 w7 q16) := Lib.hid z7a
  have Hq16 := Lib.hid hq16
  have kT7 := k7
  clear hw7 c7 k7 t7 y7 z7a hq16 i1
  have hq56 : q15 < q16 := by rw [Hq16.out]; exact hq15L
  have hwq : w.heap.size ≤ q15 := by rw [Hq15.out]; exact bw5.size
  have hTq : ∀ g, (Value.slice aT n0 cT).ownBlock = some g → g < q15 := fun g hg => by rw [Hq15.out]; exact hT5 g hg
  have hT7 := (HST.out.kept kT6).kept kT7
  have hq15V : q15 < w7.heap.size := Jq15.out.lt
  have hq16V : q16 < w7.heap.size := Jq16.out.lt
  have HT7 := Lib.hid hT7
  have HB7 := Lib.hid b7
  have HTq := Lib.hid hTq
  have HHA := HRA
  have HHB := HRB
  clear Hq15 Hq16 hq15L hT5 hT7 hTq HST Jq3 bw5 b6 b7 kT6 kT7 HRA HRB
  go_wp2
  go_loopw [17] (ORel A B T R q15 q16 w7) (fun s17 _ => n0 - (intOf s17).toNat)
  case atStart =>
    exact ⟨0, x0, x1, rfl, Nat.zero_le _, HX0l.out, HX1l.out, HR.out.symm, HRB2.out, by simpa using HNE.out, OnlyS.refl _ _, Jq15.out, Jq16.out⟩
  case round =>
    obtain ⟨i, X, Y, rfl, hi0, hXl, hYl, hfA, hfB, hne, hos, hX, hY⟩ := hrel
    rw [HTl.out] at hi0
    by_cases hi : i < n0
    · have hi' : (i : Int) < (n0 : Int) := by omega
      obtain ⟨p, hp⟩ : ∃ p, A[i]? = some p := ⟨_, List.getElem?_eq_getElem (by rw [HAl.out]; exact hi)⟩
      obtain ⟨q, hq⟩ : ∃ q, B[i]? = some q := ⟨_, List.getElem?_eq_getElem (by rw [HBl.out]; exact hi)⟩
      obtain ⟨tb, htb⟩ : ∃ tb, T[i]? = some tb := ⟨_, List.getElem?_eq_getElem (by rw [HTl.out]; exact hi)⟩
      have hpl := HA32.out p (List.mem_of_getElem? hp)
      have hql := HB32.out q (List.mem_of_getElem? hq)
      obtain ⟨bA, oA, rfl, hbA, -, hrA⟩ := HSA.out.at0 hp
      obtain ⟨bB, oB, rfl, hbB, -, hrB⟩ := HSB.out.at0 hq
      obtain ⟨gT, rfl, -, hgT, -, hcT⟩ := HT7.out.at0 htb
      have hgq := HTq.out gT rfl
      have bwr : Below w.heap.size w wr := HB7.out.trans (hos.below (fun k hk => by rcases hk with rfl | rfl <;> omega) HB7.out.size)
      have HRA : Hid (wr.rangeAt bA (oA + i * 32) (p.map u8V)) := Lib.hid (below_range' bwr hbA hrA)
      have HRB : Hid (wr.rangeAt bB (oB + i * 32) (q.map u8V)) := Lib.hid (below_range' bwr hbB hrB)
      have hct : wr.cell? ⟨gT, i, none⟩ = some (.bool tb) := (World.cell?_of_block (w := w7) (hos.block gT hgT (by omega))).trans hcT
      have hbwA : bA < wr.heap.size := Nat.lt_of_lt_of_le hbA bwr.size
      have hbwB : bB < wr.heap.size := Nat.lt_of_lt_of_le hbB bwr.size
      have hgw : gT < wr.heap.size := Nat.lt_of_lt_of_le hgT hos.size
      obtain ⟨X2, hX2⟩ : ∃ X2, X2 = Tree.step X p tb := ⟨_, rfl⟩
      obtain ⟨Y2, hY2⟩ : ∃ Y2, Y2 = Tree.step Y q tb := ⟨_, rfl⟩
      have hX2l : X2.length = 32 := by rw [hX2]; exact Tree.step_length _ _ _
      have hY2l : Y2.length = 32 := by rw [hY2]; exact Tree.step_length _ _ _
      obtain ⟨hp1, hp2⟩ := List.getElem?_eq_some_iff.1 hp
      obtain ⟨hq1, hq2⟩ := List.getElem?_eq_some_iff.1 hq
      obtain ⟨ht1, ht2⟩ := List.getElem?_eq_some_iff.1 htb
      rw [List.drop_eq_getElem_cons hp1, List.drop_eq_getElem_cons hq1, hp2, hq2] at hne
      rw [List.drop_eq_getElem_cons hp1, List.drop_eq_getElem_cons ht1, hp2, ht2, foldP_cons, ← hX2] at hfA
      rw [List.drop_eq_getElem_cons hq1, List.drop_eq_getElem_cons ht1, hq2, ht2, foldP_cons, ← hY2] at hfB
      obtain ⟨E1, hE1⟩ : ∃ E1 : ByteArray, E1 = ⟨(Tree.preS X p tb).toArray⟩ := ⟨_, rfl⟩
      obtain ⟨E2, hE2⟩ : ∃ E2 : ByteArray, E2 = ⟨(Tree.preS Y q tb).toArray⟩ := ⟨_, rfl⟩
      have HO1 : Hid (∀ u, Calls Tryd.prog 26 #[.string E1] u fun e w' => e = .returned (sumV X2) ∧ Below u.heap.size u w') := Lib.hid fun u => by
        rw [hX2, Tree.step_pre]
        refine rof_any E1 _ (by rw [hE1]) u ?_
        have : (Tree.preS X p tb).length = 65 := by
          cases tb
          · exact pre_size _ _ hXl hpl
          · exact pre_size _ _ hpl hXl
        omega
      have HO2 : Hid (∀ u, Calls Tryd.prog 26 #[.string E2] u fun e w' => e = .returned (sumV Y2) ∧ Below u.heap.size u w') := Lib.hid fun u => by
        rw [hY2, Tree.step_pre]
        refine rof_any E2 _ (by rw [hE2]) u ?_
        have : (Tree.preS Y q tb).length = 65 := by
          cases tb
          · exact pre_size _ _ hYl hql
          · exact pre_size _ _ hql hYl
        omega
      have hEE : E1 = E2 → X = Y ∧ p = q := fun h => by
        rw [hE1, hE2] at h
        have h2 : Tree.preS X p tb = Tree.preS Y q tb := by
          have h3 := congrArg (fun z : ByteArray => z.data.toList) h
          exact h3
        exact Tree.preS_inj hXl hYl hpl hql h2
      have HNX : Hid (E1 = E2 ∨ ¬ X2 = Y2 → ¬ (X2 = Y2 ∧ A.drop (i + 1) = B.drop (i + 1))) := Lib.hid fun h hh => by
        rcases h with h | h
        · obtain ⟨h1, h2⟩ := hEE h
          exact hne ⟨h1, by rw [h2, hh.2]⟩
        · exact h hh.1
      have HPa : Hid (∀ u, Calls Tryd.prog 25 #[sumV X, sumV p] u fun e w' => e = .returned (.string ⟨(Tree.pre X p).toArray⟩) ∧ Below u.heap.size u w') := Lib.hid fun u => rleafPre_any X p hXl hpl u
      have HPb : Hid (∀ u, Calls Tryd.prog 25 #[sumV Y, sumV q] u fun e w' => e = .returned (.string ⟨(Tree.pre Y q).toArray⟩) ∧ Below u.heap.size u w') := Lib.hid fun u => rleafPre_any Y q hYl hql u
      have HPc : Hid (∀ u, Calls Tryd.prog 25 #[sumV p, sumV X] u fun e w' => e = .returned (.string ⟨(Tree.pre p X).toArray⟩) ∧ Below u.heap.size u w') := Lib.hid fun u => rleafPre_any p X hpl hXl u
      have HPd : Hid (∀ u, Calls Tryd.prog 25 #[sumV q, sumV Y] u fun e w' => e = .returned (.string ⟨(Tree.pre q Y).toArray⟩) ∧ Below u.heap.size u w') := Lib.hid fun u => rleafPre_any q Y hql hYl u
      have Hpl := Lib.hid hpl
      have Hql := Lib.hid hql
      have HXl := Lib.hid hXl
      have HYl := Lib.hid hYl
      have HX2l := Lib.hid hX2l
      have HY2l := Lib.hid hY2l
      have HfA := Lib.hid hfA
      have HfB := Lib.hid hfB
      have HOS := Lib.hid hos
      replace Jq15 : Hid (IsH X wr q15) := Lib.hid hX
      replace Jq16 : Hid (IsH Y wr q16) := Lib.hid hY
      have HCT := Lib.hid hct
      have HE1 := Lib.hid hE1
      have HE2 := Lib.hid hE2
      have hidxT := fun u => index_bools gT 0 n0 cT i (i : Int) rfl hi u
      rw [Nat.zero_add] at hidxT
      have hwr := IntWalk.i64_in ((i : Int) + 1) (by omega)
      clear hp hq htb hpl hql hrA hrB hcT bwr hX2 hY2 hX2l hY2l hp1 hp2 hq1 hq2 ht1 ht2 hne hfA hfB hE1 hE2 hEE hXl hYl hX hY hos hct hbA hbB hgT hgq HHA HHB
      obtain ⟨W, hW⟩ : ∃ W, W = wr := ⟨_, rfl⟩
      subst hW
      go_upto_region 19 with (fail)
      try simp only [Act.put]
      refine wp_region_tab [RT.is (sumV X), RT.is (.slice (some ⟨bA, oA, none⟩) n0 c0), RT.is (.int .i64 (i : Int)), RT.is (.pointer (some ⟨bA, oA + i * 32, none⟩)), RT.is (sumV p), RT.is (.string ⟨(Tree.pre X p).toArray⟩), RT.is (.string ⟨(Tree.pre X p).toArray⟩)] (by kernel_rfl) (by kernel_rfl) (by kernel_rfl) (by kernel_rfl) ⟨?_, ?_, ?_, ?_, ?_, ?_, ?_, trivial⟩ ?_
      · intro ac w' hF hL hP hU K hK
        have hB := below_undrew hL
        have e15 : ac.eval (.tmp 15) = .pointer (some ⟨q15, 0, none⟩) := hF.at 15 (by kernel_rfl)
        exact rop_ld _ _ rfl e15 (load_sumP HXl.out (range_var (IsH.old Jq15.out hB))) (wanted_none rfl) (hK _ _ (le8_refl _) rfl)
      · intro ac w' hF hL hP hU K hK
        have hB := below_undrew hL
        have e9 : ac.eval (.tmp 9) = .slice (some ⟨bA, oA, none⟩) n0 c0 := hF.at 9 (by kernel_rfl)
        exact rop_move _ rfl e9 (wanted_none rfl) (hK _ _ (le8_refl _) rfl)
      · intro ac w' hF hL hP hU K hK
        have hB := below_undrew hL
        have e17 : ac.eval (.tmp 17) = .int .i64 (i : Int) := hF.at 17 (by kernel_rfl)
        exact rop_move _ rfl e17 (wanted_none rfl) (hK _ _ (le8_refl _) rfl)
      · intro ac w' hF hL hP hU K hK
        have hB := below_undrew hL
        have e111 : ac.eval (.tmp 111) = .slice (some ⟨bA, oA, none⟩) n0 c0 := hP 1 (by kernel_rfl)
        have e112 : ac.eval (.tmp 112) = .int .i64 (i : Int) := hP 2 (by kernel_rfl)
        exact rop_idx _ _ _ rfl e111 e112 (index_sums bA oA n0 c0 i hi w') (wanted_none rfl) (hK _ _ (le8_refl _) rfl)
      · intro ac w' hF hL hP hU K hK
        have hB := below_undrew hL
        have e113 : ac.eval (.tmp 113) = .pointer (some ⟨bA, oA + i * 32, none⟩) := hP 3 (by kernel_rfl)
        exact rop_ld _ _ rfl e113 (load_sumP Hpl.out (below_range hB hbwA HRA.out)) (wanted_none rfl) (hK _ _ (le8_refl _) rfl)
      · intro ac w' hF hL hP hU K hK
        have hB := below_undrew hL
        have e110 : ac.eval (.tmp 110) = sumV X := hP 0 (by kernel_rfl)
        have e114 : ac.eval (.tmp 114) = sumV p := hP 4 (by kernel_rfl)
        refine rop_call 25 _ _ rfl #[sumV X, sumV p] (by simp [e110, e114]) (by kernel_rfl) (wanted_none rfl) ?_
        refine (HPa.out w').mono ?_
        rintro e w2 ⟨rfl, hb⟩
        exact ⟨_, rfl, hK _ _ hb rfl⟩
      · intro ac w' hF hL hP hU K hK
        have hB := below_undrew hL
        have e115 : ac.eval (.tmp 115) = .string ⟨(Tree.pre X p).toArray⟩ := hP 5 (by kernel_rfl)
        exact rop_assign _ rfl e115 (wanted_none rfl) (hK _ _ (le8_refl _) rfl)
      · intro ac w' hF hB hT
        have e18 : ac.eval (.tmp 18) = .string ⟨(Tree.pre X p).toArray⟩ := hT 6 (by decide)
        rw [hF.setsG [110, 111, 112, 113, 114, 115, 18] (by kernel_rfl)]
        simp only [List.foldl_cons, List.foldl_nil, List.setIfInBounds_toArray, List.set_cons_succ, List.set_cons_zero, e18]
        generalize ac.eval (.tmp 110) = u110
        generalize ac.eval (.tmp 111) = u111
        generalize ac.eval (.tmp 112) = u112
        generalize ac.eval (.tmp 113) = u113
        generalize ac.eval (.tmp 114) = u114
        generalize ac.eval (.tmp 115) = u115
        clear e18 hT hF ac
        obtain ⟨W8, hW8⟩ : ∃ W, W = w' := ⟨_, rfl⟩
        subst hW8
        replace Jq15 : Hid (IsH X W8 q15) := Lib.hid (IsH.old Jq15.out hB)
        replace Jq16 : Hid (IsH Y W8 q16) := Lib.hid (IsH.old Jq16.out hB)
        replace HRA : Hid (W8.rangeAt bA (oA + i * 32) (p.map u8V)) := Lib.hid (below_range hB hbwA HRA.out)
        replace HRB : Hid (W8.rangeAt bB (oB + i * 32) (q.map u8V)) := Lib.hid (below_range hB hbwB HRB.out)
        replace HCT : Hid (W8.cell? ⟨gT, i, none⟩ = some (.bool tb)) := Lib.hid ((hB.cell (p := ⟨gT, i, none⟩) hgw).trans HCT.out)
        replace HOS : Hid (OnlyS (fun k => k = q15 ∨ k = q16) w7 W8) := Lib.hid (HOS.out.trans (OnlyS.of_below hB))
        replace hbwA := Nat.lt_of_lt_of_le hbwA hB.size
        replace hbwB := Nat.lt_of_lt_of_le hbwB hB.size
        replace hgw := Nat.lt_of_lt_of_le hgw hB.size
        clear hB
        go_upto_region 20 with (fail)
        try simp only [Act.put]
        refine wp_region_tab [RT.is (sumV Y), RT.is (.slice (some ⟨bB, oB, none⟩) n0 c1), RT.is (.int .i64 (i : Int)), RT.is (.pointer (some ⟨bB, oB + i * 32, none⟩)), RT.is (sumV q), RT.is (.string ⟨(Tree.pre Y q).toArray⟩), RT.is (.string ⟨(Tree.pre Y q).toArray⟩)] (by kernel_rfl) (by kernel_rfl) (by kernel_rfl) (by kernel_rfl) ⟨?_, ?_, ?_, ?_, ?_, ?_, ?_, trivial⟩ ?_
        · intro ac w' hF hL hP hU K hK
          have hB := below_undrew hL
          have e16 : ac.eval (.tmp 16) = .pointer (some ⟨q16, 0, none⟩) := hF.at 16 (by kernel_rfl)
          exact rop_ld _ _ rfl e16 (load_sumP HYl.out (range_var (IsH.old Jq16.out hB))) (wanted_none rfl) (hK _ _ (le8_refl _) rfl)
        · intro ac w' hF hL hP hU K hK
          have hB := below_undrew hL
          have e10 : ac.eval (.tmp 10) = .slice (some ⟨bB, oB, none⟩) n0 c1 := hF.at 10 (by kernel_rfl)
          exact rop_move _ rfl e10 (wanted_none rfl) (hK _ _ (le8_refl _) rfl)
        · intro ac w' hF hL hP hU K hK
          have hB := below_undrew hL
          have e17 : ac.eval (.tmp 17) = .int .i64 (i : Int) := hF.at 17 (by kernel_rfl)
          exact rop_move _ rfl e17 (wanted_none rfl) (hK _ _ (le8_refl _) rfl)
        · intro ac w' hF hL hP hU K hK
          have hB := below_undrew hL
          have e117 : ac.eval (.tmp 117) = .slice (some ⟨bB, oB, none⟩) n0 c1 := hP 1 (by kernel_rfl)
          have e118 : ac.eval (.tmp 118) = .int .i64 (i : Int) := hP 2 (by kernel_rfl)
          exact rop_idx _ _ _ rfl e117 e118 (index_sums bB oB n0 c1 i hi w') (wanted_none rfl) (hK _ _ (le8_refl _) rfl)
        · intro ac w' hF hL hP hU K hK
          have hB := below_undrew hL
          have e119 : ac.eval (.tmp 119) = .pointer (some ⟨bB, oB + i * 32, none⟩) := hP 3 (by kernel_rfl)
          exact rop_ld _ _ rfl e119 (load_sumP Hql.out (below_range hB hbwB HRB.out)) (wanted_none rfl) (hK _ _ (le8_refl _) rfl)
        · intro ac w' hF hL hP hU K hK
          have hB := below_undrew hL
          have e116 : ac.eval (.tmp 116) = sumV Y := hP 0 (by kernel_rfl)
          have e120 : ac.eval (.tmp 120) = sumV q := hP 4 (by kernel_rfl)
          refine rop_call 25 _ _ rfl #[sumV Y, sumV q] (by simp [e116, e120]) (by kernel_rfl) (wanted_none rfl) ?_
          refine (HPb.out w').mono ?_
          rintro e w2 ⟨rfl, hb⟩
          exact ⟨_, rfl, hK _ _ hb rfl⟩
        · intro ac w' hF hL hP hU K hK
          have hB := below_undrew hL
          have e121 : ac.eval (.tmp 121) = .string ⟨(Tree.pre Y q).toArray⟩ := hP 5 (by kernel_rfl)
          exact rop_assign _ rfl e121 (wanted_none rfl) (hK _ _ (le8_refl _) rfl)
        · intro ac w' hF hB hT
          have e19 : ac.eval (.tmp 19) = .string ⟨(Tree.pre Y q).toArray⟩ := hT 6 (by decide)
          rw [hF.setsG [116, 117, 118, 119, 120, 121, 19] (by kernel_rfl)]
          simp only [List.foldl_cons, List.foldl_nil, List.setIfInBounds_toArray, List.set_cons_succ, List.set_cons_zero, e19]
          generalize ac.eval (.tmp 116) = u116
          generalize ac.eval (.tmp 117) = u117
          generalize ac.eval (.tmp 118) = u118
          generalize ac.eval (.tmp 119) = u119
          generalize ac.eval (.tmp 120) = u120
          generalize ac.eval (.tmp 121) = u121
          clear e19 hT hF ac
          obtain ⟨W9, hW9⟩ : ∃ W, W = w' := ⟨_, rfl⟩
          subst hW9
          replace Jq15 : Hid (IsH X W9 q15) := Lib.hid (IsH.old Jq15.out hB)
          replace Jq16 : Hid (IsH Y W9 q16) := Lib.hid (IsH.old Jq16.out hB)
          replace HRA : Hid (W9.rangeAt bA (oA + i * 32) (p.map u8V)) := Lib.hid (below_range hB hbwA HRA.out)
          replace HRB : Hid (W9.rangeAt bB (oB + i * 32) (q.map u8V)) := Lib.hid (below_range hB hbwB HRB.out)
          replace HCT : Hid (W9.cell? ⟨gT, i, none⟩ = some (.bool tb)) := Lib.hid ((hB.cell (p := ⟨gT, i, none⟩) hgw).trans HCT.out)
          replace HOS : Hid (OnlyS (fun k => k = q15 ∨ k = q16) w7 W9) := Lib.hid (HOS.out.trans (OnlyS.of_below hB))
          replace hbwA := Nat.lt_of_lt_of_le hbwA hB.size
          replace hbwB := Nat.lt_of_lt_of_le hbwB hB.size
          replace hgw := Nat.lt_of_lt_of_le hgw hB.size
          clear hB
          go_upto_region 21 with (fail)
          cases tb with
          | true =>
            replace HCT : Hid (W9.cell? ⟨gT, i, none⟩ = some (.bool true)) := HCT
            try simp only [Act.put]
            refine wp_region_tab0 [RT.is (.slice (some ⟨gT, 0, none⟩) n0 cT), RT.is (.int .i64 (i : Int)), RT.is (.pointer (some ⟨gT, i, none⟩)), RT.is (.bool true)] (by kernel_rfl) (by kernel_rfl) (by kernel_rfl) ⟨?_, ?_, ?_, ?_, trivial⟩ ?_
            · intro ac w' hF hL hP hU K hK
              have hB : Below _ _ _ := hL
              have e14 : ac.eval (.tmp 14) = .slice (some ⟨gT, 0, none⟩) n0 cT := hF.at 14 (by kernel_rfl)
              exact rop_move _ rfl e14 (wanted_none rfl) (hK _ _ (le8_refl _) rfl)
            · intro ac w' hF hL hP hU K hK
              have hB : Below _ _ _ := hL
              have e17 : ac.eval (.tmp 17) = .int .i64 (i : Int) := hF.at 17 (by kernel_rfl)
              exact rop_move _ rfl e17 (wanted_none rfl) (hK _ _ (le8_refl _) rfl)
            · intro ac w' hF hL hP hU K hK
              have hB : Below _ _ _ := hL
              have e122 : ac.eval (.tmp 122) = .slice (some ⟨gT, 0, none⟩) n0 cT := hP 0 (by kernel_rfl)
              have e123 : ac.eval (.tmp 123) = .int .i64 (i : Int) := hP 1 (by kernel_rfl)
              exact rop_idx _ _ _ rfl e122 e123 (hidxT w') (wanted_none rfl) (hK _ _ (le8_refl _) rfl)
            · intro ac w' hF hL hP hU K hK
              have hB : Below _ _ _ := hL
              have e124 : ac.eval (.tmp 124) = .pointer (some ⟨gT, i, none⟩) := hP 2 (by kernel_rfl)
              exact rop_ld _ _ rfl e124 (load_boolP ((hB.cell (p := ⟨gT, i, none⟩) hgw).trans HCT.out)) (wanted_none rfl) (hK _ _ (le8_refl _) rfl)
            · intro ac w' hF hB hT
              have e125 : ac.eval (.tmp 125) = .bool true := hT 3 (by decide)
              rw [hF.setsG [122, 123, 124, 125] (by kernel_rfl)]
              simp only [List.foldl_cons, List.foldl_nil, List.setIfInBounds_toArray, List.set_cons_succ, List.set_cons_zero, e125]
              generalize ac.eval (.tmp 122) = u122
              generalize ac.eval (.tmp 123) = u123
              generalize ac.eval (.tmp 124) = u124
              clear e125 hT hF ac
              clear HCT hgw
              obtain ⟨Wa, hWa⟩ : ∃ W, W = w' := ⟨_, rfl⟩
              subst hWa
              replace Jq15 : Hid (IsH X Wa q15) := Lib.hid (IsH.old Jq15.out hB)
              replace Jq16 : Hid (IsH Y Wa q16) := Lib.hid (IsH.old Jq16.out hB)
              replace HRA : Hid (Wa.rangeAt bA (oA + i * 32) (p.map u8V)) := Lib.hid (below_range hB hbwA HRA.out)
              replace HRB : Hid (Wa.rangeAt bB (oB + i * 32) (q.map u8V)) := Lib.hid (below_range hB hbwB HRB.out)
              replace HOS : Hid (OnlyS (fun k => k = q15 ∨ k = q16) w7 Wa) := Lib.hid (HOS.out.trans (OnlyS.of_below hB))
              replace hbwA := Nat.lt_of_lt_of_le hbwA hB.size
              replace hbwB := Nat.lt_of_lt_of_le hbwB hB.size
              clear hB
              go_upto_region 22 with (fail)
              try simp only [Act.put]
              refine wp_region_tab [RT.is (.slice (some ⟨bA, oA, none⟩) n0 c0), RT.is (.int .i64 (i : Int)), RT.is (.pointer (some ⟨bA, oA + i * 32, none⟩)), RT.is (sumV p), RT.is (sumV X), RT.is (.string ⟨(Tree.pre p X).toArray⟩), RT.is (.string ⟨(Tree.pre p X).toArray⟩)] (by kernel_rfl) (by kernel_rfl) (by kernel_rfl) (by kernel_rfl) ⟨?_, ?_, ?_, ?_, ?_, ?_, ?_, trivial⟩ ?_
              · intro ac w' hF hL hP hU K hK
                have hB := below_undrew hL
                have e9 : ac.eval (.tmp 9) = .slice (some ⟨bA, oA, none⟩) n0 c0 := hF.at 9 (by kernel_rfl)
                exact rop_move _ rfl e9 (wanted_none rfl) (hK _ _ (le8_refl _) rfl)
              · intro ac w' hF hL hP hU K hK
                have hB := below_undrew hL
                have e17 : ac.eval (.tmp 17) = .int .i64 (i : Int) := hF.at 17 (by kernel_rfl)
                exact rop_move _ rfl e17 (wanted_none rfl) (hK _ _ (le8_refl _) rfl)
              · intro ac w' hF hL hP hU K hK
                have hB := below_undrew hL
                have e126 : ac.eval (.tmp 126) = .slice (some ⟨bA, oA, none⟩) n0 c0 := hP 0 (by kernel_rfl)
                have e127 : ac.eval (.tmp 127) = .int .i64 (i : Int) := hP 1 (by kernel_rfl)
                exact rop_idx _ _ _ rfl e126 e127 (index_sums bA oA n0 c0 i hi w') (wanted_none rfl) (hK _ _ (le8_refl _) rfl)
              · intro ac w' hF hL hP hU K hK
                have hB := below_undrew hL
                have e128 : ac.eval (.tmp 128) = .pointer (some ⟨bA, oA + i * 32, none⟩) := hP 2 (by kernel_rfl)
                exact rop_ld _ _ rfl e128 (load_sumP Hpl.out (below_range hB hbwA HRA.out)) (wanted_none rfl) (hK _ _ (le8_refl _) rfl)
              · intro ac w' hF hL hP hU K hK
                have hB := below_undrew hL
                have e15 : ac.eval (.tmp 15) = .pointer (some ⟨q15, 0, none⟩) := hF.at 15 (by kernel_rfl)
                exact rop_ld _ _ rfl e15 (load_sumP HXl.out (range_var (IsH.old Jq15.out hB))) (wanted_none rfl) (hK _ _ (le8_refl _) rfl)
              · intro ac w' hF hL hP hU K hK
                have hB := below_undrew hL
                have e129 : ac.eval (.tmp 129) = sumV p := hP 3 (by kernel_rfl)
                have e130 : ac.eval (.tmp 130) = sumV X := hP 4 (by kernel_rfl)
                refine rop_call 25 _ _ rfl #[sumV p, sumV X] (by simp [e129, e130]) (by kernel_rfl) (wanted_none rfl) ?_
                refine (HPc.out w').mono ?_
                rintro e w2 ⟨rfl, hb⟩
                exact ⟨_, rfl, hK _ _ hb rfl⟩
              · intro ac w' hF hL hP hU K hK
                have hB := below_undrew hL
                have e131 : ac.eval (.tmp 131) = .string ⟨(Tree.pre p X).toArray⟩ := hP 5 (by kernel_rfl)
                exact rop_assign _ rfl e131 (wanted_none rfl) (hK _ _ (le8_refl _) rfl)
              · intro ac w' hF hB hT
                have e18 : ac.eval (.tmp 18) = .string ⟨(Tree.pre p X).toArray⟩ := hT 6 (by decide)
                rw [hF.setsG [126, 127, 128, 129, 130, 131, 18] (by kernel_rfl)]
                simp only [List.foldl_cons, List.foldl_nil, List.setIfInBounds_toArray, List.set_cons_succ, List.set_cons_zero, e18]
                generalize ac.eval (.tmp 126) = u126
                generalize ac.eval (.tmp 127) = u127
                generalize ac.eval (.tmp 128) = u128
                generalize ac.eval (.tmp 129) = u129
                generalize ac.eval (.tmp 130) = u130
                generalize ac.eval (.tmp 131) = u131
                clear e18 hT hF ac
                obtain ⟨Wb, hWb⟩ : ∃ W, W = w' := ⟨_, rfl⟩
                subst hWb
                replace Jq15 : Hid (IsH X Wb q15) := Lib.hid (IsH.old Jq15.out hB)
                replace Jq16 : Hid (IsH Y Wb q16) := Lib.hid (IsH.old Jq16.out hB)
                replace HRA : Hid (Wb.rangeAt bA (oA + i * 32) (p.map u8V)) := Lib.hid (below_range hB hbwA HRA.out)
                replace HRB : Hid (Wb.rangeAt bB (oB + i * 32) (q.map u8V)) := Lib.hid (below_range hB hbwB HRB.out)
                replace HOS : Hid (OnlyS (fun k => k = q15 ∨ k = q16) w7 Wb) := Lib.hid (HOS.out.trans (OnlyS.of_below hB))
                replace hbwA := Nat.lt_of_lt_of_le hbwA hB.size
                replace hbwB := Nat.lt_of_lt_of_le hbwB hB.size
                clear hB
                go_upto_region 23 with (fail)
                try simp only [Act.put]
                refine wp_region_tab [RT.is (.slice (some ⟨bB, oB, none⟩) n0 c1), RT.is (.int .i64 (i : Int)), RT.is (.pointer (some ⟨bB, oB + i * 32, none⟩)), RT.is (sumV q), RT.is (sumV Y), RT.is (.string ⟨(Tree.pre q Y).toArray⟩), RT.is (.string ⟨(Tree.pre q Y).toArray⟩)] (by kernel_rfl) (by kernel_rfl) (by kernel_rfl) (by kernel_rfl) ⟨?_, ?_, ?_, ?_, ?_, ?_, ?_, trivial⟩ ?_
                · intro ac w' hF hL hP hU K hK
                  have hB := below_undrew hL
                  have e10 : ac.eval (.tmp 10) = .slice (some ⟨bB, oB, none⟩) n0 c1 := hF.at 10 (by kernel_rfl)
                  exact rop_move _ rfl e10 (wanted_none rfl) (hK _ _ (le8_refl _) rfl)
                · intro ac w' hF hL hP hU K hK
                  have hB := below_undrew hL
                  have e17 : ac.eval (.tmp 17) = .int .i64 (i : Int) := hF.at 17 (by kernel_rfl)
                  exact rop_move _ rfl e17 (wanted_none rfl) (hK _ _ (le8_refl _) rfl)
                · intro ac w' hF hL hP hU K hK
                  have hB := below_undrew hL
                  have e132 : ac.eval (.tmp 132) = .slice (some ⟨bB, oB, none⟩) n0 c1 := hP 0 (by kernel_rfl)
                  have e133 : ac.eval (.tmp 133) = .int .i64 (i : Int) := hP 1 (by kernel_rfl)
                  exact rop_idx _ _ _ rfl e132 e133 (index_sums bB oB n0 c1 i hi w') (wanted_none rfl) (hK _ _ (le8_refl _) rfl)
                · intro ac w' hF hL hP hU K hK
                  have hB := below_undrew hL
                  have e134 : ac.eval (.tmp 134) = .pointer (some ⟨bB, oB + i * 32, none⟩) := hP 2 (by kernel_rfl)
                  exact rop_ld _ _ rfl e134 (load_sumP Hql.out (below_range hB hbwB HRB.out)) (wanted_none rfl) (hK _ _ (le8_refl _) rfl)
                · intro ac w' hF hL hP hU K hK
                  have hB := below_undrew hL
                  have e16 : ac.eval (.tmp 16) = .pointer (some ⟨q16, 0, none⟩) := hF.at 16 (by kernel_rfl)
                  exact rop_ld _ _ rfl e16 (load_sumP HYl.out (range_var (IsH.old Jq16.out hB))) (wanted_none rfl) (hK _ _ (le8_refl _) rfl)
                · intro ac w' hF hL hP hU K hK
                  have hB := below_undrew hL
                  have e135 : ac.eval (.tmp 135) = sumV q := hP 3 (by kernel_rfl)
                  have e136 : ac.eval (.tmp 136) = sumV Y := hP 4 (by kernel_rfl)
                  refine rop_call 25 _ _ rfl #[sumV q, sumV Y] (by simp [e135, e136]) (by kernel_rfl) (wanted_none rfl) ?_
                  refine (HPd.out w').mono ?_
                  rintro e w2 ⟨rfl, hb⟩
                  exact ⟨_, rfl, hK _ _ hb rfl⟩
                · intro ac w' hF hL hP hU K hK
                  have hB := below_undrew hL
                  have e137 : ac.eval (.tmp 137) = .string ⟨(Tree.pre q Y).toArray⟩ := hP 5 (by kernel_rfl)
                  exact rop_assign _ rfl e137 (wanted_none rfl) (hK _ _ (le8_refl _) rfl)
                · intro ac w' hF hB hT
                  have e19 : ac.eval (.tmp 19) = .string ⟨(Tree.pre q Y).toArray⟩ := hT 6 (by decide)
                  rw [hF.setsG [132, 133, 134, 135, 136, 137, 19] (by kernel_rfl)]
                  simp only [List.foldl_cons, List.foldl_nil, List.setIfInBounds_toArray, List.set_cons_succ, List.set_cons_zero, e19]
                  generalize ac.eval (.tmp 132) = u132
                  generalize ac.eval (.tmp 133) = u133
                  generalize ac.eval (.tmp 134) = u134
                  generalize ac.eval (.tmp 135) = u135
                  generalize ac.eval (.tmp 136) = u136
                  generalize ac.eval (.tmp 137) = u137
                  clear e19 hT hF ac
                  obtain ⟨Wc, hWc⟩ : ∃ W, W = w' := ⟨_, rfl⟩
                  subst hWc
                  replace Jq15 : Hid (IsH X Wc q15) := Lib.hid (IsH.old Jq15.out hB)
                  replace Jq16 : Hid (IsH Y Wc q16) := Lib.hid (IsH.old Jq16.out hB)
                  replace HRA : Hid (Wc.rangeAt bA (oA + i * 32) (p.map u8V)) := Lib.hid (below_range hB hbwA HRA.out)
                  replace HRB : Hid (Wc.rangeAt bB (oB + i * 32) (q.map u8V)) := Lib.hid (below_range hB hbwB HRB.out)
                  replace HOS : Hid (OnlyS (fun k => k = q15 ∨ k = q16) w7 Wc) := Lib.hid (HOS.out.trans (OnlyS.of_below hB))
                  replace hbwA := Nat.lt_of_lt_of_le hbwA hB.size
                  replace hbwB := Nat.lt_of_lt_of_le hbwB hB.size
                  clear hB
                  have hE1 : (⟨(Tree.pre p X).toArray⟩ : ByteArray) = E1 := HE1.out.symm
                  have hE2 : (⟨(Tree.pre q Y).toArray⟩ : ByteArray) = E2 := HE2.out.symm
                  rw [hE1, hE2]
                  clear hE1 hE2 hbwA hbwB HRA HRB
                  go_upto_region 25 with (first
                    | (go_at_call 26; ((with_reducible refine (HO1.out _).mono ?_); rintro e v1 ⟨rfl, f1⟩; have g15 := Lib.hid (Jq15.out.old f1)))
                    | refine wpList_store_mid rfl 23 (.tmp 15) (.tmp 139) rfl q15 0 (X2.map u8V).toArray rfl rfl (sum_thereP g15.out HXl.out HX2l.out) (sum_info HX2l.out) (sum_one X2) ?_)
                  change Code.wp _ _ _ _ (v1.setCells q15 0 (X2.map u8V))
                  obtain ⟨u1, hu1⟩ : ∃ u, u = v1.setCells q15 0 (X2.map u8V) := ⟨_, rfl⟩
                  have k15 : IsH X2 u1 q15 := by rw [hu1]; exact set_sumP v1 q15 X X2 HXl.out HX2l.out g15.out
                  have k16 : IsH Y u1 q16 := by rw [hu1]; exact (Jq16.out.old f1).far (by omega)
                  have os1 : OnlyS (fun k => k = q15 ∨ k = q16) w7 u1 := by rw [hu1]; exact (HOS.out.trans (OnlyS.of_below f1)).trans (OnlyS.of_only (only_setCells (b := q15) (X2.map u8V) 0 _ (Only.refl _ _)) (.inl rfl))
                  rw [← hu1]
                  replace Jq15 := Lib.hid k15
                  replace Jq16 := Lib.hid k16
                  replace HOS := Lib.hid os1
                  clear g15 k15 k16 os1 hu1 f1
                  go_upto_region 26 with (first
                    | (go_at_call 26; ((with_reducible refine (HO2.out _).mono ?_); rintro e v2 ⟨rfl, f2⟩; have g16 := Lib.hid (Jq16.out.old f2)))
                    | refine wpList_store_mid rfl 23 (.tmp 16) (.tmp 141) rfl q16 0 (Y2.map u8V).toArray rfl rfl (sum_thereP g16.out HYl.out HY2l.out) (sum_info HY2l.out) (sum_one Y2) ?_)
                  change Code.wp _ _ _ _ (v2.setCells q16 0 (Y2.map u8V))
                  obtain ⟨W, hW⟩ : ∃ u, u = v2.setCells q16 0 (Y2.map u8V) := ⟨_, rfl⟩
                  have k16 : IsH Y2 W q16 := by rw [hW]; exact set_sumP v2 q16 Y Y2 HYl.out HY2l.out g16.out
                  have k15 : IsH X2 W q15 := by rw [hW]; exact (Jq15.out.old f2).far (by omega)
                  have os1 : OnlyS (fun k => k = q15 ∨ k = q16) w7 W := by rw [hW]; exact (HOS.out.trans (OnlyS.of_below f2)).trans (OnlyS.of_only (only_setCells (b := q16) (Y2.map u8V) 0 _ (Only.refl _ _)) (.inr rfl))
                  rw [← hW]
                  replace Jq15 := Lib.hid k15
                  replace Jq16 := Lib.hid k16
                  replace HOS := Lib.hid os1
                  clear g16 k15 k16 os1 hW f2
                  have HRL : Hid (∀ u, Below W.heap.size W u → (E1 = E2 ∨ ¬ X2 = Y2) → ORel A B T R q15 q16 w7 (.int .i64 ((i + 1 : Nat) : Int)) u) := Lib.hid fun u hu h => ⟨i + 1, X2, Y2, rfl, by rw [HTl.out]; omega, HX2l.out, HY2l.out, HfA.out, HfB.out, HNX.out h, HOS.out.trans (OnlyS.of_below hu), Jq15.out.old hu, Jq16.out.old hu⟩
                  have HWB : Hid (Below w.heap.size w W) := Lib.hid (HB7.out.trans (HOS.out.below (fun k hk => by rcases hk with rfl | rfl <;> omega) HB7.out.size))
                  clear HOS HNX HO1 HO2 HPa HPb HPc HPd HE1 HE2
                  by_cases hE : E1 = E2
                  · skip
                    try simp only [Act.put]
                    refine wp_region_tab0 [RT.is (.string E1), RT.is (.string E2), RT.is (.bool false), RT.is (.bool false), RT.any, RT.any, RT.any, RT.is (.bool false)] (by kernel_rfl) (by kernel_rfl) (by kernel_rfl) ⟨?_, ?_, ?_, ?_, ?_, ?_, ?_, ?_, trivial⟩ ?_
                    · intro ac w' hF hL hP hU K hK
                      have hB : Below _ _ _ := hL
                      have e18 : ac.eval (.tmp 18) = .string E1 := hF.at 18 (by kernel_rfl)
                      exact rop_move _ rfl e18 (wanted_none rfl) (hK _ _ (le8_refl _) rfl)
                    · intro ac w' hF hL hP hU K hK
                      have hB : Below _ _ _ := hL
                      have e19 : ac.eval (.tmp 19) = .string E2 := hF.at 19 (by kernel_rfl)
                      exact rop_move _ rfl e19 (wanted_none rfl) (hK _ _ (le8_refl _) rfl)
                    · intro ac w' hF hL hP hU K hK
                      have hB : Below _ _ _ := hL
                      have e142 : ac.eval (.tmp 142) = .string E1 := hP 0 (by kernel_rfl)
                      have e143 : ac.eval (.tmp 143) = .string E2 := hP 1 (by kernel_rfl)
                      exact rop_bin _ _ _ _ _ rfl e142 e143 (guard_str _ _ _ _ _ _ w') (neq_str_fP E1 E2 hE w') (wanted_none rfl) (hK _ _ (le8_refl _) rfl)
                    · intro ac w' hF hL hP hU K hK
                      have hB : Below _ _ _ := hL
                      have e144 : ac.eval (.tmp 144) = .bool false := hP 2 (by kernel_rfl)
                      exact rop_move _ rfl e144 (wanted_none rfl) (hK _ _ (le8_refl _) rfl)
                    · intro ac w' hF hL hP hU K hK
                      have hB : Below _ _ _ := hL
                      have e145 : ac.eval (.tmp 145) = .bool false := hP 3 (by kernel_rfl)
                      exact rop_offG (j := 3) (b := true) rfl rfl e145 (by decide) (hK _ _ (le8_refl _) trivial)
                    · intro ac w' hF hL hP hU K hK
                      have hB : Below _ _ _ := hL
                      have e145 : ac.eval (.tmp 145) = .bool false := hP 3 (by kernel_rfl)
                      exact rop_offG (j := 3) (b := true) rfl rfl e145 (by decide) (hK _ _ (le8_refl _) trivial)
                    · intro ac w' hF hL hP hU K hK
                      have hB : Below _ _ _ := hL
                      have e145 : ac.eval (.tmp 145) = .bool false := hP 3 (by kernel_rfl)
                      exact rop_offG (j := 3) (b := true) rfl rfl e145 (by decide) (hK _ _ (le8_refl _) trivial)
                    · intro ac w' hF hL hP hU K hK
                      have hB : Below _ _ _ := hL
                      have e145 : ac.eval (.tmp 145) = .bool false := hP 3 (by kernel_rfl)
                      exact rop_pick _ _ _ rfl false e145 (by rfl) (wanted_none rfl) (hK _ _ (le8_refl _) rfl)
                    · intro ac w' hF hB hT
                      have e149 : ac.eval (.tmp 149) = .bool false := hT 7 (by decide)
                      rw [hF.setsG [142, 143, 144, 145, 146, 147, 148, 149] (by kernel_rfl)]
                      simp only [List.foldl_cons, List.foldl_nil, List.setIfInBounds_toArray, List.set_cons_succ, List.set_cons_zero, e149]
                      generalize ac.eval (.tmp 142) = u142
                      generalize ac.eval (.tmp 143) = u143
                      generalize ac.eval (.tmp 144) = u144
                      generalize ac.eval (.tmp 145) = u145
                      generalize ac.eval (.tmp 146) = u146
                      generalize ac.eval (.tmp 147) = u147
                      generalize ac.eval (.tmp 148) = u148
                      clear e149 hT hF ac
                      have HG := Lib.hid (HRL.out _ hB (.inl hE))
                      clear hB hE
                      go_wp2
                      exact ⟨by have := HG.out; simpa using this, by simp [intOf]; omega⟩
                  · by_cases hXY : X2 = Y2
                    · skip
                      try simp only [Act.put]
                      refine wp_region_tab0 [RT.is (.string E1), RT.is (.string E2), RT.is (.bool true), RT.is (.bool true), RT.is (sumV X2), RT.is (sumV Y2), RT.is (.bool true), RT.is (.bool true)] (by kernel_rfl) (by kernel_rfl) (by kernel_rfl) ⟨?_, ?_, ?_, ?_, ?_, ?_, ?_, ?_, trivial⟩ ?_
                      · intro ac w' hF hL hP hU K hK
                        have hB : Below _ _ _ := hL
                        have e18 : ac.eval (.tmp 18) = .string E1 := hF.at 18 (by kernel_rfl)
                        exact rop_move _ rfl e18 (wanted_none rfl) (hK _ _ (le8_refl _) rfl)
                      · intro ac w' hF hL hP hU K hK
                        have hB : Below _ _ _ := hL
                        have e19 : ac.eval (.tmp 19) = .string E2 := hF.at 19 (by kernel_rfl)
                        exact rop_move _ rfl e19 (wanted_none rfl) (hK _ _ (le8_refl _) rfl)
                      · intro ac w' hF hL hP hU K hK
                        have hB : Below _ _ _ := hL
                        have e142 : ac.eval (.tmp 142) = .string E1 := hP 0 (by kernel_rfl)
                        have e143 : ac.eval (.tmp 143) = .string E2 := hP 1 (by kernel_rfl)
                        exact rop_bin _ _ _ _ _ rfl e142 e143 (guard_str _ _ _ _ _ _ w') (neq_str_t E1 E2 hE w') (wanted_none rfl) (hK _ _ (le8_refl _) rfl)
                      · intro ac w' hF hL hP hU K hK
                        have hB : Below _ _ _ := hL
                        have e144 : ac.eval (.tmp 144) = .bool true := hP 2 (by kernel_rfl)
                        exact rop_move _ rfl e144 (wanted_none rfl) (hK _ _ (le8_refl _) rfl)
                      · intro ac w' hF hL hP hU K hK
                        have hB : Below _ _ _ := hL
                        have e15 : ac.eval (.tmp 15) = .pointer (some ⟨q15, 0, none⟩) := hF.at 15 (by kernel_rfl)
                        have e145 : ac.eval (.tmp 145) = .bool true := hP 3 (by kernel_rfl)
                        exact rop_ld _ _ rfl e15 (load_sumP HX2l.out (range_var (IsH.old Jq15.out hB))) (wanted_of (j := 3) (b := true) rfl rfl e145) (hK _ _ (le8_refl _) rfl)
                      · intro ac w' hF hL hP hU K hK
                        have hB : Below _ _ _ := hL
                        have e16 : ac.eval (.tmp 16) = .pointer (some ⟨q16, 0, none⟩) := hF.at 16 (by kernel_rfl)
                        have e145 : ac.eval (.tmp 145) = .bool true := hP 3 (by kernel_rfl)
                        exact rop_ld _ _ rfl e16 (load_sumP HY2l.out (range_var (IsH.old Jq16.out hB))) (wanted_of (j := 3) (b := true) rfl rfl e145) (hK _ _ (le8_refl _) rfl)
                      · intro ac w' hF hL hP hU K hK
                        have hB : Below _ _ _ := hL
                        have e146 : ac.eval (.tmp 146) = sumV X2 := hP 4 (by kernel_rfl)
                        have e147 : ac.eval (.tmp 147) = sumV Y2 := hP 5 (by kernel_rfl)
                        have e145 : ac.eval (.tmp 145) = .bool true := hP 3 (by kernel_rfl)
                        exact rop_bin _ _ _ _ _ rfl e146 e147 (guard_run _ _ _ _ _ w') (eql_sum_tt X2 Y2 HX2l.out HY2l.out hXY w') (wanted_of (j := 3) (b := true) rfl rfl e145) (hK _ _ (le8_refl _) rfl)
                      · intro ac w' hF hL hP hU K hK
                        have hB : Below _ _ _ := hL
                        have e145 : ac.eval (.tmp 145) = .bool true := hP 3 (by kernel_rfl)
                        have e148 : ac.eval (.tmp 148) = .bool true := hP 6 (by kernel_rfl)
                        exact rop_pick _ _ _ rfl true e145 (by simpa using e148) (wanted_none rfl) (hK _ _ (le8_refl _) rfl)
                      · intro ac w' hF hB hT
                        have e149 : ac.eval (.tmp 149) = .bool true := hT 7 (by decide)
                        rw [hF.setsG [142, 143, 144, 145, 146, 147, 148, 149] (by kernel_rfl)]
                        simp only [List.foldl_cons, List.foldl_nil, List.setIfInBounds_toArray, List.set_cons_succ, List.set_cons_zero, e149]
                        generalize ac.eval (.tmp 142) = u142
                        generalize ac.eval (.tmp 143) = u143
                        generalize ac.eval (.tmp 144) = u144
                        generalize ac.eval (.tmp 145) = u145
                        generalize ac.eval (.tmp 146) = u146
                        generalize ac.eval (.tmp 147) = u147
                        generalize ac.eval (.tmp 148) = u148
                        clear e149 hT hF ac
                        have HF := Lib.hid (below_step HWB.out (Nat.le_refl _) hB)
                        clear hB hE hXY
                        go_wp2
                        go_ret
                        exact ⟨rfl, HF.out⟩
                    · skip
                      try simp only [Act.put]
                      refine wp_region_tab0 [RT.is (.string E1), RT.is (.string E2), RT.is (.bool true), RT.is (.bool true), RT.is (sumV X2), RT.is (sumV Y2), RT.is (.bool false), RT.is (.bool false)] (by kernel_rfl) (by kernel_rfl) (by kernel_rfl) ⟨?_, ?_, ?_, ?_, ?_, ?_, ?_, ?_, trivial⟩ ?_
                      · intro ac w' hF hL hP hU K hK
                        have hB : Below _ _ _ := hL
                        have e18 : ac.eval (.tmp 18) = .string E1 := hF.at 18 (by kernel_rfl)
                        exact rop_move _ rfl e18 (wanted_none rfl) (hK _ _ (le8_refl _) rfl)
                      · intro ac w' hF hL hP hU K hK
                        have hB : Below _ _ _ := hL
                        have e19 : ac.eval (.tmp 19) = .string E2 := hF.at 19 (by kernel_rfl)
                        exact rop_move _ rfl e19 (wanted_none rfl) (hK _ _ (le8_refl _) rfl)
                      · intro ac w' hF hL hP hU K hK
                        have hB : Below _ _ _ := hL
                        have e142 : ac.eval (.tmp 142) = .string E1 := hP 0 (by kernel_rfl)
                        have e143 : ac.eval (.tmp 143) = .string E2 := hP 1 (by kernel_rfl)
                        exact rop_bin _ _ _ _ _ rfl e142 e143 (guard_str _ _ _ _ _ _ w') (neq_str_t E1 E2 hE w') (wanted_none rfl) (hK _ _ (le8_refl _) rfl)
                      · intro ac w' hF hL hP hU K hK
                        have hB : Below _ _ _ := hL
                        have e144 : ac.eval (.tmp 144) = .bool true := hP 2 (by kernel_rfl)
                        exact rop_move _ rfl e144 (wanted_none rfl) (hK _ _ (le8_refl _) rfl)
                      · intro ac w' hF hL hP hU K hK
                        have hB : Below _ _ _ := hL
                        have e15 : ac.eval (.tmp 15) = .pointer (some ⟨q15, 0, none⟩) := hF.at 15 (by kernel_rfl)
                        have e145 : ac.eval (.tmp 145) = .bool true := hP 3 (by kernel_rfl)
                        exact rop_ld _ _ rfl e15 (load_sumP HX2l.out (range_var (IsH.old Jq15.out hB))) (wanted_of (j := 3) (b := true) rfl rfl e145) (hK _ _ (le8_refl _) rfl)
                      · intro ac w' hF hL hP hU K hK
                        have hB : Below _ _ _ := hL
                        have e16 : ac.eval (.tmp 16) = .pointer (some ⟨q16, 0, none⟩) := hF.at 16 (by kernel_rfl)
                        have e145 : ac.eval (.tmp 145) = .bool true := hP 3 (by kernel_rfl)
                        exact rop_ld _ _ rfl e16 (load_sumP HY2l.out (range_var (IsH.old Jq16.out hB))) (wanted_of (j := 3) (b := true) rfl rfl e145) (hK _ _ (le8_refl _) rfl)
                      · intro ac w' hF hL hP hU K hK
                        have hB : Below _ _ _ := hL
                        have e146 : ac.eval (.tmp 146) = sumV X2 := hP 4 (by kernel_rfl)
                        have e147 : ac.eval (.tmp 147) = sumV Y2 := hP 5 (by kernel_rfl)
                        have e145 : ac.eval (.tmp 145) = .bool true := hP 3 (by kernel_rfl)
                        exact rop_bin _ _ _ _ _ rfl e146 e147 (guard_run _ _ _ _ _ w') (eql_sum_ff X2 Y2 HX2l.out HY2l.out hXY w') (wanted_of (j := 3) (b := true) rfl rfl e145) (hK _ _ (le8_refl _) rfl)
                      · intro ac w' hF hL hP hU K hK
                        have hB : Below _ _ _ := hL
                        have e145 : ac.eval (.tmp 145) = .bool true := hP 3 (by kernel_rfl)
                        have e148 : ac.eval (.tmp 148) = .bool false := hP 6 (by kernel_rfl)
                        exact rop_pick _ _ _ rfl true e145 (by simpa using e148) (wanted_none rfl) (hK _ _ (le8_refl _) rfl)
                      · intro ac w' hF hB hT
                        have e149 : ac.eval (.tmp 149) = .bool false := hT 7 (by decide)
                        rw [hF.setsG [142, 143, 144, 145, 146, 147, 148, 149] (by kernel_rfl)]
                        simp only [List.foldl_cons, List.foldl_nil, List.setIfInBounds_toArray, List.set_cons_succ, List.set_cons_zero, e149]
                        generalize ac.eval (.tmp 142) = u142
                        generalize ac.eval (.tmp 143) = u143
                        generalize ac.eval (.tmp 144) = u144
                        generalize ac.eval (.tmp 145) = u145
                        generalize ac.eval (.tmp 146) = u146
                        generalize ac.eval (.tmp 147) = u147
                        generalize ac.eval (.tmp 148) = u148
                        clear e149 hT hF ac
                        have HG := Lib.hid (HRL.out _ hB (.inr hXY))
                        clear hB hE hXY
                        go_wp2
                        exact ⟨by have := HG.out; simpa using this, by simp [intOf]; omega⟩
          | false =>
            replace HCT : Hid (W9.cell? ⟨gT, i, none⟩ = some (.bool false)) := HCT
            try simp only [Act.put]
            refine wp_region_tab0 [RT.is (.slice (some ⟨gT, 0, none⟩) n0 cT), RT.is (.int .i64 (i : Int)), RT.is (.pointer (some ⟨gT, i, none⟩)), RT.is (.bool false)] (by kernel_rfl) (by kernel_rfl) (by kernel_rfl) ⟨?_, ?_, ?_, ?_, trivial⟩ ?_
            · intro ac w' hF hL hP hU K hK
              have hB : Below _ _ _ := hL
              have e14 : ac.eval (.tmp 14) = .slice (some ⟨gT, 0, none⟩) n0 cT := hF.at 14 (by kernel_rfl)
              exact rop_move _ rfl e14 (wanted_none rfl) (hK _ _ (le8_refl _) rfl)
            · intro ac w' hF hL hP hU K hK
              have hB : Below _ _ _ := hL
              have e17 : ac.eval (.tmp 17) = .int .i64 (i : Int) := hF.at 17 (by kernel_rfl)
              exact rop_move _ rfl e17 (wanted_none rfl) (hK _ _ (le8_refl _) rfl)
            · intro ac w' hF hL hP hU K hK
              have hB : Below _ _ _ := hL
              have e122 : ac.eval (.tmp 122) = .slice (some ⟨gT, 0, none⟩) n0 cT := hP 0 (by kernel_rfl)
              have e123 : ac.eval (.tmp 123) = .int .i64 (i : Int) := hP 1 (by kernel_rfl)
              exact rop_idx _ _ _ rfl e122 e123 (hidxT w') (wanted_none rfl) (hK _ _ (le8_refl _) rfl)
            · intro ac w' hF hL hP hU K hK
              have hB : Below _ _ _ := hL
              have e124 : ac.eval (.tmp 124) = .pointer (some ⟨gT, i, none⟩) := hP 2 (by kernel_rfl)
              exact rop_ld _ _ rfl e124 (load_boolP ((hB.cell (p := ⟨gT, i, none⟩) hgw).trans HCT.out)) (wanted_none rfl) (hK _ _ (le8_refl _) rfl)
            · intro ac w' hF hB hT
              have e125 : ac.eval (.tmp 125) = .bool false := hT 3 (by decide)
              rw [hF.setsG [122, 123, 124, 125] (by kernel_rfl)]
              simp only [List.foldl_cons, List.foldl_nil, List.setIfInBounds_toArray, List.set_cons_succ, List.set_cons_zero, e125]
              generalize ac.eval (.tmp 122) = u122
              generalize ac.eval (.tmp 123) = u123
              generalize ac.eval (.tmp 124) = u124
              clear e125 hT hF ac
              clear HCT hgw
              obtain ⟨Wa, hWa⟩ : ∃ W, W = w' := ⟨_, rfl⟩
              subst hWa
              replace Jq15 : Hid (IsH X Wa q15) := Lib.hid (IsH.old Jq15.out hB)
              replace Jq16 : Hid (IsH Y Wa q16) := Lib.hid (IsH.old Jq16.out hB)
              replace HRA : Hid (Wa.rangeAt bA (oA + i * 32) (p.map u8V)) := Lib.hid (below_range hB hbwA HRA.out)
              replace HRB : Hid (Wa.rangeAt bB (oB + i * 32) (q.map u8V)) := Lib.hid (below_range hB hbwB HRB.out)
              replace HOS : Hid (OnlyS (fun k => k = q15 ∨ k = q16) w7 Wa) := Lib.hid (HOS.out.trans (OnlyS.of_below hB))
              replace hbwA := Nat.lt_of_lt_of_le hbwA hB.size
              replace hbwB := Nat.lt_of_lt_of_le hbwB hB.size
              clear hB
              have hE1 : (⟨(Tree.pre X p).toArray⟩ : ByteArray) = E1 := HE1.out.symm
              have hE2 : (⟨(Tree.pre Y q).toArray⟩ : ByteArray) = E2 := HE2.out.symm
              rw [hE1, hE2]
              clear hE1 hE2 hbwA hbwB HRA HRB
              go_upto_region 25 with (first
                | (go_at_call 26; ((with_reducible refine (HO1.out _).mono ?_); rintro e v1 ⟨rfl, f1⟩; have g15 := Lib.hid (Jq15.out.old f1)))
                | refine wpList_store_mid rfl 23 (.tmp 15) (.tmp 139) rfl q15 0 (X2.map u8V).toArray rfl rfl (sum_thereP g15.out HXl.out HX2l.out) (sum_info HX2l.out) (sum_one X2) ?_)
              change Code.wp _ _ _ _ (v1.setCells q15 0 (X2.map u8V))
              obtain ⟨u1, hu1⟩ : ∃ u, u = v1.setCells q15 0 (X2.map u8V) := ⟨_, rfl⟩
              have k15 : IsH X2 u1 q15 := by rw [hu1]; exact set_sumP v1 q15 X X2 HXl.out HX2l.out g15.out
              have k16 : IsH Y u1 q16 := by rw [hu1]; exact (Jq16.out.old f1).far (by omega)
              have os1 : OnlyS (fun k => k = q15 ∨ k = q16) w7 u1 := by rw [hu1]; exact (HOS.out.trans (OnlyS.of_below f1)).trans (OnlyS.of_only (only_setCells (b := q15) (X2.map u8V) 0 _ (Only.refl _ _)) (.inl rfl))
              rw [← hu1]
              replace Jq15 := Lib.hid k15
              replace Jq16 := Lib.hid k16
              replace HOS := Lib.hid os1
              clear g15 k15 k16 os1 hu1 f1
              go_upto_region 26 with (first
                | (go_at_call 26; ((with_reducible refine (HO2.out _).mono ?_); rintro e v2 ⟨rfl, f2⟩; have g16 := Lib.hid (Jq16.out.old f2)))
                | refine wpList_store_mid rfl 23 (.tmp 16) (.tmp 141) rfl q16 0 (Y2.map u8V).toArray rfl rfl (sum_thereP g16.out HYl.out HY2l.out) (sum_info HY2l.out) (sum_one Y2) ?_)
              change Code.wp _ _ _ _ (v2.setCells q16 0 (Y2.map u8V))
              obtain ⟨W, hW⟩ : ∃ u, u = v2.setCells q16 0 (Y2.map u8V) := ⟨_, rfl⟩
              have k16 : IsH Y2 W q16 := by rw [hW]; exact set_sumP v2 q16 Y Y2 HYl.out HY2l.out g16.out
              have k15 : IsH X2 W q15 := by rw [hW]; exact (Jq15.out.old f2).far (by omega)
              have os1 : OnlyS (fun k => k = q15 ∨ k = q16) w7 W := by rw [hW]; exact (HOS.out.trans (OnlyS.of_below f2)).trans (OnlyS.of_only (only_setCells (b := q16) (Y2.map u8V) 0 _ (Only.refl _ _)) (.inr rfl))
              rw [← hW]
              replace Jq15 := Lib.hid k15
              replace Jq16 := Lib.hid k16
              replace HOS := Lib.hid os1
              clear g16 k15 k16 os1 hW f2
              have HRL : Hid (∀ u, Below W.heap.size W u → (E1 = E2 ∨ ¬ X2 = Y2) → ORel A B T R q15 q16 w7 (.int .i64 ((i + 1 : Nat) : Int)) u) := Lib.hid fun u hu h => ⟨i + 1, X2, Y2, rfl, by rw [HTl.out]; omega, HX2l.out, HY2l.out, HfA.out, HfB.out, HNX.out h, HOS.out.trans (OnlyS.of_below hu), Jq15.out.old hu, Jq16.out.old hu⟩
              have HWB : Hid (Below w.heap.size w W) := Lib.hid (HB7.out.trans (HOS.out.below (fun k hk => by rcases hk with rfl | rfl <;> omega) HB7.out.size))
              clear HOS HNX HO1 HO2 HPa HPb HPc HPd HE1 HE2
              by_cases hE : E1 = E2
              · skip
                try simp only [Act.put]
                refine wp_region_tab0 [RT.is (.string E1), RT.is (.string E2), RT.is (.bool false), RT.is (.bool false), RT.any, RT.any, RT.any, RT.is (.bool false)] (by kernel_rfl) (by kernel_rfl) (by kernel_rfl) ⟨?_, ?_, ?_, ?_, ?_, ?_, ?_, ?_, trivial⟩ ?_
                · intro ac w' hF hL hP hU K hK
                  have hB : Below _ _ _ := hL
                  have e18 : ac.eval (.tmp 18) = .string E1 := hF.at 18 (by kernel_rfl)
                  exact rop_move _ rfl e18 (wanted_none rfl) (hK _ _ (le8_refl _) rfl)
                · intro ac w' hF hL hP hU K hK
                  have hB : Below _ _ _ := hL
                  have e19 : ac.eval (.tmp 19) = .string E2 := hF.at 19 (by kernel_rfl)
                  exact rop_move _ rfl e19 (wanted_none rfl) (hK _ _ (le8_refl _) rfl)
                · intro ac w' hF hL hP hU K hK
                  have hB : Below _ _ _ := hL
                  have e142 : ac.eval (.tmp 142) = .string E1 := hP 0 (by kernel_rfl)
                  have e143 : ac.eval (.tmp 143) = .string E2 := hP 1 (by kernel_rfl)
                  exact rop_bin _ _ _ _ _ rfl e142 e143 (guard_str _ _ _ _ _ _ w') (neq_str_fP E1 E2 hE w') (wanted_none rfl) (hK _ _ (le8_refl _) rfl)
                · intro ac w' hF hL hP hU K hK
                  have hB : Below _ _ _ := hL
                  have e144 : ac.eval (.tmp 144) = .bool false := hP 2 (by kernel_rfl)
                  exact rop_move _ rfl e144 (wanted_none rfl) (hK _ _ (le8_refl _) rfl)
                · intro ac w' hF hL hP hU K hK
                  have hB : Below _ _ _ := hL
                  have e145 : ac.eval (.tmp 145) = .bool false := hP 3 (by kernel_rfl)
                  exact rop_offG (j := 3) (b := true) rfl rfl e145 (by decide) (hK _ _ (le8_refl _) trivial)
                · intro ac w' hF hL hP hU K hK
                  have hB : Below _ _ _ := hL
                  have e145 : ac.eval (.tmp 145) = .bool false := hP 3 (by kernel_rfl)
                  exact rop_offG (j := 3) (b := true) rfl rfl e145 (by decide) (hK _ _ (le8_refl _) trivial)
                · intro ac w' hF hL hP hU K hK
                  have hB : Below _ _ _ := hL
                  have e145 : ac.eval (.tmp 145) = .bool false := hP 3 (by kernel_rfl)
                  exact rop_offG (j := 3) (b := true) rfl rfl e145 (by decide) (hK _ _ (le8_refl _) trivial)
                · intro ac w' hF hL hP hU K hK
                  have hB : Below _ _ _ := hL
                  have e145 : ac.eval (.tmp 145) = .bool false := hP 3 (by kernel_rfl)
                  exact rop_pick _ _ _ rfl false e145 (by rfl) (wanted_none rfl) (hK _ _ (le8_refl _) rfl)
                · intro ac w' hF hB hT
                  have e149 : ac.eval (.tmp 149) = .bool false := hT 7 (by decide)
                  rw [hF.setsG [142, 143, 144, 145, 146, 147, 148, 149] (by kernel_rfl)]
                  simp only [List.foldl_cons, List.foldl_nil, List.setIfInBounds_toArray, List.set_cons_succ, List.set_cons_zero, e149]
                  generalize ac.eval (.tmp 142) = u142
                  generalize ac.eval (.tmp 143) = u143
                  generalize ac.eval (.tmp 144) = u144
                  generalize ac.eval (.tmp 145) = u145
                  generalize ac.eval (.tmp 146) = u146
                  generalize ac.eval (.tmp 147) = u147
                  generalize ac.eval (.tmp 148) = u148
                  clear e149 hT hF ac
                  have HG := Lib.hid (HRL.out _ hB (.inl hE))
                  clear hB hE
                  go_wp2
                  exact ⟨by have := HG.out; simpa using this, by simp [intOf]; omega⟩
              · by_cases hXY : X2 = Y2
                · skip
                  try simp only [Act.put]
                  refine wp_region_tab0 [RT.is (.string E1), RT.is (.string E2), RT.is (.bool true), RT.is (.bool true), RT.is (sumV X2), RT.is (sumV Y2), RT.is (.bool true), RT.is (.bool true)] (by kernel_rfl) (by kernel_rfl) (by kernel_rfl) ⟨?_, ?_, ?_, ?_, ?_, ?_, ?_, ?_, trivial⟩ ?_
                  · intro ac w' hF hL hP hU K hK
                    have hB : Below _ _ _ := hL
                    have e18 : ac.eval (.tmp 18) = .string E1 := hF.at 18 (by kernel_rfl)
                    exact rop_move _ rfl e18 (wanted_none rfl) (hK _ _ (le8_refl _) rfl)
                  · intro ac w' hF hL hP hU K hK
                    have hB : Below _ _ _ := hL
                    have e19 : ac.eval (.tmp 19) = .string E2 := hF.at 19 (by kernel_rfl)
                    exact rop_move _ rfl e19 (wanted_none rfl) (hK _ _ (le8_refl _) rfl)
                  · intro ac w' hF hL hP hU K hK
                    have hB : Below _ _ _ := hL
                    have e142 : ac.eval (.tmp 142) = .string E1 := hP 0 (by kernel_rfl)
                    have e143 : ac.eval (.tmp 143) = .string E2 := hP 1 (by kernel_rfl)
                    exact rop_bin _ _ _ _ _ rfl e142 e143 (guard_str _ _ _ _ _ _ w') (neq_str_t E1 E2 hE w') (wanted_none rfl) (hK _ _ (le8_refl _) rfl)
                  · intro ac w' hF hL hP hU K hK
                    have hB : Below _ _ _ := hL
                    have e144 : ac.eval (.tmp 144) = .bool true := hP 2 (by kernel_rfl)
                    exact rop_move _ rfl e144 (wanted_none rfl) (hK _ _ (le8_refl _) rfl)
                  · intro ac w' hF hL hP hU K hK
                    have hB : Below _ _ _ := hL
                    have e15 : ac.eval (.tmp 15) = .pointer (some ⟨q15, 0, none⟩) := hF.at 15 (by kernel_rfl)
                    have e145 : ac.eval (.tmp 145) = .bool true := hP 3 (by kernel_rfl)
                    exact rop_ld _ _ rfl e15 (load_sumP HX2l.out (range_var (IsH.old Jq15.out hB))) (wanted_of (j := 3) (b := true) rfl rfl e145) (hK _ _ (le8_refl _) rfl)
                  · intro ac w' hF hL hP hU K hK
                    have hB : Below _ _ _ := hL
                    have e16 : ac.eval (.tmp 16) = .pointer (some ⟨q16, 0, none⟩) := hF.at 16 (by kernel_rfl)
                    have e145 : ac.eval (.tmp 145) = .bool true := hP 3 (by kernel_rfl)
                    exact rop_ld _ _ rfl e16 (load_sumP HY2l.out (range_var (IsH.old Jq16.out hB))) (wanted_of (j := 3) (b := true) rfl rfl e145) (hK _ _ (le8_refl _) rfl)
                  · intro ac w' hF hL hP hU K hK
                    have hB : Below _ _ _ := hL
                    have e146 : ac.eval (.tmp 146) = sumV X2 := hP 4 (by kernel_rfl)
                    have e147 : ac.eval (.tmp 147) = sumV Y2 := hP 5 (by kernel_rfl)
                    have e145 : ac.eval (.tmp 145) = .bool true := hP 3 (by kernel_rfl)
                    exact rop_bin _ _ _ _ _ rfl e146 e147 (guard_run _ _ _ _ _ w') (eql_sum_tt X2 Y2 HX2l.out HY2l.out hXY w') (wanted_of (j := 3) (b := true) rfl rfl e145) (hK _ _ (le8_refl _) rfl)
                  · intro ac w' hF hL hP hU K hK
                    have hB : Below _ _ _ := hL
                    have e145 : ac.eval (.tmp 145) = .bool true := hP 3 (by kernel_rfl)
                    have e148 : ac.eval (.tmp 148) = .bool true := hP 6 (by kernel_rfl)
                    exact rop_pick _ _ _ rfl true e145 (by simpa using e148) (wanted_none rfl) (hK _ _ (le8_refl _) rfl)
                  · intro ac w' hF hB hT
                    have e149 : ac.eval (.tmp 149) = .bool true := hT 7 (by decide)
                    rw [hF.setsG [142, 143, 144, 145, 146, 147, 148, 149] (by kernel_rfl)]
                    simp only [List.foldl_cons, List.foldl_nil, List.setIfInBounds_toArray, List.set_cons_succ, List.set_cons_zero, e149]
                    generalize ac.eval (.tmp 142) = u142
                    generalize ac.eval (.tmp 143) = u143
                    generalize ac.eval (.tmp 144) = u144
                    generalize ac.eval (.tmp 145) = u145
                    generalize ac.eval (.tmp 146) = u146
                    generalize ac.eval (.tmp 147) = u147
                    generalize ac.eval (.tmp 148) = u148
                    clear e149 hT hF ac
                    have HF := Lib.hid (below_step HWB.out (Nat.le_refl _) hB)
                    clear hB hE hXY
                    go_wp2
                    go_ret
                    exact ⟨rfl, HF.out⟩
                · skip
                  try simp only [Act.put]
                  refine wp_region_tab0 [RT.is (.string E1), RT.is (.string E2), RT.is (.bool true), RT.is (.bool true), RT.is (sumV X2), RT.is (sumV Y2), RT.is (.bool false), RT.is (.bool false)] (by kernel_rfl) (by kernel_rfl) (by kernel_rfl) ⟨?_, ?_, ?_, ?_, ?_, ?_, ?_, ?_, trivial⟩ ?_
                  · intro ac w' hF hL hP hU K hK
                    have hB : Below _ _ _ := hL
                    have e18 : ac.eval (.tmp 18) = .string E1 := hF.at 18 (by kernel_rfl)
                    exact rop_move _ rfl e18 (wanted_none rfl) (hK _ _ (le8_refl _) rfl)
                  · intro ac w' hF hL hP hU K hK
                    have hB : Below _ _ _ := hL
                    have e19 : ac.eval (.tmp 19) = .string E2 := hF.at 19 (by kernel_rfl)
                    exact rop_move _ rfl e19 (wanted_none rfl) (hK _ _ (le8_refl _) rfl)
                  · intro ac w' hF hL hP hU K hK
                    have hB : Below _ _ _ := hL
                    have e142 : ac.eval (.tmp 142) = .string E1 := hP 0 (by kernel_rfl)
                    have e143 : ac.eval (.tmp 143) = .string E2 := hP 1 (by kernel_rfl)
                    exact rop_bin _ _ _ _ _ rfl e142 e143 (guard_str _ _ _ _ _ _ w') (neq_str_t E1 E2 hE w') (wanted_none rfl) (hK _ _ (le8_refl _) rfl)
                  · intro ac w' hF hL hP hU K hK
                    have hB : Below _ _ _ := hL
                    have e144 : ac.eval (.tmp 144) = .bool true := hP 2 (by kernel_rfl)
                    exact rop_move _ rfl e144 (wanted_none rfl) (hK _ _ (le8_refl _) rfl)
                  · intro ac w' hF hL hP hU K hK
                    have hB : Below _ _ _ := hL
                    have e15 : ac.eval (.tmp 15) = .pointer (some ⟨q15, 0, none⟩) := hF.at 15 (by kernel_rfl)
                    have e145 : ac.eval (.tmp 145) = .bool true := hP 3 (by kernel_rfl)
                    exact rop_ld _ _ rfl e15 (load_sumP HX2l.out (range_var (IsH.old Jq15.out hB))) (wanted_of (j := 3) (b := true) rfl rfl e145) (hK _ _ (le8_refl _) rfl)
                  · intro ac w' hF hL hP hU K hK
                    have hB : Below _ _ _ := hL
                    have e16 : ac.eval (.tmp 16) = .pointer (some ⟨q16, 0, none⟩) := hF.at 16 (by kernel_rfl)
                    have e145 : ac.eval (.tmp 145) = .bool true := hP 3 (by kernel_rfl)
                    exact rop_ld _ _ rfl e16 (load_sumP HY2l.out (range_var (IsH.old Jq16.out hB))) (wanted_of (j := 3) (b := true) rfl rfl e145) (hK _ _ (le8_refl _) rfl)
                  · intro ac w' hF hL hP hU K hK
                    have hB : Below _ _ _ := hL
                    have e146 : ac.eval (.tmp 146) = sumV X2 := hP 4 (by kernel_rfl)
                    have e147 : ac.eval (.tmp 147) = sumV Y2 := hP 5 (by kernel_rfl)
                    have e145 : ac.eval (.tmp 145) = .bool true := hP 3 (by kernel_rfl)
                    exact rop_bin _ _ _ _ _ rfl e146 e147 (guard_run _ _ _ _ _ w') (eql_sum_ff X2 Y2 HX2l.out HY2l.out hXY w') (wanted_of (j := 3) (b := true) rfl rfl e145) (hK _ _ (le8_refl _) rfl)
                  · intro ac w' hF hL hP hU K hK
                    have hB : Below _ _ _ := hL
                    have e145 : ac.eval (.tmp 145) = .bool true := hP 3 (by kernel_rfl)
                    have e148 : ac.eval (.tmp 148) = .bool false := hP 6 (by kernel_rfl)
                    exact rop_pick _ _ _ rfl true e145 (by simpa using e148) (wanted_none rfl) (hK _ _ (le8_refl _) rfl)
                  · intro ac w' hF hB hT
                    have e149 : ac.eval (.tmp 149) = .bool false := hT 7 (by decide)
                    rw [hF.setsG [142, 143, 144, 145, 146, 147, 148, 149] (by kernel_rfl)]
                    simp only [List.foldl_cons, List.foldl_nil, List.setIfInBounds_toArray, List.set_cons_succ, List.set_cons_zero, e149]
                    generalize ac.eval (.tmp 142) = u142
                    generalize ac.eval (.tmp 143) = u143
                    generalize ac.eval (.tmp 144) = u144
                    generalize ac.eval (.tmp 145) = u145
                    generalize ac.eval (.tmp 146) = u146
                    generalize ac.eval (.tmp 147) = u147
                    generalize ac.eval (.tmp 148) = u148
                    clear e149 hT hF ac
                    have HG := Lib.hid (HRL.out _ hB (.inr hXY))
                    clear hB hE hXY
                    go_wp2
                    exact ⟨by have := HG.out; simpa using this, by simp [intOf]; omega⟩
    · exfalso
      have h1 : A.drop i = [] := List.drop_eq_nil_of_le (by rw [HAl.out]; omega)
      have h2 : B.drop i = [] := List.drop_eq_nil_of_le (by rw [HBl.out]; omega)
      rw [h1, foldP_nil] at hfA
      rw [h2, foldP_nil] at hfB
      exact hne ⟨hfA.trans hfB.symm, by rw [h1, h2]⟩

set_option maxRecDepth 100000 in
theorem lifted (os : Os) (started : os.Started) (H : Type) (enc : TypeId × Value → H) :
    ReturnsInHanded {} Tryd.checked os 7 .any (fun w args => (Rows.proofOneSpec.pre enc Tryd.prog Tryd.f7 [] false w args ∧ laidMetH Tryd.prog [("scrinium/sha.k", Rows.laid_scrinium_sha_k)] w) ∧ sizedMet enc Tryd.prog Tryd.f7 (OpenSpec.ofChange Rows.proofOneSpec) false w args)
      (Rows.proofOneSpec.post enc Tryd.prog Tryd.f7 false true false false) := by
  refine returnsInHanded_of_change_and (C := Tryd.checked) (X := fun w _ => laidMetH Tryd.prog [("scrinium/sha.k", Rows.laid_scrinium_sha_k)] w) (fun _ _ _ hh h => h.of_heap hh) lawOwn started (by kernel_rfl) Tryd.func7
    (ChangeSpec.witness_shaped (enc := enc) (C := Tryd.checked) (os := os) (X := fun w _ => laidMetH Tryd.prog [("scrinium/sha.k", Rows.laid_scrinium_sha_k)] w) false (World.doorLaid Tryd.prog 400 os) #[.agg (sc [List.replicate 32 0, List.replicate 32 0]).toArray, .agg #[.int .i64 0, .int .i64 0], .agg #[.slice none 0 0, .slice none 0 0]] 8 rfl (World.shaped_of_RefB (by kernel_rfl) (by kernel_rfl)) (by kernel_rfl) (by kernel_rfl) (by kernel_rfl) (door_met os _)) ?_
  intro W base args ds gs before hval0 hW _ _ hL _
  have hval : ∀ (j : Nat) t v, Tryd.f7.params[j]? = some t → args[j]? = some v → Value.okWide Tryd.prog W .any base t v := hval0
  have hW' := hW
  obtain ⟨p, q, hA0, hV, rfl, hfz, hnd⟩ := hW
  have hA : DataW.TrodAll enc Tryd.prog W 0 (fun _ => true) true Tryd.f7.params.toList args.toList ds p := hA0
  rw [Tryd.params7] at hA hval
  obtain ⟨v0, vs0, d0, ds0, p0, q0, hargs, rfl, rfl, h0, r0⟩ := trodAll_cons hA
  obtain ⟨v1, vs1, d1, ds1, p1, q1, rfl, rfl, rfl, h1, r1⟩ := trodAll_cons r0
  obtain ⟨v2, vs2, d2, ds2, p2, q2, rfl, rfl, rfl, h2, r2⟩ := trodAll_cons r1
  obtain ⟨rfl, rfl, rfl⟩ := trodAll_nil r2
  obtain rfl : args = #[v0, v1, v2] := by cases args; simp_all
  obtain ⟨rfl, rfl⟩ := trodVars_none hV
  have hKT := KT_of_laid hL
  obtain ⟨l0, rfl, w0, u0⟩ := open_sumsN Tryd.underlying41 (by kernel_rfl) (hval 0 41 v0 rfl rfl) h0
  obtain ⟨x0a, x0b, rfl⟩ := len2P w0
  obtain ⟨z1, y1, rfl, w1, w1b⟩ := ints2_argP (hval 1 24 v1 rfl rfl) h1
  obtain ⟨ra2, rb2, la2, lb2, rfl, w2, u2⟩ := open_rows2 (hval 2 42 v2 rfl rfl) h2
  clear hA0 hval0
  refine (walk (w := W) hKT x0a x0b (u0 x0a (by simp)) (u0 x0b (by simp)) z1 y1 w1 w1b ra2 la2 w2 rb2 lb2 u2).mono fun e W' ⟨he, bel⟩ => ?_
  subst he
  exact ⟨_, rfl, law_post rfl rfl (by kernel_rfl) hW' rfl bel⟩

theorem row_holds : Rows.ProofOneSaid :=
  OpenClaim.holds_of_wide 7 Tryd.f7 rfl rfl rfl rfl rfl rfl rfl ⟨rfl, rfl, rfl, rfl, rfl⟩ rfl rfl rfl rfl rfl (by kernel_rfl) Tryd.func7 (by kernel_rfl)
    (of_decide_eq_true (by kernel_rfl)) (by unfold Func.isWrapper; first | (rw [if_pos (by decide +kernel)]; kernel_rfl) | (rw [if_neg (by decide +kernel)]; exact ⟨rfl, rfl⟩))
    (fun os started H enc _ => lifted os started H enc)

theorem holds : Rows.ProofOneCardSaid :=
  Claim7.holds_tied_plain_at .later [] [.data] true Rows.proofOneCard.stood.harness false
    row_holds (fun _ h => by cases h) (by kernel_rfl) (fun _ h => by cases h) proofOne_row_tie rfl ⟨rfl, rfl⟩ (by kernel_rfl) rfl
    (fun f fn hf hfn => by
      obtain rfl : f = 7 := Option.some.inj ((show Tryd.prog.funcNamed "scrinium/scriniumlaw12.ProofOne" = some 7 by kernel_rfl).symm.trans hf) |>.symm
      obtain rfl : fn = Tryd.f7 := (Option.some.inj (Tryd.func7.symm.trans hfn)).symm
      exact ⟨by kernel_rfl, fun j t ht => by
        rw [Tryd.params7] at ht
        have hm : t ∈ [41, 24, 42] := by simpa using Array.mem_of_getElem? ht
        have hall : ([41, 24, 42].all fun u => !Tryd.prog.wantsStandIn u) = true := by kernel_rfl
        exact (show Tryd.prog.wantsStandIn t = false by simpa using List.all_eq_true.1 hall t hm)⟩)
    (by kernel_rfl)
end Go.Proofs.YtjdhcncjcencbaaDoor.proofOne

theorem Go.Proofs.YtjdhcncjcencbaaDoor.proofOne_holds : Go.Proofs.YtjdhcncjcencbaaDoor.Rows.ProofOneCardSaid := Go.Proofs.YtjdhcncjcencbaaDoor.proofOne.holds
#print axioms Go.Proofs.YtjdhcncjcencbaaDoor.proofOne_holds
