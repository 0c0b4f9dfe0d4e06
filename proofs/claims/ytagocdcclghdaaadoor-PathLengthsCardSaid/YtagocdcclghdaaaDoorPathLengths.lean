/-
  PathLengths: lengths and sides are as the document says them. For any two numbers; the numbers K of the package sha are as the program's own start lays them.
-/
import Derived.Test.YtagocdcclghdaaaDoorPathLaw
namespace Go.Proofs.YtagocdcclghdaaaDoor.pathLengths
open Go.ChangeShapes Go.WideShapes Go.ChangeAt Go.RowKit

set_option maxHeartbeats 4000000 in
set_option maxRecDepth 100000 in
theorem walk {w : World} (hK : KT w) (m : Int) (_ : -9223372036854775808 ≤ m) (m0 : m ≤ 9223372036854775807) (n : Int) (_ : -9223372036854775808 ≤ n) (m1 : n ≤ 9223372036854775807) :
    Calls Tryd.prog 4 #[.int .i64 m, .int .i64 n] w fun e w' => e = .returned (.bool true) ∧ Below w.heap.size w w' := by
  have HAW := Lib.hid (awake10_any w hK)
  obtain ⟨T, hT⟩ : ∃ T, T = turnsZ m n := ⟨_, rfl⟩
  obtain ⟨k, hk⟩ : ∃ k, k = T.length := ⟨_, rfl⟩
  have hk40 : k ≤ 40 := by rw [hk, hT]; exact turnsZ_len m n
  obtain ⟨X, hX⟩ : ∃ X : Int, X = if okP m n then ((Tree.long m.toNat n.toNat : Nat) : Int) else -1 := ⟨_, rfl⟩
  obtain ⟨Y, hY⟩ : ∃ Y : Int, Y = if okL m n then ((Tree.llong m.toNat n.toNat true : Nat) : Int) else -1 := ⟨_, rfl⟩
  have HT1 : Hid (∀ u, Calls Tryd.prog 16 #[.int .i64 m, .int .i64 n] u fun e w' => ∃ b c, e = .returned (.slice b k c) ∧ Bools w' (.slice b k c) T ∧ Below u.heap.size u w') := Lib.hid fun u => by
    have := turns_any m n u m0 m1
    rw [← hT] at this
    refine this.mono fun e w' ⟨v', he, ho, hb⟩ => ?_
    obtain ⟨b, c, rfl, -, -⟩ := ho.bools.slice
    have hs := ho.bools
    rw [← hk] at he hs
    exact ⟨b, c, he, hs, hb⟩
  have HT2 : Hid (∀ u, Calls Tryd.prog 17 #[.int .i64 m, .int .i64 n] u fun e w' => ∃ b c, e = .returned (.slice b k c) ∧ Bools w' (.slice b k c) T ∧ Below u.heap.size u w') := Lib.hid fun u => by
    have := rturns_any m n u m0 m1
    rw [← hT] at this
    refine this.mono fun e w' ⟨v', he, ho, hb⟩ => ?_
    obtain ⟨b, c, rfl, -, -⟩ := ho.bools.slice
    have hs := ho.bools
    rw [← hk] at he hs
    exact ⟨b, c, he, hs, hb⟩
  have HL1 : Hid (∀ u, Calls Tryd.prog 18 #[.int .i64 m, .int .i64 n] u fun e w' => e = .returned (.int .i64 X) ∧ Below u.heap.size u w') := Lib.hid fun u => by
    have := long_any m n u m0 m1
    rw [← hX] at this
    exact this.mono fun e w' ⟨he, hw⟩ => ⟨he, hw ▸ Below.refl _ _⟩
  have HL2 : Hid (∀ u, Calls Tryd.prog 19 #[.int .i64 m, .int .i64 n] u fun e w' => e = .returned (.int .i64 X) ∧ Below u.heap.size u w') := Lib.hid fun u => by
    have := rlong_any m n u m0 m1
    rw [← hX] at this
    exact this
  have HL3 : Hid (∀ u, Calls Tryd.prog 20 #[.int .i64 m, .int .i64 n] u fun e w' => e = .returned (.int .i64 Y) ∧ Below u.heap.size u w') := Lib.hid fun u => by
    have := linksLong_any m n u m0 m1
    rw [← hY] at this
    exact this.mono fun e w' ⟨he, hw⟩ => ⟨he, hw ▸ Below.refl _ _⟩
  have HL4 : Hid (∀ u, Calls Tryd.prog 21 #[.int .i64 m, .int .i64 n] u fun e w' => e = .returned (.int .i64 Y) ∧ Below u.heap.size u w') := Lib.hid fun u => by
    have := rlinksLong_any m n u m0 m1
    rw [← hY] at this
    exact this.mono fun e w' ⟨he, hw⟩ => ⟨he, by first | exact hw | exact hw ▸ Below.refl _ _⟩
  have Hk := Lib.hid hk
  clear hX hY hT hk m0 m1
  go_enter Tryd.func4, Tryd.ntmps4
  go_upto_region 4 with (first
    | (go_at_call 9; ((with_reducible refine HAW.out.mono ?_); rintro e w1 ⟨rfl, b1⟩))
    | (go_at_call 16; ((with_reducible refine (HT1.out _).mono ?_); rintro e w2 ⟨aa, ca, rfl, hsa, b2⟩; have HSA := Lib.hid hsa; clear hsa))
    | (go_at_call 17; ((with_reducible refine (HT2.out _).mono ?_); rintro e w3 ⟨ab, cb, rfl, hsb, b3⟩; have HSB := Lib.hid hsb; clear hsb)))
  try simp only [Act.put]
  refine wp_region_tab0 [RT.is (.slice aa k ca), RT.is (.int .i64 (k : Int)), RT.is (.slice ab k cb), RT.is (.int .i64 (k : Int)), RT.is (.bool false), RT.is (.bool false), RT.is (.int .i64 m), RT.is (.int .i64 n), RT.is (.int .i64 X), RT.is (.int .i64 m), RT.is (.int .i64 n), RT.is (.int .i64 X), RT.is (.bool false), RT.is (.bool false), RT.is (.bool false), RT.is (.int .i64 m), RT.is (.int .i64 n), RT.is (.int .i64 Y), RT.is (.int .i64 m), RT.is (.int .i64 n), RT.is (.int .i64 Y), RT.is (.bool false), RT.is (.bool false)] (by kernel_rfl) (by kernel_rfl) (by kernel_rfl) ⟨?_, ?_, ?_, ?_, ?_, ?_, ?_, ?_, ?_, ?_, ?_, ?_, ?_, ?_, ?_, ?_, ?_, ?_, ?_, ?_, ?_, ?_, ?_, trivial⟩ ?_
  · intro ac w' hF hL hP hU K hK
    have hB : Below _ _ _ := hL
    have e6 : ac.eval (.tmp 6) = .slice aa k ca := hF.at 6 (by kernel_rfl)
    exact rop_move _ rfl e6 (wanted_none rfl) (hK _ _ (le8_refl _) rfl)
  · intro ac w' hF hL hP hU K hK
    have hB : Below _ _ _ := hL
    have e16 : ac.eval (.tmp 16) = .slice aa k ca := hP 0 (by kernel_rfl)
    exact rop_lenG _ Tryd.underlying29 rfl e16 (wanted_none rfl) (hK _ _ (le8_refl _) rfl)
  · intro ac w' hF hL hP hU K hK
    have hB : Below _ _ _ := hL
    have e7 : ac.eval (.tmp 7) = .slice ab k cb := hF.at 7 (by kernel_rfl)
    exact rop_move _ rfl e7 (wanted_none rfl) (hK _ _ (le8_refl _) rfl)
  · intro ac w' hF hL hP hU K hK
    have hB : Below _ _ _ := hL
    have e18 : ac.eval (.tmp 18) = .slice ab k cb := hP 2 (by kernel_rfl)
    exact rop_lenG _ Tryd.underlying29 rfl e18 (wanted_none rfl) (hK _ _ (le8_refl _) rfl)
  · intro ac w' hF hL hP hU K hK
    have hB : Below _ _ _ := hL
    have e17 : ac.eval (.tmp 17) = .int .i64 (k : Int) := hP 1 (by kernel_rfl)
    have e19 : ac.eval (.tmp 19) = .int .i64 (k : Int) := hP 3 (by kernel_rfl)
    exact rop_bin _ _ _ _ _ rfl e17 e19 (guard_int _ _ _ _ _ _ _ w') (neq_iG _ _ _ (by simp) w') (wanted_none rfl) (hK _ _ (le8_refl _) rfl)
  · intro ac w' hF hL hP hU K hK
    have hB : Below _ _ _ := hL
    have e20 : ac.eval (.tmp 20) = .bool false := hP 4 (by kernel_rfl)
    exact rop_move _ rfl e20 (wanted_none rfl) (hK _ _ (le8_refl _) rfl)
  · intro ac w' hF hL hP hU K hK
    have hB : Below _ _ _ := hL
    have e0 : ac.eval (.tmp 0) = .int .i64 m := hF.at 0 (by kernel_rfl)
    have e21 : ac.eval (.tmp 21) = .bool false := hP 5 (by kernel_rfl)
    exact rop_move _ rfl e0 (wanted_of (j := 5) (b := false) rfl rfl e21) (hK _ _ (le8_refl _) rfl)
  · intro ac w' hF hL hP hU K hK
    have hB : Below _ _ _ := hL
    have e1 : ac.eval (.tmp 1) = .int .i64 n := hF.at 1 (by kernel_rfl)
    have e21 : ac.eval (.tmp 21) = .bool false := hP 5 (by kernel_rfl)
    exact rop_move _ rfl e1 (wanted_of (j := 5) (b := false) rfl rfl e21) (hK _ _ (le8_refl _) rfl)
  · intro ac w' hF hL hP hU K hK
    have hB : Below _ _ _ := hL
    have e22 : ac.eval (.tmp 22) = .int .i64 m := hP 6 (by kernel_rfl)
    have e23 : ac.eval (.tmp 23) = .int .i64 n := hP 7 (by kernel_rfl)
    have e21 : ac.eval (.tmp 21) = .bool false := hP 5 (by kernel_rfl)
    refine rop_call 18 _ _ rfl #[.int .i64 m, .int .i64 n] (by simp [e22, e23]) (by kernel_rfl) (wanted_of (j := 5) (b := false) rfl rfl e21) ?_
    refine (HL1.out w').mono ?_
    rintro e w2 ⟨rfl, hb⟩
    exact ⟨_, rfl, hK _ _ hb rfl⟩
  · intro ac w' hF hL hP hU K hK
    have hB : Below _ _ _ := hL
    have e0 : ac.eval (.tmp 0) = .int .i64 m := hF.at 0 (by kernel_rfl)
    have e21 : ac.eval (.tmp 21) = .bool false := hP 5 (by kernel_rfl)
    exact rop_move _ rfl e0 (wanted_of (j := 5) (b := false) rfl rfl e21) (hK _ _ (le8_refl _) rfl)
  · intro ac w' hF hL hP hU K hK
    have hB : Below _ _ _ := hL
    have e1 : ac.eval (.tmp 1) = .int .i64 n := hF.at 1 (by kernel_rfl)
    have e21 : ac.eval (.tmp 21) = .bool false := hP 5 (by kernel_rfl)
    exact rop_move _ rfl e1 (wanted_of (j := 5) (b := false) rfl rfl e21) (hK _ _ (le8_refl _) rfl)
  · intro ac w' hF hL hP hU K hK
    have hB : Below _ _ _ := hL
    have e25 : ac.eval (.tmp 25) = .int .i64 m := hP 9 (by kernel_rfl)
    have e26 : ac.eval (.tmp 26) = .int .i64 n := hP 10 (by kernel_rfl)
    have e21 : ac.eval (.tmp 21) = .bool false := hP 5 (by kernel_rfl)
    refine rop_call 19 _ _ rfl #[.int .i64 m, .int .i64 n] (by simp [e25, e26]) (by kernel_rfl) (wanted_of (j := 5) (b := false) rfl rfl e21) ?_
    refine (HL2.out w').mono ?_
    rintro e w2 ⟨rfl, hb⟩
    exact ⟨_, rfl, hK _ _ hb rfl⟩
  · intro ac w' hF hL hP hU K hK
    have hB : Below _ _ _ := hL
    have e24 : ac.eval (.tmp 24) = .int .i64 X := hP 8 (by kernel_rfl)
    have e27 : ac.eval (.tmp 27) = .int .i64 X := hP 11 (by kernel_rfl)
    have e21 : ac.eval (.tmp 21) = .bool false := hP 5 (by kernel_rfl)
    exact rop_bin _ _ _ _ _ rfl e24 e27 (guard_int _ _ _ _ _ _ _ w') (neq_iG _ _ _ (by simp) w') (wanted_of (j := 5) (b := false) rfl rfl e21) (hK _ _ (le8_refl _) rfl)
  · intro ac w' hF hL hP hU K hK
    have hB : Below _ _ _ := hL
    have e21 : ac.eval (.tmp 21) = .bool false := hP 5 (by kernel_rfl)
    have e28 : ac.eval (.tmp 28) = .bool false := hP 12 (by kernel_rfl)
    exact rop_pick _ _ _ rfl false e21 (by simpa using e28) (wanted_none rfl) (hK _ _ (le8_refl _) rfl)
  · intro ac w' hF hL hP hU K hK
    have hB : Below _ _ _ := hL
    have e29 : ac.eval (.tmp 29) = .bool false := hP 13 (by kernel_rfl)
    exact rop_move _ rfl e29 (wanted_none rfl) (hK _ _ (le8_refl _) rfl)
  · intro ac w' hF hL hP hU K hK
    have hB : Below _ _ _ := hL
    have e0 : ac.eval (.tmp 0) = .int .i64 m := hF.at 0 (by kernel_rfl)
    have e30 : ac.eval (.tmp 30) = .bool false := hP 14 (by kernel_rfl)
    exact rop_move _ rfl e0 (wanted_of (j := 14) (b := false) rfl rfl e30) (hK _ _ (le8_refl _) rfl)
  · intro ac w' hF hL hP hU K hK
    have hB : Below _ _ _ := hL
    have e1 : ac.eval (.tmp 1) = .int .i64 n := hF.at 1 (by kernel_rfl)
    have e30 : ac.eval (.tmp 30) = .bool false := hP 14 (by kernel_rfl)
    exact rop_move _ rfl e1 (wanted_of (j := 14) (b := false) rfl rfl e30) (hK _ _ (le8_refl _) rfl)
  · intro ac w' hF hL hP hU K hK
    have hB : Below _ _ _ := hL
    have e31 : ac.eval (.tmp 31) = .int .i64 m := hP 15 (by kernel_rfl)
    have e32 : ac.eval (.tmp 32) = .int .i64 n := hP 16 (by kernel_rfl)
    have e30 : ac.eval (.tmp 30) = .bool false := hP 14 (by kernel_rfl)
    refine rop_call 20 _ _ rfl #[.int .i64 m, .int .i64 n] (by simp [e31, e32]) (by kernel_rfl) (wanted_of (j := 14) (b := false) rfl rfl e30) ?_
    refine (HL3.out w').mono ?_
    rintro e w2 ⟨rfl, hb⟩
    exact ⟨_, rfl, hK _ _ hb rfl⟩
  · intro ac w' hF hL hP hU K hK
    have hB : Below _ _ _ := hL
    have e0 : ac.eval (.tmp 0) = .int .i64 m := hF.at 0 (by kernel_rfl)
    have e30 : ac.eval (.tmp 30) = .bool false := hP 14 (by kernel_rfl)
    exact rop_move _ rfl e0 (wanted_of (j := 14) (b := false) rfl rfl e30) (hK _ _ (le8_refl _) rfl)
  · intro ac w' hF hL hP hU K hK
    have hB : Below _ _ _ := hL
    have e1 : ac.eval (.tmp 1) = .int .i64 n := hF.at 1 (by kernel_rfl)
    have e30 : ac.eval (.tmp 30) = .bool false := hP 14 (by kernel_rfl)
    exact rop_move _ rfl e1 (wanted_of (j := 14) (b := false) rfl rfl e30) (hK _ _ (le8_refl _) rfl)
  · intro ac w' hF hL hP hU K hK
    have hB : Below _ _ _ := hL
    have e34 : ac.eval (.tmp 34) = .int .i64 m := hP 18 (by kernel_rfl)
    have e35 : ac.eval (.tmp 35) = .int .i64 n := hP 19 (by kernel_rfl)
    have e30 : ac.eval (.tmp 30) = .bool false := hP 14 (by kernel_rfl)
    refine rop_call 21 _ _ rfl #[.int .i64 m, .int .i64 n] (by simp [e34, e35]) (by kernel_rfl) (wanted_of (j := 14) (b := false) rfl rfl e30) ?_
    refine (HL4.out w').mono ?_
    rintro e w2 ⟨rfl, hb⟩
    exact ⟨_, rfl, hK _ _ hb rfl⟩
  · intro ac w' hF hL hP hU K hK
    have hB : Below _ _ _ := hL
    have e33 : ac.eval (.tmp 33) = .int .i64 Y := hP 17 (by kernel_rfl)
    have e36 : ac.eval (.tmp 36) = .int .i64 Y := hP 20 (by kernel_rfl)
    have e30 : ac.eval (.tmp 30) = .bool false := hP 14 (by kernel_rfl)
    exact rop_bin _ _ _ _ _ rfl e33 e36 (guard_int _ _ _ _ _ _ _ w') (neq_iG _ _ _ (by simp) w') (wanted_of (j := 14) (b := false) rfl rfl e30) (hK _ _ (le8_refl _) rfl)
  · intro ac w' hF hL hP hU K hK
    have hB : Below _ _ _ := hL
    have e30 : ac.eval (.tmp 30) = .bool false := hP 14 (by kernel_rfl)
    have e37 : ac.eval (.tmp 37) = .bool false := hP 21 (by kernel_rfl)
    exact rop_pick _ _ _ rfl false e30 (by simpa using e37) (wanted_none rfl) (hK _ _ (le8_refl _) rfl)
  · intro ac w' hF hB hT
    have e38 : ac.eval (.tmp 38) = .bool false := hT 22 (by decide)
    rw [hF.setsG [16, 17, 18, 19, 20, 21, 22, 23, 24, 25, 26, 27, 28, 29, 30, 31, 32, 33, 34, 35, 36, 37, 38] (by kernel_rfl)]
    simp only [List.foldl_cons, List.foldl_nil, List.setIfInBounds_toArray, List.set_cons_succ, List.set_cons_zero, e38]
    generalize ac.eval (.tmp 16) = u16
    generalize ac.eval (.tmp 17) = u17
    generalize ac.eval (.tmp 18) = u18
    generalize ac.eval (.tmp 19) = u19
    generalize ac.eval (.tmp 20) = u20
    generalize ac.eval (.tmp 21) = u21
    generalize ac.eval (.tmp 22) = u22
    generalize ac.eval (.tmp 23) = u23
    generalize ac.eval (.tmp 24) = u24
    generalize ac.eval (.tmp 25) = u25
    generalize ac.eval (.tmp 26) = u26
    generalize ac.eval (.tmp 27) = u27
    generalize ac.eval (.tmp 28) = u28
    generalize ac.eval (.tmp 29) = u29
    generalize ac.eval (.tmp 30) = u30
    generalize ac.eval (.tmp 31) = u31
    generalize ac.eval (.tmp 32) = u32
    generalize ac.eval (.tmp 33) = u33
    generalize ac.eval (.tmp 34) = u34
    generalize ac.eval (.tmp 35) = u35
    generalize ac.eval (.tmp 36) = u36
    generalize ac.eval (.tmp 37) = u37
    clear e38 hT hF ac
    obtain ⟨W, hW⟩ : ∃ W, W = w' := ⟨_, rfl⟩
    subst hW
    have bz := below_step (below_step (below_step b1 (Nat.le_refl _) b2) (Nat.le_refl _) b3) (Nat.le_refl _) hB
    have b2W := below_step b3 (Nat.le_refl _) hB
    have b3W := hB
    clear hB
    go_wp2
    go_loopw [8] (fun s8 wr => Below W.heap.size W wr ∧ ∃ i : Nat, s8 = .int .i64 (i : Int) ∧ i ≤ k) (fun s8 _ => k - (intOf s8).toNat)
    case atStart => exact ⟨Below.refl _ _, 0, rfl, by omega⟩
    case round =>
      obtain ⟨hWr, i, rfl, hi⟩ := hrel
      by_cases hik : i < k
      · have hik' : (i : Int) < (k : Int) := by omega
        obtain ⟨tb, htb⟩ : ∃ tb, T[i]? = some tb := ⟨_, List.getElem?_eq_getElem (by rw [← Hk.out]; exact hik)⟩
        obtain ⟨pa, oa, rfl, hpa, -, hca⟩ := ((HSA.out.old b2W).old hWr).at htb
        obtain ⟨pb, ob, rfl, hpb, -, hcb⟩ := ((HSB.out.old b3W).old hWr).at htb
        clear htb
        go_upto_region 9 with (fail)
        try simp only [Act.put]
        refine wp_region_tab [RT.is (.slice (some ⟨pa, oa, none⟩) k ca), RT.is (.int .i64 (i : Int)), RT.is (.pointer (some ⟨pa, oa + i, none⟩)), RT.is (.bool tb), RT.is (.slice (some ⟨pb, ob, none⟩) k cb), RT.is (.int .i64 (i : Int)), RT.is (.pointer (some ⟨pb, ob + i, none⟩)), RT.is (.bool tb), RT.is (.bool false)] (by kernel_rfl) (by kernel_rfl) (by kernel_rfl) (by kernel_rfl) ⟨?_, ?_, ?_, ?_, ?_, ?_, ?_, ?_, ?_, trivial⟩ ?_
        · intro ac w' hF hL hP hU K hK
          have hB := below_undrew hL
          have e6 : ac.eval (.tmp 6) = .slice (some ⟨pa, oa, none⟩) k ca := hF.at 6 (by kernel_rfl)
          exact rop_move _ rfl e6 (wanted_none rfl) (hK _ _ (le8_refl _) rfl)
        · intro ac w' hF hL hP hU K hK
          have hB := below_undrew hL
          have e8 : ac.eval (.tmp 8) = .int .i64 (i : Int) := hF.at 8 (by kernel_rfl)
          exact rop_move _ rfl e8 (wanted_none rfl) (hK _ _ (le8_refl _) rfl)
        · intro ac w' hF hL hP hU K hK
          have hB := below_undrew hL
          have e45 : ac.eval (.tmp 45) = .slice (some ⟨pa, oa, none⟩) k ca := hP 0 (by kernel_rfl)
          have e46 : ac.eval (.tmp 46) = .int .i64 (i : Int) := hP 1 (by kernel_rfl)
          exact rop_idx _ _ _ rfl e45 e46 (index_bools pa oa k ca i _ rfl hik w') (wanted_none rfl) (hK _ _ (le8_refl _) rfl)
        · intro ac w' hF hL hP hU K hK
          have hB := below_undrew hL
          have e47 : ac.eval (.tmp 47) = .pointer (some ⟨pa, oa + i, none⟩) := hP 2 (by kernel_rfl)
          exact rop_ld _ _ rfl e47 (load_boolP ((hB.cell (p := ⟨pa, oa + i, none⟩) hpa).trans hca)) (wanted_none rfl) (hK _ _ (le8_refl _) rfl)
        · intro ac w' hF hL hP hU K hK
          have hB := below_undrew hL
          have e7 : ac.eval (.tmp 7) = .slice (some ⟨pb, ob, none⟩) k cb := hF.at 7 (by kernel_rfl)
          exact rop_move _ rfl e7 (wanted_none rfl) (hK _ _ (le8_refl _) rfl)
        · intro ac w' hF hL hP hU K hK
          have hB := below_undrew hL
          have e8 : ac.eval (.tmp 8) = .int .i64 (i : Int) := hF.at 8 (by kernel_rfl)
          exact rop_move _ rfl e8 (wanted_none rfl) (hK _ _ (le8_refl _) rfl)
        · intro ac w' hF hL hP hU K hK
          have hB := below_undrew hL
          have e49 : ac.eval (.tmp 49) = .slice (some ⟨pb, ob, none⟩) k cb := hP 4 (by kernel_rfl)
          have e50 : ac.eval (.tmp 50) = .int .i64 (i : Int) := hP 5 (by kernel_rfl)
          exact rop_idx _ _ _ rfl e49 e50 (index_bools pb ob k cb i _ rfl hik w') (wanted_none rfl) (hK _ _ (le8_refl _) rfl)
        · intro ac w' hF hL hP hU K hK
          have hB := below_undrew hL
          have e51 : ac.eval (.tmp 51) = .pointer (some ⟨pb, ob + i, none⟩) := hP 6 (by kernel_rfl)
          exact rop_ld _ _ rfl e51 (load_boolP ((hB.cell (p := ⟨pb, ob + i, none⟩) hpb).trans hcb)) (wanted_none rfl) (hK _ _ (le8_refl _) rfl)
        · intro ac w' hF hL hP hU K hK
          have hB := below_undrew hL
          have e48 : ac.eval (.tmp 48) = .bool tb := hP 3 (by kernel_rfl)
          have e52 : ac.eval (.tmp 52) = .bool tb := hP 7 (by kernel_rfl)
          exact rop_bin _ _ _ _ _ rfl e48 e52 (guard_bool _ _ _ _ _ _ w') (neq_bool_same tb w') (wanted_none rfl) (hK _ _ (le8_refl _) rfl)
        · intro ac w' hF hB hT
          have e53 : ac.eval (.tmp 53) = .bool false := hT 8 (by decide)
          rw [hF.setsG [45, 46, 47, 48, 49, 50, 51, 52, 53] (by kernel_rfl)]
          simp only [List.foldl_cons, List.foldl_nil, List.setIfInBounds_toArray, List.set_cons_succ, List.set_cons_zero, e53]
          generalize ac.eval (.tmp 45) = u45
          generalize ac.eval (.tmp 46) = u46
          generalize ac.eval (.tmp 47) = u47
          generalize ac.eval (.tmp 48) = u48
          generalize ac.eval (.tmp 49) = u49
          generalize ac.eval (.tmp 50) = u50
          generalize ac.eval (.tmp 51) = u51
          generalize ac.eval (.tmp 52) = u52
          clear e53 hT hF ac
          have hWn := below_step hWr (Nat.le_refl _) hB
          clear hB hca hcb hpa hpb
          go_wp2
          exact ⟨⟨hWn, i + 1, by simp, by omega⟩, by simp [intOf]; omega⟩
      · have hik' : ¬ (i : Int) < (k : Int) := by omega
        go_wp2
        go_ret
        exact ⟨rfl, below_step bz (Nat.le_refl _) hWr⟩

set_option maxRecDepth 100000 in
theorem lifted (os : Os) (started : os.Started) (H : Type) (enc : TypeId × Value → H) :
    ReturnsInHanded {} Tryd.checked os 4 .any (fun w args => (Rows.pathLengthsSpec.pre enc Tryd.prog Tryd.f4 [] false w args ∧ laidMetH Tryd.prog [("scrinium/sha.k", Rows.laid_scrinium_sha_k)] w) ∧ sizedMet enc Tryd.prog Tryd.f4 (OpenSpec.ofChange Rows.pathLengthsSpec) false w args)
      (Rows.pathLengthsSpec.post enc Tryd.prog Tryd.f4 false true false false) := by
  refine returnsInHanded_of_change_and (C := Tryd.checked) (X := fun w _ => laidMetH Tryd.prog [("scrinium/sha.k", Rows.laid_scrinium_sha_k)] w) (fun _ _ _ hh h => h.of_heap hh) lawOwn started (by kernel_rfl) Tryd.func4
    (ChangeSpec.witness_shaped (enc := enc) (C := Tryd.checked) (os := os) (X := fun w _ => laidMetH Tryd.prog [("scrinium/sha.k", Rows.laid_scrinium_sha_k)] w) false (World.doorLaid Tryd.prog 400 os) #[.int .i64 0, .int .i64 0] 8 rfl (World.shaped_of_RefB (by kernel_rfl) (by kernel_rfl)) (by kernel_rfl) (by kernel_rfl) (by kernel_rfl) (door_met os _)) ?_
  intro W base args ds gs before hval0 hW _ _ hL _
  have hval : ∀ (j : Nat) t v, Tryd.f4.params[j]? = some t → args[j]? = some v → Value.okWide Tryd.prog W .any base t v := hval0
  have hW' := hW
  obtain ⟨p, q, hA0, hV, rfl, hfz, hnd⟩ := hW
  have hA : DataW.TrodAll enc Tryd.prog W 0 (fun _ => true) true Tryd.f4.params.toList args.toList ds p := hA0
  rw [Tryd.params4] at hA hval
  obtain ⟨v0, vs0, d0, ds0, p0, q0, hargs, rfl, rfl, h0, r0⟩ := trodAll_cons hA
  obtain ⟨v1, vs1, d1, ds1, p1, q1, rfl, rfl, rfl, h1, r1⟩ := trodAll_cons r0
  obtain ⟨rfl, rfl, rfl⟩ := trodAll_nil r1
  obtain rfl : args = #[v0, v1] := by cases args; simp_all
  obtain ⟨rfl, rfl⟩ := trodVars_none hV
  have hKT := KT_of_laid hL
  obtain ⟨a0, rfl, rfl, rfl, w0⟩ := open_int Tryd.underlying3 (hval 0 3 v0 rfl rfl) h0
  obtain ⟨a1, rfl, rfl, rfl, w1⟩ := open_int Tryd.underlying3 (hval 1 3 v1 rfl rfl) h1
  clear hA0 hval0
  obtain ⟨l0, m0⟩ := i64_bounds w0
  obtain ⟨l1, m1⟩ := i64_bounds w1
  refine (walk (w := W) hKT a0 l0 m0 a1 l1 m1).mono fun e W' ⟨he, bel⟩ => ?_
  subst he
  exact ⟨_, rfl, law_post rfl rfl (by kernel_rfl) hW' rfl bel⟩

theorem row_holds : Rows.PathLengthsSaid :=
  OpenClaim.holds_of_wide 4 Tryd.f4 rfl rfl rfl rfl rfl rfl rfl ⟨rfl, rfl, rfl, rfl, rfl⟩ rfl rfl rfl rfl rfl (by kernel_rfl) Tryd.func4 (by kernel_rfl)
    (of_decide_eq_true (by kernel_rfl)) (by unfold Func.isWrapper; first | (rw [if_pos (by decide +kernel)]; kernel_rfl) | (rw [if_neg (by decide +kernel)]; exact ⟨rfl, rfl⟩))
    (fun os started H enc _ => lifted os started H enc)

theorem holds : Rows.PathLengthsCardSaid :=
  Claim7.holds_tied_plain_at .later [] [.data] true Rows.pathLengthsCard.stood.harness false
    row_holds (fun _ h => by cases h) (by kernel_rfl) (fun _ h => by cases h) pathLengths_row_tie rfl ⟨rfl, rfl⟩ (by kernel_rfl) rfl
    (fun f fn hf hfn => by
      obtain rfl : f = 4 := Option.some.inj ((show Tryd.prog.funcNamed "scrinium/scriniumlaw10.PathLengths" = some 4 by kernel_rfl).symm.trans hf) |>.symm
      obtain rfl : fn = Tryd.f4 := (Option.some.inj (Tryd.func4.symm.trans hfn)).symm
      exact ⟨by kernel_rfl, fun j t ht => by
        rw [Tryd.params4] at ht
        have hm : t ∈ [3, 3] := by simpa using Array.mem_of_getElem? ht
        have hall : ([3, 3].all fun u => !Tryd.prog.wantsStandIn u) = true := by kernel_rfl
        exact (show Tryd.prog.wantsStandIn t = false by simpa using List.all_eq_true.1 hall t hm)⟩)
    (by kernel_rfl)
end Go.Proofs.YtagocdcclghdaaaDoor.pathLengths

theorem Go.Proofs.YtagocdcclghdaaaDoor.pathLengths_holds : Go.Proofs.YtagocdcclghdaaaDoor.Rows.PathLengthsCardSaid := Go.Proofs.YtagocdcclghdaaaDoor.pathLengths.holds
#print axioms Go.Proofs.YtagocdcclghdaaaDoor.pathLengths_holds
