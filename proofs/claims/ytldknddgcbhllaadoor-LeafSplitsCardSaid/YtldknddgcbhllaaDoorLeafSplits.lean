/-
  LeafSplits: the part that is split off is a power of two, less than all, and at least half; of numbers below 2 it is 0. For every number; the numbers K of the package sha are as the program's own start lays them.
-/
import Derived.Test.YtldknddgcbhllaaDoorLeafLaw
namespace Go.Proofs.YtldknddgcbhllaaDoor.leafSplits
open Go.ChangeShapes Go.WideShapes Go.ChangeAt Go.RowKit

set_option maxHeartbeats 2000000 in
set_option maxRecDepth 100000 in
theorem walk {w : World} (hK : KT w) (a : Int) (l0 : -9223372036854775808 ≤ a) (m0 : a ≤ 9223372036854775807) :
    Calls Tryd.prog 7 #[.int .i64 a] w fun e w' => e = .returned (.bool true) ∧ Below w.heap.size w w' := by
  have HAW := Lib.hid (awake9_any w hK)
  by_cases h : a < 2
  · have HSP : Hid (∀ u : World, Calls Tryd.prog 18 #[.int .i64 a] u fun e w' => e = .returned (.int .i64 0) ∧ Below u.heap.size u w') := Lib.hid fun u => (leafSplit_any a m0 u).mono fun e w' ⟨h1, h2⟩ => ⟨by rw [h1, Tree.split_small (by omega)]; rfl, h2 ▸ Below.refl _ _⟩
    go_enter Tryd.func7, Tryd.ntmps7
    go_upto_region 3 with (go_at_call 10; ((with_reducible refine HAW.out.mono ?_); rintro e w1 ⟨rfl, b1⟩))
    try simp only [Act.put]
    refine wp_region_tab0 [RT.is (.bool true), RT.is (.bool true), RT.is (.int .i64 a), RT.is (.int .i64 0), RT.is (.bool true), RT.is (.bool true), RT.is (.bool true)] (by kernel_rfl) (by kernel_rfl) (by kernel_rfl) ⟨?_, ?_, ?_, ?_, ?_, ?_, ?_, trivial⟩ ?_
    · intro ac w' hF hL hP hU K hK
      have hB : Below _ _ _ := hL
      have e3 : ac.eval (.tmp 3) = .bool true := hF.at 3 (by kernel_rfl)
      exact rop_move _ rfl e3 (wanted_none rfl) (hK _ _ (le8_refl _) rfl)
    · intro ac w' hF hL hP hU K hK
      have hB : Below _ _ _ := hL
      have e8 : ac.eval (.tmp 8) = .bool true := hP 0 (by kernel_rfl)
      exact rop_move _ rfl e8 (wanted_none rfl) (hK _ _ (le8_refl _) rfl)
    · intro ac w' hF hL hP hU K hK
      have hB : Below _ _ _ := hL
      have e0 : ac.eval (.tmp 0) = .int .i64 a := hF.at 0 (by kernel_rfl)
      have e9 : ac.eval (.tmp 9) = .bool true := hP 1 (by kernel_rfl)
      exact rop_move _ rfl e0 (wanted_of (j := 1) (b := true) rfl rfl e9) (hK _ _ (le8_refl _) rfl)
    · intro ac w' hF hL hP hU K hK
      have hB : Below _ _ _ := hL
      have e10 : ac.eval (.tmp 10) = .int .i64 a := hP 2 (by kernel_rfl)
      have e9 : ac.eval (.tmp 9) = .bool true := hP 1 (by kernel_rfl)
      refine rop_call 18 _ _ rfl #[.int .i64 a] (by simp [e10]) (by kernel_rfl) (wanted_of (j := 1) (b := true) rfl rfl e9) ?_
      refine (HSP.out w').mono ?_
      rintro e w2 ⟨rfl, hb⟩
      exact ⟨_, rfl, hK _ _ hb rfl⟩
    · intro ac w' hF hL hP hU K hK
      have hB : Below _ _ _ := hL
      have e11 : ac.eval (.tmp 11) = .int .i64 0 := hP 3 (by kernel_rfl)
      have e9 : ac.eval (.tmp 9) = .bool true := hP 1 (by kernel_rfl)
      exact rop_bin _ _ _ _ _ rfl e11 rfl (guard_int _ _ _ _ _ _ _ w') (eql_iG _ _ _ (rfl) w') (wanted_of (j := 1) (b := true) rfl rfl e9) (hK _ _ (le8_refl _) rfl)
    · intro ac w' hF hL hP hU K hK
      have hB : Below _ _ _ := hL
      have e9 : ac.eval (.tmp 9) = .bool true := hP 1 (by kernel_rfl)
      have e12 : ac.eval (.tmp 12) = .bool true := hP 4 (by kernel_rfl)
      exact rop_pick _ _ _ rfl true e9 (by simpa using e12) (wanted_none rfl) (hK _ _ (le8_refl _) rfl)
    · intro ac w' hF hL hP hU K hK
      have hB : Below _ _ _ := hL
      have e13 : ac.eval (.tmp 13) = .bool true := hP 5 (by kernel_rfl)
      exact rop_assign _ rfl e13 (wanted_none rfl) (hK _ _ (le8_refl _) rfl)
    · intro ac w' hF hB hT
      have e2 : ac.eval (.tmp 2) = .bool true := hT 6 (by decide)
      rw [hF.setsG [8, 9, 10, 11, 12, 13, 2] (by kernel_rfl)]
      simp only [List.foldl_cons, List.foldl_nil, List.setIfInBounds_toArray, List.set_cons_succ, List.set_cons_zero, e2]
      generalize ac.eval (.tmp 8) = u8
      generalize ac.eval (.tmp 9) = u9
      generalize ac.eval (.tmp 10) = u10
      generalize ac.eval (.tmp 11) = u11
      generalize ac.eval (.tmp 12) = u12
      generalize ac.eval (.tmp 13) = u13
      clear e2 hT hF ac
      go_wp2
      go_ret
      exact ⟨rfl, below_step b1 (Nat.le_refl _) hB⟩
  · obtain ⟨n, hn⟩ : ∃ n : Nat, a = n := ⟨a.toNat, by omega⟩
    have h1 := Tree.split_lt (n := n) (by omega)
    have h2 := Tree.split_half (n := n) (by omega)
    have h3 := Tree.split_pos (n := n) (by omega)
    obtain ⟨i, hi⟩ := split_is_pow (n := n) (by omega)
    obtain ⟨k, hk⟩ : ∃ k, k = Tree.split n := ⟨_, rfl⟩
    rw [← hk] at h1 h2 h3 hi
    have hi63 : i < 63 := by
      apply Nat.lt_of_not_le
      intro hc
      have : 2 ^ 63 ≤ 2 ^ i := Nat.pow_le_pow_right (by decide) hc
      have : (2 : Nat) ^ 63 = 9223372036854775808 := rfl
      omega
    have HSP : Hid (∀ u : World, Calls Tryd.prog 18 #[.int .i64 a] u fun e w' => e = .returned (.int .i64 (k : Int)) ∧ u = w') := Lib.hid fun u => by
      have := leafSplit_any a m0 u
      rwa [hn, Int.toNat_natCast, ← hk, ← hn] at this
    have HAND : Hid (∀ u : World, (binOp .and 3 (.int .i64 (k : Int)) (.int .i64 ((k : Int) - 1))).run Tryd.prog u = .ok (.int .i64 0) u) := Lib.hid fun u => by
      have := and_pow i hi63 u
      rwa [← hi] at this
    have h1' : (k : Int) < a := by omega
    have h2' : a ≤ 2 * (k : Int) := by omega
    have h3' : 0 < (k : Int) := by omega
    clear hn hi hk h1 h2 h3
    go_enter Tryd.func7, Tryd.ntmps7
    go_upto_region 5 with (first
      | (go_at_call 10; ((with_reducible refine HAW.out.mono ?_); rintro e w1 ⟨rfl, b1⟩))
      | (go_at_call 18; ((with_reducible refine (HSP.out _).mono ?_); rintro e w2 ⟨rfl, rfl⟩)))
    try simp only [Act.put]
    refine wp_region_tab0 [RT.is (.bool true), RT.is (.bool true), RT.is (.int .i64 (k : Int)), RT.is (.bool true), RT.is (.bool true), RT.is (.bool true), RT.is (.int .i64 (k : Int)), RT.is (.int .i64 a), RT.is (.bool true), RT.is (.bool true), RT.is (.bool true), RT.is (.int .i64 (k : Int)), RT.is (.int .i64 a), RT.is (.int .i64 (k : Int)), RT.is (.int .i64 (a - (k : Int))), RT.is (.bool true), RT.is (.bool true), RT.is (.bool true), RT.is (.int .i64 (k : Int)), RT.is (.int .i64 (k : Int)), RT.is (.int .i64 ((k : Int) - 1)), RT.is (.int .i64 0), RT.is (.bool true), RT.is (.bool true), RT.is (.bool true)] (by kernel_rfl) (by kernel_rfl) (by kernel_rfl) ⟨?_, ?_, ?_, ?_, ?_, ?_, ?_, ?_, ?_, ?_, ?_, ?_, ?_, ?_, ?_, ?_, ?_, ?_, ?_, ?_, ?_, ?_, ?_, ?_, ?_, trivial⟩ ?_
    · intro ac w' hF hL hP hU K hK
      have hB : Below _ _ _ := hL
      have e3 : ac.eval (.tmp 3) = .bool true := hF.at 3 (by kernel_rfl)
      exact rop_move _ rfl e3 (wanted_none rfl) (hK _ _ (le8_refl _) rfl)
    · intro ac w' hF hL hP hU K hK
      have hB : Below _ _ _ := hL
      have e16 : ac.eval (.tmp 16) = .bool true := hP 0 (by kernel_rfl)
      exact rop_move _ rfl e16 (wanted_none rfl) (hK _ _ (le8_refl _) rfl)
    · intro ac w' hF hL hP hU K hK
      have hB : Below _ _ _ := hL
      have e4 : ac.eval (.tmp 4) = .int .i64 (k : Int) := hF.at 4 (by kernel_rfl)
      have e17 : ac.eval (.tmp 17) = .bool true := hP 1 (by kernel_rfl)
      exact rop_move _ rfl e4 (wanted_of (j := 1) (b := true) rfl rfl e17) (hK _ _ (le8_refl _) rfl)
    · intro ac w' hF hL hP hU K hK
      have hB : Below _ _ _ := hL
      have e18 : ac.eval (.tmp 18) = .int .i64 (k : Int) := hP 2 (by kernel_rfl)
      have e17 : ac.eval (.tmp 17) = .bool true := hP 1 (by kernel_rfl)
      exact rop_bin _ _ _ _ _ rfl e18 rfl (guard_int _ _ _ _ _ _ _ w') (gtr_iG _ _ _ (decide_eq_true (by omega)) w') (wanted_of (j := 1) (b := true) rfl rfl e17) (hK _ _ (le8_refl _) rfl)
    · intro ac w' hF hL hP hU K hK
      have hB : Below _ _ _ := hL
      have e17 : ac.eval (.tmp 17) = .bool true := hP 1 (by kernel_rfl)
      have e19 : ac.eval (.tmp 19) = .bool true := hP 3 (by kernel_rfl)
      exact rop_pick _ _ _ rfl true e17 (by simpa using e19) (wanted_none rfl) (hK _ _ (le8_refl _) rfl)
    · intro ac w' hF hL hP hU K hK
      have hB : Below _ _ _ := hL
      have e20 : ac.eval (.tmp 20) = .bool true := hP 4 (by kernel_rfl)
      exact rop_move _ rfl e20 (wanted_none rfl) (hK _ _ (le8_refl _) rfl)
    · intro ac w' hF hL hP hU K hK
      have hB : Below _ _ _ := hL
      have e4 : ac.eval (.tmp 4) = .int .i64 (k : Int) := hF.at 4 (by kernel_rfl)
      have e21 : ac.eval (.tmp 21) = .bool true := hP 5 (by kernel_rfl)
      exact rop_move _ rfl e4 (wanted_of (j := 5) (b := true) rfl rfl e21) (hK _ _ (le8_refl _) rfl)
    · intro ac w' hF hL hP hU K hK
      have hB : Below _ _ _ := hL
      have e0 : ac.eval (.tmp 0) = .int .i64 a := hF.at 0 (by kernel_rfl)
      have e21 : ac.eval (.tmp 21) = .bool true := hP 5 (by kernel_rfl)
      exact rop_move _ rfl e0 (wanted_of (j := 5) (b := true) rfl rfl e21) (hK _ _ (le8_refl _) rfl)
    · intro ac w' hF hL hP hU K hK
      have hB : Below _ _ _ := hL
      have e22 : ac.eval (.tmp 22) = .int .i64 (k : Int) := hP 6 (by kernel_rfl)
      have e23 : ac.eval (.tmp 23) = .int .i64 a := hP 7 (by kernel_rfl)
      have e21 : ac.eval (.tmp 21) = .bool true := hP 5 (by kernel_rfl)
      exact rop_bin _ _ _ _ _ rfl e22 e23 (guard_int _ _ _ _ _ _ _ w') (lss_iG _ _ _ (decide_eq_true (by omega)) w') (wanted_of (j := 5) (b := true) rfl rfl e21) (hK _ _ (le8_refl _) rfl)
    · intro ac w' hF hL hP hU K hK
      have hB : Below _ _ _ := hL
      have e21 : ac.eval (.tmp 21) = .bool true := hP 5 (by kernel_rfl)
      have e24 : ac.eval (.tmp 24) = .bool true := hP 8 (by kernel_rfl)
      exact rop_pick _ _ _ rfl true e21 (by simpa using e24) (wanted_none rfl) (hK _ _ (le8_refl _) rfl)
    · intro ac w' hF hL hP hU K hK
      have hB : Below _ _ _ := hL
      have e25 : ac.eval (.tmp 25) = .bool true := hP 9 (by kernel_rfl)
      exact rop_move _ rfl e25 (wanted_none rfl) (hK _ _ (le8_refl _) rfl)
    · intro ac w' hF hL hP hU K hK
      have hB : Below _ _ _ := hL
      have e4 : ac.eval (.tmp 4) = .int .i64 (k : Int) := hF.at 4 (by kernel_rfl)
      have e26 : ac.eval (.tmp 26) = .bool true := hP 10 (by kernel_rfl)
      exact rop_move _ rfl e4 (wanted_of (j := 10) (b := true) rfl rfl e26) (hK _ _ (le8_refl _) rfl)
    · intro ac w' hF hL hP hU K hK
      have hB : Below _ _ _ := hL
      have e0 : ac.eval (.tmp 0) = .int .i64 a := hF.at 0 (by kernel_rfl)
      have e26 : ac.eval (.tmp 26) = .bool true := hP 10 (by kernel_rfl)
      exact rop_move _ rfl e0 (wanted_of (j := 10) (b := true) rfl rfl e26) (hK _ _ (le8_refl _) rfl)
    · intro ac w' hF hL hP hU K hK
      have hB : Below _ _ _ := hL
      have e4 : ac.eval (.tmp 4) = .int .i64 (k : Int) := hF.at 4 (by kernel_rfl)
      have e26 : ac.eval (.tmp 26) = .bool true := hP 10 (by kernel_rfl)
      exact rop_move _ rfl e4 (wanted_of (j := 10) (b := true) rfl rfl e26) (hK _ _ (le8_refl _) rfl)
    · intro ac w' hF hL hP hU K hK
      have hB : Below _ _ _ := hL
      have e28 : ac.eval (.tmp 28) = .int .i64 a := hP 12 (by kernel_rfl)
      have e29 : ac.eval (.tmp 29) = .int .i64 (k : Int) := hP 13 (by kernel_rfl)
      have e26 : ac.eval (.tmp 26) = .bool true := hP 10 (by kernel_rfl)
      exact rop_bin _ _ _ _ _ rfl e28 e29 (guard_int _ _ _ _ _ _ _ w') (sub_int _ _ _ (rfl) (by omega) w') (wanted_of (j := 10) (b := true) rfl rfl e26) (hK _ _ (le8_refl _) rfl)
    · intro ac w' hF hL hP hU K hK
      have hB : Below _ _ _ := hL
      have e27 : ac.eval (.tmp 27) = .int .i64 (k : Int) := hP 11 (by kernel_rfl)
      have e30 : ac.eval (.tmp 30) = .int .i64 (a - (k : Int)) := hP 14 (by kernel_rfl)
      have e26 : ac.eval (.tmp 26) = .bool true := hP 10 (by kernel_rfl)
      exact rop_bin _ _ _ _ _ rfl e27 e30 (guard_int _ _ _ _ _ _ _ w') (geq_iG _ _ _ (decide_eq_true (by omega)) w') (wanted_of (j := 10) (b := true) rfl rfl e26) (hK _ _ (le8_refl _) rfl)
    · intro ac w' hF hL hP hU K hK
      have hB : Below _ _ _ := hL
      have e26 : ac.eval (.tmp 26) = .bool true := hP 10 (by kernel_rfl)
      have e31 : ac.eval (.tmp 31) = .bool true := hP 15 (by kernel_rfl)
      exact rop_pick _ _ _ rfl true e26 (by simpa using e31) (wanted_none rfl) (hK _ _ (le8_refl _) rfl)
    · intro ac w' hF hL hP hU K hK
      have hB : Below _ _ _ := hL
      have e32 : ac.eval (.tmp 32) = .bool true := hP 16 (by kernel_rfl)
      exact rop_move _ rfl e32 (wanted_none rfl) (hK _ _ (le8_refl _) rfl)
    · intro ac w' hF hL hP hU K hK
      have hB : Below _ _ _ := hL
      have e4 : ac.eval (.tmp 4) = .int .i64 (k : Int) := hF.at 4 (by kernel_rfl)
      have e33 : ac.eval (.tmp 33) = .bool true := hP 17 (by kernel_rfl)
      exact rop_move _ rfl e4 (wanted_of (j := 17) (b := true) rfl rfl e33) (hK _ _ (le8_refl _) rfl)
    · intro ac w' hF hL hP hU K hK
      have hB : Below _ _ _ := hL
      have e4 : ac.eval (.tmp 4) = .int .i64 (k : Int) := hF.at 4 (by kernel_rfl)
      have e33 : ac.eval (.tmp 33) = .bool true := hP 17 (by kernel_rfl)
      exact rop_move _ rfl e4 (wanted_of (j := 17) (b := true) rfl rfl e33) (hK _ _ (le8_refl _) rfl)
    · intro ac w' hF hL hP hU K hK
      have hB : Below _ _ _ := hL
      have e35 : ac.eval (.tmp 35) = .int .i64 (k : Int) := hP 19 (by kernel_rfl)
      have e33 : ac.eval (.tmp 33) = .bool true := hP 17 (by kernel_rfl)
      exact rop_bin _ _ _ _ _ rfl e35 rfl (guard_int _ _ _ _ _ _ _ w') (sub_int _ _ _ (rfl) (by omega) w') (wanted_of (j := 17) (b := true) rfl rfl e33) (hK _ _ (le8_refl _) rfl)
    · intro ac w' hF hL hP hU K hK
      have hB : Below _ _ _ := hL
      have e34 : ac.eval (.tmp 34) = .int .i64 (k : Int) := hP 18 (by kernel_rfl)
      have e36 : ac.eval (.tmp 36) = .int .i64 ((k : Int) - 1) := hP 20 (by kernel_rfl)
      have e33 : ac.eval (.tmp 33) = .bool true := hP 17 (by kernel_rfl)
      exact rop_bin _ _ _ _ _ rfl e34 e36 (guard_int _ _ _ _ _ _ _ w') (HAND.out w') (wanted_of (j := 17) (b := true) rfl rfl e33) (hK _ _ (le8_refl _) rfl)
    · intro ac w' hF hL hP hU K hK
      have hB : Below _ _ _ := hL
      have e37 : ac.eval (.tmp 37) = .int .i64 0 := hP 21 (by kernel_rfl)
      have e33 : ac.eval (.tmp 33) = .bool true := hP 17 (by kernel_rfl)
      exact rop_bin _ _ _ _ _ rfl e37 rfl (guard_int _ _ _ _ _ _ _ w') (eql_iG _ _ _ (rfl) w') (wanted_of (j := 17) (b := true) rfl rfl e33) (hK _ _ (le8_refl _) rfl)
    · intro ac w' hF hL hP hU K hK
      have hB : Below _ _ _ := hL
      have e33 : ac.eval (.tmp 33) = .bool true := hP 17 (by kernel_rfl)
      have e38 : ac.eval (.tmp 38) = .bool true := hP 22 (by kernel_rfl)
      exact rop_pick _ _ _ rfl true e33 (by simpa using e38) (wanted_none rfl) (hK _ _ (le8_refl _) rfl)
    · intro ac w' hF hL hP hU K hK
      have hB : Below _ _ _ := hL
      have e39 : ac.eval (.tmp 39) = .bool true := hP 23 (by kernel_rfl)
      exact rop_assign _ rfl e39 (wanted_none rfl) (hK _ _ (le8_refl _) rfl)
    · intro ac w' hF hB hT
      have e2 : ac.eval (.tmp 2) = .bool true := hT 24 (by decide)
      rw [hF.setsG [16, 17, 18, 19, 20, 21, 22, 23, 24, 25, 26, 27, 28, 29, 30, 31, 32, 33, 34, 35, 36, 37, 38, 39, 2] (by kernel_rfl)]
      simp only [List.foldl_cons, List.foldl_nil, List.setIfInBounds_toArray, List.set_cons_succ, List.set_cons_zero, e2]
      generalize ac.eval (.tmp 16) = u16
      generalize ac.eval (.tmp 17) = u17
      generalize ac.eval (.tmp 18) = u18
      generalize ac.eval (.tmp 19) = u19
      generalize ac.eval (.tmp 20) = u20
      generalize ac.eval (.tmp 21) = u21
      generalize ac.eval (.tmp 22) = u22
      generalize ac.eval (.tmp 23) = u23
      generalize ac.eval (.tmp 24) = u24
      generalize ac.eval (.tmp 25) = u25
      generalize ac.eval (.tmp 26) = u26
      generalize ac.eval (.tmp 27) = u27
      generalize ac.eval (.tmp 28) = u28
      generalize ac.eval (.tmp 29) = u29
      generalize ac.eval (.tmp 30) = u30
      generalize ac.eval (.tmp 31) = u31
      generalize ac.eval (.tmp 32) = u32
      generalize ac.eval (.tmp 33) = u33
      generalize ac.eval (.tmp 34) = u34
      generalize ac.eval (.tmp 35) = u35
      generalize ac.eval (.tmp 36) = u36
      generalize ac.eval (.tmp 37) = u37
      generalize ac.eval (.tmp 38) = u38
      generalize ac.eval (.tmp 39) = u39
      clear e2 hT hF ac
      go_wp2
      go_ret
      exact ⟨rfl, below_step b1 (Nat.le_refl _) hB⟩

set_option maxRecDepth 100000 in
theorem lifted (os : Os) (started : os.Started) (H : Type) (enc : TypeId × Value → H) :
    ReturnsInHanded {} Tryd.checked os 7 .any (fun w args => (Rows.leafSplitsSpec.pre enc Tryd.prog Tryd.f7 [] false w args ∧ laidMetH Tryd.prog [("scrinium/sha.k", Rows.laid_scrinium_sha_k)] w) ∧ sizedMet enc Tryd.prog Tryd.f7 (OpenSpec.ofChange Rows.leafSplitsSpec) false w args)
      (Rows.leafSplitsSpec.post enc Tryd.prog Tryd.f7 false true false false) := by
  refine returnsInHanded_of_change_and (C := Tryd.checked) (X := fun w _ => laidMetH Tryd.prog [("scrinium/sha.k", Rows.laid_scrinium_sha_k)] w) (fun _ _ _ hh h => h.of_heap hh) lawOwn started (by kernel_rfl) Tryd.func7
    (ChangeSpec.witness_shaped (enc := enc) (C := Tryd.checked) (os := os) (X := fun w _ => laidMetH Tryd.prog [("scrinium/sha.k", Rows.laid_scrinium_sha_k)] w) false (World.doorLaid Tryd.prog 400 os) #[.int .i64 0] 8 rfl (World.shaped_of_RefB (by kernel_rfl) (by kernel_rfl)) (by kernel_rfl) (by kernel_rfl) (by kernel_rfl) (door_met os _)) ?_
  intro W base args ds gs before hval0 hW _ _ hL _
  have hval : ∀ (j : Nat) t v, Tryd.f7.params[j]? = some t → args[j]? = some v → Value.okWide Tryd.prog W .any base t v := hval0
  have hW' := hW
  obtain ⟨p, q, hA0, hV, rfl, hfz, hnd⟩ := hW
  have hA : DataW.TrodAll enc Tryd.prog W 0 (fun _ => true) true Tryd.f7.params.toList args.toList ds p := hA0
  rw [Tryd.params7] at hA hval
  obtain ⟨v0, vs0, d0, ds0, p0, q0, hargs, rfl, rfl, h0, r0⟩ := trodAll_cons hA
  obtain ⟨rfl, rfl, rfl⟩ := trodAll_nil r0
  obtain rfl : args = #[v0] := by cases args; simp_all
  obtain ⟨rfl, rfl⟩ := trodVars_none hV
  have hKT := KT_of_laid hL
  obtain ⟨a0, rfl, rfl, rfl, w0⟩ := open_int Tryd.underlying3 (hval 0 3 v0 rfl rfl) h0
  clear hA0 hval0
  obtain ⟨l0, m0⟩ := i64_bounds w0
  refine (walk (w := W) hKT a0 l0 m0).mono fun e W' ⟨he, bel⟩ => ?_
  subst he
  exact ⟨_, rfl, law_post rfl rfl (by kernel_rfl) hW' rfl bel⟩

theorem row_holds : Rows.LeafSplitsSaid :=
  OpenClaim.holds_of_wide 7 Tryd.f7 rfl rfl rfl rfl rfl rfl rfl ⟨rfl, rfl, rfl, rfl, rfl⟩ rfl rfl rfl rfl rfl (by kernel_rfl) Tryd.func7 (by kernel_rfl)
    (of_decide_eq_true (by kernel_rfl)) (by unfold Func.isWrapper; first | (rw [if_pos (by decide +kernel)]; kernel_rfl) | (rw [if_neg (by decide +kernel)]; exact ⟨rfl, rfl⟩))
    (fun os started H enc _ => lifted os started H enc)

theorem holds : Rows.LeafSplitsCardSaid :=
  Claim7.holds_tied_plain_at .later [] [.data] true Rows.leafSplitsCard.stood.harness false
    row_holds (fun _ h => by cases h) (by kernel_rfl) (fun _ h => by cases h) leafSplits_row_tie rfl ⟨rfl, rfl⟩ (by kernel_rfl) rfl
    (fun f fn hf hfn => by
      obtain rfl : f = 7 := Option.some.inj ((show Tryd.prog.funcNamed "scrinium/scriniumlaw09.LeafSplits" = some 7 by kernel_rfl).symm.trans hf) |>.symm
      obtain rfl : fn = Tryd.f7 := (Option.some.inj (Tryd.func7.symm.trans hfn)).symm
      exact ⟨by kernel_rfl, fun j t ht => by
        rw [Tryd.params7] at ht
        have hm : t ∈ [3] := by simpa using Array.mem_of_getElem? ht
        have hall : ([3].all fun u => !Tryd.prog.wantsStandIn u) = true := by kernel_rfl
        exact (show Tryd.prog.wantsStandIn t = false by simpa using List.all_eq_true.1 hall t hm)⟩)
    (by kernel_rfl)
end Go.Proofs.YtldknddgcbhllaaDoor.leafSplits

theorem Go.Proofs.YtldknddgcbhllaaDoor.leafSplits_holds : Go.Proofs.YtldknddgcbhllaaDoor.Rows.LeafSplitsCardSaid := Go.Proofs.YtldknddgcbhllaaDoor.leafSplits.holds
#print axioms Go.Proofs.YtldknddgcbhllaaDoor.leafSplits_holds
