/-
  The statements' own helpers awake and few (scriniumlaw09).
-/
import Derived.Test.YtldknddgcbhllaaDoorRLevels
namespace Go.Proofs.YtldknddgcbhllaaDoor
open Go.RowKit

theorem tree_empty_hex : (⟨(Sha.hexL Tree.empty).toArray⟩ : ByteArray) = ⟨#[101, 51, 98, 48, 99, 52, 52, 50, 57, 56, 102, 99, 49, 99, 49, 52, 57, 97, 102, 98, 102, 52, 99, 56, 57, 57, 54, 102, 98, 57, 50, 52, 50, 55, 97, 101, 52, 49, 101, 52, 54, 52, 57, 98, 57, 51, 52, 99, 97, 52, 57, 53, 57, 57, 49, 98, 55, 56, 53, 50, 98, 56, 53, 53]⟩ := by
  rw [show Sha.hexL Tree.empty = [101, 51, 98, 48, 99, 52, 52, 50, 57, 56, 102, 99, 49, 99, 49, 52, 57, 97, 102, 98, 102, 52, 99, 56, 57, 57, 54, 102, 98, 57, 50, 52, 50, 55, 97, 101, 52, 49, 101, 52, 54, 52, 57, 98, 57, 51, 52, 99, 97, 52, 57, 53, 57, 57, 49, 98, 55, 56, 53, 50, 98, 56, 53, 53] by kernel_rfl]
theorem tree_leaf_hex : (⟨(Sha.hexL (Tree.leafH [])).toArray⟩ : ByteArray) = ⟨#[54, 101, 51, 52, 48, 98, 57, 99, 102, 102, 98, 51, 55, 97, 57, 56, 57, 99, 97, 53, 52, 52, 101, 54, 98, 98, 55, 56, 48, 97, 50, 99, 55, 56, 57, 48, 49, 100, 51, 102, 98, 51, 51, 55, 51, 56, 55, 54, 56, 53, 49, 49, 97, 51, 48, 54, 49, 55, 97, 102, 97, 48, 49, 100]⟩ := by
  rw [show Sha.hexL (Tree.leafH []) = [54, 101, 51, 52, 48, 98, 57, 99, 102, 102, 98, 51, 55, 97, 57, 56, 57, 99, 97, 53, 52, 52, 101, 54, 98, 98, 55, 56, 48, 97, 50, 99, 55, 56, 57, 48, 49, 100, 51, 102, 98, 51, 51, 55, 51, 56, 55, 54, 56, 53, 49, 49, 97, 51, 48, 54, 49, 55, 97, 102, 97, 48, 49, 100] by kernel_rfl]
theorem tree_root_hex : (⟨(Sha.hexL (Tree.root [Tree.leafH [97], Tree.leafH [98], Tree.leafH [99]])).toArray⟩ : ByteArray) = ⟨#[51, 54, 54, 52, 50, 101, 55, 51, 99, 50, 53, 52, 48, 97, 98, 49, 50, 49, 101, 51, 97, 54, 98, 102, 57, 53, 52, 53, 98, 48, 97, 50, 52, 57, 56, 50, 99, 100, 56, 51, 48, 101, 98, 49, 51, 100, 51, 99, 100, 49, 57, 100, 101, 51, 99, 101, 54, 99, 48, 50, 49, 101, 99, 49]⟩ := by
  rw [show Sha.hexL (Tree.root [Tree.leafH [97], Tree.leafH [98], Tree.leafH [99]]) = [51, 54, 54, 52, 50, 101, 55, 51, 99, 50, 53, 52, 48, 97, 98, 49, 50, 49, 101, 51, 97, 54, 98, 102, 57, 53, 52, 53, 98, 48, 97, 50, 52, 57, 56, 50, 99, 100, 56, 51, 48, 101, 98, 49, 51, 100, 51, 99, 100, 49, 57, 100, 101, 51, 99, 101, 54, 99, 48, 50, 49, 101, 99, 49] by kernel_rfl]
set_option maxHeartbeats 2000000 in
set_option maxRecDepth 100000 in
theorem awake9_any (w : World) (hK : KT w) : Calls Tryd.prog 10 #[] w fun e w' => e = .returned (.bool true) ∧ Below w.heap.size w w' := by
  obtain ⟨A, hA⟩ : ∃ A, A = Tree.leafH [97] := ⟨_, rfl⟩
  obtain ⟨B, hBB⟩ : ∃ B, B = Tree.leafH [98] := ⟨_, rfl⟩
  obtain ⟨C, hC⟩ : ∃ C, C = Tree.leafH [99] := ⟨_, rfl⟩
  obtain ⟨E, hE⟩ : ∃ E, E = Tree.empty := ⟨_, rfl⟩
  obtain ⟨L, hL⟩ : ∃ L, L = Tree.leafH [] := ⟨_, rfl⟩
  obtain ⟨T, hT⟩ : ∃ T, T = Tree.root [A, B, C] := ⟨_, rfl⟩
  have H3 : Hid (all32 [A, B, C]) := Lib.hid (by
    intro x hx
    simp at hx
    rcases hx with rfl | rfl | rfl
    · rw [hA]; exact Tree.leafH_length _
    · rw [hBB]; exact Tree.leafH_length _
    · rw [hC]; exact Tree.leafH_length _)
  have HA : Hid (∀ u, Below w.heap.size w u → Calls Tryd.prog 11 #[.string ⟨#[97]⟩] u fun e w' => e = .returned (sumV A) ∧ Below u.heap.size u w') := Lib.hid fun u hu => by rw [hA]; exact leafLeaf_any ⟨#[97]⟩ [97] rfl u (hK.old hu) (by decide)
  have HB : Hid (∀ u, Below w.heap.size w u → Calls Tryd.prog 11 #[.string ⟨#[98]⟩] u fun e w' => e = .returned (sumV B) ∧ Below u.heap.size u w') := Lib.hid fun u hu => by rw [hBB]; exact leafLeaf_any ⟨#[98]⟩ [98] rfl u (hK.old hu) (by decide)
  have HC : Hid (∀ u, Below w.heap.size w u → Calls Tryd.prog 11 #[.string ⟨#[99]⟩] u fun e w' => e = .returned (sumV C) ∧ Below u.heap.size u w') := Lib.hid fun u hu => by rw [hC]; exact leafLeaf_any ⟨#[99]⟩ [99] rfl u (hK.old hu) (by decide)
  have hTE : T = Tree.root [Tree.leafH [97], Tree.leafH [98], Tree.leafH [99]] := by rw [hT, hA, hBB, hC]
  have hTl : T.length = 32 := by rw [hT]; exact Tree.root_length _ H3.out
  have HTl := Lib.hid hTl
  have HXE : Hid (∀ u, Calls Tryd.prog 27 #[sumV E] u fun e w' => e = .returned (.string ⟨#[101, 51, 98, 48, 99, 52, 52, 50, 57, 56, 102, 99, 49, 99, 49, 52, 57, 97, 102, 98, 102, 52, 99, 56, 57, 57, 54, 102, 98, 57, 50, 52, 50, 55, 97, 101, 52, 49, 101, 52, 54, 52, 57, 98, 57, 51, 52, 99, 97, 52, 57, 53, 57, 57, 49, 98, 55, 56, 53, 50, 98, 56, 53, 53]⟩) ∧ Below u.heap.size u w') := Lib.hid fun u => by rw [hE]; have := rhex_any Tree.empty u Tree.empty_length; rwa [tree_empty_hex] at this
  have HXL : Hid (∀ u, Calls Tryd.prog 27 #[sumV L] u fun e w' => e = .returned (.string ⟨#[54, 101, 51, 52, 48, 98, 57, 99, 102, 102, 98, 51, 55, 97, 57, 56, 57, 99, 97, 53, 52, 52, 101, 54, 98, 98, 55, 56, 48, 97, 50, 99, 55, 56, 57, 48, 49, 100, 51, 102, 98, 51, 51, 55, 51, 56, 55, 54, 56, 53, 49, 49, 97, 51, 48, 54, 49, 55, 97, 102, 97, 48, 49, 100]⟩) ∧ Below u.heap.size u w') := Lib.hid fun u => by rw [hL]; have := rhex_any (Tree.leafH []) u (Tree.leafH_length _); rwa [tree_leaf_hex] at this
  have HXT : Hid (∀ u, Calls Tryd.prog 27 #[sumV T] u fun e w' => e = .returned (.string ⟨#[51, 54, 54, 52, 50, 101, 55, 51, 99, 50, 53, 52, 48, 97, 98, 49, 50, 49, 101, 51, 97, 54, 98, 102, 57, 53, 52, 53, 98, 48, 97, 50, 52, 57, 56, 50, 99, 100, 56, 51, 48, 101, 98, 49, 51, 100, 51, 99, 100, 49, 57, 100, 101, 51, 99, 101, 54, 99, 48, 50, 49, 101, 99, 49]⟩) ∧ Below u.heap.size u w') := Lib.hid fun u => by have := rhex_any T u hTl; rw [hTE, tree_root_hex] at this; rw [hTE]; exact this
  have HT0 : Hid (∀ u v, KT u → Sums u v [A, B, C] → Calls Tryd.prog 20 #[v] u fun e w' => e = .returned (sumV T) ∧ Below u.heap.size u w') := Lib.hid fun u v hk hv => by rw [hT]; exact leafRoot_any 3 [A, B, C] v u rfl (by decide) hv hk
  have HE0 : Hid (∀ u, KT u → Calls Tryd.prog 25 #[] u fun e w' => e = .returned (sumV E) ∧ Below u.heap.size u w') := Lib.hid fun u hk => by rw [hE]; exact leafEmpty_any u hk
  have HL0 : Hid (∀ u, KT u → Calls Tryd.prog 11 #[.string ⟨#[]⟩] u fun e w' => e = .returned (sumV L) ∧ Below u.heap.size u w') := Lib.hid fun u hk => by rw [hL]; exact leafLeaf_any ⟨#[]⟩ [] rfl u hk (by decide)
  clear hA hBB hC hE hL hT hTE hTl
  go_enter Tryd.func10, Tryd.ntmps10
  go_upto_region 1 with (fail)
  try simp only [Act.put]
  refine wp_region_tab0 [RT.is (sumV A), RT.is (sumV B), RT.is (sumV C), RT.sums [A, B, C], RT.sums [A, B, C]] (by kernel_rfl) (by kernel_rfl) (by kernel_rfl) ⟨?_, ?_, ?_, ?_, ?_, trivial⟩ ?_
  · intro ac w' hF hL hP hU K hK
    have hB : Below _ _ _ := hL
    refine rop_call 11 _ _ rfl #[.string { data := #[97] }] (by simp [eval_const]) (by kernel_rfl) (wanted_none rfl) ?_
    refine (HA.out w' hB).mono ?_
    rintro e w2 ⟨rfl, hb⟩
    exact ⟨_, rfl, hK _ _ hb rfl⟩
  · intro ac w' hF hL hP hU K hK
    have hB : Below _ _ _ := hL
    refine rop_call 11 _ _ rfl #[.string { data := #[98] }] (by simp [eval_const]) (by kernel_rfl) (wanted_none rfl) ?_
    refine (HB.out w' hB).mono ?_
    rintro e w2 ⟨rfl, hb⟩
    exact ⟨_, rfl, hK _ _ hb rfl⟩
  · intro ac w' hF hL hP hU K hK
    have hB : Below _ _ _ := hL
    refine rop_call 11 _ _ rfl #[.string { data := #[99] }] (by simp [eval_const]) (by kernel_rfl) (wanted_none rfl) ?_
    refine (HC.out w' hB).mono ?_
    rintro e w2 ⟨rfl, hb⟩
    exact ⟨_, rfl, hK _ _ hb rfl⟩
  · intro ac w' hF hL hP hU K hK
    have hB : Below _ _ _ := hL
    have e2 : ac.eval (.tmp 2) = sumV A := hP 0 (by kernel_rfl)
    have e3 : ac.eval (.tmp 3) = sumV B := hP 1 (by kernel_rfl)
    have e4 : ac.eval (.tmp 4) = sumV C := hP 2 (by kernel_rfl)
    exact rop_bslG _ _ _ rfl #[(0, sumV A), (1, sumV B), (2, sumV C)] (by simp [e2, e3, e4]) (build_sums 3 [A, B, C] H3.out rfl (by decide) (by decide) w') (wanted_none rfl) (hK _ _ ((Below.refl _ _).alloc (Nat.le_refl _) _) (Sums.build w' [A, B, C] H3.out 3 rfl (by decide)))
  · intro ac w' hF hL hP hU K hK
    have hB : Below _ _ _ := hL
    have e5 : Sums w' (ac.eval (.tmp 5)) [A, B, C] := hP 3 (by kernel_rfl)
    exact rop_assign _ rfl rfl (wanted_none rfl) (hK _ _ (le8_refl _) e5)
  · intro ac w' hF hB hT
    have e1 : Sums w' (ac.eval (.tmp 1)) [A, B, C] := hT 4 (by decide)
    rw [hF.setsG [2, 3, 4, 5, 1] (by kernel_rfl)]
    simp only [List.foldl_cons, List.foldl_nil, List.setIfInBounds_toArray, List.set_cons_succ, List.set_cons_zero]
    generalize ac.eval (.tmp 2) = u2
    generalize ac.eval (.tmp 3) = u3
    generalize ac.eval (.tmp 4) = u4
    generalize ac.eval (.tmp 5) = u5
    generalize ac.eval (.tmp 1) = v1 at e1 ⊢
    clear  hT hF ac
    obtain ⟨W, hW⟩ : ∃ W, W = w' := ⟨_, rfl⟩
    subst hW
    have b1 : Below w.heap.size w W := hB
    have hKW := hK.old b1
    have HE : Hid (∀ u, Below W.heap.size W u → Calls Tryd.prog 25 #[] u fun e w' => e = .returned (sumV E) ∧ Below u.heap.size u w') := Lib.hid fun u hu => HE0.out u (hKW.old hu)
    have HL : Hid (∀ u, Below W.heap.size W u → Calls Tryd.prog 11 #[.string ⟨#[]⟩] u fun e w' => e = .returned (sumV L) ∧ Below u.heap.size u w') := Lib.hid fun u hu => HL0.out u (hKW.old hu)
    have HT : Hid (∀ u, Below W.heap.size W u → Calls Tryd.prog 20 #[v1] u fun e w' => e = .returned (sumV T) ∧ Below u.heap.size u w') := Lib.hid fun u hu => HT0.out u v1 (hKW.old hu) (e1.old hu)
    clear hB
    go_upto_region 2 with (fail)
    try simp only [Act.put]
    refine wp_region_tab0 [RT.is (sumV E), RT.is (.string ⟨#[101, 51, 98, 48, 99, 52, 52, 50, 57, 56, 102, 99, 49, 99, 49, 52, 57, 97, 102, 98, 102, 52, 99, 56, 57, 57, 54, 102, 98, 57, 50, 52, 50, 55, 97, 101, 52, 49, 101, 52, 54, 52, 57, 98, 57, 51, 52, 99, 97, 52, 57, 53, 57, 57, 49, 98, 55, 56, 53, 50, 98, 56, 53, 53]⟩), RT.is (.bool true), RT.is (.bool true), RT.is (sumV L), RT.is (.string ⟨#[54, 101, 51, 52, 48, 98, 57, 99, 102, 102, 98, 51, 55, 97, 57, 56, 57, 99, 97, 53, 52, 52, 101, 54, 98, 98, 55, 56, 48, 97, 50, 99, 55, 56, 57, 48, 49, 100, 51, 102, 98, 51, 51, 55, 51, 56, 55, 54, 56, 53, 49, 49, 97, 51, 48, 54, 49, 55, 97, 102, 97, 48, 49, 100]⟩), RT.is (.bool true), RT.is (.bool true), RT.is (.bool true), RT.is (v1), RT.is (sumV T), RT.is (.string ⟨#[51, 54, 54, 52, 50, 101, 55, 51, 99, 50, 53, 52, 48, 97, 98, 49, 50, 49, 101, 51, 97, 54, 98, 102, 57, 53, 52, 53, 98, 48, 97, 50, 52, 57, 56, 50, 99, 100, 56, 51, 48, 101, 98, 49, 51, 100, 51, 99, 100, 49, 57, 100, 101, 51, 99, 101, 54, 99, 48, 50, 49, 101, 99, 49]⟩), RT.is (.bool true), RT.is (.bool true), RT.is (.bool true)] (by kernel_rfl) (by kernel_rfl) (by kernel_rfl) ⟨?_, ?_, ?_, ?_, ?_, ?_, ?_, ?_, ?_, ?_, ?_, ?_, ?_, ?_, ?_, trivial⟩ ?_
    · intro ac w' hF hL hP hU K hK
      have hB : Below _ _ _ := hL
      refine rop_call 25 _ _ rfl #[] (by simp) (by kernel_rfl) (wanted_none rfl) ?_
      refine (HE.out w' hB).mono ?_
      rintro e w2 ⟨rfl, hb⟩
      exact ⟨_, rfl, hK _ _ hb rfl⟩
    · intro ac w' hF hL hP hU K hK
      have hB : Below _ _ _ := hL
      have e6 : ac.eval (.tmp 6) = sumV E := hP 0 (by kernel_rfl)
      refine rop_call 27 _ _ rfl #[sumV E] (by simp [e6]) (by kernel_rfl) (wanted_none rfl) ?_
      refine (HXE.out w').mono ?_
      rintro e w2 ⟨rfl, hb⟩
      exact ⟨_, rfl, hK _ _ hb rfl⟩
    · intro ac w' hF hL hP hU K hK
      have hB : Below _ _ _ := hL
      have e7 : ac.eval (.tmp 7) = .string ⟨#[101, 51, 98, 48, 99, 52, 52, 50, 57, 56, 102, 99, 49, 99, 49, 52, 57, 97, 102, 98, 102, 52, 99, 56, 57, 57, 54, 102, 98, 57, 50, 52, 50, 55, 97, 101, 52, 49, 101, 52, 54, 52, 57, 98, 57, 51, 52, 99, 97, 52, 57, 53, 57, 57, 49, 98, 55, 56, 53, 50, 98, 56, 53, 53]⟩ := hP 1 (by kernel_rfl)
      exact rop_bin _ _ _ _ _ rfl e7 rfl (guard_str _ _ _ _ _ _ w') (eql_str_t _ _ rfl w') (wanted_none rfl) (hK _ _ (le8_refl _) rfl)
    · intro ac w' hF hL hP hU K hK
      have hB : Below _ _ _ := hL
      have e8 : ac.eval (.tmp 8) = .bool true := hP 2 (by kernel_rfl)
      exact rop_move _ rfl e8 (wanted_none rfl) (hK _ _ (le8_refl _) rfl)
    · intro ac w' hF hL hP hU K hK
      have hB : Below _ _ _ := hL
      have e9 : ac.eval (.tmp 9) = .bool true := hP 3 (by kernel_rfl)
      refine rop_call 11 _ _ rfl #[.string { data := #[] }] (by simp [eval_const]) (by kernel_rfl) (wanted_of (j := 3) (b := true) rfl rfl e9) ?_
      refine (HL.out w' hB).mono ?_
      rintro e w2 ⟨rfl, hb⟩
      exact ⟨_, rfl, hK _ _ hb rfl⟩
    · intro ac w' hF hL hP hU K hK
      have hB : Below _ _ _ := hL
      have e10 : ac.eval (.tmp 10) = sumV L := hP 4 (by kernel_rfl)
      have e9 : ac.eval (.tmp 9) = .bool true := hP 3 (by kernel_rfl)
      refine rop_call 27 _ _ rfl #[sumV L] (by simp [e10]) (by kernel_rfl) (wanted_of (j := 3) (b := true) rfl rfl e9) ?_
      refine (HXL.out w').mono ?_
      rintro e w2 ⟨rfl, hb⟩
      exact ⟨_, rfl, hK _ _ hb rfl⟩
    · intro ac w' hF hL hP hU K hK
      have hB : Below _ _ _ := hL
      have e11 : ac.eval (.tmp 11) = .string ⟨#[54, 101, 51, 52, 48, 98, 57, 99, 102, 102, 98, 51, 55, 97, 57, 56, 57, 99, 97, 53, 52, 52, 101, 54, 98, 98, 55, 56, 48, 97, 50, 99, 55, 56, 57, 48, 49, 100, 51, 102, 98, 51, 51, 55, 51, 56, 55, 54, 56, 53, 49, 49, 97, 51, 48, 54, 49, 55, 97, 102, 97, 48, 49, 100]⟩ := hP 5 (by kernel_rfl)
      have e9 : ac.eval (.tmp 9) = .bool true := hP 3 (by kernel_rfl)
      exact rop_bin _ _ _ _ _ rfl e11 rfl (guard_str _ _ _ _ _ _ w') (eql_str_t _ _ rfl w') (wanted_of (j := 3) (b := true) rfl rfl e9) (hK _ _ (le8_refl _) rfl)
    · intro ac w' hF hL hP hU K hK
      have hB : Below _ _ _ := hL
      have e9 : ac.eval (.tmp 9) = .bool true := hP 3 (by kernel_rfl)
      have e12 : ac.eval (.tmp 12) = .bool true := hP 6 (by kernel_rfl)
      exact rop_pick _ _ _ rfl true e9 (by simpa using e12) (wanted_none rfl) (hK _ _ (le8_refl _) rfl)
    · intro ac w' hF hL hP hU K hK
      have hB : Below _ _ _ := hL
      have e13 : ac.eval (.tmp 13) = .bool true := hP 7 (by kernel_rfl)
      exact rop_move _ rfl e13 (wanted_none rfl) (hK _ _ (le8_refl _) rfl)
    · intro ac w' hF hL hP hU K hK
      have hB : Below _ _ _ := hL
      have e1 : ac.eval (.tmp 1) = v1 := hF.at 1 (by kernel_rfl)
      have e14 : ac.eval (.tmp 14) = .bool true := hP 8 (by kernel_rfl)
      exact rop_move _ rfl e1 (wanted_of (j := 8) (b := true) rfl rfl e14) (hK _ _ (le8_refl _) rfl)
    · intro ac w' hF hL hP hU K hK
      have hB : Below _ _ _ := hL
      have e15 : ac.eval (.tmp 15) = v1 := hP 9 (by kernel_rfl)
      have e14 : ac.eval (.tmp 14) = .bool true := hP 8 (by kernel_rfl)
      refine rop_call 20 _ _ rfl #[v1] (by simp [e15]) (by kernel_rfl) (wanted_of (j := 8) (b := true) rfl rfl e14) ?_
      refine (HT.out w' hB).mono ?_
      rintro e w2 ⟨rfl, hb⟩
      exact ⟨_, rfl, hK _ _ hb rfl⟩
    · intro ac w' hF hL hP hU K hK
      have hB : Below _ _ _ := hL
      have e16 : ac.eval (.tmp 16) = sumV T := hP 10 (by kernel_rfl)
      have e14 : ac.eval (.tmp 14) = .bool true := hP 8 (by kernel_rfl)
      refine rop_call 27 _ _ rfl #[sumV T] (by simp [e16]) (by kernel_rfl) (wanted_of (j := 8) (b := true) rfl rfl e14) ?_
      refine (HXT.out w').mono ?_
      rintro e w2 ⟨rfl, hb⟩
      exact ⟨_, rfl, hK _ _ hb rfl⟩
    · intro ac w' hF hL hP hU K hK
      have hB : Below _ _ _ := hL
      have e17 : ac.eval (.tmp 17) = .string ⟨#[51, 54, 54, 52, 50, 101, 55, 51, 99, 50, 53, 52, 48, 97, 98, 49, 50, 49, 101, 51, 97, 54, 98, 102, 57, 53, 52, 53, 98, 48, 97, 50, 52, 57, 56, 50, 99, 100, 56, 51, 48, 101, 98, 49, 51, 100, 51, 99, 100, 49, 57, 100, 101, 51, 99, 101, 54, 99, 48, 50, 49, 101, 99, 49]⟩ := hP 11 (by kernel_rfl)
      have e14 : ac.eval (.tmp 14) = .bool true := hP 8 (by kernel_rfl)
      exact rop_bin _ _ _ _ _ rfl e17 rfl (guard_str _ _ _ _ _ _ w') (eql_str_t _ _ rfl w') (wanted_of (j := 8) (b := true) rfl rfl e14) (hK _ _ (le8_refl _) rfl)
    · intro ac w' hF hL hP hU K hK
      have hB : Below _ _ _ := hL
      have e14 : ac.eval (.tmp 14) = .bool true := hP 8 (by kernel_rfl)
      have e18 : ac.eval (.tmp 18) = .bool true := hP 12 (by kernel_rfl)
      exact rop_pick _ _ _ rfl true e14 (by simpa using e18) (wanted_none rfl) (hK _ _ (le8_refl _) rfl)
    · intro ac w' hF hL hP hU K hK
      have hB : Below _ _ _ := hL
      have e19 : ac.eval (.tmp 19) = .bool true := hP 13 (by kernel_rfl)
      exact rop_assign _ rfl e19 (wanted_none rfl) (hK _ _ (le8_refl _) rfl)
    · intro ac w' hF hB hT
      have e0 : ac.eval (.tmp 0) = .bool true := hT 14 (by decide)
      rw [hF.setsG [6, 7, 8, 9, 10, 11, 12, 13, 14, 15, 16, 17, 18, 19, 0] (by kernel_rfl)]
      simp only [List.foldl_cons, List.foldl_nil, List.setIfInBounds_toArray, List.set_cons_succ, List.set_cons_zero, e0]
      generalize ac.eval (.tmp 6) = u6
      generalize ac.eval (.tmp 7) = u7
      generalize ac.eval (.tmp 8) = u8
      generalize ac.eval (.tmp 9) = u9
      generalize ac.eval (.tmp 10) = u10
      generalize ac.eval (.tmp 11) = u11
      generalize ac.eval (.tmp 12) = u12
      generalize ac.eval (.tmp 13) = u13
      generalize ac.eval (.tmp 14) = u14
      generalize ac.eval (.tmp 15) = u15
      generalize ac.eval (.tmp 16) = u16
      generalize ac.eval (.tmp 17) = u17
      generalize ac.eval (.tmp 18) = u18
      generalize ac.eval (.tmp 19) = u19
      clear e0 hT hF ac
      go_wp2
      go_ret
      exact ⟨rfl, below_step b1 (Nat.le_refl _) hB⟩

/-- At most 20 of them. -/
theorem few9_any (v : Value) (l : Hs) (w : World) (hv : Sums w v l) :
    Calls Tryd.prog 17 #[v] w fun e w' => ∃ v', e = .returned v' ∧ SumsB w.heap.size w v' (l.take 20) ∧ w = w' := by
  have hvB := hv.below
  obtain ⟨va, cap, rfl, hlc, hcap⟩ := hv.slice
  by_cases h : 20 < l.length
  · have h' : 20 < (l.length : Int) := by omega
    have hh : Sums w (.slice va 20 cap) (l.take 20) := hv.head 20 (by omega)
    have hb : SumsB w.heap.size w (.slice va 20 cap) (l.take 20) := hh.below
    have HB := Lib.hid hb
    have hcut := fun u => scut_h va l.length cap 20 (by omega) u
    clear hv hvB hh hb
    go_enter Tryd.func17, Tryd.ntmps17
    go_wp2_with (with_reducible refine wpList_slice_runS rfl 29 (.tmp 6) none (some (.const (.int .i64 20))) none rfl rfl rfl rfl rfl (hcut _) ?_)
    go_ret
    first | exact ⟨_, rfl, HB.out, rfl⟩ | exact HB.out | exact ⟨HB.out, rfl⟩ | exact ⟨_, rfl, HB.out⟩
  · have h' : ¬ 20 < (l.length : Int) := by omega
    have hh : l.take 20 = l := List.take_of_length_le (by omega)
    have HH := Lib.hid hh
    have HB := Lib.hid hvB
    clear hv hvB hh
    go_enter Tryd.func17, Tryd.ntmps17
    go_wp2
    go_ret
    rw [HH.out]
    first | exact ⟨_, rfl, HB.out, rfl⟩ | exact HB.out | exact ⟨HB.out, rfl⟩ | exact ⟨_, rfl, HB.out⟩
end Go.Proofs.YtldknddgcbhllaaDoor
