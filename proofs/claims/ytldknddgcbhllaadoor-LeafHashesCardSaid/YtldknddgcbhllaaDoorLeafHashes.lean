/-
  LeafHashes: the package's Leaf, Node and Preimage, and the document's own, tell the same. For every text (its first 300 bytes), any two hashes; the numbers K of the package sha are as the program's own start lays them.
-/
import Derived.Test.YtldknddgcbhllaaDoorLeafLaw
namespace Go.Proofs.YtldknddgcbhllaaDoor.leafHashes
open Go.ChangeShapes Go.WideShapes Go.ChangeAt Go.RowKit

set_option maxHeartbeats 2000000 in
set_option maxRecDepth 100000 in
theorem walk {w : World} (hK : KT w) (s0 : ByteArray) (_ : s0.size ≤ maxLen) (a : List UInt8) (ha : a.length = 32) (b : List UInt8) (hb : b.length = 32) :
    Calls Tryd.prog 3 #[.string s0, sumV a, sumV b] w fun e w' => e = .returned (.bool true) ∧ Below w.heap.size w w' := by
  obtain ⟨w0, hw0⟩ : ∃ w0, w0 = (w.alloc (.cells (a.map u8V).toArray 23)).alloc (.cells (b.map u8V).toArray 23) := ⟨_, rfl⟩
  have b0 : Below w.heap.size w w0 := by rw [hw0]; exact ((Below.refl _ _).alloc (Nat.le_refl _) _).alloc (by simp) _
  have s0s : w0.heap.size = w.heap.size + 2 := by rw [hw0]; simp
  have rb0 : w0.rangeAt (w.heap.size + 1) 0 (b.map u8V) := by
    rw [hw0]
    have := range_box (w.alloc (.cells (a.map u8V).toArray 23)) (b.map u8V) 23
    rwa [World.size_alloc] at this
  have ra0 : w0.rangeAt w.heap.size 0 (a.map u8V) := by
    rw [hw0]
    exact below_range ((Below.refl _ _).alloc (Nat.le_refl _) _) (by simp) (range_box w (a.map u8V) 23)
  have HAW := Lib.hid (awake9_any w0 (hK.old b0))
  have hla0 : w.heap.size < w0.heap.size := by omega
  have hlb0 : w.heap.size + 1 < w0.heap.size := by omega
  obtain ⟨S, hS⟩ : ∃ S, S = shortB s0 300 := ⟨_, rfl⟩
  have hsz : S.size ≤ 300 := by have := shortB_size s0 300; rw [hS]; omega
  obtain ⟨s, hs⟩ : ∃ s, s = S.data.toList := ⟨_, rfl⟩
  have hsl : s.length ≤ 300 := by rw [hs, ← Lib.size_eq]; exact hsz
  obtain ⟨L, hL⟩ : ∃ L, L = Tree.leafH s := ⟨_, rfl⟩
  obtain ⟨N, hN⟩ : ∃ N, N = Tree.node a b := ⟨_, rfl⟩
  obtain ⟨P, hP⟩ : ∃ P : ByteArray, P = ⟨(Tree.pre a b).toArray⟩ := ⟨_, rfl⟩
  have HLl : Hid (L.length = 32) := Lib.hid (by rw [hL]; exact Tree.leafH_length _)
  have HNl : Hid (N.length = 32) := Lib.hid (by rw [hN]; exact Tree.node_length _ _)
  have HLF0 : Hid (∀ u : World, KT u → Calls Tryd.prog 11 #[.string S] u fun e w' => e = .returned (sumV L) ∧ Below u.heap.size u w') := Lib.hid fun u hk => by rw [hL]; exact leafLeaf_any S s hs.symm u hk (by omega)
  have HRL : Hid (∀ u : World, Calls Tryd.prog 12 #[.string S] u fun e w' => e = .returned (sumV L) ∧ Below u.heap.size u w') := Lib.hid fun u => by rw [hL]; exact rleafLeaf_any S s hs.symm u (by omega)
  have HND0 : Hid (∀ u : World, KT u → Calls Tryd.prog 13 #[sumV a, sumV b] u fun e w' => e = .returned (sumV N) ∧ Below u.heap.size u w') := Lib.hid fun u hk => by rw [hN]; exact leafNode_any a b ha hb u hk
  have HRN : Hid (∀ u : World, Calls Tryd.prog 14 #[sumV a, sumV b] u fun e w' => e = .returned (sumV N) ∧ Below u.heap.size u w') := Lib.hid fun u => by rw [hN]; exact rleafNode_any a b ha hb u
  have HPR : Hid (∀ u : World, Calls Tryd.prog 15 #[sumV a, sumV b] u fun e w' => e = .returned (.string P) ∧ Below u.heap.size u w') := Lib.hid fun u => by rw [hP]; exact leafPre_any a b ha hb u
  have HRP : Hid (∀ u : World, Calls Tryd.prog 16 #[sumV a, sumV b] u fun e w' => e = .returned (.string P) ∧ Below u.heap.size u w') := Lib.hid fun u => by rw [hP]; exact rleafPre_any a b ha hb u
  have HA := Lib.hid ha
  have HB := Lib.hid hb
  have HKW := Lib.hid hK
  have HS : Hid (shortB s0 300 = S) := Lib.hid hS.symm
  have Hb0 := Lib.hid b0
  clear hs hL hN hP ha hb hK hS s0s hsz hsl b0
  unfold sumV
  go_enter Tryd.func3, Tryd.ntmps3
  go_upto_region 1 with (fail)
  rw [← hw0]
  clear hw0
  obtain ⟨X0, hX0⟩ : ∃ X0, X0 = shortB s0 300 := ⟨_, rfl⟩
  rw [HS.out] at hX0
  have hcase : (300 < s0.size ∧ s0.extract 0 300 = S) ∨ (¬ 300 < s0.size ∧ s0 = S) := by
    have := HS.out
    unfold shortB at this
    split at this
    · exact .inl ⟨by assumption, this⟩
    · exact .inr ⟨by assumption, this⟩
  clear hX0
  have fin : ∀ (w1 : World), Below w0.heap.size w0 w1 → True := fun _ _ => trivial
  rcases hcase with ⟨hc, hx⟩ | ⟨hc, hx⟩
  · have hc' : 300 < (s0.size : Int) := by omega
    have hsz9 : 300 ≤ s0.size := by omega
    clear HS
    go_upto_region 4 with (go_at_call 10; ((with_reducible refine HAW.out.mono ?_); rintro e w1 ⟨rfl, b1⟩))
    try rw [hx]
    have la : w.heap.size < w1.heap.size := Nat.lt_of_lt_of_le hla0 b1.size
    have lb : w.heap.size + 1 < w1.heap.size := Nat.lt_of_lt_of_le hlb0 b1.size
    have ra := below_range b1 hla0 ra0
    have rb := below_range b1 hlb0 rb0
    have bw1 := below_step Hb0.out (Nat.le_refl _) b1
    have HLF : Hid (∀ u : World, Below w1.heap.size w1 u → Calls Tryd.prog 11 #[.string S] u fun e w' => e = .returned (sumV L) ∧ Below u.heap.size u w') := Lib.hid fun u hu => HLF0.out u ((HKW.out.old bw1).old hu)
    have HND : Hid (∀ u : World, Below w1.heap.size w1 u → Calls Tryd.prog 13 #[sumV a, sumV b] u fun e w' => e = .returned (sumV N) ∧ Below u.heap.size u w') := Lib.hid fun u hu => HND0.out u ((HKW.out.old bw1).old hu)

    try simp only [Act.put]
    refine wp_region_tab [RT.is (.bool true), RT.is (.bool true), RT.is (.string S), RT.is (sumV L), RT.is (.string S), RT.is (sumV L), RT.is (.bool true), RT.is (.bool true), RT.is (.bool true), RT.is (sumV a), RT.is (sumV b), RT.is (sumV N), RT.is (sumV a), RT.is (sumV b), RT.is (sumV N), RT.is (.bool true), RT.is (.bool true), RT.is (.bool true), RT.is (sumV a), RT.is (sumV b), RT.is (.string P), RT.is (sumV a), RT.is (sumV b), RT.is (.string P), RT.is (.bool true), RT.is (.bool true), RT.is (.bool true)] (by kernel_rfl) (by kernel_rfl) (by kernel_rfl) (by kernel_rfl) ⟨?_, ?_, ?_, ?_, ?_, ?_, ?_, ?_, ?_, ?_, ?_, ?_, ?_, ?_, ?_, ?_, ?_, ?_, ?_, ?_, ?_, ?_, ?_, ?_, ?_, ?_, ?_, trivial⟩ ?_
    · intro ac w' hF hL hP hU K hK
      have hB := below_undrew hL
      have e7 : ac.eval (.tmp 7) = .bool true := hF.at 7 (by kernel_rfl)
      exact rop_move _ rfl e7 (wanted_none rfl) (hK _ _ (le8_refl _) rfl)
    · intro ac w' hF hL hP hU K hK
      have hB := below_undrew hL
      have e14 : ac.eval (.tmp 14) = .bool true := hP 0 (by kernel_rfl)
      exact rop_move _ rfl e14 (wanted_none rfl) (hK _ _ (le8_refl _) rfl)
    · intro ac w' hF hL hP hU K hK
      have hB := below_undrew hL
      have e0 : ac.eval (.tmp 0) = .string S := hF.at 0 (by kernel_rfl)
      have e15 : ac.eval (.tmp 15) = .bool true := hP 1 (by kernel_rfl)
      exact rop_move _ rfl e0 (wanted_of (j := 1) (b := true) rfl rfl e15) (hK _ _ (le8_refl _) rfl)
    · intro ac w' hF hL hP hU K hK
      have hB := below_undrew hL
      have e16 : ac.eval (.tmp 16) = .string S := hP 2 (by kernel_rfl)
      have e15 : ac.eval (.tmp 15) = .bool true := hP 1 (by kernel_rfl)
      refine rop_call 11 _ _ rfl #[.string S] (by simp [e16]) (by kernel_rfl) (wanted_of (j := 1) (b := true) rfl rfl e15) ?_
      refine (HLF.out w' hB).mono ?_
      rintro e w2 ⟨rfl, hb⟩
      exact ⟨_, rfl, hK _ _ hb rfl⟩
    · intro ac w' hF hL hP hU K hK
      have hB := below_undrew hL
      have e0 : ac.eval (.tmp 0) = .string S := hF.at 0 (by kernel_rfl)
      have e15 : ac.eval (.tmp 15) = .bool true := hP 1 (by kernel_rfl)
      exact rop_move _ rfl e0 (wanted_of (j := 1) (b := true) rfl rfl e15) (hK _ _ (le8_refl _) rfl)
    · intro ac w' hF hL hP hU K hK
      have hB := below_undrew hL
      have e18 : ac.eval (.tmp 18) = .string S := hP 4 (by kernel_rfl)
      have e15 : ac.eval (.tmp 15) = .bool true := hP 1 (by kernel_rfl)
      refine rop_call 12 _ _ rfl #[.string S] (by simp [e18]) (by kernel_rfl) (wanted_of (j := 1) (b := true) rfl rfl e15) ?_
      refine (HRL.out w').mono ?_
      rintro e w2 ⟨rfl, hb⟩
      exact ⟨_, rfl, hK _ _ hb rfl⟩
    · intro ac w' hF hL hP hU K hK
      have hB := below_undrew hL
      have e17 : ac.eval (.tmp 17) = sumV L := hP 3 (by kernel_rfl)
      have e19 : ac.eval (.tmp 19) = sumV L := hP 5 (by kernel_rfl)
      have e15 : ac.eval (.tmp 15) = .bool true := hP 1 (by kernel_rfl)
      exact rop_bin _ _ _ _ _ rfl e17 e19 (guard_run .eql _ _ _ _ w') (eql_sum_tt L L HLl.out HLl.out rfl w') (wanted_of (j := 1) (b := true) rfl rfl e15) (hK _ _ (le8_refl _) rfl)
    · intro ac w' hF hL hP hU K hK
      have hB := below_undrew hL
      have e15 : ac.eval (.tmp 15) = .bool true := hP 1 (by kernel_rfl)
      have e20 : ac.eval (.tmp 20) = .bool true := hP 6 (by kernel_rfl)
      exact rop_pick _ _ _ rfl true e15 (by simpa using e20) (wanted_none rfl) (hK _ _ (le8_refl _) rfl)
    · intro ac w' hF hL hP hU K hK
      have hB := below_undrew hL
      have e21 : ac.eval (.tmp 21) = .bool true := hP 7 (by kernel_rfl)
      exact rop_move _ rfl e21 (wanted_none rfl) (hK _ _ (le8_refl _) rfl)
    · intro ac w' hF hL hP hU K hK
      have hB := below_undrew hL
      have e4 : ac.eval (.tmp 4) = .pointer (some ⟨w.heap.size, 0, none⟩) := hF.at 4 (by kernel_rfl)
      have e22 : ac.eval (.tmp 22) = .bool true := hP 8 (by kernel_rfl)
      exact rop_ld _ _ rfl e4 (run_loadAt_mid _ _ _ _ _ _ (below_range hB la ra) Tryd.underlying23 rfl (sum_info' HA.out)) (wanted_of (j := 8) (b := true) rfl rfl e22) (hK _ _ (le8_refl _) rfl)
    · intro ac w' hF hL hP hU K hK
      have hB := below_undrew hL
      have e5 : ac.eval (.tmp 5) = .pointer (some ⟨w.heap.size + 1, 0, none⟩) := hF.at 5 (by kernel_rfl)
      have e22 : ac.eval (.tmp 22) = .bool true := hP 8 (by kernel_rfl)
      exact rop_ld _ _ rfl e5 (run_loadAt_mid _ _ _ _ _ _ (below_range hB lb rb) Tryd.underlying23 rfl (sum_info' HB.out)) (wanted_of (j := 8) (b := true) rfl rfl e22) (hK _ _ (le8_refl _) rfl)
    · intro ac w' hF hL hP hU K hK
      have hB := below_undrew hL
      have e23 : ac.eval (.tmp 23) = sumV a := hP 9 (by kernel_rfl)
      have e24 : ac.eval (.tmp 24) = sumV b := hP 10 (by kernel_rfl)
      have e22 : ac.eval (.tmp 22) = .bool true := hP 8 (by kernel_rfl)
      refine rop_call 13 _ _ rfl #[sumV a, sumV b] (by simp [e23, e24]) (by kernel_rfl) (wanted_of (j := 8) (b := true) rfl rfl e22) ?_
      refine (HND.out w' hB).mono ?_
      rintro e w2 ⟨rfl, hb⟩
      exact ⟨_, rfl, hK _ _ hb rfl⟩
    · intro ac w' hF hL hP hU K hK
      have hB := below_undrew hL
      have e4 : ac.eval (.tmp 4) = .pointer (some ⟨w.heap.size, 0, none⟩) := hF.at 4 (by kernel_rfl)
      have e22 : ac.eval (.tmp 22) = .bool true := hP 8 (by kernel_rfl)
      exact rop_ld _ _ rfl e4 (run_loadAt_mid _ _ _ _ _ _ (below_range hB la ra) Tryd.underlying23 rfl (sum_info' HA.out)) (wanted_of (j := 8) (b := true) rfl rfl e22) (hK _ _ (le8_refl _) rfl)
    · intro ac w' hF hL hP hU K hK
      have hB := below_undrew hL
      have e5 : ac.eval (.tmp 5) = .pointer (some ⟨w.heap.size + 1, 0, none⟩) := hF.at 5 (by kernel_rfl)
      have e22 : ac.eval (.tmp 22) = .bool true := hP 8 (by kernel_rfl)
      exact rop_ld _ _ rfl e5 (run_loadAt_mid _ _ _ _ _ _ (below_range hB lb rb) Tryd.underlying23 rfl (sum_info' HB.out)) (wanted_of (j := 8) (b := true) rfl rfl e22) (hK _ _ (le8_refl _) rfl)
    · intro ac w' hF hL hP hU K hK
      have hB := below_undrew hL
      have e26 : ac.eval (.tmp 26) = sumV a := hP 12 (by kernel_rfl)
      have e27 : ac.eval (.tmp 27) = sumV b := hP 13 (by kernel_rfl)
      have e22 : ac.eval (.tmp 22) = .bool true := hP 8 (by kernel_rfl)
      refine rop_call 14 _ _ rfl #[sumV a, sumV b] (by simp [e26, e27]) (by kernel_rfl) (wanted_of (j := 8) (b := true) rfl rfl e22) ?_
      refine (HRN.out w').mono ?_
      rintro e w2 ⟨rfl, hb⟩
      exact ⟨_, rfl, hK _ _ hb rfl⟩
    · intro ac w' hF hL hP hU K hK
      have hB := below_undrew hL
      have e25 : ac.eval (.tmp 25) = sumV N := hP 11 (by kernel_rfl)
      have e28 : ac.eval (.tmp 28) = sumV N := hP 14 (by kernel_rfl)
      have e22 : ac.eval (.tmp 22) = .bool true := hP 8 (by kernel_rfl)
      exact rop_bin _ _ _ _ _ rfl e25 e28 (guard_run .eql _ _ _ _ w') (eql_sum_tt N N HNl.out HNl.out rfl w') (wanted_of (j := 8) (b := true) rfl rfl e22) (hK _ _ (le8_refl _) rfl)
    · intro ac w' hF hL hP hU K hK
      have hB := below_undrew hL
      have e22 : ac.eval (.tmp 22) = .bool true := hP 8 (by kernel_rfl)
      have e29 : ac.eval (.tmp 29) = .bool true := hP 15 (by kernel_rfl)
      exact rop_pick _ _ _ rfl true e22 (by simpa using e29) (wanted_none rfl) (hK _ _ (le8_refl _) rfl)
    · intro ac w' hF hL hP hU K hK
      have hB := below_undrew hL
      have e30 : ac.eval (.tmp 30) = .bool true := hP 16 (by kernel_rfl)
      exact rop_move _ rfl e30 (wanted_none rfl) (hK _ _ (le8_refl _) rfl)
    · intro ac w' hF hL hP hU K hK
      have hB := below_undrew hL
      have e4 : ac.eval (.tmp 4) = .pointer (some ⟨w.heap.size, 0, none⟩) := hF.at 4 (by kernel_rfl)
      have e31 : ac.eval (.tmp 31) = .bool true := hP 17 (by kernel_rfl)
      exact rop_ld _ _ rfl e4 (run_loadAt_mid _ _ _ _ _ _ (below_range hB la ra) Tryd.underlying23 rfl (sum_info' HA.out)) (wanted_of (j := 17) (b := true) rfl rfl e31) (hK _ _ (le8_refl _) rfl)
    · intro ac w' hF hL hP hU K hK
      have hB := below_undrew hL
      have e5 : ac.eval (.tmp 5) = .pointer (some ⟨w.heap.size + 1, 0, none⟩) := hF.at 5 (by kernel_rfl)
      have e31 : ac.eval (.tmp 31) = .bool true := hP 17 (by kernel_rfl)
      exact rop_ld _ _ rfl e5 (run_loadAt_mid _ _ _ _ _ _ (below_range hB lb rb) Tryd.underlying23 rfl (sum_info' HB.out)) (wanted_of (j := 17) (b := true) rfl rfl e31) (hK _ _ (le8_refl _) rfl)
    · intro ac w' hF hL hP hU K hK
      have hB := below_undrew hL
      have e32 : ac.eval (.tmp 32) = sumV a := hP 18 (by kernel_rfl)
      have e33 : ac.eval (.tmp 33) = sumV b := hP 19 (by kernel_rfl)
      have e31 : ac.eval (.tmp 31) = .bool true := hP 17 (by kernel_rfl)
      refine rop_call 15 _ _ rfl #[sumV a, sumV b] (by simp [e32, e33]) (by kernel_rfl) (wanted_of (j := 17) (b := true) rfl rfl e31) ?_
      refine (HPR.out w').mono ?_
      rintro e w2 ⟨rfl, hb⟩
      exact ⟨_, rfl, hK _ _ hb rfl⟩
    · intro ac w' hF hL hP hU K hK
      have hB := below_undrew hL
      have e4 : ac.eval (.tmp 4) = .pointer (some ⟨w.heap.size, 0, none⟩) := hF.at 4 (by kernel_rfl)
      have e31 : ac.eval (.tmp 31) = .bool true := hP 17 (by kernel_rfl)
      exact rop_ld _ _ rfl e4 (run_loadAt_mid _ _ _ _ _ _ (below_range hB la ra) Tryd.underlying23 rfl (sum_info' HA.out)) (wanted_of (j := 17) (b := true) rfl rfl e31) (hK _ _ (le8_refl _) rfl)
    · intro ac w' hF hL hP hU K hK
      have hB := below_undrew hL
      have e5 : ac.eval (.tmp 5) = .pointer (some ⟨w.heap.size + 1, 0, none⟩) := hF.at 5 (by kernel_rfl)
      have e31 : ac.eval (.tmp 31) = .bool true := hP 17 (by kernel_rfl)
      exact rop_ld _ _ rfl e5 (run_loadAt_mid _ _ _ _ _ _ (below_range hB lb rb) Tryd.underlying23 rfl (sum_info' HB.out)) (wanted_of (j := 17) (b := true) rfl rfl e31) (hK _ _ (le8_refl _) rfl)
    · intro ac w' hF hL hP hU K hK
      have hB := below_undrew hL
      have e35 : ac.eval (.tmp 35) = sumV a := hP 21 (by kernel_rfl)
      have e36 : ac.eval (.tmp 36) = sumV b := hP 22 (by kernel_rfl)
      have e31 : ac.eval (.tmp 31) = .bool true := hP 17 (by kernel_rfl)
      refine rop_call 16 _ _ rfl #[sumV a, sumV b] (by simp [e35, e36]) (by kernel_rfl) (wanted_of (j := 17) (b := true) rfl rfl e31) ?_
      refine (HRP.out w').mono ?_
      rintro e w2 ⟨rfl, hb⟩
      exact ⟨_, rfl, hK _ _ hb rfl⟩
    · intro ac w' hF hL hP hU K hK
      have hB := below_undrew hL
      have e34 : ac.eval (.tmp 34) = .string P := hP 20 (by kernel_rfl)
      have e37 : ac.eval (.tmp 37) = .string P := hP 23 (by kernel_rfl)
      have e31 : ac.eval (.tmp 31) = .bool true := hP 17 (by kernel_rfl)
      exact rop_bin _ _ _ _ _ rfl e34 e37 (guard_str _ _ _ _ _ _ w') (eql_str_t _ _ rfl w') (wanted_of (j := 17) (b := true) rfl rfl e31) (hK _ _ (le8_refl _) rfl)
    · intro ac w' hF hL hP hU K hK
      have hB := below_undrew hL
      have e31 : ac.eval (.tmp 31) = .bool true := hP 17 (by kernel_rfl)
      have e38 : ac.eval (.tmp 38) = .bool true := hP 24 (by kernel_rfl)
      exact rop_pick _ _ _ rfl true e31 (by simpa using e38) (wanted_none rfl) (hK _ _ (le8_refl _) rfl)
    · intro ac w' hF hL hP hU K hK
      have hB := below_undrew hL
      have e39 : ac.eval (.tmp 39) = .bool true := hP 25 (by kernel_rfl)
      exact rop_assign _ rfl e39 (wanted_none rfl) (hK _ _ (le8_refl _) rfl)
    · intro ac w' hF hB hT
      have e6 : ac.eval (.tmp 6) = .bool true := hT 26 (by decide)
      rw [hF.setsG [14, 15, 16, 17, 18, 19, 20, 21, 22, 23, 24, 25, 26, 27, 28, 29, 30, 31, 32, 33, 34, 35, 36, 37, 38, 39, 6] (by kernel_rfl)]
      simp only [List.foldl_cons, List.foldl_nil, List.setIfInBounds_toArray, List.set_cons_succ, List.set_cons_zero, e6]
      generalize ac.eval (.tmp 14) = u14
      generalize ac.eval (.tmp 15) = u15
      generalize ac.eval (.tmp 16) = u16
      generalize ac.eval (.tmp 17) = u17
      generalize ac.eval (.tmp 18) = u18
      generalize ac.eval (.tmp 19) = u19
      generalize ac.eval (.tmp 20) = u20
      generalize ac.eval (.tmp 21) = u21
      generalize ac.eval (.tmp 22) = u22
      generalize ac.eval (.tmp 23) = u23
      generalize ac.eval (.tmp 24) = u24
      generalize ac.eval (.tmp 25) = u25
      generalize ac.eval (.tmp 26) = u26
      generalize ac.eval (.tmp 27) = u27
      generalize ac.eval (.tmp 28) = u28
      generalize ac.eval (.tmp 29) = u29
      generalize ac.eval (.tmp 30) = u30
      generalize ac.eval (.tmp 31) = u31
      generalize ac.eval (.tmp 32) = u32
      generalize ac.eval (.tmp 33) = u33
      generalize ac.eval (.tmp 34) = u34
      generalize ac.eval (.tmp 35) = u35
      generalize ac.eval (.tmp 36) = u36
      generalize ac.eval (.tmp 37) = u37
      generalize ac.eval (.tmp 38) = u38
      generalize ac.eval (.tmp 39) = u39
      clear e6 hT hF ac
      go_wp2
      go_ret
      exact ⟨rfl, below_step bw1 (Nat.le_refl _) hB⟩
  · have hc' : ¬ 300 < (s0.size : Int) := by omega
    subst hx
    clear HS
    go_upto_region 4 with (go_at_call 10; ((with_reducible refine HAW.out.mono ?_); rintro e w1 ⟨rfl, b1⟩))
    have la : w.heap.size < w1.heap.size := Nat.lt_of_lt_of_le hla0 b1.size
    have lb : w.heap.size + 1 < w1.heap.size := Nat.lt_of_lt_of_le hlb0 b1.size
    have ra := below_range b1 hla0 ra0
    have rb := below_range b1 hlb0 rb0
    have bw1 := below_step Hb0.out (Nat.le_refl _) b1
    have HLF : Hid (∀ u : World, Below w1.heap.size w1 u → Calls Tryd.prog 11 #[.string s0] u fun e w' => e = .returned (sumV L) ∧ Below u.heap.size u w') := Lib.hid fun u hu => HLF0.out u ((HKW.out.old bw1).old hu)
    have HND : Hid (∀ u : World, Below w1.heap.size w1 u → Calls Tryd.prog 13 #[sumV a, sumV b] u fun e w' => e = .returned (sumV N) ∧ Below u.heap.size u w') := Lib.hid fun u hu => HND0.out u ((HKW.out.old bw1).old hu)

    try simp only [Act.put]
    refine wp_region_tab [RT.is (.bool true), RT.is (.bool true), RT.is (.string s0), RT.is (sumV L), RT.is (.string s0), RT.is (sumV L), RT.is (.bool true), RT.is (.bool true), RT.is (.bool true), RT.is (sumV a), RT.is (sumV b), RT.is (sumV N), RT.is (sumV a), RT.is (sumV b), RT.is (sumV N), RT.is (.bool true), RT.is (.bool true), RT.is (.bool true), RT.is (sumV a), RT.is (sumV b), RT.is (.string P), RT.is (sumV a), RT.is (sumV b), RT.is (.string P), RT.is (.bool true), RT.is (.bool true), RT.is (.bool true)] (by kernel_rfl) (by kernel_rfl) (by kernel_rfl) (by kernel_rfl) ⟨?_, ?_, ?_, ?_, ?_, ?_, ?_, ?_, ?_, ?_, ?_, ?_, ?_, ?_, ?_, ?_, ?_, ?_, ?_, ?_, ?_, ?_, ?_, ?_, ?_, ?_, ?_, trivial⟩ ?_
    · intro ac w' hF hL hP hU K hK
      have hB := below_undrew hL
      have e7 : ac.eval (.tmp 7) = .bool true := hF.at 7 (by kernel_rfl)
      exact rop_move _ rfl e7 (wanted_none rfl) (hK _ _ (le8_refl _) rfl)
    · intro ac w' hF hL hP hU K hK
      have hB := below_undrew hL
      have e14 : ac.eval (.tmp 14) = .bool true := hP 0 (by kernel_rfl)
      exact rop_move _ rfl e14 (wanted_none rfl) (hK _ _ (le8_refl _) rfl)
    · intro ac w' hF hL hP hU K hK
      have hB := below_undrew hL
      have e0 : ac.eval (.tmp 0) = .string s0 := hF.at 0 (by kernel_rfl)
      have e15 : ac.eval (.tmp 15) = .bool true := hP 1 (by kernel_rfl)
      exact rop_move _ rfl e0 (wanted_of (j := 1) (b := true) rfl rfl e15) (hK _ _ (le8_refl _) rfl)
    · intro ac w' hF hL hP hU K hK
      have hB := below_undrew hL
      have e16 : ac.eval (.tmp 16) = .string s0 := hP 2 (by kernel_rfl)
      have e15 : ac.eval (.tmp 15) = .bool true := hP 1 (by kernel_rfl)
      refine rop_call 11 _ _ rfl #[.string s0] (by simp [e16]) (by kernel_rfl) (wanted_of (j := 1) (b := true) rfl rfl e15) ?_
      refine (HLF.out w' hB).mono ?_
      rintro e w2 ⟨rfl, hb⟩
      exact ⟨_, rfl, hK _ _ hb rfl⟩
    · intro ac w' hF hL hP hU K hK
      have hB := below_undrew hL
      have e0 : ac.eval (.tmp 0) = .string s0 := hF.at 0 (by kernel_rfl)
      have e15 : ac.eval (.tmp 15) = .bool true := hP 1 (by kernel_rfl)
      exact rop_move _ rfl e0 (wanted_of (j := 1) (b := true) rfl rfl e15) (hK _ _ (le8_refl _) rfl)
    · intro ac w' hF hL hP hU K hK
      have hB := below_undrew hL
      have e18 : ac.eval (.tmp 18) = .string s0 := hP 4 (by kernel_rfl)
      have e15 : ac.eval (.tmp 15) = .bool true := hP 1 (by kernel_rfl)
      refine rop_call 12 _ _ rfl #[.string s0] (by simp [e18]) (by kernel_rfl) (wanted_of (j := 1) (b := true) rfl rfl e15) ?_
      refine (HRL.out w').mono ?_
      rintro e w2 ⟨rfl, hb⟩
      exact ⟨_, rfl, hK _ _ hb rfl⟩
    · intro ac w' hF hL hP hU K hK
      have hB := below_undrew hL
      have e17 : ac.eval (.tmp 17) = sumV L := hP 3 (by kernel_rfl)
      have e19 : ac.eval (.tmp 19) = sumV L := hP 5 (by kernel_rfl)
      have e15 : ac.eval (.tmp 15) = .bool true := hP 1 (by kernel_rfl)
      exact rop_bin _ _ _ _ _ rfl e17 e19 (guard_run .eql _ _ _ _ w') (eql_sum_tt L L HLl.out HLl.out rfl w') (wanted_of (j := 1) (b := true) rfl rfl e15) (hK _ _ (le8_refl _) rfl)
    · intro ac w' hF hL hP hU K hK
      have hB := below_undrew hL
      have e15 : ac.eval (.tmp 15) = .bool true := hP 1 (by kernel_rfl)
      have e20 : ac.eval (.tmp 20) = .bool true := hP 6 (by kernel_rfl)
      exact rop_pick _ _ _ rfl true e15 (by simpa using e20) (wanted_none rfl) (hK _ _ (le8_refl _) rfl)
    · intro ac w' hF hL hP hU K hK
      have hB := below_undrew hL
      have e21 : ac.eval (.tmp 21) = .bool true := hP 7 (by kernel_rfl)
      exact rop_move _ rfl e21 (wanted_none rfl) (hK _ _ (le8_refl _) rfl)
    · intro ac w' hF hL hP hU K hK
      have hB := below_undrew hL
      have e4 : ac.eval (.tmp 4) = .pointer (some ⟨w.heap.size, 0, none⟩) := hF.at 4 (by kernel_rfl)
      have e22 : ac.eval (.tmp 22) = .bool true := hP 8 (by kernel_rfl)
      exact rop_ld _ _ rfl e4 (run_loadAt_mid _ _ _ _ _ _ (below_range hB la ra) Tryd.underlying23 rfl (sum_info' HA.out)) (wanted_of (j := 8) (b := true) rfl rfl e22) (hK _ _ (le8_refl _) rfl)
    · intro ac w' hF hL hP hU K hK
      have hB := below_undrew hL
      have e5 : ac.eval (.tmp 5) = .pointer (some ⟨w.heap.size + 1, 0, none⟩) := hF.at 5 (by kernel_rfl)
      have e22 : ac.eval (.tmp 22) = .bool true := hP 8 (by kernel_rfl)
      exact rop_ld _ _ rfl e5 (run_loadAt_mid _ _ _ _ _ _ (below_range hB lb rb) Tryd.underlying23 rfl (sum_info' HB.out)) (wanted_of (j := 8) (b := true) rfl rfl e22) (hK _ _ (le8_refl _) rfl)
    · intro ac w' hF hL hP hU K hK
      have hB := below_undrew hL
      have e23 : ac.eval (.tmp 23) = sumV a := hP 9 (by kernel_rfl)
      have e24 : ac.eval (.tmp 24) = sumV b := hP 10 (by kernel_rfl)
      have e22 : ac.eval (.tmp 22) = .bool true := hP 8 (by kernel_rfl)
      refine rop_call 13 _ _ rfl #[sumV a, sumV b] (by simp [e23, e24]) (by kernel_rfl) (wanted_of (j := 8) (b := true) rfl rfl e22) ?_
      refine (HND.out w' hB).mono ?_
      rintro e w2 ⟨rfl, hb⟩
      exact ⟨_, rfl, hK _ _ hb rfl⟩
    · intro ac w' hF hL hP hU K hK
      have hB := below_undrew hL
      have e4 : ac.eval (.tmp 4) = .pointer (some ⟨w.heap.size, 0, none⟩) := hF.at 4 (by kernel_rfl)
      have e22 : ac.eval (.tmp 22) = .bool true := hP 8 (by kernel_rfl)
      exact rop_ld _ _ rfl e4 (run_loadAt_mid _ _ _ _ _ _ (below_range hB la ra) Tryd.underlying23 rfl (sum_info' HA.out)) (wanted_of (j := 8) (b := true) rfl rfl e22) (hK _ _ (le8_refl _) rfl)
    · intro ac w' hF hL hP hU K hK
      have hB := below_undrew hL
      have e5 : ac.eval (.tmp 5) = .pointer (some ⟨w.heap.size + 1, 0, none⟩) := hF.at 5 (by kernel_rfl)
      have e22 : ac.eval (.tmp 22) = .bool true := hP 8 (by kernel_rfl)
      exact rop_ld _ _ rfl e5 (run_loadAt_mid _ _ _ _ _ _ (below_range hB lb rb) Tryd.underlying23 rfl (sum_info' HB.out)) (wanted_of (j := 8) (b := true) rfl rfl e22) (hK _ _ (le8_refl _) rfl)
    · intro ac w' hF hL hP hU K hK
      have hB := below_undrew hL
      have e26 : ac.eval (.tmp 26) = sumV a := hP 12 (by kernel_rfl)
      have e27 : ac.eval (.tmp 27) = sumV b := hP 13 (by kernel_rfl)
      have e22 : ac.eval (.tmp 22) = .bool true := hP 8 (by kernel_rfl)
      refine rop_call 14 _ _ rfl #[sumV a, sumV b] (by simp [e26, e27]) (by kernel_rfl) (wanted_of (j := 8) (b := true) rfl rfl e22) ?_
      refine (HRN.out w').mono ?_
      rintro e w2 ⟨rfl, hb⟩
      exact ⟨_, rfl, hK _ _ hb rfl⟩
    · intro ac w' hF hL hP hU K hK
      have hB := below_undrew hL
      have e25 : ac.eval (.tmp 25) = sumV N := hP 11 (by kernel_rfl)
      have e28 : ac.eval (.tmp 28) = sumV N := hP 14 (by kernel_rfl)
      have e22 : ac.eval (.tmp 22) = .bool true := hP 8 (by kernel_rfl)
      exact rop_bin _ _ _ _ _ rfl e25 e28 (guard_run .eql _ _ _ _ w') (eql_sum_tt N N HNl.out HNl.out rfl w') (wanted_of (j := 8) (b := true) rfl rfl e22) (hK _ _ (le8_refl _) rfl)
    · intro ac w' hF hL hP hU K hK
      have hB := below_undrew hL
      have e22 : ac.eval (.tmp 22) = .bool true := hP 8 (by kernel_rfl)
      have e29 : ac.eval (.tmp 29) = .bool true := hP 15 (by kernel_rfl)
      exact rop_pick _ _ _ rfl true e22 (by simpa using e29) (wanted_none rfl) (hK _ _ (le8_refl _) rfl)
    · intro ac w' hF hL hP hU K hK
      have hB := below_undrew hL
      have e30 : ac.eval (.tmp 30) = .bool true := hP 16 (by kernel_rfl)
      exact rop_move _ rfl e30 (wanted_none rfl) (hK _ _ (le8_refl _) rfl)
    · intro ac w' hF hL hP hU K hK
      have hB := below_undrew hL
      have e4 : ac.eval (.tmp 4) = .pointer (some ⟨w.heap.size, 0, none⟩) := hF.at 4 (by kernel_rfl)
      have e31 : ac.eval (.tmp 31) = .bool true := hP 17 (by kernel_rfl)
      exact rop_ld _ _ rfl e4 (run_loadAt_mid _ _ _ _ _ _ (below_range hB la ra) Tryd.underlying23 rfl (sum_info' HA.out)) (wanted_of (j := 17) (b := true) rfl rfl e31) (hK _ _ (le8_refl _) rfl)
    · intro ac w' hF hL hP hU K hK
      have hB := below_undrew hL
      have e5 : ac.eval (.tmp 5) = .pointer (some ⟨w.heap.size + 1, 0, none⟩) := hF.at 5 (by kernel_rfl)
      have e31 : ac.eval (.tmp 31) = .bool true := hP 17 (by kernel_rfl)
      exact rop_ld _ _ rfl e5 (run_loadAt_mid _ _ _ _ _ _ (below_range hB lb rb) Tryd.underlying23 rfl (sum_info' HB.out)) (wanted_of (j := 17) (b := true) rfl rfl e31) (hK _ _ (le8_refl _) rfl)
    · intro ac w' hF hL hP hU K hK
      have hB := below_undrew hL
      have e32 : ac.eval (.tmp 32) = sumV a := hP 18 (by kernel_rfl)
      have e33 : ac.eval (.tmp 33) = sumV b := hP 19 (by kernel_rfl)
      have e31 : ac.eval (.tmp 31) = .bool true := hP 17 (by kernel_rfl)
      refine rop_call 15 _ _ rfl #[sumV a, sumV b] (by simp [e32, e33]) (by kernel_rfl) (wanted_of (j := 17) (b := true) rfl rfl e31) ?_
      refine (HPR.out w').mono ?_
      rintro e w2 ⟨rfl, hb⟩
      exact ⟨_, rfl, hK _ _ hb rfl⟩
    · intro ac w' hF hL hP hU K hK
      have hB := below_undrew hL
      have e4 : ac.eval (.tmp 4) = .pointer (some ⟨w.heap.size, 0, none⟩) := hF.at 4 (by kernel_rfl)
      have e31 : ac.eval (.tmp 31) = .bool true := hP 17 (by kernel_rfl)
      exact rop_ld _ _ rfl e4 (run_loadAt_mid _ _ _ _ _ _ (below_range hB la ra) Tryd.underlying23 rfl (sum_info' HA.out)) (wanted_of (j := 17) (b := true) rfl rfl e31) (hK _ _ (le8_refl _) rfl)
    · intro ac w' hF hL hP hU K hK
      have hB := below_undrew hL
      have e5 : ac.eval (.tmp 5) = .pointer (some ⟨w.heap.size + 1, 0, none⟩) := hF.at 5 (by kernel_rfl)
      have e31 : ac.eval (.tmp 31) = .bool true := hP 17 (by kernel_rfl)
      exact rop_ld _ _ rfl e5 (run_loadAt_mid _ _ _ _ _ _ (below_range hB lb rb) Tryd.underlying23 rfl (sum_info' HB.out)) (wanted_of (j := 17) (b := true) rfl rfl e31) (hK _ _ (le8_refl _) rfl)
    · intro ac w' hF hL hP hU K hK
      have hB := below_undrew hL
      have e35 : ac.eval (.tmp 35) = sumV a := hP 21 (by kernel_rfl)
      have e36 : ac.eval (.tmp 36) = sumV b := hP 22 (by kernel_rfl)
      have e31 : ac.eval (.tmp 31) = .bool true := hP 17 (by kernel_rfl)
      refine rop_call 16 _ _ rfl #[sumV a, sumV b] (by simp [e35, e36]) (by kernel_rfl) (wanted_of (j := 17) (b := true) rfl rfl e31) ?_
      refine (HRP.out w').mono ?_
      rintro e w2 ⟨rfl, hb⟩
      exact ⟨_, rfl, hK _ _ hb rfl⟩
    · intro ac w' hF hL hP hU K hK
      have hB := below_undrew hL
      have e34 : ac.eval (.tmp 34) = .string P := hP 20 (by kernel_rfl)
      have e37 : ac.eval (.tmp 37) = .string P := hP 23 (by kernel_rfl)
      have e31 : ac.eval (.tmp 31) = .bool true := hP 17 (by kernel_rfl)
      exact rop_bin _ _ _ _ _ rfl e34 e37 (guard_str _ _ _ _ _ _ w') (eql_str_t _ _ rfl w') (wanted_of (j := 17) (b := true) rfl rfl e31) (hK _ _ (le8_refl _) rfl)
    · intro ac w' hF hL hP hU K hK
      have hB := below_undrew hL
      have e31 : ac.eval (.tmp 31) = .bool true := hP 17 (by kernel_rfl)
      have e38 : ac.eval (.tmp 38) = .bool true := hP 24 (by kernel_rfl)
      exact rop_pick _ _ _ rfl true e31 (by simpa using e38) (wanted_none rfl) (hK _ _ (le8_refl _) rfl)
    · intro ac w' hF hL hP hU K hK
      have hB := below_undrew hL
      have e39 : ac.eval (.tmp 39) = .bool true := hP 25 (by kernel_rfl)
      exact rop_assign _ rfl e39 (wanted_none rfl) (hK _ _ (le8_refl _) rfl)
    · intro ac w' hF hB hT
      have e6 : ac.eval (.tmp 6) = .bool true := hT 26 (by decide)
      rw [hF.setsG [14, 15, 16, 17, 18, 19, 20, 21, 22, 23, 24, 25, 26, 27, 28, 29, 30, 31, 32, 33, 34, 35, 36, 37, 38, 39, 6] (by kernel_rfl)]
      simp only [List.foldl_cons, List.foldl_nil, List.setIfInBounds_toArray, List.set_cons_succ, List.set_cons_zero, e6]
      generalize ac.eval (.tmp 14) = u14
      generalize ac.eval (.tmp 15) = u15
      generalize ac.eval (.tmp 16) = u16
      generalize ac.eval (.tmp 17) = u17
      generalize ac.eval (.tmp 18) = u18
      generalize ac.eval (.tmp 19) = u19
      generalize ac.eval (.tmp 20) = u20
      generalize ac.eval (.tmp 21) = u21
      generalize ac.eval (.tmp 22) = u22
      generalize ac.eval (.tmp 23) = u23
      generalize ac.eval (.tmp 24) = u24
      generalize ac.eval (.tmp 25) = u25
      generalize ac.eval (.tmp 26) = u26
      generalize ac.eval (.tmp 27) = u27
      generalize ac.eval (.tmp 28) = u28
      generalize ac.eval (.tmp 29) = u29
      generalize ac.eval (.tmp 30) = u30
      generalize ac.eval (.tmp 31) = u31
      generalize ac.eval (.tmp 32) = u32
      generalize ac.eval (.tmp 33) = u33
      generalize ac.eval (.tmp 34) = u34
      generalize ac.eval (.tmp 35) = u35
      generalize ac.eval (.tmp 36) = u36
      generalize ac.eval (.tmp 37) = u37
      generalize ac.eval (.tmp 38) = u38
      generalize ac.eval (.tmp 39) = u39
      clear e6 hT hF ac
      go_wp2
      go_ret
      exact ⟨rfl, below_step bw1 (Nat.le_refl _) hB⟩
set_option maxRecDepth 100000 in
theorem lifted (os : Os) (started : os.Started) (H : Type) (enc : TypeId × Value → H) :
    ReturnsInHanded {} Tryd.checked os 3 .any (fun w args => (Rows.leafHashesSpec.pre enc Tryd.prog Tryd.f3 [] false w args ∧ laidMetH Tryd.prog [("scrinium/sha.k", Rows.laid_scrinium_sha_k)] w) ∧ sizedMet enc Tryd.prog Tryd.f3 (OpenSpec.ofChange Rows.leafHashesSpec) false w args)
      (Rows.leafHashesSpec.post enc Tryd.prog Tryd.f3 false true false false) := by
  refine returnsInHanded_of_change_and (C := Tryd.checked) (X := fun w _ => laidMetH Tryd.prog [("scrinium/sha.k", Rows.laid_scrinium_sha_k)] w) (fun _ _ _ hh h => h.of_heap hh) lawOwn started (by kernel_rfl) Tryd.func3
    (ChangeSpec.witness_shaped (enc := enc) (C := Tryd.checked) (os := os) (X := fun w _ => laidMetH Tryd.prog [("scrinium/sha.k", Rows.laid_scrinium_sha_k)] w) false (World.doorLaid Tryd.prog 400 os) #[.string .empty, sumV (List.replicate 32 0), sumV (List.replicate 32 0)] 8 rfl (World.shaped_of_RefB (by kernel_rfl) (by kernel_rfl)) (by kernel_rfl) (by kernel_rfl) (by kernel_rfl) (door_met os _)) ?_
  intro W base args ds gs before hval0 hW _ _ hL _
  have hval : ∀ (j : Nat) t v, Tryd.f3.params[j]? = some t → args[j]? = some v → Value.okWide Tryd.prog W .any base t v := hval0
  have hW' := hW
  obtain ⟨p, q, hA0, hV, rfl, hfz, hnd⟩ := hW
  have hA : DataW.TrodAll enc Tryd.prog W 0 (fun _ => true) true Tryd.f3.params.toList args.toList ds p := hA0
  rw [Tryd.params3] at hA hval
  obtain ⟨v0, vs0, d0, ds0, p0, q0, hargs, rfl, rfl, h0, r0⟩ := trodAll_cons hA
  obtain ⟨v1, vs1, d1, ds1, p1, q1, rfl, rfl, rfl, h1, r1⟩ := trodAll_cons r0
  obtain ⟨v2, vs2, d2, ds2, p2, q2, rfl, rfl, rfl, h2, r2⟩ := trodAll_cons r1
  obtain ⟨rfl, rfl, rfl⟩ := trodAll_nil r2
  obtain rfl : args = #[v0, v1, v2] := by cases args; simp_all
  obtain ⟨rfl, rfl⟩ := trodVars_none hV
  have hKT := KT_of_laid hL
  obtain ⟨s0, rfl, rfl, rfl, w0⟩ := Go.ChangeMaps.open_string Tryd.underlying9 (hval 0 9 v0 rfl rfl) h0
  obtain ⟨x1, rfl, w1⟩ := open_sum (hval 1 23 v1 rfl rfl) h1
  obtain ⟨x2, rfl, w2⟩ := open_sum (hval 2 23 v2 rfl rfl) h2
  clear hA0 hval0
  refine (walk (w := W) hKT s0 w0 x1 w1 x2 w2).mono fun e W' ⟨he, bel⟩ => ?_
  subst he
  exact ⟨_, rfl, law_post rfl rfl (by kernel_rfl) hW' rfl bel⟩

theorem row_holds : Rows.LeafHashesSaid :=
  OpenClaim.holds_of_wide 3 Tryd.f3 rfl rfl rfl rfl rfl rfl rfl ⟨rfl, rfl, rfl, rfl, rfl⟩ rfl rfl rfl rfl rfl (by kernel_rfl) Tryd.func3 (by kernel_rfl)
    (of_decide_eq_true (by kernel_rfl)) (by unfold Func.isWrapper; first | (rw [if_pos (by decide +kernel)]; kernel_rfl) | (rw [if_neg (by decide +kernel)]; exact ⟨rfl, rfl⟩))
    (fun os started H enc _ => lifted os started H enc)

theorem holds : Rows.LeafHashesCardSaid :=
  Claim7.holds_tied_plain_at .later [] [.data] true Rows.leafHashesCard.stood.harness false
    row_holds (fun _ h => by cases h) (by kernel_rfl) (fun _ h => by cases h) leafHashes_row_tie rfl ⟨rfl, rfl⟩ (by kernel_rfl) rfl
    (fun f fn hf hfn => by
      obtain rfl : f = 3 := Option.some.inj ((show Tryd.prog.funcNamed "scrinium/scriniumlaw09.LeafHashes" = some 3 by kernel_rfl).symm.trans hf) |>.symm
      obtain rfl : fn = Tryd.f3 := (Option.some.inj (Tryd.func3.symm.trans hfn)).symm
      exact ⟨by kernel_rfl, fun j t ht => by
        rw [Tryd.params3] at ht
        have hm : t ∈ [9, 23, 23] := by simpa using Array.mem_of_getElem? ht
        have hall : ([9, 23, 23].all fun u => !Tryd.prog.wantsStandIn u) = true := by kernel_rfl
        exact (show Tryd.prog.wantsStandIn t = false by simpa using List.all_eq_true.1 hall t hm)⟩)
    (by kernel_rfl)
end Go.Proofs.YtldknddgcbhllaaDoor.leafHashes

theorem Go.Proofs.YtldknddgcbhllaaDoor.leafHashes_holds : Go.Proofs.YtldknddgcbhllaaDoor.Rows.LeafHashesCardSaid := Go.Proofs.YtldknddgcbhllaaDoor.leafHashes.holds
#print axioms Go.Proofs.YtldknddgcbhllaaDoor.leafHashes_holds
