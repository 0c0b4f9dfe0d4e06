/-
  The statements' own helpers awake and few (scriniumlaw13).
-/
import Derived.Test.YtdcebdleneieeaaDoorTwinLvs
import Derived.Test.YtdcebdleneieeaaDoorRTwinFirst
import Derived.Test.YtdcebdleneieeaaDoorTwinDataC
import Derived.Test.YtdcebdleneieeaaDoorMProofR
namespace Go.Proofs.YtdcebdleneieeaaDoor
open Go.RowKit

theorem are_ab : Tree.areT [97] [98] = false := by kernel_rfl
set_option maxHeartbeats 4000000 in
set_option maxRecDepth 100000 in
theorem awake13_any (w : World) (hK : KT w) : Calls Tryd.prog 9 #[] w fun e w' => e = .returned (.bool true) ∧ Below w.heap.size w w' := by
  obtain ⟨A, hA⟩ : ∃ A, A = Tree.leafH [97] := ⟨_, rfl⟩
  obtain ⟨B, hBB⟩ : ∃ B, B = Tree.leafH [98] := ⟨_, rfl⟩
  have HAl : Hid (A.length = 32) := Lib.hid (by rw [hA]; exact Tree.leafH_length _)
  have HBl : Hid (B.length = 32) := Lib.hid (by rw [hBB]; exact Tree.leafH_length _)
  have HA : Hid (∀ u, Calls Tryd.prog 17 #[.string ⟨#[97]⟩] u fun e w' => e = .returned (sumV A) ∧ Below u.heap.size u w') := Lib.hid fun u => by rw [hA]; exact rleafLeaf_any ⟨#[97]⟩ [97] rfl u (by decide)
  have HB : Hid (∀ u, Calls Tryd.prog 17 #[.string ⟨#[98]⟩] u fun e w' => e = .returned (sumV B) ∧ Below u.heap.size u w') := Lib.hid fun u => by rw [hBB]; exact rleafLeaf_any ⟨#[98]⟩ [98] rfl u (by decide)
  clear hA hBB
  have HB1 : Hid (all32 [B]) := Lib.hid (all32.one HBl.out)
  obtain ⟨t1, ht1⟩ : ∃ t, t = Tree.pre A B := ⟨_, rfl⟩
  obtain ⟨t2, ht2⟩ : ∃ t, t = Tree.pre B A := ⟨_, rfl⟩
  obtain ⟨T1, hT1⟩ : ∃ T, T = tS t1 := ⟨_, rfl⟩
  obtain ⟨T2, hT2⟩ : ∃ T, T = tS t2 := ⟨_, rfl⟩
  have HP1 : Hid (∀ u, Calls Tryd.prog 28 #[sumV A, sumV B] u fun e w' => e = .returned (.string T1) ∧ Below u.heap.size u w') := Lib.hid fun u => by rw [hT1, ht1]; exact rleafPre_any A B HAl.out HBl.out u
  have HP2 : Hid (∀ u, Calls Tryd.prog 28 #[sumV B, sumV A] u fun e w' => e = .returned (.string T2) ∧ Below u.heap.size u w') := Lib.hid fun u => by rw [hT2, ht2]; exact rleafPre_any B A HBl.out HAl.out u
  have w1 : wayZ A 0 2 [B] = [t1] := by
    unfold wayZ
    rw [show foldLen 0 2 [B] = true by rw [foldLen_eq, show [B].length = 1 from rfl]; decide, if_pos rfl, show turnsZ 0 2 = [false] by decide, ht1]
    rfl
  have w2 : wayZ A 1 2 [B] = [t2] := by
    unfold wayZ
    rw [show foldLen 1 2 [B] = true by rw [foldLen_eq, show [B].length = 1 from rfl]; decide, if_pos rfl, show turnsZ 1 2 = [true] by decide, ht2]
    rfl
  have lz : leavesZ A A 0 1 [] [] = none := by
    unfold leavesZ
    have e : ∀ m n, wayZ A m n [] = [] := fun m n => by
      unfold wayZ
      rw [Tree.wayL_nil]
      split <;> rfl
    rw [e]
    split <;> rfl
  have hkw : ∀ u, Below w.heap.size w u → KT u := fun u hu => hK.old hu
  have HL : Hid (∀ u, Below w.heap.size w u → Calls Tryd.prog 11 #[.int .i64 0, .int .i64 1, sumV A, sumV A, .slice none 0 0, .slice none 0 0] u fun e w' => e = .returned (.tuple #[twV ([], []), .bool false]) ∧ Below u.heap.size u w') := Lib.hid fun u hu => by
    have := Leaves_any A A HAl.out HAl.out 0 1 (by decide) (by decide) _ _ [] [] u (Sums.nil u) (Sums.nil u) (by simp) (by simp) (hkw u hu)
    rw [lz] at this
    exact this
  have HW1 : Hid (∀ v u, Below w.heap.size w u → Sums u v [B] → Calls Tryd.prog 26 #[.int .i64 0, .int .i64 2, sumV A, v] u fun e w' => ∃ v', e = .returned v' ∧ Texts w' v' [t1] ∧ Below u.heap.size u w') := Lib.hid fun v u hu hv => by
    have := Way_any A HAl.out 0 2 (by decide) (by decide) v [B] u hv (by simp) (hkw u hu)
    rwa [w1] at this
  have HW2 : Hid (∀ v u, Below w.heap.size w u → Sums u v [B] → Calls Tryd.prog 26 #[.int .i64 1, .int .i64 2, sumV A, v] u fun e w' => ∃ v', e = .returned v' ∧ Texts w' v' [t2] ∧ Below u.heap.size u w') := Lib.hid fun v u hu hv => by
    have := Way_any A HAl.out 1 2 (by decide) (by decide) v [B] u hv (by simp) (hkw u hu)
    rwa [w2] at this
  have HA10 : Hid (∀ u, Below w.heap.size w u → Calls Tryd.prog 18 #[.agg #[.string ⟨#[97]⟩, .string ⟨#[97]⟩]] u fun e w' => e = .returned (.bool false) ∧ Below u.heap.size u w') := Lib.hid fun u hu => by
    have := are_any [97] [97] u (by decide) (by decide) (hkw u hu)
    rw [Tree.areT_self] at this
    exact this
  have HA20 : Hid (∀ u, Below w.heap.size w u → Calls Tryd.prog 18 #[.agg #[.string ⟨#[97]⟩, .string ⟨#[98]⟩]] u fun e w' => e = .returned (.bool false) ∧ Below u.heap.size u w') := Lib.hid fun u hu => by
    have := are_any [97] [98] u (by decide) (by decide) (hkw u hu)
    rw [are_ab] at this
    exact this
  have HT1 := Lib.hid hT1
  have HT2 := Lib.hid hT2
  clear ht1 ht2 w1 w2 lz hkw hK hT1 hT2
  go_enter Tryd.func9, Tryd.ntmps9
  go_upto_region 2 with (first
    | (go_at_call 17; (refine (HA.out _).mono ?_); rintro e v1 ⟨rfl, c1⟩; obtain ⟨z1, y1⟩ := var_sum v1 A HAl.out; have t1 := heap_alloc_last v1 zSum)
    | refine wpList_store_mid rfl 24 (.tmp 1) (.tmp 7) rfl v1.heap.size 0 (A.map u8V).toArray rfl rfl (sum_there t1 HAl.out) (sum_info HAl.out) (sum_one A) ?_)
  change Code.wp _ _ _ _ ((v1.alloc zSum).setCells v1.heap.size 0 (A.map u8V))
  obtain ⟨w1, hw1⟩ : ∃ u, u = (v1.alloc zSum).setCells v1.heap.size 0 (A.map u8V) := ⟨_, rfl⟩
  have k1 : Below w.heap.size w w1 := by rw [hw1]; exact c1.trans (y1.mono c1.size)
  have b1 : Below w.heap.size w w1 := k1
  obtain ⟨qa, hqa⟩ : ∃ q, q = v1.heap.size := ⟨_, rfl⟩
  rw [← hw1] at z1 ⊢
  rw [← hqa] at z1 ⊢
  have Jqa : Hid (IsH A w1 qa) := Lib.hid z1
  clear hw1 hqa t1 y1 z1 c1 k1
  go_upto_region 3 with (first
    | (go_at_call 17; (refine (HB.out _).mono ?_); rintro e v2 ⟨rfl, c2⟩; obtain ⟨z2, y2⟩ := var_sum v2 B HBl.out; have t2 := heap_alloc_last v2 zSum)
    | refine wpList_store_mid rfl 24 (.tmp 2) (.tmp 8) rfl v2.heap.size 0 (B.map u8V).toArray rfl rfl (sum_there t2 HBl.out) (sum_info HBl.out) (sum_one B) ?_)
  change Code.wp _ _ _ _ ((v2.alloc zSum).setCells v2.heap.size 0 (B.map u8V))
  obtain ⟨w2, hw2⟩ : ∃ u, u = (v2.alloc zSum).setCells v2.heap.size 0 (B.map u8V) := ⟨_, rfl⟩
  have k2 : Below w1.heap.size w1 w2 := by rw [hw2]; exact c2.trans (y2.mono c2.size)
  have b2 : Below w.heap.size w w2 := below_step b1 (Nat.le_refl _) k2
  obtain ⟨qb, hqb⟩ : ∃ q, q = v2.heap.size := ⟨_, rfl⟩
  rw [← hw2] at z2 ⊢
  rw [← hqb] at z2 ⊢
  have Jqb : Hid (IsH B w2 qb) := Lib.hid z2
  replace Jqa : Hid (IsH A w2 qa) := Lib.hid (IsH.old Jqa.out k2)
  clear hw2 hqb t2 y2 z2 c2 k2
  go_upto_region 4 with (first
    | refine wpList_load_mid rfl 24 (.tmp 1) rfl qa 0 rfl (A.map u8V) _ (range_var Jqa.out) Tryd.underlying24 rfl (sum_info' HAl.out) ?_
    | (go_at_call 11; (refine (HL.out _ b2).mono ?_); rintro e w3 ⟨rfl, c3⟩; have t3 := heap_alloc_last w3 (.cells #[tV [], tV []] 32))
    | refine wpList_store_tw rfl (.tmp 3) (.tmp 13) rfl w3.heap.size ([], []) ([], []) rfl rfl t3 ?_)
  change Code.wp _ _ _ _ ((w3.alloc (.cells #[tV [], tV []] 32)).setCells w3.heap.size 0 [tV [], tV []])
  obtain ⟨w4, hw4⟩ : ∃ u, u = (w3.alloc (.cells #[tV [], tV []] 32)).setCells w3.heap.size 0 [tV [], tV []] := ⟨_, rfl⟩
  have k4 : Below w2.heap.size w2 w4 := by rw [hw4]; exact below_setCells c3.size _ _ _ (c3.alloc c3.size _)
  replace Jqa := Lib.hid (IsH.old Jqa.out k4)
  replace Jqb := Lib.hid (IsH.old Jqb.out k4)
  have b4 := below_step b2 (Nat.le_refl _) k4
  rw [← hw4]
  clear hw4 k4 c3 t3
  have hbs5 := build_sums 1 [B] HB1.out rfl (by decide) (by decide) w4
  go_upto_region 5 with (first
    | refine wpList_load_mid rfl 24 (.tmp 1) rfl qa 0 rfl (A.map u8V) _ (range_var Jqa.out) Tryd.underlying24 rfl (sum_info' HAl.out) ?_
    | refine wpList_load_mid rfl 24 (.tmp 2) rfl qb 0 rfl (B.map u8V) _ (range_var Jqb.out) Tryd.underlying24 rfl (sum_info' HBl.out) ?_
    | refine wpList_bslS rfl 26 1 #[(0, .tmp 16)] rfl (L := #[(0, sumV B)]) (by first | rfl | simp [Act.eval, Act.put, sumV]) hbs5 ?_
    | (go_at_call 26; (refine (HW1.out _ _ (b4.alloc b4.size _) (Sums.build w4 [B] HB1.out 1 rfl (by decide))).mono ?_); rintro e w5 ⟨x5, rfl, ht5, c5⟩))
  have k5 : Below w4.heap.size w4 w5 := below_step ((Below.refl _ _).alloc (Nat.le_refl _) _) (Nat.le_refl _) c5
  replace Jqa := Lib.hid (IsH.old Jqa.out k5)
  replace Jqb := Lib.hid (IsH.old Jqb.out k5)
  have b5 := below_step b4 (Nat.le_refl _) k5
  obtain ⟨s5, c5', rfl⟩ := ht5.slice
  obtain ⟨b5', o5', rfl, hl5, -, hc5⟩ := ht5.at (k := 0) rfl
  have HC5 := Lib.hid hc5
  clear hbs5
  clear c5 k5 ht5 hc5
  have hbs6 := build_sums 1 [B] HB1.out rfl (by decide) (by decide) w5
  go_upto_region 6 with (first
    | refine wpList_load_mid rfl 24 (.tmp 1) rfl qa 0 rfl (A.map u8V) _ (range_var Jqa.out) Tryd.underlying24 rfl (sum_info' HAl.out) ?_
    | refine wpList_load_mid rfl 24 (.tmp 2) rfl qb 0 rfl (B.map u8V) _ (range_var Jqb.out) Tryd.underlying24 rfl (sum_info' HBl.out) ?_
    | refine wpList_bslS rfl 26 1 #[(0, .tmp 20)] rfl (L := #[(0, sumV B)]) (by first | rfl | simp [Act.eval, Act.put, sumV]) hbs6 ?_
    | (go_at_call 26; (refine (HW2.out _ _ (b5.alloc b5.size _) (Sums.build w5 [B] HB1.out 1 rfl (by decide))).mono ?_); rintro e w6 ⟨x6, rfl, ht6, c6⟩))
  have k6 : Below w5.heap.size w5 w6 := below_step ((Below.refl _ _).alloc (Nat.le_refl _) _) (Nat.le_refl _) c6
  replace Jqa := Lib.hid (IsH.old Jqa.out k6)
  replace Jqb := Lib.hid (IsH.old Jqb.out k6)
  have b6 := below_step b5 (Nat.le_refl _) k6
  obtain ⟨s6, c6', rfl⟩ := ht6.slice
  obtain ⟨b6', o6', rfl, hl6, -, hc6⟩ := ht6.at (k := 0) rfl
  have HC6 := Lib.hid hc6
  clear hbs6
  replace HC5 := Lib.hid ((k6.cell (p := ⟨b5', o5' + 0, none⟩) hl5).trans HC5.out)
  have hl5' := Nat.lt_of_lt_of_le hl5 k6.size
  clear c6 k6 ht6 hc6
  obtain ⟨W, hW⟩ : ∃ W, W = w6 := ⟨_, rfl⟩
  subst hW
  have HBW := Lib.hid b6
  have HT5 : Hid (W.cell? ⟨b5', o5' + 0, none⟩ = some (.string T1)) := Lib.hid (by rw [HT1.out]; exact HC5.out)
  have HT6 : Hid (W.cell? ⟨b6', o6' + 0, none⟩ = some (.string T2)) := Lib.hid (by rw [HT2.out]; exact HC6.out)
  have HA1 : Hid (∀ u, Below W.heap.size W u → Calls Tryd.prog 18 #[.agg #[.string ⟨#[97]⟩, .string ⟨#[97]⟩]] u fun e w' => e = .returned (.bool false) ∧ Below u.heap.size u w') := Lib.hid fun u hu => HA10.out u (below_step HBW.out (Nat.le_refl _) hu)
  have HA2 : Hid (∀ u, Below W.heap.size W u → Calls Tryd.prog 18 #[.agg #[.string ⟨#[97]⟩, .string ⟨#[98]⟩]] u fun e w' => e = .returned (.bool false) ∧ Below u.heap.size u w') := Lib.hid fun u hu => HA20.out u (below_step HBW.out (Nat.le_refl _) hu)
  clear b6 HA10 HA20 HC5 HC6
  try simp only [Act.put]
  refine wp_region_tab [RT.is (.slice (some ⟨b5', o5', none⟩) 1 c5'), RT.is (.int .i64 ((1 : Nat) : Int)), RT.is (.bool true), RT.is (.bool true), RT.is (.slice (some ⟨b6', o6', none⟩) 1 c6'), RT.is (.int .i64 ((1 : Nat) : Int)), RT.is (.bool true), RT.is (.bool true), RT.is (.bool true), RT.is (.slice (some ⟨b5', o5', none⟩) 1 c5'), RT.is (.pointer (some ⟨b5', o5' + 0, none⟩)), RT.is (.string T1), RT.is (sumV A), RT.is (sumV B), RT.is (.string T1), RT.is (.bool true), RT.is (.bool true), RT.is (.bool true), RT.is (.slice (some ⟨b6', o6', none⟩) 1 c6'), RT.is (.pointer (some ⟨b6', o6' + 0, none⟩)), RT.is (.string T2), RT.is (sumV B), RT.is (sumV A), RT.is (.string T2), RT.is (.bool true), RT.is (.bool true), RT.is (.bool true), RT.is (.bool false), RT.is (.bool true), RT.is (.bool true), RT.is (.bool true), RT.is (.agg #[.string ⟨#[97]⟩, .string ⟨#[97]⟩]), RT.is (.bool false), RT.is (.bool true), RT.is (.bool true), RT.is (.bool true), RT.is (.agg #[.string ⟨#[97]⟩, .string ⟨#[98]⟩]), RT.is (.bool false), RT.is (.bool true), RT.is (.bool true), RT.is (.bool true)] (by kernel_rfl) (by kernel_rfl) (by kernel_rfl) (by kernel_rfl) ⟨?_, ?_, ?_, ?_, ?_, ?_, ?_, ?_, ?_, ?_, ?_, ?_, ?_, ?_, ?_, ?_, ?_, ?_, ?_, ?_, ?_, ?_, ?_, ?_, ?_, ?_, ?_, ?_, ?_, ?_, ?_, ?_, ?_, ?_, ?_, ?_, ?_, ?_, ?_, ?_, ?_, trivial⟩ ?_
  · intro ac w' hF hL hP hU K hK
    have hB := below_undrew hL
    have e5 : ac.eval (.tmp 5) = .slice (some ⟨b5', o5', none⟩) 1 c5' := hF.at 5 (by kernel_rfl)
    exact rop_move _ rfl e5 (wanted_none rfl) (hK _ _ (le8_refl _) rfl)
  · intro ac w' hF hL hP hU K hK
    have hB := below_undrew hL
    have e23 : ac.eval (.tmp 23) = .slice (some ⟨b5', o5', none⟩) 1 c5' := hP 0 (by kernel_rfl)
    exact rop_lenG _ Tryd.underlying52 rfl e23 (wanted_none rfl) (hK _ _ (le8_refl _) rfl)
  · intro ac w' hF hL hP hU K hK
    have hB := below_undrew hL
    have e24 : ac.eval (.tmp 24) = .int .i64 ((1 : Nat) : Int) := hP 1 (by kernel_rfl)
    exact rop_bin _ _ _ _ _ rfl e24 rfl (guard_int _ _ _ _ _ _ _ w') (eql_iG _ _ _ (by simp) w') (wanted_none rfl) (hK _ _ (le8_refl _) rfl)
  · intro ac w' hF hL hP hU K hK
    have hB := below_undrew hL
    have e25 : ac.eval (.tmp 25) = .bool true := hP 2 (by kernel_rfl)
    exact rop_move _ rfl e25 (wanted_none rfl) (hK _ _ (le8_refl _) rfl)
  · intro ac w' hF hL hP hU K hK
    have hB := below_undrew hL
    have e6 : ac.eval (.tmp 6) = .slice (some ⟨b6', o6', none⟩) 1 c6' := hF.at 6 (by kernel_rfl)
    have e26 : ac.eval (.tmp 26) = .bool true := hP 3 (by kernel_rfl)
    exact rop_move _ rfl e6 (wanted_of (j := 3) (b := true) rfl rfl e26) (hK _ _ (le8_refl _) rfl)
  · intro ac w' hF hL hP hU K hK
    have hB := below_undrew hL
    have e27 : ac.eval (.tmp 27) = .slice (some ⟨b6', o6', none⟩) 1 c6' := hP 4 (by kernel_rfl)
    have e26 : ac.eval (.tmp 26) = .bool true := hP 3 (by kernel_rfl)
    exact rop_lenG _ Tryd.underlying52 rfl e27 (wanted_of (j := 3) (b := true) rfl rfl e26) (hK _ _ (le8_refl _) rfl)
  · intro ac w' hF hL hP hU K hK
    have hB := below_undrew hL
    have e28 : ac.eval (.tmp 28) = .int .i64 ((1 : Nat) : Int) := hP 5 (by kernel_rfl)
    have e26 : ac.eval (.tmp 26) = .bool true := hP 3 (by kernel_rfl)
    exact rop_bin _ _ _ _ _ rfl e28 rfl (guard_int _ _ _ _ _ _ _ w') (eql_iG _ _ _ (by simp) w') (wanted_of (j := 3) (b := true) rfl rfl e26) (hK _ _ (le8_refl _) rfl)
  · intro ac w' hF hL hP hU K hK
    have hB := below_undrew hL
    have e26 : ac.eval (.tmp 26) = .bool true := hP 3 (by kernel_rfl)
    have e29 : ac.eval (.tmp 29) = .bool true := hP 6 (by kernel_rfl)
    exact rop_pick _ _ _ rfl true e26 (by simpa using e29) (wanted_none rfl) (hK _ _ (le8_refl _) rfl)
  · intro ac w' hF hL hP hU K hK
    have hB := below_undrew hL
    have e30 : ac.eval (.tmp 30) = .bool true := hP 7 (by kernel_rfl)
    exact rop_move _ rfl e30 (wanted_none rfl) (hK _ _ (le8_refl _) rfl)
  · intro ac w' hF hL hP hU K hK
    have hB := below_undrew hL
    have e5 : ac.eval (.tmp 5) = .slice (some ⟨b5', o5', none⟩) 1 c5' := hF.at 5 (by kernel_rfl)
    have e31 : ac.eval (.tmp 31) = .bool true := hP 8 (by kernel_rfl)
    exact rop_move _ rfl e5 (wanted_of (j := 8) (b := true) rfl rfl e31) (hK _ _ (le8_refl _) rfl)
  · intro ac w' hF hL hP hU K hK
    have hB := below_undrew hL
    have e32 : ac.eval (.tmp 32) = .slice (some ⟨b5', o5', none⟩) 1 c5' := hP 9 (by kernel_rfl)
    have e31 : ac.eval (.tmp 31) = .bool true := hP 8 (by kernel_rfl)
    exact rop_idx _ _ _ rfl e32 rfl (index_texts b5' o5' 1 c5' 0 0 rfl (by decide) w') (wanted_of (j := 8) (b := true) rfl rfl e31) (hK _ _ (le8_refl _) rfl)
  · intro ac w' hF hL hP hU K hK
    have hB := below_undrew hL
    have e33 : ac.eval (.tmp 33) = .pointer (some ⟨b5', o5' + 0, none⟩) := hP 10 (by kernel_rfl)
    have e31 : ac.eval (.tmp 31) = .bool true := hP 8 (by kernel_rfl)
    exact rop_ld _ _ rfl e33 (load_text ((hB.cell (p := ⟨b5', o5' + 0, none⟩) hl5').trans HT5.out)) (wanted_of (j := 8) (b := true) rfl rfl e31) (hK _ _ (le8_refl _) rfl)
  · intro ac w' hF hL hP hU K hK
    have hB := below_undrew hL
    have e1 : ac.eval (.tmp 1) = .pointer (some ⟨qa, 0, none⟩) := hF.at 1 (by kernel_rfl)
    have e31 : ac.eval (.tmp 31) = .bool true := hP 8 (by kernel_rfl)
    exact rop_ld _ _ rfl e1 (load_sumP HAl.out (range_var (IsH.old Jqa.out hB))) (wanted_of (j := 8) (b := true) rfl rfl e31) (hK _ _ (le8_refl _) rfl)
  · intro ac w' hF hL hP hU K hK
    have hB := below_undrew hL
    have e2 : ac.eval (.tmp 2) = .pointer (some ⟨qb, 0, none⟩) := hF.at 2 (by kernel_rfl)
    have e31 : ac.eval (.tmp 31) = .bool true := hP 8 (by kernel_rfl)
    exact rop_ld _ _ rfl e2 (load_sumP HBl.out (range_var (IsH.old Jqb.out hB))) (wanted_of (j := 8) (b := true) rfl rfl e31) (hK _ _ (le8_refl _) rfl)
  · intro ac w' hF hL hP hU K hK
    have hB := below_undrew hL
    have e35 : ac.eval (.tmp 35) = sumV A := hP 12 (by kernel_rfl)
    have e36 : ac.eval (.tmp 36) = sumV B := hP 13 (by kernel_rfl)
    have e31 : ac.eval (.tmp 31) = .bool true := hP 8 (by kernel_rfl)
    refine rop_call 28 _ _ rfl #[sumV A, sumV B] (by simp [e35, e36]) (by kernel_rfl) (wanted_of (j := 8) (b := true) rfl rfl e31) ?_
    refine (HP1.out w').mono ?_
    rintro e w2 ⟨rfl, hb⟩
    exact ⟨_, rfl, hK _ _ hb rfl⟩
  · intro ac w' hF hL hP hU K hK
    have hB := below_undrew hL
    have e34 : ac.eval (.tmp 34) = .string T1 := hP 11 (by kernel_rfl)
    have e37 : ac.eval (.tmp 37) = .string T1 := hP 14 (by kernel_rfl)
    have e31 : ac.eval (.tmp 31) = .bool true := hP 8 (by kernel_rfl)
    exact rop_bin _ _ _ _ _ rfl e34 e37 (guard_str _ _ _ _ _ _ w') (eql_str_t _ _ rfl w') (wanted_of (j := 8) (b := true) rfl rfl e31) (hK _ _ (le8_refl _) rfl)
  · intro ac w' hF hL hP hU K hK
    have hB := below_undrew hL
    have e31 : ac.eval (.tmp 31) = .bool true := hP 8 (by kernel_rfl)
    have e38 : ac.eval (.tmp 38) = .bool true := hP 15 (by kernel_rfl)
    exact rop_pick _ _ _ rfl true e31 (by simpa using e38) (wanted_none rfl) (hK _ _ (le8_refl _) rfl)
  · intro ac w' hF hL hP hU K hK
    have hB := below_undrew hL
    have e39 : ac.eval (.tmp 39) = .bool true := hP 16 (by kernel_rfl)
    exact rop_move _ rfl e39 (wanted_none rfl) (hK _ _ (le8_refl _) rfl)
  · intro ac w' hF hL hP hU K hK
    have hB := below_undrew hL
    have e6 : ac.eval (.tmp 6) = .slice (some ⟨b6', o6', none⟩) 1 c6' := hF.at 6 (by kernel_rfl)
    have e40 : ac.eval (.tmp 40) = .bool true := hP 17 (by kernel_rfl)
    exact rop_move _ rfl e6 (wanted_of (j := 17) (b := true) rfl rfl e40) (hK _ _ (le8_refl _) rfl)
  · intro ac w' hF hL hP hU K hK
    have hB := below_undrew hL
    have e41 : ac.eval (.tmp 41) = .slice (some ⟨b6', o6', none⟩) 1 c6' := hP 18 (by kernel_rfl)
    have e40 : ac.eval (.tmp 40) = .bool true := hP 17 (by kernel_rfl)
    exact rop_idx _ _ _ rfl e41 rfl (index_texts b6' o6' 1 c6' 0 0 rfl (by decide) w') (wanted_of (j := 17) (b := true) rfl rfl e40) (hK _ _ (le8_refl _) rfl)
  · intro ac w' hF hL hP hU K hK
    have hB := below_undrew hL
    have e42 : ac.eval (.tmp 42) = .pointer (some ⟨b6', o6' + 0, none⟩) := hP 19 (by kernel_rfl)
    have e40 : ac.eval (.tmp 40) = .bool true := hP 17 (by kernel_rfl)
    exact rop_ld _ _ rfl e42 (load_text ((hB.cell (p := ⟨b6', o6' + 0, none⟩) hl6).trans HT6.out)) (wanted_of (j := 17) (b := true) rfl rfl e40) (hK _ _ (le8_refl _) rfl)
  · intro ac w' hF hL hP hU K hK
    have hB := below_undrew hL
    have e2 : ac.eval (.tmp 2) = .pointer (some ⟨qb, 0, none⟩) := hF.at 2 (by kernel_rfl)
    have e40 : ac.eval (.tmp 40) = .bool true := hP 17 (by kernel_rfl)
    exact rop_ld _ _ rfl e2 (load_sumP HBl.out (range_var (IsH.old Jqb.out hB))) (wanted_of (j := 17) (b := true) rfl rfl e40) (hK _ _ (le8_refl _) rfl)
  · intro ac w' hF hL hP hU K hK
    have hB := below_undrew hL
    have e1 : ac.eval (.tmp 1) = .pointer (some ⟨qa, 0, none⟩) := hF.at 1 (by kernel_rfl)
    have e40 : ac.eval (.tmp 40) = .bool true := hP 17 (by kernel_rfl)
    exact rop_ld _ _ rfl e1 (load_sumP HAl.out (range_var (IsH.old Jqa.out hB))) (wanted_of (j := 17) (b := true) rfl rfl e40) (hK _ _ (le8_refl _) rfl)
  · intro ac w' hF hL hP hU K hK
    have hB := below_undrew hL
    have e44 : ac.eval (.tmp 44) = sumV B := hP 21 (by kernel_rfl)
    have e45 : ac.eval (.tmp 45) = sumV A := hP 22 (by kernel_rfl)
    have e40 : ac.eval (.tmp 40) = .bool true := hP 17 (by kernel_rfl)
    refine rop_call 28 _ _ rfl #[sumV B, sumV A] (by simp [e44, e45]) (by kernel_rfl) (wanted_of (j := 17) (b := true) rfl rfl e40) ?_
    refine (HP2.out w').mono ?_
    rintro e w2 ⟨rfl, hb⟩
    exact ⟨_, rfl, hK _ _ hb rfl⟩
  · intro ac w' hF hL hP hU K hK
    have hB := below_undrew hL
    have e43 : ac.eval (.tmp 43) = .string T2 := hP 20 (by kernel_rfl)
    have e46 : ac.eval (.tmp 46) = .string T2 := hP 23 (by kernel_rfl)
    have e40 : ac.eval (.tmp 40) = .bool true := hP 17 (by kernel_rfl)
    exact rop_bin _ _ _ _ _ rfl e43 e46 (guard_str _ _ _ _ _ _ w') (eql_str_t _ _ rfl w') (wanted_of (j := 17) (b := true) rfl rfl e40) (hK _ _ (le8_refl _) rfl)
  · intro ac w' hF hL hP hU K hK
    have hB := below_undrew hL
    have e40 : ac.eval (.tmp 40) = .bool true := hP 17 (by kernel_rfl)
    have e47 : ac.eval (.tmp 47) = .bool true := hP 24 (by kernel_rfl)
    exact rop_pick _ _ _ rfl true e40 (by simpa using e47) (wanted_none rfl) (hK _ _ (le8_refl _) rfl)
  · intro ac w' hF hL hP hU K hK
    have hB := below_undrew hL
    have e48 : ac.eval (.tmp 48) = .bool true := hP 25 (by kernel_rfl)
    exact rop_move _ rfl e48 (wanted_none rfl) (hK _ _ (le8_refl _) rfl)
  · intro ac w' hF hL hP hU K hK
    have hB := below_undrew hL
    have e4 : ac.eval (.tmp 4) = .bool false := hF.at 4 (by kernel_rfl)
    have e49 : ac.eval (.tmp 49) = .bool true := hP 26 (by kernel_rfl)
    exact rop_move _ rfl e4 (wanted_of (j := 26) (b := true) rfl rfl e49) (hK _ _ (le8_refl _) rfl)
  · intro ac w' hF hL hP hU K hK
    have hB := below_undrew hL
    have e50 : ac.eval (.tmp 50) = .bool false := hP 27 (by kernel_rfl)
    have e49 : ac.eval (.tmp 49) = .bool true := hP 26 (by kernel_rfl)
    exact rop_not _ _ rfl false e50 (wanted_of (j := 26) (b := true) rfl rfl e49) (hK _ _ (le8_refl _) rfl)
  · intro ac w' hF hL hP hU K hK
    have hB := below_undrew hL
    have e49 : ac.eval (.tmp 49) = .bool true := hP 26 (by kernel_rfl)
    have e51 : ac.eval (.tmp 51) = .bool true := hP 28 (by kernel_rfl)
    exact rop_pick _ _ _ rfl true e49 (by simpa using e51) (wanted_none rfl) (hK _ _ (le8_refl _) rfl)
  · intro ac w' hF hL hP hU K hK
    have hB := below_undrew hL
    have e52 : ac.eval (.tmp 52) = .bool true := hP 29 (by kernel_rfl)
    exact rop_move _ rfl e52 (wanted_none rfl) (hK _ _ (le8_refl _) rfl)
  · intro ac w' hF hL hP hU K hK
    have hB := below_undrew hL
    have e53 : ac.eval (.tmp 53) = .bool true := hP 30 (by kernel_rfl)
    exact rop_buildT _ _ rfl _ (by simp [eval_const]) (built_tw ⟨#[97]⟩ ⟨#[97]⟩) (wanted_of (j := 30) (b := true) rfl rfl e53) (hK _ _ (le8_refl _) rfl)
  · intro ac w' hF hL hP hU K hK
    have hB := below_undrew hL
    have e54 : ac.eval (.tmp 54) = .agg #[.string ⟨#[97]⟩, .string ⟨#[97]⟩] := hP 31 (by kernel_rfl)
    have e53 : ac.eval (.tmp 53) = .bool true := hP 30 (by kernel_rfl)
    refine rop_call 18 _ _ rfl #[.agg #[.string ⟨#[97]⟩, .string ⟨#[97]⟩]] (by simp [e54]) (by kernel_rfl) (wanted_of (j := 30) (b := true) rfl rfl e53) ?_
    refine (HA1.out w' hB).mono ?_
    rintro e w2 ⟨rfl, hb⟩
    exact ⟨_, rfl, hK _ _ hb rfl⟩
  · intro ac w' hF hL hP hU K hK
    have hB := below_undrew hL
    have e55 : ac.eval (.tmp 55) = .bool false := hP 32 (by kernel_rfl)
    have e53 : ac.eval (.tmp 53) = .bool true := hP 30 (by kernel_rfl)
    exact rop_not _ _ rfl false e55 (wanted_of (j := 30) (b := true) rfl rfl e53) (hK _ _ (le8_refl _) rfl)
  · intro ac w' hF hL hP hU K hK
    have hB := below_undrew hL
    have e53 : ac.eval (.tmp 53) = .bool true := hP 30 (by kernel_rfl)
    have e56 : ac.eval (.tmp 56) = .bool true := hP 33 (by kernel_rfl)
    exact rop_pick _ _ _ rfl true e53 (by simpa using e56) (wanted_none rfl) (hK _ _ (le8_refl _) rfl)
  · intro ac w' hF hL hP hU K hK
    have hB := below_undrew hL
    have e57 : ac.eval (.tmp 57) = .bool true := hP 34 (by kernel_rfl)
    exact rop_move _ rfl e57 (wanted_none rfl) (hK _ _ (le8_refl _) rfl)
  · intro ac w' hF hL hP hU K hK
    have hB := below_undrew hL
    have e58 : ac.eval (.tmp 58) = .bool true := hP 35 (by kernel_rfl)
    exact rop_buildT _ _ rfl _ (by simp [eval_const]) (built_tw ⟨#[97]⟩ ⟨#[98]⟩) (wanted_of (j := 35) (b := true) rfl rfl e58) (hK _ _ (le8_refl _) rfl)
  · intro ac w' hF hL hP hU K hK
    have hB := below_undrew hL
    have e59 : ac.eval (.tmp 59) = .agg #[.string ⟨#[97]⟩, .string ⟨#[98]⟩] := hP 36 (by kernel_rfl)
    have e58 : ac.eval (.tmp 58) = .bool true := hP 35 (by kernel_rfl)
    refine rop_call 18 _ _ rfl #[.agg #[.string ⟨#[97]⟩, .string ⟨#[98]⟩]] (by simp [e59]) (by kernel_rfl) (wanted_of (j := 35) (b := true) rfl rfl e58) ?_
    refine (HA2.out w' hB).mono ?_
    rintro e w2 ⟨rfl, hb⟩
    exact ⟨_, rfl, hK _ _ hb rfl⟩
  · intro ac w' hF hL hP hU K hK
    have hB := below_undrew hL
    have e60 : ac.eval (.tmp 60) = .bool false := hP 37 (by kernel_rfl)
    have e58 : ac.eval (.tmp 58) = .bool true := hP 35 (by kernel_rfl)
    exact rop_not _ _ rfl false e60 (wanted_of (j := 35) (b := true) rfl rfl e58) (hK _ _ (le8_refl _) rfl)
  · intro ac w' hF hL hP hU K hK
    have hB := below_undrew hL
    have e58 : ac.eval (.tmp 58) = .bool true := hP 35 (by kernel_rfl)
    have e61 : ac.eval (.tmp 61) = .bool true := hP 38 (by kernel_rfl)
    exact rop_pick _ _ _ rfl true e58 (by simpa using e61) (wanted_none rfl) (hK _ _ (le8_refl _) rfl)
  · intro ac w' hF hL hP hU K hK
    have hB := below_undrew hL
    have e62 : ac.eval (.tmp 62) = .bool true := hP 39 (by kernel_rfl)
    exact rop_assign _ rfl e62 (wanted_none rfl) (hK _ _ (le8_refl _) rfl)
  · intro ac w' hF hB hT
    have e0 : ac.eval (.tmp 0) = .bool true := hT 40 (by decide)
    rw [hF.setsG [23, 24, 25, 26, 27, 28, 29, 30, 31, 32, 33, 34, 35, 36, 37, 38, 39, 40, 41, 42, 43, 44, 45, 46, 47, 48, 49, 50, 51, 52, 53, 54, 55, 56, 57, 58, 59, 60, 61, 62, 0] (by kernel_rfl)]
    simp only [List.foldl_cons, List.foldl_nil, List.setIfInBounds_toArray, List.set_cons_succ, List.set_cons_zero, e0]
    generalize ac.eval (.tmp 23) = u23
    generalize ac.eval (.tmp 24) = u24
    generalize ac.eval (.tmp 25) = u25
    generalize ac.eval (.tmp 26) = u26
    generalize ac.eval (.tmp 27) = u27
    generalize ac.eval (.tmp 28) = u28
    generalize ac.eval (.tmp 29) = u29
    generalize ac.eval (.tmp 30) = u30
    generalize ac.eval (.tmp 31) = u31
    generalize ac.eval (.tmp 32) = u32
    generalize ac.eval (.tmp 33) = u33
    generalize ac.eval (.tmp 34) = u34
    generalize ac.eval (.tmp 35) = u35
    generalize ac.eval (.tmp 36) = u36
    generalize ac.eval (.tmp 37) = u37
    generalize ac.eval (.tmp 38) = u38
    generalize ac.eval (.tmp 39) = u39
    generalize ac.eval (.tmp 40) = u40
    generalize ac.eval (.tmp 41) = u41
    generalize ac.eval (.tmp 42) = u42
    generalize ac.eval (.tmp 43) = u43
    generalize ac.eval (.tmp 44) = u44
    generalize ac.eval (.tmp 45) = u45
    generalize ac.eval (.tmp 46) = u46
    generalize ac.eval (.tmp 47) = u47
    generalize ac.eval (.tmp 48) = u48
    generalize ac.eval (.tmp 49) = u49
    generalize ac.eval (.tmp 50) = u50
    generalize ac.eval (.tmp 51) = u51
    generalize ac.eval (.tmp 52) = u52
    generalize ac.eval (.tmp 53) = u53
    generalize ac.eval (.tmp 54) = u54
    generalize ac.eval (.tmp 55) = u55
    generalize ac.eval (.tmp 56) = u56
    generalize ac.eval (.tmp 57) = u57
    generalize ac.eval (.tmp 58) = u58
    generalize ac.eval (.tmp 59) = u59
    generalize ac.eval (.tmp 60) = u60
    generalize ac.eval (.tmp 61) = u61
    generalize ac.eval (.tmp 62) = u62
    clear e0 hT hF ac
    have HF := Lib.hid (below_step HBW.out (Nat.le_refl _) hB)
    clear hB
    go_wp2
    go_ret
    exact ⟨rfl, HF.out⟩
/-- At most 50 of them. -/
theorem few13_any (v : Value) (l : Hs) (w : World) (hv : Sums w v l) :
    Calls Tryd.prog 10 #[v] w fun e w' => ∃ v', e = .returned v' ∧ SumsB w.heap.size w v' (l.take 50) ∧ w = w' := by
  have hvB := hv.below
  obtain ⟨va, cap, rfl, hlc, hcap⟩ := hv.slice
  by_cases h : 50 < l.length
  · have h' : 50 < (l.length : Int) := by omega
    have hh : Sums w (.slice va 50 cap) (l.take 50) := hv.head 50 (by omega)
    have hb : SumsB w.heap.size w (.slice va 50 cap) (l.take 50) := hh.below
    have HB := Lib.hid hb
    have hcut := fun u => scut_h va l.length cap 50 (by omega) u
    clear hv hvB hh hb
    go_enter Tryd.func10, Tryd.ntmps10
    go_wp2_with (with_reducible refine wpList_slice_runS rfl 26 (.tmp 6) none (some (.const (.int .i64 50))) none rfl rfl rfl rfl rfl (hcut _) ?_)
    go_ret
    first | exact ⟨_, rfl, HB.out, rfl⟩ | exact HB.out | exact ⟨HB.out, rfl⟩ | exact ⟨_, rfl, HB.out⟩
  · have h' : ¬ 50 < (l.length : Int) := by omega
    have hh : l.take 50 = l := List.take_of_length_le (by omega)
    have HH := Lib.hid hh
    have HB := Lib.hid hvB
    clear hv hvB hh
    go_enter Tryd.func10, Tryd.ntmps10
    go_wp2
    go_ret
    rw [HH.out]
    first | exact ⟨_, rfl, HB.out, rfl⟩ | exact HB.out | exact ⟨HB.out, rfl⟩ | exact ⟨_, rfl, HB.out⟩
end Go.Proofs.YtdcebdleneieeaaDoor
