/-
  ProofFolds: what paths and links come to is as the document says. For any hash, any two numbers, any hashes (the first 50 of them); the numbers K of the package sha are as the program's own start lays them.
-/
import Derived.Test.YtjdhcncjcencbaaDoorProofAwake
import Derived.Test.YtjdhcncjcencbaaDoorMPathB
import Derived.Test.YtjdhcncjcencbaaDoorProofArg
namespace Go.Proofs.YtjdhcncjcencbaaDoor.proofFolds
open Go.ChangeShapes Go.WideShapes Go.ChangeAt Go.RowKit

set_option maxHeartbeats 8000000 in
set_option maxRecDepth 100000 in
theorem walk {w : World} (hK : KT w) (x : List UInt8) (hx : x.length = 32) (m n : Int) (hm : -9223372036854775808 ≤ m ∧ m ≤ 9223372036854775807) (hn : -9223372036854775808 ≤ n ∧ n ≤ 9223372036854775807) (v : Value) (l : Hs) (hv : Sums w v l) :
    Calls Tryd.prog 3 #[sumV x, .agg #[.int .i64 m, .int .i64 n], v] w fun e w' => e = .returned (.bool true) ∧ Below w.heap.size w w' := by
  obtain ⟨P, hP⟩ : ∃ P, P = l.take 50 := ⟨_, rfl⟩
  have hPl : P.length ≤ 1000 := by rw [hP, List.length_take]; omega
  have hPo : all32 P := by rw [hP]; exact hv.ok.take 50
  obtain ⟨A, hA⟩ : ∃ A, A = (foldZ x m n P).1 := ⟨_, rfl⟩
  obtain ⟨i, hi⟩ : ∃ i, i = (foldZ x m n P).2 := ⟨_, rfl⟩
  obtain ⟨C, hC⟩ : ∃ C, C = (bothZ x m n P).1.1 := ⟨_, rfl⟩
  obtain ⟨D, hD⟩ : ∃ D, D = (bothZ x m n P).1.2 := ⟨_, rfl⟩
  obtain ⟨j, hj⟩ : ∃ j, j = (bothZ x m n P).2 := ⟨_, rfl⟩
  have hbl := bothZ_length x m n P hx hPo
  have HAl : Hid (A.length = 32) := Lib.hid (by rw [hA]; exact foldZ_length x m n P hx)
  have HCl : Hid (C.length = 32) := Lib.hid (by rw [hC]; exact hbl.1)
  have HDl : Hid (D.length = 32) := Lib.hid (by rw [hD]; exact hbl.2)
  have HX := Lib.hid hx
  have HFO : Hid (∀ v u, KT u → Sums u v P → Calls Tryd.prog 12 #[sumV x, .int .i64 m, .int .i64 n, v] u fun e w' => e = .returned (.tuple #[sumV A, .bool i]) ∧ Below u.heap.size u w') := Lib.hid fun v u hk hv => by rw [hA, hi]; exact fold_any x hx m n hm.2 hn.2 v P u hv hPl hk
  have HRF : Hid (∀ v u, Sums u v P → Calls Tryd.prog 13 #[sumV x, .int .i64 m, .int .i64 n, v] u fun e w' => e = .returned (.tuple #[sumV A, .bool i]) ∧ Below u.heap.size u w') := Lib.hid fun v u hv => by rw [hA, hi]; exact rfold_any x hx m n hm.2 hn.2 v P u hv hPl
  have HBO : Hid (∀ v u, KT u → Sums u v P → Calls Tryd.prog 14 #[sumV x, .int .i64 m, .int .i64 n, v] u fun e w' => e = .returned (.tuple #[sumV C, sumV D, .bool j]) ∧ Below u.heap.size u w') := Lib.hid fun v u hk hv => by rw [hC, hD, hj]; exact both_any x hx m n hm.2 hn.2 v P u hv hPl hk
  have HRB : Hid (∀ v u, Sums u v P → Calls Tryd.prog 15 #[sumV x, .int .i64 m, .int .i64 n, v] u fun e w' => e = .returned (.tuple #[sumV C, sumV D, .bool j]) ∧ Below u.heap.size u w') := Lib.hid fun v u hv => by rw [hC, hD, hj]; exact rBoth_any x hx m n hm.2 hn.2 v P u hv hPl
  have hkw : ∀ u, Below w.heap.size w u → KT u := fun u hu => hK.old hu
  obtain ⟨w0, hw0⟩ : ∃ w0, w0 = (w.alloc (.cells (x.map u8V).toArray 23)).alloc (.cells #[.int .i64 m, .int .i64 n] 24) := ⟨_, rfl⟩
  have b0 : Below w.heap.size w w0 := by rw [hw0]; exact ((Below.refl _ _).alloc (Nat.le_refl _) _).alloc (by simp) _
  have j3 : IsH x w0 w.heap.size := by
    rw [hw0]
    exact (((Below.refl (w.alloc (.cells (x.map u8V).toArray 23)).heap.size _).alloc (Nat.le_refl _) _).block w.heap.size (by simp)).trans (heap_alloc_last w _)
  have j4 : w0.heap[w.heap.size + 1]? = some (.cells #[.int .i64 m, .int .i64 n] 24 (0, 0)) := by
    have := heap_alloc_last (w.alloc (.cells (x.map u8V).toArray 23)) (.cells #[.int .i64 m, .int .i64 n] 24)
    rwa [World.size_alloc, ← hw0] at this
  have HAW := Lib.hid (awake12_any w0 (hkw _ b0))
  have HFW : Hid (∀ u, Below w.heap.size w u → Calls Tryd.prog 11 #[v, .int .i64 50] u fun e w' => ∃ v', e = .returned v' ∧ SumsB u.heap.size u v' (l.take 50) ∧ u = w') := Lib.hid fun u hu => few12_any v l 50 (by decide) u (hv.old hu)
  have HJ3 := Lib.hid j3
  have HJ4 := Lib.hid j4
  have HPE := Lib.hid hP
  clear hP hPl hPo hA hi hC hD hj hbl hx hv hK j3 j4
  unfold sumV
  go_enter Tryd.func3, Tryd.ntmps3
  go_upto_region 1 with (fail)
  rw [← hw0]
  clear hw0
  go_upto_region 3 with (first
    | (go_at_call 10; ((with_reducible refine HAW.out.mono ?_); rintro e w1 ⟨rfl, b1⟩; have b2 := below_step b0 (Nat.le_refl _) b1))
    | (go_at_call 11; refine (HFW.out _ b2).mono ?_; rintro e w2 ⟨v6, rfl, h6, rfl⟩; rw [← HPE.out] at h6; have HP6 := Lib.hid h6.1; clear h6))
  obtain ⟨w2, hw2⟩ : ∃ w2, w2 = w1 := ⟨_, rfl⟩
  subst hw2
  have Jq3' : Hid (IsH x w2 w.heap.size) := Lib.hid (HJ3.out.old b1)
  have Jq4' : Hid (w2.heap[w.heap.size + 1]? = some (.cells #[.int .i64 m, .int .i64 n] 24 (0, 0))) := Lib.hid ((b1.block _ (Array.getElem?_eq_some_iff.1 HJ4.out).1).trans HJ4.out)
  obtain ⟨ap, np, cp, rfl⟩ : ∃ a n c, v6 = .slice a n c := by obtain ⟨a, c, e, -, -⟩ := HP6.out.slice; exact ⟨_, _, _, e⟩
  have HP := HP6
  obtain ⟨q4, hq4⟩ : ∃ q4, q4 = w.heap.size + 1 := ⟨_, rfl⟩
  obtain ⟨q3, hq3⟩ : ∃ q3, q3 = w.heap.size := ⟨_, rfl⟩
  rw [← hq4] at Jq4' ⊢
  rw [← hq3] at Jq3' ⊢
  have Jq3 := Jq3'
  have Jq4 := Jq4'
  clear hq3 hq4 Jq3' Jq4' HP6 HJ3 HJ4 b0 b1 HAW HFW
  have c0 := (cell_of Jq4.out 0 : w2.cell? ⟨q4, 0, none⟩ = some (.int .i64 m))
  have c1 := (cell_of Jq4.out 1 : w2.cell? ⟨q4, 1, none⟩ = some (.int .i64 n))
  go_upto_region 4 with (first
    | refine wpList_load_mid rfl 23 (.tmp 3) rfl q3 (0) rfl (x.map u8V) _ (range_var Jq3.out) Tryd.underlying23 rfl (sum_info' HX.out) ?_
    | (go_at_call 12; (refine (HFO.out _ _ (hkw _ b2) HP.out).mono ?_); rintro e v3 ⟨rfl, c3⟩; have t3 := heap_alloc_last v3 zSum)
    | refine wpList_store_mid rfl 23 (.tmp 9) (.tmp 30) rfl v3.heap.size 0 (A.map u8V).toArray rfl rfl (sum_there t3 HAl.out) (sum_info HAl.out) (sum_one A) ?_)
  change Code.wp _ _ _ _ ((v3.alloc zSum).setCells v3.heap.size 0 (A.map u8V))
  obtain ⟨w3, hw3⟩ : ∃ u, u = (v3.alloc zSum).setCells v3.heap.size 0 (A.map u8V) := ⟨_, rfl⟩
  obtain ⟨z3a, y3⟩ : IsH A w3 v3.heap.size ∧ Below v3.heap.size v3 w3 := by rw [hw3]; exact var_sum v3 A HAl.out
  have k3 : Below w2.heap.size w2 w3 := c3.trans (y3.mono c3.size)
  have b3 : Below w.heap.size w w3 := below_step b2 (Nat.le_refl _) k3
  rw [← hw3]
  replace Jq3 : Hid (IsH x w3 q3) := Lib.hid ((k3.block _ (Array.getElem?_eq_some_iff.1 Jq3.out).1).trans Jq3.out)
  replace Jq4 : Hid (w3.heap[q4]? = some (.cells #[.int .i64 m, .int .i64 n] 24 (0, 0))) := Lib.hid ((k3.block _ (Array.getElem?_eq_some_iff.1 Jq4.out).1).trans Jq4.out)
  replace HP : Hid (Sums w3 (.slice ap np cp) P) := Lib.hid (HP.out.old k3)
  obtain ⟨q9, hq9⟩ : ∃ q, q = v3.heap.size := ⟨_, rfl⟩
  rw [← hq9] at z3a ⊢
  have Jq9 : Hid (IsH A w3 q9) := Lib.hid z3a
  clear hw3 c3 k3 t3 y3 z3a hq9 c0 c1
  have c0 := (cell_of Jq4.out 0 : w3.cell? ⟨q4, 0, none⟩ = some (.int .i64 m))
  have c1 := (cell_of Jq4.out 1 : w3.cell? ⟨q4, 1, none⟩ = some (.int .i64 n))
  go_upto_region 5 with (first
    | refine wpList_load_mid rfl 23 (.tmp 3) rfl q3 (0) rfl (x.map u8V) _ (range_var Jq3.out) Tryd.underlying23 rfl (sum_info' HX.out) ?_
    | (go_at_call 13; (refine (HRF.out _ _ HP.out).mono ?_); rintro e v4 ⟨rfl, c4⟩; have t4 := heap_alloc_last v4 zSum)
    | refine wpList_store_mid rfl 23 (.tmp 11) (.tmp 40) rfl v4.heap.size 0 (A.map u8V).toArray rfl rfl (sum_there t4 HAl.out) (sum_info HAl.out) (sum_one A) ?_)
  change Code.wp _ _ _ _ ((v4.alloc zSum).setCells v4.heap.size 0 (A.map u8V))
  obtain ⟨w4, hw4⟩ : ∃ u, u = (v4.alloc zSum).setCells v4.heap.size 0 (A.map u8V) := ⟨_, rfl⟩
  obtain ⟨z4a, y4⟩ : IsH A w4 v4.heap.size ∧ Below v4.heap.size v4 w4 := by rw [hw4]; exact var_sum v4 A HAl.out
  have k4 : Below w3.heap.size w3 w4 := c4.trans (y4.mono c4.size)
  have b4 : Below w.heap.size w w4 := below_step b3 (Nat.le_refl _) k4
  rw [← hw4]
  replace Jq3 : Hid (IsH x w4 q3) := Lib.hid ((k4.block _ (Array.getElem?_eq_some_iff.1 Jq3.out).1).trans Jq3.out)
  replace Jq4 : Hid (w4.heap[q4]? = some (.cells #[.int .i64 m, .int .i64 n] 24 (0, 0))) := Lib.hid ((k4.block _ (Array.getElem?_eq_some_iff.1 Jq4.out).1).trans Jq4.out)
  replace Jq9 : Hid (IsH A w4 q9) := Lib.hid ((k4.block _ (Array.getElem?_eq_some_iff.1 Jq9.out).1).trans Jq9.out)
  replace HP : Hid (Sums w4 (.slice ap np cp) P) := Lib.hid (HP.out.old k4)
  obtain ⟨q11, hq11⟩ : ∃ q, q = v4.heap.size := ⟨_, rfl⟩
  rw [← hq11] at z4a ⊢
  have Jq11 : Hid (IsH A w4 q11) := Lib.hid z4a
  clear hw4 c4 k4 t4 y4 z4a hq11 c0 c1
  have c0 := (cell_of Jq4.out 0 : w4.cell? ⟨q4, 0, none⟩ = some (.int .i64 m))
  have c1 := (cell_of Jq4.out 1 : w4.cell? ⟨q4, 1, none⟩ = some (.int .i64 n))
  go_upto_region 6 with (first
    | refine wpList_load_mid rfl 23 (.tmp 3) rfl q3 (0) rfl (x.map u8V) _ (range_var Jq3.out) Tryd.underlying23 rfl (sum_info' HX.out) ?_
    | (go_at_call 14; (refine (HBO.out _ _ (hkw _ b4) HP.out).mono ?_); rintro e v5 ⟨rfl, c5⟩; have t5 := two_new v5 C HCl.out)
    | refine wpList_store_mid rfl 23 (.tmp 13) (.tmp 50) rfl v5.heap.size 0 (C.map u8V).toArray rfl rfl (sum_there t5.1 HCl.out) (sum_info HCl.out) (sum_one C) ?_
    | refine wpList_store_mid rfl 23 (.tmp 14) (.tmp 51) rfl (v5.heap.size + 1) 0 (D.map u8V).toArray rfl rfl (sum_there t5.2.1 HDl.out) (sum_info HDl.out) (sum_one D) ?_)
  change Code.wp _ _ _ _ ((((v5.alloc zSum).alloc zSum).setCells v5.heap.size 0 (C.map u8V)).setCells (v5.heap.size + 1) 0 (D.map u8V))
  obtain ⟨w5, hw5⟩ : ∃ u, u = (((v5.alloc zSum).alloc zSum).setCells v5.heap.size 0 (C.map u8V)).setCells (v5.heap.size + 1) 0 (D.map u8V) := ⟨_, rfl⟩
  obtain ⟨z5a, z5b, y5⟩ := two_set v5 C D HCl.out HDl.out w5 hw5
  have k5 : Below w4.heap.size w4 w5 := c5.trans (y5.mono c5.size)
  have b5 : Below w.heap.size w w5 := below_step b4 (Nat.le_refl _) k5
  rw [← hw5]
  replace Jq3 : Hid (IsH x w5 q3) := Lib.hid ((k5.block _ (Array.getElem?_eq_some_iff.1 Jq3.out).1).trans Jq3.out)
  replace Jq4 : Hid (w5.heap[q4]? = some (.cells #[.int .i64 m, .int .i64 n] 24 (0, 0))) := Lib.hid ((k5.block _ (Array.getElem?_eq_some_iff.1 Jq4.out).1).trans Jq4.out)
  replace Jq9 : Hid (IsH A w5 q9) := Lib.hid ((k5.block _ (Array.getElem?_eq_some_iff.1 Jq9.out).1).trans Jq9.out)
  replace Jq11 : Hid (IsH A w5 q11) := Lib.hid ((k5.block _ (Array.getElem?_eq_some_iff.1 Jq11.out).1).trans Jq11.out)
  replace HP : Hid (Sums w5 (.slice ap np cp) P) := Lib.hid (HP.out.old k5)
  obtain ⟨q14, hq14⟩ : ∃ q, q = v5.heap.size + 1 := ⟨_, rfl⟩
  rw [← hq14] at z5b ⊢
  have Jq14 : Hid (IsH D w5 q14) := Lib.hid z5b
  obtain ⟨q13, hq13⟩ : ∃ q, q = v5.heap.size := ⟨_, rfl⟩
  rw [← hq13] at z5a ⊢
  have Jq13 : Hid (IsH C w5 q13) := Lib.hid z5a
  clear hw5 c5 k5 t5 y5 z5a z5b hq13 hq14 c0 c1
  have c0 := (cell_of Jq4.out 0 : w5.cell? ⟨q4, 0, none⟩ = some (.int .i64 m))
  have c1 := (cell_of Jq4.out 1 : w5.cell? ⟨q4, 1, none⟩ = some (.int .i64 n))
  go_upto_region 7 with (first
    | refine wpList_load_mid rfl 23 (.tmp 3) rfl q3 (0) rfl (x.map u8V) _ (range_var Jq3.out) Tryd.underlying23 rfl (sum_info' HX.out) ?_
    | (go_at_call 15; (refine (HRB.out _ _ HP.out).mono ?_); rintro e v6 ⟨rfl, c6⟩; have t6 := two_new v6 C HCl.out)
    | refine wpList_store_mid rfl 23 (.tmp 16) (.tmp 61) rfl v6.heap.size 0 (C.map u8V).toArray rfl rfl (sum_there t6.1 HCl.out) (sum_info HCl.out) (sum_one C) ?_
    | refine wpList_store_mid rfl 23 (.tmp 17) (.tmp 62) rfl (v6.heap.size + 1) 0 (D.map u8V).toArray rfl rfl (sum_there t6.2.1 HDl.out) (sum_info HDl.out) (sum_one D) ?_)
  change Code.wp _ _ _ _ ((((v6.alloc zSum).alloc zSum).setCells v6.heap.size 0 (C.map u8V)).setCells (v6.heap.size + 1) 0 (D.map u8V))
  obtain ⟨w6, hw6⟩ : ∃ u, u = (((v6.alloc zSum).alloc zSum).setCells v6.heap.size 0 (C.map u8V)).setCells (v6.heap.size + 1) 0 (D.map u8V) := ⟨_, rfl⟩
  obtain ⟨z6a, z6b, y6⟩ := two_set v6 C D HCl.out HDl.out w6 hw6
  have k6 : Below w5.heap.size w5 w6 := c6.trans (y6.mono c6.size)
  have b6 : Below w.heap.size w w6 := below_step b5 (Nat.le_refl _) k6
  rw [← hw6]
  replace Jq3 : Hid (IsH x w6 q3) := Lib.hid ((k6.block _ (Array.getElem?_eq_some_iff.1 Jq3.out).1).trans Jq3.out)
  replace Jq4 : Hid (w6.heap[q4]? = some (.cells #[.int .i64 m, .int .i64 n] 24 (0, 0))) := Lib.hid ((k6.block _ (Array.getElem?_eq_some_iff.1 Jq4.out).1).trans Jq4.out)
  replace Jq9 : Hid (IsH A w6 q9) := Lib.hid ((k6.block _ (Array.getElem?_eq_some_iff.1 Jq9.out).1).trans Jq9.out)
  replace Jq11 : Hid (IsH A w6 q11) := Lib.hid ((k6.block _ (Array.getElem?_eq_some_iff.1 Jq11.out).1).trans Jq11.out)
  replace Jq14 : Hid (IsH D w6 q14) := Lib.hid ((k6.block _ (Array.getElem?_eq_some_iff.1 Jq14.out).1).trans Jq14.out)
  replace Jq13 : Hid (IsH C w6 q13) := Lib.hid ((k6.block _ (Array.getElem?_eq_some_iff.1 Jq13.out).1).trans Jq13.out)
  replace HP : Hid (Sums w6 (.slice ap np cp) P) := Lib.hid (HP.out.old k6)
  obtain ⟨q17, hq17⟩ : ∃ q, q = v6.heap.size + 1 := ⟨_, rfl⟩
  rw [← hq17] at z6b ⊢
  have Jq17 : Hid (IsH D w6 q17) := Lib.hid z6b
  obtain ⟨q16, hq16⟩ : ∃ q, q = v6.heap.size := ⟨_, rfl⟩
  rw [← hq16] at z6a ⊢
  have Jq16 : Hid (IsH C w6 q16) := Lib.hid z6a
  clear hw6 c6 k6 t6 y6 z6a z6b hq16 hq17 c0 c1
  have HBW := Lib.hid b6
  clear hkw b2 b3 b4 b5 b6
  try simp only [Act.put]
  refine wp_region_tab0 [RT.is (.bool true), RT.is (.bool true), RT.is (sumV A), RT.is (sumV A), RT.is (.bool true), RT.is (.bool true), RT.is (.bool true), RT.is (.bool i), RT.is (.bool i), RT.is (.bool true), RT.is (.bool true), RT.is (.bool true), RT.is (sumV C), RT.is (sumV C), RT.is (.bool true), RT.is (.bool true), RT.is (.bool true), RT.is (sumV D), RT.is (sumV D), RT.is (.bool true), RT.is (.bool true), RT.is (.bool true), RT.is (.bool j), RT.is (.bool j), RT.is (.bool true), RT.is (.bool true), RT.is (.bool true)] (by kernel_rfl) (by kernel_rfl) (by kernel_rfl) ⟨?_, ?_, ?_, ?_, ?_, ?_, ?_, ?_, ?_, ?_, ?_, ?_, ?_, ?_, ?_, ?_, ?_, ?_, ?_, ?_, ?_, ?_, ?_, ?_, ?_, ?_, ?_, trivial⟩ ?_
  · intro ac w' hF hL hP hU K hK
    have hB : Below _ _ _ := hL
    have e7 : ac.eval (.tmp 7) = .bool true := hF.at 7 (by kernel_rfl)
    exact rop_move _ rfl e7 (wanted_none rfl) (hK _ _ (le8_refl _) rfl)
  · intro ac w' hF hL hP hU K hK
    have hB : Below _ _ _ := hL
    have e64 : ac.eval (.tmp 64) = .bool true := hP 0 (by kernel_rfl)
    exact rop_move _ rfl e64 (wanted_none rfl) (hK _ _ (le8_refl _) rfl)
  · intro ac w' hF hL hP hU K hK
    have hB : Below _ _ _ := hL
    have e9 : ac.eval (.tmp 9) = .pointer (some ⟨q9, 0, none⟩) := hF.at 9 (by kernel_rfl)
    have e65 : ac.eval (.tmp 65) = .bool true := hP 1 (by kernel_rfl)
    exact rop_ld _ _ rfl e9 (load_sumP HAl.out (range_var (IsH.old Jq9.out hB))) (wanted_of (j := 1) (b := true) rfl rfl e65) (hK _ _ (le8_refl _) rfl)
  · intro ac w' hF hL hP hU K hK
    have hB : Below _ _ _ := hL
    have e11 : ac.eval (.tmp 11) = .pointer (some ⟨q11, 0, none⟩) := hF.at 11 (by kernel_rfl)
    have e65 : ac.eval (.tmp 65) = .bool true := hP 1 (by kernel_rfl)
    exact rop_ld _ _ rfl e11 (load_sumP HAl.out (range_var (IsH.old Jq11.out hB))) (wanted_of (j := 1) (b := true) rfl rfl e65) (hK _ _ (le8_refl _) rfl)
  · intro ac w' hF hL hP hU K hK
    have hB : Below _ _ _ := hL
    have e66 : ac.eval (.tmp 66) = sumV A := hP 2 (by kernel_rfl)
    have e67 : ac.eval (.tmp 67) = sumV A := hP 3 (by kernel_rfl)
    have e65 : ac.eval (.tmp 65) = .bool true := hP 1 (by kernel_rfl)
    exact rop_bin _ _ _ _ _ rfl e66 e67 (guard_run _ _ _ _ _ w') (eql_sum_tt A A HAl.out HAl.out rfl w') (wanted_of (j := 1) (b := true) rfl rfl e65) (hK _ _ (le8_refl _) rfl)
  · intro ac w' hF hL hP hU K hK
    have hB : Below _ _ _ := hL
    have e65 : ac.eval (.tmp 65) = .bool true := hP 1 (by kernel_rfl)
    have e68 : ac.eval (.tmp 68) = .bool true := hP 4 (by kernel_rfl)
    exact rop_pick _ _ _ rfl true e65 (by simpa using e68) (wanted_none rfl) (hK _ _ (le8_refl _) rfl)
  · intro ac w' hF hL hP hU K hK
    have hB : Below _ _ _ := hL
    have e69 : ac.eval (.tmp 69) = .bool true := hP 5 (by kernel_rfl)
    exact rop_move _ rfl e69 (wanted_none rfl) (hK _ _ (le8_refl _) rfl)
  · intro ac w' hF hL hP hU K hK
    have hB : Below _ _ _ := hL
    have e10 : ac.eval (.tmp 10) = .bool i := hF.at 10 (by kernel_rfl)
    have e70 : ac.eval (.tmp 70) = .bool true := hP 6 (by kernel_rfl)
    exact rop_move _ rfl e10 (wanted_of (j := 6) (b := true) rfl rfl e70) (hK _ _ (le8_refl _) rfl)
  · intro ac w' hF hL hP hU K hK
    have hB : Below _ _ _ := hL
    have e12 : ac.eval (.tmp 12) = .bool i := hF.at 12 (by kernel_rfl)
    have e70 : ac.eval (.tmp 70) = .bool true := hP 6 (by kernel_rfl)
    exact rop_move _ rfl e12 (wanted_of (j := 6) (b := true) rfl rfl e70) (hK _ _ (le8_refl _) rfl)
  · intro ac w' hF hL hP hU K hK
    have hB : Below _ _ _ := hL
    have e71 : ac.eval (.tmp 71) = .bool i := hP 7 (by kernel_rfl)
    have e72 : ac.eval (.tmp 72) = .bool i := hP 8 (by kernel_rfl)
    have e70 : ac.eval (.tmp 70) = .bool true := hP 6 (by kernel_rfl)
    exact rop_bin _ _ _ _ _ rfl e71 e72 (guard_bool _ _ _ _ _ _ w') (eql_bool_sameP i w') (wanted_of (j := 6) (b := true) rfl rfl e70) (hK _ _ (le8_refl _) rfl)
  · intro ac w' hF hL hP hU K hK
    have hB : Below _ _ _ := hL
    have e70 : ac.eval (.tmp 70) = .bool true := hP 6 (by kernel_rfl)
    have e73 : ac.eval (.tmp 73) = .bool true := hP 9 (by kernel_rfl)
    exact rop_pick _ _ _ rfl true e70 (by simpa using e73) (wanted_none rfl) (hK _ _ (le8_refl _) rfl)
  · intro ac w' hF hL hP hU K hK
    have hB : Below _ _ _ := hL
    have e74 : ac.eval (.tmp 74) = .bool true := hP 10 (by kernel_rfl)
    exact rop_move _ rfl e74 (wanted_none rfl) (hK _ _ (le8_refl _) rfl)
  · intro ac w' hF hL hP hU K hK
    have hB : Below _ _ _ := hL
    have e13 : ac.eval (.tmp 13) = .pointer (some ⟨q13, 0, none⟩) := hF.at 13 (by kernel_rfl)
    have e75 : ac.eval (.tmp 75) = .bool true := hP 11 (by kernel_rfl)
    exact rop_ld _ _ rfl e13 (load_sumP HCl.out (range_var (IsH.old Jq13.out hB))) (wanted_of (j := 11) (b := true) rfl rfl e75) (hK _ _ (le8_refl _) rfl)
  · intro ac w' hF hL hP hU K hK
    have hB : Below _ _ _ := hL
    have e16 : ac.eval (.tmp 16) = .pointer (some ⟨q16, 0, none⟩) := hF.at 16 (by kernel_rfl)
    have e75 : ac.eval (.tmp 75) = .bool true := hP 11 (by kernel_rfl)
    exact rop_ld _ _ rfl e16 (load_sumP HCl.out (range_var (IsH.old Jq16.out hB))) (wanted_of (j := 11) (b := true) rfl rfl e75) (hK _ _ (le8_refl _) rfl)
  · intro ac w' hF hL hP hU K hK
    have hB : Below _ _ _ := hL
    have e76 : ac.eval (.tmp 76) = sumV C := hP 12 (by kernel_rfl)
    have e77 : ac.eval (.tmp 77) = sumV C := hP 13 (by kernel_rfl)
    have e75 : ac.eval (.tmp 75) = .bool true := hP 11 (by kernel_rfl)
    exact rop_bin _ _ _ _ _ rfl e76 e77 (guard_run _ _ _ _ _ w') (eql_sum_tt C C HCl.out HCl.out rfl w') (wanted_of (j := 11) (b := true) rfl rfl e75) (hK _ _ (le8_refl _) rfl)
  · intro ac w' hF hL hP hU K hK
    have hB : Below _ _ _ := hL
    have e75 : ac.eval (.tmp 75) = .bool true := hP 11 (by kernel_rfl)
    have e78 : ac.eval (.tmp 78) = .bool true := hP 14 (by kernel_rfl)
    exact rop_pick _ _ _ rfl true e75 (by simpa using e78) (wanted_none rfl) (hK _ _ (le8_refl _) rfl)
  · intro ac w' hF hL hP hU K hK
    have hB : Below _ _ _ := hL
    have e79 : ac.eval (.tmp 79) = .bool true := hP 15 (by kernel_rfl)
    exact rop_move _ rfl e79 (wanted_none rfl) (hK _ _ (le8_refl _) rfl)
  · intro ac w' hF hL hP hU K hK
    have hB : Below _ _ _ := hL
    have e14 : ac.eval (.tmp 14) = .pointer (some ⟨q14, 0, none⟩) := hF.at 14 (by kernel_rfl)
    have e80 : ac.eval (.tmp 80) = .bool true := hP 16 (by kernel_rfl)
    exact rop_ld _ _ rfl e14 (load_sumP HDl.out (range_var (IsH.old Jq14.out hB))) (wanted_of (j := 16) (b := true) rfl rfl e80) (hK _ _ (le8_refl _) rfl)
  · intro ac w' hF hL hP hU K hK
    have hB : Below _ _ _ := hL
    have e17 : ac.eval (.tmp 17) = .pointer (some ⟨q17, 0, none⟩) := hF.at 17 (by kernel_rfl)
    have e80 : ac.eval (.tmp 80) = .bool true := hP 16 (by kernel_rfl)
    exact rop_ld _ _ rfl e17 (load_sumP HDl.out (range_var (IsH.old Jq17.out hB))) (wanted_of (j := 16) (b := true) rfl rfl e80) (hK _ _ (le8_refl _) rfl)
  · intro ac w' hF hL hP hU K hK
    have hB : Below _ _ _ := hL
    have e81 : ac.eval (.tmp 81) = sumV D := hP 17 (by kernel_rfl)
    have e82 : ac.eval (.tmp 82) = sumV D := hP 18 (by kernel_rfl)
    have e80 : ac.eval (.tmp 80) = .bool true := hP 16 (by kernel_rfl)
    exact rop_bin _ _ _ _ _ rfl e81 e82 (guard_run _ _ _ _ _ w') (eql_sum_tt D D HDl.out HDl.out rfl w') (wanted_of (j := 16) (b := true) rfl rfl e80) (hK _ _ (le8_refl _) rfl)
  · intro ac w' hF hL hP hU K hK
    have hB : Below _ _ _ := hL
    have e80 : ac.eval (.tmp 80) = .bool true := hP 16 (by kernel_rfl)
    have e83 : ac.eval (.tmp 83) = .bool true := hP 19 (by kernel_rfl)
    exact rop_pick _ _ _ rfl true e80 (by simpa using e83) (wanted_none rfl) (hK _ _ (le8_refl _) rfl)
  · intro ac w' hF hL hP hU K hK
    have hB : Below _ _ _ := hL
    have e84 : ac.eval (.tmp 84) = .bool true := hP 20 (by kernel_rfl)
    exact rop_move _ rfl e84 (wanted_none rfl) (hK _ _ (le8_refl _) rfl)
  · intro ac w' hF hL hP hU K hK
    have hB : Below _ _ _ := hL
    have e15 : ac.eval (.tmp 15) = .bool j := hF.at 15 (by kernel_rfl)
    have e85 : ac.eval (.tmp 85) = .bool true := hP 21 (by kernel_rfl)
    exact rop_move _ rfl e15 (wanted_of (j := 21) (b := true) rfl rfl e85) (hK _ _ (le8_refl _) rfl)
  · intro ac w' hF hL hP hU K hK
    have hB : Below _ _ _ := hL
    have e18 : ac.eval (.tmp 18) = .bool j := hF.at 18 (by kernel_rfl)
    have e85 : ac.eval (.tmp 85) = .bool true := hP 21 (by kernel_rfl)
    exact rop_move _ rfl e18 (wanted_of (j := 21) (b := true) rfl rfl e85) (hK _ _ (le8_refl _) rfl)
  · intro ac w' hF hL hP hU K hK
    have hB : Below _ _ _ := hL
    have e86 : ac.eval (.tmp 86) = .bool j := hP 22 (by kernel_rfl)
    have e87 : ac.eval (.tmp 87) = .bool j := hP 23 (by kernel_rfl)
    have e85 : ac.eval (.tmp 85) = .bool true := hP 21 (by kernel_rfl)
    exact rop_bin _ _ _ _ _ rfl e86 e87 (guard_bool _ _ _ _ _ _ w') (eql_bool_sameP j w') (wanted_of (j := 21) (b := true) rfl rfl e85) (hK _ _ (le8_refl _) rfl)
  · intro ac w' hF hL hP hU K hK
    have hB : Below _ _ _ := hL
    have e85 : ac.eval (.tmp 85) = .bool true := hP 21 (by kernel_rfl)
    have e88 : ac.eval (.tmp 88) = .bool true := hP 24 (by kernel_rfl)
    exact rop_pick _ _ _ rfl true e85 (by simpa using e88) (wanted_none rfl) (hK _ _ (le8_refl _) rfl)
  · intro ac w' hF hL hP hU K hK
    have hB : Below _ _ _ := hL
    have e89 : ac.eval (.tmp 89) = .bool true := hP 25 (by kernel_rfl)
    exact rop_assign _ rfl e89 (wanted_none rfl) (hK _ _ (le8_refl _) rfl)
  · intro ac w' hF hB hT
    have e89 : ac.eval (.tmp 89) = .bool true := hT 25 (by decide)
    have e6 : ac.eval (.tmp 6) = .bool true := hT 26 (by decide)
    rw [hF.setsG [64, 65, 66, 67, 68, 69, 70, 71, 72, 73, 74, 75, 76, 77, 78, 79, 80, 81, 82, 83, 84, 85, 86, 87, 88, 89, 6] (by kernel_rfl)]
    simp only [List.foldl_cons, List.foldl_nil, List.setIfInBounds_toArray, List.set_cons_succ, List.set_cons_zero, e89, e6]
    generalize ac.eval (.tmp 64) = u64
    generalize ac.eval (.tmp 65) = u65
    generalize ac.eval (.tmp 66) = u66
    generalize ac.eval (.tmp 67) = u67
    generalize ac.eval (.tmp 68) = u68
    generalize ac.eval (.tmp 69) = u69
    generalize ac.eval (.tmp 70) = u70
    generalize ac.eval (.tmp 71) = u71
    generalize ac.eval (.tmp 72) = u72
    generalize ac.eval (.tmp 73) = u73
    generalize ac.eval (.tmp 74) = u74
    generalize ac.eval (.tmp 75) = u75
    generalize ac.eval (.tmp 76) = u76
    generalize ac.eval (.tmp 77) = u77
    generalize ac.eval (.tmp 78) = u78
    generalize ac.eval (.tmp 79) = u79
    generalize ac.eval (.tmp 80) = u80
    generalize ac.eval (.tmp 81) = u81
    generalize ac.eval (.tmp 82) = u82
    generalize ac.eval (.tmp 83) = u83
    generalize ac.eval (.tmp 84) = u84
    generalize ac.eval (.tmp 85) = u85
    generalize ac.eval (.tmp 86) = u86
    generalize ac.eval (.tmp 87) = u87
    generalize ac.eval (.tmp 88) = u88
    clear e89 e6 hT hF ac
    have HF := Lib.hid (below_step HBW.out (Nat.le_refl _) hB)
    clear hB
    go_wp2
    go_ret
    exact ⟨rfl, HF.out⟩

set_option maxRecDepth 100000 in
theorem lifted (os : Os) (started : os.Started) (H : Type) (enc : TypeId × Value → H) :
    ReturnsInHanded {} Tryd.checked os 3 .any (fun w args => (Rows.proofFoldsSpec.pre enc Tryd.prog Tryd.f3 [] false w args ∧ laidMetH Tryd.prog [("scrinium/sha.k", Rows.laid_scrinium_sha_k)] w) ∧ sizedMet enc Tryd.prog Tryd.f3 (OpenSpec.ofChange Rows.proofFoldsSpec) false w args)
      (Rows.proofFoldsSpec.post enc Tryd.prog Tryd.f3 false true false false) := by
  refine returnsInHanded_of_change_and (C := Tryd.checked) (X := fun w _ => laidMetH Tryd.prog [("scrinium/sha.k", Rows.laid_scrinium_sha_k)] w) (fun _ _ _ hh h => h.of_heap hh) lawOwn started (by kernel_rfl) Tryd.func3
    (ChangeSpec.witness_shaped (enc := enc) (C := Tryd.checked) (os := os) (X := fun w _ => laidMetH Tryd.prog [("scrinium/sha.k", Rows.laid_scrinium_sha_k)] w) false (World.doorLaid Tryd.prog 400 os) #[sumV (List.replicate 32 0), .agg #[.int .i64 0, .int .i64 0], .slice none 0 0] 8 rfl (World.shaped_of_RefB (by kernel_rfl) (by kernel_rfl)) (by kernel_rfl) (by kernel_rfl) (by kernel_rfl) (door_met os _)) ?_
  intro W base args ds gs before hval0 hW _ _ hL _
  have hval : ∀ (j : Nat) t v, Tryd.f3.params[j]? = some t → args[j]? = some v → Value.okWide Tryd.prog W .any base t v := hval0
  have hW' := hW
  obtain ⟨p, q, hA0, hV, rfl, hfz, hnd⟩ := hW
  have hA : DataW.TrodAll enc Tryd.prog W 0 (fun _ => true) true Tryd.f3.params.toList args.toList ds p := hA0
  rw [Tryd.params3] at hA hval
  obtain ⟨v0, vs0, d0, ds0, p0, q0, hargs, rfl, rfl, h0, r0⟩ := trodAll_cons hA
  obtain ⟨v1, vs1, d1, ds1, p1, q1, rfl, rfl, rfl, h1, r1⟩ := trodAll_cons r0
  obtain ⟨v2, vs2, d2, ds2, p2, q2, rfl, rfl, rfl, h2, r2⟩ := trodAll_cons r1
  obtain ⟨rfl, rfl, rfl⟩ := trodAll_nil r2
  obtain rfl : args = #[v0, v1, v2] := by cases args; simp_all
  obtain ⟨rfl, rfl⟩ := trodVars_none hV
  have hKT := KT_of_laid hL
  obtain ⟨x0, rfl, w0⟩ := open_sum (hval 0 23 v0 rfl rfl) h0
  obtain ⟨z1, y1, rfl, w1, w1b⟩ := ints2_argP (hval 1 24 v1 rfl rfl) h1
  obtain ⟨a2, len2, cap2, rfl⟩ := okWide_slice Tryd.underlying25 (hval 2 25 v2 rfl rfl)
  obtain ⟨l2, w2⟩ := sums_of h2
  clear hA0 hval0
  refine (walk (w := W) hKT x0 w0 z1 y1 w1 w1b _ l2 w2).mono fun e W' ⟨he, bel⟩ => ?_
  subst he
  exact ⟨_, rfl, law_post rfl rfl (by kernel_rfl) hW' rfl bel⟩

theorem row_holds : Rows.ProofFoldsSaid :=
  OpenClaim.holds_of_wide 3 Tryd.f3 rfl rfl rfl rfl rfl rfl rfl ⟨rfl, rfl, rfl, rfl, rfl⟩ rfl rfl rfl rfl rfl (by kernel_rfl) Tryd.func3 (by kernel_rfl)
    (of_decide_eq_true (by kernel_rfl)) (by unfold Func.isWrapper; first | (rw [if_pos (by decide +kernel)]; kernel_rfl) | (rw [if_neg (by decide +kernel)]; exact ⟨rfl, rfl⟩))
    (fun os started H enc _ => lifted os started H enc)

theorem holds : Rows.ProofFoldsCardSaid :=
  Claim7.holds_tied_plain_at .later [] [.data] true Rows.proofFoldsCard.stood.harness false
    row_holds (fun _ h => by cases h) (by kernel_rfl) (fun _ h => by cases h) proofFolds_row_tie rfl ⟨rfl, rfl⟩ (by kernel_rfl) rfl
    (fun f fn hf hfn => by
      obtain rfl : f = 3 := Option.some.inj ((show Tryd.prog.funcNamed "scrinium/scriniumlaw12.ProofFolds" = some 3 by kernel_rfl).symm.trans hf) |>.symm
      obtain rfl : fn = Tryd.f3 := (Option.some.inj (Tryd.func3.symm.trans hfn)).symm
      exact ⟨by kernel_rfl, fun j t ht => by
        rw [Tryd.params3] at ht
        have hm : t ∈ [23, 24, 25] := by simpa using Array.mem_of_getElem? ht
        have hall : ([23, 24, 25].all fun u => !Tryd.prog.wantsStandIn u) = true := by kernel_rfl
        exact (show Tryd.prog.wantsStandIn t = false by simpa using List.all_eq_true.1 hall t hm)⟩)
    (by kernel_rfl)
end Go.Proofs.YtjdhcncjcencbaaDoor.proofFolds

theorem Go.Proofs.YtjdhcncjcencbaaDoor.proofFolds_holds : Go.Proofs.YtjdhcncjcencbaaDoor.Rows.ProofFoldsCardSaid := Go.Proofs.YtjdhcncjcencbaaDoor.proofFolds.holds
#print axioms Go.Proofs.YtjdhcncjcencbaaDoor.proofFolds_holds
