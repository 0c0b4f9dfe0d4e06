/-
  ProofTells: Right and Goes are as the document says, of any hashes, and of those that the parts come to. For any three hashes, any two numbers, any hashes (the first 50 of them); the numbers K of the package sha are as the program's own start lays them.
-/
import Derived.Test.YtjdhcncjcencbaaDoorProofHelp
namespace Go.Proofs.YtjdhcncjcencbaaDoor.proofTells
open Go.ChangeShapes Go.WideShapes Go.ChangeAt Go.RowKit

set_option maxHeartbeats 8000000 in
set_option maxRecDepth 100000 in
theorem walk {w : World} (hK : KT w) (x0 x1 x2 : List UInt8) (hx0 : x0.length = 32) (hx1 : x1.length = 32) (hx2 : x2.length = 32) (m n : Int) (hm : -9223372036854775808 ≤ m ∧ m ≤ 9223372036854775807) (hn : -9223372036854775808 ≤ n ∧ n ≤ 9223372036854775807) (v : Value) (l : Hs) (hv : Sums w v l) :
    Calls Tryd.prog 4 #[.agg (sc [x0, x1, x2]).toArray, .agg #[.int .i64 m, .int .i64 n], v] w fun e w' => e = .returned (.bool true) ∧ Below w.heap.size w w' := by
  obtain ⟨P, hP⟩ : ∃ P, P = l.take 50 := ⟨_, rfl⟩
  have hPl : P.length ≤ 1000 := by rw [hP, List.length_take]; omega
  have hPo : all32 P := by rw [hP]; exact hv.ok.take 50
  obtain ⟨A, hA⟩ : ∃ A, A = (foldZ x1 m n P).1 := ⟨_, rfl⟩
  obtain ⟨i, hi⟩ : ∃ i, i = (foldZ x1 m n P).2 := ⟨_, rfl⟩
  obtain ⟨C, hC⟩ : ∃ C, C = (bothZ x1 m n P).1.1 := ⟨_, rfl⟩
  obtain ⟨Y, hY⟩ : ∃ Y, Y = (bothZ x1 m n P).1.2 := ⟨_, rfl⟩
  obtain ⟨k, hk⟩ : ∃ k, k = (bothZ x1 m n P).2 := ⟨_, rfl⟩
  obtain ⟨r0, hr0⟩ : ∃ r0, r0 = decide (A = x0) := ⟨_, rfl⟩
  obtain ⟨g1, hg1⟩ : ∃ g1, g1 = goesZ x1 m x2 n P := ⟨_, rfl⟩
  obtain ⟨g2, hg2⟩ : ∃ g2, g2 = goesZ x1 m Y n P := ⟨_, rfl⟩
  have hbl := bothZ_length x1 m n P hx1 hPo
  have HAl : Hid (A.length = 32) := Lib.hid (by rw [hA]; exact foldZ_length x1 m n P hx1)
  have HCl : Hid (C.length = 32) := Lib.hid (by rw [hC]; exact hbl.1)
  have HYl : Hid (Y.length = 32) := Lib.hid (by rw [hY]; exact hbl.2)
  have HX0l := Lib.hid hx0
  have HX1l := Lib.hid hx1
  have HX2l := Lib.hid hx2
  have HXo : Hid (all32 [x0, x1, x2]) := Lib.hid (by
    intro x hx
    simp at hx
    rcases hx with rfl | rfl | rfl
    · exact hx0
    · exact hx1
    · exact hx2)
  have eql_r0 : Hid (∀ u, (binOp .eql 23 (sumV A) (sumV x0)).run Tryd.prog u = .ok (.bool r0) u) := Lib.hid fun u => by rw [hr0]; exact eql_sum A x0 HAl.out hx0 u
  have HRF : Hid (∀ v u, Sums u v P → Calls Tryd.prog 13 #[sumV x1, .int .i64 m, .int .i64 n, v] u fun e w' => e = .returned (.tuple #[sumV A, .bool i]) ∧ Below u.heap.size u w') := Lib.hid fun v u hv => by rw [hA, hi]; exact rfold_any x1 hx1 m n hm.2 hn.2 v P u hv hPl
  have HRB : Hid (∀ v u, Sums u v P → Calls Tryd.prog 15 #[sumV x1, .int .i64 m, .int .i64 n, v] u fun e w' => e = .returned (.tuple #[sumV C, sumV Y, .bool k]) ∧ Below u.heap.size u w') := Lib.hid fun v u hv => by rw [hC, hY, hk]; exact rBoth_any x1 hx1 m n hm.2 hn.2 v P u hv hPl
  have HR00 : Hid (∀ v u, KT u → Sums u v P → Calls Tryd.prog 16 #[sumV x0, sumV x1, .int .i64 m, .int .i64 n, v] u fun e w' => e = .returned (.bool (i && r0)) ∧ Below u.heap.size u w') := Lib.hid fun v u hk0 hv => by rw [hi, hr0, hA]; exact right_any x0 x1 hx0 hx1 m n hm.2 hn.2 v P u hv hPl hk0
  have HR10 : Hid (∀ v u, KT u → Sums u v P → Calls Tryd.prog 16 #[sumV A, sumV x1, .int .i64 m, .int .i64 n, v] u fun e w' => e = .returned (.bool i) ∧ Below u.heap.size u w') := Lib.hid fun v u hk0 hv => by
    have := right_any A x1 HAl.out hx1 m n hm.2 hn.2 v P u hv hPl hk0
    rw [← hi, ← hA, decide_eq_true rfl, Bool.and_true] at this
    exact this
  have HG10 : Hid (∀ v u, KT u → Sums u v P → Calls Tryd.prog 17 #[sumV x1, .int .i64 m, sumV x2, .int .i64 n, v] u fun e w' => e = .returned (.bool g1) ∧ Below u.heap.size u w') := Lib.hid fun v u hk0 hv => by rw [hg1]; exact goes_any x1 x2 hx1 hx2 m n hm.2 hn.2 v P u hv hPl hk0
  have HH10 : Hid (∀ v u, Sums u v P → Calls Tryd.prog 18 #[sumV x1, .int .i64 m, sumV x2, .int .i64 n, v] u fun e w' => e = .returned (.bool g1) ∧ Below u.heap.size u w') := Lib.hid fun v u hv => by rw [hg1]; exact rgoes_any x1 x2 hx1 hx2 m n hm.2 hn.2 v P u hv hPl
  have HG20 : Hid (∀ v u, KT u → Sums u v P → Calls Tryd.prog 17 #[sumV x1, .int .i64 m, sumV Y, .int .i64 n, v] u fun e w' => e = .returned (.bool g2) ∧ Below u.heap.size u w') := Lib.hid fun v u hk0 hv => by rw [hg2]; exact goes_any x1 Y hx1 HYl.out m n hm.2 hn.2 v P u hv hPl hk0
  have HH20 : Hid (∀ v u, Sums u v P → Calls Tryd.prog 18 #[sumV x1, .int .i64 m, sumV Y, .int .i64 n, v] u fun e w' => e = .returned (.bool g2) ∧ Below u.heap.size u w') := Lib.hid fun v u hv => by rw [hg2]; exact rgoes_any x1 Y hx1 HYl.out m n hm.2 hn.2 v P u hv hPl
  have hkw : ∀ u, Below w.heap.size w u → KT u := fun u hu => hK.old hu
  obtain ⟨w0, hw0⟩ : ∃ w0, w0 = (w.alloc (.cells (sc [x0, x1, x2]).toArray 33)).alloc (.cells #[.int .i64 m, .int .i64 n] 24) := ⟨_, rfl⟩
  have b0 : Below w.heap.size w w0 := by rw [hw0]; exact ((Below.refl _ _).alloc (Nat.le_refl _) _).alloc (by simp) _
  have j3 : w0.heap[w.heap.size]? = some (.cells (sc [x0, x1, x2]).toArray 33 (0, 0)) := by
    rw [hw0]
    exact (((Below.refl (w.alloc (.cells (sc [x0, x1, x2]).toArray 33)).heap.size _).alloc (Nat.le_refl _) _).block w.heap.size (by simp)).trans (heap_alloc_last w _)
  have j4 : w0.heap[w.heap.size + 1]? = some (.cells #[.int .i64 m, .int .i64 n] 24 (0, 0)) := by
    have := heap_alloc_last (w.alloc (.cells (sc [x0, x1, x2]).toArray 33)) (.cells #[.int .i64 m, .int .i64 n] 24)
    rwa [World.size_alloc, ← hw0] at this
  have HAW := Lib.hid (awake12_any w0 (hkw _ b0))
  have HFW : Hid (∀ u, Below w.heap.size w u → Calls Tryd.prog 11 #[v, .int .i64 50] u fun e w' => ∃ v', e = .returned v' ∧ SumsB u.heap.size u v' (l.take 50) ∧ u = w') := Lib.hid fun u hu => few12_any v l 50 (by decide) u (hv.old hu)
  have HJ3 := Lib.hid j3
  have HJ4 := Lib.hid j4
  have HPE := Lib.hid hP
  clear hP hPl hPo hA hi hC hY hk hr0 hg1 hg2 hbl hx0 hx1 hx2 hv hK j3 j4
  obtain ⟨XX, hXX⟩ : ∃ XX, XX = (sc [x0, x1, x2]).toArray := ⟨_, rfl⟩
  rw [← hXX] at hw0 ⊢
  clear hXX
  go_enter Tryd.func4, Tryd.ntmps4
  go_upto_region 1 with (fail)
  rw [← hw0]
  clear hw0
  go_upto_region 3 with (first
    | (go_at_call 10; ((with_reducible refine HAW.out.mono ?_); rintro e w1 ⟨rfl, b1⟩; have b2 := below_step b0 (Nat.le_refl _) b1))
    | (go_at_call 11; refine (HFW.out _ b2).mono ?_; rintro e w2 ⟨v6, rfl, h6, rfl⟩; rw [← HPE.out] at h6; have HP6 := Lib.hid h6.1; clear h6))
  obtain ⟨w2, hw2⟩ : ∃ w2, w2 = w1 := ⟨_, rfl⟩
  subst hw2
  have Jq3' : Hid (w2.heap[w.heap.size]? = some (.cells (sc [x0, x1, x2]).toArray 33 (0, 0))) := Lib.hid (heap_oldP HJ3.out b1)
  have Jq4' : Hid (w2.heap[w.heap.size + 1]? = some (.cells #[.int .i64 m, .int .i64 n] 24 (0, 0))) := Lib.hid (heap_oldP HJ4.out b1)
  obtain ⟨ap, np, cp, rfl⟩ : ∃ a n c, v6 = .slice a n c := by obtain ⟨a, c, e, -, -⟩ := HP6.out.slice; exact ⟨_, _, _, e⟩
  have HP := HP6
  obtain ⟨q4, hq4⟩ : ∃ q4, q4 = w.heap.size + 1 := ⟨_, rfl⟩
  obtain ⟨q3, hq3⟩ : ∃ q3, q3 = w.heap.size := ⟨_, rfl⟩
  rw [← hq4] at Jq4' ⊢
  rw [← hq3] at Jq3' ⊢
  have Jq3 := Jq3'
  have Jq4 := Jq4'
  clear hq3 hq4 Jq3' Jq4' HP6 HJ3 HJ4 b0 b1 HAW HFW
  have c0 := (cell_of Jq4.out 0 : w2.cell? ⟨q4, 0, none⟩ = some (.int .i64 m))
  have c1 := (cell_of Jq4.out 1 : w2.cell? ⟨q4, 1, none⟩ = some (.int .i64 n))
  have i1 := fun u => idx3S q3 1 1 rfl (by decide) u
  go_upto_region 4 with (first
    | refine wpList_load_mid rfl 23 (.tmp 20) rfl q3 (1 * 32) rfl (x1.map u8V) _ (sc_rangeAt Jq3.out HXo.out 1 x1 rfl) Tryd.underlying23 rfl (sum_info' HX1l.out) ?_
    | (go_at_call 13; (refine (HRF.out _ _ HP.out).mono ?_); rintro e v3 ⟨rfl, c3⟩; have t3 := heap_alloc_last v3 zSum)
    | refine wpList_store_mid rfl 23 (.tmp 9) (.tmp 28) rfl v3.heap.size 0 (A.map u8V).toArray rfl rfl (sum_there t3 HAl.out) (sum_info HAl.out) (sum_one A) ?_)
  change Code.wp _ _ _ _ ((v3.alloc zSum).setCells v3.heap.size 0 (A.map u8V))
  obtain ⟨w3, hw3⟩ : ∃ u, u = (v3.alloc zSum).setCells v3.heap.size 0 (A.map u8V) := ⟨_, rfl⟩
  obtain ⟨z3a, y3⟩ : IsH A w3 v3.heap.size ∧ Below v3.heap.size v3 w3 := by rw [hw3]; exact var_sum v3 A HAl.out
  have k3 : Below w2.heap.size w2 w3 := c3.trans (y3.mono c3.size)
  have b3 : Below w.heap.size w w3 := below_step b2 (Nat.le_refl _) k3
  rw [← hw3]
  replace Jq3 : Hid (w3.heap[q3]? = some (.cells (sc [x0, x1, x2]).toArray 33 (0, 0))) := Lib.hid ((k3.block _ (Array.getElem?_eq_some_iff.1 Jq3.out).1).trans Jq3.out)
  replace Jq4 : Hid (w3.heap[q4]? = some (.cells #[.int .i64 m, .int .i64 n] 24 (0, 0))) := Lib.hid ((k3.block _ (Array.getElem?_eq_some_iff.1 Jq4.out).1).trans Jq4.out)
  replace HP : Hid (Sums w3 (.slice ap np cp) P) := Lib.hid (HP.out.old k3)
  obtain ⟨q9, hq9⟩ : ∃ q, q = v3.heap.size := ⟨_, rfl⟩
  rw [← hq9] at z3a ⊢
  have Jq9 : Hid (IsH A w3 q9) := Lib.hid z3a
  clear hw3 c3 k3 t3 y3 z3a hq9 c0 c1 i1
  have c0 := (cell_of Jq4.out 0 : w3.cell? ⟨q4, 0, none⟩ = some (.int .i64 m))
  have c1 := (cell_of Jq4.out 1 : w3.cell? ⟨q4, 1, none⟩ = some (.int .i64 n))
  have i1 := fun u => idx3S q3 1 1 rfl (by decide) u
  go_upto_region 5 with (first
    | refine wpList_load_mid rfl 23 (.tmp 31) rfl q3 (1 * 32) rfl (x1.map u8V) _ (sc_rangeAt Jq3.out HXo.out 1 x1 rfl) Tryd.underlying23 rfl (sum_info' HX1l.out) ?_
    | (go_at_call 15; (refine (HRB.out _ _ HP.out).mono ?_); rintro e v4 ⟨rfl, c4⟩; have t4 := two_new v4 C HCl.out)
    | refine wpList_store_mid rfl 23 (.tmp 11) (.tmp 39) rfl v4.heap.size 0 (C.map u8V).toArray rfl rfl (sum_there t4.1 HCl.out) (sum_info HCl.out) (sum_one C) ?_
    | refine wpList_store_mid rfl 23 (.tmp 12) (.tmp 40) rfl (v4.heap.size + 1) 0 (Y.map u8V).toArray rfl rfl (sum_there t4.2.1 HYl.out) (sum_info HYl.out) (sum_one Y) ?_)
  change Code.wp _ _ _ _ ((((v4.alloc zSum).alloc zSum).setCells v4.heap.size 0 (C.map u8V)).setCells (v4.heap.size + 1) 0 (Y.map u8V))
  obtain ⟨w4, hw4⟩ : ∃ u, u = (((v4.alloc zSum).alloc zSum).setCells v4.heap.size 0 (C.map u8V)).setCells (v4.heap.size + 1) 0 (Y.map u8V) := ⟨_, rfl⟩
  obtain ⟨z4a, z4b, y4⟩ := two_set v4 C Y HCl.out HYl.out w4 hw4
  have k4 : Below w3.heap.size w3 w4 := c4.trans (y4.mono c4.size)
  have b4 : Below w.heap.size w w4 := below_step b3 (Nat.le_refl _) k4
  rw [← hw4]
  replace Jq3 : Hid (w4.heap[q3]? = some (.cells (sc [x0, x1, x2]).toArray 33 (0, 0))) := Lib.hid ((k4.block _ (Array.getElem?_eq_some_iff.1 Jq3.out).1).trans Jq3.out)
  replace Jq4 : Hid (w4.heap[q4]? = some (.cells #[.int .i64 m, .int .i64 n] 24 (0, 0))) := Lib.hid ((k4.block _ (Array.getElem?_eq_some_iff.1 Jq4.out).1).trans Jq4.out)
  replace Jq9 : Hid (IsH A w4 q9) := Lib.hid ((k4.block _ (Array.getElem?_eq_some_iff.1 Jq9.out).1).trans Jq9.out)
  replace HP : Hid (Sums w4 (.slice ap np cp) P) := Lib.hid (HP.out.old k4)
  obtain ⟨q12, hq12⟩ : ∃ q, q = v4.heap.size + 1 := ⟨_, rfl⟩
  rw [← hq12] at z4b ⊢
  have Jq12 : Hid (IsH Y w4 q12) := Lib.hid z4b
  obtain ⟨q11, hq11⟩ : ∃ q, q = v4.heap.size := ⟨_, rfl⟩
  rw [← hq11] at z4a ⊢
  have Jq11 : Hid (IsH C w4 q11) := Lib.hid z4a
  clear hw4 c4 k4 t4 y4 z4a z4b hq11 hq12 c0 c1 i1
  have HBW := Lib.hid b4
  have hkw2 : ∀ u, Below w4.heap.size w4 u → KT u := fun u hu => hkw u (below_step HBW.out (Nat.le_refl _) hu)
  clear hkw b2 b3 b4
  obtain ⟨W, hW⟩ : ∃ W, W = w4 := ⟨_, rfl⟩
  subst hW
  have HR0 : Hid (∀ u, Below W.heap.size W u → Calls Tryd.prog 16 #[sumV x0, sumV x1, .int .i64 m, .int .i64 n, .slice ap np cp] u fun e w' => e = .returned (.bool (i && r0)) ∧ Below u.heap.size u w') := Lib.hid fun u hu => HR00.out _ u (hkw2 u hu) (HP.out.old hu)
  have HR1 : Hid (∀ u, Below W.heap.size W u → Calls Tryd.prog 16 #[sumV A, sumV x1, .int .i64 m, .int .i64 n, .slice ap np cp] u fun e w' => e = .returned (.bool i) ∧ Below u.heap.size u w') := Lib.hid fun u hu => HR10.out _ u (hkw2 u hu) (HP.out.old hu)
  have HG1 : Hid (∀ u, Below W.heap.size W u → Calls Tryd.prog 17 #[sumV x1, .int .i64 m, sumV x2, .int .i64 n, .slice ap np cp] u fun e w' => e = .returned (.bool g1) ∧ Below u.heap.size u w') := Lib.hid fun u hu => HG10.out _ u (hkw2 u hu) (HP.out.old hu)
  have HH1 : Hid (∀ u, Below W.heap.size W u → Calls Tryd.prog 18 #[sumV x1, .int .i64 m, sumV x2, .int .i64 n, .slice ap np cp] u fun e w' => e = .returned (.bool g1) ∧ Below u.heap.size u w') := Lib.hid fun u hu => HH10.out _ u (HP.out.old hu)
  have HG2 : Hid (∀ u, Below W.heap.size W u → Calls Tryd.prog 17 #[sumV x1, .int .i64 m, sumV Y, .int .i64 n, .slice ap np cp] u fun e w' => e = .returned (.bool g2) ∧ Below u.heap.size u w') := Lib.hid fun u hu => HG20.out _ u (hkw2 u hu) (HP.out.old hu)
  have HH2 : Hid (∀ u, Below W.heap.size W u → Calls Tryd.prog 18 #[sumV x1, .int .i64 m, sumV Y, .int .i64 n, .slice ap np cp] u fun e w' => e = .returned (.bool g2) ∧ Below u.heap.size u w') := Lib.hid fun u hu => HH20.out _ u (HP.out.old hu)
  clear hkw2 HR00 HR10 HG10 HH10 HG20 HH20 HRF HRB
  go_cut [14] from 42 to 72 (fun s wx => s = .bool true ∧ Below W.heap.size W wx)
  case first =>
    cases i with
    | true =>
      replace HR0 : Hid (∀ u, Below W.heap.size W u → Calls Tryd.prog 16 #[sumV x0, sumV x1, .int .i64 m, .int .i64 n, .slice ap np cp] u fun e w' => e = .returned (.bool r0) ∧ Below u.heap.size u w') := HR0
      try simp only [Act.put]
      refine wp_region_tab0 [RT.is (.pointer (some ⟨q3, 0 * 32, none⟩)), RT.is (sumV x0), RT.is (.pointer (some ⟨q3, 1 * 32, none⟩)), RT.is (sumV x1), RT.is (.pointer (some ⟨q4, 0, none⟩)), RT.is (.int .i64 m), RT.is (.pointer (some ⟨q4, 1, none⟩)), RT.is (.int .i64 n), RT.is (.slice ap np cp), RT.is (.bool r0), RT.is (.bool true), RT.is (.bool true), RT.is (sumV A), RT.is (.pointer (some ⟨q3, 0 * 32, none⟩)), RT.is (sumV x0), RT.is (.bool r0), RT.is (.bool r0), RT.is (.bool true), RT.is (.bool true), RT.is (sumV A), RT.is (.pointer (some ⟨q3, 1 * 32, none⟩)), RT.is (sumV x1), RT.is (.pointer (some ⟨q4, 0, none⟩)), RT.is (.int .i64 m), RT.is (.pointer (some ⟨q4, 1, none⟩)), RT.is (.int .i64 n), RT.is (.slice ap np cp), RT.is (.bool true), RT.is (.bool true), RT.is (.bool true), RT.is (.bool true), RT.is (.bool true)] (by kernel_rfl) (by kernel_rfl) (by kernel_rfl) ⟨?_, ?_, ?_, ?_, ?_, ?_, ?_, ?_, ?_, ?_, ?_, ?_, ?_, ?_, ?_, ?_, ?_, ?_, ?_, ?_, ?_, ?_, ?_, ?_, ?_, ?_, ?_, ?_, ?_, ?_, ?_, ?_, trivial⟩ ?_
      · intro ac w' hF hL hP hU K hK
        have hB : Below _ _ _ := hL
        have e3 : ac.eval (.tmp 3) = .pointer (some ⟨q3, 0, none⟩) := hF.at 3 (by kernel_rfl)
        exact rop_idx _ _ _ rfl e3 rfl (idx3S q3 0 _ rfl (by decide) w') (wanted_none rfl) (hK _ _ (le8_refl _) rfl)
      · intro ac w' hF hL hP hU K hK
        have hB : Below _ _ _ := hL
        have e42 : ac.eval (.tmp 42) = .pointer (some ⟨q3, 0 * 32, none⟩) := hP 0 (by kernel_rfl)
        exact rop_ld _ _ rfl e42 (load_sumP HX0l.out (sc_rangeAt (heap_oldP Jq3.out hB) HXo.out 0 x0 rfl)) (wanted_none rfl) (hK _ _ (le8_refl _) rfl)
      · intro ac w' hF hL hP hU K hK
        have hB : Below _ _ _ := hL
        have e3 : ac.eval (.tmp 3) = .pointer (some ⟨q3, 0, none⟩) := hF.at 3 (by kernel_rfl)
        exact rop_idx _ _ _ rfl e3 rfl (idx3S q3 1 _ rfl (by decide) w') (wanted_none rfl) (hK _ _ (le8_refl _) rfl)
      · intro ac w' hF hL hP hU K hK
        have hB : Below _ _ _ := hL
        have e44 : ac.eval (.tmp 44) = .pointer (some ⟨q3, 1 * 32, none⟩) := hP 2 (by kernel_rfl)
        exact rop_ld _ _ rfl e44 (load_sumP HX1l.out (sc_rangeAt (heap_oldP Jq3.out hB) HXo.out 1 x1 rfl)) (wanted_none rfl) (hK _ _ (le8_refl _) rfl)
      · intro ac w' hF hL hP hU K hK
        have hB : Below _ _ _ := hL
        have e4 : ac.eval (.tmp 4) = .pointer (some ⟨q4, 0, none⟩) := hF.at 4 (by kernel_rfl)
        exact rop_idx _ _ _ rfl e4 rfl (idx2i q4 0 _ rfl (by decide) w') (wanted_none rfl) (hK _ _ (le8_refl _) rfl)
      · intro ac w' hF hL hP hU K hK
        have hB : Below _ _ _ := hL
        have e46 : ac.eval (.tmp 46) = .pointer (some ⟨q4, 0, none⟩) := hP 4 (by kernel_rfl)
        exact rop_ld _ _ rfl e46 (load_intP (cell_of (heap_oldP Jq4.out hB) 0)) (wanted_none rfl) (hK _ _ (le8_refl _) rfl)
      · intro ac w' hF hL hP hU K hK
        have hB : Below _ _ _ := hL
        have e4 : ac.eval (.tmp 4) = .pointer (some ⟨q4, 0, none⟩) := hF.at 4 (by kernel_rfl)
        exact rop_idx _ _ _ rfl e4 rfl (idx2i q4 1 _ rfl (by decide) w') (wanted_none rfl) (hK _ _ (le8_refl _) rfl)
      · intro ac w' hF hL hP hU K hK
        have hB : Below _ _ _ := hL
        have e48 : ac.eval (.tmp 48) = .pointer (some ⟨q4, 1, none⟩) := hP 6 (by kernel_rfl)
        exact rop_ld _ _ rfl e48 (load_intP (cell_of (heap_oldP Jq4.out hB) 1)) (wanted_none rfl) (hK _ _ (le8_refl _) rfl)
      · intro ac w' hF hL hP hU K hK
        have hB : Below _ _ _ := hL
        have e8 : ac.eval (.tmp 8) = .slice ap np cp := hF.at 8 (by kernel_rfl)
        exact rop_move _ rfl e8 (wanted_none rfl) (hK _ _ (le8_refl _) rfl)
      · intro ac w' hF hL hP hU K hK
        have hB : Below _ _ _ := hL
        have e43 : ac.eval (.tmp 43) = sumV x0 := hP 1 (by kernel_rfl)
        have e45 : ac.eval (.tmp 45) = sumV x1 := hP 3 (by kernel_rfl)
        have e47 : ac.eval (.tmp 47) = .int .i64 m := hP 5 (by kernel_rfl)
        have e49 : ac.eval (.tmp 49) = .int .i64 n := hP 7 (by kernel_rfl)
        have e50 : ac.eval (.tmp 50) = .slice ap np cp := hP 8 (by kernel_rfl)
        refine rop_call 16 _ _ rfl #[sumV x0, sumV x1, .int .i64 m, .int .i64 n, .slice ap np cp] (by simp [e43, e45, e47, e49, e50]) (by kernel_rfl) (wanted_none rfl) ?_
        refine (HR0.out w' hB).mono ?_
        rintro e w2 ⟨rfl, hb⟩
        exact ⟨_, rfl, hK _ _ hb rfl⟩
      · intro ac w' hF hL hP hU K hK
        have hB : Below _ _ _ := hL
        have e10 : ac.eval (.tmp 10) = .bool true := hF.at 10 (by kernel_rfl)
        exact rop_move _ rfl e10 (wanted_none rfl) (hK _ _ (le8_refl _) rfl)
      · intro ac w' hF hL hP hU K hK
        have hB : Below _ _ _ := hL
        have e52 : ac.eval (.tmp 52) = .bool true := hP 10 (by kernel_rfl)
        exact rop_move _ rfl e52 (wanted_none rfl) (hK _ _ (le8_refl _) rfl)
      · intro ac w' hF hL hP hU K hK
        have hB : Below _ _ _ := hL
        have e9 : ac.eval (.tmp 9) = .pointer (some ⟨q9, 0, none⟩) := hF.at 9 (by kernel_rfl)
        have e53 : ac.eval (.tmp 53) = .bool true := hP 11 (by kernel_rfl)
        exact rop_ld _ _ rfl e9 (load_sumP HAl.out (range_var (IsH.old Jq9.out hB))) (wanted_of (j := 11) (b := true) rfl rfl e53) (hK _ _ (le8_refl _) rfl)
      · intro ac w' hF hL hP hU K hK
        have hB : Below _ _ _ := hL
        have e3 : ac.eval (.tmp 3) = .pointer (some ⟨q3, 0, none⟩) := hF.at 3 (by kernel_rfl)
        have e53 : ac.eval (.tmp 53) = .bool true := hP 11 (by kernel_rfl)
        exact rop_idx _ _ _ rfl e3 rfl (idx3S q3 0 _ rfl (by decide) w') (wanted_of (j := 11) (b := true) rfl rfl e53) (hK _ _ (le8_refl _) rfl)
      · intro ac w' hF hL hP hU K hK
        have hB : Below _ _ _ := hL
        have e55 : ac.eval (.tmp 55) = .pointer (some ⟨q3, 0 * 32, none⟩) := hP 13 (by kernel_rfl)
        have e53 : ac.eval (.tmp 53) = .bool true := hP 11 (by kernel_rfl)
        exact rop_ld _ _ rfl e55 (load_sumP HX0l.out (sc_rangeAt (heap_oldP Jq3.out hB) HXo.out 0 x0 rfl)) (wanted_of (j := 11) (b := true) rfl rfl e53) (hK _ _ (le8_refl _) rfl)
      · intro ac w' hF hL hP hU K hK
        have hB : Below _ _ _ := hL
        have e54 : ac.eval (.tmp 54) = sumV A := hP 12 (by kernel_rfl)
        have e56 : ac.eval (.tmp 56) = sumV x0 := hP 14 (by kernel_rfl)
        have e53 : ac.eval (.tmp 53) = .bool true := hP 11 (by kernel_rfl)
        exact rop_bin _ _ _ _ _ rfl e54 e56 (guard_run _ _ _ _ _ w') (eql_r0.out w') (wanted_of (j := 11) (b := true) rfl rfl e53) (hK _ _ (le8_refl _) rfl)
      · intro ac w' hF hL hP hU K hK
        have hB : Below _ _ _ := hL
        have e53 : ac.eval (.tmp 53) = .bool true := hP 11 (by kernel_rfl)
        have e57 : ac.eval (.tmp 57) = .bool r0 := hP 15 (by kernel_rfl)
        exact rop_pick _ _ _ rfl true e53 (by simpa using e57) (wanted_none rfl) (hK _ _ (le8_refl _) rfl)
      · intro ac w' hF hL hP hU K hK
        have hB : Below _ _ _ := hL
        have e51 : ac.eval (.tmp 51) = .bool r0 := hP 9 (by kernel_rfl)
        have e58 : ac.eval (.tmp 58) = .bool r0 := hP 16 (by kernel_rfl)
        exact rop_bin _ _ _ _ _ rfl e51 e58 (guard_bool _ _ _ _ _ _ w') (eql_bool_sameP r0 w') (wanted_none rfl) (hK _ _ (le8_refl _) rfl)
      · intro ac w' hF hL hP hU K hK
        have hB : Below _ _ _ := hL
        have e59 : ac.eval (.tmp 59) = .bool true := hP 17 (by kernel_rfl)
        exact rop_move _ rfl e59 (wanted_none rfl) (hK _ _ (le8_refl _) rfl)
      · intro ac w' hF hL hP hU K hK
        have hB : Below _ _ _ := hL
        have e9 : ac.eval (.tmp 9) = .pointer (some ⟨q9, 0, none⟩) := hF.at 9 (by kernel_rfl)
        have e60 : ac.eval (.tmp 60) = .bool true := hP 18 (by kernel_rfl)
        exact rop_ld _ _ rfl e9 (load_sumP HAl.out (range_var (IsH.old Jq9.out hB))) (wanted_of (j := 18) (b := true) rfl rfl e60) (hK _ _ (le8_refl _) rfl)
      · intro ac w' hF hL hP hU K hK
        have hB : Below _ _ _ := hL
        have e3 : ac.eval (.tmp 3) = .pointer (some ⟨q3, 0, none⟩) := hF.at 3 (by kernel_rfl)
        have e60 : ac.eval (.tmp 60) = .bool true := hP 18 (by kernel_rfl)
        exact rop_idx _ _ _ rfl e3 rfl (idx3S q3 1 _ rfl (by decide) w') (wanted_of (j := 18) (b := true) rfl rfl e60) (hK _ _ (le8_refl _) rfl)
      · intro ac w' hF hL hP hU K hK
        have hB : Below _ _ _ := hL
        have e62 : ac.eval (.tmp 62) = .pointer (some ⟨q3, 1 * 32, none⟩) := hP 20 (by kernel_rfl)
        have e60 : ac.eval (.tmp 60) = .bool true := hP 18 (by kernel_rfl)
        exact rop_ld _ _ rfl e62 (load_sumP HX1l.out (sc_rangeAt (heap_oldP Jq3.out hB) HXo.out 1 x1 rfl)) (wanted_of (j := 18) (b := true) rfl rfl e60) (hK _ _ (le8_refl _) rfl)
      · intro ac w' hF hL hP hU K hK
        have hB : Below _ _ _ := hL
        have e4 : ac.eval (.tmp 4) = .pointer (some ⟨q4, 0, none⟩) := hF.at 4 (by kernel_rfl)
        have e60 : ac.eval (.tmp 60) = .bool true := hP 18 (by kernel_rfl)
        exact rop_idx _ _ _ rfl e4 rfl (idx2i q4 0 _ rfl (by decide) w') (wanted_of (j := 18) (b := true) rfl rfl e60) (hK _ _ (le8_refl _) rfl)
      · intro ac w' hF hL hP hU K hK
        have hB : Below _ _ _ := hL
        have e64 : ac.eval (.tmp 64) = .pointer (some ⟨q4, 0, none⟩) := hP 22 (by kernel_rfl)
        have e60 : ac.eval (.tmp 60) = .bool true := hP 18 (by kernel_rfl)
        exact rop_ld _ _ rfl e64 (load_intP (cell_of (heap_oldP Jq4.out hB) 0)) (wanted_of (j := 18) (b := true) rfl rfl e60) (hK _ _ (le8_refl _) rfl)
      · intro ac w' hF hL hP hU K hK
        have hB : Below _ _ _ := hL
        have e4 : ac.eval (.tmp 4) = .pointer (some ⟨q4, 0, none⟩) := hF.at 4 (by kernel_rfl)
        have e60 : ac.eval (.tmp 60) = .bool true := hP 18 (by kernel_rfl)
        exact rop_idx _ _ _ rfl e4 rfl (idx2i q4 1 _ rfl (by decide) w') (wanted_of (j := 18) (b := true) rfl rfl e60) (hK _ _ (le8_refl _) rfl)
      · intro ac w' hF hL hP hU K hK
        have hB : Below _ _ _ := hL
        have e66 : ac.eval (.tmp 66) = .pointer (some ⟨q4, 1, none⟩) := hP 24 (by kernel_rfl)
        have e60 : ac.eval (.tmp 60) = .bool true := hP 18 (by kernel_rfl)
        exact rop_ld _ _ rfl e66 (load_intP (cell_of (heap_oldP Jq4.out hB) 1)) (wanted_of (j := 18) (b := true) rfl rfl e60) (hK _ _ (le8_refl _) rfl)
      · intro ac w' hF hL hP hU K hK
        have hB : Below _ _ _ := hL
        have e8 : ac.eval (.tmp 8) = .slice ap np cp := hF.at 8 (by kernel_rfl)
        have e60 : ac.eval (.tmp 60) = .bool true := hP 18 (by kernel_rfl)
        exact rop_move _ rfl e8 (wanted_of (j := 18) (b := true) rfl rfl e60) (hK _ _ (le8_refl _) rfl)
      · intro ac w' hF hL hP hU K hK
        have hB : Below _ _ _ := hL
        have e61 : ac.eval (.tmp 61) = sumV A := hP 19 (by kernel_rfl)
        have e63 : ac.eval (.tmp 63) = sumV x1 := hP 21 (by kernel_rfl)
        have e65 : ac.eval (.tmp 65) = .int .i64 m := hP 23 (by kernel_rfl)
        have e67 : ac.eval (.tmp 67) = .int .i64 n := hP 25 (by kernel_rfl)
        have e68 : ac.eval (.tmp 68) = .slice ap np cp := hP 26 (by kernel_rfl)
        have e60 : ac.eval (.tmp 60) = .bool true := hP 18 (by kernel_rfl)
        refine rop_call 16 _ _ rfl #[sumV A, sumV x1, .int .i64 m, .int .i64 n, .slice ap np cp] (by simp [e61, e63, e65, e67, e68]) (by kernel_rfl) (wanted_of (j := 18) (b := true) rfl rfl e60) ?_
        refine (HR1.out w' hB).mono ?_
        rintro e w2 ⟨rfl, hb⟩
        exact ⟨_, rfl, hK _ _ hb rfl⟩
      · intro ac w' hF hL hP hU K hK
        have hB : Below _ _ _ := hL
        have e10 : ac.eval (.tmp 10) = .bool true := hF.at 10 (by kernel_rfl)
        have e60 : ac.eval (.tmp 60) = .bool true := hP 18 (by kernel_rfl)
        exact rop_move _ rfl e10 (wanted_of (j := 18) (b := true) rfl rfl e60) (hK _ _ (le8_refl _) rfl)
      · intro ac w' hF hL hP hU K hK
        have hB : Below _ _ _ := hL
        have e69 : ac.eval (.tmp 69) = .bool true := hP 27 (by kernel_rfl)
        have e70 : ac.eval (.tmp 70) = .bool true := hP 28 (by kernel_rfl)
        have e60 : ac.eval (.tmp 60) = .bool true := hP 18 (by kernel_rfl)
        exact rop_bin _ _ _ _ _ rfl e69 e70 (guard_bool _ _ _ _ _ _ w') (eql_bool_sameP true w') (wanted_of (j := 18) (b := true) rfl rfl e60) (hK _ _ (le8_refl _) rfl)
      · intro ac w' hF hL hP hU K hK
        have hB : Below _ _ _ := hL
        have e60 : ac.eval (.tmp 60) = .bool true := hP 18 (by kernel_rfl)
        have e71 : ac.eval (.tmp 71) = .bool true := hP 29 (by kernel_rfl)
        exact rop_pick _ _ _ rfl true e60 (by simpa using e71) (wanted_none rfl) (hK _ _ (le8_refl _) rfl)
      · intro ac w' hF hL hP hU K hK
        have hB : Below _ _ _ := hL
        have e72 : ac.eval (.tmp 72) = .bool true := hP 30 (by kernel_rfl)
        exact rop_assign _ rfl e72 (wanted_none rfl) (hK _ _ (le8_refl _) rfl)
      · intro ac w' hF hB hT
        have e72 : ac.eval (.tmp 72) = .bool true := hT 30 (by decide)
        have e14 : ac.eval (.tmp 14) = .bool true := hT 31 (by decide)
        rw [hF.setsG [42, 43, 44, 45, 46, 47, 48, 49, 50, 51, 52, 53, 54, 55, 56, 57, 58, 59, 60, 61, 62, 63, 64, 65, 66, 67, 68, 69, 70, 71, 72, 14] (by kernel_rfl)]
        simp only [List.foldl_cons, List.foldl_nil, List.setIfInBounds_toArray, List.set_cons_succ, List.set_cons_zero, e72, e14]
        generalize ac.eval (.tmp 42) = u42
        generalize ac.eval (.tmp 43) = u43
        generalize ac.eval (.tmp 44) = u44
        generalize ac.eval (.tmp 45) = u45
        generalize ac.eval (.tmp 46) = u46
        generalize ac.eval (.tmp 47) = u47
        generalize ac.eval (.tmp 48) = u48
        generalize ac.eval (.tmp 49) = u49
        generalize ac.eval (.tmp 50) = u50
        generalize ac.eval (.tmp 51) = u51
        generalize ac.eval (.tmp 52) = u52
        generalize ac.eval (.tmp 53) = u53
        generalize ac.eval (.tmp 54) = u54
        generalize ac.eval (.tmp 55) = u55
        generalize ac.eval (.tmp 56) = u56
        generalize ac.eval (.tmp 57) = u57
        generalize ac.eval (.tmp 58) = u58
        generalize ac.eval (.tmp 59) = u59
        generalize ac.eval (.tmp 60) = u60
        generalize ac.eval (.tmp 61) = u61
        generalize ac.eval (.tmp 62) = u62
        generalize ac.eval (.tmp 63) = u63
        generalize ac.eval (.tmp 64) = u64
        generalize ac.eval (.tmp 65) = u65
        generalize ac.eval (.tmp 66) = u66
        generalize ac.eval (.tmp 67) = u67
        generalize ac.eval (.tmp 68) = u68
        generalize ac.eval (.tmp 69) = u69
        generalize ac.eval (.tmp 70) = u70
        generalize ac.eval (.tmp 71) = u71
        clear e72 e14 hT hF ac
        go_wp2_with fail
        go_meet
        exact ⟨rfl, hB⟩
    | false =>
      replace HR0 : Hid (∀ u, Below W.heap.size W u → Calls Tryd.prog 16 #[sumV x0, sumV x1, .int .i64 m, .int .i64 n, .slice ap np cp] u fun e w' => e = .returned (.bool false) ∧ Below u.heap.size u w') := HR0
      try simp only [Act.put]
      refine wp_region_tab0 [RT.is (.pointer (some ⟨q3, 0 * 32, none⟩)), RT.is (sumV x0), RT.is (.pointer (some ⟨q3, 1 * 32, none⟩)), RT.is (sumV x1), RT.is (.pointer (some ⟨q4, 0, none⟩)), RT.is (.int .i64 m), RT.is (.pointer (some ⟨q4, 1, none⟩)), RT.is (.int .i64 n), RT.is (.slice ap np cp), RT.is (.bool false), RT.is (.bool false), RT.is (.bool false), RT.any, RT.any, RT.any, RT.any, RT.is (.bool false), RT.is (.bool true), RT.is (.bool true), RT.is (sumV A), RT.is (.pointer (some ⟨q3, 1 * 32, none⟩)), RT.is (sumV x1), RT.is (.pointer (some ⟨q4, 0, none⟩)), RT.is (.int .i64 m), RT.is (.pointer (some ⟨q4, 1, none⟩)), RT.is (.int .i64 n), RT.is (.slice ap np cp), RT.is (.bool false), RT.is (.bool false), RT.is (.bool true), RT.is (.bool true), RT.is (.bool true)] (by kernel_rfl) (by kernel_rfl) (by kernel_rfl) ⟨?_, ?_, ?_, ?_, ?_, ?_, ?_, ?_, ?_, ?_, ?_, ?_, ?_, ?_, ?_, ?_, ?_, ?_, ?_, ?_, ?_, ?_, ?_, ?_, ?_, ?_, ?_, ?_, ?_, ?_, ?_, ?_, trivial⟩ ?_
      · intro ac w' hF hL hP hU K hK
        have hB : Below _ _ _ := hL
        have e3 : ac.eval (.tmp 3) = .pointer (some ⟨q3, 0, none⟩) := hF.at 3 (by kernel_rfl)
        exact rop_idx _ _ _ rfl e3 rfl (idx3S q3 0 _ rfl (by decide) w') (wanted_none rfl) (hK _ _ (le8_refl _) rfl)
      · intro ac w' hF hL hP hU K hK
        have hB : Below _ _ _ := hL
        have e42 : ac.eval (.tmp 42) = .pointer (some ⟨q3, 0 * 32, none⟩) := hP 0 (by kernel_rfl)
        exact rop_ld _ _ rfl e42 (load_sumP HX0l.out (sc_rangeAt (heap_oldP Jq3.out hB) HXo.out 0 x0 rfl)) (wanted_none rfl) (hK _ _ (le8_refl _) rfl)
      · intro ac w' hF hL hP hU K hK
        have hB : Below _ _ _ := hL
        have e3 : ac.eval (.tmp 3) = .pointer (some ⟨q3, 0, none⟩) := hF.at 3 (by kernel_rfl)
        exact rop_idx _ _ _ rfl e3 rfl (idx3S q3 1 _ rfl (by decide) w') (wanted_none rfl) (hK _ _ (le8_refl _) rfl)
      · intro ac w' hF hL hP hU K hK
        have hB : Below _ _ _ := hL
        have e44 : ac.eval (.tmp 44) = .pointer (some ⟨q3, 1 * 32, none⟩) := hP 2 (by kernel_rfl)
        exact rop_ld _ _ rfl e44 (load_sumP HX1l.out (sc_rangeAt (heap_oldP Jq3.out hB) HXo.out 1 x1 rfl)) (wanted_none rfl) (hK _ _ (le8_refl _) rfl)
      · intro ac w' hF hL hP hU K hK
        have hB : Below _ _ _ := hL
        have e4 : ac.eval (.tmp 4) = .pointer (some ⟨q4, 0, none⟩) := hF.at 4 (by kernel_rfl)
        exact rop_idx _ _ _ rfl e4 rfl (idx2i q4 0 _ rfl (by decide) w') (wanted_none rfl) (hK _ _ (le8_refl _) rfl)
      · intro ac w' hF hL hP hU K hK
        have hB : Below _ _ _ := hL
        have e46 : ac.eval (.tmp 46) = .pointer (some ⟨q4, 0, none⟩) := hP 4 (by kernel_rfl)
        exact rop_ld _ _ rfl e46 (load_intP (cell_of (heap_oldP Jq4.out hB) 0)) (wanted_none rfl) (hK _ _ (le8_refl _) rfl)
      · intro ac w' hF hL hP hU K hK
        have hB : Below _ _ _ := hL
        have e4 : ac.eval (.tmp 4) = .pointer (some ⟨q4, 0, none⟩) := hF.at 4 (by kernel_rfl)
        exact rop_idx _ _ _ rfl e4 rfl (idx2i q4 1 _ rfl (by decide) w') (wanted_none rfl) (hK _ _ (le8_refl _) rfl)
      · intro ac w' hF hL hP hU K hK
        have hB : Below _ _ _ := hL
        have e48 : ac.eval (.tmp 48) = .pointer (some ⟨q4, 1, none⟩) := hP 6 (by kernel_rfl)
        exact rop_ld _ _ rfl e48 (load_intP (cell_of (heap_oldP Jq4.out hB) 1)) (wanted_none rfl) (hK _ _ (le8_refl _) rfl)
      · intro ac w' hF hL hP hU K hK
        have hB : Below _ _ _ := hL
        have e8 : ac.eval (.tmp 8) = .slice ap np cp := hF.at 8 (by kernel_rfl)
        exact rop_move _ rfl e8 (wanted_none rfl) (hK _ _ (le8_refl _) rfl)
      · intro ac w' hF hL hP hU K hK
        have hB : Below _ _ _ := hL
        have e43 : ac.eval (.tmp 43) = sumV x0 := hP 1 (by kernel_rfl)
        have e45 : ac.eval (.tmp 45) = sumV x1 := hP 3 (by kernel_rfl)
        have e47 : ac.eval (.tmp 47) = .int .i64 m := hP 5 (by kernel_rfl)
        have e49 : ac.eval (.tmp 49) = .int .i64 n := hP 7 (by kernel_rfl)
        have e50 : ac.eval (.tmp 50) = .slice ap np cp := hP 8 (by kernel_rfl)
        refine rop_call 16 _ _ rfl #[sumV x0, sumV x1, .int .i64 m, .int .i64 n, .slice ap np cp] (by simp [e43, e45, e47, e49, e50]) (by kernel_rfl) (wanted_none rfl) ?_
        refine (HR0.out w' hB).mono ?_
        rintro e w2 ⟨rfl, hb⟩
        exact ⟨_, rfl, hK _ _ hb rfl⟩
      · intro ac w' hF hL hP hU K hK
        have hB : Below _ _ _ := hL
        have e10 : ac.eval (.tmp 10) = .bool false := hF.at 10 (by kernel_rfl)
        exact rop_move _ rfl e10 (wanted_none rfl) (hK _ _ (le8_refl _) rfl)
      · intro ac w' hF hL hP hU K hK
        have hB : Below _ _ _ := hL
        have e52 : ac.eval (.tmp 52) = .bool false := hP 10 (by kernel_rfl)
        exact rop_move _ rfl e52 (wanted_none rfl) (hK _ _ (le8_refl _) rfl)
      · intro ac w' hF hL hP hU K hK
        have hB : Below _ _ _ := hL
        have e53 : ac.eval (.tmp 53) = .bool false := hP 11 (by kernel_rfl)
        exact rop_offG (j := 11) (b := true) rfl rfl e53 (by decide) (hK _ _ (le8_refl _) trivial)
      · intro ac w' hF hL hP hU K hK
        have hB : Below _ _ _ := hL
        have e53 : ac.eval (.tmp 53) = .bool false := hP 11 (by kernel_rfl)
        exact rop_offG (j := 11) (b := true) rfl rfl e53 (by decide) (hK _ _ (le8_refl _) trivial)
      · intro ac w' hF hL hP hU K hK
        have hB : Below _ _ _ := hL
        have e53 : ac.eval (.tmp 53) = .bool false := hP 11 (by kernel_rfl)
        exact rop_offG (j := 11) (b := true) rfl rfl e53 (by decide) (hK _ _ (le8_refl _) trivial)
      · intro ac w' hF hL hP hU K hK
        have hB : Below _ _ _ := hL
        have e53 : ac.eval (.tmp 53) = .bool false := hP 11 (by kernel_rfl)
        exact rop_offG (j := 11) (b := true) rfl rfl e53 (by decide) (hK _ _ (le8_refl _) trivial)
      · intro ac w' hF hL hP hU K hK
        have hB : Below _ _ _ := hL
        have e53 : ac.eval (.tmp 53) = .bool false := hP 11 (by kernel_rfl)
        exact rop_pick _ _ _ rfl false e53 (by rfl) (wanted_none rfl) (hK _ _ (le8_refl _) rfl)
      · intro ac w' hF hL hP hU K hK
        have hB : Below _ _ _ := hL
        have e51 : ac.eval (.tmp 51) = .bool false := hP 9 (by kernel_rfl)
        have e58 : ac.eval (.tmp 58) = .bool false := hP 16 (by kernel_rfl)
        exact rop_bin _ _ _ _ _ rfl e51 e58 (guard_bool _ _ _ _ _ _ w') (eql_bool_sameP false w') (wanted_none rfl) (hK _ _ (le8_refl _) rfl)
      · intro ac w' hF hL hP hU K hK
        have hB : Below _ _ _ := hL
        have e59 : ac.eval (.tmp 59) = .bool true := hP 17 (by kernel_rfl)
        exact rop_move _ rfl e59 (wanted_none rfl) (hK _ _ (le8_refl _) rfl)
      · intro ac w' hF hL hP hU K hK
        have hB : Below _ _ _ := hL
        have e9 : ac.eval (.tmp 9) = .pointer (some ⟨q9, 0, none⟩) := hF.at 9 (by kernel_rfl)
        have e60 : ac.eval (.tmp 60) = .bool true := hP 18 (by kernel_rfl)
        exact rop_ld _ _ rfl e9 (load_sumP HAl.out (range_var (IsH.old Jq9.out hB))) (wanted_of (j := 18) (b := true) rfl rfl e60) (hK _ _ (le8_refl _) rfl)
      · intro ac w' hF hL hP hU K hK
        have hB : Below _ _ _ := hL
        have e3 : ac.eval (.tmp 3) = .pointer (some ⟨q3, 0, none⟩) := hF.at 3 (by kernel_rfl)
        have e60 : ac.eval (.tmp 60) = .bool true := hP 18 (by kernel_rfl)
        exact rop_idx _ _ _ rfl e3 rfl (idx3S q3 1 _ rfl (by decide) w') (wanted_of (j := 18) (b := true) rfl rfl e60) (hK _ _ (le8_refl _) rfl)
      · intro ac w' hF hL hP hU K hK
        have hB : Below _ _ _ := hL
        have e62 : ac.eval (.tmp 62) = .pointer (some ⟨q3, 1 * 32, none⟩) := hP 20 (by kernel_rfl)
        have e60 : ac.eval (.tmp 60) = .bool true := hP 18 (by kernel_rfl)
        exact rop_ld _ _ rfl e62 (load_sumP HX1l.out (sc_rangeAt (heap_oldP Jq3.out hB) HXo.out 1 x1 rfl)) (wanted_of (j := 18) (b := true) rfl rfl e60) (hK _ _ (le8_refl _) rfl)
      · intro ac w' hF hL hP hU K hK
        have hB : Below _ _ _ := hL
        have e4 : ac.eval (.tmp 4) = .pointer (some ⟨q4, 0, none⟩) := hF.at 4 (by kernel_rfl)
        have e60 : ac.eval (.tmp 60) = .bool true := hP 18 (by kernel_rfl)
        exact rop_idx _ _ _ rfl e4 rfl (idx2i q4 0 _ rfl (by decide) w') (wanted_of (j := 18) (b := true) rfl rfl e60) (hK _ _ (le8_refl _) rfl)
      · intro ac w' hF hL hP hU K hK
        have hB : Below _ _ _ := hL
        have e64 : ac.eval (.tmp 64) = .pointer (some ⟨q4, 0, none⟩) := hP 22 (by kernel_rfl)
        have e60 : ac.eval (.tmp 60) = .bool true := hP 18 (by kernel_rfl)
        exact rop_ld _ _ rfl e64 (load_intP (cell_of (heap_oldP Jq4.out hB) 0)) (wanted_of (j := 18) (b := true) rfl rfl e60) (hK _ _ (le8_refl _) rfl)
      · intro ac w' hF hL hP hU K hK
        have hB : Below _ _ _ := hL
        have e4 : ac.eval (.tmp 4) = .pointer (some ⟨q4, 0, none⟩) := hF.at 4 (by kernel_rfl)
        have e60 : ac.eval (.tmp 60) = .bool true := hP 18 (by kernel_rfl)
        exact rop_idx _ _ _ rfl e4 rfl (idx2i q4 1 _ rfl (by decide) w') (wanted_of (j := 18) (b := true) rfl rfl e60) (hK _ _ (le8_refl _) rfl)
      · intro ac w' hF hL hP hU K hK
        have hB : Below _ _ _ := hL
        have e66 : ac.eval (.tmp 66) = .pointer (some ⟨q4, 1, none⟩) := hP 24 (by kernel_rfl)
        have e60 : ac.eval (.tmp 60) = .bool true := hP 18 (by kernel_rfl)
        exact rop_ld _ _ rfl e66 (load_intP (cell_of (heap_oldP Jq4.out hB) 1)) (wanted_of (j := 18) (b := true) rfl rfl e60) (hK _ _ (le8_refl _) rfl)
      · intro ac w' hF hL hP hU K hK
        have hB : Below _ _ _ := hL
        have e8 : ac.eval (.tmp 8) = .slice ap np cp := hF.at 8 (by kernel_rfl)
        have e60 : ac.eval (.tmp 60) = .bool true := hP 18 (by kernel_rfl)
        exact rop_move _ rfl e8 (wanted_of (j := 18) (b := true) rfl rfl e60) (hK _ _ (le8_refl _) rfl)
      · intro ac w' hF hL hP hU K hK
        have hB : Below _ _ _ := hL
        have e61 : ac.eval (.tmp 61) = sumV A := hP 19 (by kernel_rfl)
        have e63 : ac.eval (.tmp 63) = sumV x1 := hP 21 (by kernel_rfl)
        have e65 : ac.eval (.tmp 65) = .int .i64 m := hP 23 (by kernel_rfl)
        have e67 : ac.eval (.tmp 67) = .int .i64 n := hP 25 (by kernel_rfl)
        have e68 : ac.eval (.tmp 68) = .slice ap np cp := hP 26 (by kernel_rfl)
        have e60 : ac.eval (.tmp 60) = .bool true := hP 18 (by kernel_rfl)
        refine rop_call 16 _ _ rfl #[sumV A, sumV x1, .int .i64 m, .int .i64 n, .slice ap np cp] (by simp [e61, e63, e65, e67, e68]) (by kernel_rfl) (wanted_of (j := 18) (b := true) rfl rfl e60) ?_
        refine (HR1.out w' hB).mono ?_
        rintro e w2 ⟨rfl, hb⟩
        exact ⟨_, rfl, hK _ _ hb rfl⟩
      · intro ac w' hF hL hP hU K hK
        have hB : Below _ _ _ := hL
        have e10 : ac.eval (.tmp 10) = .bool false := hF.at 10 (by kernel_rfl)
        have e60 : ac.eval (.tmp 60) = .bool true := hP 18 (by kernel_rfl)
        exact rop_move _ rfl e10 (wanted_of (j := 18) (b := true) rfl rfl e60) (hK _ _ (le8_refl _) rfl)
      · intro ac w' hF hL hP hU K hK
        have hB : Below _ _ _ := hL
        have e69 : ac.eval (.tmp 69) = .bool false := hP 27 (by kernel_rfl)
        have e70 : ac.eval (.tmp 70) = .bool false := hP 28 (by kernel_rfl)
        have e60 : ac.eval (.tmp 60) = .bool true := hP 18 (by kernel_rfl)
        exact rop_bin _ _ _ _ _ rfl e69 e70 (guard_bool _ _ _ _ _ _ w') (eql_bool_sameP false w') (wanted_of (j := 18) (b := true) rfl rfl e60) (hK _ _ (le8_refl _) rfl)
      · intro ac w' hF hL hP hU K hK
        have hB : Below _ _ _ := hL
        have e60 : ac.eval (.tmp 60) = .bool true := hP 18 (by kernel_rfl)
        have e71 : ac.eval (.tmp 71) = .bool true := hP 29 (by kernel_rfl)
        exact rop_pick _ _ _ rfl true e60 (by simpa using e71) (wanted_none rfl) (hK _ _ (le8_refl _) rfl)
      · intro ac w' hF hL hP hU K hK
        have hB : Below _ _ _ := hL
        have e72 : ac.eval (.tmp 72) = .bool true := hP 30 (by kernel_rfl)
        exact rop_assign _ rfl e72 (wanted_none rfl) (hK _ _ (le8_refl _) rfl)
      · intro ac w' hF hB hT
        have e72 : ac.eval (.tmp 72) = .bool true := hT 30 (by decide)
        have e14 : ac.eval (.tmp 14) = .bool true := hT 31 (by decide)
        rw [hF.setsG [42, 43, 44, 45, 46, 47, 48, 49, 50, 51, 52, 53, 54, 55, 56, 57, 58, 59, 60, 61, 62, 63, 64, 65, 66, 67, 68, 69, 70, 71, 72, 14] (by kernel_rfl)]
        simp only [List.foldl_cons, List.foldl_nil, List.setIfInBounds_toArray, List.set_cons_succ, List.set_cons_zero, e72, e14]
        generalize ac.eval (.tmp 42) = u42
        generalize ac.eval (.tmp 43) = u43
        generalize ac.eval (.tmp 44) = u44
        generalize ac.eval (.tmp 45) = u45
        generalize ac.eval (.tmp 46) = u46
        generalize ac.eval (.tmp 47) = u47
        generalize ac.eval (.tmp 48) = u48
        generalize ac.eval (.tmp 49) = u49
        generalize ac.eval (.tmp 50) = u50
        generalize ac.eval (.tmp 51) = u51
        generalize ac.eval (.tmp 52) = u52
        generalize ac.eval (.tmp 53) = u53
        generalize ac.eval (.tmp 54) = u54
        generalize ac.eval (.tmp 55) = u55
        generalize ac.eval (.tmp 56) = u56
        generalize ac.eval (.tmp 57) = u57
        generalize ac.eval (.tmp 58) = u58
        generalize ac.eval (.tmp 59) = u59
        generalize ac.eval (.tmp 60) = u60
        generalize ac.eval (.tmp 61) = u61
        generalize ac.eval (.tmp 62) = u62
        generalize ac.eval (.tmp 63) = u63
        generalize ac.eval (.tmp 64) = u64
        generalize ac.eval (.tmp 65) = u65
        generalize ac.eval (.tmp 66) = u66
        generalize ac.eval (.tmp 67) = u67
        generalize ac.eval (.tmp 68) = u68
        generalize ac.eval (.tmp 69) = u69
        generalize ac.eval (.tmp 70) = u70
        generalize ac.eval (.tmp 71) = u71
        clear e72 e14 hT hF ac
        go_wp2_with fail
        go_meet
        exact ⟨rfl, hB⟩
  case rest =>
  obtain ⟨rfl, hBc⟩ := hcut
  obtain ⟨W2, hW2⟩ : ∃ W2, W2 = wc := ⟨_, rfl⟩
  subst hW2
  replace HG1 : Hid (∀ u, Below W2.heap.size W2 u → Calls Tryd.prog 17 #[sumV x1, .int .i64 m, sumV x2, .int .i64 n, .slice ap np cp] u fun e w' => e = .returned (.bool g1) ∧ Below u.heap.size u w') := Lib.hid fun u hu => HG1.out u (below_step hBc (Nat.le_refl _) hu)
  replace HH1 : Hid (∀ u, Below W2.heap.size W2 u → Calls Tryd.prog 18 #[sumV x1, .int .i64 m, sumV x2, .int .i64 n, .slice ap np cp] u fun e w' => e = .returned (.bool g1) ∧ Below u.heap.size u w') := Lib.hid fun u hu => HH1.out u (below_step hBc (Nat.le_refl _) hu)
  replace HG2 : Hid (∀ u, Below W2.heap.size W2 u → Calls Tryd.prog 17 #[sumV x1, .int .i64 m, sumV Y, .int .i64 n, .slice ap np cp] u fun e w' => e = .returned (.bool g2) ∧ Below u.heap.size u w') := Lib.hid fun u hu => HG2.out u (below_step hBc (Nat.le_refl _) hu)
  replace HH2 : Hid (∀ u, Below W2.heap.size W2 u → Calls Tryd.prog 18 #[sumV x1, .int .i64 m, sumV Y, .int .i64 n, .slice ap np cp] u fun e w' => e = .returned (.bool g2) ∧ Below u.heap.size u w') := Lib.hid fun u hu => HH2.out u (below_step hBc (Nat.le_refl _) hu)
  replace Jq3 : Hid (W2.heap[q3]? = some (.cells (sc [x0, x1, x2]).toArray 33 (0, 0))) := Lib.hid (heap_oldP Jq3.out hBc)
  replace Jq4 : Hid (W2.heap[q4]? = some (.cells #[.int .i64 m, .int .i64 n] 24 (0, 0))) := Lib.hid (heap_oldP Jq4.out hBc)
  replace Jq12 : Hid (IsH Y W2 q12) := Lib.hid (IsH.old Jq12.out hBc)
  have HB2 := Lib.hid (below_step HBW.out (Nat.le_refl _) hBc)
  clear hBc HR0 HR1
  go_upto_region 6 with (fail)
  obtain ⟨W, hW⟩ : ∃ W, W = W2 := ⟨_, rfl⟩
  subst hW
  go_cut [15] from 73 to 118 (fun s wx => s = .bool true ∧ Below W.heap.size W wx)
  case first =>
    cases k with
    | true =>
      try simp only [Act.put]
      refine wp_region_tab [RT.is (.pointer (some ⟨q3, 1 * 32, none⟩)), RT.is (sumV x1), RT.is (.pointer (some ⟨q4, 0, none⟩)), RT.is (.int .i64 m), RT.is (.pointer (some ⟨q3, 2 * 32, none⟩)), RT.is (sumV x2), RT.is (.pointer (some ⟨q4, 1, none⟩)), RT.is (.int .i64 n), RT.is (.slice ap np cp), RT.is (.bool g1), RT.is (.pointer (some ⟨q3, 1 * 32, none⟩)), RT.is (sumV x1), RT.is (.pointer (some ⟨q4, 0, none⟩)), RT.is (.int .i64 m), RT.is (.pointer (some ⟨q3, 2 * 32, none⟩)), RT.is (sumV x2), RT.is (.pointer (some ⟨q4, 1, none⟩)), RT.is (.int .i64 n), RT.is (.slice ap np cp), RT.is (.bool g1), RT.is (.bool true), RT.is (.bool true), RT.is (.bool true), RT.is (.bool false), RT.is (.bool false), RT.is (.pointer (some ⟨q3, 1 * 32, none⟩)), RT.is (sumV x1), RT.is (.pointer (some ⟨q4, 0, none⟩)), RT.is (.int .i64 m), RT.is (sumV Y), RT.is (.pointer (some ⟨q4, 1, none⟩)), RT.is (.int .i64 n), RT.is (.slice ap np cp), RT.is (.bool g2), RT.is (.pointer (some ⟨q3, 1 * 32, none⟩)), RT.is (sumV x1), RT.is (.pointer (some ⟨q4, 0, none⟩)), RT.is (.int .i64 m), RT.is (sumV Y), RT.is (.pointer (some ⟨q4, 1, none⟩)), RT.is (.int .i64 n), RT.is (.slice ap np cp), RT.is (.bool g2), RT.is (.bool true), RT.is (.bool true), RT.is (.bool true), RT.is (.bool true)] (by kernel_rfl) (by kernel_rfl) (by kernel_rfl) (by kernel_rfl) ⟨?_, ?_, ?_, ?_, ?_, ?_, ?_, ?_, ?_, ?_, ?_, ?_, ?_, ?_, ?_, ?_, ?_, ?_, ?_, ?_, ?_, ?_, ?_, ?_, ?_, ?_, ?_, ?_, ?_, ?_, ?_, ?_, ?_, ?_, ?_, ?_, ?_, ?_, ?_, ?_, ?_, ?_, ?_, ?_, ?_, ?_, ?_, trivial⟩ ?_
      · intro ac w' hF hL hP hU K hK
        have hB := below_undrew hL
        have e3 : ac.eval (.tmp 3) = .pointer (some ⟨q3, 0, none⟩) := hF.at 3 (by kernel_rfl)
        exact rop_idx _ _ _ rfl e3 rfl (idx3S q3 1 _ rfl (by decide) w') (wanted_none rfl) (hK _ _ (le8_refl _) rfl)
      · intro ac w' hF hL hP hU K hK
        have hB := below_undrew hL
        have e73 : ac.eval (.tmp 73) = .pointer (some ⟨q3, 1 * 32, none⟩) := hP 0 (by kernel_rfl)
        exact rop_ld _ _ rfl e73 (load_sumP HX1l.out (sc_rangeAt (heap_oldP Jq3.out hB) HXo.out 1 x1 rfl)) (wanted_none rfl) (hK _ _ (le8_refl _) rfl)
      · intro ac w' hF hL hP hU K hK
        have hB := below_undrew hL
        have e4 : ac.eval (.tmp 4) = .pointer (some ⟨q4, 0, none⟩) := hF.at 4 (by kernel_rfl)
        exact rop_idx _ _ _ rfl e4 rfl (idx2i q4 0 _ rfl (by decide) w') (wanted_none rfl) (hK _ _ (le8_refl _) rfl)
      · intro ac w' hF hL hP hU K hK
        have hB := below_undrew hL
        have e75 : ac.eval (.tmp 75) = .pointer (some ⟨q4, 0, none⟩) := hP 2 (by kernel_rfl)
        exact rop_ld _ _ rfl e75 (load_intP (cell_of (heap_oldP Jq4.out hB) 0)) (wanted_none rfl) (hK _ _ (le8_refl _) rfl)
      · intro ac w' hF hL hP hU K hK
        have hB := below_undrew hL
        have e3 : ac.eval (.tmp 3) = .pointer (some ⟨q3, 0, none⟩) := hF.at 3 (by kernel_rfl)
        exact rop_idx _ _ _ rfl e3 rfl (idx3S q3 2 _ rfl (by decide) w') (wanted_none rfl) (hK _ _ (le8_refl _) rfl)
      · intro ac w' hF hL hP hU K hK
        have hB := below_undrew hL
        have e77 : ac.eval (.tmp 77) = .pointer (some ⟨q3, 2 * 32, none⟩) := hP 4 (by kernel_rfl)
        exact rop_ld _ _ rfl e77 (load_sumP HX2l.out (sc_rangeAt (heap_oldP Jq3.out hB) HXo.out 2 x2 rfl)) (wanted_none rfl) (hK _ _ (le8_refl _) rfl)
      · intro ac w' hF hL hP hU K hK
        have hB := below_undrew hL
        have e4 : ac.eval (.tmp 4) = .pointer (some ⟨q4, 0, none⟩) := hF.at 4 (by kernel_rfl)
        exact rop_idx _ _ _ rfl e4 rfl (idx2i q4 1 _ rfl (by decide) w') (wanted_none rfl) (hK _ _ (le8_refl _) rfl)
      · intro ac w' hF hL hP hU K hK
        have hB := below_undrew hL
        have e79 : ac.eval (.tmp 79) = .pointer (some ⟨q4, 1, none⟩) := hP 6 (by kernel_rfl)
        exact rop_ld _ _ rfl e79 (load_intP (cell_of (heap_oldP Jq4.out hB) 1)) (wanted_none rfl) (hK _ _ (le8_refl _) rfl)
      · intro ac w' hF hL hP hU K hK
        have hB := below_undrew hL
        have e8 : ac.eval (.tmp 8) = .slice ap np cp := hF.at 8 (by kernel_rfl)
        exact rop_move _ rfl e8 (wanted_none rfl) (hK _ _ (le8_refl _) rfl)
      · intro ac w' hF hL hP hU K hK
        have hB := below_undrew hL
        have e74 : ac.eval (.tmp 74) = sumV x1 := hP 1 (by kernel_rfl)
        have e76 : ac.eval (.tmp 76) = .int .i64 m := hP 3 (by kernel_rfl)
        have e78 : ac.eval (.tmp 78) = sumV x2 := hP 5 (by kernel_rfl)
        have e80 : ac.eval (.tmp 80) = .int .i64 n := hP 7 (by kernel_rfl)
        have e81 : ac.eval (.tmp 81) = .slice ap np cp := hP 8 (by kernel_rfl)
        refine rop_call 17 _ _ rfl #[sumV x1, .int .i64 m, sumV x2, .int .i64 n, .slice ap np cp] (by simp [e74, e76, e78, e80, e81]) (by kernel_rfl) (wanted_none rfl) ?_
        refine (HG1.out w' hB).mono ?_
        rintro e w2 ⟨rfl, hb⟩
        exact ⟨_, rfl, hK _ _ hb rfl⟩
      · intro ac w' hF hL hP hU K hK
        have hB := below_undrew hL
        have e3 : ac.eval (.tmp 3) = .pointer (some ⟨q3, 0, none⟩) := hF.at 3 (by kernel_rfl)
        exact rop_idx _ _ _ rfl e3 rfl (idx3S q3 1 _ rfl (by decide) w') (wanted_none rfl) (hK _ _ (le8_refl _) rfl)
      · intro ac w' hF hL hP hU K hK
        have hB := below_undrew hL
        have e83 : ac.eval (.tmp 83) = .pointer (some ⟨q3, 1 * 32, none⟩) := hP 10 (by kernel_rfl)
        exact rop_ld _ _ rfl e83 (load_sumP HX1l.out (sc_rangeAt (heap_oldP Jq3.out hB) HXo.out 1 x1 rfl)) (wanted_none rfl) (hK _ _ (le8_refl _) rfl)
      · intro ac w' hF hL hP hU K hK
        have hB := below_undrew hL
        have e4 : ac.eval (.tmp 4) = .pointer (some ⟨q4, 0, none⟩) := hF.at 4 (by kernel_rfl)
        exact rop_idx _ _ _ rfl e4 rfl (idx2i q4 0 _ rfl (by decide) w') (wanted_none rfl) (hK _ _ (le8_refl _) rfl)
      · intro ac w' hF hL hP hU K hK
        have hB := below_undrew hL
        have e85 : ac.eval (.tmp 85) = .pointer (some ⟨q4, 0, none⟩) := hP 12 (by kernel_rfl)
        exact rop_ld _ _ rfl e85 (load_intP (cell_of (heap_oldP Jq4.out hB) 0)) (wanted_none rfl) (hK _ _ (le8_refl _) rfl)
      · intro ac w' hF hL hP hU K hK
        have hB := below_undrew hL
        have e3 : ac.eval (.tmp 3) = .pointer (some ⟨q3, 0, none⟩) := hF.at 3 (by kernel_rfl)
        exact rop_idx _ _ _ rfl e3 rfl (idx3S q3 2 _ rfl (by decide) w') (wanted_none rfl) (hK _ _ (le8_refl _) rfl)
      · intro ac w' hF hL hP hU K hK
        have hB := below_undrew hL
        have e87 : ac.eval (.tmp 87) = .pointer (some ⟨q3, 2 * 32, none⟩) := hP 14 (by kernel_rfl)
        exact rop_ld _ _ rfl e87 (load_sumP HX2l.out (sc_rangeAt (heap_oldP Jq3.out hB) HXo.out 2 x2 rfl)) (wanted_none rfl) (hK _ _ (le8_refl _) rfl)
      · intro ac w' hF hL hP hU K hK
        have hB := below_undrew hL
        have e4 : ac.eval (.tmp 4) = .pointer (some ⟨q4, 0, none⟩) := hF.at 4 (by kernel_rfl)
        exact rop_idx _ _ _ rfl e4 rfl (idx2i q4 1 _ rfl (by decide) w') (wanted_none rfl) (hK _ _ (le8_refl _) rfl)
      · intro ac w' hF hL hP hU K hK
        have hB := below_undrew hL
        have e89 : ac.eval (.tmp 89) = .pointer (some ⟨q4, 1, none⟩) := hP 16 (by kernel_rfl)
        exact rop_ld _ _ rfl e89 (load_intP (cell_of (heap_oldP Jq4.out hB) 1)) (wanted_none rfl) (hK _ _ (le8_refl _) rfl)
      · intro ac w' hF hL hP hU K hK
        have hB := below_undrew hL
        have e8 : ac.eval (.tmp 8) = .slice ap np cp := hF.at 8 (by kernel_rfl)
        exact rop_move _ rfl e8 (wanted_none rfl) (hK _ _ (le8_refl _) rfl)
      · intro ac w' hF hL hP hU K hK
        have hB := below_undrew hL
        have e84 : ac.eval (.tmp 84) = sumV x1 := hP 11 (by kernel_rfl)
        have e86 : ac.eval (.tmp 86) = .int .i64 m := hP 13 (by kernel_rfl)
        have e88 : ac.eval (.tmp 88) = sumV x2 := hP 15 (by kernel_rfl)
        have e90 : ac.eval (.tmp 90) = .int .i64 n := hP 17 (by kernel_rfl)
        have e91 : ac.eval (.tmp 91) = .slice ap np cp := hP 18 (by kernel_rfl)
        refine rop_call 18 _ _ rfl #[sumV x1, .int .i64 m, sumV x2, .int .i64 n, .slice ap np cp] (by simp [e84, e86, e88, e90, e91]) (by kernel_rfl) (wanted_none rfl) ?_
        refine (HH1.out w' hB).mono ?_
        rintro e w2 ⟨rfl, hb⟩
        exact ⟨_, rfl, hK _ _ hb rfl⟩
      · intro ac w' hF hL hP hU K hK
        have hB := below_undrew hL
        have e82 : ac.eval (.tmp 82) = .bool g1 := hP 9 (by kernel_rfl)
        have e92 : ac.eval (.tmp 92) = .bool g1 := hP 19 (by kernel_rfl)
        exact rop_bin _ _ _ _ _ rfl e82 e92 (guard_bool _ _ _ _ _ _ w') (eql_bool_sameP g1 w') (wanted_none rfl) (hK _ _ (le8_refl _) rfl)
      · intro ac w' hF hL hP hU K hK
        have hB := below_undrew hL
        have e93 : ac.eval (.tmp 93) = .bool true := hP 20 (by kernel_rfl)
        exact rop_move _ rfl e93 (wanted_none rfl) (hK _ _ (le8_refl _) rfl)
      · intro ac w' hF hL hP hU K hK
        have hB := below_undrew hL
        have e13 : ac.eval (.tmp 13) = .bool true := hF.at 13 (by kernel_rfl)
        have e94 : ac.eval (.tmp 94) = .bool true := hP 21 (by kernel_rfl)
        exact rop_move _ rfl e13 (wanted_of (j := 21) (b := true) rfl rfl e94) (hK _ _ (le8_refl _) rfl)
      · intro ac w' hF hL hP hU K hK
        have hB := below_undrew hL
        have e95 : ac.eval (.tmp 95) = .bool true := hP 22 (by kernel_rfl)
        have e94 : ac.eval (.tmp 94) = .bool true := hP 21 (by kernel_rfl)
        exact rop_not _ _ rfl true e95 (wanted_of (j := 21) (b := true) rfl rfl e94) (hK _ _ (le8_refl _) rfl)
      · intro ac w' hF hL hP hU K hK
        have hB := below_undrew hL
        have e96 : ac.eval (.tmp 96) = .bool false := hP 23 (by kernel_rfl)
        have e94 : ac.eval (.tmp 94) = .bool true := hP 21 (by kernel_rfl)
        exact rop_move _ rfl e96 (wanted_of (j := 21) (b := true) rfl rfl e94) (hK _ _ (le8_refl _) rfl)
      · intro ac w' hF hL hP hU K hK
        have hB := below_undrew hL
        have e3 : ac.eval (.tmp 3) = .pointer (some ⟨q3, 0, none⟩) := hF.at 3 (by kernel_rfl)
        have e97 : ac.eval (.tmp 97) = .bool false := hP 24 (by kernel_rfl)
        exact rop_idx _ _ _ rfl e3 rfl (idx3S q3 1 _ rfl (by decide) w') (wanted_of (j := 24) (b := false) rfl rfl e97) (hK _ _ (le8_refl _) rfl)
      · intro ac w' hF hL hP hU K hK
        have hB := below_undrew hL
        have e98 : ac.eval (.tmp 98) = .pointer (some ⟨q3, 1 * 32, none⟩) := hP 25 (by kernel_rfl)
        have e97 : ac.eval (.tmp 97) = .bool false := hP 24 (by kernel_rfl)
        exact rop_ld _ _ rfl e98 (load_sumP HX1l.out (sc_rangeAt (heap_oldP Jq3.out hB) HXo.out 1 x1 rfl)) (wanted_of (j := 24) (b := false) rfl rfl e97) (hK _ _ (le8_refl _) rfl)
      · intro ac w' hF hL hP hU K hK
        have hB := below_undrew hL
        have e4 : ac.eval (.tmp 4) = .pointer (some ⟨q4, 0, none⟩) := hF.at 4 (by kernel_rfl)
        have e97 : ac.eval (.tmp 97) = .bool false := hP 24 (by kernel_rfl)
        exact rop_idx _ _ _ rfl e4 rfl (idx2i q4 0 _ rfl (by decide) w') (wanted_of (j := 24) (b := false) rfl rfl e97) (hK _ _ (le8_refl _) rfl)
      · intro ac w' hF hL hP hU K hK
        have hB := below_undrew hL
        have e100 : ac.eval (.tmp 100) = .pointer (some ⟨q4, 0, none⟩) := hP 27 (by kernel_rfl)
        have e97 : ac.eval (.tmp 97) = .bool false := hP 24 (by kernel_rfl)
        exact rop_ld _ _ rfl e100 (load_intP (cell_of (heap_oldP Jq4.out hB) 0)) (wanted_of (j := 24) (b := false) rfl rfl e97) (hK _ _ (le8_refl _) rfl)
      · intro ac w' hF hL hP hU K hK
        have hB := below_undrew hL
        have e12 : ac.eval (.tmp 12) = .pointer (some ⟨q12, 0, none⟩) := hF.at 12 (by kernel_rfl)
        have e97 : ac.eval (.tmp 97) = .bool false := hP 24 (by kernel_rfl)
        exact rop_ld _ _ rfl e12 (load_sumP HYl.out (range_var (IsH.old Jq12.out hB))) (wanted_of (j := 24) (b := false) rfl rfl e97) (hK _ _ (le8_refl _) rfl)
      · intro ac w' hF hL hP hU K hK
        have hB := below_undrew hL
        have e4 : ac.eval (.tmp 4) = .pointer (some ⟨q4, 0, none⟩) := hF.at 4 (by kernel_rfl)
        have e97 : ac.eval (.tmp 97) = .bool false := hP 24 (by kernel_rfl)
        exact rop_idx _ _ _ rfl e4 rfl (idx2i q4 1 _ rfl (by decide) w') (wanted_of (j := 24) (b := false) rfl rfl e97) (hK _ _ (le8_refl _) rfl)
      · intro ac w' hF hL hP hU K hK
        have hB := below_undrew hL
        have e103 : ac.eval (.tmp 103) = .pointer (some ⟨q4, 1, none⟩) := hP 30 (by kernel_rfl)
        have e97 : ac.eval (.tmp 97) = .bool false := hP 24 (by kernel_rfl)
        exact rop_ld _ _ rfl e103 (load_intP (cell_of (heap_oldP Jq4.out hB) 1)) (wanted_of (j := 24) (b := false) rfl rfl e97) (hK _ _ (le8_refl _) rfl)
      · intro ac w' hF hL hP hU K hK
        have hB := below_undrew hL
        have e8 : ac.eval (.tmp 8) = .slice ap np cp := hF.at 8 (by kernel_rfl)
        have e97 : ac.eval (.tmp 97) = .bool false := hP 24 (by kernel_rfl)
        exact rop_move _ rfl e8 (wanted_of (j := 24) (b := false) rfl rfl e97) (hK _ _ (le8_refl _) rfl)
      · intro ac w' hF hL hP hU K hK
        have hB := below_undrew hL
        have e99 : ac.eval (.tmp 99) = sumV x1 := hP 26 (by kernel_rfl)
        have e101 : ac.eval (.tmp 101) = .int .i64 m := hP 28 (by kernel_rfl)
        have e102 : ac.eval (.tmp 102) = sumV Y := hP 29 (by kernel_rfl)
        have e104 : ac.eval (.tmp 104) = .int .i64 n := hP 31 (by kernel_rfl)
        have e105 : ac.eval (.tmp 105) = .slice ap np cp := hP 32 (by kernel_rfl)
        have e97 : ac.eval (.tmp 97) = .bool false := hP 24 (by kernel_rfl)
        refine rop_call 17 _ _ rfl #[sumV x1, .int .i64 m, sumV Y, .int .i64 n, .slice ap np cp] (by simp [e99, e101, e102, e104, e105]) (by kernel_rfl) (wanted_of (j := 24) (b := false) rfl rfl e97) ?_
        refine (HG2.out w' hB).mono ?_
        rintro e w2 ⟨rfl, hb⟩
        exact ⟨_, rfl, hK _ _ hb rfl⟩
      · intro ac w' hF hL hP hU K hK
        have hB := below_undrew hL
        have e3 : ac.eval (.tmp 3) = .pointer (some ⟨q3, 0, none⟩) := hF.at 3 (by kernel_rfl)
        have e97 : ac.eval (.tmp 97) = .bool false := hP 24 (by kernel_rfl)
        exact rop_idx _ _ _ rfl e3 rfl (idx3S q3 1 _ rfl (by decide) w') (wanted_of (j := 24) (b := false) rfl rfl e97) (hK _ _ (le8_refl _) rfl)
      · intro ac w' hF hL hP hU K hK
        have hB := below_undrew hL
        have e107 : ac.eval (.tmp 107) = .pointer (some ⟨q3, 1 * 32, none⟩) := hP 34 (by kernel_rfl)
        have e97 : ac.eval (.tmp 97) = .bool false := hP 24 (by kernel_rfl)
        exact rop_ld _ _ rfl e107 (load_sumP HX1l.out (sc_rangeAt (heap_oldP Jq3.out hB) HXo.out 1 x1 rfl)) (wanted_of (j := 24) (b := false) rfl rfl e97) (hK _ _ (le8_refl _) rfl)
      · intro ac w' hF hL hP hU K hK
        have hB := below_undrew hL
        have e4 : ac.eval (.tmp 4) = .pointer (some ⟨q4, 0, none⟩) := hF.at 4 (by kernel_rfl)
        have e97 : ac.eval (.tmp 97) = .bool false := hP 24 (by kernel_rfl)
        exact rop_idx _ _ _ rfl e4 rfl (idx2i q4 0 _ rfl (by decide) w') (wanted_of (j := 24) (b := false) rfl rfl e97) (hK _ _ (le8_refl _) rfl)
      · intro ac w' hF hL hP hU K hK
        have hB := below_undrew hL
        have e109 : ac.eval (.tmp 109) = .pointer (some ⟨q4, 0, none⟩) := hP 36 (by kernel_rfl)
        have e97 : ac.eval (.tmp 97) = .bool false := hP 24 (by kernel_rfl)
        exact rop_ld _ _ rfl e109 (load_intP (cell_of (heap_oldP Jq4.out hB) 0)) (wanted_of (j := 24) (b := false) rfl rfl e97) (hK _ _ (le8_refl _) rfl)
      · intro ac w' hF hL hP hU K hK
        have hB := below_undrew hL
        have e12 : ac.eval (.tmp 12) = .pointer (some ⟨q12, 0, none⟩) := hF.at 12 (by kernel_rfl)
        have e97 : ac.eval (.tmp 97) = .bool false := hP 24 (by kernel_rfl)
        exact rop_ld _ _ rfl e12 (load_sumP HYl.out (range_var (IsH.old Jq12.out hB))) (wanted_of (j := 24) (b := false) rfl rfl e97) (hK _ _ (le8_refl _) rfl)
      · intro ac w' hF hL hP hU K hK
        have hB := below_undrew hL
        have e4 : ac.eval (.tmp 4) = .pointer (some ⟨q4, 0, none⟩) := hF.at 4 (by kernel_rfl)
        have e97 : ac.eval (.tmp 97) = .bool false := hP 24 (by kernel_rfl)
        exact rop_idx _ _ _ rfl e4 rfl (idx2i q4 1 _ rfl (by decide) w') (wanted_of (j := 24) (b := false) rfl rfl e97) (hK _ _ (le8_refl _) rfl)
      · intro ac w' hF hL hP hU K hK
        have hB := below_undrew hL
        have e112 : ac.eval (.tmp 112) = .pointer (some ⟨q4, 1, none⟩) := hP 39 (by kernel_rfl)
        have e97 : ac.eval (.tmp 97) = .bool false := hP 24 (by kernel_rfl)
        exact rop_ld _ _ rfl e112 (load_intP (cell_of (heap_oldP Jq4.out hB) 1)) (wanted_of (j := 24) (b := false) rfl rfl e97) (hK _ _ (le8_refl _) rfl)
      · intro ac w' hF hL hP hU K hK
        have hB := below_undrew hL
        have e8 : ac.eval (.tmp 8) = .slice ap np cp := hF.at 8 (by kernel_rfl)
        have e97 : ac.eval (.tmp 97) = .bool false := hP 24 (by kernel_rfl)
        exact rop_move _ rfl e8 (wanted_of (j := 24) (b := false) rfl rfl e97) (hK _ _ (le8_refl _) rfl)
      · intro ac w' hF hL hP hU K hK
        have hB := below_undrew hL
        have e108 : ac.eval (.tmp 108) = sumV x1 := hP 35 (by kernel_rfl)
        have e110 : ac.eval (.tmp 110) = .int .i64 m := hP 37 (by kernel_rfl)
        have e111 : ac.eval (.tmp 111) = sumV Y := hP 38 (by kernel_rfl)
        have e113 : ac.eval (.tmp 113) = .int .i64 n := hP 40 (by kernel_rfl)
        have e114 : ac.eval (.tmp 114) = .slice ap np cp := hP 41 (by kernel_rfl)
        have e97 : ac.eval (.tmp 97) = .bool false := hP 24 (by kernel_rfl)
        refine rop_call 18 _ _ rfl #[sumV x1, .int .i64 m, sumV Y, .int .i64 n, .slice ap np cp] (by simp [e108, e110, e111, e113, e114]) (by kernel_rfl) (wanted_of (j := 24) (b := false) rfl rfl e97) ?_
        refine (HH2.out w' hB).mono ?_
        rintro e w2 ⟨rfl, hb⟩
        exact ⟨_, rfl, hK _ _ hb rfl⟩
      · intro ac w' hF hL hP hU K hK
        have hB := below_undrew hL
        have e106 : ac.eval (.tmp 106) = .bool g2 := hP 33 (by kernel_rfl)
        have e115 : ac.eval (.tmp 115) = .bool g2 := hP 42 (by kernel_rfl)
        have e97 : ac.eval (.tmp 97) = .bool false := hP 24 (by kernel_rfl)
        exact rop_bin _ _ _ _ _ rfl e106 e115 (guard_bool _ _ _ _ _ _ w') (eql_bool_sameP g2 w') (wanted_of (j := 24) (b := false) rfl rfl e97) (hK _ _ (le8_refl _) rfl)
      · intro ac w' hF hL hP hU K hK
        have hB := below_undrew hL
        have e97 : ac.eval (.tmp 97) = .bool false := hP 24 (by kernel_rfl)
        have e116 : ac.eval (.tmp 116) = .bool true := hP 43 (by kernel_rfl)
        have e94 : ac.eval (.tmp 94) = .bool true := hP 21 (by kernel_rfl)
        exact rop_pick _ _ _ rfl false e97 (by simpa using e116) (wanted_of (j := 21) (b := true) rfl rfl e94) (hK _ _ (le8_refl _) rfl)
      · intro ac w' hF hL hP hU K hK
        have hB := below_undrew hL
        have e94 : ac.eval (.tmp 94) = .bool true := hP 21 (by kernel_rfl)
        have e117 : ac.eval (.tmp 117) = .bool true := hP 44 (by kernel_rfl)
        exact rop_pick _ _ _ rfl true e94 (by simpa using e117) (wanted_none rfl) (hK _ _ (le8_refl _) rfl)
      · intro ac w' hF hL hP hU K hK
        have hB := below_undrew hL
        have e118 : ac.eval (.tmp 118) = .bool true := hP 45 (by kernel_rfl)
        exact rop_assign _ rfl e118 (wanted_none rfl) (hK _ _ (le8_refl _) rfl)
      · intro ac w' hF hB hT
        have e118 : ac.eval (.tmp 118) = .bool true := hT 45 (by decide)
        have e15 : ac.eval (.tmp 15) = .bool true := hT 46 (by decide)
        rw [hF.setsG [73, 74, 75, 76, 77, 78, 79, 80, 81, 82, 83, 84, 85, 86, 87, 88, 89, 90, 91, 92, 93, 94, 95, 96, 97, 98, 99, 100, 101, 102, 103, 104, 105, 106, 107, 108, 109, 110, 111, 112, 113, 114, 115, 116, 117, 118, 15] (by kernel_rfl)]
        simp only [List.foldl_cons, List.foldl_nil, List.setIfInBounds_toArray, List.set_cons_succ, List.set_cons_zero, e118, e15]
        generalize ac.eval (.tmp 73) = u73
        generalize ac.eval (.tmp 74) = u74
        generalize ac.eval (.tmp 75) = u75
        generalize ac.eval (.tmp 76) = u76
        generalize ac.eval (.tmp 77) = u77
        generalize ac.eval (.tmp 78) = u78
        generalize ac.eval (.tmp 79) = u79
        generalize ac.eval (.tmp 80) = u80
        generalize ac.eval (.tmp 81) = u81
        generalize ac.eval (.tmp 82) = u82
        generalize ac.eval (.tmp 83) = u83
        generalize ac.eval (.tmp 84) = u84
        generalize ac.eval (.tmp 85) = u85
        generalize ac.eval (.tmp 86) = u86
        generalize ac.eval (.tmp 87) = u87
        generalize ac.eval (.tmp 88) = u88
        generalize ac.eval (.tmp 89) = u89
        generalize ac.eval (.tmp 90) = u90
        generalize ac.eval (.tmp 91) = u91
        generalize ac.eval (.tmp 92) = u92
        generalize ac.eval (.tmp 93) = u93
        generalize ac.eval (.tmp 94) = u94
        generalize ac.eval (.tmp 95) = u95
        generalize ac.eval (.tmp 96) = u96
        generalize ac.eval (.tmp 97) = u97
        generalize ac.eval (.tmp 98) = u98
        generalize ac.eval (.tmp 99) = u99
        generalize ac.eval (.tmp 100) = u100
        generalize ac.eval (.tmp 101) = u101
        generalize ac.eval (.tmp 102) = u102
        generalize ac.eval (.tmp 103) = u103
        generalize ac.eval (.tmp 104) = u104
        generalize ac.eval (.tmp 105) = u105
        generalize ac.eval (.tmp 106) = u106
        generalize ac.eval (.tmp 107) = u107
        generalize ac.eval (.tmp 108) = u108
        generalize ac.eval (.tmp 109) = u109
        generalize ac.eval (.tmp 110) = u110
        generalize ac.eval (.tmp 111) = u111
        generalize ac.eval (.tmp 112) = u112
        generalize ac.eval (.tmp 113) = u113
        generalize ac.eval (.tmp 114) = u114
        generalize ac.eval (.tmp 115) = u115
        generalize ac.eval (.tmp 116) = u116
        generalize ac.eval (.tmp 117) = u117
        clear e118 e15 hT hF ac
        go_wp2_with fail
        go_meet
        exact ⟨rfl, hB⟩
    | false =>
      try simp only [Act.put]
      refine wp_region_tab [RT.is (.pointer (some ⟨q3, 1 * 32, none⟩)), RT.is (sumV x1), RT.is (.pointer (some ⟨q4, 0, none⟩)), RT.is (.int .i64 m), RT.is (.pointer (some ⟨q3, 2 * 32, none⟩)), RT.is (sumV x2), RT.is (.pointer (some ⟨q4, 1, none⟩)), RT.is (.int .i64 n), RT.is (.slice ap np cp), RT.is (.bool g1), RT.is (.pointer (some ⟨q3, 1 * 32, none⟩)), RT.is (sumV x1), RT.is (.pointer (some ⟨q4, 0, none⟩)), RT.is (.int .i64 m), RT.is (.pointer (some ⟨q3, 2 * 32, none⟩)), RT.is (sumV x2), RT.is (.pointer (some ⟨q4, 1, none⟩)), RT.is (.int .i64 n), RT.is (.slice ap np cp), RT.is (.bool g1), RT.is (.bool true), RT.is (.bool true), RT.is (.bool false), RT.is (.bool true), RT.is (.bool true), RT.any, RT.any, RT.any, RT.any, RT.any, RT.any, RT.any, RT.any, RT.any, RT.any, RT.any, RT.any, RT.any, RT.any, RT.any, RT.any, RT.any, RT.any, RT.any, RT.is (.bool true), RT.is (.bool true), RT.is (.bool true)] (by kernel_rfl) (by kernel_rfl) (by kernel_rfl) (by kernel_rfl) ⟨?_, ?_, ?_, ?_, ?_, ?_, ?_, ?_, ?_, ?_, ?_, ?_, ?_, ?_, ?_, ?_, ?_, ?_, ?_, ?_, ?_, ?_, ?_, ?_, ?_, ?_, ?_, ?_, ?_, ?_, ?_, ?_, ?_, ?_, ?_, ?_, ?_, ?_, ?_, ?_, ?_, ?_, ?_, ?_, ?_, ?_, ?_, trivial⟩ ?_
      · intro ac w' hF hL hP hU K hK
        have hB := below_undrew hL
        have e3 : ac.eval (.tmp 3) = .pointer (some ⟨q3, 0, none⟩) := hF.at 3 (by kernel_rfl)
        exact rop_idx _ _ _ rfl e3 rfl (idx3S q3 1 _ rfl (by decide) w') (wanted_none rfl) (hK _ _ (le8_refl _) rfl)
      · intro ac w' hF hL hP hU K hK
        have hB := below_undrew hL
        have e73 : ac.eval (.tmp 73) = .pointer (some ⟨q3, 1 * 32, none⟩) := hP 0 (by kernel_rfl)
        exact rop_ld _ _ rfl e73 (load_sumP HX1l.out (sc_rangeAt (heap_oldP Jq3.out hB) HXo.out 1 x1 rfl)) (wanted_none rfl) (hK _ _ (le8_refl _) rfl)
      · intro ac w' hF hL hP hU K hK
        have hB := below_undrew hL
        have e4 : ac.eval (.tmp 4) = .pointer (some ⟨q4, 0, none⟩) := hF.at 4 (by kernel_rfl)
        exact rop_idx _ _ _ rfl e4 rfl (idx2i q4 0 _ rfl (by decide) w') (wanted_none rfl) (hK _ _ (le8_refl _) rfl)
      · intro ac w' hF hL hP hU K hK
        have hB := below_undrew hL
        have e75 : ac.eval (.tmp 75) = .pointer (some ⟨q4, 0, none⟩) := hP 2 (by kernel_rfl)
        exact rop_ld _ _ rfl e75 (load_intP (cell_of (heap_oldP Jq4.out hB) 0)) (wanted_none rfl) (hK _ _ (le8_refl _) rfl)
      · intro ac w' hF hL hP hU K hK
        have hB := below_undrew hL
        have e3 : ac.eval (.tmp 3) = .pointer (some ⟨q3, 0, none⟩) := hF.at 3 (by kernel_rfl)
        exact rop_idx _ _ _ rfl e3 rfl (idx3S q3 2 _ rfl (by decide) w') (wanted_none rfl) (hK _ _ (le8_refl _) rfl)
      · intro ac w' hF hL hP hU K hK
        have hB := below_undrew hL
        have e77 : ac.eval (.tmp 77) = .pointer (some ⟨q3, 2 * 32, none⟩) := hP 4 (by kernel_rfl)
        exact rop_ld _ _ rfl e77 (load_sumP HX2l.out (sc_rangeAt (heap_oldP Jq3.out hB) HXo.out 2 x2 rfl)) (wanted_none rfl) (hK _ _ (le8_refl _) rfl)
      · intro ac w' hF hL hP hU K hK
        have hB := below_undrew hL
        have e4 : ac.eval (.tmp 4) = .pointer (some ⟨q4, 0, none⟩) := hF.at 4 (by kernel_rfl)
        exact rop_idx _ _ _ rfl e4 rfl (idx2i q4 1 _ rfl (by decide) w') (wanted_none rfl) (hK _ _ (le8_refl _) rfl)
      · intro ac w' hF hL hP hU K hK
        have hB := below_undrew hL
        have e79 : ac.eval (.tmp 79) = .pointer (some ⟨q4, 1, none⟩) := hP 6 (by kernel_rfl)
        exact rop_ld _ _ rfl e79 (load_intP (cell_of (heap_oldP Jq4.out hB) 1)) (wanted_none rfl) (hK _ _ (le8_refl _) rfl)
      · intro ac w' hF hL hP hU K hK
        have hB := below_undrew hL
        have e8 : ac.eval (.tmp 8) = .slice ap np cp := hF.at 8 (by kernel_rfl)
        exact rop_move _ rfl e8 (wanted_none rfl) (hK _ _ (le8_refl _) rfl)
      · intro ac w' hF hL hP hU K hK
        have hB := below_undrew hL
        have e74 : ac.eval (.tmp 74) = sumV x1 := hP 1 (by kernel_rfl)
        have e76 : ac.eval (.tmp 76) = .int .i64 m := hP 3 (by kernel_rfl)
        have e78 : ac.eval (.tmp 78) = sumV x2 := hP 5 (by kernel_rfl)
        have e80 : ac.eval (.tmp 80) = .int .i64 n := hP 7 (by kernel_rfl)
        have e81 : ac.eval (.tmp 81) = .slice ap np cp := hP 8 (by kernel_rfl)
        refine rop_call 17 _ _ rfl #[sumV x1, .int .i64 m, sumV x2, .int .i64 n, .slice ap np cp] (by simp [e74, e76, e78, e80, e81]) (by kernel_rfl) (wanted_none rfl) ?_
        refine (HG1.out w' hB).mono ?_
        rintro e w2 ⟨rfl, hb⟩
        exact ⟨_, rfl, hK _ _ hb rfl⟩
      · intro ac w' hF hL hP hU K hK
        have hB := below_undrew hL
        have e3 : ac.eval (.tmp 3) = .pointer (some ⟨q3, 0, none⟩) := hF.at 3 (by kernel_rfl)
        exact rop_idx _ _ _ rfl e3 rfl (idx3S q3 1 _ rfl (by decide) w') (wanted_none rfl) (hK _ _ (le8_refl _) rfl)
      · intro ac w' hF hL hP hU K hK
        have hB := below_undrew hL
        have e83 : ac.eval (.tmp 83) = .pointer (some ⟨q3, 1 * 32, none⟩) := hP 10 (by kernel_rfl)
        exact rop_ld _ _ rfl e83 (load_sumP HX1l.out (sc_rangeAt (heap_oldP Jq3.out hB) HXo.out 1 x1 rfl)) (wanted_none rfl) (hK _ _ (le8_refl _) rfl)
      · intro ac w' hF hL hP hU K hK
        have hB := below_undrew hL
        have e4 : ac.eval (.tmp 4) = .pointer (some ⟨q4, 0, none⟩) := hF.at 4 (by kernel_rfl)
        exact rop_idx _ _ _ rfl e4 rfl (idx2i q4 0 _ rfl (by decide) w') (wanted_none rfl) (hK _ _ (le8_refl _) rfl)
      · intro ac w' hF hL hP hU K hK
        have hB := below_undrew hL
        have e85 : ac.eval (.tmp 85) = .pointer (some ⟨q4, 0, none⟩) := hP 12 (by kernel_rfl)
        exact rop_ld _ _ rfl e85 (load_intP (cell_of (heap_oldP Jq4.out hB) 0)) (wanted_none rfl) (hK _ _ (le8_refl _) rfl)
      · intro ac w' hF hL hP hU K hK
        have hB := below_undrew hL
        have e3 : ac.eval (.tmp 3) = .pointer (some ⟨q3, 0, none⟩) := hF.at 3 (by kernel_rfl)
        exact rop_idx _ _ _ rfl e3 rfl (idx3S q3 2 _ rfl (by decide) w') (wanted_none rfl) (hK _ _ (le8_refl _) rfl)
      · intro ac w' hF hL hP hU K hK
        have hB := below_undrew hL
        have e87 : ac.eval (.tmp 87) = .pointer (some ⟨q3, 2 * 32, none⟩) := hP 14 (by kernel_rfl)
        exact rop_ld _ _ rfl e87 (load_sumP HX2l.out (sc_rangeAt (heap_oldP Jq3.out hB) HXo.out 2 x2 rfl)) (wanted_none rfl) (hK _ _ (le8_refl _) rfl)
      · intro ac w' hF hL hP hU K hK
        have hB := below_undrew hL
        have e4 : ac.eval (.tmp 4) = .pointer (some ⟨q4, 0, none⟩) := hF.at 4 (by kernel_rfl)
        exact rop_idx _ _ _ rfl e4 rfl (idx2i q4 1 _ rfl (by decide) w') (wanted_none rfl) (hK _ _ (le8_refl _) rfl)
      · intro ac w' hF hL hP hU K hK
        have hB := below_undrew hL
        have e89 : ac.eval (.tmp 89) = .pointer (some ⟨q4, 1, none⟩) := hP 16 (by kernel_rfl)
        exact rop_ld _ _ rfl e89 (load_intP (cell_of (heap_oldP Jq4.out hB) 1)) (wanted_none rfl) (hK _ _ (le8_refl _) rfl)
      · intro ac w' hF hL hP hU K hK
        have hB := below_undrew hL
        have e8 : ac.eval (.tmp 8) = .slice ap np cp := hF.at 8 (by kernel_rfl)
        exact rop_move _ rfl e8 (wanted_none rfl) (hK _ _ (le8_refl _) rfl)
      · intro ac w' hF hL hP hU K hK
        have hB := below_undrew hL
        have e84 : ac.eval (.tmp 84) = sumV x1 := hP 11 (by kernel_rfl)
        have e86 : ac.eval (.tmp 86) = .int .i64 m := hP 13 (by kernel_rfl)
        have e88 : ac.eval (.tmp 88) = sumV x2 := hP 15 (by kernel_rfl)
        have e90 : ac.eval (.tmp 90) = .int .i64 n := hP 17 (by kernel_rfl)
        have e91 : ac.eval (.tmp 91) = .slice ap np cp := hP 18 (by kernel_rfl)
        refine rop_call 18 _ _ rfl #[sumV x1, .int .i64 m, sumV x2, .int .i64 n, .slice ap np cp] (by simp [e84, e86, e88, e90, e91]) (by kernel_rfl) (wanted_none rfl) ?_
        refine (HH1.out w' hB).mono ?_
        rintro e w2 ⟨rfl, hb⟩
        exact ⟨_, rfl, hK _ _ hb rfl⟩
      · intro ac w' hF hL hP hU K hK
        have hB := below_undrew hL
        have e82 : ac.eval (.tmp 82) = .bool g1 := hP 9 (by kernel_rfl)
        have e92 : ac.eval (.tmp 92) = .bool g1 := hP 19 (by kernel_rfl)
        exact rop_bin _ _ _ _ _ rfl e82 e92 (guard_bool _ _ _ _ _ _ w') (eql_bool_sameP g1 w') (wanted_none rfl) (hK _ _ (le8_refl _) rfl)
      · intro ac w' hF hL hP hU K hK
        have hB := below_undrew hL
        have e93 : ac.eval (.tmp 93) = .bool true := hP 20 (by kernel_rfl)
        exact rop_move _ rfl e93 (wanted_none rfl) (hK _ _ (le8_refl _) rfl)
      · intro ac w' hF hL hP hU K hK
        have hB := below_undrew hL
        have e13 : ac.eval (.tmp 13) = .bool false := hF.at 13 (by kernel_rfl)
        have e94 : ac.eval (.tmp 94) = .bool true := hP 21 (by kernel_rfl)
        exact rop_move _ rfl e13 (wanted_of (j := 21) (b := true) rfl rfl e94) (hK _ _ (le8_refl _) rfl)
      · intro ac w' hF hL hP hU K hK
        have hB := below_undrew hL
        have e95 : ac.eval (.tmp 95) = .bool false := hP 22 (by kernel_rfl)
        have e94 : ac.eval (.tmp 94) = .bool true := hP 21 (by kernel_rfl)
        exact rop_not _ _ rfl false e95 (wanted_of (j := 21) (b := true) rfl rfl e94) (hK _ _ (le8_refl _) rfl)
      · intro ac w' hF hL hP hU K hK
        have hB := below_undrew hL
        have e96 : ac.eval (.tmp 96) = .bool true := hP 23 (by kernel_rfl)
        have e94 : ac.eval (.tmp 94) = .bool true := hP 21 (by kernel_rfl)
        exact rop_move _ rfl e96 (wanted_of (j := 21) (b := true) rfl rfl e94) (hK _ _ (le8_refl _) rfl)
      · intro ac w' hF hL hP hU K hK
        have hB := below_undrew hL
        have e97 : ac.eval (.tmp 97) = .bool true := hP 24 (by kernel_rfl)
        exact rop_offG (j := 24) (b := false) rfl rfl e97 (by decide) (hK _ _ (le8_refl _) trivial)
      · intro ac w' hF hL hP hU K hK
        have hB := below_undrew hL
        have e97 : ac.eval (.tmp 97) = .bool true := hP 24 (by kernel_rfl)
        exact rop_offG (j := 24) (b := false) rfl rfl e97 (by decide) (hK _ _ (le8_refl _) trivial)
      · intro ac w' hF hL hP hU K hK
        have hB := below_undrew hL
        have e97 : ac.eval (.tmp 97) = .bool true := hP 24 (by kernel_rfl)
        exact rop_offG (j := 24) (b := false) rfl rfl e97 (by decide) (hK _ _ (le8_refl _) trivial)
      · intro ac w' hF hL hP hU K hK
        have hB := below_undrew hL
        have e97 : ac.eval (.tmp 97) = .bool true := hP 24 (by kernel_rfl)
        exact rop_offG (j := 24) (b := false) rfl rfl e97 (by decide) (hK _ _ (le8_refl _) trivial)
      · intro ac w' hF hL hP hU K hK
        have hB := below_undrew hL
        have e97 : ac.eval (.tmp 97) = .bool true := hP 24 (by kernel_rfl)
        exact rop_offG (j := 24) (b := false) rfl rfl e97 (by decide) (hK _ _ (le8_refl _) trivial)
      · intro ac w' hF hL hP hU K hK
        have hB := below_undrew hL
        have e97 : ac.eval (.tmp 97) = .bool true := hP 24 (by kernel_rfl)
        exact rop_offG (j := 24) (b := false) rfl rfl e97 (by decide) (hK _ _ (le8_refl _) trivial)
      · intro ac w' hF hL hP hU K hK
        have hB := below_undrew hL
        have e97 : ac.eval (.tmp 97) = .bool true := hP 24 (by kernel_rfl)
        exact rop_offG (j := 24) (b := false) rfl rfl e97 (by decide) (hK _ _ (le8_refl _) trivial)
      · intro ac w' hF hL hP hU K hK
        have hB := below_undrew hL
        have e97 : ac.eval (.tmp 97) = .bool true := hP 24 (by kernel_rfl)
        exact rop_offG (j := 24) (b := false) rfl rfl e97 (by decide) (hK _ _ (le8_refl _) trivial)
      · intro ac w' hF hL hP hU K hK
        have hB := below_undrew hL
        have e97 : ac.eval (.tmp 97) = .bool true := hP 24 (by kernel_rfl)
        exact rop_offG (j := 24) (b := false) rfl rfl e97 (by decide) (hK _ _ (le8_refl _) trivial)
      · intro ac w' hF hL hP hU K hK
        have hB := below_undrew hL
        have e97 : ac.eval (.tmp 97) = .bool true := hP 24 (by kernel_rfl)
        exact rop_offG (j := 24) (b := false) rfl rfl e97 (by decide) (hK _ _ (le8_refl _) trivial)
      · intro ac w' hF hL hP hU K hK
        have hB := below_undrew hL
        have e97 : ac.eval (.tmp 97) = .bool true := hP 24 (by kernel_rfl)
        exact rop_offG (j := 24) (b := false) rfl rfl e97 (by decide) (hK _ _ (le8_refl _) trivial)
      · intro ac w' hF hL hP hU K hK
        have hB := below_undrew hL
        have e97 : ac.eval (.tmp 97) = .bool true := hP 24 (by kernel_rfl)
        exact rop_offG (j := 24) (b := false) rfl rfl e97 (by decide) (hK _ _ (le8_refl _) trivial)
      · intro ac w' hF hL hP hU K hK
        have hB := below_undrew hL
        have e97 : ac.eval (.tmp 97) = .bool true := hP 24 (by kernel_rfl)
        exact rop_offG (j := 24) (b := false) rfl rfl e97 (by decide) (hK _ _ (le8_refl _) trivial)
      · intro ac w' hF hL hP hU K hK
        have hB := below_undrew hL
        have e97 : ac.eval (.tmp 97) = .bool true := hP 24 (by kernel_rfl)
        exact rop_offG (j := 24) (b := false) rfl rfl e97 (by decide) (hK _ _ (le8_refl _) trivial)
      · intro ac w' hF hL hP hU K hK
        have hB := below_undrew hL
        have e97 : ac.eval (.tmp 97) = .bool true := hP 24 (by kernel_rfl)
        exact rop_offG (j := 24) (b := false) rfl rfl e97 (by decide) (hK _ _ (le8_refl _) trivial)
      · intro ac w' hF hL hP hU K hK
        have hB := below_undrew hL
        have e97 : ac.eval (.tmp 97) = .bool true := hP 24 (by kernel_rfl)
        exact rop_offG (j := 24) (b := false) rfl rfl e97 (by decide) (hK _ _ (le8_refl _) trivial)
      · intro ac w' hF hL hP hU K hK
        have hB := below_undrew hL
        have e97 : ac.eval (.tmp 97) = .bool true := hP 24 (by kernel_rfl)
        exact rop_offG (j := 24) (b := false) rfl rfl e97 (by decide) (hK _ _ (le8_refl _) trivial)
      · intro ac w' hF hL hP hU K hK
        have hB := below_undrew hL
        have e97 : ac.eval (.tmp 97) = .bool true := hP 24 (by kernel_rfl)
        exact rop_offG (j := 24) (b := false) rfl rfl e97 (by decide) (hK _ _ (le8_refl _) trivial)
      · intro ac w' hF hL hP hU K hK
        have hB := below_undrew hL
        have e97 : ac.eval (.tmp 97) = .bool true := hP 24 (by kernel_rfl)
        exact rop_offG (j := 24) (b := false) rfl rfl e97 (by decide) (hK _ _ (le8_refl _) trivial)
      · intro ac w' hF hL hP hU K hK
        have hB := below_undrew hL
        have e97 : ac.eval (.tmp 97) = .bool true := hP 24 (by kernel_rfl)
        have e94 : ac.eval (.tmp 94) = .bool true := hP 21 (by kernel_rfl)
        exact rop_pick _ _ _ rfl true e97 (by rfl) (wanted_of (j := 21) (b := true) rfl rfl e94) (hK _ _ (le8_refl _) rfl)
      · intro ac w' hF hL hP hU K hK
        have hB := below_undrew hL
        have e94 : ac.eval (.tmp 94) = .bool true := hP 21 (by kernel_rfl)
        have e117 : ac.eval (.tmp 117) = .bool true := hP 44 (by kernel_rfl)
        exact rop_pick _ _ _ rfl true e94 (by simpa using e117) (wanted_none rfl) (hK _ _ (le8_refl _) rfl)
      · intro ac w' hF hL hP hU K hK
        have hB := below_undrew hL
        have e118 : ac.eval (.tmp 118) = .bool true := hP 45 (by kernel_rfl)
        exact rop_assign _ rfl e118 (wanted_none rfl) (hK _ _ (le8_refl _) rfl)
      · intro ac w' hF hB hT
        have e118 : ac.eval (.tmp 118) = .bool true := hT 45 (by decide)
        have e15 : ac.eval (.tmp 15) = .bool true := hT 46 (by decide)
        rw [hF.setsG [73, 74, 75, 76, 77, 78, 79, 80, 81, 82, 83, 84, 85, 86, 87, 88, 89, 90, 91, 92, 93, 94, 95, 96, 97, 98, 99, 100, 101, 102, 103, 104, 105, 106, 107, 108, 109, 110, 111, 112, 113, 114, 115, 116, 117, 118, 15] (by kernel_rfl)]
        simp only [List.foldl_cons, List.foldl_nil, List.setIfInBounds_toArray, List.set_cons_succ, List.set_cons_zero, e118, e15]
        generalize ac.eval (.tmp 73) = u73
        generalize ac.eval (.tmp 74) = u74
        generalize ac.eval (.tmp 75) = u75
        generalize ac.eval (.tmp 76) = u76
        generalize ac.eval (.tmp 77) = u77
        generalize ac.eval (.tmp 78) = u78
        generalize ac.eval (.tmp 79) = u79
        generalize ac.eval (.tmp 80) = u80
        generalize ac.eval (.tmp 81) = u81
        generalize ac.eval (.tmp 82) = u82
        generalize ac.eval (.tmp 83) = u83
        generalize ac.eval (.tmp 84) = u84
        generalize ac.eval (.tmp 85) = u85
        generalize ac.eval (.tmp 86) = u86
        generalize ac.eval (.tmp 87) = u87
        generalize ac.eval (.tmp 88) = u88
        generalize ac.eval (.tmp 89) = u89
        generalize ac.eval (.tmp 90) = u90
        generalize ac.eval (.tmp 91) = u91
        generalize ac.eval (.tmp 92) = u92
        generalize ac.eval (.tmp 93) = u93
        generalize ac.eval (.tmp 94) = u94
        generalize ac.eval (.tmp 95) = u95
        generalize ac.eval (.tmp 96) = u96
        generalize ac.eval (.tmp 97) = u97
        generalize ac.eval (.tmp 98) = u98
        generalize ac.eval (.tmp 99) = u99
        generalize ac.eval (.tmp 100) = u100
        generalize ac.eval (.tmp 101) = u101
        generalize ac.eval (.tmp 102) = u102
        generalize ac.eval (.tmp 103) = u103
        generalize ac.eval (.tmp 104) = u104
        generalize ac.eval (.tmp 105) = u105
        generalize ac.eval (.tmp 106) = u106
        generalize ac.eval (.tmp 107) = u107
        generalize ac.eval (.tmp 108) = u108
        generalize ac.eval (.tmp 109) = u109
        generalize ac.eval (.tmp 110) = u110
        generalize ac.eval (.tmp 111) = u111
        generalize ac.eval (.tmp 112) = u112
        generalize ac.eval (.tmp 113) = u113
        generalize ac.eval (.tmp 114) = u114
        generalize ac.eval (.tmp 115) = u115
        generalize ac.eval (.tmp 116) = u116
        generalize ac.eval (.tmp 117) = u117
        clear e118 e15 hT hF ac
        go_wp2_with fail
        go_meet
        exact ⟨rfl, hB⟩
  case rest =>
  obtain ⟨rfl, hBd⟩ := hcut
  have HB3 := Lib.hid (below_step HB2.out (Nat.le_refl _) hBd)
  clear hBd
  go_upto_region 7 with (fail)
  try simp only [Act.put]
  refine wp_region_tab0 [RT.is (.bool true), RT.is (.bool true), RT.is (.bool true), RT.is (.bool true), RT.is (.bool true), RT.is (.bool true), RT.is (.bool true), RT.is (.bool true)] (by kernel_rfl) (by kernel_rfl) (by kernel_rfl) ⟨?_, ?_, ?_, ?_, ?_, ?_, ?_, ?_, trivial⟩ ?_
  · intro ac w' hF hL hP hU K hK
    have hB : Below _ _ _ := hL
    have e7 : ac.eval (.tmp 7) = .bool true := hF.at 7 (by kernel_rfl)
    exact rop_move _ rfl e7 (wanted_none rfl) (hK _ _ (le8_refl _) rfl)
  · intro ac w' hF hL hP hU K hK
    have hB : Below _ _ _ := hL
    have e119 : ac.eval (.tmp 119) = .bool true := hP 0 (by kernel_rfl)
    exact rop_move _ rfl e119 (wanted_none rfl) (hK _ _ (le8_refl _) rfl)
  · intro ac w' hF hL hP hU K hK
    have hB : Below _ _ _ := hL
    have e14 : ac.eval (.tmp 14) = .bool true := hF.at 14 (by kernel_rfl)
    have e120 : ac.eval (.tmp 120) = .bool true := hP 1 (by kernel_rfl)
    exact rop_move _ rfl e14 (wanted_of (j := 1) (b := true) rfl rfl e120) (hK _ _ (le8_refl _) rfl)
  · intro ac w' hF hL hP hU K hK
    have hB : Below _ _ _ := hL
    have e120 : ac.eval (.tmp 120) = .bool true := hP 1 (by kernel_rfl)
    have e121 : ac.eval (.tmp 121) = .bool true := hP 2 (by kernel_rfl)
    exact rop_pick _ _ _ rfl true e120 (by simpa using e121) (wanted_none rfl) (hK _ _ (le8_refl _) rfl)
  · intro ac w' hF hL hP hU K hK
    have hB : Below _ _ _ := hL
    have e122 : ac.eval (.tmp 122) = .bool true := hP 3 (by kernel_rfl)
    exact rop_move _ rfl e122 (wanted_none rfl) (hK _ _ (le8_refl _) rfl)
  · intro ac w' hF hL hP hU K hK
    have hB : Below _ _ _ := hL
    have e15 : ac.eval (.tmp 15) = .bool true := hF.at 15 (by kernel_rfl)
    have e123 : ac.eval (.tmp 123) = .bool true := hP 4 (by kernel_rfl)
    exact rop_move _ rfl e15 (wanted_of (j := 4) (b := true) rfl rfl e123) (hK _ _ (le8_refl _) rfl)
  · intro ac w' hF hL hP hU K hK
    have hB : Below _ _ _ := hL
    have e123 : ac.eval (.tmp 123) = .bool true := hP 4 (by kernel_rfl)
    have e124 : ac.eval (.tmp 124) = .bool true := hP 5 (by kernel_rfl)
    exact rop_pick _ _ _ rfl true e123 (by simpa using e124) (wanted_none rfl) (hK _ _ (le8_refl _) rfl)
  · intro ac w' hF hL hP hU K hK
    have hB : Below _ _ _ := hL
    have e125 : ac.eval (.tmp 125) = .bool true := hP 6 (by kernel_rfl)
    exact rop_assign _ rfl e125 (wanted_none rfl) (hK _ _ (le8_refl _) rfl)
  · intro ac w' hF hB hT
    have e125 : ac.eval (.tmp 125) = .bool true := hT 6 (by decide)
    have e6 : ac.eval (.tmp 6) = .bool true := hT 7 (by decide)
    rw [hF.setsG [119, 120, 121, 122, 123, 124, 125, 6] (by kernel_rfl)]
    simp only [List.foldl_cons, List.foldl_nil, List.setIfInBounds_toArray, List.set_cons_succ, List.set_cons_zero, e125, e6]
    generalize ac.eval (.tmp 119) = u119
    generalize ac.eval (.tmp 120) = u120
    generalize ac.eval (.tmp 121) = u121
    generalize ac.eval (.tmp 122) = u122
    generalize ac.eval (.tmp 123) = u123
    generalize ac.eval (.tmp 124) = u124
    clear e125 e6 hT hF ac
    have HF := Lib.hid (below_step HB3.out (Nat.le_refl _) hB)
    clear hB
    go_wp2
    go_ret
    exact ⟨rfl, HF.out⟩

set_option maxRecDepth 100000 in
theorem lifted (os : Os) (started : os.Started) (H : Type) (enc : TypeId × Value → H) :
    ReturnsInHanded {} Tryd.checked os 4 .any (fun w args => (Rows.proofTellsSpec.pre enc Tryd.prog Tryd.f4 [] false w args ∧ laidMetH Tryd.prog [("scrinium/sha.k", Rows.laid_scrinium_sha_k)] w) ∧ sizedMet enc Tryd.prog Tryd.f4 (OpenSpec.ofChange Rows.proofTellsSpec) false w args)
      (Rows.proofTellsSpec.post enc Tryd.prog Tryd.f4 false true false false) := by
  refine returnsInHanded_of_change_and (C := Tryd.checked) (X := fun w _ => laidMetH Tryd.prog [("scrinium/sha.k", Rows.laid_scrinium_sha_k)] w) (fun _ _ _ hh h => h.of_heap hh) lawOwn started (by kernel_rfl) Tryd.func4
    (ChangeSpec.witness_shaped (enc := enc) (C := Tryd.checked) (os := os) (X := fun w _ => laidMetH Tryd.prog [("scrinium/sha.k", Rows.laid_scrinium_sha_k)] w) false (World.doorLaid Tryd.prog 400 os) #[.agg (sc [List.replicate 32 0, List.replicate 32 0, List.replicate 32 0]).toArray, .agg #[.int .i64 0, .int .i64 0], .slice none 0 0] 8 rfl (World.shaped_of_RefB (by kernel_rfl) (by kernel_rfl)) (by kernel_rfl) (by kernel_rfl) (by kernel_rfl) (door_met os _)) ?_
  intro W base args ds gs before hval0 hW _ _ hL _
  have hval : ∀ (j : Nat) t v, Tryd.f4.params[j]? = some t → args[j]? = some v → Value.okWide Tryd.prog W .any base t v := hval0
  have hW' := hW
  obtain ⟨p, q, hA0, hV, rfl, hfz, hnd⟩ := hW
  have hA : DataW.TrodAll enc Tryd.prog W 0 (fun _ => true) true Tryd.f4.params.toList args.toList ds p := hA0
  rw [Tryd.params4] at hA hval
  obtain ⟨v0, vs0, d0, ds0, p0, q0, hargs, rfl, rfl, h0, r0⟩ := trodAll_cons hA
  obtain ⟨v1, vs1, d1, ds1, p1, q1, rfl, rfl, rfl, h1, r1⟩ := trodAll_cons r0
  obtain ⟨v2, vs2, d2, ds2, p2, q2, rfl, rfl, rfl, h2, r2⟩ := trodAll_cons r1
  obtain ⟨rfl, rfl, rfl⟩ := trodAll_nil r2
  obtain rfl : args = #[v0, v1, v2] := by cases args; simp_all
  obtain ⟨rfl, rfl⟩ := trodVars_none hV
  have hKT := KT_of_laid hL
  obtain ⟨l0, rfl, w0, u0⟩ := open_sumsN Tryd.underlying33 (by kernel_rfl) (hval 0 33 v0 rfl rfl) h0
  obtain ⟨x0a, x0b, x0c, rfl⟩ := len3P w0
  obtain ⟨z1, y1, rfl, w1, w1b⟩ := ints2_argP (hval 1 24 v1 rfl rfl) h1
  obtain ⟨a2, len2, cap2, rfl⟩ := okWide_slice Tryd.underlying25 (hval 2 25 v2 rfl rfl)
  obtain ⟨l2, w2⟩ := sums_of h2
  clear hA0 hval0
  refine (walk (w := W) hKT x0a x0b x0c (u0 x0a (by simp)) (u0 x0b (by simp)) (u0 x0c (by simp)) z1 y1 w1 w1b _ l2 w2).mono fun e W' ⟨he, bel⟩ => ?_
  subst he
  exact ⟨_, rfl, law_post rfl rfl (by kernel_rfl) hW' rfl bel⟩

theorem row_holds : Rows.ProofTellsSaid :=
  OpenClaim.holds_of_wide 4 Tryd.f4 rfl rfl rfl rfl rfl rfl rfl ⟨rfl, rfl, rfl, rfl, rfl⟩ rfl rfl rfl rfl rfl (by kernel_rfl) Tryd.func4 (by kernel_rfl)
    (of_decide_eq_true (by kernel_rfl)) (by unfold Func.isWrapper; first | (rw [if_pos (by decide +kernel)]; kernel_rfl) | (rw [if_neg (by decide +kernel)]; exact ⟨rfl, rfl⟩))
    (fun os started H enc _ => lifted os started H enc)

theorem holds : Rows.ProofTellsCardSaid :=
  Claim7.holds_tied_plain_at .later [] [.data] true Rows.proofTellsCard.stood.harness false
    row_holds (fun _ h => by cases h) (by kernel_rfl) (fun _ h => by cases h) proofTells_row_tie rfl ⟨rfl, rfl⟩ (by kernel_rfl) rfl
    (fun f fn hf hfn => by
      obtain rfl : f = 4 := Option.some.inj ((show Tryd.prog.funcNamed "scrinium/scriniumlaw12.ProofTells" = some 4 by kernel_rfl).symm.trans hf) |>.symm
      obtain rfl : fn = Tryd.f4 := (Option.some.inj (Tryd.func4.symm.trans hfn)).symm
      exact ⟨by kernel_rfl, fun j t ht => by
        rw [Tryd.params4] at ht
        have hm : t ∈ [33, 24, 25] := by simpa using Array.mem_of_getElem? ht
        have hall : ([33, 24, 25].all fun u => !Tryd.prog.wantsStandIn u) = true := by kernel_rfl
        exact (show Tryd.prog.wantsStandIn t = false by simpa using List.all_eq_true.1 hall t hm)⟩)
    (by kernel_rfl)
end Go.Proofs.YtjdhcncjcencbaaDoor.proofTells

theorem Go.Proofs.YtjdhcncjcencbaaDoor.proofTells_holds : Go.Proofs.YtjdhcncjcencbaaDoor.Rows.ProofTellsCardSaid := Go.Proofs.YtjdhcncjcencbaaDoor.proofTells.holds
#print axioms Go.Proofs.YtjdhcncjcencbaaDoor.proofTells_holds
