/-
  The statements' own helpers awake and few (scriniumlaw12).
-/
import Derived.Test.YtjdhcncjcencbaaDoorRProofGoes
import Derived.Test.YtjdhcncjcencbaaDoorProofRight
import Derived.Test.YtjdhcncjcencbaaDoorRProofFold
import Derived.Test.YtjdhcncjcencbaaDoorMPathB
import Derived.Test.YtjdhcncjcencbaaDoorMLeafB
import Derived.Test.YtjdhcncjcencbaaDoorMLeafL
namespace Go.Proofs.YtjdhcncjcencbaaDoor
open Go.RowKit

theorem foldLen_eq (m n : Int) (P : Hs) : foldLen m n P = decide ((P.length : Int) = if okP m n then ((Tree.long m.toNat n.toNat : Nat) : Int) else -1) := rfl
theorem bothLen_eq (m n : Int) (P : Hs) : bothLen m n P = decide ((P.length : Int) = if okL m n then ((Tree.llong m.toNat n.toNat true : Nat) : Int) else -1) := rfl
theorem root3 (A B C : List UInt8) : Tree.root [A, B, C] = Tree.node (Tree.node A B) C := by
  rw [Tree.root_go _ (by simp), show [A, B, C].length = 3 from rfl, split3, show [A, B, C].take 2 = [A, B] from rfl, root2]
  rfl
set_option maxHeartbeats 4000000 in
set_option maxRecDepth 100000 in
theorem awake12_any (w : World) (hK : KT w) : Calls Tryd.prog 10 #[] w fun e w' => e = .returned (.bool true) ∧ Below w.heap.size w w' := by
  obtain ⟨A, hA⟩ : ∃ A, A = Tree.leafH [97] := ⟨_, rfl⟩
  obtain ⟨B, hBB⟩ : ∃ B, B = Tree.leafH [98] := ⟨_, rfl⟩
  obtain ⟨C, hC⟩ : ∃ C, C = Tree.leafH [99] := ⟨_, rfl⟩
  obtain ⟨N, hN⟩ : ∃ N, N = Tree.node A B := ⟨_, rfl⟩
  obtain ⟨T, hT⟩ : ∃ T, T = Tree.root [A, B, C] := ⟨_, rfl⟩
  have HAl : Hid (A.length = 32) := Lib.hid (by rw [hA]; exact Tree.leafH_length _)
  have HBl : Hid (B.length = 32) := Lib.hid (by rw [hBB]; exact Tree.leafH_length _)
  have HCl : Hid (C.length = 32) := Lib.hid (by rw [hC]; exact Tree.leafH_length _)
  have HNl : Hid (N.length = 32) := Lib.hid (by rw [hN]; exact Tree.node_length _ _)
  have H3 : Hid (all32 [A, B, C]) := Lib.hid (by
    intro x hx
    simp at hx
    rcases hx with rfl | rfl | rfl
    · exact HAl.out
    · exact HBl.out
    · exact HCl.out)
  have HTl : Hid (T.length = 32) := Lib.hid (by rw [hT]; exact Tree.root_length _ H3.out)
  have HN : Hid (all32 [N]) := Lib.hid (all32.one HNl.out)
  have HC1 : Hid (all32 [C]) := Lib.hid (all32.one HCl.out)
  have HNN : Hid (all32 [N, N]) := Lib.hid (by
    intro x hx
    simp at hx
    rw [hx]
    exact HNl.out)
  have hT3 : T = Tree.node N C := by rw [hT, root3, hN]
  have HA : Hid (∀ u, Calls Tryd.prog 28 #[.string ⟨#[97]⟩] u fun e w' => e = .returned (sumV A) ∧ Below u.heap.size u w') := Lib.hid fun u => by rw [hA]; exact rleafLeaf_any ⟨#[97]⟩ [97] rfl u (by decide)
  have HB : Hid (∀ u, Calls Tryd.prog 28 #[.string ⟨#[98]⟩] u fun e w' => e = .returned (sumV B) ∧ Below u.heap.size u w') := Lib.hid fun u => by rw [hBB]; exact rleafLeaf_any ⟨#[98]⟩ [98] rfl u (by decide)
  have HC : Hid (∀ u, Calls Tryd.prog 28 #[.string ⟨#[99]⟩] u fun e w' => e = .returned (sumV C) ∧ Below u.heap.size u w') := Lib.hid fun u => by rw [hC]; exact rleafLeaf_any ⟨#[99]⟩ [99] rfl u (by decide)
  have HND : Hid (∀ u, Calls Tryd.prog 29 #[sumV A, sumV B] u fun e w' => e = .returned (sumV N) ∧ Below u.heap.size u w') := Lib.hid fun u => by rw [hN]; exact rleafNode_any A B HAl.out HBl.out u
  have HRT : Hid (∀ v u, Sums u v [A, B, C] → Calls Tryd.prog 20 #[v] u fun e w' => e = .returned (sumV T) ∧ Below u.heap.size u w') := Lib.hid fun v u hv => by rw [hT]; exact rleafRoot_any 3 [A, B, C] v u rfl (by decide) hv
  have f1 : foldLen 2 3 [N] = true := by rw [foldLen_eq, show [N].length = 1 from rfl]; decide
  have f2 : foldLen 2 3 [N, N] = false := by rw [foldLen_eq, show [N, N].length = 2 from rfl]; decide
  have f3 : turnsZ 2 3 = [true] := by decide
  have g1 : bothLen 2 3 [C] = true := by rw [bothLen_eq, show [C].length = 1 from rfl]; decide
  have g2 : bothLen 3 3 [] = true := by rw [bothLen_eq, show ([] : Hs).length = 0 from rfl]; decide
  have r1 : foldZ C 2 3 [N] = (T, true) := by
    unfold foldZ
    rw [f1, if_pos rfl, f3, hT3]
    rfl
  have r2 : (foldZ C 2 3 [N, N]).2 = false := by
    unfold foldZ
    rw [f2]
    rfl
  have s1 : bothZ N 2 3 [C] = ((N, T), true) := by
    unfold bothZ
    rw [g1, if_pos rfl]
    have e1 : Tree.lead 2 3 true = false := by decide
    have e2 : Tree.inw 2 3 = [false] := by decide
    unfold Tree.boths
    rw [show (2 : Int).toNat = 2 from rfl, show (3 : Int).toNat = 3 from rfl, e1, e2, hT3]
    rfl
  have s2 : bothZ T 3 3 [] = ((T, T), true) := by
    unfold bothZ
    rw [g2, if_pos rfl, show (3 : Int).toNat = 3 from rfl, Tree.boths_end]
    rfl
  have HKW := Lib.hid hK
  have HR1 : Hid (∀ v u, KT u → Sums u v [N] → Calls Tryd.prog 16 #[sumV T, sumV C, .int .i64 2, .int .i64 3, v] u fun e w' => e = .returned (.bool true) ∧ Below u.heap.size u w') := Lib.hid fun v u hk hv => by
    have := right_any T C HTl.out HCl.out 2 3 (by decide) (by decide) v [N] u hv (by simp) hk
    rw [r1] at this
    simpa using this
  have HR2 : Hid (∀ v u, KT u → Sums u v [N, N] → Calls Tryd.prog 16 #[sumV T, sumV C, .int .i64 2, .int .i64 3, v] u fun e w' => e = .returned (.bool false) ∧ Below u.heap.size u w') := Lib.hid fun v u hk hv => by
    have := right_any T C HTl.out HCl.out 2 3 (by decide) (by decide) v [N, N] u hv (by simp) hk
    rw [r2] at this
    simpa using this
  have HG1 : Hid (∀ v u, KT u → Sums u v [C] → Calls Tryd.prog 17 #[sumV N, .int .i64 2, sumV T, .int .i64 3, v] u fun e w' => e = .returned (.bool true) ∧ Below u.heap.size u w') := Lib.hid fun v u hk hv => by
    have := goes_any N T HNl.out HTl.out 2 3 (by decide) (by decide) v [C] u hv (by simp) hk
    unfold goesZ at this
    rw [s1] at this
    simpa using this
  have HG2 : Hid (∀ v u, KT u → Sums u v [] → Calls Tryd.prog 17 #[sumV T, .int .i64 3, sumV T, .int .i64 3, v] u fun e w' => e = .returned (.bool true) ∧ Below u.heap.size u w') := Lib.hid fun v u hk hv => by
    have := goes_any T T HTl.out HTl.out 3 3 (by decide) (by decide) v [] u hv (by simp) hk
    unfold goesZ at this
    rw [s2] at this
    simpa using this
  clear hA hBB hC hN hT hT3 f1 f2 f3 g1 g2 r1 r2 s1 s2 hK
  have b0 : Below w.heap.size w w := Below.refl _ _
  have hw0e : w.heap.size ≤ w.heap.size := Nat.le_refl _
  go_enter Tryd.func10, Tryd.ntmps10
  go_upto_region 2 with (first
    | (go_at_call 28; (refine (HA.out _).mono ?_); rintro e v1 ⟨rfl, c1⟩; have d1 : Below w.heap.size w v1 := c1; obtain ⟨z1, y1⟩ := var_sum v1 A HAl.out; have t1 := heap_alloc_last v1 zSum)
    | refine wpList_store_mid rfl 23 (.tmp 1) (.tmp 6) rfl v1.heap.size 0 (A.map u8V).toArray rfl rfl (sum_there t1 HAl.out) (sum_info HAl.out) (sum_one A) ?_)
  change Code.wp _ _ _ _ ((v1.alloc zSum).setCells v1.heap.size 0 (A.map u8V))
  obtain ⟨w1, hw1⟩ : ∃ u, u = (v1.alloc zSum).setCells v1.heap.size 0 (A.map u8V) := ⟨_, rfl⟩
  have k1 : Below w.heap.size w w1 := by rw [hw1]; exact d1.trans (y1.mono d1.size)
  have b1 : Below w.heap.size w w1 := below_step b0 (Nat.le_refl _) k1
  obtain ⟨qa, hqa⟩ : ∃ q, q = v1.heap.size := ⟨_, rfl⟩
  rw [← hw1] at z1 ⊢
  rw [← hqa] at z1 ⊢
  have Jqa : Hid (IsH A w1 qa) := Lib.hid z1
  clear hw1 hqa t1 y1 z1 c1 d1 k1
  go_upto_region 3 with (first
    | (go_at_call 28; (refine (HB.out _).mono ?_); rintro e v2 ⟨rfl, c2⟩; have d2 : Below w1.heap.size w1 v2 := c2; obtain ⟨z2, y2⟩ := var_sum v2 B HBl.out; have t2 := heap_alloc_last v2 zSum)
    | refine wpList_store_mid rfl 23 (.tmp 2) (.tmp 7) rfl v2.heap.size 0 (B.map u8V).toArray rfl rfl (sum_there t2 HBl.out) (sum_info HBl.out) (sum_one B) ?_)
  change Code.wp _ _ _ _ ((v2.alloc zSum).setCells v2.heap.size 0 (B.map u8V))
  obtain ⟨w2, hw2⟩ : ∃ u, u = (v2.alloc zSum).setCells v2.heap.size 0 (B.map u8V) := ⟨_, rfl⟩
  have k2 : Below w1.heap.size w1 w2 := by rw [hw2]; exact d2.trans (y2.mono d2.size)
  have b2 : Below w.heap.size w w2 := below_step b1 (Nat.le_refl _) k2
  obtain ⟨qb, hqb⟩ : ∃ q, q = v2.heap.size := ⟨_, rfl⟩
  rw [← hw2] at z2 ⊢
  rw [← hqb] at z2 ⊢
  have Jqb : Hid (IsH B w2 qb) := Lib.hid z2
  replace Jqa : Hid (IsH A w2 qa) := Lib.hid (IsH.old Jqa.out k2)
  clear hw2 hqb t2 y2 z2 c2 d2 k2 b1
  go_upto_region 4 with (first
    | (go_at_call 28; (refine (HC.out _).mono ?_); rintro e v3 ⟨rfl, c3⟩; have d3 : Below w2.heap.size w2 v3 := c3; obtain ⟨z3, y3⟩ := var_sum v3 C HCl.out; have t3 := heap_alloc_last v3 zSum)
    | refine wpList_store_mid rfl 23 (.tmp 3) (.tmp 8) rfl v3.heap.size 0 (C.map u8V).toArray rfl rfl (sum_there t3 HCl.out) (sum_info HCl.out) (sum_one C) ?_)
  change Code.wp _ _ _ _ ((v3.alloc zSum).setCells v3.heap.size 0 (C.map u8V))
  obtain ⟨w3, hw3⟩ : ∃ u, u = (v3.alloc zSum).setCells v3.heap.size 0 (C.map u8V) := ⟨_, rfl⟩
  have k3 : Below w2.heap.size w2 w3 := by rw [hw3]; exact d3.trans (y3.mono d3.size)
  have b3 : Below w.heap.size w w3 := below_step b2 (Nat.le_refl _) k3
  obtain ⟨qc, hqc⟩ : ∃ q, q = v3.heap.size := ⟨_, rfl⟩
  rw [← hw3] at z3 ⊢
  rw [← hqc] at z3 ⊢
  have Jqc : Hid (IsH C w3 qc) := Lib.hid z3
  replace Jqa : Hid (IsH A w3 qa) := Lib.hid (IsH.old Jqa.out k3)
  replace Jqb : Hid (IsH B w3 qb) := Lib.hid (IsH.old Jqb.out k3)
  clear hw3 hqc t3 y3 z3 c3 d3 k3 b2
  go_upto_region 5 with (first
    | refine wpList_load_mid rfl 23 (.tmp 1) rfl qa 0 rfl (A.map u8V) _ (range_var Jqa.out) Tryd.underlying23 rfl (sum_info' HAl.out) ?_
    | refine wpList_load_mid rfl 23 (.tmp 2) rfl qb 0 rfl (B.map u8V) _ (range_var Jqb.out) Tryd.underlying23 rfl (sum_info' HBl.out) ?_
    | (go_at_call 29; (refine (HND.out _).mono ?_); rintro e v4 ⟨rfl, c4⟩; have d4 : Below w3.heap.size w3 v4 := c4; obtain ⟨z4, y4⟩ := var_sum v4 N HNl.out; have t4 := heap_alloc_last v4 zSum)
    | refine wpList_store_mid rfl 23 (.tmp 4) (.tmp 11) rfl v4.heap.size 0 (N.map u8V).toArray rfl rfl (sum_there t4 HNl.out) (sum_info HNl.out) (sum_one N) ?_)
  change Code.wp _ _ _ _ ((v4.alloc zSum).setCells v4.heap.size 0 (N.map u8V))
  obtain ⟨w4, hw4⟩ : ∃ u, u = (v4.alloc zSum).setCells v4.heap.size 0 (N.map u8V) := ⟨_, rfl⟩
  have k4 : Below w3.heap.size w3 w4 := by rw [hw4]; exact d4.trans (y4.mono d4.size)
  have b4 : Below w.heap.size w w4 := below_step b3 (Nat.le_refl _) k4
  obtain ⟨qn, hqn⟩ : ∃ q, q = v4.heap.size := ⟨_, rfl⟩
  rw [← hw4] at z4 ⊢
  rw [← hqn] at z4 ⊢
  have Jqn : Hid (IsH N w4 qn) := Lib.hid z4
  replace Jqa : Hid (IsH A w4 qa) := Lib.hid (IsH.old Jqa.out k4)
  replace Jqb : Hid (IsH B w4 qb) := Lib.hid (IsH.old Jqb.out k4)
  replace Jqc : Hid (IsH C w4 qc) := Lib.hid (IsH.old Jqc.out k4)
  clear hw4 hqn t4 y4 z4 c4 d4 k4 b3
  go_upto_region 6 with (first
    | refine wpList_load_mid rfl 23 (.tmp 1) rfl qa 0 rfl (A.map u8V) _ (range_var Jqa.out) Tryd.underlying23 rfl (sum_info' HAl.out) ?_
    | refine wpList_load_mid rfl 23 (.tmp 2) rfl qb 0 rfl (B.map u8V) _ (range_var Jqb.out) Tryd.underlying23 rfl (sum_info' HBl.out) ?_
    | refine wpList_load_mid rfl 23 (.tmp 3) rfl qc 0 rfl (C.map u8V) _ (range_var Jqc.out) Tryd.underlying23 rfl (sum_info' HCl.out) ?_
    | refine wpList_bslS rfl 25 3 #[(0, .tmp 12), (1, .tmp 13), (2, .tmp 14)] rfl (L := #[(0, sumV A), (1, sumV B), (2, sumV C)]) (by first | rfl | simp [Act.eval, Act.put, sumV]) (build_sums 3 [A, B, C] H3.out rfl (by decide) (by decide) _) ?_
    | (go_at_call 20; (refine (HRT.out _ _ (Sums.build w4 [A, B, C] H3.out 3 rfl (by decide))).mono ?_); rintro e v5 ⟨rfl, c5⟩; have d5 : Below w4.heap.size w4 v5 := below_step ((Below.refl w4.heap.size w4).alloc (Nat.le_refl _) (.cells (sc [A, B, C]).toArray 23)) (Nat.le_refl _) c5; obtain ⟨z5, y5⟩ := var_sum v5 T HTl.out; have t5 := heap_alloc_last v5 zSum)
    | refine wpList_store_mid rfl 23 (.tmp 5) (.tmp 16) rfl v5.heap.size 0 (T.map u8V).toArray rfl rfl (sum_there t5 HTl.out) (sum_info HTl.out) (sum_one T) ?_)
  change Code.wp _ _ _ _ ((v5.alloc zSum).setCells v5.heap.size 0 (T.map u8V))
  obtain ⟨w5, hw5⟩ : ∃ u, u = (v5.alloc zSum).setCells v5.heap.size 0 (T.map u8V) := ⟨_, rfl⟩
  have k5 : Below w4.heap.size w4 w5 := by rw [hw5]; exact d5.trans (y5.mono d5.size)
  have b5 : Below w.heap.size w w5 := below_step b4 (Nat.le_refl _) k5
  obtain ⟨qr, hqr⟩ : ∃ q, q = v5.heap.size := ⟨_, rfl⟩
  rw [← hw5] at z5 ⊢
  rw [← hqr] at z5 ⊢
  have Jqr : Hid (IsH T w5 qr) := Lib.hid z5
  replace Jqa : Hid (IsH A w5 qa) := Lib.hid (IsH.old Jqa.out k5)
  replace Jqb : Hid (IsH B w5 qb) := Lib.hid (IsH.old Jqb.out k5)
  replace Jqc : Hid (IsH C w5 qc) := Lib.hid (IsH.old Jqc.out k5)
  replace Jqn : Hid (IsH N w5 qn) := Lib.hid (IsH.old Jqn.out k5)
  clear hw5 hqr t5 y5 z5 c5 d5 k5 b4
  have HBW := Lib.hid b5
  have hk5 : ∀ u, Below w5.heap.size w5 u → KT u := fun u hu => (HKW.out.old HBW.out).old hu
  obtain ⟨W, hW⟩ : ∃ W, W = w5 := ⟨_, rfl⟩
  subst hW
  replace HR1 : Hid (∀ v u, Below W.heap.size W u → Sums u v [N] → Calls Tryd.prog 16 #[sumV T, sumV C, .int .i64 2, .int .i64 3, v] u fun e w' => e = .returned (.bool true) ∧ Below u.heap.size u w') := Lib.hid fun v u hu hv => HR1.out v u (hk5 u hu) hv
  replace HR2 : Hid (∀ v u, Below W.heap.size W u → Sums u v [N, N] → Calls Tryd.prog 16 #[sumV T, sumV C, .int .i64 2, .int .i64 3, v] u fun e w' => e = .returned (.bool false) ∧ Below u.heap.size u w') := Lib.hid fun v u hu hv => HR2.out v u (hk5 u hu) hv
  replace HG1 : Hid (∀ v u, Below W.heap.size W u → Sums u v [C] → Calls Tryd.prog 17 #[sumV N, .int .i64 2, sumV T, .int .i64 3, v] u fun e w' => e = .returned (.bool true) ∧ Below u.heap.size u w') := Lib.hid fun v u hu hv => HG1.out v u (hk5 u hu) hv
  replace HG2 : Hid (∀ v u, Below W.heap.size W u → Sums u v [] → Calls Tryd.prog 17 #[sumV T, .int .i64 3, sumV T, .int .i64 3, v] u fun e w' => e = .returned (.bool true) ∧ Below u.heap.size u w') := Lib.hid fun v u hu hv => HG2.out v u (hk5 u hu) hv
  clear hk5 b5
  try simp only [Act.put]
  refine wp_region_tab0 [RT.is (sumV T), RT.is (sumV C), RT.is (sumV N), RT.sums [N], RT.is (.bool true), RT.is (.bool true), RT.is (sumV T), RT.is (sumV C), RT.is (sumV N), RT.is (sumV N), RT.sums [N, N], RT.is (.bool false), RT.is (.bool true), RT.is (.bool true), RT.is (.bool true), RT.is (sumV N), RT.is (sumV T), RT.is (sumV C), RT.sums [C], RT.is (.bool true), RT.is (.bool true), RT.is (.bool true), RT.is (sumV T), RT.is (sumV T), RT.is (.bool true), RT.is (.bool true), RT.is (.bool true)] (by kernel_rfl) (by kernel_rfl) (by kernel_rfl) ⟨?_, ?_, ?_, ?_, ?_, ?_, ?_, ?_, ?_, ?_, ?_, ?_, ?_, ?_, ?_, ?_, ?_, ?_, ?_, ?_, ?_, ?_, ?_, ?_, ?_, ?_, ?_, trivial⟩ ?_
  · intro ac w' hF hL hP hU K hK
    have hB : Below _ _ _ := hL
    have e5 : ac.eval (.tmp 5) = .pointer (some ⟨qr, 0, none⟩) := hF.at 5 (by kernel_rfl)
    exact rop_ld _ _ rfl e5 (load_sumP HTl.out (range_var (IsH.old Jqr.out hB))) (wanted_none rfl) (hK _ _ (le8_refl _) rfl)
  · intro ac w' hF hL hP hU K hK
    have hB : Below _ _ _ := hL
    have e3 : ac.eval (.tmp 3) = .pointer (some ⟨qc, 0, none⟩) := hF.at 3 (by kernel_rfl)
    exact rop_ld _ _ rfl e3 (load_sumP HCl.out (range_var (IsH.old Jqc.out hB))) (wanted_none rfl) (hK _ _ (le8_refl _) rfl)
  · intro ac w' hF hL hP hU K hK
    have hB : Below _ _ _ := hL
    have e4 : ac.eval (.tmp 4) = .pointer (some ⟨qn, 0, none⟩) := hF.at 4 (by kernel_rfl)
    exact rop_ld _ _ rfl e4 (load_sumP HNl.out (range_var (IsH.old Jqn.out hB))) (wanted_none rfl) (hK _ _ (le8_refl _) rfl)
  · intro ac w' hF hL hP hU K hK
    have hB : Below _ _ _ := hL
    have e19 : ac.eval (.tmp 19) = sumV N := hP 2 (by kernel_rfl)
    exact rop_bslG _ _ _ rfl #[(0, sumV N)] (by simp [e19]) (build_sums 1 [N] HN.out rfl (by decide) (by decide) w') (wanted_none rfl) (hK _ _ ((Below.refl _ _).alloc (Nat.le_refl _) _) (Sums.build w' [N] HN.out 1 rfl (by decide)))
  · intro ac w' hF hL hP hU K hK
    have hB : Below _ _ _ := hL
    have e17 : ac.eval (.tmp 17) = sumV T := hP 0 (by kernel_rfl)
    have e18 : ac.eval (.tmp 18) = sumV C := hP 1 (by kernel_rfl)
    have e20 : Sums w' (ac.eval (.tmp 20)) [N] := hP 3 (by kernel_rfl)
    refine rop_call 16 _ _ rfl #[sumV T, sumV C, .int .i64 2, .int .i64 3, ac.eval (.tmp 20)] (by simp [e17, e18, eval_const]) (by kernel_rfl) (wanted_none rfl) ?_
    refine (HR1.out _ w' hB e20).mono ?_
    rintro e w2 ⟨rfl, hb⟩
    exact ⟨_, rfl, hK _ _ hb rfl⟩
  · intro ac w' hF hL hP hU K hK
    have hB : Below _ _ _ := hL
    have e21 : ac.eval (.tmp 21) = .bool true := hP 4 (by kernel_rfl)
    exact rop_move _ rfl e21 (wanted_none rfl) (hK _ _ (le8_refl _) rfl)
  · intro ac w' hF hL hP hU K hK
    have hB : Below _ _ _ := hL
    have e5 : ac.eval (.tmp 5) = .pointer (some ⟨qr, 0, none⟩) := hF.at 5 (by kernel_rfl)
    have e22 : ac.eval (.tmp 22) = .bool true := hP 5 (by kernel_rfl)
    exact rop_ld _ _ rfl e5 (load_sumP HTl.out (range_var (IsH.old Jqr.out hB))) (wanted_of (j := 5) (b := true) rfl rfl e22) (hK _ _ (le8_refl _) rfl)
  · intro ac w' hF hL hP hU K hK
    have hB : Below _ _ _ := hL
    have e3 : ac.eval (.tmp 3) = .pointer (some ⟨qc, 0, none⟩) := hF.at 3 (by kernel_rfl)
    have e22 : ac.eval (.tmp 22) = .bool true := hP 5 (by kernel_rfl)
    exact rop_ld _ _ rfl e3 (load_sumP HCl.out (range_var (IsH.old Jqc.out hB))) (wanted_of (j := 5) (b := true) rfl rfl e22) (hK _ _ (le8_refl _) rfl)
  · intro ac w' hF hL hP hU K hK
    have hB : Below _ _ _ := hL
    have e4 : ac.eval (.tmp 4) = .pointer (some ⟨qn, 0, none⟩) := hF.at 4 (by kernel_rfl)
    have e22 : ac.eval (.tmp 22) = .bool true := hP 5 (by kernel_rfl)
    exact rop_ld _ _ rfl e4 (load_sumP HNl.out (range_var (IsH.old Jqn.out hB))) (wanted_of (j := 5) (b := true) rfl rfl e22) (hK _ _ (le8_refl _) rfl)
  · intro ac w' hF hL hP hU K hK
    have hB : Below _ _ _ := hL
    have e4 : ac.eval (.tmp 4) = .pointer (some ⟨qn, 0, none⟩) := hF.at 4 (by kernel_rfl)
    have e22 : ac.eval (.tmp 22) = .bool true := hP 5 (by kernel_rfl)
    exact rop_ld _ _ rfl e4 (load_sumP HNl.out (range_var (IsH.old Jqn.out hB))) (wanted_of (j := 5) (b := true) rfl rfl e22) (hK _ _ (le8_refl _) rfl)
  · intro ac w' hF hL hP hU K hK
    have hB : Below _ _ _ := hL
    have e25 : ac.eval (.tmp 25) = sumV N := hP 8 (by kernel_rfl)
    have e26 : ac.eval (.tmp 26) = sumV N := hP 9 (by kernel_rfl)
    have e22 : ac.eval (.tmp 22) = .bool true := hP 5 (by kernel_rfl)
    exact rop_bslG _ _ _ rfl #[(0, sumV N), (1, sumV N)] (by simp [e25, e26]) (build_sums 2 [N, N] HNN.out rfl (by decide) (by decide) w') (wanted_of (j := 5) (b := true) rfl rfl e22) (hK _ _ ((Below.refl _ _).alloc (Nat.le_refl _) _) (Sums.build w' [N, N] HNN.out 2 rfl (by decide)))
  · intro ac w' hF hL hP hU K hK
    have hB : Below _ _ _ := hL
    have e23 : ac.eval (.tmp 23) = sumV T := hP 6 (by kernel_rfl)
    have e24 : ac.eval (.tmp 24) = sumV C := hP 7 (by kernel_rfl)
    have e27 : Sums w' (ac.eval (.tmp 27)) [N, N] := hP 10 (by kernel_rfl)
    have e22 : ac.eval (.tmp 22) = .bool true := hP 5 (by kernel_rfl)
    refine rop_call 16 _ _ rfl #[sumV T, sumV C, .int .i64 2, .int .i64 3, ac.eval (.tmp 27)] (by simp [e23, e24, eval_const]) (by kernel_rfl) (wanted_of (j := 5) (b := true) rfl rfl e22) ?_
    refine (HR2.out _ w' hB e27).mono ?_
    rintro e w2 ⟨rfl, hb⟩
    exact ⟨_, rfl, hK _ _ hb rfl⟩
  · intro ac w' hF hL hP hU K hK
    have hB : Below _ _ _ := hL
    have e28 : ac.eval (.tmp 28) = .bool false := hP 11 (by kernel_rfl)
    have e22 : ac.eval (.tmp 22) = .bool true := hP 5 (by kernel_rfl)
    exact rop_not _ _ rfl false e28 (wanted_of (j := 5) (b := true) rfl rfl e22) (hK _ _ (le8_refl _) rfl)
  · intro ac w' hF hL hP hU K hK
    have hB : Below _ _ _ := hL
    have e22 : ac.eval (.tmp 22) = .bool true := hP 5 (by kernel_rfl)
    have e29 : ac.eval (.tmp 29) = .bool true := hP 12 (by kernel_rfl)
    exact rop_pick _ _ _ rfl true e22 (by simpa using e29) (wanted_none rfl) (hK _ _ (le8_refl _) rfl)
  · intro ac w' hF hL hP hU K hK
    have hB : Below _ _ _ := hL
    have e30 : ac.eval (.tmp 30) = .bool true := hP 13 (by kernel_rfl)
    exact rop_move _ rfl e30 (wanted_none rfl) (hK _ _ (le8_refl _) rfl)
  · intro ac w' hF hL hP hU K hK
    have hB : Below _ _ _ := hL
    have e4 : ac.eval (.tmp 4) = .pointer (some ⟨qn, 0, none⟩) := hF.at 4 (by kernel_rfl)
    have e31 : ac.eval (.tmp 31) = .bool true := hP 14 (by kernel_rfl)
    exact rop_ld _ _ rfl e4 (load_sumP HNl.out (range_var (IsH.old Jqn.out hB))) (wanted_of (j := 14) (b := true) rfl rfl e31) (hK _ _ (le8_refl _) rfl)
  · intro ac w' hF hL hP hU K hK
    have hB : Below _ _ _ := hL
    have e5 : ac.eval (.tmp 5) = .pointer (some ⟨qr, 0, none⟩) := hF.at 5 (by kernel_rfl)
    have e31 : ac.eval (.tmp 31) = .bool true := hP 14 (by kernel_rfl)
    exact rop_ld _ _ rfl e5 (load_sumP HTl.out (range_var (IsH.old Jqr.out hB))) (wanted_of (j := 14) (b := true) rfl rfl e31) (hK _ _ (le8_refl _) rfl)
  · intro ac w' hF hL hP hU K hK
    have hB : Below _ _ _ := hL
    have e3 : ac.eval (.tmp 3) = .pointer (some ⟨qc, 0, none⟩) := hF.at 3 (by kernel_rfl)
    have e31 : ac.eval (.tmp 31) = .bool true := hP 14 (by kernel_rfl)
    exact rop_ld _ _ rfl e3 (load_sumP HCl.out (range_var (IsH.old Jqc.out hB))) (wanted_of (j := 14) (b := true) rfl rfl e31) (hK _ _ (le8_refl _) rfl)
  · intro ac w' hF hL hP hU K hK
    have hB : Below _ _ _ := hL
    have e34 : ac.eval (.tmp 34) = sumV C := hP 17 (by kernel_rfl)
    have e31 : ac.eval (.tmp 31) = .bool true := hP 14 (by kernel_rfl)
    exact rop_bslG _ _ _ rfl #[(0, sumV C)] (by simp [e34]) (build_sums 1 [C] HC1.out rfl (by decide) (by decide) w') (wanted_of (j := 14) (b := true) rfl rfl e31) (hK _ _ ((Below.refl _ _).alloc (Nat.le_refl _) _) (Sums.build w' [C] HC1.out 1 rfl (by decide)))
  · intro ac w' hF hL hP hU K hK
    have hB : Below _ _ _ := hL
    have e32 : ac.eval (.tmp 32) = sumV N := hP 15 (by kernel_rfl)
    have e33 : ac.eval (.tmp 33) = sumV T := hP 16 (by kernel_rfl)
    have e35 : Sums w' (ac.eval (.tmp 35)) [C] := hP 18 (by kernel_rfl)
    have e31 : ac.eval (.tmp 31) = .bool true := hP 14 (by kernel_rfl)
    refine rop_call 17 _ _ rfl #[sumV N, .int .i64 2, sumV T, .int .i64 3, ac.eval (.tmp 35)] (by simp [e32, e33, eval_const]) (by kernel_rfl) (wanted_of (j := 14) (b := true) rfl rfl e31) ?_
    refine (HG1.out _ w' hB e35).mono ?_
    rintro e w2 ⟨rfl, hb⟩
    exact ⟨_, rfl, hK _ _ hb rfl⟩
  · intro ac w' hF hL hP hU K hK
    have hB : Below _ _ _ := hL
    have e31 : ac.eval (.tmp 31) = .bool true := hP 14 (by kernel_rfl)
    have e36 : ac.eval (.tmp 36) = .bool true := hP 19 (by kernel_rfl)
    exact rop_pick _ _ _ rfl true e31 (by simpa using e36) (wanted_none rfl) (hK _ _ (le8_refl _) rfl)
  · intro ac w' hF hL hP hU K hK
    have hB : Below _ _ _ := hL
    have e37 : ac.eval (.tmp 37) = .bool true := hP 20 (by kernel_rfl)
    exact rop_move _ rfl e37 (wanted_none rfl) (hK _ _ (le8_refl _) rfl)
  · intro ac w' hF hL hP hU K hK
    have hB : Below _ _ _ := hL
    have e5 : ac.eval (.tmp 5) = .pointer (some ⟨qr, 0, none⟩) := hF.at 5 (by kernel_rfl)
    have e38 : ac.eval (.tmp 38) = .bool true := hP 21 (by kernel_rfl)
    exact rop_ld _ _ rfl e5 (load_sumP HTl.out (range_var (IsH.old Jqr.out hB))) (wanted_of (j := 21) (b := true) rfl rfl e38) (hK _ _ (le8_refl _) rfl)
  · intro ac w' hF hL hP hU K hK
    have hB : Below _ _ _ := hL
    have e5 : ac.eval (.tmp 5) = .pointer (some ⟨qr, 0, none⟩) := hF.at 5 (by kernel_rfl)
    have e38 : ac.eval (.tmp 38) = .bool true := hP 21 (by kernel_rfl)
    exact rop_ld _ _ rfl e5 (load_sumP HTl.out (range_var (IsH.old Jqr.out hB))) (wanted_of (j := 21) (b := true) rfl rfl e38) (hK _ _ (le8_refl _) rfl)
  · intro ac w' hF hL hP hU K hK
    have hB : Below _ _ _ := hL
    have e39 : ac.eval (.tmp 39) = sumV T := hP 22 (by kernel_rfl)
    have e40 : ac.eval (.tmp 40) = sumV T := hP 23 (by kernel_rfl)
    have e38 : ac.eval (.tmp 38) = .bool true := hP 21 (by kernel_rfl)
    refine rop_call 17 _ _ rfl #[sumV T, .int .i64 3, sumV T, .int .i64 3, .slice none 0 0] (by simp [e39, e40, eval_const]) (by kernel_rfl) (wanted_of (j := 21) (b := true) rfl rfl e38) ?_
    refine (HG2.out _ w' hB (Sums.nil w')).mono ?_
    rintro e w2 ⟨rfl, hb⟩
    exact ⟨_, rfl, hK _ _ hb rfl⟩
  · intro ac w' hF hL hP hU K hK
    have hB : Below _ _ _ := hL
    have e38 : ac.eval (.tmp 38) = .bool true := hP 21 (by kernel_rfl)
    have e41 : ac.eval (.tmp 41) = .bool true := hP 24 (by kernel_rfl)
    exact rop_pick _ _ _ rfl true e38 (by simpa using e41) (wanted_none rfl) (hK _ _ (le8_refl _) rfl)
  · intro ac w' hF hL hP hU K hK
    have hB : Below _ _ _ := hL
    have e42 : ac.eval (.tmp 42) = .bool true := hP 25 (by kernel_rfl)
    exact rop_assign _ rfl e42 (wanted_none rfl) (hK _ _ (le8_refl _) rfl)
  · intro ac w' hF hB hT
    have e42 : ac.eval (.tmp 42) = .bool true := hT 25 (by decide)
    have e0 : ac.eval (.tmp 0) = .bool true := hT 26 (by decide)
    rw [hF.setsG [17, 18, 19, 20, 21, 22, 23, 24, 25, 26, 27, 28, 29, 30, 31, 32, 33, 34, 35, 36, 37, 38, 39, 40, 41, 42, 0] (by kernel_rfl)]
    simp only [List.foldl_cons, List.foldl_nil, List.setIfInBounds_toArray, List.set_cons_succ, List.set_cons_zero, e42, e0]
    generalize ac.eval (.tmp 17) = u17
    generalize ac.eval (.tmp 18) = u18
    generalize ac.eval (.tmp 19) = u19
    generalize ac.eval (.tmp 20) = u20
    generalize ac.eval (.tmp 21) = u21
    generalize ac.eval (.tmp 22) = u22
    generalize ac.eval (.tmp 23) = u23
    generalize ac.eval (.tmp 24) = u24
    generalize ac.eval (.tmp 25) = u25
    generalize ac.eval (.tmp 26) = u26
    generalize ac.eval (.tmp 27) = u27
    generalize ac.eval (.tmp 28) = u28
    generalize ac.eval (.tmp 29) = u29
    generalize ac.eval (.tmp 30) = u30
    generalize ac.eval (.tmp 31) = u31
    generalize ac.eval (.tmp 32) = u32
    generalize ac.eval (.tmp 33) = u33
    generalize ac.eval (.tmp 34) = u34
    generalize ac.eval (.tmp 35) = u35
    generalize ac.eval (.tmp 36) = u36
    generalize ac.eval (.tmp 37) = u37
    generalize ac.eval (.tmp 38) = u38
    generalize ac.eval (.tmp 39) = u39
    generalize ac.eval (.tmp 40) = u40
    generalize ac.eval (.tmp 41) = u41
    clear e42 e0 hT hF ac
    have HF := Lib.hid (below_step HBW.out (Nat.le_refl _) hB)
    clear hB
    go_wp2
    go_ret
    exact ⟨rfl, HF.out⟩
set_option maxHeartbeats 1000000 in
set_option maxRecDepth 100000 in
theorem few12_any (v : Value) (l : Hs) (n : Nat) (_hn : n ≤ 1000) (w : World) (hv : Sums w v l) :
    Calls Tryd.prog 11 #[v, .int .i64 (n : Int)] w fun e w' => ∃ v', e = .returned v' ∧ SumsB w.heap.size w v' (l.take n) ∧ w = w' := by
  have hvB := hv.below
  obtain ⟨va, cap, rfl, hlc, hcap⟩ := hv.slice
  by_cases h : n < l.length
  · have h' : (n : Int) < (l.length : Int) := by omega
    have hh : Sums w (.slice va n cap) (l.take n) := hv.head n (by omega)
    have hb : SumsB w.heap.size w (.slice va n cap) (l.take n) := hh.below
    have HB := Lib.hid hb
    have hcut := fun u => scut_h va l.length cap n (by omega) u
    clear hv hvB hh hb
    go_enter Tryd.func11, Tryd.ntmps11
    go_wp2_with (with_reducible refine wpList_slice_runS rfl 25 (.tmp 9) none (some (.tmp 10)) none rfl rfl rfl rfl rfl (hcut _) ?_)
    go_ret
    first | exact ⟨_, rfl, HB.out, rfl⟩ | exact HB.out | exact ⟨HB.out, rfl⟩ | exact ⟨_, rfl, HB.out⟩
  · have h' : ¬ (n : Int) < (l.length : Int) := by omega
    have hh : l.take n = l := List.take_of_length_le (by omega)
    have HH := Lib.hid hh
    have HB := Lib.hid hvB
    clear hv hvB hh
    go_enter Tryd.func11, Tryd.ntmps11
    go_wp2
    go_ret
    rw [HH.out]
    first | exact ⟨_, rfl, HB.out, rfl⟩ | exact HB.out | exact ⟨HB.out, rfl⟩ | exact ⟨_, rfl, HB.out⟩
end Go.Proofs.YtjdhcncjcencbaaDoor
