/-
  The statements' own helpers awake and few (scriniumlaw11); what laws of fronts want besides.
-/
import Derived.Test.YtgiakpnkidblpaaDoorFrontAll
import Derived.Test.YtgiakpnkidblpaaDoorLeafLaw
namespace Go.Proofs.YtgiakpnkidblpaaDoor
open Go.RowKit

/-- A new variable that is a hash, as it is stored to. -/
theorem var_sumF (w : World) (x : List UInt8) (h : x.length = 32) : ((w.alloc zSum).setCells w.heap.size 0 (x.map u8V)).heap[w.heap.size]? = some (.cells (x.map u8V).toArray 31 (0, 0)) ∧ Below w.heap.size w ((w.alloc zSum).setCells w.heap.size 0 (x.map u8V)) :=
  ⟨heap_setCells_all w _ _ (by simp [h]), below_setCells (Nat.le_refl _) _ _ _ ((Below.refl _ _).alloc (Nat.le_refl _) _)⟩
theorem neq_str_f (a : ByteArray) (w : World) : (binOp .neq 9 (.string a) (.string a)).run Tryd.prog w = .ok (.bool false) w := by
  have h' : (a.toList == a.toList) = true := by simp
  go_simp
theorem KT.posF {w : World} (h : KT w) : 0 < w.heap.size := h.pos
theorem below_onlyF {B b : Nat} {w u v : World} (h : Below B w u) (k : Only b u v) (hb : B ≤ b) (hB : B ≤ w.heap.size) : Below B w v := h.trans (k.below hb (Nat.le_trans hB h.size))
theorem addP3 (A B C : List UInt8) : Tree.addP 0 [] A = [A] ∧ Tree.addP 1 [A] B = [Tree.node A B] ∧ Tree.addP 2 [Tree.node A B] C = [Tree.node A B, C] := by
  refine ⟨by rw [Tree.addP_even (by decide)]; rfl, ?_, by rw [Tree.addP_even (by decide)]; rfl⟩
  rw [Tree.addP_odd (by decide), Tree.addP_even (by decide)]
  rfl
set_option maxHeartbeats 4000000 in
set_option maxRecDepth 100000 in
theorem awake11_any (w : World) (hK : KT w) : Calls Tryd.prog 9 #[] w fun e w' => e = .returned (.bool true) ∧ Below w.heap.size w w' := by
  obtain ⟨A, hA⟩ : ∃ A, A = Tree.leafH [97] := ⟨_, rfl⟩
  obtain ⟨B, hBB⟩ : ∃ B, B = Tree.leafH [98] := ⟨_, rfl⟩
  obtain ⟨C, hC⟩ : ∃ C, C = Tree.leafH [99] := ⟨_, rfl⟩
  obtain ⟨N, hN⟩ : ∃ N, N = Tree.node A B := ⟨_, rfl⟩
  have HAl : Hid (A.length = 32) := Lib.hid (by rw [hA]; exact Tree.leafH_length _)
  have HBl : Hid (B.length = 32) := Lib.hid (by rw [hBB]; exact Tree.leafH_length _)
  have HCl : Hid (C.length = 32) := Lib.hid (by rw [hC]; exact Tree.leafH_length _)
  have HNl : Hid (N.length = 32) := Lib.hid (by rw [hN]; exact Tree.node_length _ _)
  have HA : Hid (∀ u, Calls Tryd.prog 25 #[.string ⟨#[97]⟩] u fun e w' => e = .returned (sumV A) ∧ Below u.heap.size u w') := Lib.hid fun u => by rw [hA]; exact rleafLeaf_any ⟨#[97]⟩ [97] rfl u (by decide)
  have HB : Hid (∀ u, Calls Tryd.prog 25 #[.string ⟨#[98]⟩] u fun e w' => e = .returned (sumV B) ∧ Below u.heap.size u w') := Lib.hid fun u => by rw [hBB]; exact rleafLeaf_any ⟨#[98]⟩ [98] rfl u (by decide)
  have HC : Hid (∀ u, Calls Tryd.prog 25 #[.string ⟨#[99]⟩] u fun e w' => e = .returned (sumV C) ∧ Below u.heap.size u w') := Lib.hid fun u => by rw [hC]; exact rleafLeaf_any ⟨#[99]⟩ [99] rfl u (by decide)
  have HND : Hid (∀ u, Calls Tryd.prog 26 #[sumV A, sumV B] u fun e w' => e = .returned (sumV N) ∧ Below u.heap.size u w') := Lib.hid fun u => by rw [hN]; exact rleafNode_any A B HAl.out HBl.out u
  obtain ⟨p1, p2, p3⟩ := addP3 A B C
  rw [← hN] at p2 p3
  have HD1 : Hid (∀ b u, FP b 0 [] u → KT u → Calls Tryd.prog 20 #[.pointer (some ⟨b, 0, none⟩), .agg (A.map u8V).toArray] u fun e w' => e = .returned (.int .i64 1) ∧ FP b 1 [A] w' ∧ Only b u w') := Lib.hid fun b u h hk => (add_fp b 0 [] A u h (by decide) HAl.out hk).mono fun e w' ⟨h1, h2, h3⟩ => ⟨h1, by rw [← p1]; exact h2, h3⟩
  have HD2 : Hid (∀ b u, FP b 1 [A] u → KT u → Calls Tryd.prog 20 #[.pointer (some ⟨b, 0, none⟩), .agg (B.map u8V).toArray] u fun e w' => e = .returned (.int .i64 2) ∧ FP b 2 [N] w' ∧ Only b u w') := Lib.hid fun b u h hk => (add_fp b 1 [A] B u h (by decide) HBl.out hk).mono fun e w' ⟨h1, h2, h3⟩ => ⟨h1, by rw [← p2]; exact h2, h3⟩
  have HD3 : Hid (∀ b u, FP b 2 [N] u → KT u → Calls Tryd.prog 20 #[.pointer (some ⟨b, 0, none⟩), .agg (C.map u8V).toArray] u fun e w' => e = .returned (.int .i64 3) ∧ FP b 3 [N, C] w' ∧ Only b u w') := Lib.hid fun b u h hk => (add_fp b 2 [N] C u h (by decide) HCl.out hk).mono fun e w' ⟨h1, h2, h3⟩ => ⟨h1, by rw [← p3]; exact h2, h3⟩
  have HPK : Hid (∀ b u, FP b 3 [N, C] u → Calls Tryd.prog 14 #[.pointer (some ⟨b, 0, none⟩)] u fun e w' => ∃ b6 o6 c6, e = .returned (.slice (some ⟨b6, o6, none⟩) 2 c6) ∧ b6 < w'.heap.size ∧ w'.rangeAt b6 (o6 + 0 * 32) (N.map u8V) ∧ w'.rangeAt b6 (o6 + 1 * 32) (C.map u8V) ∧ Below u.heap.size u w') := Lib.hid fun b u h => (peaks_fp b 3 [N, C] u h).mono (by
    rintro e w' ⟨v', rfl, ho, hb⟩
    obtain ⟨a, c, rfl, -, -⟩ := ho.sums.slice
    obtain ⟨b, o, rfl, h1, -, h2⟩ := ho.sums.at 0 (by simp)
    obtain ⟨b', o', he, -, -, h3⟩ := ho.sums.at 1 (by simp)
    injection he with he
    injection he with e1 e2 _
    subst e1 e2
    exact ⟨b, o, c, rfl, h1, h2, h3, hb⟩)
  have HNW : Hid (Calls Tryd.prog 11 #[] w fun e w' => e = .returned (.pointer (some ⟨w.heap.size, 0, none⟩)) ∧ FP w.heap.size 0 [] w' ∧ Below w.heap.size w w') := Lib.hid (new_fp w hK.posF)
  clear hA hBB hC hN p1 p2 p3
  obtain ⟨fb, hfb⟩ : ∃ fb, fb = w.heap.size := ⟨_, rfl⟩
  rw [← hfb] at HNW ⊢
  have HKW := Lib.hid hK
  have Hfb := Lib.hid hfb
  clear hK hfb
  go_enter Tryd.func9, Tryd.ntmps9
  go_upto_region 2 with (go_at_call 11; ((with_reducible refine HNW.out.mono ?_); rintro e x1 ⟨rfl, f1, d1⟩))
  have HBY : Hid (∀ u, Below x1.heap.size x1 u → Calls Tryd.prog 18 #[.pointer (some ⟨fb, 0, none⟩)] u fun e w' => e = .returned (.string ⟨#[0, 0]⟩) ∧ Below u.heap.size u w') := Lib.hid fun u hu => by
    have := bytes_fp fb 0 [] u (f1.old hu)
    rwa [frontB_0] at this
  try simp only [Act.put]
  refine wp_region_tab0 [RT.is (.pointer (some ⟨fb, 0, none⟩)), RT.is (.bool false), RT.is (.bool false), RT.is (.pointer (some ⟨fb, 0, none⟩)), RT.is (.string ⟨#[0, 0]⟩), RT.is (.bool false), RT.is (.bool false)] (by kernel_rfl) (by kernel_rfl) (by kernel_rfl) ⟨?_, ?_, ?_, ?_, ?_, ?_, ?_, trivial⟩ ?_
  · intro ac w' hF hL hP hU K hK
    have hB : Below _ _ _ := hL
    have e1 : ac.eval (.tmp 1) = .pointer (some ⟨fb, 0, none⟩) := hF.at 1 (by kernel_rfl)
    exact rop_move _ rfl e1 (wanted_none rfl) (hK _ _ (le8_refl _) rfl)
  · intro ac w' hF hL hP hU K hK
    have hB : Below _ _ _ := hL
    have e8 : ac.eval (.tmp 8) = .pointer (some ⟨fb, 0, none⟩) := hP 0 (by kernel_rfl)
    exact rop_bin _ _ _ _ _ rfl e8 rfl (guard_ptr _ _ _ _ _ _ w') (eql_ptr_none fb w') (wanted_none rfl) (hK _ _ (le8_refl _) rfl)
  · intro ac w' hF hL hP hU K hK
    have hB : Below _ _ _ := hL
    have e9 : ac.eval (.tmp 9) = .bool false := hP 1 (by kernel_rfl)
    exact rop_move _ rfl e9 (wanted_none rfl) (hK _ _ (le8_refl _) rfl)
  · intro ac w' hF hL hP hU K hK
    have hB : Below _ _ _ := hL
    have e1 : ac.eval (.tmp 1) = .pointer (some ⟨fb, 0, none⟩) := hF.at 1 (by kernel_rfl)
    have e10 : ac.eval (.tmp 10) = .bool false := hP 2 (by kernel_rfl)
    exact rop_move _ rfl e1 (wanted_of (j := 2) (b := false) rfl rfl e10) (hK _ _ (le8_refl _) rfl)
  · intro ac w' hF hL hP hU K hK
    have hB : Below _ _ _ := hL
    have e11 : ac.eval (.tmp 11) = .pointer (some ⟨fb, 0, none⟩) := hP 3 (by kernel_rfl)
    have e10 : ac.eval (.tmp 10) = .bool false := hP 2 (by kernel_rfl)
    refine rop_call 18 _ _ rfl #[.pointer (some ⟨fb, 0, none⟩)] (by simp [e11]) (by kernel_rfl) (wanted_of (j := 2) (b := false) rfl rfl e10) ?_
    refine (HBY.out w' hB).mono ?_
    rintro e w2 ⟨rfl, hb⟩
    exact ⟨_, rfl, hK _ _ hb rfl⟩
  · intro ac w' hF hL hP hU K hK
    have hB : Below _ _ _ := hL
    have e12 : ac.eval (.tmp 12) = .string ⟨#[0, 0]⟩ := hP 4 (by kernel_rfl)
    have e10 : ac.eval (.tmp 10) = .bool false := hP 2 (by kernel_rfl)
    exact rop_bin _ _ _ _ _ rfl e12 rfl (guard_str _ _ _ _ _ _ w') (neq_str_f _ w') (wanted_of (j := 2) (b := false) rfl rfl e10) (hK _ _ (le8_refl _) rfl)
  · intro ac w' hF hL hP hU K hK
    have hB : Below _ _ _ := hL
    have e10 : ac.eval (.tmp 10) = .bool false := hP 2 (by kernel_rfl)
    have e13 : ac.eval (.tmp 13) = .bool false := hP 5 (by kernel_rfl)
    exact rop_pick _ _ _ rfl false e10 (by simpa using e13) (wanted_none rfl) (hK _ _ (le8_refl _) rfl)
  · intro ac w' hF hB hT
    have e14 : ac.eval (.tmp 14) = .bool false := hT 6 (by decide)
    rw [hF.setsG [8, 9, 10, 11, 12, 13, 14] (by kernel_rfl)]
    simp only [List.foldl_cons, List.foldl_nil, List.setIfInBounds_toArray, List.set_cons_succ, List.set_cons_zero, e14]
    generalize ac.eval (.tmp 8) = u8
    generalize ac.eval (.tmp 9) = u9
    generalize ac.eval (.tmp 10) = u10
    generalize ac.eval (.tmp 11) = u11
    generalize ac.eval (.tmp 12) = u12
    generalize ac.eval (.tmp 13) = u13
    clear e14 hT hF ac
    obtain ⟨w0, hw0⟩ : ∃ x, x = w' := ⟨_, rfl⟩
    subst hw0
    have F0 := Lib.hid (f1.old hB)
    have b0 : Below fb w w0 := d1.trans (hB.mono (Nat.le_of_lt f1.lt))
    clear hB f1 d1
    go_upto_region 5 with (first
      | (go_at_call 25; ((with_reducible refine (HA.out _).mono ?_); rintro e v0 ⟨rfl, c0⟩; obtain ⟨z0, y0⟩ := var_sumF v0 A HAl.out; have t0 := heap_alloc_last v0 zSum))
      | refine wpList_store_mid rfl 31 (.tmp 2) (.tmp 15) rfl v0.heap.size 0 (A.map u8V).toArray rfl rfl (sum_there t0 HAl.out) (sum_info HAl.out) (sum_one A) ?_)
    change Code.wp _ _ _ _ ((v0.alloc zSum).setCells v0.heap.size 0 (A.map u8V))
    obtain ⟨qa, hqa⟩ : ∃ q, q = v0.heap.size := ⟨_, rfl⟩
    obtain ⟨w1, hw1⟩ : ∃ u, u = (v0.alloc zSum).setCells v0.heap.size 0 (A.map u8V) := ⟨_, rfl⟩
    rw [← hw1] at z0 y0 ⊢
    have k0 : Below w0.heap.size w0 w1 := below_step c0 (Nat.le_refl _) y0
    rw [← hqa] at z0 ⊢
    have b1 : Below fb w w1 := b0.trans (k0.mono (by have := b0.size; have := F0.out.lt; omega))
    have F1 := Lib.hid (F0.out.old k0)
    have lqa : w0.heap.size ≤ qa := by rw [hqa]; exact c0.size
    have mqa : qa < w1.heap.size := (Array.getElem?_eq_some_iff.1 z0).1
    clear hw1 hqa t0 y0
    go_upto_region 6 with (first
      | (go_at_call 25; ((with_reducible refine (HB.out _).mono ?_); rintro e v1 ⟨rfl, c1⟩; obtain ⟨z1, y1⟩ := var_sumF v1 B HBl.out; have t1 := heap_alloc_last v1 zSum))
      | refine wpList_store_mid rfl 31 (.tmp 3) (.tmp 16) rfl v1.heap.size 0 (B.map u8V).toArray rfl rfl (sum_there t1 HBl.out) (sum_info HBl.out) (sum_one B) ?_)
    change Code.wp _ _ _ _ ((v1.alloc zSum).setCells v1.heap.size 0 (B.map u8V))
    obtain ⟨qb, hqb⟩ : ∃ q, q = v1.heap.size := ⟨_, rfl⟩
    obtain ⟨w2, hw2⟩ : ∃ u, u = (v1.alloc zSum).setCells v1.heap.size 0 (B.map u8V) := ⟨_, rfl⟩
    rw [← hw2] at z1 y1 ⊢
    have k1 : Below w1.heap.size w1 w2 := below_step c1 (Nat.le_refl _) y1
    rw [← hqb] at z1 ⊢
    have b2 : Below fb w w2 := b1.trans (k1.mono (by have := b1.size; have := F1.out.lt; omega))
    have F2 := Lib.hid (F1.out.old k1)
    have lqb : w1.heap.size ≤ qb := by rw [hqb]; exact c1.size
    have mqb : qb < w2.heap.size := (Array.getElem?_eq_some_iff.1 z1).1
    clear hw2 hqb t1 y1
    go_upto_region 7 with (first
      | (go_at_call 25; ((with_reducible refine (HC.out _).mono ?_); rintro e v2 ⟨rfl, c2⟩; obtain ⟨z2, y2⟩ := var_sumF v2 C HCl.out; have t2 := heap_alloc_last v2 zSum))
      | refine wpList_store_mid rfl 31 (.tmp 4) (.tmp 17) rfl v2.heap.size 0 (C.map u8V).toArray rfl rfl (sum_there t2 HCl.out) (sum_info HCl.out) (sum_one C) ?_)
    change Code.wp _ _ _ _ ((v2.alloc zSum).setCells v2.heap.size 0 (C.map u8V))
    obtain ⟨qc, hqc⟩ : ∃ q, q = v2.heap.size := ⟨_, rfl⟩
    obtain ⟨w3, hw3⟩ : ∃ u, u = (v2.alloc zSum).setCells v2.heap.size 0 (C.map u8V) := ⟨_, rfl⟩
    rw [← hw3] at z2 y2 ⊢
    have k2 : Below w2.heap.size w2 w3 := below_step c2 (Nat.le_refl _) y2
    rw [← hqc] at z2 ⊢
    have b3 : Below fb w w3 := b2.trans (k2.mono (by have := b2.size; have := F2.out.lt; omega))
    have F3 := Lib.hid (F2.out.old k2)
    have lqc : w2.heap.size ≤ qc := by rw [hqc]; exact c2.size
    have mqc : qc < w3.heap.size := (Array.getElem?_eq_some_iff.1 z2).1
    clear hw3 hqc t2 y2
    have z01 := (k1.block qa mqa).trans z0
    have z02 := (k2.block qa (by omega)).trans z01
    have z12 := (k2.block qb mqb).trans z1
    have hfl := F0.out.lt
    have nqa : qa ≠ fb := by omega
    have nqb : qb ≠ fb := by omega
    have nqc : qc ≠ fb := by omega
    have K3 := Lib.hid (HKW.out.old (by rw [← Hfb.out]; exact b3))
    have HQa : Hid (qa < w3.heap.size) := Lib.hid (Array.getElem?_eq_some_iff.1 z02).1
    have HQb : Hid (qb < w3.heap.size) := Lib.hid (Array.getElem?_eq_some_iff.1 z12).1
    have HQc : Hid (qc < w3.heap.size) := Lib.hid mqc
    have Za := Lib.hid z02
    have Zb := Lib.hid z12
    have Zc := Lib.hid z2
    have B3 := Lib.hid b3
    have Hna := Lib.hid nqa
    have Hnb := Lib.hid nqb
    have Hnc := Lib.hid nqc
    have Hf0 : Hid (fb ≠ 0) := Lib.hid F0.out.2.1
    clear z0 z1 z2 z01 z02 z12 k0 k1 k2 c0 c1 c2 b0 b1 b2 b3 lqa lqb lqc mqa mqb mqc nqa nqb nqc hfl F0 F1 F2
    go_upto_region 11 with (first
      | refine wpList_load_mid rfl 31 (.tmp 2) rfl qa 0 rfl (A.map u8V) _ (range_of Za.out) Tryd.underlying31 rfl (sum_info' HAl.out) ?_
      | refine wpList_load_mid rfl 31 (.tmp 3) rfl qb 0 rfl (B.map u8V) _ (range_of Zb1.out) Tryd.underlying31 rfl (sum_info' HBl.out) ?_
      | refine wpList_load_mid rfl 31 (.tmp 4) rfl qc 0 rfl (C.map u8V) _ (range_of Zc2.out) Tryd.underlying31 rfl (sum_info' HCl.out) ?_
      | (go_at_call 20; ((with_reducible refine (HD1.out _ _ F3.out K3.out).mono ?_); rintro e y1 ⟨rfl, g1, p1⟩; have G1 := Lib.hid g1; have K1 := Lib.hid (K3.out.only p1 Hf0.out); have P1 := Lib.hid p1; have Zb1 := Lib.hid ((p1.block qb HQb.out Hnb.out).trans Zb.out); clear g1 p1))
      | (go_at_call 20; ((with_reducible refine (HD2.out _ _ G1.out K1.out).mono ?_); rintro e y2 ⟨rfl, g2, p2⟩; have G2 := Lib.hid g2; have K2 := Lib.hid (K1.out.only p2 Hf0.out); have P2 := Lib.hid (P1.out.trans p2); have Zc2 := Lib.hid (((P1.out.trans p2).block qc HQc.out Hnc.out).trans Zc.out); clear g2 p2))
      | (go_at_call 20; ((with_reducible refine (HD3.out _ _ G2.out K2.out).mono ?_); rintro e y3 ⟨rfl, g3, p3⟩; have G3 := Lib.hid g3; have P3 := Lib.hid (P2.out.trans p3); clear g3 p3))
      | (go_at_call 14; ((with_reducible refine (HPK.out _ _ G3.out).mono ?_); rintro e y4 ⟨b6, o6, c6, rfl, hb6, hr6, hs6, d6⟩)))
    have hqa : qa < y4.heap.size := Nat.lt_of_lt_of_le HQa.out (Nat.le_trans P3.out.size d6.size)
    have hqb : qb < y4.heap.size := Nat.lt_of_lt_of_le HQb.out (Nat.le_trans P3.out.size d6.size)
    have hqc : qc < y4.heap.size := Nat.lt_of_lt_of_le HQc.out (Nat.le_trans P3.out.size d6.size)
    have hra := range_of ((d6.block qa (Nat.lt_of_lt_of_le HQa.out P3.out.size)).trans ((P3.out.block qa HQa.out Hna.out).trans Za.out))
    have hrb := range_of ((d6.block qb (Nat.lt_of_lt_of_le HQb.out P3.out.size)).trans ((P3.out.block qb HQb.out Hnb.out).trans Zb.out))
    have hrc := range_of ((d6.block qc (Nat.lt_of_lt_of_le HQc.out P3.out.size)).trans ((P3.out.block qc HQc.out Hnc.out).trans Zc.out))
    have b4 : Below fb w y4 := (below_onlyF B3.out P3.out (Nat.le_refl _) (by rw [Hfb.out]; exact Nat.le_refl _)).trans (d6.mono (by have := G3.out.lt; omega))
    have HSZ : Hid (∀ u, Below y4.heap.size y4 u → Calls Tryd.prog 15 #[.pointer (some ⟨fb, 0, none⟩)] u fun e w' => e = .returned (.int .i64 3) ∧ Below u.heap.size u w') := Lib.hid fun u hu => (size_fp fb 3 [N, C] u ((G3.out.old d6).old hu)).mono fun e w' ⟨h1, h2⟩ => ⟨h1, h2 ▸ Below.refl _ _⟩
    have B4 := Lib.hid b4
    have HFL := Lib.hid (G3.out.old d6).lt
    clear b4 d6
    try simp only [Act.put]
    refine wp_region_tab [RT.is (.int .i64 3), RT.is (.bool true), RT.is (.bool true), RT.is (.pointer (some ⟨fb, 0, none⟩)), RT.is (.int .i64 3), RT.is (.bool true), RT.is (.bool true), RT.is (.bool true), RT.is (.slice (some ⟨b6, o6, none⟩) 2 c6), RT.is (.int .i64 ((2 : Nat) : Int)), RT.is (.bool true), RT.is (.bool true), RT.is (.bool true), RT.is (.slice (some ⟨b6, o6, none⟩) 2 c6), RT.is (.pointer (some ⟨b6, o6 + 0 * 32, none⟩)), RT.is (sumV N), RT.is (sumV A), RT.is (sumV B), RT.is (sumV N), RT.is (.bool true), RT.is (.bool true), RT.is (.bool true), RT.is (.slice (some ⟨b6, o6, none⟩) 2 c6), RT.is (.pointer (some ⟨b6, o6 + 1 * 32, none⟩)), RT.is (sumV C), RT.is (sumV C), RT.is (.bool true), RT.is (.bool true), RT.is (.bool true)] (by kernel_rfl) (by kernel_rfl) (by kernel_rfl) (by kernel_rfl) ⟨?_, ?_, ?_, ?_, ?_, ?_, ?_, ?_, ?_, ?_, ?_, ?_, ?_, ?_, ?_, ?_, ?_, ?_, ?_, ?_, ?_, ?_, ?_, ?_, ?_, ?_, ?_, ?_, ?_, trivial⟩ ?_
    · intro ac w' hF hL hP hU K hK
      have hB := below_undrew hL
      have e5 : ac.eval (.tmp 5) = .int .i64 3 := hF.at 5 (by kernel_rfl)
      exact rop_move _ rfl e5 (wanted_none rfl) (hK _ _ (le8_refl _) rfl)
    · intro ac w' hF hL hP hU K hK
      have hB := below_undrew hL
      have e29 : ac.eval (.tmp 29) = .int .i64 3 := hP 0 (by kernel_rfl)
      exact rop_bin _ _ _ _ _ rfl e29 rfl (guard_int _ _ _ _ _ _ _ w') (eql_iG _ _ _ (by decide) w') (wanted_none rfl) (hK _ _ (le8_refl _) rfl)
    · intro ac w' hF hL hP hU K hK
      have hB := below_undrew hL
      have e30 : ac.eval (.tmp 30) = .bool true := hP 1 (by kernel_rfl)
      exact rop_move _ rfl e30 (wanted_none rfl) (hK _ _ (le8_refl _) rfl)
    · intro ac w' hF hL hP hU K hK
      have hB := below_undrew hL
      have e1 : ac.eval (.tmp 1) = .pointer (some ⟨fb, 0, none⟩) := hF.at 1 (by kernel_rfl)
      have e31 : ac.eval (.tmp 31) = .bool true := hP 2 (by kernel_rfl)
      exact rop_move _ rfl e1 (wanted_of (j := 2) (b := true) rfl rfl e31) (hK _ _ (le8_refl _) rfl)
    · intro ac w' hF hL hP hU K hK
      have hB := below_undrew hL
      have e32 : ac.eval (.tmp 32) = .pointer (some ⟨fb, 0, none⟩) := hP 3 (by kernel_rfl)
      have e31 : ac.eval (.tmp 31) = .bool true := hP 2 (by kernel_rfl)
      refine rop_call 15 _ _ rfl #[.pointer (some ⟨fb, 0, none⟩)] (by simp [e32]) (by kernel_rfl) (wanted_of (j := 2) (b := true) rfl rfl e31) ?_
      refine (HSZ.out w' hB).mono ?_
      rintro e w2 ⟨rfl, hb⟩
      exact ⟨_, rfl, hK _ _ hb rfl⟩
    · intro ac w' hF hL hP hU K hK
      have hB := below_undrew hL
      have e33 : ac.eval (.tmp 33) = .int .i64 3 := hP 4 (by kernel_rfl)
      have e31 : ac.eval (.tmp 31) = .bool true := hP 2 (by kernel_rfl)
      exact rop_bin _ _ _ _ _ rfl e33 rfl (guard_int _ _ _ _ _ _ _ w') (eql_iG _ _ _ (by decide) w') (wanted_of (j := 2) (b := true) rfl rfl e31) (hK _ _ (le8_refl _) rfl)
    · intro ac w' hF hL hP hU K hK
      have hB := below_undrew hL
      have e31 : ac.eval (.tmp 31) = .bool true := hP 2 (by kernel_rfl)
      have e34 : ac.eval (.tmp 34) = .bool true := hP 5 (by kernel_rfl)
      exact rop_pick _ _ _ rfl true e31 (by simpa using e34) (wanted_none rfl) (hK _ _ (le8_refl _) rfl)
    · intro ac w' hF hL hP hU K hK
      have hB := below_undrew hL
      have e35 : ac.eval (.tmp 35) = .bool true := hP 6 (by kernel_rfl)
      exact rop_move _ rfl e35 (wanted_none rfl) (hK _ _ (le8_refl _) rfl)
    · intro ac w' hF hL hP hU K hK
      have hB := below_undrew hL
      have e6 : ac.eval (.tmp 6) = .slice (some ⟨b6, o6, none⟩) 2 c6 := hF.at 6 (by kernel_rfl)
      have e36 : ac.eval (.tmp 36) = .bool true := hP 7 (by kernel_rfl)
      exact rop_move _ rfl e6 (wanted_of (j := 7) (b := true) rfl rfl e36) (hK _ _ (le8_refl _) rfl)
    · intro ac w' hF hL hP hU K hK
      have hB := below_undrew hL
      have e37 : ac.eval (.tmp 37) = .slice (some ⟨b6, o6, none⟩) 2 c6 := hP 8 (by kernel_rfl)
      have e36 : ac.eval (.tmp 36) = .bool true := hP 7 (by kernel_rfl)
      exact rop_lenG _ Tryd.underlying22 rfl e37 (wanted_of (j := 7) (b := true) rfl rfl e36) (hK _ _ (le8_refl _) rfl)
    · intro ac w' hF hL hP hU K hK
      have hB := below_undrew hL
      have e38 : ac.eval (.tmp 38) = .int .i64 ((2 : Nat) : Int) := hP 9 (by kernel_rfl)
      have e36 : ac.eval (.tmp 36) = .bool true := hP 7 (by kernel_rfl)
      exact rop_bin _ _ _ _ _ rfl e38 rfl (guard_int _ _ _ _ _ _ _ w') (eql_iG _ _ _ (by decide) w') (wanted_of (j := 7) (b := true) rfl rfl e36) (hK _ _ (le8_refl _) rfl)
    · intro ac w' hF hL hP hU K hK
      have hB := below_undrew hL
      have e36 : ac.eval (.tmp 36) = .bool true := hP 7 (by kernel_rfl)
      have e39 : ac.eval (.tmp 39) = .bool true := hP 10 (by kernel_rfl)
      exact rop_pick _ _ _ rfl true e36 (by simpa using e39) (wanted_none rfl) (hK _ _ (le8_refl _) rfl)
    · intro ac w' hF hL hP hU K hK
      have hB := below_undrew hL
      have e40 : ac.eval (.tmp 40) = .bool true := hP 11 (by kernel_rfl)
      exact rop_move _ rfl e40 (wanted_none rfl) (hK _ _ (le8_refl _) rfl)
    · intro ac w' hF hL hP hU K hK
      have hB := below_undrew hL
      have e6 : ac.eval (.tmp 6) = .slice (some ⟨b6, o6, none⟩) 2 c6 := hF.at 6 (by kernel_rfl)
      have e41 : ac.eval (.tmp 41) = .bool true := hP 12 (by kernel_rfl)
      exact rop_move _ rfl e6 (wanted_of (j := 12) (b := true) rfl rfl e41) (hK _ _ (le8_refl _) rfl)
    · intro ac w' hF hL hP hU K hK
      have hB := below_undrew hL
      have e42 : ac.eval (.tmp 42) = .slice (some ⟨b6, o6, none⟩) 2 c6 := hP 13 (by kernel_rfl)
      have e41 : ac.eval (.tmp 41) = .bool true := hP 12 (by kernel_rfl)
      exact rop_idx _ _ _ rfl e42 rfl (index_sums b6 o6 2 c6 0 (by decide) w') (wanted_of (j := 12) (b := true) rfl rfl e41) (hK _ _ (le8_refl _) rfl)
    · intro ac w' hF hL hP hU K hK
      have hB := below_undrew hL
      have e43 : ac.eval (.tmp 43) = .pointer (some ⟨b6, o6 + 0 * 32, none⟩) := hP 14 (by kernel_rfl)
      have e41 : ac.eval (.tmp 41) = .bool true := hP 12 (by kernel_rfl)
      exact rop_ld _ _ rfl e43 (run_loadAt_mid _ _ _ _ _ _ (below_range hB hb6 hr6) Tryd.underlying31 rfl (sum_info' HNl.out)) (wanted_of (j := 12) (b := true) rfl rfl e41) (hK _ _ (le8_refl _) rfl)
    · intro ac w' hF hL hP hU K hK
      have hB := below_undrew hL
      have e2 : ac.eval (.tmp 2) = .pointer (some ⟨qa, 0, none⟩) := hF.at 2 (by kernel_rfl)
      have e41 : ac.eval (.tmp 41) = .bool true := hP 12 (by kernel_rfl)
      exact rop_ld _ _ rfl e2 (run_loadAt_mid _ _ _ _ _ _ (below_range hB hqa hra) Tryd.underlying31 rfl (sum_info' HAl.out)) (wanted_of (j := 12) (b := true) rfl rfl e41) (hK _ _ (le8_refl _) rfl)
    · intro ac w' hF hL hP hU K hK
      have hB := below_undrew hL
      have e3 : ac.eval (.tmp 3) = .pointer (some ⟨qb, 0, none⟩) := hF.at 3 (by kernel_rfl)
      have e41 : ac.eval (.tmp 41) = .bool true := hP 12 (by kernel_rfl)
      exact rop_ld _ _ rfl e3 (run_loadAt_mid _ _ _ _ _ _ (below_range hB hqb hrb) Tryd.underlying31 rfl (sum_info' HBl.out)) (wanted_of (j := 12) (b := true) rfl rfl e41) (hK _ _ (le8_refl _) rfl)
    · intro ac w' hF hL hP hU K hK
      have hB := below_undrew hL
      have e45 : ac.eval (.tmp 45) = sumV A := hP 16 (by kernel_rfl)
      have e46 : ac.eval (.tmp 46) = sumV B := hP 17 (by kernel_rfl)
      have e41 : ac.eval (.tmp 41) = .bool true := hP 12 (by kernel_rfl)
      refine rop_call 26 _ _ rfl #[sumV A, sumV B] (by simp [e45, e46]) (by kernel_rfl) (wanted_of (j := 12) (b := true) rfl rfl e41) ?_
      refine (HND.out w').mono ?_
      rintro e w2 ⟨rfl, hb⟩
      exact ⟨_, rfl, hK _ _ hb rfl⟩
    · intro ac w' hF hL hP hU K hK
      have hB := below_undrew hL
      have e44 : ac.eval (.tmp 44) = sumV N := hP 15 (by kernel_rfl)
      have e47 : ac.eval (.tmp 47) = sumV N := hP 18 (by kernel_rfl)
      have e41 : ac.eval (.tmp 41) = .bool true := hP 12 (by kernel_rfl)
      exact rop_bin _ _ _ _ _ rfl e44 e47 (guard_run .eql _ _ _ _ w') (eql_sum_tt N N HNl.out HNl.out rfl w') (wanted_of (j := 12) (b := true) rfl rfl e41) (hK _ _ (le8_refl _) rfl)
    · intro ac w' hF hL hP hU K hK
      have hB := below_undrew hL
      have e41 : ac.eval (.tmp 41) = .bool true := hP 12 (by kernel_rfl)
      have e48 : ac.eval (.tmp 48) = .bool true := hP 19 (by kernel_rfl)
      exact rop_pick _ _ _ rfl true e41 (by simpa using e48) (wanted_none rfl) (hK _ _ (le8_refl _) rfl)
    · intro ac w' hF hL hP hU K hK
      have hB := below_undrew hL
      have e49 : ac.eval (.tmp 49) = .bool true := hP 20 (by kernel_rfl)
      exact rop_move _ rfl e49 (wanted_none rfl) (hK _ _ (le8_refl _) rfl)
    · intro ac w' hF hL hP hU K hK
      have hB := below_undrew hL
      have e6 : ac.eval (.tmp 6) = .slice (some ⟨b6, o6, none⟩) 2 c6 := hF.at 6 (by kernel_rfl)
      have e50 : ac.eval (.tmp 50) = .bool true := hP 21 (by kernel_rfl)
      exact rop_move _ rfl e6 (wanted_of (j := 21) (b := true) rfl rfl e50) (hK _ _ (le8_refl _) rfl)
    · intro ac w' hF hL hP hU K hK
      have hB := below_undrew hL
      have e51 : ac.eval (.tmp 51) = .slice (some ⟨b6, o6, none⟩) 2 c6 := hP 22 (by kernel_rfl)
      have e50 : ac.eval (.tmp 50) = .bool true := hP 21 (by kernel_rfl)
      exact rop_idx _ _ _ rfl e51 rfl (index_sums b6 o6 2 c6 1 (by decide) w') (wanted_of (j := 21) (b := true) rfl rfl e50) (hK _ _ (le8_refl _) rfl)
    · intro ac w' hF hL hP hU K hK
      have hB := below_undrew hL
      have e52 : ac.eval (.tmp 52) = .pointer (some ⟨b6, o6 + 1 * 32, none⟩) := hP 23 (by kernel_rfl)
      have e50 : ac.eval (.tmp 50) = .bool true := hP 21 (by kernel_rfl)
      exact rop_ld _ _ rfl e52 (run_loadAt_mid _ _ _ _ _ _ (below_range hB hb6 hs6) Tryd.underlying31 rfl (sum_info' HCl.out)) (wanted_of (j := 21) (b := true) rfl rfl e50) (hK _ _ (le8_refl _) rfl)
    · intro ac w' hF hL hP hU K hK
      have hB := below_undrew hL
      have e4 : ac.eval (.tmp 4) = .pointer (some ⟨qc, 0, none⟩) := hF.at 4 (by kernel_rfl)
      have e50 : ac.eval (.tmp 50) = .bool true := hP 21 (by kernel_rfl)
      exact rop_ld _ _ rfl e4 (run_loadAt_mid _ _ _ _ _ _ (below_range hB hqc hrc) Tryd.underlying31 rfl (sum_info' HCl.out)) (wanted_of (j := 21) (b := true) rfl rfl e50) (hK _ _ (le8_refl _) rfl)
    · intro ac w' hF hL hP hU K hK
      have hB := below_undrew hL
      have e53 : ac.eval (.tmp 53) = sumV C := hP 24 (by kernel_rfl)
      have e54 : ac.eval (.tmp 54) = sumV C := hP 25 (by kernel_rfl)
      have e50 : ac.eval (.tmp 50) = .bool true := hP 21 (by kernel_rfl)
      exact rop_bin _ _ _ _ _ rfl e53 e54 (guard_run .eql _ _ _ _ w') (eql_sum_tt C C HCl.out HCl.out rfl w') (wanted_of (j := 21) (b := true) rfl rfl e50) (hK _ _ (le8_refl _) rfl)
    · intro ac w' hF hL hP hU K hK
      have hB := below_undrew hL
      have e50 : ac.eval (.tmp 50) = .bool true := hP 21 (by kernel_rfl)
      have e55 : ac.eval (.tmp 55) = .bool true := hP 26 (by kernel_rfl)
      exact rop_pick _ _ _ rfl true e50 (by simpa using e55) (wanted_none rfl) (hK _ _ (le8_refl _) rfl)
    · intro ac w' hF hL hP hU K hK
      have hB := below_undrew hL
      have e56 : ac.eval (.tmp 56) = .bool true := hP 27 (by kernel_rfl)
      exact rop_assign _ rfl e56 (wanted_none rfl) (hK _ _ (le8_refl _) rfl)
    · intro ac w' hF hB hT
      have e0 : ac.eval (.tmp 0) = .bool true := hT 28 (by decide)
      rw [hF.setsG [29, 30, 31, 32, 33, 34, 35, 36, 37, 38, 39, 40, 41, 42, 43, 44, 45, 46, 47, 48, 49, 50, 51, 52, 53, 54, 55, 56, 0] (by kernel_rfl)]
      simp only [List.foldl_cons, List.foldl_nil, List.setIfInBounds_toArray, List.set_cons_succ, List.set_cons_zero, e0]
      generalize ac.eval (.tmp 29) = u29
      generalize ac.eval (.tmp 30) = u30
      generalize ac.eval (.tmp 31) = u31
      generalize ac.eval (.tmp 32) = u32
      generalize ac.eval (.tmp 33) = u33
      generalize ac.eval (.tmp 34) = u34
      generalize ac.eval (.tmp 35) = u35
      generalize ac.eval (.tmp 36) = u36
      generalize ac.eval (.tmp 37) = u37
      generalize ac.eval (.tmp 38) = u38
      generalize ac.eval (.tmp 39) = u39
      generalize ac.eval (.tmp 40) = u40
      generalize ac.eval (.tmp 41) = u41
      generalize ac.eval (.tmp 42) = u42
      generalize ac.eval (.tmp 43) = u43
      generalize ac.eval (.tmp 44) = u44
      generalize ac.eval (.tmp 45) = u45
      generalize ac.eval (.tmp 46) = u46
      generalize ac.eval (.tmp 47) = u47
      generalize ac.eval (.tmp 48) = u48
      generalize ac.eval (.tmp 49) = u49
      generalize ac.eval (.tmp 50) = u50
      generalize ac.eval (.tmp 51) = u51
      generalize ac.eval (.tmp 52) = u52
      generalize ac.eval (.tmp 53) = u53
      generalize ac.eval (.tmp 54) = u54
      generalize ac.eval (.tmp 55) = u55
      generalize ac.eval (.tmp 56) = u56
      clear e0 hT hF ac
      go_wp2
      go_ret
      exact ⟨rfl, B4.out.trans (hB.mono (Nat.le_of_lt HFL.out))⟩

/-- At most 20 of them. -/
theorem few11_any (v : Value) (l : Hs) (w : World) (hv : Sums w v l) :
    Calls Tryd.prog 10 #[v] w fun e w' => ∃ v', e = .returned v' ∧ SumsB w.heap.size w v' (l.take 20) ∧ w = w' := by
  have hvB := hv.below
  obtain ⟨va, cap, rfl, hlc, hcap⟩ := hv.slice
  by_cases h : 20 < l.length
  · have h' : 20 < (l.length : Int) := by omega
    have hh : Sums w (.slice va 20 cap) (l.take 20) := hv.head 20 (by omega)
    have hb : SumsB w.heap.size w (.slice va 20 cap) (l.take 20) := hh.below
    have HB := Lib.hid hb
    have hcut := fun u => scut_h va l.length cap 20 (by omega) u
    clear hv hvB hh hb
    go_enter Tryd.func10, Tryd.ntmps10
    go_wp2_with (with_reducible refine wpList_slice_runS rfl 22 (.tmp 6) none (some (.const (.int .i64 20))) none rfl rfl rfl rfl rfl (hcut _) ?_)
    go_ret
    first | exact ⟨_, rfl, HB.out, rfl⟩ | exact HB.out | exact ⟨HB.out, rfl⟩ | exact ⟨_, rfl, HB.out⟩
  · have h' : ¬ 20 < (l.length : Int) := by omega
    have hh : l.take 20 = l := List.take_of_length_le (by omega)
    have HH := Lib.hid hh
    have HB := Lib.hid hvB
    clear hv hvB hh
    go_enter Tryd.func10, Tryd.ntmps10
    go_wp2
    go_ret
    rw [HH.out]
    first | exact ⟨_, rfl, HB.out, rfl⟩ | exact HB.out | exact ⟨HB.out, rfl⟩ | exact ⟨_, rfl, HB.out⟩
end Go.Proofs.YtgiakpnkidblpaaDoor
