/-
  Package twin: Way and linkWay.
-/
import Derived.Test.YtdcebdleneieeaaDoorTwinDef
namespace Go.Proofs.YtdcebdleneieeaaDoor
open Go.RowKit

set_option maxHeartbeats 4000000 in
set_option maxRecDepth 100000 in
theorem Way_any (x : List UInt8) (hx : x.length = 32) (m n : Int) (l1 : m ≤ 9223372036854775807) (l2 : n ≤ 9223372036854775807) (v : Value) (P : Hs) (w : World) (hv : Sums w v P) (hP : P.length ≤ 1000) (hK : KT w) :
    Calls Tryd.prog 26 #[.int .i64 m, .int .i64 n, sumV x, v] w fun e w' => ∃ v', e = .returned v' ∧ Texts w' v' (wayZ x m n P) ∧ Below w.heap.size w w' := by
  obtain ⟨va, cap, rfl, hlc, hcap⟩ := hv.slice
  obtain ⟨k, hk⟩ : ∃ k, k = P.length := ⟨_, rfl⟩
  obtain ⟨z, hz⟩ : ∃ z, z = (if okP m n then ((Tree.long m.toNat n.toNat : Nat) : Int) else -1) := ⟨_, rfl⟩
  have HLO : Hid (∀ u, Calls Tryd.prog 45 #[.int .i64 m, .int .i64 n] u fun e w' => e = .returned (.int .i64 z) ∧ u = w') := Lib.hid fun u => by rw [hz]; exact long_any m n u l1 l2
  have hfl : foldLen m n P = decide ((k : Int) = z) := by unfold foldLen; rw [hz, hk]
  obtain ⟨W, hW⟩ : ∃ W, W = w.alloc (.cells (x.map u8V).toArray 24) := ⟨_, rfl⟩
  have b0 : Below w.heap.size w W := by rw [hW]; exact (Below.refl _ _).alloc (Nat.le_refl _) _
  have h1 : IsH x W w.heap.size := by rw [hW]; exact heap_alloc_last w _
  have HXl := Lib.hid hx
  have HX := Lib.hid h1
  have HB := Lib.hid b0
  have HV := Lib.hid (hv.old b0)
  have HK := Lib.hid (hK.old b0)
  rw [← hk] at HV ⊢
  by_cases hkz : (k : Int) = z
  · have hok : foldLen m n P = true := by rw [hfl]; exact decide_eq_true hkz
    obtain ⟨L, hL⟩ : ∃ L, L = wayZ x m n P := ⟨_, rfl⟩
    have hL2 : Tree.wayL x P (turnsZ m n) = L := by rw [hL]; unfold wayZ; rw [if_pos hok]
    have hTl := turnsZ_length hok
    have HTU : Hid (∀ u, Calls Tryd.prog 47 #[.int .i64 m, .int .i64 n] u fun e w' => ∃ v', e = .returned v' ∧ Bools w' v' (turnsZ m n) ∧ Below u.heap.size u w') := Lib.hid fun u => (turns_any m n u l1 l2).mono fun e w' ⟨v', he, ho, hb⟩ => ⟨v', he, ho.bools, hb⟩
    have HWA : Hid (∀ v u, Below W.heap.size W u → Bools u v (turnsZ m n) → Calls Tryd.prog 46 #[sumV x, .slice va k cap, v] u fun e w' => ∃ v', e = .returned v' ∧ Texts w' v' L ∧ Below u.heap.size u w') := Lib.hid fun v u hu hb => by
      rw [← hL2]
      exact (way_any x hx _ v P (turnsZ m n) u (HV.out.old hu) hb hTl (by omega) (HK.out.old hu)).mono fun e w' ⟨v', he, ho, hb⟩ => ⟨v', he, ho.texts, hb⟩
    obtain rfl : z = (k : Int) := hkz.symm
    rw [← hL]
    clear hok hL hL2 hTl hfl hz hk hx h1 b0 hv hK l1 l2 hP hlc hcap
    unfold sumV
    go_enter Tryd.func26, Tryd.ntmps26
    go_upto_region 1 with (fail)
    change Code.wp _ _ _ _ (w.alloc (.cells (x.map u8V).toArray 24))
    rw [← hW]
    clear hW
    go_upto_region 3 with (go_at_call 45; ((with_reducible refine (HLO.out _).mono ?_); rintro e w1 ⟨rfl, rfl⟩))
    obtain ⟨q, hq⟩ : ∃ q, q = w.heap.size := ⟨_, rfl⟩
    rw [← hq] at HX ⊢
    clear hq
    try simp only [Act.put]
    refine wp_region_tab [RT.is (sumV x), RT.is (.slice va k cap), RT.is (.int .i64 m), RT.is (.int .i64 n), RT.bools (turnsZ m n), RT.texts L, RT.texts L] (by kernel_rfl) (by kernel_rfl) (by kernel_rfl) (by kernel_rfl) ⟨?_, ?_, ?_, ?_, ?_, ?_, ?_, trivial⟩ ?_
    · intro ac w' hF hL hP hU K hK
      have hB := below_undrew hL
      have e6 : ac.eval (.tmp 6) = .pointer (some ⟨q, 0, none⟩) := hF.at 6 (by kernel_rfl)
      exact rop_ld _ _ rfl e6 (load_sumP HXl.out (range_var (IsH.old HX.out hB))) (wanted_none rfl) (hK _ _ (le8_refl _) rfl)
    · intro ac w' hF hL hP hU K hK
      have hB := below_undrew hL
      have e3 : ac.eval (.tmp 3) = .slice va k cap := hF.at 3 (by kernel_rfl)
      exact rop_move _ rfl e3 (wanted_none rfl) (hK _ _ (le8_refl _) rfl)
    · intro ac w' hF hL hP hU K hK
      have hB := below_undrew hL
      have e0 : ac.eval (.tmp 0) = .int .i64 m := hF.at 0 (by kernel_rfl)
      exact rop_move _ rfl e0 (wanted_none rfl) (hK _ _ (le8_refl _) rfl)
    · intro ac w' hF hL hP hU K hK
      have hB := below_undrew hL
      have e1 : ac.eval (.tmp 1) = .int .i64 n := hF.at 1 (by kernel_rfl)
      exact rop_move _ rfl e1 (wanted_none rfl) (hK _ _ (le8_refl _) rfl)
    · intro ac w' hF hL hP hU K hK
      have hB := below_undrew hL
      have e17 : ac.eval (.tmp 17) = .int .i64 m := hP 2 (by kernel_rfl)
      have e18 : ac.eval (.tmp 18) = .int .i64 n := hP 3 (by kernel_rfl)
      refine rop_call 47 _ _ rfl #[.int .i64 m, .int .i64 n] (by simp [e17, e18]) (by kernel_rfl) (wanted_none rfl) ?_
      refine (HTU.out w').mono ?_
      rintro e w2 ⟨v2, rfl, hr2, hb⟩
      exact ⟨_, rfl, hK _ _ hb hr2⟩
    · intro ac w' hF hL hP hU K hK
      have hB := below_undrew hL
      have e15 : ac.eval (.tmp 15) = sumV x := hP 0 (by kernel_rfl)
      have e16 : ac.eval (.tmp 16) = .slice va k cap := hP 1 (by kernel_rfl)
      have e19 : Bools w' (ac.eval (.tmp 19)) (turnsZ m n) := hP 4 (by kernel_rfl)
      refine rop_call 46 _ _ rfl #[sumV x, .slice va k cap, ac.eval (.tmp 19)] (by simp [e15, e16]) (by kernel_rfl) (wanted_none rfl) ?_
      refine (HWA.out _ w' hB e19).mono ?_
      rintro e w2 ⟨v2, rfl, hr2, hb⟩
      exact ⟨_, rfl, hK _ _ hb hr2⟩
    · intro ac w' hF hL hP hU K hK
      have hB := below_undrew hL
      have e20 : Texts w' (ac.eval (.tmp 20)) L := hP 5 (by kernel_rfl)
      exact rop_assign _ rfl rfl (wanted_none rfl) (hK _ _ (le8_refl _) e20)
    · intro ac w' hF hB hT
      have e8 : Texts w' (ac.eval (.tmp 8)) L := hT 6 (by decide)
      rw [hF.setsG [15, 16, 17, 18, 19, 20, 8] (by kernel_rfl)]
      simp only [List.foldl_cons, List.foldl_nil, List.setIfInBounds_toArray, List.set_cons_succ, List.set_cons_zero]
      generalize ac.eval (.tmp 15) = u15
      generalize ac.eval (.tmp 16) = u16
      generalize ac.eval (.tmp 17) = u17
      generalize ac.eval (.tmp 18) = u18
      generalize ac.eval (.tmp 19) = u19
      generalize ac.eval (.tmp 20) = u20
      generalize ac.eval (.tmp 8) = v8 at e8 ⊢
      clear  hT hF ac
      have HF := Lib.hid (And.intro e8 (below_step HB.out (Nat.le_refl _) hB))
      clear hB e8
      go_wp2
      go_ret
      exact ⟨_, rfl, HF.out.1, HF.out.2⟩
  · have hno : wayZ x m n P = [] := by
      unfold wayZ
      rw [hfl, decide_eq_false hkz]
      rfl
    rw [hno]
    clear hno hfl hz hk hx h1 hv hK l1 l2 hP hlc hcap
    unfold sumV
    go_enter Tryd.func26, Tryd.ntmps26
    go_upto_region 1 with (fail)
    change Code.wp _ _ _ _ (w.alloc (.cells (x.map u8V).toArray 24))
    rw [← hW]
    clear hW
    go_wp2_with (go_at_call 45; ((with_reducible refine (HLO.out _).mono ?_); rintro e w1 ⟨rfl, rfl⟩))
    go_ret
    exact ⟨_, rfl, Texts.nil _, HB.out⟩
set_option maxHeartbeats 4000000 in
set_option maxRecDepth 100000 in
theorem linkWay_any (x : List UInt8) (hx : x.length = 32) (m n : Int) (v : Value) (P : Hs) (w : World) (hv : Sums w v P) (hP : P.length ≤ 1000) (hok : bothLen m n P = true) (hK : KT w) :
    Calls Tryd.prog 35 #[.int .i64 m, .int .i64 n, sumV x, v] w fun e w' => ∃ v', e = .returned v' ∧ Texts w' v' (lwayZ x m n P) ∧ Below w.heap.size w w' := by
  obtain ⟨va, cap, rfl, hlc, hcap⟩ := hv.slice
  obtain ⟨h1, h2⟩ := bothLen_t hok
  have h3 := okL_t h1
  obtain ⟨M, rfl⟩ := Int.eq_ofNat_of_zero_le (show 0 ≤ m by omega)
  obtain ⟨N, rfl⟩ := Int.eq_ofNat_of_zero_le (show 0 ≤ n by omega)
  obtain ⟨L, hL⟩ : ∃ L, L = lwayZ x (M : Int) (N : Int) P := ⟨_, rfl⟩
  have hL2 : L = Tree.wayL (Tree.startL x M N P) (Tree.restL M N P) (Tree.inw M N).reverse := hL
  simp only [Int.toNat_natCast] at h2
  rw [← hL]
  obtain ⟨k, hk⟩ : ∃ k, k = P.length := ⟨_, rfl⟩
  obtain ⟨I, hI⟩ : ∃ I, I = (Tree.inw M N).reverse := ⟨_, rfl⟩
  have hIl : I.length = (Tree.inw M N).length := by rw [hI, List.length_reverse]
  have hll := Tree.llong_inw _ M N true (by omega) (by omega) (Nat.le_refl _)
  have h40 := inw_40 M N (by omega) (by omega) (by omega)
  obtain ⟨w0, hw0⟩ : ∃ w0, w0 = w.alloc (.cells (x.map u8V).toArray 24) := ⟨_, rfl⟩
  have b0 : Below w.heap.size w w0 := by rw [hw0]; exact (Below.refl _ _).alloc (Nat.le_refl _) _
  have hx1 : IsH x w0 w.heap.size := by rw [hw0]; exact heap_alloc_last w _
  have HLT : Hid (∀ u, Calls Tryd.prog 56 #[.int .i64 (M : Int), .int .i64 (N : Int)] u fun e w' => ∃ b c, e = .returned (.slice b I.length c) ∧ OwnB u.heap.size w' (.slice b I.length c) I ∧ Below u.heap.size u w') := Lib.hid fun u => by
    rw [hI]
    refine (linkTurns_any M N u (by omega) (by omega) (by omega)).mono fun e w' ⟨v', he, ho, hb⟩ => ?_
    obtain ⟨b, c, rfl, -, -⟩ := ho.bools.slice
    exact ⟨b, c, he, ho, hb⟩
  obtain ⟨i0, hi0⟩ : ∃ i0, i0 = I.length := ⟨_, rfl⟩
  have HWA : Hid (∀ y v' u' Q u, y.length = 32 → Q.length = I.length → Below w.heap.size w u → Sums u v' Q → Bools u u' I → Calls Tryd.prog 46 #[sumV y, v', u'] u fun e w' => ∃ v', e = .returned v' ∧ Texts w' v' (Tree.wayL y Q I) ∧ Below u.heap.size u w') := Lib.hid fun y v' u' Q u hy hQ hu hs hb =>
    (way_any y hy v' u' Q I u hs hb hQ (by omega) (hK.old hu)).mono fun e w' ⟨v', he, ho, hb⟩ => ⟨v', he, ho.texts, hb⟩
  have HV := Lib.hid hv
  rw [← hk] at HV ⊢
  rw [← hi0] at HLT
  have HXl := Lib.hid hx
  have H1 := Lib.hid hx1
  have HB := Lib.hid b0
  have hwl : w.heap.size < w0.heap.size := (Array.getElem?_eq_some_iff.1 hx1).1
  cases hl : Tree.lead M N true with
  | true =>
    rw [hl, if_pos rfl] at hll
    have hki : k = i0 + 1 := by rw [hk, h2, hll, hi0, hIl]
    have hgt : (i0 : Int) < (k : Int) := by omega
    have hk0 : 0 < k := by omega
    obtain ⟨p, hp⟩ : ∃ p, P[0]? = some p := ⟨_, List.getElem?_eq_getElem (by omega)⟩
    have hpl : p.length = 32 := hv.ok p (List.mem_of_getElem? hp)
    have hst : Tree.startL x M N P = p := by
      unfold Tree.startL
      rw [hl, if_pos rfl]
      cases P with
      | nil => cases hp
      | cons a P => simpa using hp
    have hrs : Tree.restL M N P = P.drop 1 := by
      unfold Tree.restL
      rw [hl, if_pos rfl]
    have htl := hv.tail 1 (by omega)
    rw [hst, hrs, ← hI] at hL2
    rw [← hk] at htl
    have hQl : (P.drop 1).length = I.length := by rw [List.length_drop]; omega
    obtain ⟨bp, op, rfl, hbp, -, hrp⟩ := HV.out.at0 hp
    have HPl := Lib.hid hpl
    have HTL := Lib.hid htl
    have HL2 := Lib.hid hL2
    have HQl := Lib.hid hQl
    have HRP0 := Lib.hid hrp
    clear hL hL2 h1 h2 hk hI hIl hll hx hx1 b0 hp hpl hst hrs htl hQl hrp hv hK hP hok h40 hi0 hki hlc hcap h3
    unfold sumV
    go_enter Tryd.func35, Tryd.ntmps35
    go_upto_region 1 with (fail)
    change Code.wp _ _ _ _ (w.alloc (.cells (x.map u8V).toArray 24))
    rw [← hw0]
    clear hw0
    go_upto_region 3 with (go_at_call 56; ((with_reducible refine (HLT.out _).mono ?_); rintro e W ⟨bI, cI, rfl, hbo, b1⟩; have HBO := Lib.hid hbo; clear hbo))
    have hwW : w.heap.size < W.heap.size := Nat.lt_of_lt_of_le hwl b1.size
    have HX := Lib.hid (IsH.old H1.out b1)
    have HBW := Lib.hid (below_step HB.out (Nat.le_refl _) b1)
    have HRP := Lib.hid (below_range' HBW.out hbp HRP0.out)
    have hbq : bp ≠ w.heap.size := by omega
    clear b1 H1 HB HRP0
    obtain ⟨q, hq⟩ : ∃ q, q = w.heap.size := ⟨_, rfl⟩
    rw [← hq] at HX hbq hwW ⊢
    have Hq := Lib.hid hq
    clear hq
    try simp only [Act.put]
    refine wp_region_ph (Lx := GLx 1) [RXP.is (.slice (some ⟨bp, op, none⟩) k cap), RXP.is (.pointer (some ⟨bp, op + 0 * 32, none⟩)), RXP.is (sumV p), RXP.is (.slice (some ⟨bp, op, none⟩) k cap), RXP.is (.slice (cutS (some ⟨bp, op, none⟩) 1 cap) (k - 1) (cap - 1)), RXP.any, RXP.is (.slice (cutS (some ⟨bp, op, none⟩) 1 cap) (k - 1) (cap - 1))] [5] (fun k w' => IsH (if k = 0 then x else p) w' q ∧ Only q W w' ∧ w'.rangeAt bp (op + 0 * 32) (p.map u8V)) (by kernel_rfl) (by kernel_rfl) (by kernel_rfl) (by kernel_rfl) (by kernel_rfl) (⟨HX.out, Only.of_below (below_drew (Below.refl _ _)), HRP.out⟩) ⟨?_, ?_, ?_, ?_, ?_, ?_, ?_, trivial⟩ ?_
    · intro ac w' ph hF hPh hlt hP hU K hK0
      have e3 : ac.eval (.tmp 3) = .slice (some ⟨bp, op, none⟩) k cap := by
        have hu := hU 6 3 (by kernel_rfl) rfl
        simp [Act.eval, hu]
      exact rop_move _ rfl e3 (wanted_none rfl) (hK0 _ _ GLx.same hPh rfl)
    · intro ac w' ph hF hPh hlt hP hU K hK0
      have e18 : ac.eval (.tmp 18) = .slice (some ⟨bp, op, none⟩) k cap := hP 0 (by kernel_rfl)
      exact rop_idx _ _ _ rfl e18 rfl (index_sums bp op k cap 0 hk0 w') (wanted_none rfl) (hK0 _ _ GLx.same hPh rfl)
    · intro ac w' ph hF hPh hlt hP hU K hK0
      have e19 : ac.eval (.tmp 19) = .pointer (some ⟨bp, op + 0 * 32, none⟩) := hP 1 (by kernel_rfl)
      exact rop_ld _ _ rfl e19 (load_sumP HPl.out hPh.2.2) (wanted_none rfl) (hK0 _ _ GLx.same hPh rfl)
    · intro ac w' ph hF hPh hlt hP hU K hK0
      have e3 : ac.eval (.tmp 3) = .slice (some ⟨bp, op, none⟩) k cap := by
        have hu := hU 6 3 (by kernel_rfl) rfl
        simp [Act.eval, hu]
      exact rop_move _ rfl e3 (wanted_none rfl) (hK0 _ _ GLx.same hPh rfl)
    · intro ac w' ph hF hPh hlt hP hU K hK0
      have e21 : ac.eval (.tmp 21) = .slice (some ⟨bp, op, none⟩) k cap := hP 3 (by kernel_rfl)
      exact rop_sliceG _ _ _ _ _ rfl e21 rfl rfl rfl (scut_l (some ⟨bp, op, none⟩) k cap 1 hk0 w') (wanted_none rfl) (hK0 _ _ GLx.same hPh rfl)
    · intro ac w' ph hF hPh hlt hP hU K hK0
      obtain rfl : ph = 0 := (hlt 0 5 rfl).1 rfl
      have e6 : ac.eval (.tmp 6) = .pointer (some ⟨q, 0, none⟩) := hF.at 6 (by kernel_rfl)
      have e20 : ac.eval (.tmp 20) = sumV p := hP 2 (by kernel_rfl)
      have hq : IsH (if 0 = 0 then x else p) w' q := hPh.1
      have hq' : IsH x w' q := hq
      exact rop_storeG _ _ _ rfl e6 e20 (run_storeAt_mid w' q 0 _ _ (sum_thereP hq' HXl.out HPl.out) (sum_info HPl.out) (sum_one p)) (wanted_none rfl) (hK0 _ _ (GLx.last rfl) ⟨set_sumP w' q x p HXl.out HPl.out hq', hPh.2.1.trans (only_setCells (b := q) (p.map u8V) 0 _ (Only.refl _ _)), World.rangeAt_setCells_apart hPh.2.2 _ _ _ (.inl hbq)⟩ trivial)
    · intro ac w' ph hF hPh hlt hP hU K hK0
      have e22 : ac.eval (.tmp 22) = .slice (cutS (some ⟨bp, op, none⟩) 1 cap) (k - 1) (cap - 1) := hP 4 (by kernel_rfl)
      exact rop_assign _ rfl e22 (wanted_none rfl) (hK0 _ _ GLx.same hPh rfl)
    · intro ac w' hF hPh hT
      have e3 : ac.eval (.tmp 3) = .slice (cutS (some ⟨bp, op, none⟩) 1 cap) (k - 1) (cap - 1) := hT 6 (by decide)
      rw [hF.setsG [18, 19, 20, 21, 22, 3] (by kernel_rfl)]
      simp only [List.foldl_cons, List.foldl_nil, List.setIfInBounds_toArray, List.set_cons_succ, List.set_cons_zero, e3]
      generalize ac.eval (.tmp 18) = u18
      generalize ac.eval (.tmp 19) = u19
      generalize ac.eval (.tmp 20) = u20
      generalize ac.eval (.tmp 21) = u21
      generalize ac.eval (.tmp 22) = u22
      clear e3 hT hF ac
      obtain ⟨hQ1, hQ2, -⟩ := hPh
      have hQ1' : IsH p w' q := hQ1
      have HQ1 := Lib.hid hQ1'
      have hbw : Below w.heap.size w w' := HBW.out.trans (hQ2.below (by rw [Hq.out]; exact Nat.le_refl _) HBW.out.size)
      have hbo' : Bools w' (.slice bI i0 cI) I := (HBO.out.kept' fun g e => hQ2.block g (World.ownsRow.lt HBO.out g e).2 (by have := (World.ownsRow.lt HBO.out g e).1; have := Hq.out; omega)).bools
      have HWB := Lib.hid (HWA.out p _ _ _ _ HPl.out HQl.out hbw (HTL.out.old hbw) hbo')
      have HBF := Lib.hid hbw
      clear hQ1 hQ1' hQ2 hbw hbo' HWA HBO HTL
      obtain ⟨rb, rn, rc, hr⟩ : ∃ rb rn rc, Value.slice (cutS (some ⟨bp, op, none⟩) 1 cap) (k - 1) (cap - 1) = .slice rb rn rc := ⟨_, _, _, rfl⟩
      rw [hr] at HWB ⊢
      clear hr
      go_wp2_with (first
        | refine wpList_load_mid rfl 24 (.tmp 6) rfl q 0 rfl (p.map u8V) _ (range_var HQ1.out) Tryd.underlying24 rfl (sum_info' HPl.out) ?_
        | (go_at_call 46; (refine HWB.out.mono ?_); rintro e w5 ⟨v5, rfl, ht5, b5⟩; have HF := Lib.hid (And.intro ht5 (below_step HBF.out (Nat.le_refl _) b5)); clear ht5 b5))
      go_ret
      exact ⟨_, rfl, by rw [HL2.out]; exact HF.out.1, HF.out.2⟩
  | false =>
    rw [hl] at hll
    have hki : k = i0 := by rw [hk, h2, hll, hi0, hIl]; rfl
    have hgt : ¬ (i0 : Int) < (k : Int) := by omega
    have hst : Tree.startL x M N P = x := by
      unfold Tree.startL
      rw [hl]
      rfl
    have hrs : Tree.restL M N P = P := by
      unfold Tree.restL
      rw [hl]
      rfl
    rw [hst, hrs, ← hI] at hL2
    have hQl : P.length = I.length := by omega
    have HL2 := Lib.hid hL2
    have HQl := Lib.hid hQl
    clear hL hL2 h1 h2 hk hI hIl hll hx hx1 b0 hst hrs hQl hv hK hP hok h40 hi0 hki hlc hcap h3
    unfold sumV
    go_enter Tryd.func35, Tryd.ntmps35
    go_upto_region 1 with (fail)
    change Code.wp _ _ _ _ (w.alloc (.cells (x.map u8V).toArray 24))
    rw [← hw0]
    clear hw0
    go_upto_region 4 with (go_at_call 56; ((with_reducible refine (HLT.out _).mono ?_); rintro e W ⟨bI, cI, rfl, hbo, b1⟩; have HBO := Lib.hid hbo.bools; clear hbo))
    have HX := Lib.hid (IsH.old H1.out b1)
    have hbw := below_step HB.out (Nat.le_refl _) b1
    have HWB := Lib.hid (HWA.out x _ _ _ _ HXl.out HQl.out hbw (HV.out.old hbw) HBO.out)
    have HBF := Lib.hid hbw
    clear b1 hbw HWA H1 HB
    go_wp2_with (first
      | refine wpList_load_mid rfl 24 (.tmp 6) rfl w.heap.size 0 rfl (x.map u8V) _ (range_var HX.out) Tryd.underlying24 rfl (sum_info' HXl.out) ?_
      | (go_at_call 46; (refine HWB.out.mono ?_); rintro e w5 ⟨v5, rfl, ht5, b5⟩; have HF := Lib.hid (And.intro ht5 (below_step HBF.out (Nat.le_refl _) b5)); clear ht5 b5))
    go_ret
    exact ⟨_, rfl, by rw [HL2.out]; exact HF.out.1, HF.out.2⟩
end Go.Proofs.YtdcebdleneieeaaDoor
