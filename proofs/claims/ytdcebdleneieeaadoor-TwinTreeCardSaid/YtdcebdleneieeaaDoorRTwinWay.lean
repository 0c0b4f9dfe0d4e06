/-
  The document's own way, linked and Way (scriniumref13).
-/
import Derived.Test.YtdcebdleneieeaaDoorTwinDef
namespace Go.Proofs.YtdcebdleneieeaaDoor
open Go.RowKit

/-- Ahead of hash i: the texts so far, and those to come, are D. -/
def RWayRel (q : Nat) (P : Hs) (T : List Bool) (D : Ts) (V : World) (s10 s11 : Value) (wr : World) : Prop :=
  ∃ (i : Nat) (X : List UInt8) (L : Ts), s11 = .int .i64 (i : Int) ∧ i ≤ P.length ∧ L.length ≤ i ∧ L ++ Tree.wayL X (P.drop i) (T.drop i) = D ∧ OwnT V.heap.size wr s10 L ∧ IsH X wr q ∧ X.length = 32 ∧ Only q V wr
theorem only_below {q : Nat} {V u w : World} (h : Only q V u) (k : Below V.heap.size u w) : Only q V w := ⟨k.os.trans h.os, k.tape.trans h.tape, k.output.trans h.output, Nat.le_trans h.size k.size, fun i hi hb => (k.block i hi).trans (h.block i hi hb)⟩
set_option maxHeartbeats 4000000 in
set_option maxRecDepth 100000 in
theorem rway_any (x0 : List UInt8) (hx : x0.length = 32) (m n : Int) (l1 : m ≤ 9223372036854775807) (l2 : n ≤ 9223372036854775807) (v : Value) (P : Hs) (w : World) (hv : Sums w v P) (hP : P.length ≤ 1000) (hT : P.length = (turnsZ m n).length) :
    Calls Tryd.prog 33 #[.int .i64 m, .int .i64 n, sumV x0, v] w fun e w' => ∃ v', e = .returned v' ∧ Texts w' v' (Tree.wayL x0 P (turnsZ m n)) ∧ Below w.heap.size w w' := by
  obtain ⟨va, cap, rfl, hlc, hcap⟩ := hv.slice
  obtain ⟨k, hk⟩ : ∃ k, k = P.length := ⟨_, rfl⟩
  obtain ⟨T, hTT⟩ : ∃ T, T = turnsZ m n := ⟨_, rfl⟩
  obtain ⟨kt, hkt⟩ : ∃ kt, kt = T.length := ⟨_, rfl⟩
  have HTU : Hid (∀ u, Calls Tryd.prog 40 #[.int .i64 m, .int .i64 n] u fun e w' => ∃ b c, e = .returned (.slice b kt c) ∧ OwnB u.heap.size w' (.slice b kt c) T ∧ Below u.heap.size u w') := Lib.hid fun u => by
    rw [hkt, hTT]
    refine (rturns_any m n u l1 l2).mono fun e w' ⟨v', he, ho, hb⟩ => ?_
    obtain ⟨b, c, rfl, -, -⟩ := ho.bools.slice
    exact ⟨b, c, he, ho, hb⟩
  rw [← hTT] at hT ⊢
  obtain ⟨D, hD⟩ : ∃ D, D = Tree.wayL x0 P T := ⟨_, rfl⟩
  rw [← hD]
  obtain ⟨w0, hw0⟩ : ∃ w0, w0 = w.alloc (.cells (x0.map u8V).toArray 24) := ⟨_, rfl⟩
  have b0 : Below w.heap.size w w0 := by rw [hw0]; exact (Below.refl _ _).alloc (Nat.le_refl _) _
  have h1 : IsH x0 w0 w.heap.size := by rw [hw0]; exact heap_alloc_last w _
  have hwl : w.heap.size < w0.heap.size := (Array.getElem?_eq_some_iff.1 h1).1
  have HV := Lib.hid hv
  rw [← hk] at HV ⊢
  have HPk : Hid (P.length = k) := Lib.hid hk.symm
  have HTk : Hid (T.length = k) := Lib.hid (by omega)
  have HKT2 : Hid (kt = k) := Lib.hid (by omega)
  have HPok := Lib.hid hv.ok
  have HX0l := Lib.hid hx
  have H1 := Lib.hid h1
  have HB := Lib.hid b0
  have HD := Lib.hid hD
  have hk' : k ≤ 1000 := by omega
  clear hD hk hkt hTT hT h1 b0 hx hv l1 l2 hP hlc hcap
  unfold sumV
  go_enter Tryd.func33, Tryd.ntmps33
  go_upto_region 1 with (fail)
  change Code.wp _ _ _ _ (w.alloc (.cells (x0.map u8V).toArray 24))
  rw [← hw0]
  clear hw0
  go_upto_region 2 with (go_at_call 40; ((with_reducible refine (HTU.out _).mono ?_); rintro e V ⟨ta, tcap, rfl, hbo, b1⟩; have HTB := Lib.hid hbo; clear hbo))
  have HX0 := Lib.hid (IsH.old H1.out b1)
  have HB0 := Lib.hid (below_step HB.out (Nat.le_refl _) b1)
  obtain ⟨q, hq⟩ : ∃ q, q = w.heap.size := ⟨_, rfl⟩
  rw [← hq] at HX0 HB0 hwl ⊢
  have Hq := Lib.hid hq
  clear hq b1 H1 HB
  have hqV : q < V.heap.size := (Array.getElem?_eq_some_iff.1 HX0.out).1
  go_wp2
  go_loopw [10, 11] (RWayRel q P T D V) (fun _ s11 _ => k - (intOf s11).toNat)
  case atStart => exact ⟨0, x0, [], rfl, Nat.zero_le _, Nat.le_refl _, by rw [HD.out]; rfl, OwnT.nil _ _, HX0.out, HX0l.out, Only.refl _ _⟩
  case round =>
    obtain ⟨i, X, L, rfl, hi, hLl, hLD, ho, hX, hXl, hbel⟩ := hrel
    rw [HPk.out] at hi
    obtain ⟨oa, oc, rfl⟩ := ho.texts.slice
    by_cases hik : i < k
    · have hik' : (i : Int) < (k : Int) := by omega
      obtain ⟨p, hp⟩ : ∃ p, P[i]? = some p := ⟨_, List.getElem?_eq_getElem (by rw [HPk.out]; exact hik)⟩
      obtain ⟨tb, htb⟩ : ∃ tb, T[i]? = some tb := ⟨_, List.getElem?_eq_getElem (by rw [HTk.out]; exact hik)⟩
      have hpl : p.length = 32 := HPok.out p (List.mem_of_getElem? hp)
      obtain ⟨bp, op, rfl, hbp0, -, hrp0⟩ := HV.out.at0 hp
      have hqwr : q ≤ wr.heap.size := Nat.le_of_lt (Array.getElem?_eq_some_iff.1 hX).1
      have hbpq : bp < q := by rw [Hq.out]; exact hbp0
      have hrp : wr.rangeAt bp (op + i * 32) (p.map u8V) := fun j u hu => (hbel.cell (Nat.lt_trans hbpq hqV) (Nat.ne_of_lt hbpq)).trans (below_range' HB0.out hbpq hrp0 j u hu)
      have hbp : bp < wr.heap.size := Nat.lt_of_lt_of_le hbpq hqwr
      obtain ⟨bt, rfl, hbt1, hbt2, -, hct0⟩ := HTB.out.at0 htb
      have hct : wr.cell? ⟨bt, i, none⟩ = some (.bool tb) := (hbel.cell hbt2 (by omega)).trans hct0
      have hbtW : bt < wr.heap.size := Nat.lt_of_lt_of_le hbt2 hbel.size
      have hidx1 := fun u => index_bools bt 0 kt tcap i (i : Int) rfl (by rw [HKT2.out]; exact hik) u
      rw [Nat.zero_add] at hidx1
      have hwr := IntWalk.i64_in ((i : Int) + 1) (by omega)
      obtain ⟨t0, ht0⟩ : ∃ t, t = Tree.pre X p := ⟨_, rfl⟩
      obtain ⟨t1, ht1⟩ : ∃ t, t = Tree.pre p X := ⟨_, rfl⟩
      have hl0 : t0.length = 65 := by rw [ht0]; exact preS_length X p false hXl hpl
      have hl1 : t1.length = 65 := by rw [ht1]; exact preS_length X p true hXl hpl
      have HN0 : Hid (∀ u, Calls Tryd.prog 28 #[sumV X, sumV p] u fun e w' => e = .returned (.string (tS t0)) ∧ Below u.heap.size u w') := Lib.hid fun u => by rw [ht0]; exact rleafPre_any _ _ hXl hpl u
      have HN1 : Hid (∀ u, Calls Tryd.prog 28 #[sumV p, sumV X] u fun e w' => e = .returned (.string (tS t1)) ∧ Below u.heap.size u w') := Lib.hid fun u => by rw [ht1]; exact rleafPre_any _ _ hpl hXl u
      have hLD2 : ∀ t Y, t = Tree.preS X p tb → Y = Sha.digest t → (L ++ [t]) ++ Tree.wayL Y (P.drop (i + 1)) (T.drop (i + 1)) = D := fun t Y ht hY => by
        obtain ⟨hi1, hi2⟩ := List.getElem?_eq_some_iff.1 hp
        obtain ⟨hj1, hj2⟩ := List.getElem?_eq_some_iff.1 htb
        rw [List.drop_eq_getElem_cons hi1, List.drop_eq_getElem_cons hj1, hi2, hj2, Tree.wayL_cons, Tree.step_pre, ← ht, ← hY] at hLD
        rw [← hLD]
        simp
      have HPl := Lib.hid hpl
      have HXl := Lib.hid hXl
      have HRP0 := Lib.hid hrp
      have HXw := Lib.hid hX
      have HBELw := Lib.hid hbel
      have HOw := Lib.hid ho
      have HCT := Lib.hid hct
      clear hp htb hpl hct0 hrp0 hrp hLD hX hXl hbel ho hct hbp0
      go_upto_region 6 with (fail)
      obtain ⟨W, hW⟩ : ∃ W, W = wr := ⟨_, rfl⟩
      subst hW
      have HX := HXw
      have HRP := HRP0
      have hbpW := hbp
      try simp only [Act.put]
      refine wp_region_tab [RT.is (sumV X), RT.is (.slice (some ⟨bp, op, none⟩) k cap), RT.is (.int .i64 (i : Int)), RT.is (.pointer (some ⟨bp, op + i * 32, none⟩)), RT.is (sumV p), RT.is (.string (tS t0)), RT.is (.string (tS t0))] (by kernel_rfl) (by kernel_rfl) (by kernel_rfl) (by kernel_rfl) ⟨?_, ?_, ?_, ?_, ?_, ?_, ?_, trivial⟩ ?_
      · intro ac w' hF hL hP hU K hK
        have hB := below_undrew hL
        have e6 : ac.eval (.tmp 6) = .pointer (some ⟨q, 0, none⟩) := hF.at 6 (by kernel_rfl)
        exact rop_ld _ _ rfl e6 (load_sumP HXl.out (range_var (IsH.old HX.out hB))) (wanted_none rfl) (hK _ _ (le8_refl _) rfl)
      · intro ac w' hF hL hP hU K hK
        have hB := below_undrew hL
        have e3 : ac.eval (.tmp 3) = .slice (some ⟨bp, op, none⟩) k cap := hF.at 3 (by kernel_rfl)
        exact rop_move _ rfl e3 (wanted_none rfl) (hK _ _ (le8_refl _) rfl)
      · intro ac w' hF hL hP hU K hK
        have hB := below_undrew hL
        have e11 : ac.eval (.tmp 11) = .int .i64 (i : Int) := hF.at 11 (by kernel_rfl)
        exact rop_move _ rfl e11 (wanted_none rfl) (hK _ _ (le8_refl _) rfl)
      · intro ac w' hF hL hP hU K hK
        have hB := below_undrew hL
        have e23 : ac.eval (.tmp 23) = .slice (some ⟨bp, op, none⟩) k cap := hP 1 (by kernel_rfl)
        have e24 : ac.eval (.tmp 24) = .int .i64 (i : Int) := hP 2 (by kernel_rfl)
        exact rop_idx _ _ _ rfl e23 e24 (index_sums bp op k cap i hik w') (wanted_none rfl) (hK _ _ (le8_refl _) rfl)
      · intro ac w' hF hL hP hU K hK
        have hB := below_undrew hL
        have e25 : ac.eval (.tmp 25) = .pointer (some ⟨bp, op + i * 32, none⟩) := hP 3 (by kernel_rfl)
        exact rop_ld _ _ rfl e25 (load_sumP HPl.out (below_range' hB hbpW HRP.out)) (wanted_none rfl) (hK _ _ (le8_refl _) rfl)
      · intro ac w' hF hL hP hU K hK
        have hB := below_undrew hL
        have e22 : ac.eval (.tmp 22) = sumV X := hP 0 (by kernel_rfl)
        have e26 : ac.eval (.tmp 26) = sumV p := hP 4 (by kernel_rfl)
        refine rop_call 28 _ _ rfl #[sumV X, sumV p] (by simp [e22, e26]) (by kernel_rfl) (wanted_none rfl) ?_
        refine (HN0.out w').mono ?_
        rintro e w2 ⟨rfl, hb⟩
        exact ⟨_, rfl, hK _ _ hb rfl⟩
      · intro ac w' hF hL hP hU K hK
        have hB := below_undrew hL
        have e27 : ac.eval (.tmp 27) = .string (tS t0) := hP 5 (by kernel_rfl)
        exact rop_assign _ rfl e27 (wanted_none rfl) (hK _ _ (le8_refl _) rfl)
      · intro ac w' hF hB hT
        have e12 : ac.eval (.tmp 12) = .string (tS t0) := hT 6 (by decide)
        rw [hF.setsG [22, 23, 24, 25, 26, 27, 12] (by kernel_rfl)]
        simp only [List.foldl_cons, List.foldl_nil, List.setIfInBounds_toArray, List.set_cons_succ, List.set_cons_zero, e12]
        generalize ac.eval (.tmp 22) = u22
        generalize ac.eval (.tmp 23) = u23
        generalize ac.eval (.tmp 24) = u24
        generalize ac.eval (.tmp 25) = u25
        generalize ac.eval (.tmp 26) = u26
        generalize ac.eval (.tmp 27) = u27
        clear e12 hT hF ac
        have b1 := hB
        obtain ⟨W6, hW6⟩ : ∃ W6, W6 = w' := ⟨_, rfl⟩
        subst hW6
        have hct6 : W6.cell? ⟨bt, i, none⟩ = some (.bool tb) := (b1.cell (p := ⟨bt, i, none⟩) hbtW).trans HCT.out
        have HX6 := Lib.hid (IsH.old HXw.out b1)
        have HO6 := Lib.hid (HOw.out.kept b1)
        have HBEL6 := Lib.hid (HBELw.out.trans (Only.of_below b1))
        have hqW6 : q ≤ W6.heap.size := Nat.le_trans hqwr b1.size
        have HRP6 := Lib.hid (below_range' b1 hbp HRP0.out)
        have hbp6 : bp < W6.heap.size := Nat.lt_of_lt_of_le hbp b1.size
        clear hB b1 HX HRP hbpW HXw HRP0 HBELw HOw hqwr
        have HX := HX6
        have HO := HO6
        have HBEL := HBEL6
        have hqwr := hqW6
        cases tb with
        | true =>
          obtain ⟨Y, hY⟩ : ∃ Y, Y = Sha.digest t1 := ⟨_, rfl⟩
          have HYl : Hid (Y.length = 32) := Lib.hid (by rw [hY]; exact Sha.digest_length _)
          have HLD2 := Lib.hid (hLD2 t1 Y ht1 hY)
          have HOF : Hid (∀ S u, S = tS t1 → Calls Tryd.prog 15 #[.string S] u fun e w' => e = .returned (sumV Y) ∧ Below u.heap.size u w') := Lib.hid fun S u hS => by rw [hS, hY]; exact rof_any _ _ (tS_list _) u (by omega)
          clear hLD2 hY ht0 ht1
          go_upto_region 8 with (fail)
          obtain ⟨W, hW⟩ : ∃ W, W = W6 := ⟨_, rfl⟩
          subst hW
          have HRP := HRP6
          have hbpW := hbp6
          try simp only [Act.put]
          refine wp_region_tab [RT.is (.slice (some ⟨bp, op, none⟩) k cap), RT.is (.int .i64 (i : Int)), RT.is (.pointer (some ⟨bp, op + i * 32, none⟩)), RT.is (sumV p), RT.is (sumV X), RT.is (.string (tS t1)), RT.is (.string (tS t1))] (by kernel_rfl) (by kernel_rfl) (by kernel_rfl) (by kernel_rfl) ⟨?_, ?_, ?_, ?_, ?_, ?_, ?_, trivial⟩ ?_
          · intro ac w' hF hL hP hU K hK
            have hB := below_undrew hL
            have e3 : ac.eval (.tmp 3) = .slice (some ⟨bp, op, none⟩) k cap := hF.at 3 (by kernel_rfl)
            exact rop_move _ rfl e3 (wanted_none rfl) (hK _ _ (le8_refl _) rfl)
          · intro ac w' hF hL hP hU K hK
            have hB := below_undrew hL
            have e11 : ac.eval (.tmp 11) = .int .i64 (i : Int) := hF.at 11 (by kernel_rfl)
            exact rop_move _ rfl e11 (wanted_none rfl) (hK _ _ (le8_refl _) rfl)
          · intro ac w' hF hL hP hU K hK
            have hB := below_undrew hL
            have e32 : ac.eval (.tmp 32) = .slice (some ⟨bp, op, none⟩) k cap := hP 0 (by kernel_rfl)
            have e33 : ac.eval (.tmp 33) = .int .i64 (i : Int) := hP 1 (by kernel_rfl)
            exact rop_idx _ _ _ rfl e32 e33 (index_sums bp op k cap i hik w') (wanted_none rfl) (hK _ _ (le8_refl _) rfl)
          · intro ac w' hF hL hP hU K hK
            have hB := below_undrew hL
            have e34 : ac.eval (.tmp 34) = .pointer (some ⟨bp, op + i * 32, none⟩) := hP 2 (by kernel_rfl)
            exact rop_ld _ _ rfl e34 (load_sumP HPl.out (below_range' hB hbpW HRP.out)) (wanted_none rfl) (hK _ _ (le8_refl _) rfl)
          · intro ac w' hF hL hP hU K hK
            have hB := below_undrew hL
            have e6 : ac.eval (.tmp 6) = .pointer (some ⟨q, 0, none⟩) := hF.at 6 (by kernel_rfl)
            exact rop_ld _ _ rfl e6 (load_sumP HXl.out (range_var (IsH.old HX.out hB))) (wanted_none rfl) (hK _ _ (le8_refl _) rfl)
          · intro ac w' hF hL hP hU K hK
            have hB := below_undrew hL
            have e35 : ac.eval (.tmp 35) = sumV p := hP 3 (by kernel_rfl)
            have e36 : ac.eval (.tmp 36) = sumV X := hP 4 (by kernel_rfl)
            refine rop_call 28 _ _ rfl #[sumV p, sumV X] (by simp [e35, e36]) (by kernel_rfl) (wanted_none rfl) ?_
            refine (HN1.out w').mono ?_
            rintro e w2 ⟨rfl, hb⟩
            exact ⟨_, rfl, hK _ _ hb rfl⟩
          · intro ac w' hF hL hP hU K hK
            have hB := below_undrew hL
            have e37 : ac.eval (.tmp 37) = .string (tS t1) := hP 5 (by kernel_rfl)
            exact rop_assign _ rfl e37 (wanted_none rfl) (hK _ _ (le8_refl _) rfl)
          · intro ac w' hF hB hT
            have e12 : ac.eval (.tmp 12) = .string (tS t1) := hT 6 (by decide)
            rw [hF.setsG [32, 33, 34, 35, 36, 37, 12] (by kernel_rfl)]
            simp only [List.foldl_cons, List.foldl_nil, List.setIfInBounds_toArray, List.set_cons_succ, List.set_cons_zero, e12]
            generalize ac.eval (.tmp 32) = u32
            generalize ac.eval (.tmp 33) = u33
            generalize ac.eval (.tmp 34) = u34
            generalize ac.eval (.tmp 35) = u35
            generalize ac.eval (.tmp 36) = u36
            generalize ac.eval (.tmp 37) = u37
            clear e12 hT hF ac
            have b6 := hB
            have HX6 := IsH.old HX.out b6
            have ho6 := HO.out.kept b6
            have hbl6 := HBEL.out.trans (Only.of_below b6)
            have hlt6 := (Array.getElem?_eq_some_iff.1 HX6).1
            obtain ⟨v2, w2, hr2, ho2, b2, g2⟩ := tappend_own 52 t1 ho6 hbl6.size (by omega)
            have hX2 : IsH X w2 q := (g2.block _ (by simp; omega) (fun e => ho6.not HX6 ne_text2 e.symm)).trans ((Below.heap_alloc _ _ _ hlt6).trans HX6)
            obtain ⟨ua, uc, rfl⟩ := ho2.texts.slice
            have HR := Lib.hid hr2
            have HO2 := Lib.hid ho2
            have HX2 := Lib.hid hX2
            have HB2 := Lib.hid (only_below hbl6 b2)
            obtain ⟨n1, hn1⟩ : ∃ n, n = (L ++ [t1]).length := ⟨_, rfl⟩
            rw [← hn1] at HR HO2
            unfold tV at HR
            clear hB b6 HX6 ho6 hbl6 hlt6 hr2 ho2 b2 g2 hX2 hn1
            go_wp2_with (first
              | (at_builtin; refine Lib.wpList_append_run _ rfl _ _ _ _ rfl _ _ rfl rfl _ _ HR.out ?_)
              | (go_at_call 15; refine (HOF.out _ _ rfl).mono ?_; rintro e w5 ⟨rfl, b5⟩; have HX5 := Lib.hid (IsH.old HX2.out b5); have HO5 := Lib.hid (HO2.out.kept b5); have HB5 := Lib.hid (HB2.out.trans (Only.of_below b5)); clear b5)
              | refine wpList_store_mid rfl 24 (.tmp 6) (.tmp 43) rfl q 0 (Y.map u8V).toArray rfl rfl (sum_thereP HX5.out HXl.out HYl.out) (sum_info HYl.out) (sum_one Y) ?_)
            have hfar : Only q w5 (w5.setCells q 0 (Y.map u8V)) := only_setCells (b := q) (Y.map u8V) 0 _ (Only.refl _ _)
            exact ⟨⟨i + 1, Y, _, by simp, by rw [HPk.out]; omega, by simp; omega, HLD2.out, HO5.out.kept' (fun g e => hfar.block g (World.ownsRow.lt HO5.out g e).2 (fun e' => HO5.out.not HX5.out ne_text2 (by rw [e, e']))), set_sumP w5 q X Y HXl.out HYl.out HX5.out, HYl.out, HB5.out.trans hfar⟩, by simp [intOf]; omega⟩
        | false =>
          obtain ⟨Y, hY⟩ : ∃ Y, Y = Sha.digest t0 := ⟨_, rfl⟩
          have HYl : Hid (Y.length = 32) := Lib.hid (by rw [hY]; exact Sha.digest_length _)
          have HLD2 := Lib.hid (hLD2 t0 Y ht0 hY)
          have HOF : Hid (∀ S u, S = tS t0 → Calls Tryd.prog 15 #[.string S] u fun e w' => e = .returned (sumV Y) ∧ Below u.heap.size u w') := Lib.hid fun S u hS => by rw [hS, hY]; exact rof_any _ _ (tS_list _) u (by omega)
          clear hLD2 hY ht0 ht1
          have hB : Below W6.heap.size W6 W6 := Below.refl _ _
          have b6 := hB
          have HX6 := IsH.old HX.out b6
          have ho6 := HO.out.kept b6
          have hbl6 := HBEL.out.trans (Only.of_below b6)
          have hlt6 := (Array.getElem?_eq_some_iff.1 HX6).1
          obtain ⟨v2, w2, hr2, ho2, b2, g2⟩ := tappend_own 52 t0 ho6 hbl6.size (by omega)
          have hX2 : IsH X w2 q := (g2.block _ (by simp; omega) (fun e => ho6.not HX6 ne_text2 e.symm)).trans ((Below.heap_alloc _ _ _ hlt6).trans HX6)
          obtain ⟨ua, uc, rfl⟩ := ho2.texts.slice
          have HR := Lib.hid hr2
          have HO2 := Lib.hid ho2
          have HX2 := Lib.hid hX2
          have HB2 := Lib.hid (only_below hbl6 b2)
          obtain ⟨n1, hn1⟩ : ∃ n, n = (L ++ [t0]).length := ⟨_, rfl⟩
          rw [← hn1] at HR HO2
          unfold tV at HR
          clear hB b6 HX6 ho6 hbl6 hlt6 hr2 ho2 b2 g2 hX2 hn1
          go_wp2_with (first
            | (at_builtin; refine Lib.wpList_append_run _ rfl _ _ _ _ rfl _ _ rfl rfl _ _ HR.out ?_)
            | (go_at_call 15; refine (HOF.out _ _ rfl).mono ?_; rintro e w5 ⟨rfl, b5⟩; have HX5 := Lib.hid (IsH.old HX2.out b5); have HO5 := Lib.hid (HO2.out.kept b5); have HB5 := Lib.hid (HB2.out.trans (Only.of_below b5)); clear b5)
            | refine wpList_store_mid rfl 24 (.tmp 6) (.tmp 43) rfl q 0 (Y.map u8V).toArray rfl rfl (sum_thereP HX5.out HXl.out HYl.out) (sum_info HYl.out) (sum_one Y) ?_)
          have hfar : Only q w5 (w5.setCells q 0 (Y.map u8V)) := only_setCells (b := q) (Y.map u8V) 0 _ (Only.refl _ _)
          exact ⟨⟨i + 1, Y, _, by simp, by rw [HPk.out]; omega, by simp; omega, HLD2.out, HO5.out.kept' (fun g e => hfar.block g (World.ownsRow.lt HO5.out g e).2 (fun e' => HO5.out.not HX5.out ne_text2 (by rw [e, e']))), set_sumP w5 q X Y HXl.out HYl.out HX5.out, HYl.out, HB5.out.trans hfar⟩, by simp [intOf]; omega⟩
    · have hik' : ¬ (i : Int) < (k : Int) := by omega
      obtain rfl : k = i := by omega
      rw [List.drop_eq_nil_of_le (by rw [HPk.out]; exact Nat.le_refl _), Tree.wayL_nil, List.append_nil] at hLD
      have HF := Lib.hid (And.intro ho.texts (HB0.out.trans (hbel.below (Nat.le_refl _) (Nat.le_of_lt hqV))))
      have HLD := Lib.hid hLD
      clear ho hLD hX hXl hbel
      go_wp2
      go_ret
      refine ⟨_, rfl, ?_⟩
      rw [← Hq.out, ← HLD.out]
      exact HF.out
set_option maxHeartbeats 4000000 in
set_option maxRecDepth 100000 in
theorem rlinked_any (x : List UInt8) (hx : x.length = 32) (m n : Int) (v : Value) (P0 : Hs) (w : World) (hv : Sums w v P0) (hP0 : P0.length ≤ 1000) (hok : bothLen m n P0 = true) :
    Calls Tryd.prog 36 #[.int .i64 m, .int .i64 n, sumV x, v] w fun e w' => ∃ v', e = .returned v' ∧ Texts w' v' (lwayZ x m n P0) ∧ Below w.heap.size w w' := by
  obtain ⟨va0, cap0, rfl, hlc, hcap⟩ := hv.slice
  obtain ⟨h1, h2⟩ := bothLen_t hok
  have h3 := okL_t h1
  obtain ⟨M, rfl⟩ := Int.eq_ofNat_of_zero_le (show 0 ≤ m by omega)
  obtain ⟨N, rfl⟩ := Int.eq_ofNat_of_zero_le (show 0 ≤ n by omega)
  obtain ⟨D, hL⟩ : ∃ L, L = lwayZ x (M : Int) (N : Int) P0 := ⟨_, rfl⟩
  have hL2 : D = Tree.wayL (Tree.startL x M N P0) (Tree.restL M N P0) (Tree.inw M N).reverse := hL
  simp only [Int.toNat_natCast] at h2
  rw [← hL]
  obtain ⟨k0, hk0⟩ : ∃ k, k = P0.length := ⟨_, rfl⟩
  obtain ⟨T, hT⟩ : ∃ T, T = (Tree.inw M N).reverse := ⟨_, rfl⟩
  have hTl : T.length = (Tree.inw M N).length := by rw [hT, List.length_reverse]
  have hll := Tree.llong_inw _ M N true (by omega) (by omega) (Nat.le_refl _)
  have h40 := inw_40 M N (by omega) (by omega) (by omega)
  obtain ⟨kt, hkt⟩ : ∃ kt, kt = T.length := ⟨_, rfl⟩
  have HSI : Hid (∀ u, Calls Tryd.prog 57 #[.int .i64 (M : Int), .int .i64 (N : Int)] u fun e w' => ∃ b c, e = .returned (.slice b kt c) ∧ OwnB u.heap.size w' (.slice b kt c) T ∧ Below u.heap.size u w') := Lib.hid fun u => by
    rw [hkt, hT]
    refine (sides_any M N u (by omega) (by omega) (by omega)).mono fun e w' ⟨v', he, ho, hb⟩ => ?_
    obtain ⟨b, c, rfl, -, -⟩ := ho.bools.slice
    exact ⟨b, c, he, ho, hb⟩
  obtain ⟨w0, hw0⟩ : ∃ w0, w0 = w.alloc (.cells (x.map u8V).toArray 24) := ⟨_, rfl⟩
  have b0 : Below w.heap.size w w0 := by rw [hw0]; exact (Below.refl _ _).alloc (Nat.le_refl _) _
  have hx1 : IsH x w0 w.heap.size := by rw [hw0]; exact heap_alloc_last w _
  have hwl : w.heap.size < w0.heap.size := (Array.getElem?_eq_some_iff.1 hx1).1
  have HXl := Lib.hid hx
  have H1 := Lib.hid hx1
  have HB := Lib.hid b0
  rw [← hk0] at hv ⊢
  cases hl : Tree.lead M N true with
  | true =>
    rw [hl, if_pos rfl] at hll
    have hki : k0 = kt + 1 := by rw [hk0, h2, hll, hkt, hTl]
    have hgt : (kt : Int) < (k0 : Int) := by omega
    have hkp : 0 < k0 := by omega
    obtain ⟨x0, hp⟩ : ∃ p, P0[0]? = some p := ⟨_, List.getElem?_eq_getElem (by omega)⟩
    have hpl : x0.length = 32 := hv.ok x0 (List.mem_of_getElem? hp)
    have hst : Tree.startL x M N P0 = x0 := by
      unfold Tree.startL
      rw [hl, if_pos rfl]
      cases P0 with
      | nil => cases hp
      | cons a P => simpa using hp
    obtain ⟨P, hPP⟩ : ∃ P, P = P0.drop 1 := ⟨_, rfl⟩
    have hrs : Tree.restL M N P0 = P := by
      unfold Tree.restL
      rw [hl, if_pos rfl, hPP]
    have htl := hv.tail 1 (by omega)
    rw [hst, hrs, ← hT] at hL2
    rw [← hk0, ← hPP] at htl
    obtain ⟨k, hk⟩ : ∃ k, k = k0 - 1 := ⟨_, rfl⟩
    have hPk : P.length = k := by rw [hPP, List.length_drop]; omega
    obtain ⟨bp, op, rfl, hbp, -, hrp⟩ := hv.at0 hp
    have hscut := fun u => scut_l (some ⟨bp, op, none⟩) k0 cap0 1 hkp u
    obtain ⟨va, cap, hvc⟩ : ∃ va cap, Value.slice (cutS (some ⟨bp, op, none⟩) 1 cap0) (k0 - 1) (cap0 - 1) = .slice va k cap := ⟨_, _, by rw [hk]⟩
    rw [hvc] at htl hscut
    have hidx := fun u => index_sumsI bp op k0 cap0 0 (0 : Int) rfl hkp u
    have HX0l := Lib.hid hpl
    have HV := Lib.hid htl
    have HD := Lib.hid hL2
    have HPk := Lib.hid hPk
    have HTk : Hid (T.length = k) := Lib.hid (by omega)
    have HKT2 : Hid (kt = k) := Lib.hid (by omega)
    have HPok := Lib.hid htl.ok
    have HRP0 := Lib.hid hrp
    have hk' : k ≤ 1000 := by omega
    clear hL hL2 h1 h2 hk0 hT hTl hll hx hx1 b0 hp hpl hst hrs htl hPk hPP hrp hv hP0 hok h40 hkt hki hlc hcap h3 hvc hk hl
    unfold sumV
    go_enter Tryd.func36, Tryd.ntmps36
    go_upto_region 1 with (fail)
    change Code.wp _ _ _ _ (w.alloc (.cells (x.map u8V).toArray 24))
    rw [← hw0]
    clear hw0
    go_upto_region 2 with (go_at_call 57; ((with_reducible refine (HSI.out _).mono ?_); rintro e V0 ⟨ta, tcap, rfl, hbo, b1⟩; have HTB0 := Lib.hid hbo; clear hbo))
    have HX00 := Lib.hid (IsH.old H1.out b1)
    have HB00 := Lib.hid (below_step HB.out (Nat.le_refl _) b1)
    have HRP1 := Lib.hid (below_range' HB00.out hbp HRP0.out)
    obtain ⟨V, hVV⟩ : ∃ V, V = V0.setCells w.heap.size 0 (x0.map u8V) := ⟨_, rfl⟩
    go_upto_region 5 with (first
      | refine wpList_load_mid rfl 24 (.tmp 22) rfl bp (op + 0 * 32) rfl (x0.map u8V) _ HRP1.out Tryd.underlying24 rfl (sum_info' HX0l.out) ?_
      | refine wpList_store_mid rfl 24 (.tmp 6) (.tmp 23) rfl w.heap.size 0 (x0.map u8V).toArray rfl rfl (sum_thereP HX00.out HXl.out HX0l.out) (sum_info HX0l.out) (sum_one x0) ?_
      | refine wpList_slice_runS rfl 26 (.tmp 24) (some (.const (.int .i64 1))) none none rfl rfl rfl rfl rfl (hscut _) ?_)
    rw [← hVV]
    obtain ⟨q, hq⟩ : ∃ q, q = w.heap.size := ⟨_, rfl⟩
    rw [← hq] at HX00 HB00 hwl hVV ⊢
    have Hq := Lib.hid hq
    have hov : Only q V0 V := by rw [hVV]; exact only_setCells (b := q) (x0.map u8V) 0 _ (Only.refl _ _)
    have HX0 : Hid (IsH x0 V q) := Lib.hid (by rw [hVV]; exact set_sumP V0 q x x0 HXl.out HX0l.out HX00.out)
    have HTB : Hid (OwnB w0.heap.size V (.slice ta kt tcap) T) := Lib.hid (HTB0.out.kept' fun g e => hov.block g (World.ownsRow.lt HTB0.out g e).2 (by have := (World.ownsRow.lt HTB0.out g e).1; omega))
    have HB0 : Hid (Below q w V) := Lib.hid (HB00.out.trans (hov.below (Nat.le_refl _) (Nat.le_of_lt (Array.getElem?_eq_some_iff.1 HX00.out).1)))
    have hqV : q < V.heap.size := (Array.getElem?_eq_some_iff.1 HX0.out).1
    clear hq b1 H1 HB hVV hov HTB0 HB00 HX00 HRP0 HRP1 hidx hscut hgt
    go_wp2
    go_loopw [10, 11] (RWayRel q P T D V) (fun _ s11 _ => k - (intOf s11).toNat)
    case atStart => exact ⟨0, x0, [], rfl, Nat.zero_le _, Nat.le_refl _, by rw [HD.out]; rfl, OwnT.nil _ _, HX0.out, HX0l.out, Only.refl _ _⟩
    case round =>
      obtain ⟨i, X, L, rfl, hi, hLl, hLD, ho, hX, hXl, hbel⟩ := hrel
      rw [HPk.out] at hi
      obtain ⟨oa, oc, rfl⟩ := ho.texts.slice
      by_cases hik : i < k
      · have hik' : (i : Int) < (k : Int) := by omega
        obtain ⟨p, hp⟩ : ∃ p, P[i]? = some p := ⟨_, List.getElem?_eq_getElem (by rw [HPk.out]; exact hik)⟩
        obtain ⟨tb, htb⟩ : ∃ tb, T[i]? = some tb := ⟨_, List.getElem?_eq_getElem (by rw [HTk.out]; exact hik)⟩
        have hpl : p.length = 32 := HPok.out p (List.mem_of_getElem? hp)
        obtain ⟨bp, op, rfl, hbp0, -, hrp0⟩ := HV.out.at0 hp
        have hqwr : q ≤ wr.heap.size := Nat.le_of_lt (Array.getElem?_eq_some_iff.1 hX).1
        have hbpq : bp < q := by rw [Hq.out]; exact hbp0
        have hrp : wr.rangeAt bp (op + i * 32) (p.map u8V) := fun j u hu => (hbel.cell (Nat.lt_trans hbpq hqV) (Nat.ne_of_lt hbpq)).trans (below_range' HB0.out hbpq hrp0 j u hu)
        have hbp : bp < wr.heap.size := Nat.lt_of_lt_of_le hbpq hqwr
        obtain ⟨bt, rfl, hbt1, hbt2, -, hct0⟩ := HTB.out.at0 htb
        have hct : wr.cell? ⟨bt, i, none⟩ = some (.bool tb) := (hbel.cell hbt2 (by omega)).trans hct0
        have hbtW : bt < wr.heap.size := Nat.lt_of_lt_of_le hbt2 hbel.size
        have hidx1 := fun u => index_bools bt 0 kt tcap i (i : Int) rfl (by rw [HKT2.out]; exact hik) u
        rw [Nat.zero_add] at hidx1
        have hwr := IntWalk.i64_in ((i : Int) + 1) (by omega)
        obtain ⟨t0, ht0⟩ : ∃ t, t = Tree.pre X p := ⟨_, rfl⟩
        obtain ⟨t1, ht1⟩ : ∃ t, t = Tree.pre p X := ⟨_, rfl⟩
        have hl0 : t0.length = 65 := by rw [ht0]; exact preS_length X p false hXl hpl
        have hl1 : t1.length = 65 := by rw [ht1]; exact preS_length X p true hXl hpl
        have HN0 : Hid (∀ u, Calls Tryd.prog 28 #[sumV X, sumV p] u fun e w' => e = .returned (.string (tS t0)) ∧ Below u.heap.size u w') := Lib.hid fun u => by rw [ht0]; exact rleafPre_any _ _ hXl hpl u
        have HN1 : Hid (∀ u, Calls Tryd.prog 28 #[sumV p, sumV X] u fun e w' => e = .returned (.string (tS t1)) ∧ Below u.heap.size u w') := Lib.hid fun u => by rw [ht1]; exact rleafPre_any _ _ hpl hXl u
        have hLD2 : ∀ t Y, t = Tree.preS X p tb → Y = Sha.digest t → (L ++ [t]) ++ Tree.wayL Y (P.drop (i + 1)) (T.drop (i + 1)) = D := fun t Y ht hY => by
          obtain ⟨hi1, hi2⟩ := List.getElem?_eq_some_iff.1 hp
          obtain ⟨hj1, hj2⟩ := List.getElem?_eq_some_iff.1 htb
          rw [List.drop_eq_getElem_cons hi1, List.drop_eq_getElem_cons hj1, hi2, hj2, Tree.wayL_cons, Tree.step_pre, ← ht, ← hY] at hLD
          rw [← hLD]
          simp
        have HPl := Lib.hid hpl
        have HXl := Lib.hid hXl
        have HRP0 := Lib.hid hrp
        have HXw := Lib.hid hX
        have HBELw := Lib.hid hbel
        have HOw := Lib.hid ho
        have HCT := Lib.hid hct
        clear hp htb hpl hct0 hrp0 hrp hLD hX hXl hbel ho hct hbp0
        go_upto_region 9 with (fail)
        obtain ⟨W, hW⟩ : ∃ W, W = wr := ⟨_, rfl⟩
        subst hW
        have HX := HXw
        have HRP := HRP0
        have hbpW := hbp
        try simp only [Act.put]
        refine wp_region_tab [RT.is (sumV X), RT.is (.slice (some ⟨bp, op, none⟩) k cap), RT.is (.int .i64 (i : Int)), RT.is (.pointer (some ⟨bp, op + i * 32, none⟩)), RT.is (sumV p), RT.is (.string (tS t0)), RT.is (.string (tS t0))] (by kernel_rfl) (by kernel_rfl) (by kernel_rfl) (by kernel_rfl) ⟨?_, ?_, ?_, ?_, ?_, ?_, ?_, trivial⟩ ?_
        · intro ac w' hF hL hP hU K hK
          have hB := below_undrew hL
          have e6 : ac.eval (.tmp 6) = .pointer (some ⟨q, 0, none⟩) := hF.at 6 (by kernel_rfl)
          exact rop_ld _ _ rfl e6 (load_sumP HXl.out (range_var (IsH.old HX.out hB))) (wanted_none rfl) (hK _ _ (le8_refl _) rfl)
        · intro ac w' hF hL hP hU K hK
          have hB := below_undrew hL
          have e3 : ac.eval (.tmp 3) = .slice (some ⟨bp, op, none⟩) k cap := hF.at 3 (by kernel_rfl)
          exact rop_move _ rfl e3 (wanted_none rfl) (hK _ _ (le8_refl _) rfl)
        · intro ac w' hF hL hP hU K hK
          have hB := below_undrew hL
          have e11 : ac.eval (.tmp 11) = .int .i64 (i : Int) := hF.at 11 (by kernel_rfl)
          exact rop_move _ rfl e11 (wanted_none rfl) (hK _ _ (le8_refl _) rfl)
        · intro ac w' hF hL hP hU K hK
          have hB := below_undrew hL
          have e33 : ac.eval (.tmp 33) = .slice (some ⟨bp, op, none⟩) k cap := hP 1 (by kernel_rfl)
          have e34 : ac.eval (.tmp 34) = .int .i64 (i : Int) := hP 2 (by kernel_rfl)
          exact rop_idx _ _ _ rfl e33 e34 (index_sums bp op k cap i hik w') (wanted_none rfl) (hK _ _ (le8_refl _) rfl)
        · intro ac w' hF hL hP hU K hK
          have hB := below_undrew hL
          have e35 : ac.eval (.tmp 35) = .pointer (some ⟨bp, op + i * 32, none⟩) := hP 3 (by kernel_rfl)
          exact rop_ld _ _ rfl e35 (load_sumP HPl.out (below_range' hB hbpW HRP.out)) (wanted_none rfl) (hK _ _ (le8_refl _) rfl)
        · intro ac w' hF hL hP hU K hK
          have hB := below_undrew hL
          have e32 : ac.eval (.tmp 32) = sumV X := hP 0 (by kernel_rfl)
          have e36 : ac.eval (.tmp 36) = sumV p := hP 4 (by kernel_rfl)
          refine rop_call 28 _ _ rfl #[sumV X, sumV p] (by simp [e32, e36]) (by kernel_rfl) (wanted_none rfl) ?_
          refine (HN0.out w').mono ?_
          rintro e w2 ⟨rfl, hb⟩
          exact ⟨_, rfl, hK _ _ hb rfl⟩
        · intro ac w' hF hL hP hU K hK
          have hB := below_undrew hL
          have e37 : ac.eval (.tmp 37) = .string (tS t0) := hP 5 (by kernel_rfl)
          exact rop_assign _ rfl e37 (wanted_none rfl) (hK _ _ (le8_refl _) rfl)
        · intro ac w' hF hB hT
          have e12 : ac.eval (.tmp 12) = .string (tS t0) := hT 6 (by decide)
          rw [hF.setsG [32, 33, 34, 35, 36, 37, 12] (by kernel_rfl)]
          simp only [List.foldl_cons, List.foldl_nil, List.setIfInBounds_toArray, List.set_cons_succ, List.set_cons_zero, e12]
          generalize ac.eval (.tmp 32) = u32
          generalize ac.eval (.tmp 33) = u33
          generalize ac.eval (.tmp 34) = u34
          generalize ac.eval (.tmp 35) = u35
          generalize ac.eval (.tmp 36) = u36
          generalize ac.eval (.tmp 37) = u37
          clear e12 hT hF ac
          have b1 := hB
          obtain ⟨W6, hW6⟩ : ∃ W6, W6 = w' := ⟨_, rfl⟩
          subst hW6
          have hct6 : W6.cell? ⟨bt, i, none⟩ = some (.bool tb) := (b1.cell (p := ⟨bt, i, none⟩) hbtW).trans HCT.out
          have HX6 := Lib.hid (IsH.old HXw.out b1)
          have HO6 := Lib.hid (HOw.out.kept b1)
          have HBEL6 := Lib.hid (HBELw.out.trans (Only.of_below b1))
          have hqW6 : q ≤ W6.heap.size := Nat.le_trans hqwr b1.size
          have HRP6 := Lib.hid (below_range' b1 hbp HRP0.out)
          have hbp6 : bp < W6.heap.size := Nat.lt_of_lt_of_le hbp b1.size
          clear hB b1 HX HRP hbpW HXw HRP0 HBELw HOw hqwr
          have HX := HX6
          have HO := HO6
          have HBEL := HBEL6
          have hqwr := hqW6
          cases tb with
          | true =>
            obtain ⟨Y, hY⟩ : ∃ Y, Y = Sha.digest t1 := ⟨_, rfl⟩
            have HYl : Hid (Y.length = 32) := Lib.hid (by rw [hY]; exact Sha.digest_length _)
            have HLD2 := Lib.hid (hLD2 t1 Y ht1 hY)
            have HOF : Hid (∀ S u, S = tS t1 → Calls Tryd.prog 15 #[.string S] u fun e w' => e = .returned (sumV Y) ∧ Below u.heap.size u w') := Lib.hid fun S u hS => by rw [hS, hY]; exact rof_any _ _ (tS_list _) u (by omega)
            clear hLD2 hY ht0 ht1
            go_upto_region 11 with (fail)
            obtain ⟨W, hW⟩ : ∃ W, W = W6 := ⟨_, rfl⟩
            subst hW
            have HRP := HRP6
            have hbpW := hbp6
            try simp only [Act.put]
            refine wp_region_tab [RT.is (.slice (some ⟨bp, op, none⟩) k cap), RT.is (.int .i64 (i : Int)), RT.is (.pointer (some ⟨bp, op + i * 32, none⟩)), RT.is (sumV p), RT.is (sumV X), RT.is (.string (tS t1)), RT.is (.string (tS t1))] (by kernel_rfl) (by kernel_rfl) (by kernel_rfl) (by kernel_rfl) ⟨?_, ?_, ?_, ?_, ?_, ?_, ?_, trivial⟩ ?_
            · intro ac w' hF hL hP hU K hK
              have hB := below_undrew hL
              have e3 : ac.eval (.tmp 3) = .slice (some ⟨bp, op, none⟩) k cap := hF.at 3 (by kernel_rfl)
              exact rop_move _ rfl e3 (wanted_none rfl) (hK _ _ (le8_refl _) rfl)
            · intro ac w' hF hL hP hU K hK
              have hB := below_undrew hL
              have e11 : ac.eval (.tmp 11) = .int .i64 (i : Int) := hF.at 11 (by kernel_rfl)
              exact rop_move _ rfl e11 (wanted_none rfl) (hK _ _ (le8_refl _) rfl)
            · intro ac w' hF hL hP hU K hK
              have hB := below_undrew hL
              have e42 : ac.eval (.tmp 42) = .slice (some ⟨bp, op, none⟩) k cap := hP 0 (by kernel_rfl)
              have e43 : ac.eval (.tmp 43) = .int .i64 (i : Int) := hP 1 (by kernel_rfl)
              exact rop_idx _ _ _ rfl e42 e43 (index_sums bp op k cap i hik w') (wanted_none rfl) (hK _ _ (le8_refl _) rfl)
            · intro ac w' hF hL hP hU K hK
              have hB := below_undrew hL
              have e44 : ac.eval (.tmp 44) = .pointer (some ⟨bp, op + i * 32, none⟩) := hP 2 (by kernel_rfl)
              exact rop_ld _ _ rfl e44 (load_sumP HPl.out (below_range' hB hbpW HRP.out)) (wanted_none rfl) (hK _ _ (le8_refl _) rfl)
            · intro ac w' hF hL hP hU K hK
              have hB := below_undrew hL
              have e6 : ac.eval (.tmp 6) = .pointer (some ⟨q, 0, none⟩) := hF.at 6 (by kernel_rfl)
              exact rop_ld _ _ rfl e6 (load_sumP HXl.out (range_var (IsH.old HX.out hB))) (wanted_none rfl) (hK _ _ (le8_refl _) rfl)
            · intro ac w' hF hL hP hU K hK
              have hB := below_undrew hL
              have e45 : ac.eval (.tmp 45) = sumV p := hP 3 (by kernel_rfl)
              have e46 : ac.eval (.tmp 46) = sumV X := hP 4 (by kernel_rfl)
              refine rop_call 28 _ _ rfl #[sumV p, sumV X] (by simp [e45, e46]) (by kernel_rfl) (wanted_none rfl) ?_
              refine (HN1.out w').mono ?_
              rintro e w2 ⟨rfl, hb⟩
              exact ⟨_, rfl, hK _ _ hb rfl⟩
            · intro ac w' hF hL hP hU K hK
              have hB := below_undrew hL
              have e47 : ac.eval (.tmp 47) = .string (tS t1) := hP 5 (by kernel_rfl)
              exact rop_assign _ rfl e47 (wanted_none rfl) (hK _ _ (le8_refl _) rfl)
            · intro ac w' hF hB hT
              have e12 : ac.eval (.tmp 12) = .string (tS t1) := hT 6 (by decide)
              rw [hF.setsG [42, 43, 44, 45, 46, 47, 12] (by kernel_rfl)]
              simp only [List.foldl_cons, List.foldl_nil, List.setIfInBounds_toArray, List.set_cons_succ, List.set_cons_zero, e12]
              generalize ac.eval (.tmp 42) = u42
              generalize ac.eval (.tmp 43) = u43
              generalize ac.eval (.tmp 44) = u44
              generalize ac.eval (.tmp 45) = u45
              generalize ac.eval (.tmp 46) = u46
              generalize ac.eval (.tmp 47) = u47
              clear e12 hT hF ac
              have b6 := hB
              have HX6 := IsH.old HX.out b6
              have ho6 := HO.out.kept b6
              have hbl6 := HBEL.out.trans (Only.of_below b6)
              have hlt6 := (Array.getElem?_eq_some_iff.1 HX6).1
              obtain ⟨v2, w2, hr2, ho2, b2, g2⟩ := tappend_own 52 t1 ho6 hbl6.size (by omega)
              have hX2 : IsH X w2 q := (g2.block _ (by simp; omega) (fun e => ho6.not HX6 ne_text2 e.symm)).trans ((Below.heap_alloc _ _ _ hlt6).trans HX6)
              obtain ⟨ua, uc, rfl⟩ := ho2.texts.slice
              have HR := Lib.hid hr2
              have HO2 := Lib.hid ho2
              have HX2 := Lib.hid hX2
              have HB2 := Lib.hid (only_below hbl6 b2)
              obtain ⟨n1, hn1⟩ : ∃ n, n = (L ++ [t1]).length := ⟨_, rfl⟩
              rw [← hn1] at HR HO2
              unfold tV at HR
              clear hB b6 HX6 ho6 hbl6 hlt6 hr2 ho2 b2 g2 hX2 hn1
              go_wp2_with (first
                | (at_builtin; refine Lib.wpList_append_run _ rfl _ _ _ _ rfl _ _ rfl rfl _ _ HR.out ?_)
                | (go_at_call 15; refine (HOF.out _ _ rfl).mono ?_; rintro e w5 ⟨rfl, b5⟩; have HX5 := Lib.hid (IsH.old HX2.out b5); have HO5 := Lib.hid (HO2.out.kept b5); have HB5 := Lib.hid (HB2.out.trans (Only.of_below b5)); clear b5)
                | refine wpList_store_mid rfl 24 (.tmp 6) (.tmp 53) rfl q 0 (Y.map u8V).toArray rfl rfl (sum_thereP HX5.out HXl.out HYl.out) (sum_info HYl.out) (sum_one Y) ?_)
              have hfar : Only q w5 (w5.setCells q 0 (Y.map u8V)) := only_setCells (b := q) (Y.map u8V) 0 _ (Only.refl _ _)
              exact ⟨⟨i + 1, Y, _, by simp, by rw [HPk.out]; omega, by simp; omega, HLD2.out, HO5.out.kept' (fun g e => hfar.block g (World.ownsRow.lt HO5.out g e).2 (fun e' => HO5.out.not HX5.out ne_text2 (by rw [e, e']))), set_sumP w5 q X Y HXl.out HYl.out HX5.out, HYl.out, HB5.out.trans hfar⟩, by simp [intOf]; omega⟩
          | false =>
            obtain ⟨Y, hY⟩ : ∃ Y, Y = Sha.digest t0 := ⟨_, rfl⟩
            have HYl : Hid (Y.length = 32) := Lib.hid (by rw [hY]; exact Sha.digest_length _)
            have HLD2 := Lib.hid (hLD2 t0 Y ht0 hY)
            have HOF : Hid (∀ S u, S = tS t0 → Calls Tryd.prog 15 #[.string S] u fun e w' => e = .returned (sumV Y) ∧ Below u.heap.size u w') := Lib.hid fun S u hS => by rw [hS, hY]; exact rof_any _ _ (tS_list _) u (by omega)
            clear hLD2 hY ht0 ht1
            have hB : Below W6.heap.size W6 W6 := Below.refl _ _
            have b6 := hB
            have HX6 := IsH.old HX.out b6
            have ho6 := HO.out.kept b6
            have hbl6 := HBEL.out.trans (Only.of_below b6)
            have hlt6 := (Array.getElem?_eq_some_iff.1 HX6).1
            obtain ⟨v2, w2, hr2, ho2, b2, g2⟩ := tappend_own 52 t0 ho6 hbl6.size (by omega)
            have hX2 : IsH X w2 q := (g2.block _ (by simp; omega) (fun e => ho6.not HX6 ne_text2 e.symm)).trans ((Below.heap_alloc _ _ _ hlt6).trans HX6)
            obtain ⟨ua, uc, rfl⟩ := ho2.texts.slice
            have HR := Lib.hid hr2
            have HO2 := Lib.hid ho2
            have HX2 := Lib.hid hX2
            have HB2 := Lib.hid (only_below hbl6 b2)
            obtain ⟨n1, hn1⟩ : ∃ n, n = (L ++ [t0]).length := ⟨_, rfl⟩
            rw [← hn1] at HR HO2
            unfold tV at HR
            clear hB b6 HX6 ho6 hbl6 hlt6 hr2 ho2 b2 g2 hX2 hn1
            go_wp2_with (first
              | (at_builtin; refine Lib.wpList_append_run _ rfl _ _ _ _ rfl _ _ rfl rfl _ _ HR.out ?_)
              | (go_at_call 15; refine (HOF.out _ _ rfl).mono ?_; rintro e w5 ⟨rfl, b5⟩; have HX5 := Lib.hid (IsH.old HX2.out b5); have HO5 := Lib.hid (HO2.out.kept b5); have HB5 := Lib.hid (HB2.out.trans (Only.of_below b5)); clear b5)
              | refine wpList_store_mid rfl 24 (.tmp 6) (.tmp 53) rfl q 0 (Y.map u8V).toArray rfl rfl (sum_thereP HX5.out HXl.out HYl.out) (sum_info HYl.out) (sum_one Y) ?_)
            have hfar : Only q w5 (w5.setCells q 0 (Y.map u8V)) := only_setCells (b := q) (Y.map u8V) 0 _ (Only.refl _ _)
            exact ⟨⟨i + 1, Y, _, by simp, by rw [HPk.out]; omega, by simp; omega, HLD2.out, HO5.out.kept' (fun g e => hfar.block g (World.ownsRow.lt HO5.out g e).2 (fun e' => HO5.out.not HX5.out ne_text2 (by rw [e, e']))), set_sumP w5 q X Y HXl.out HYl.out HX5.out, HYl.out, HB5.out.trans hfar⟩, by simp [intOf]; omega⟩
      · have hik' : ¬ (i : Int) < (k : Int) := by omega
        obtain rfl : k = i := by omega
        rw [List.drop_eq_nil_of_le (by rw [HPk.out]; exact Nat.le_refl _), Tree.wayL_nil, List.append_nil] at hLD
        have HF := Lib.hid (And.intro ho.texts (HB0.out.trans (hbel.below (Nat.le_refl _) (Nat.le_of_lt hqV))))
        have HLD := Lib.hid hLD
        clear ho hLD hX hXl hbel
        go_wp2
        go_ret
        refine ⟨_, rfl, ?_⟩
        rw [← Hq.out, ← HLD.out]
        exact HF.out
  | false =>
    rw [hl] at hll
    have hki : k0 = kt := by rw [hk0, h2, hll, hkt, hTl]; rfl
    have hgt : ¬ (kt : Int) < (k0 : Int) := by omega
    have hst : Tree.startL x M N P0 = x := by
      unfold Tree.startL
      rw [hl]
      rfl
    have hrs : Tree.restL M N P0 = P0 := by
      unfold Tree.restL
      rw [hl]
      rfl
    rw [hst, hrs, ← hT] at hL2
    obtain ⟨k, hk⟩ : ∃ k, k = k0 := ⟨_, rfl⟩
    rw [← hk] at hv hgt ⊢
    obtain ⟨cap, hcc⟩ : ∃ c, c = cap0 := ⟨_, rfl⟩
    rw [← hcc] at hv ⊢
    clear hcc
    obtain ⟨x0, hx0⟩ : ∃ x0, x0 = x := ⟨_, rfl⟩
    obtain ⟨P, hPP⟩ : ∃ P, P = P0 := ⟨_, rfl⟩
    rw [← hPP] at hL2 hv
    rw [← hx0] at hL2 H1 HXl hw0 ⊢
    have hPk : P.length = k := by rw [hPP]; omega
    have HX0l := HXl
    have HV := Lib.hid hv
    have HD := Lib.hid hL2
    have HPk := Lib.hid hPk
    have HTk : Hid (T.length = k) := Lib.hid (by omega)
    have HKT2 : Hid (kt = k) := Lib.hid (by omega)
    have HPok := Lib.hid hv.ok
    have hk' : k ≤ 1000 := by omega
    clear hL hL2 h1 h2 hk0 hT hTl hll hx hx1 b0 hst hrs hPk hPP hv hP0 hok h40 hkt hki hlc hcap h3 hk hl hx0
    unfold sumV
    go_enter Tryd.func36, Tryd.ntmps36
    go_upto_region 1 with (fail)
    change Code.wp _ _ _ _ (w.alloc (.cells (x0.map u8V).toArray 24))
    rw [← hw0]
    clear hw0
    go_upto_region 5 with (go_at_call 57; ((with_reducible refine (HSI.out _).mono ?_); rintro e V ⟨ta, tcap, rfl, hbo, b1⟩; have HTB := Lib.hid hbo; clear hbo))
    have HX0 := Lib.hid (IsH.old H1.out b1)
    have HB0 := Lib.hid (below_step HB.out (Nat.le_refl _) b1)
    obtain ⟨q, hq⟩ : ∃ q, q = w.heap.size := ⟨_, rfl⟩
    rw [← hq] at HX0 HB0 hwl ⊢
    have Hq := Lib.hid hq
    have hqV : q < V.heap.size := (Array.getElem?_eq_some_iff.1 HX0.out).1
    have e20 : decide (kt < k) = false := decide_eq_false (by rw [HKT2.out]; omega)
    simp only [e20]
    clear hq b1 H1 HB HXl hgt e20
    go_wp2
    go_loopw [10, 11] (RWayRel q P T D V) (fun _ s11 _ => k - (intOf s11).toNat)
    case atStart => exact ⟨0, x0, [], rfl, Nat.zero_le _, Nat.le_refl _, by rw [HD.out]; rfl, OwnT.nil _ _, HX0.out, HX0l.out, Only.refl _ _⟩
    case round =>
      obtain ⟨i, X, L, rfl, hi, hLl, hLD, ho, hX, hXl, hbel⟩ := hrel
      rw [HPk.out] at hi
      obtain ⟨oa, oc, rfl⟩ := ho.texts.slice
      by_cases hik : i < k
      · have hik' : (i : Int) < (k : Int) := by omega
        obtain ⟨p, hp⟩ : ∃ p, P[i]? = some p := ⟨_, List.getElem?_eq_getElem (by rw [HPk.out]; exact hik)⟩
        obtain ⟨tb, htb⟩ : ∃ tb, T[i]? = some tb := ⟨_, List.getElem?_eq_getElem (by rw [HTk.out]; exact hik)⟩
        have hpl : p.length = 32 := HPok.out p (List.mem_of_getElem? hp)
        obtain ⟨bp, op, rfl, hbp0, -, hrp0⟩ := HV.out.at0 hp
        have hqwr : q ≤ wr.heap.size := Nat.le_of_lt (Array.getElem?_eq_some_iff.1 hX).1
        have hbpq : bp < q := by rw [Hq.out]; exact hbp0
        have hrp : wr.rangeAt bp (op + i * 32) (p.map u8V) := fun j u hu => (hbel.cell (Nat.lt_trans hbpq hqV) (Nat.ne_of_lt hbpq)).trans (below_range' HB0.out hbpq hrp0 j u hu)
        have hbp : bp < wr.heap.size := Nat.lt_of_lt_of_le hbpq hqwr
        obtain ⟨bt, rfl, hbt1, hbt2, -, hct0⟩ := HTB.out.at0 htb
        have hct : wr.cell? ⟨bt, i, none⟩ = some (.bool tb) := (hbel.cell hbt2 (by omega)).trans hct0
        have hbtW : bt < wr.heap.size := Nat.lt_of_lt_of_le hbt2 hbel.size
        have hidx1 := fun u => index_bools bt 0 kt tcap i (i : Int) rfl (by rw [HKT2.out]; exact hik) u
        rw [Nat.zero_add] at hidx1
        have hwr := IntWalk.i64_in ((i : Int) + 1) (by omega)
        obtain ⟨t0, ht0⟩ : ∃ t, t = Tree.pre X p := ⟨_, rfl⟩
        obtain ⟨t1, ht1⟩ : ∃ t, t = Tree.pre p X := ⟨_, rfl⟩
        have hl0 : t0.length = 65 := by rw [ht0]; exact preS_length X p false hXl hpl
        have hl1 : t1.length = 65 := by rw [ht1]; exact preS_length X p true hXl hpl
        have HN0 : Hid (∀ u, Calls Tryd.prog 28 #[sumV X, sumV p] u fun e w' => e = .returned (.string (tS t0)) ∧ Below u.heap.size u w') := Lib.hid fun u => by rw [ht0]; exact rleafPre_any _ _ hXl hpl u
        have HN1 : Hid (∀ u, Calls Tryd.prog 28 #[sumV p, sumV X] u fun e w' => e = .returned (.string (tS t1)) ∧ Below u.heap.size u w') := Lib.hid fun u => by rw [ht1]; exact rleafPre_any _ _ hpl hXl u
        have hLD2 : ∀ t Y, t = Tree.preS X p tb → Y = Sha.digest t → (L ++ [t]) ++ Tree.wayL Y (P.drop (i + 1)) (T.drop (i + 1)) = D := fun t Y ht hY => by
          obtain ⟨hi1, hi2⟩ := List.getElem?_eq_some_iff.1 hp
          obtain ⟨hj1, hj2⟩ := List.getElem?_eq_some_iff.1 htb
          rw [List.drop_eq_getElem_cons hi1, List.drop_eq_getElem_cons hj1, hi2, hj2, Tree.wayL_cons, Tree.step_pre, ← ht, ← hY] at hLD
          rw [← hLD]
          simp
        have HPl := Lib.hid hpl
        have HXl := Lib.hid hXl
        have HRP0 := Lib.hid hrp
        have HXw := Lib.hid hX
        have HBELw := Lib.hid hbel
        have HOw := Lib.hid ho
        have HCT := Lib.hid hct
        clear hp htb hpl hct0 hrp0 hrp hLD hX hXl hbel ho hct hbp0
        go_upto_region 9 with (fail)
        obtain ⟨W, hW⟩ : ∃ W, W = wr := ⟨_, rfl⟩
        subst hW
        have HX := HXw
        have HRP := HRP0
        have hbpW := hbp
        try simp only [Act.put]
        refine wp_region_tab [RT.is (sumV X), RT.is (.slice (some ⟨bp, op, none⟩) k cap), RT.is (.int .i64 (i : Int)), RT.is (.pointer (some ⟨bp, op + i * 32, none⟩)), RT.is (sumV p), RT.is (.string (tS t0)), RT.is (.string (tS t0))] (by kernel_rfl) (by kernel_rfl) (by kernel_rfl) (by kernel_rfl) ⟨?_, ?_, ?_, ?_, ?_, ?_, ?_, trivial⟩ ?_
        · intro ac w' hF hL hP hU K hK
          have hB := below_undrew hL
          have e6 : ac.eval (.tmp 6) = .pointer (some ⟨q, 0, none⟩) := hF.at 6 (by kernel_rfl)
          exact rop_ld _ _ rfl e6 (load_sumP HXl.out (range_var (IsH.old HX.out hB))) (wanted_none rfl) (hK _ _ (le8_refl _) rfl)
        · intro ac w' hF hL hP hU K hK
          have hB := below_undrew hL
          have e3 : ac.eval (.tmp 3) = .slice (some ⟨bp, op, none⟩) k cap := hF.at 3 (by kernel_rfl)
          exact rop_move _ rfl e3 (wanted_none rfl) (hK _ _ (le8_refl _) rfl)
        · intro ac w' hF hL hP hU K hK
          have hB := below_undrew hL
          have e11 : ac.eval (.tmp 11) = .int .i64 (i : Int) := hF.at 11 (by kernel_rfl)
          exact rop_move _ rfl e11 (wanted_none rfl) (hK _ _ (le8_refl _) rfl)
        · intro ac w' hF hL hP hU K hK
          have hB := below_undrew hL
          have e33 : ac.eval (.tmp 33) = .slice (some ⟨bp, op, none⟩) k cap := hP 1 (by kernel_rfl)
          have e34 : ac.eval (.tmp 34) = .int .i64 (i : Int) := hP 2 (by kernel_rfl)
          exact rop_idx _ _ _ rfl e33 e34 (index_sums bp op k cap i hik w') (wanted_none rfl) (hK _ _ (le8_refl _) rfl)
        · intro ac w' hF hL hP hU K hK
          have hB := below_undrew hL
          have e35 : ac.eval (.tmp 35) = .pointer (some ⟨bp, op + i * 32, none⟩) := hP 3 (by kernel_rfl)
          exact rop_ld _ _ rfl e35 (load_sumP HPl.out (below_range' hB hbpW HRP.out)) (wanted_none rfl) (hK _ _ (le8_refl _) rfl)
        · intro ac w' hF hL hP hU K hK
          have hB := below_undrew hL
          have e32 : ac.eval (.tmp 32) = sumV X := hP 0 (by kernel_rfl)
          have e36 : ac.eval (.tmp 36) = sumV p := hP 4 (by kernel_rfl)
          refine rop_call 28 _ _ rfl #[sumV X, sumV p] (by simp [e32, e36]) (by kernel_rfl) (wanted_none rfl) ?_
          refine (HN0.out w').mono ?_
          rintro e w2 ⟨rfl, hb⟩
          exact ⟨_, rfl, hK _ _ hb rfl⟩
        · intro ac w' hF hL hP hU K hK
          have hB := below_undrew hL
          have e37 : ac.eval (.tmp 37) = .string (tS t0) := hP 5 (by kernel_rfl)
          exact rop_assign _ rfl e37 (wanted_none rfl) (hK _ _ (le8_refl _) rfl)
        · intro ac w' hF hB hT
          have e12 : ac.eval (.tmp 12) = .string (tS t0) := hT 6 (by decide)
          rw [hF.setsG [32, 33, 34, 35, 36, 37, 12] (by kernel_rfl)]
          simp only [List.foldl_cons, List.foldl_nil, List.setIfInBounds_toArray, List.set_cons_succ, List.set_cons_zero, e12]
          generalize ac.eval (.tmp 32) = u32
          generalize ac.eval (.tmp 33) = u33
          generalize ac.eval (.tmp 34) = u34
          generalize ac.eval (.tmp 35) = u35
          generalize ac.eval (.tmp 36) = u36
          generalize ac.eval (.tmp 37) = u37
          clear e12 hT hF ac
          have b1 := hB
          obtain ⟨W6, hW6⟩ : ∃ W6, W6 = w' := ⟨_, rfl⟩
          subst hW6
          have hct6 : W6.cell? ⟨bt, i, none⟩ = some (.bool tb) := (b1.cell (p := ⟨bt, i, none⟩) hbtW).trans HCT.out
          have HX6 := Lib.hid (IsH.old HXw.out b1)
          have HO6 := Lib.hid (HOw.out.kept b1)
          have HBEL6 := Lib.hid (HBELw.out.trans (Only.of_below b1))
          have hqW6 : q ≤ W6.heap.size := Nat.le_trans hqwr b1.size
          have HRP6 := Lib.hid (below_range' b1 hbp HRP0.out)
          have hbp6 : bp < W6.heap.size := Nat.lt_of_lt_of_le hbp b1.size
          clear hB b1 HX HRP hbpW HXw HRP0 HBELw HOw hqwr
          have HX := HX6
          have HO := HO6
          have HBEL := HBEL6
          have hqwr := hqW6
          cases tb with
          | true =>
            obtain ⟨Y, hY⟩ : ∃ Y, Y = Sha.digest t1 := ⟨_, rfl⟩
            have HYl : Hid (Y.length = 32) := Lib.hid (by rw [hY]; exact Sha.digest_length _)
            have HLD2 := Lib.hid (hLD2 t1 Y ht1 hY)
            have HOF : Hid (∀ S u, S = tS t1 → Calls Tryd.prog 15 #[.string S] u fun e w' => e = .returned (sumV Y) ∧ Below u.heap.size u w') := Lib.hid fun S u hS => by rw [hS, hY]; exact rof_any _ _ (tS_list _) u (by omega)
            clear hLD2 hY ht0 ht1
            go_upto_region 11 with (fail)
            obtain ⟨W, hW⟩ : ∃ W, W = W6 := ⟨_, rfl⟩
            subst hW
            have HRP := HRP6
            have hbpW := hbp6
            try simp only [Act.put]
            refine wp_region_tab [RT.is (.slice (some ⟨bp, op, none⟩) k cap), RT.is (.int .i64 (i : Int)), RT.is (.pointer (some ⟨bp, op + i * 32, none⟩)), RT.is (sumV p), RT.is (sumV X), RT.is (.string (tS t1)), RT.is (.string (tS t1))] (by kernel_rfl) (by kernel_rfl) (by kernel_rfl) (by kernel_rfl) ⟨?_, ?_, ?_, ?_, ?_, ?_, ?_, trivial⟩ ?_
            · intro ac w' hF hL hP hU K hK
              have hB := below_undrew hL
              have e3 : ac.eval (.tmp 3) = .slice (some ⟨bp, op, none⟩) k cap := hF.at 3 (by kernel_rfl)
              exact rop_move _ rfl e3 (wanted_none rfl) (hK _ _ (le8_refl _) rfl)
            · intro ac w' hF hL hP hU K hK
              have hB := below_undrew hL
              have e11 : ac.eval (.tmp 11) = .int .i64 (i : Int) := hF.at 11 (by kernel_rfl)
              exact rop_move _ rfl e11 (wanted_none rfl) (hK _ _ (le8_refl _) rfl)
            · intro ac w' hF hL hP hU K hK
              have hB := below_undrew hL
              have e42 : ac.eval (.tmp 42) = .slice (some ⟨bp, op, none⟩) k cap := hP 0 (by kernel_rfl)
              have e43 : ac.eval (.tmp 43) = .int .i64 (i : Int) := hP 1 (by kernel_rfl)
              exact rop_idx _ _ _ rfl e42 e43 (index_sums bp op k cap i hik w') (wanted_none rfl) (hK _ _ (le8_refl _) rfl)
            · intro ac w' hF hL hP hU K hK
              have hB := below_undrew hL
              have e44 : ac.eval (.tmp 44) = .pointer (some ⟨bp, op + i * 32, none⟩) := hP 2 (by kernel_rfl)
              exact rop_ld _ _ rfl e44 (load_sumP HPl.out (below_range' hB hbpW HRP.out)) (wanted_none rfl) (hK _ _ (le8_refl _) rfl)
            · intro ac w' hF hL hP hU K hK
              have hB := below_undrew hL
              have e6 : ac.eval (.tmp 6) = .pointer (some ⟨q, 0, none⟩) := hF.at 6 (by kernel_rfl)
              exact rop_ld _ _ rfl e6 (load_sumP HXl.out (range_var (IsH.old HX.out hB))) (wanted_none rfl) (hK _ _ (le8_refl _) rfl)
            · intro ac w' hF hL hP hU K hK
              have hB := below_undrew hL
              have e45 : ac.eval (.tmp 45) = sumV p := hP 3 (by kernel_rfl)
              have e46 : ac.eval (.tmp 46) = sumV X := hP 4 (by kernel_rfl)
              refine rop_call 28 _ _ rfl #[sumV p, sumV X] (by simp [e45, e46]) (by kernel_rfl) (wanted_none rfl) ?_
              refine (HN1.out w').mono ?_
              rintro e w2 ⟨rfl, hb⟩
              exact ⟨_, rfl, hK _ _ hb rfl⟩
            · intro ac w' hF hL hP hU K hK
              have hB := below_undrew hL
              have e47 : ac.eval (.tmp 47) = .string (tS t1) := hP 5 (by kernel_rfl)
              exact rop_assign _ rfl e47 (wanted_none rfl) (hK _ _ (le8_refl _) rfl)
            · intro ac w' hF hB hT
              have e12 : ac.eval (.tmp 12) = .string (tS t1) := hT 6 (by decide)
              rw [hF.setsG [42, 43, 44, 45, 46, 47, 12] (by kernel_rfl)]
              simp only [List.foldl_cons, List.foldl_nil, List.setIfInBounds_toArray, List.set_cons_succ, List.set_cons_zero, e12]
              generalize ac.eval (.tmp 42) = u42
              generalize ac.eval (.tmp 43) = u43
              generalize ac.eval (.tmp 44) = u44
              generalize ac.eval (.tmp 45) = u45
              generalize ac.eval (.tmp 46) = u46
              generalize ac.eval (.tmp 47) = u47
              clear e12 hT hF ac
              have b6 := hB
              have HX6 := IsH.old HX.out b6
              have ho6 := HO.out.kept b6
              have hbl6 := HBEL.out.trans (Only.of_below b6)
              have hlt6 := (Array.getElem?_eq_some_iff.1 HX6).1
              obtain ⟨v2, w2, hr2, ho2, b2, g2⟩ := tappend_own 52 t1 ho6 hbl6.size (by omega)
              have hX2 : IsH X w2 q := (g2.block _ (by simp; omega) (fun e => ho6.not HX6 ne_text2 e.symm)).trans ((Below.heap_alloc _ _ _ hlt6).trans HX6)
              obtain ⟨ua, uc, rfl⟩ := ho2.texts.slice
              have HR := Lib.hid hr2
              have HO2 := Lib.hid ho2
              have HX2 := Lib.hid hX2
              have HB2 := Lib.hid (only_below hbl6 b2)
              obtain ⟨n1, hn1⟩ : ∃ n, n = (L ++ [t1]).length := ⟨_, rfl⟩
              rw [← hn1] at HR HO2
              unfold tV at HR
              clear hB b6 HX6 ho6 hbl6 hlt6 hr2 ho2 b2 g2 hX2 hn1
              go_wp2_with (first
                | (at_builtin; refine Lib.wpList_append_run _ rfl _ _ _ _ rfl _ _ rfl rfl _ _ HR.out ?_)
                | (go_at_call 15; refine (HOF.out _ _ rfl).mono ?_; rintro e w5 ⟨rfl, b5⟩; have HX5 := Lib.hid (IsH.old HX2.out b5); have HO5 := Lib.hid (HO2.out.kept b5); have HB5 := Lib.hid (HB2.out.trans (Only.of_below b5)); clear b5)
                | refine wpList_store_mid rfl 24 (.tmp 6) (.tmp 53) rfl q 0 (Y.map u8V).toArray rfl rfl (sum_thereP HX5.out HXl.out HYl.out) (sum_info HYl.out) (sum_one Y) ?_)
              have hfar : Only q w5 (w5.setCells q 0 (Y.map u8V)) := only_setCells (b := q) (Y.map u8V) 0 _ (Only.refl _ _)
              exact ⟨⟨i + 1, Y, _, by simp, by rw [HPk.out]; omega, by simp; omega, HLD2.out, HO5.out.kept' (fun g e => hfar.block g (World.ownsRow.lt HO5.out g e).2 (fun e' => HO5.out.not HX5.out ne_text2 (by rw [e, e']))), set_sumP w5 q X Y HXl.out HYl.out HX5.out, HYl.out, HB5.out.trans hfar⟩, by simp [intOf]; omega⟩
          | false =>
            obtain ⟨Y, hY⟩ : ∃ Y, Y = Sha.digest t0 := ⟨_, rfl⟩
            have HYl : Hid (Y.length = 32) := Lib.hid (by rw [hY]; exact Sha.digest_length _)
            have HLD2 := Lib.hid (hLD2 t0 Y ht0 hY)
            have HOF : Hid (∀ S u, S = tS t0 → Calls Tryd.prog 15 #[.string S] u fun e w' => e = .returned (sumV Y) ∧ Below u.heap.size u w') := Lib.hid fun S u hS => by rw [hS, hY]; exact rof_any _ _ (tS_list _) u (by omega)
            clear hLD2 hY ht0 ht1
            have hB : Below W6.heap.size W6 W6 := Below.refl _ _
            have b6 := hB
            have HX6 := IsH.old HX.out b6
            have ho6 := HO.out.kept b6
            have hbl6 := HBEL.out.trans (Only.of_below b6)
            have hlt6 := (Array.getElem?_eq_some_iff.1 HX6).1
            obtain ⟨v2, w2, hr2, ho2, b2, g2⟩ := tappend_own 52 t0 ho6 hbl6.size (by omega)
            have hX2 : IsH X w2 q := (g2.block _ (by simp; omega) (fun e => ho6.not HX6 ne_text2 e.symm)).trans ((Below.heap_alloc _ _ _ hlt6).trans HX6)
            obtain ⟨ua, uc, rfl⟩ := ho2.texts.slice
            have HR := Lib.hid hr2
            have HO2 := Lib.hid ho2
            have HX2 := Lib.hid hX2
            have HB2 := Lib.hid (only_below hbl6 b2)
            obtain ⟨n1, hn1⟩ : ∃ n, n = (L ++ [t0]).length := ⟨_, rfl⟩
            rw [← hn1] at HR HO2
            unfold tV at HR
            clear hB b6 HX6 ho6 hbl6 hlt6 hr2 ho2 b2 g2 hX2 hn1
            go_wp2_with (first
              | (at_builtin; refine Lib.wpList_append_run _ rfl _ _ _ _ rfl _ _ rfl rfl _ _ HR.out ?_)
              | (go_at_call 15; refine (HOF.out _ _ rfl).mono ?_; rintro e w5 ⟨rfl, b5⟩; have HX5 := Lib.hid (IsH.old HX2.out b5); have HO5 := Lib.hid (HO2.out.kept b5); have HB5 := Lib.hid (HB2.out.trans (Only.of_below b5)); clear b5)
              | refine wpList_store_mid rfl 24 (.tmp 6) (.tmp 53) rfl q 0 (Y.map u8V).toArray rfl rfl (sum_thereP HX5.out HXl.out HYl.out) (sum_info HYl.out) (sum_one Y) ?_)
            have hfar : Only q w5 (w5.setCells q 0 (Y.map u8V)) := only_setCells (b := q) (Y.map u8V) 0 _ (Only.refl _ _)
            exact ⟨⟨i + 1, Y, _, by simp, by rw [HPk.out]; omega, by simp; omega, HLD2.out, HO5.out.kept' (fun g e => hfar.block g (World.ownsRow.lt HO5.out g e).2 (fun e' => HO5.out.not HX5.out ne_text2 (by rw [e, e']))), set_sumP w5 q X Y HXl.out HYl.out HX5.out, HYl.out, HB5.out.trans hfar⟩, by simp [intOf]; omega⟩
      · have hik' : ¬ (i : Int) < (k : Int) := by omega
        obtain rfl : k = i := by omega
        rw [List.drop_eq_nil_of_le (by rw [HPk.out]; exact Nat.le_refl _), Tree.wayL_nil, List.append_nil] at hLD
        have HF := Lib.hid (And.intro ho.texts (HB0.out.trans (hbel.below (Nat.le_refl _) (Nat.le_of_lt hqV))))
        have HLD := Lib.hid hLD
        clear ho hLD hX hXl hbel
        go_wp2
        go_ret
        refine ⟨_, rfl, ?_⟩
        rw [← Hq.out, ← HLD.out]
        exact HF.out
set_option maxHeartbeats 2000000 in
set_option maxRecDepth 100000 in
theorem rWay_any (x : List UInt8) (hx : x.length = 32) (m n : Int) (l1 : m ≤ 9223372036854775807) (l2 : n ≤ 9223372036854775807) (v : Value) (P : Hs) (w : World) (hv : Sums w v P) (hP : P.length ≤ 1000) :
    Calls Tryd.prog 27 #[.int .i64 m, .int .i64 n, sumV x, v] w fun e w' => ∃ v', e = .returned v' ∧ Texts w' v' (wayZ x m n P) ∧ Below w.heap.size w w' := by
  obtain ⟨va, cap, rfl, hlc, hcap⟩ := hv.slice
  obtain ⟨k, hk⟩ : ∃ k, k = P.length := ⟨_, rfl⟩
  obtain ⟨z, hz⟩ : ∃ z, z = (if okP m n then ((Tree.long m.toNat n.toNat : Nat) : Int) else -1) := ⟨_, rfl⟩
  have HLO : Hid (∀ u, Calls Tryd.prog 19 #[.int .i64 m, .int .i64 n] u fun e w' => e = .returned (.int .i64 z) ∧ Below u.heap.size u w') := Lib.hid fun u => by rw [hz]; exact rlong_any m n u l1 l2
  have hfl : foldLen m n P = decide ((k : Int) = z) := by unfold foldLen; rw [hz, hk]
  obtain ⟨W, hW⟩ : ∃ W, W = w.alloc (.cells (x.map u8V).toArray 24) := ⟨_, rfl⟩
  have b0 : Below w.heap.size w W := by rw [hW]; exact (Below.refl _ _).alloc (Nat.le_refl _) _
  have h1 : IsH x W w.heap.size := by rw [hW]; exact heap_alloc_last w _
  have HXl := Lib.hid hx
  have HX := Lib.hid h1
  have HB := Lib.hid b0
  have HV := Lib.hid (hv.old b0)
  rw [← hk] at HV ⊢
  by_cases hkz : (k : Int) = z
  · have hok : foldLen m n P = true := by rw [hfl]; exact decide_eq_true hkz
    obtain ⟨L, hL⟩ : ∃ L, L = wayZ x m n P := ⟨_, rfl⟩
    have hL2 : Tree.wayL x P (turnsZ m n) = L := by rw [hL]; unfold wayZ; rw [if_pos hok]
    have hTl := turnsZ_length hok
    have HWA : Hid (∀ u, Below W.heap.size W u → Calls Tryd.prog 33 #[.int .i64 m, .int .i64 n, sumV x, .slice va k cap] u fun e w' => ∃ v', e = .returned v' ∧ Texts w' v' L ∧ Below u.heap.size u w') := Lib.hid fun u hu => by
      rw [← hL2]
      exact rway_any x hx m n l1 l2 _ P u (HV.out.old hu) hP hTl
    obtain rfl : z = (k : Int) := hkz.symm
    rw [← hL]
    clear hok hL hL2 hTl hfl hz hk hx h1 b0 hv l1 l2 hP hlc hcap
    unfold sumV
    go_enter Tryd.func27, Tryd.ntmps27
    go_upto_region 1 with (fail)
    change Code.wp _ _ _ _ (w.alloc (.cells (x.map u8V).toArray 24))
    rw [← hW]
    clear hW
    go_upto_region 3 with (go_at_call 19; ((with_reducible refine (HLO.out _).mono ?_); rintro e w1 ⟨rfl, b1⟩))
    have HX1 := Lib.hid (IsH.old HX.out b1)
    have HWB := Lib.hid (HWA.out w1 b1)
    have HB1 := Lib.hid (below_step HB.out (Nat.le_refl _) b1)
    clear b1 HWA
    go_wp2_with (first
      | refine wpList_load_mid rfl 24 (.tmp 6) rfl w.heap.size 0 rfl (x.map u8V) _ (range_var HX1.out) Tryd.underlying24 rfl (sum_info' HXl.out) ?_
      | (go_at_call 33; (refine HWB.out.mono ?_); rintro e w5 ⟨v5, rfl, ht5, b5⟩; have HF := Lib.hid (And.intro ht5 (below_step HB1.out (Nat.le_refl _) b5)); clear ht5 b5))
    go_ret
    exact ⟨_, rfl, HF.out.1, HF.out.2⟩
  · have hno : wayZ x m n P = [] := by
      unfold wayZ
      rw [hfl, decide_eq_false hkz]
      rfl
    have hkz' : ¬ z = (k : Int) := fun e => hkz e.symm
    rw [hno]
    clear hno hfl hz hk hx h1 hv l1 l2 hP hlc hcap
    unfold sumV
    go_enter Tryd.func27, Tryd.ntmps27
    go_upto_region 1 with (fail)
    change Code.wp _ _ _ _ (w.alloc (.cells (x.map u8V).toArray 24))
    rw [← hW]
    clear hW
    go_wp2_with (go_at_call 19; ((with_reducible refine (HLO.out _).mono ?_); rintro e w1 ⟨rfl, b1⟩; have HF := Lib.hid (below_step HB.out (Nat.le_refl _) b1); clear b1))
    go_ret
    exact ⟨_, rfl, Texts.nil _, HF.out⟩
end Go.Proofs.YtdcebdleneieeaaDoor
