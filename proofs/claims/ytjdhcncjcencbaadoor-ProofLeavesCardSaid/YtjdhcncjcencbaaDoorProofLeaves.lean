/-
  ProofLeaves: each leaf of a tree is right with its path and the root. For all hashes (the first 20 of them), and every place among them; the numbers K of the package sha are as the program's own start lays them.
-/
import Derived.Test.YtjdhcncjcencbaaDoorProofAwake
import Derived.Test.YtjdhcncjcencbaaDoorMPathB
import Derived.Test.YtjdhcncjcencbaaDoorProofArg
namespace Go.Proofs.YtjdhcncjcencbaaDoor.proofLeaves
open Go.ChangeShapes Go.WideShapes Go.ChangeAt Go.RowKit

set_option maxHeartbeats 8000000 in
set_option maxRecDepth 100000 in
theorem walk {w : World} (hK : KT w) (v : Value) (l : Hs) (hv : Sums w v l) (a : Int) (_ : -9223372036854775808 ≤ a) (_ : a ≤ 9223372036854775807) :
    Calls Tryd.prog 5 #[v, .int .i64 a] w fun e w' => e = .returned (.bool true) ∧ Below w.heap.size w w' := by
  have HAW := Lib.hid (awake12_any w hK)
  have HFW : Hid (∀ u, Sums u v l → Calls Tryd.prog 11 #[v, .int .i64 20] u fun e w' => ∃ v', e = .returned v' ∧ SumsB u.heap.size u v' (l.take 20) ∧ u = w') := Lib.hid fun u hu => few12_any v l 20 (by decide) u hu
  have HV := Lib.hid hv
  obtain ⟨r, hr⟩ : ∃ r, r = l.take 20 := ⟨_, rfl⟩
  have hrl : r.length ≤ 20 := by rw [hr, List.length_take]; omega
  have hro : all32 r := by rw [hr]; exact hv.ok.take 20
  obtain ⟨n, hn⟩ : ∃ n, n = r.length := ⟨_, rfl⟩
  have hn20 : n ≤ 20 := by omega
  have Hr := Lib.hid hr
  have Hro := Lib.hid hro
  have Hn := Lib.hid hn
  have HKW := Lib.hid hK
  clear hrl hr hn hv hK hro
  go_enter Tryd.func5, Tryd.ntmps5
  go_upto_region 3 with (first
    | (go_at_call 10; ((with_reducible refine HAW.out.mono ?_); rintro e w1 ⟨rfl, b1⟩))
    | (go_at_call 11; refine (HFW.out _ (HV.out.old b1)).mono ?_; rintro e w2 ⟨v6, rfl, h6, rfl⟩; rw [← Hr.out] at h6; have H6 := Lib.hid h6.1; obtain ⟨a6, c6, rfl, _, _⟩ := h6.1.slice; rw [← Hn.out] at H6 ⊢; clear h6))
  rcases Nat.eq_zero_or_pos n with h0 | h0
  · have h0' : (n : Int) = 0 := by omega
    go_wp2
    go_ret
    exact ⟨rfl, b1⟩
  · have h0' : ¬ (n : Int) = 0 := by omega
    obtain ⟨z, hz, m, hm, hzm⟩ := place_of a n h0
    obtain ⟨k, hk⟩ : ∃ k, k = Tree.long m n := ⟨_, rfl⟩
    have hk5 : k ≤ 5 := by rw [hk]; exact long_lt m n hn20
    have okp : okP (m : Int) (n : Int) = true := by simp [okP]; omega
    obtain ⟨P, hP⟩ : ∃ P, P = Tree.path r m := ⟨_, rfl⟩
    obtain ⟨D, hD⟩ : ∃ D, D = Tree.root r := ⟨_, rfl⟩
    have HDl : Hid (D.length = 32) := Lib.hid (by rw [hD]; exact Tree.root_length _ Hro.out)
    have hPl : P.length = k := by rw [hP, Tree.path_length _ _ _ (Nat.le_refl _), ← Hn.out, ← hk]
    obtain ⟨x0, hx0⟩ : ∃ x0, r[m]? = some x0 := ⟨_, List.getElem?_eq_getElem (by rw [← Hn.out]; exact hm)⟩
    have hx32 : x0.length = 32 := Hro.out x0 (List.mem_of_getElem? hx0)
    have hfold : foldZ x0 (m : Int) (n : Int) P = (D, true) := by
      have e1 : foldLen (m : Int) (n : Int) P = true := by
        rw [foldLen_eq, if_pos okp, hPl, hk]
        simp
      unfold foldZ
      rw [e1, if_pos rfl]
      have e2 : turnsZ (m : Int) (n : Int) = Tree.turns m n := by unfold turnsZ; rw [if_pos okp]; rfl
      rw [e2, hP, Hn.out, Tree.path_folds _ r m x0 hx0 (Nat.le_refl _), hD]
    have HPA : Hid (∀ v u, Sums u v r → Calls Tryd.prog 19 #[v, .int .i64 (m : Int)] u fun e w' => ∃ b c, e = .returned (.tuple #[.slice b k c, .bool true]) ∧ Sums w' (.slice b k c) P ∧ Below u.heap.size u w') := Lib.hid fun v u hv => by
      have := rPath_any v r (m : Int) u hv (by have := Hn.out; omega)
      rw [pathZ_t r m (by have := Hn.out; omega), ← hP] at this
      refine this.mono fun e w' ⟨v', he, ho, hb⟩ => ?_
      obtain ⟨b, c, rfl, -, -⟩ := ho.sums.slice
      have hs := ho.sums
      simp only at hs he
      rw [hPl] at he hs
      exact ⟨b, c, he, hs, hb⟩
    have HRT : Hid (∀ v u, Sums u v r → Calls Tryd.prog 20 #[v] u fun e w' => e = .returned (sumV D) ∧ Below u.heap.size u w') := Lib.hid fun v u hv => by
      rw [hD]
      exact rleafRoot_any _ r v u rfl (by have := Hn.out; omega) hv
    have HRI0 : Hid (∀ v u, KT u → Sums u v P → Calls Tryd.prog 16 #[sumV D, sumV x0, .int .i64 (m : Int), .int .i64 (n : Int), v] u fun e w' => e = .returned (.bool true) ∧ Below u.heap.size u w') := Lib.hid fun v u hk hv => by
      have := right_any D x0 HDl.out hx32 (m : Int) (n : Int) (by omega) (by omega) v P u hv (by omega) hk
      rw [hfold] at this
      simpa using this
    obtain ⟨b6, o6, rfl, hb6, -, hr6⟩ : ∃ b o, a6 = some ⟨b, o, none⟩ ∧ b < w1.heap.size ∧ n = r.length ∧ w1.rangeAt b (o + m * 32) (x0.map u8V) := H6.out.at0 hx0
    have hw3 := IntWalk.i64_in (m : Int) (by omega)
    have HX0l := Lib.hid hx32
    have Hr6 := Lib.hid hr6
    clear hk okp hP hD hPl hx0 hx32 hfold hr6
    rcases hzm with ⟨hq0, rfl⟩ | ⟨hq0, rfl⟩ <;>
    (go_upto_region 9 with (go_at_call 19; ((with_reducible refine (HPA.out _ _ H6.out).mono ?_); rintro e w3 ⟨ap, cp, rfl, hsp, b3⟩; have HSP := Lib.hid hsp; clear hsp))
     have H63 := Lib.hid (H6.out.old b3)
     have Hr63 := Lib.hid (below_range b3 hb6 Hr6.out)
     have hb63 := Nat.lt_of_lt_of_le hb6 b3.size
     have hK3 : KT w3 := (HKW.out.old b1).old b3
     have HRI : Hid (∀ u, Below w3.heap.size w3 u → Calls Tryd.prog 16 #[sumV D, sumV x0, .int .i64 (m : Int), .int .i64 (n : Int), .slice ap k cp] u fun e w' => e = .returned (.bool true) ∧ Below u.heap.size u w') := Lib.hid fun u hu => HRI0.out _ u (hK3.old hu) (HSP.out.old hu)
     have HB3 := Lib.hid (below_step b1 (Nat.le_refl _) b3)
     clear hK3 b3 b1
     try simp only [Act.put]
     refine wp_region_tab [RT.is (.bool true), RT.is (.bool true), RT.is (.bool true), RT.is (.bool true), RT.is (.bool true), RT.is (.slice (some ⟨b6, o6, none⟩) n c6), RT.is (sumV D), RT.is (.slice (some ⟨b6, o6, none⟩) n c6), RT.is (.int .i64 (m : Int)), RT.is (.pointer (some ⟨b6, o6 + m * 32, none⟩)), RT.is (sumV x0), RT.is (.int .i64 (m : Int)), RT.is (.slice (some ⟨b6, o6, none⟩) n c6), RT.is (.int .i64 (n : Int)), RT.is (.slice ap k cp), RT.is (.bool true), RT.is (.bool true), RT.is (.bool true)] (by kernel_rfl) (by kernel_rfl) (by kernel_rfl) (by kernel_rfl) ⟨?_, ?_, ?_, ?_, ?_, ?_, ?_, ?_, ?_, ?_, ?_, ?_, ?_, ?_, ?_, ?_, ?_, ?_, trivial⟩ ?_
     · intro ac w' hF hL hP hU K hK
       have hB := below_undrew hL
       have e5 : ac.eval (.tmp 5) = .bool true := hF.at 5 (by kernel_rfl)
       exact rop_move _ rfl e5 (wanted_none rfl) (hK _ _ (le8_refl _) rfl)
     · intro ac w' hF hL hP hU K hK
       have hB := below_undrew hL
       have e31 : ac.eval (.tmp 31) = .bool true := hP 0 (by kernel_rfl)
       exact rop_move _ rfl e31 (wanted_none rfl) (hK _ _ (le8_refl _) rfl)
     · intro ac w' hF hL hP hU K hK
       have hB := below_undrew hL
       have e9 : ac.eval (.tmp 9) = .bool true := hF.at 9 (by kernel_rfl)
       have e32 : ac.eval (.tmp 32) = .bool true := hP 1 (by kernel_rfl)
       exact rop_move _ rfl e9 (wanted_of (j := 1) (b := true) rfl rfl e32) (hK _ _ (le8_refl _) rfl)
     · intro ac w' hF hL hP hU K hK
       have hB := below_undrew hL
       have e32 : ac.eval (.tmp 32) = .bool true := hP 1 (by kernel_rfl)
       have e33 : ac.eval (.tmp 33) = .bool true := hP 2 (by kernel_rfl)
       exact rop_pick _ _ _ rfl true e32 (by simpa using e33) (wanted_none rfl) (hK _ _ (le8_refl _) rfl)
     · intro ac w' hF hL hP hU K hK
       have hB := below_undrew hL
       have e34 : ac.eval (.tmp 34) = .bool true := hP 3 (by kernel_rfl)
       exact rop_move _ rfl e34 (wanted_none rfl) (hK _ _ (le8_refl _) rfl)
     · intro ac w' hF hL hP hU K hK
       have hB := below_undrew hL
       have e6 : ac.eval (.tmp 6) = .slice (some ⟨b6, o6, none⟩) n c6 := hF.at 6 (by kernel_rfl)
       have e35 : ac.eval (.tmp 35) = .bool true := hP 4 (by kernel_rfl)
       exact rop_move _ rfl e6 (wanted_of (j := 4) (b := true) rfl rfl e35) (hK _ _ (le8_refl _) rfl)
     · intro ac w' hF hL hP hU K hK
       have hB := below_undrew hL
       have e36 : ac.eval (.tmp 36) = .slice (some ⟨b6, o6, none⟩) n c6 := hP 5 (by kernel_rfl)
       have e35 : ac.eval (.tmp 35) = .bool true := hP 4 (by kernel_rfl)
       refine rop_call 20 _ _ rfl #[.slice (some ⟨b6, o6, none⟩) n c6] (by simp [e36]) (by kernel_rfl) (wanted_of (j := 4) (b := true) rfl rfl e35) ?_
       refine (HRT.out _ w' (H63.out.old hB)).mono ?_
       rintro e w2 ⟨rfl, hb⟩
       exact ⟨_, rfl, hK _ _ hb rfl⟩
     · intro ac w' hF hL hP hU K hK
       have hB := below_undrew hL
       have e6 : ac.eval (.tmp 6) = .slice (some ⟨b6, o6, none⟩) n c6 := hF.at 6 (by kernel_rfl)
       have e35 : ac.eval (.tmp 35) = .bool true := hP 4 (by kernel_rfl)
       exact rop_move _ rfl e6 (wanted_of (j := 4) (b := true) rfl rfl e35) (hK _ _ (le8_refl _) rfl)
     · intro ac w' hF hL hP hU K hK
       have hB := below_undrew hL
       have e7 : ac.eval (.tmp 7) = .int .i64 (m : Int) := hF.at 7 (by kernel_rfl)
       have e35 : ac.eval (.tmp 35) = .bool true := hP 4 (by kernel_rfl)
       exact rop_move _ rfl e7 (wanted_of (j := 4) (b := true) rfl rfl e35) (hK _ _ (le8_refl _) rfl)
     · intro ac w' hF hL hP hU K hK
       have hB := below_undrew hL
       have e38 : ac.eval (.tmp 38) = .slice (some ⟨b6, o6, none⟩) n c6 := hP 7 (by kernel_rfl)
       have e39 : ac.eval (.tmp 39) = .int .i64 (m : Int) := hP 8 (by kernel_rfl)
       have e35 : ac.eval (.tmp 35) = .bool true := hP 4 (by kernel_rfl)
       exact rop_idx _ _ _ rfl e38 e39 (index_sums b6 o6 n c6 m hm w') (wanted_of (j := 4) (b := true) rfl rfl e35) (hK _ _ (le8_refl _) rfl)
     · intro ac w' hF hL hP hU K hK
       have hB := below_undrew hL
       have e40 : ac.eval (.tmp 40) = .pointer (some ⟨b6, o6 + m * 32, none⟩) := hP 9 (by kernel_rfl)
       have e35 : ac.eval (.tmp 35) = .bool true := hP 4 (by kernel_rfl)
       exact rop_ld _ _ rfl e40 (load_sumP HX0l.out (below_range hB hb63 Hr63.out)) (wanted_of (j := 4) (b := true) rfl rfl e35) (hK _ _ (le8_refl _) rfl)
     · intro ac w' hF hL hP hU K hK
       have hB := below_undrew hL
       have e7 : ac.eval (.tmp 7) = .int .i64 (m : Int) := hF.at 7 (by kernel_rfl)
       have e35 : ac.eval (.tmp 35) = .bool true := hP 4 (by kernel_rfl)
       exact rop_move _ rfl e7 (wanted_of (j := 4) (b := true) rfl rfl e35) (hK _ _ (le8_refl _) rfl)
     · intro ac w' hF hL hP hU K hK
       have hB := below_undrew hL
       have e6 : ac.eval (.tmp 6) = .slice (some ⟨b6, o6, none⟩) n c6 := hF.at 6 (by kernel_rfl)
       have e35 : ac.eval (.tmp 35) = .bool true := hP 4 (by kernel_rfl)
       exact rop_move _ rfl e6 (wanted_of (j := 4) (b := true) rfl rfl e35) (hK _ _ (le8_refl _) rfl)
     · intro ac w' hF hL hP hU K hK
       have hB := below_undrew hL
       have e43 : ac.eval (.tmp 43) = .slice (some ⟨b6, o6, none⟩) n c6 := hP 12 (by kernel_rfl)
       have e35 : ac.eval (.tmp 35) = .bool true := hP 4 (by kernel_rfl)
       exact rop_lenG _ Tryd.underlying25 rfl e43 (wanted_of (j := 4) (b := true) rfl rfl e35) (hK _ _ (le8_refl _) rfl)
     · intro ac w' hF hL hP hU K hK
       have hB := below_undrew hL
       have e8 : ac.eval (.tmp 8) = .slice ap k cp := hF.at 8 (by kernel_rfl)
       have e35 : ac.eval (.tmp 35) = .bool true := hP 4 (by kernel_rfl)
       exact rop_move _ rfl e8 (wanted_of (j := 4) (b := true) rfl rfl e35) (hK _ _ (le8_refl _) rfl)
     · intro ac w' hF hL hP hU K hK
       have hB := below_undrew hL
       have e37 : ac.eval (.tmp 37) = sumV D := hP 6 (by kernel_rfl)
       have e41 : ac.eval (.tmp 41) = sumV x0 := hP 10 (by kernel_rfl)
       have e42 : ac.eval (.tmp 42) = .int .i64 (m : Int) := hP 11 (by kernel_rfl)
       have e44 : ac.eval (.tmp 44) = .int .i64 (n : Int) := hP 13 (by kernel_rfl)
       have e45 : ac.eval (.tmp 45) = .slice ap k cp := hP 14 (by kernel_rfl)
       have e35 : ac.eval (.tmp 35) = .bool true := hP 4 (by kernel_rfl)
       refine rop_call 16 _ _ rfl #[sumV D, sumV x0, .int .i64 (m : Int), .int .i64 (n : Int), .slice ap k cp] (by simp [e37, e41, e42, e44, e45]) (by kernel_rfl) (wanted_of (j := 4) (b := true) rfl rfl e35) ?_
       refine (HRI.out w' hB).mono ?_
       rintro e w2 ⟨rfl, hb⟩
       exact ⟨_, rfl, hK _ _ hb rfl⟩
     · intro ac w' hF hL hP hU K hK
       have hB := below_undrew hL
       have e35 : ac.eval (.tmp 35) = .bool true := hP 4 (by kernel_rfl)
       have e46 : ac.eval (.tmp 46) = .bool true := hP 15 (by kernel_rfl)
       exact rop_pick _ _ _ rfl true e35 (by simpa using e46) (wanted_none rfl) (hK _ _ (le8_refl _) rfl)
     · intro ac w' hF hL hP hU K hK
       have hB := below_undrew hL
       have e47 : ac.eval (.tmp 47) = .bool true := hP 16 (by kernel_rfl)
       exact rop_assign _ rfl e47 (wanted_none rfl) (hK _ _ (le8_refl _) rfl)
     · intro ac w' hF hB hT
       have e47 : ac.eval (.tmp 47) = .bool true := hT 16 (by decide)
       have e4 : ac.eval (.tmp 4) = .bool true := hT 17 (by decide)
       rw [hF.setsG [31, 32, 33, 34, 35, 36, 37, 38, 39, 40, 41, 42, 43, 44, 45, 46, 47, 4] (by kernel_rfl)]
       simp only [List.foldl_cons, List.foldl_nil, List.setIfInBounds_toArray, List.set_cons_succ, List.set_cons_zero, e47, e4]
       generalize ac.eval (.tmp 31) = u31
       generalize ac.eval (.tmp 32) = u32
       generalize ac.eval (.tmp 33) = u33
       generalize ac.eval (.tmp 34) = u34
       generalize ac.eval (.tmp 35) = u35
       generalize ac.eval (.tmp 36) = u36
       generalize ac.eval (.tmp 37) = u37
       generalize ac.eval (.tmp 38) = u38
       generalize ac.eval (.tmp 39) = u39
       generalize ac.eval (.tmp 40) = u40
       generalize ac.eval (.tmp 41) = u41
       generalize ac.eval (.tmp 42) = u42
       generalize ac.eval (.tmp 43) = u43
       generalize ac.eval (.tmp 44) = u44
       generalize ac.eval (.tmp 45) = u45
       generalize ac.eval (.tmp 46) = u46
       clear e47 e4 hT hF ac
       have HF := Lib.hid (below_step HB3.out (Nat.le_refl _) hB)
       clear hB
       go_wp2
       go_ret
       exact ⟨rfl, HF.out⟩)

set_option maxRecDepth 100000 in
theorem lifted (os : Os) (started : os.Started) (H : Type) (enc : TypeId × Value → H) :
    ReturnsInHanded {} Tryd.checked os 5 .any (fun w args => (Rows.proofLeavesSpec.pre enc Tryd.prog Tryd.f5 [] false w args ∧ laidMetH Tryd.prog [("scrinium/sha.k", Rows.laid_scrinium_sha_k)] w) ∧ sizedMet enc Tryd.prog Tryd.f5 (OpenSpec.ofChange Rows.proofLeavesSpec) false w args)
      (Rows.proofLeavesSpec.post enc Tryd.prog Tryd.f5 false true false false) := by
  refine returnsInHanded_of_change_and (C := Tryd.checked) (X := fun w _ => laidMetH Tryd.prog [("scrinium/sha.k", Rows.laid_scrinium_sha_k)] w) (fun _ _ _ hh h => h.of_heap hh) lawOwn started (by kernel_rfl) Tryd.func5
    (ChangeSpec.witness_shaped (enc := enc) (C := Tryd.checked) (os := os) (X := fun w _ => laidMetH Tryd.prog [("scrinium/sha.k", Rows.laid_scrinium_sha_k)] w) false (World.doorLaid Tryd.prog 400 os) #[.slice none 0 0, .int .i64 0] 8 rfl (World.shaped_of_RefB (by kernel_rfl) (by kernel_rfl)) (by kernel_rfl) (by kernel_rfl) (by kernel_rfl) (door_met os _)) ?_
  intro W base args ds gs before hval0 hW _ _ hL _
  have hval : ∀ (j : Nat) t v, Tryd.f5.params[j]? = some t → args[j]? = some v → Value.okWide Tryd.prog W .any base t v := hval0
  have hW' := hW
  obtain ⟨p, q, hA0, hV, rfl, hfz, hnd⟩ := hW
  have hA : DataW.TrodAll enc Tryd.prog W 0 (fun _ => true) true Tryd.f5.params.toList args.toList ds p := hA0
  rw [Tryd.params5] at hA hval
  obtain ⟨v0, vs0, d0, ds0, p0, q0, hargs, rfl, rfl, h0, r0⟩ := trodAll_cons hA
  obtain ⟨v1, vs1, d1, ds1, p1, q1, rfl, rfl, rfl, h1, r1⟩ := trodAll_cons r0
  obtain ⟨rfl, rfl, rfl⟩ := trodAll_nil r1
  obtain rfl : args = #[v0, v1] := by cases args; simp_all
  obtain ⟨rfl, rfl⟩ := trodVars_none hV
  have hKT := KT_of_laid hL
  obtain ⟨a0, len0, cap0, rfl⟩ := okWide_slice Tryd.underlying25 (hval 0 25 v0 rfl rfl)
  obtain ⟨l0, w0⟩ := sums_of h0
  obtain ⟨a1, rfl, rfl, rfl, w1⟩ := open_int Tryd.underlying3 (hval 1 3 v1 rfl rfl) h1
  clear hA0 hval0
  obtain ⟨l1, m1⟩ := i64_bounds w1
  refine (walk (w := W) hKT _ l0 w0 a1 l1 m1).mono fun e W' ⟨he, bel⟩ => ?_
  subst he
  exact ⟨_, rfl, law_post rfl rfl (by kernel_rfl) hW' rfl bel⟩

theorem row_holds : Rows.ProofLeavesSaid :=
  OpenClaim.holds_of_wide 5 Tryd.f5 rfl rfl rfl rfl rfl rfl rfl ⟨rfl, rfl, rfl, rfl, rfl⟩ rfl rfl rfl rfl rfl (by kernel_rfl) Tryd.func5 (by kernel_rfl)
    (of_decide_eq_true (by kernel_rfl)) (by unfold Func.isWrapper; first | (rw [if_pos (by decide +kernel)]; kernel_rfl) | (rw [if_neg (by decide +kernel)]; exact ⟨rfl, rfl⟩))
    (fun os started H enc _ => lifted os started H enc)

theorem holds : Rows.ProofLeavesCardSaid :=
  Claim7.holds_tied_plain_at .later [] [.data] true Rows.proofLeavesCard.stood.harness false
    row_holds (fun _ h => by cases h) (by kernel_rfl) (fun _ h => by cases h) proofLeaves_row_tie rfl ⟨rfl, rfl⟩ (by kernel_rfl) rfl
    (fun f fn hf hfn => by
      obtain rfl : f = 5 := Option.some.inj ((show Tryd.prog.funcNamed "scrinium/scriniumlaw12.ProofLeaves" = some 5 by kernel_rfl).symm.trans hf) |>.symm
      obtain rfl : fn = Tryd.f5 := (Option.some.inj (Tryd.func5.symm.trans hfn)).symm
      exact ⟨by kernel_rfl, fun j t ht => by
        rw [Tryd.params5] at ht
        have hm : t ∈ [25, 3] := by simpa using Array.mem_of_getElem? ht
        have hall : ([25, 3].all fun u => !Tryd.prog.wantsStandIn u) = true := by kernel_rfl
        exact (show Tryd.prog.wantsStandIn t = false by simpa using List.all_eq_true.1 hall t hm)⟩)
    (by kernel_rfl)
end Go.Proofs.YtjdhcncjcencbaaDoor.proofLeaves

theorem Go.Proofs.YtjdhcncjcencbaaDoor.proofLeaves_holds : Go.Proofs.YtjdhcncjcencbaaDoor.Rows.ProofLeavesCardSaid := Go.Proofs.YtjdhcncjcencbaaDoor.proofLeaves.holds
#print axioms Go.Proofs.YtjdhcncjcencbaaDoor.proofLeaves_holds
