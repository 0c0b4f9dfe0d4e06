/-
  ProofTrees: the roots of the first leaves, and of all, go together with the links. For all hashes (the first 20 of them), and any number of them; the numbers K of the package sha are as the program's own start lays them.
-/
import Derived.Test.YtjdhcncjcencbaaDoorProofAwake
import Derived.Test.YtjdhcncjcencbaaDoorMPathB
import Derived.Test.YtjdhcncjcencbaaDoorProofArg
namespace Go.Proofs.YtjdhcncjcencbaaDoor.proofTrees
open Go.ChangeShapes Go.WideShapes Go.ChangeAt Go.RowKit

set_option maxHeartbeats 8000000 in
set_option maxRecDepth 100000 in
theorem walk {w : World} (hK : KT w) (v : Value) (l : Hs) (hv : Sums w v l) (a : Int) (_ : -9223372036854775808 ≤ a) (_ : a ≤ 9223372036854775807) :
    Calls Tryd.prog 6 #[v, .int .i64 a] w fun e w' => e = .returned (.bool true) ∧ Below w.heap.size w w' := by
  have HAW := Lib.hid (awake12_any w hK)
  have HFW : Hid (∀ u, Sums u v l → Calls Tryd.prog 11 #[v, .int .i64 20] u fun e w' => ∃ v', e = .returned v' ∧ SumsB u.heap.size u v' (l.take 20) ∧ u = w') := Lib.hid fun u hu => few12_any v l 20 (by decide) u hu
  have HV := Lib.hid hv
  obtain ⟨r, hr⟩ : ∃ r, r = l.take 20 := ⟨_, rfl⟩
  have hrl : r.length ≤ 20 := by rw [hr, List.length_take]; omega
  have hro : all32 r := by rw [hr]; exact hv.ok.take 20
  obtain ⟨n, hn⟩ : ∃ n, n = r.length := ⟨_, rfl⟩
  have hn20 : n ≤ 20 := by omega
  have Hr := Lib.hid hr
  have Hro := Lib.hid hro
  have Hn := Lib.hid hn
  have HKW := Lib.hid hK
  clear hrl hr hn hv hK hro
  go_enter Tryd.func6, Tryd.ntmps6
  go_upto_region 3 with (first
    | (go_at_call 10; ((with_reducible refine HAW.out.mono ?_); rintro e w1 ⟨rfl, b1⟩))
    | (go_at_call 11; refine (HFW.out _ (HV.out.old b1)).mono ?_; rintro e w2 ⟨v6, rfl, h6, rfl⟩; rw [← Hr.out] at h6; have H6 := Lib.hid h6.1; obtain ⟨a6, c6, rfl, _, _⟩ := h6.1.slice; rw [← Hn.out] at H6 ⊢; clear h6))
  rcases Nat.eq_zero_or_pos n with h0 | h0
  · have h0' : (n : Int) = 0 := by omega
    go_wp2
    go_ret
    exact ⟨rfl, b1⟩
  · have h0' : ¬ (n : Int) = 0 := by omega
    obtain ⟨z, hz, m0, hm0, hzm⟩ := place_of a n h0
    obtain ⟨m, hmm⟩ : ∃ m, m = m0 + 1 := ⟨_, rfl⟩
    have hm1 : 1 ≤ m := by omega
    have hm : m ≤ n := by omega
    obtain ⟨k, hk⟩ : ∃ k, k = Tree.llong m n true := ⟨_, rfl⟩
    have hk5 : k ≤ 20 := by rw [hk]; have := Tree.llong_le _ m n true hm1 hm (Nat.le_refl _); omega
    have okl : okL (m : Int) (n : Int) = true := by simp [okL]; omega
    obtain ⟨P, hP⟩ : ∃ P, P = Tree.links r m true := ⟨_, rfl⟩
    obtain ⟨D, hD⟩ : ∃ D, D = Tree.root r := ⟨_, rfl⟩
    obtain ⟨E, hE⟩ : ∃ E, E = Tree.root (r.take m) := ⟨_, rfl⟩
    have hmr : m ≤ r.length := by rw [← Hn.out]; exact hm
    have HDl : Hid (D.length = 32) := Lib.hid (by rw [hD]; exact Tree.root_length _ Hro.out)
    have HEl : Hid (E.length = 32) := Lib.hid (by rw [hE]; exact Tree.root_length _ (Hro.out.take m))
    have hPl : P.length = k := by rw [hP, Tree.links_length _ _ _ _ hm1 hmr (Nat.le_refl _), ← Hn.out, ← hk]
    have hgo : goesZ E (m : Int) D (n : Int) P = true := by
      have e1 : bothLen (m : Int) (n : Int) P = true := by
        rw [bothLen_eq, if_pos okl, hPl, hk]
        simp
      have e2 : bothZ E (m : Int) (n : Int) P = ((E, D), true) := by
        unfold bothZ
        rw [e1, if_pos rfl, Int.toNat_natCast, Int.toNat_natCast, hP, Hn.out, hE, hD, Tree.links_goes r m hm1 hmr]
      unfold goesZ
      rw [e2]
      simp
    have HPA : Hid (∀ v u, Sums u v r → Calls Tryd.prog 21 #[v, .int .i64 (m : Int)] u fun e w' => ∃ b c, e = .returned (.tuple #[.slice b k c, .bool true]) ∧ Sums w' (.slice b k c) P ∧ Below u.heap.size u w') := Lib.hid fun v u hv => by
      have := rLinks_any v r (m : Int) u hv (by have := Hn.out; omega)
      rw [linksZ_t r m hm1 hmr, ← hP] at this
      refine this.mono fun e w' ⟨v', he, ho, hb⟩ => ?_
      obtain ⟨b, c, rfl, -, -⟩ := ho.sums.slice
      have hs := ho.sums
      simp only at hs he
      rw [hPl] at he hs
      exact ⟨b, c, he, hs, hb⟩
    have HRT : Hid (∀ v u, Sums u v r → Calls Tryd.prog 20 #[v] u fun e w' => e = .returned (sumV D) ∧ Below u.heap.size u w') := Lib.hid fun v u hv => by
      rw [hD]
      exact rleafRoot_any _ r v u rfl (by have := Hn.out; omega) hv
    have HRE : Hid (∀ v u, Sums u v (r.take m) → Calls Tryd.prog 20 #[v] u fun e w' => e = .returned (sumV E) ∧ Below u.heap.size u w') := Lib.hid fun v u hv => by
      rw [hE]
      exact rleafRoot_any _ (r.take m) v u rfl (by rw [List.length_take]; omega) hv
    have HRI0 : Hid (∀ v u, KT u → Sums u v P → Calls Tryd.prog 17 #[sumV E, .int .i64 (m : Int), sumV D, .int .i64 (n : Int), v] u fun e w' => e = .returned (.bool true) ∧ Below u.heap.size u w') := Lib.hid fun v u hk hv => by
      have := goes_any E D HEl.out HDl.out (m : Int) (n : Int) (by omega) (by omega) v P u hv (by omega) hk
      rw [hgo] at this
      exact this
    have h6h : Sums w1 (.slice a6 m c6) (r.take m) := H6.out.head m hmr
    have hmc : m ≤ c6 := by
      have h6l := H6.out.len
      omega
    have H6h := Lib.hid h6h
    have hw3 := IntWalk.i64_in (m : Int) (by omega)
    have hw4 := IntWalk.i64_in (m0 : Int) (by omega)
    have hw5 := IntWalk.i64_in ((m0 : Int) + 1) (by omega)
    have hmi : (m0 : Int) + 1 = (m : Int) := by omega
    have Hmi := Lib.hid hmi
    clear hk okl hP hD hE hPl hgo h6h hmi hmm hmr
    rcases hzm with ⟨hq0, rfl⟩ | ⟨hq0, rfl⟩ <;>
    (go_upto_region 9 with (fail)
     rw [Hmi.out]
     go_upto_region 10 with (go_at_call 21; ((with_reducible refine (HPA.out _ _ H6.out).mono ?_); rintro e w3 ⟨ap, cp, rfl, hsp, b3⟩; have HSP := Lib.hid hsp; clear hsp))
     have H63 := Lib.hid (H6.out.old b3)
     have H6m := Lib.hid (H6h.out.old b3)
     have hK3 : KT w3 := (HKW.out.old b1).old b3
     have HRI : Hid (∀ u, Below w3.heap.size w3 u → Calls Tryd.prog 17 #[sumV E, .int .i64 (m : Int), sumV D, .int .i64 (n : Int), .slice ap k cp] u fun e w' => e = .returned (.bool true) ∧ Below u.heap.size u w') := Lib.hid fun u hu => HRI0.out _ u (hK3.old hu) (HSP.out.old hu)
     have HB3 := Lib.hid (below_step b1 (Nat.le_refl _) b3)
     clear hK3 b3 b1
     try simp only [Act.put]
     refine wp_region_tab0 [RT.is (.bool true), RT.is (.bool true), RT.is (.bool true), RT.is (.bool true), RT.is (.bool true), RT.is (.slice a6 n c6), RT.is (.int .i64 (m : Int)), RT.is (.slice a6 m c6), RT.is (sumV E), RT.is (.int .i64 (m : Int)), RT.is (.slice a6 n c6), RT.is (sumV D), RT.is (.slice a6 n c6), RT.is (.int .i64 (n : Int)), RT.is (.slice ap k cp), RT.is (.bool true), RT.is (.bool true), RT.is (.bool true)] (by kernel_rfl) (by kernel_rfl) (by kernel_rfl) ⟨?_, ?_, ?_, ?_, ?_, ?_, ?_, ?_, ?_, ?_, ?_, ?_, ?_, ?_, ?_, ?_, ?_, ?_, trivial⟩ ?_
     · intro ac w' hF hL hP hU K hK
       have hB : Below _ _ _ := hL
       have e5 : ac.eval (.tmp 5) = .bool true := hF.at 5 (by kernel_rfl)
       exact rop_move _ rfl e5 (wanted_none rfl) (hK _ _ (le8_refl _) rfl)
     · intro ac w' hF hL hP hU K hK
       have hB : Below _ _ _ := hL
       have e33 : ac.eval (.tmp 33) = .bool true := hP 0 (by kernel_rfl)
       exact rop_move _ rfl e33 (wanted_none rfl) (hK _ _ (le8_refl _) rfl)
     · intro ac w' hF hL hP hU K hK
       have hB : Below _ _ _ := hL
       have e9 : ac.eval (.tmp 9) = .bool true := hF.at 9 (by kernel_rfl)
       have e34 : ac.eval (.tmp 34) = .bool true := hP 1 (by kernel_rfl)
       exact rop_move _ rfl e9 (wanted_of (j := 1) (b := true) rfl rfl e34) (hK _ _ (le8_refl _) rfl)
     · intro ac w' hF hL hP hU K hK
       have hB : Below _ _ _ := hL
       have e34 : ac.eval (.tmp 34) = .bool true := hP 1 (by kernel_rfl)
       have e35 : ac.eval (.tmp 35) = .bool true := hP 2 (by kernel_rfl)
       exact rop_pick _ _ _ rfl true e34 (by simpa using e35) (wanted_none rfl) (hK _ _ (le8_refl _) rfl)
     · intro ac w' hF hL hP hU K hK
       have hB : Below _ _ _ := hL
       have e36 : ac.eval (.tmp 36) = .bool true := hP 3 (by kernel_rfl)
       exact rop_move _ rfl e36 (wanted_none rfl) (hK _ _ (le8_refl _) rfl)
     · intro ac w' hF hL hP hU K hK
       have hB : Below _ _ _ := hL
       have e6 : ac.eval (.tmp 6) = .slice a6 n c6 := hF.at 6 (by kernel_rfl)
       have e37 : ac.eval (.tmp 37) = .bool true := hP 4 (by kernel_rfl)
       exact rop_move _ rfl e6 (wanted_of (j := 4) (b := true) rfl rfl e37) (hK _ _ (le8_refl _) rfl)
     · intro ac w' hF hL hP hU K hK
       have hB : Below _ _ _ := hL
       have e7 : ac.eval (.tmp 7) = .int .i64 (m : Int) := hF.at 7 (by kernel_rfl)
       have e37 : ac.eval (.tmp 37) = .bool true := hP 4 (by kernel_rfl)
       exact rop_move _ rfl e7 (wanted_of (j := 4) (b := true) rfl rfl e37) (hK _ _ (le8_refl _) rfl)
     · intro ac w' hF hL hP hU K hK
       have hB : Below _ _ _ := hL
       have e38 : ac.eval (.tmp 38) = .slice a6 n c6 := hP 5 (by kernel_rfl)
       have e39 : ac.eval (.tmp 39) = .int .i64 (m : Int) := hP 6 (by kernel_rfl)
       have e37 : ac.eval (.tmp 37) = .bool true := hP 4 (by kernel_rfl)
       exact rop_sliceG _ _ _ _ _ rfl e38 rfl (by simp [e39]) rfl (scut_h a6 n c6 m hmc w') (wanted_of (j := 4) (b := true) rfl rfl e37) (hK _ _ (le8_refl _) rfl)
     · intro ac w' hF hL hP hU K hK
       have hB : Below _ _ _ := hL
       have e40 : ac.eval (.tmp 40) = .slice a6 m c6 := hP 7 (by kernel_rfl)
       have e37 : ac.eval (.tmp 37) = .bool true := hP 4 (by kernel_rfl)
       refine rop_call 20 _ _ rfl #[.slice a6 m c6] (by simp [e40]) (by kernel_rfl) (wanted_of (j := 4) (b := true) rfl rfl e37) ?_
       refine (HRE.out _ w' (H6m.out.old hB)).mono ?_
       rintro e w2 ⟨rfl, hb⟩
       exact ⟨_, rfl, hK _ _ hb rfl⟩
     · intro ac w' hF hL hP hU K hK
       have hB : Below _ _ _ := hL
       have e7 : ac.eval (.tmp 7) = .int .i64 (m : Int) := hF.at 7 (by kernel_rfl)
       have e37 : ac.eval (.tmp 37) = .bool true := hP 4 (by kernel_rfl)
       exact rop_move _ rfl e7 (wanted_of (j := 4) (b := true) rfl rfl e37) (hK _ _ (le8_refl _) rfl)
     · intro ac w' hF hL hP hU K hK
       have hB : Below _ _ _ := hL
       have e6 : ac.eval (.tmp 6) = .slice a6 n c6 := hF.at 6 (by kernel_rfl)
       have e37 : ac.eval (.tmp 37) = .bool true := hP 4 (by kernel_rfl)
       exact rop_move _ rfl e6 (wanted_of (j := 4) (b := true) rfl rfl e37) (hK _ _ (le8_refl _) rfl)
     · intro ac w' hF hL hP hU K hK
       have hB : Below _ _ _ := hL
       have e43 : ac.eval (.tmp 43) = .slice a6 n c6 := hP 10 (by kernel_rfl)
       have e37 : ac.eval (.tmp 37) = .bool true := hP 4 (by kernel_rfl)
       refine rop_call 20 _ _ rfl #[.slice a6 n c6] (by simp [e43]) (by kernel_rfl) (wanted_of (j := 4) (b := true) rfl rfl e37) ?_
       refine (HRT.out _ w' (H63.out.old hB)).mono ?_
       rintro e w2 ⟨rfl, hb⟩
       exact ⟨_, rfl, hK _ _ hb rfl⟩
     · intro ac w' hF hL hP hU K hK
       have hB : Below _ _ _ := hL
       have e6 : ac.eval (.tmp 6) = .slice a6 n c6 := hF.at 6 (by kernel_rfl)
       have e37 : ac.eval (.tmp 37) = .bool true := hP 4 (by kernel_rfl)
       exact rop_move _ rfl e6 (wanted_of (j := 4) (b := true) rfl rfl e37) (hK _ _ (le8_refl _) rfl)
     · intro ac w' hF hL hP hU K hK
       have hB : Below _ _ _ := hL
       have e45 : ac.eval (.tmp 45) = .slice a6 n c6 := hP 12 (by kernel_rfl)
       have e37 : ac.eval (.tmp 37) = .bool true := hP 4 (by kernel_rfl)
       exact rop_lenG _ Tryd.underlying25 rfl e45 (wanted_of (j := 4) (b := true) rfl rfl e37) (hK _ _ (le8_refl _) rfl)
     · intro ac w' hF hL hP hU K hK
       have hB : Below _ _ _ := hL
       have e8 : ac.eval (.tmp 8) = .slice ap k cp := hF.at 8 (by kernel_rfl)
       have e37 : ac.eval (.tmp 37) = .bool true := hP 4 (by kernel_rfl)
       exact rop_move _ rfl e8 (wanted_of (j := 4) (b := true) rfl rfl e37) (hK _ _ (le8_refl _) rfl)
     · intro ac w' hF hL hP hU K hK
       have hB : Below _ _ _ := hL
       have e41 : ac.eval (.tmp 41) = sumV E := hP 8 (by kernel_rfl)
       have e42 : ac.eval (.tmp 42) = .int .i64 (m : Int) := hP 9 (by kernel_rfl)
       have e44 : ac.eval (.tmp 44) = sumV D := hP 11 (by kernel_rfl)
       have e46 : ac.eval (.tmp 46) = .int .i64 (n : Int) := hP 13 (by kernel_rfl)
       have e47 : ac.eval (.tmp 47) = .slice ap k cp := hP 14 (by kernel_rfl)
       have e37 : ac.eval (.tmp 37) = .bool true := hP 4 (by kernel_rfl)
       refine rop_call 17 _ _ rfl #[sumV E, .int .i64 (m : Int), sumV D, .int .i64 (n : Int), .slice ap k cp] (by simp [e41, e42, e44, e46, e47]) (by kernel_rfl) (wanted_of (j := 4) (b := true) rfl rfl e37) ?_
       refine (HRI.out w' hB).mono ?_
       rintro e w2 ⟨rfl, hb⟩
       exact ⟨_, rfl, hK _ _ hb rfl⟩
     · intro ac w' hF hL hP hU K hK
       have hB : Below _ _ _ := hL
       have e37 : ac.eval (.tmp 37) = .bool true := hP 4 (by kernel_rfl)
       have e48 : ac.eval (.tmp 48) = .bool true := hP 15 (by kernel_rfl)
       exact rop_pick _ _ _ rfl true e37 (by simpa using e48) (wanted_none rfl) (hK _ _ (le8_refl _) rfl)
     · intro ac w' hF hL hP hU K hK
       have hB : Below _ _ _ := hL
       have e49 : ac.eval (.tmp 49) = .bool true := hP 16 (by kernel_rfl)
       exact rop_assign _ rfl e49 (wanted_none rfl) (hK _ _ (le8_refl _) rfl)
     · intro ac w' hF hB hT
       have e49 : ac.eval (.tmp 49) = .bool true := hT 16 (by decide)
       have e4 : ac.eval (.tmp 4) = .bool true := hT 17 (by decide)
       rw [hF.setsG [33, 34, 35, 36, 37, 38, 39, 40, 41, 42, 43, 44, 45, 46, 47, 48, 49, 4] (by kernel_rfl)]
       simp only [List.foldl_cons, List.foldl_nil, List.setIfInBounds_toArray, List.set_cons_succ, List.set_cons_zero, e49, e4]
       generalize ac.eval (.tmp 33) = u33
       generalize ac.eval (.tmp 34) = u34
       generalize ac.eval (.tmp 35) = u35
       generalize ac.eval (.tmp 36) = u36
       generalize ac.eval (.tmp 37) = u37
       generalize ac.eval (.tmp 38) = u38
       generalize ac.eval (.tmp 39) = u39
       generalize ac.eval (.tmp 40) = u40
       generalize ac.eval (.tmp 41) = u41
       generalize ac.eval (.tmp 42) = u42
       generalize ac.eval (.tmp 43) = u43
       generalize ac.eval (.tmp 44) = u44
       generalize ac.eval (.tmp 45) = u45
       generalize ac.eval (.tmp 46) = u46
       generalize ac.eval (.tmp 47) = u47
       generalize ac.eval (.tmp 48) = u48
       clear e49 e4 hT hF ac
       have HF := Lib.hid (below_step HB3.out (Nat.le_refl _) hB)
       clear hB
       go_wp2
       go_ret
       exact ⟨rfl, HF.out⟩)

set_option maxRecDepth 100000 in
theorem lifted (os : Os) (started : os.Started) (H : Type) (enc : TypeId × Value → H) :
    ReturnsInHanded {} Tryd.checked os 6 .any (fun w args => (Rows.proofTreesSpec.pre enc Tryd.prog Tryd.f6 [] false w args ∧ laidMetH Tryd.prog [("scrinium/sha.k", Rows.laid_scrinium_sha_k)] w) ∧ sizedMet enc Tryd.prog Tryd.f6 (OpenSpec.ofChange Rows.proofTreesSpec) false w args)
      (Rows.proofTreesSpec.post enc Tryd.prog Tryd.f6 false true false false) := by
  refine returnsInHanded_of_change_and (C := Tryd.checked) (X := fun w _ => laidMetH Tryd.prog [("scrinium/sha.k", Rows.laid_scrinium_sha_k)] w) (fun _ _ _ hh h => h.of_heap hh) lawOwn started (by kernel_rfl) Tryd.func6
    (ChangeSpec.witness_shaped (enc := enc) (C := Tryd.checked) (os := os) (X := fun w _ => laidMetH Tryd.prog [("scrinium/sha.k", Rows.laid_scrinium_sha_k)] w) false (World.doorLaid Tryd.prog 400 os) #[.slice none 0 0, .int .i64 0] 8 rfl (World.shaped_of_RefB (by kernel_rfl) (by kernel_rfl)) (by kernel_rfl) (by kernel_rfl) (by kernel_rfl) (door_met os _)) ?_
  intro W base args ds gs before hval0 hW _ _ hL _
  have hval : ∀ (j : Nat) t v, Tryd.f6.params[j]? = some t → args[j]? = some v → Value.okWide Tryd.prog W .any base t v := hval0
  have hW' := hW
  obtain ⟨p, q, hA0, hV, rfl, hfz, hnd⟩ := hW
  have hA : DataW.TrodAll enc Tryd.prog W 0 (fun _ => true) true Tryd.f6.params.toList args.toList ds p := hA0
  rw [Tryd.params6] at hA hval
  obtain ⟨v0, vs0, d0, ds0, p0, q0, hargs, rfl, rfl, h0, r0⟩ := trodAll_cons hA
  obtain ⟨v1, vs1, d1, ds1, p1, q1, rfl, rfl, rfl, h1, r1⟩ := trodAll_cons r0
  obtain ⟨rfl, rfl, rfl⟩ := trodAll_nil r1
  obtain rfl : args = #[v0, v1] := by cases args; simp_all
  obtain ⟨rfl, rfl⟩ := trodVars_none hV
  have hKT := KT_of_laid hL
  obtain ⟨a0, len0, cap0, rfl⟩ := okWide_slice Tryd.underlying25 (hval 0 25 v0 rfl rfl)
  obtain ⟨l0, w0⟩ := sums_of h0
  obtain ⟨a1, rfl, rfl, rfl, w1⟩ := open_int Tryd.underlying3 (hval 1 3 v1 rfl rfl) h1
  clear hA0 hval0
  obtain ⟨l1, m1⟩ := i64_bounds w1
  refine (walk (w := W) hKT _ l0 w0 a1 l1 m1).mono fun e W' ⟨he, bel⟩ => ?_
  subst he
  exact ⟨_, rfl, law_post rfl rfl (by kernel_rfl) hW' rfl bel⟩

theorem row_holds : Rows.ProofTreesSaid :=
  OpenClaim.holds_of_wide 6 Tryd.f6 rfl rfl rfl rfl rfl rfl rfl ⟨rfl, rfl, rfl, rfl, rfl⟩ rfl rfl rfl rfl rfl (by kernel_rfl) Tryd.func6 (by kernel_rfl)
    (of_decide_eq_true (by kernel_rfl)) (by unfold Func.isWrapper; first | (rw [if_pos (by decide +kernel)]; kernel_rfl) | (rw [if_neg (by decide +kernel)]; exact ⟨rfl, rfl⟩))
    (fun os started H enc _ => lifted os started H enc)

theorem holds : Rows.ProofTreesCardSaid :=
  Claim7.holds_tied_plain_at .later [] [.data] true Rows.proofTreesCard.stood.harness false
    row_holds (fun _ h => by cases h) (by kernel_rfl) (fun _ h => by cases h) proofTrees_row_tie rfl ⟨rfl, rfl⟩ (by kernel_rfl) rfl
    (fun f fn hf hfn => by
      obtain rfl : f = 6 := Option.some.inj ((show Tryd.prog.funcNamed "scrinium/scriniumlaw12.ProofTrees" = some 6 by kernel_rfl).symm.trans hf) |>.symm
      obtain rfl : fn = Tryd.f6 := (Option.some.inj (Tryd.func6.symm.trans hfn)).symm
      exact ⟨by kernel_rfl, fun j t ht => by
        rw [Tryd.params6] at ht
        have hm : t ∈ [25, 3] := by simpa using Array.mem_of_getElem? ht
        have hall : ([25, 3].all fun u => !Tryd.prog.wantsStandIn u) = true := by kernel_rfl
        exact (show Tryd.prog.wantsStandIn t = false by simpa using List.all_eq_true.1 hall t hm)⟩)
    (by kernel_rfl)
end Go.Proofs.YtjdhcncjcencbaaDoor.proofTrees

theorem Go.Proofs.YtjdhcncjcencbaaDoor.proofTrees_holds : Go.Proofs.YtjdhcncjcencbaaDoor.Rows.ProofTreesCardSaid := Go.Proofs.YtjdhcncjcencbaaDoor.proofTrees.holds
#print axioms Go.Proofs.YtjdhcncjcencbaaDoor.proofTrees_holds
