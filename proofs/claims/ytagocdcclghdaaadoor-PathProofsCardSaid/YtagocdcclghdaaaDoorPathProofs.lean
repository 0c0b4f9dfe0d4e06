/-
  PathProofs: paths and links are as the document says them. For all hashes (the first 20 of them), and every place; the numbers K of the package sha are as the program's own start lays them.
-/
import Derived.Test.YtagocdcclghdaaaDoorPathAwake
namespace Go.Proofs.YtagocdcclghdaaaDoor.pathProofs
open Go.ChangeShapes Go.WideShapes Go.ChangeAt Go.RowKit

theorem eql_bool_same (x : Bool) (w : World) : (binOp .eql 4 (.bool x) (.bool x)).run Tryd.prog w = .ok (.bool true) w := by cases x <;> go_simp
set_option maxHeartbeats 4000000 in
set_option maxRecDepth 100000 in
theorem walk {w : World} (hK : KT w) (v : Value) (l : Hs) (hv : Sums w v l) (a : Int) (_ : -9223372036854775808 ≤ a) (_ : a ≤ 9223372036854775807) :
    Calls Tryd.prog 3 #[v, .int .i64 a] w fun e w' => e = .returned (.bool true) ∧ Below w.heap.size w w' := by
  have HAW := Lib.hid (awake10_any w hK)
  have HV := Lib.hid hv
  obtain ⟨r, hr⟩ : ∃ r, r = l.take 20 := ⟨_, rfl⟩
  have hrl : r.length ≤ 20 := by rw [hr, List.length_take]; omega
  have HRL := Lib.hid hrl
  have Hr := Lib.hid hr
  obtain ⟨x, hx⟩ : ∃ x, x = (pathZ r a).2 := ⟨_, rfl⟩
  obtain ⟨y, hy⟩ : ∃ y, y = (linksZ r a).2 := ⟨_, rfl⟩
  obtain ⟨P, hP⟩ : ∃ P, P = (pathZ r a).1 := ⟨_, rfl⟩
  obtain ⟨Q, hQ⟩ : ∃ Q, Q = (linksZ r a).1 := ⟨_, rfl⟩
  have HP : Hid (P.length ≤ 1000) := Lib.hid (by
    rw [hP]; unfold pathZ; split
    · rw [Tree.path_length _ _ _ (Nat.le_refl _)]
      have := Tree.long_le 5 a.toNat r.length (by omega)
      omega
    · simp)
  have HQ : Hid (Q.length ≤ 1000) := Lib.hid (by
    rw [hQ]; unfold linksZ; split
    · rw [Tree.links_length _ _ _ _ (by omega) (by omega) (Nat.le_refl _)]
      have := Tree.llong_le _ a.toNat r.length true (by omega) (by omega) (Nat.le_refl _)
      omega
    · simp)
  have HA : Hid (∀ v u, KT u → Sums u v r → Calls Tryd.prog 11 #[v, .int .i64 a] u fun e w' => ∃ b n c, e = .returned (.tuple #[.slice b n c, .bool x]) ∧ Sums w' (.slice b n c) P ∧ Below u.heap.size u w') := Lib.hid fun v u hk hv => (path_any v r a u hv (by omega) hk).mono fun e w' ⟨v', he, ho, hb⟩ => by
    obtain ⟨b, c, rfl, -, -⟩ := ho.sums.slice
    exact ⟨b, _, c, by rw [he, hx], by rw [hP]; exact ho.sums, hb⟩
  have HB : Hid (∀ v u, Sums u v r → Calls Tryd.prog 12 #[v, .int .i64 a] u fun e w' => ∃ b n c, e = .returned (.tuple #[.slice b n c, .bool x]) ∧ Sums w' (.slice b n c) P ∧ Below u.heap.size u w') := Lib.hid fun v u hv => (rPath_any v r a u hv (by omega)).mono fun e w' ⟨v', he, ho, hb⟩ => by
    obtain ⟨b, c, rfl, -, -⟩ := ho.sums.slice
    exact ⟨b, _, c, by rw [he, hx], by rw [hP]; exact ho.sums, hb⟩
  have HC : Hid (∀ v u, KT u → Sums u v r → Calls Tryd.prog 13 #[v, .int .i64 a] u fun e w' => ∃ b n c, e = .returned (.tuple #[.slice b n c, .bool y]) ∧ Sums w' (.slice b n c) Q ∧ Below u.heap.size u w') := Lib.hid fun v u hk hv => (links_any v r a u hv (by omega) hk).mono fun e w' ⟨v', he, ho, hb⟩ => by
    obtain ⟨b, c, rfl, -, -⟩ := ho.sums.slice
    exact ⟨b, _, c, by rw [he, hy], by rw [hQ]; exact ho.sums, hb⟩
  have HD : Hid (∀ v u, Sums u v r → Calls Tryd.prog 14 #[v, .int .i64 a] u fun e w' => ∃ b n c, e = .returned (.tuple #[.slice b n c, .bool y]) ∧ Sums w' (.slice b n c) Q ∧ Below u.heap.size u w') := Lib.hid fun v u hv => (rLinks_any v r a u hv (by omega)).mono fun e w' ⟨v', he, ho, hb⟩ => by
    obtain ⟨b, c, rfl, -, -⟩ := ho.sums.slice
    exact ⟨b, _, c, by rw [he, hy], by rw [hQ]; exact ho.sums, hb⟩
  have HS : Hid (∀ L, L.length ≤ 1000 → ∀ va vb u, Sums u va L → Sums u vb L → Calls Tryd.prog 15 #[va, vb] u fun e w' => e = .returned (.bool true) ∧ Below u.heap.size u w') := Lib.hid fun L hL va vb u ha hb => by
    have := same_any va vb L L u ha hb hL
    rwa [decide_eq_true rfl] at this
  have HKW := Lib.hid hK
  clear hx hy hP hQ hr hv hK
  go_enter Tryd.func3, Tryd.ntmps3
  go_upto_region 9 with (first
    | (go_at_call 9; ((with_reducible refine HAW.out.mono ?_); rintro e w1 ⟨rfl, b1⟩))
    | (go_at_call 10; refine (few10_any _ l _ (HV.out.old b1)).mono ?_; rintro e w2 ⟨v6, rfl, h6, rfl⟩; rw [← Hr.out] at h6; have H6 := Lib.hid h6.1; clear h6)
    | (go_at_call 11; ((with_reducible refine (HA.out _ _ (HKW.out.old b1) H6.out).mono ?_); rintro e w3 ⟨a7, n7, c7, rfl, h7, b3⟩; have H7 := Lib.hid h7; clear h7))
    | (go_at_call 12; ((with_reducible refine (HB.out _ _ (H6.out.old b3)).mono ?_); rintro e w4 ⟨a9, n9, c9, rfl, h9, b4⟩; have H9 := Lib.hid h9; clear h9))
    | (go_at_call 13; ((with_reducible refine (HC.out _ _ (((HKW.out.old b1).old b3).old b4) ((H6.out.old b3).old b4)).mono ?_); rintro e w5 ⟨a11, n11, c11, rfl, h11, b5⟩; have H11 := Lib.hid h11; clear h11))
    | (go_at_call 14; ((with_reducible refine (HD.out _ _ (((H6.out.old b3).old b4).old b5)).mono ?_); rintro e w6 ⟨a13, n13, c13, rfl, h13, b6⟩; have H13 := Lib.hid h13; clear h13))
    | (go_at_call 15; ((with_reducible refine (HS.out P HP.out _ _ _ (((H7.out.old b4).old b5).old b6) ((H9.out.old b5).old b6)).mono ?_); rintro e w7 ⟨rfl, b7⟩))
    | (go_at_call 15; ((with_reducible refine (HS.out Q HQ.out _ _ _ ((H11.out.old b6).old b7) (H13.out.old b7)).mono ?_); rintro e w8 ⟨rfl, b8⟩)))
  have bz := below_step (below_step (below_step (below_step (below_step (below_step b1 (Nat.le_refl _) b3) (Nat.le_refl _) b4) (Nat.le_refl _) b5) (Nat.le_refl _) b6) (Nat.le_refl _) b7) (Nat.le_refl _) b8
  try simp only [Act.put]
  refine wp_region_tab0 [RT.is (.bool true), RT.is (.bool true), RT.is (.bool true), RT.is (.bool true), RT.is (.bool true), RT.is (.bool x), RT.is (.bool x), RT.is (.bool true), RT.is (.bool true), RT.is (.bool true), RT.is (.bool true), RT.is (.bool true), RT.is (.bool true), RT.is (.bool y), RT.is (.bool y), RT.is (.bool true), RT.is (.bool true), RT.is (.bool true)] (by kernel_rfl) (by kernel_rfl) (by kernel_rfl) ⟨?_, ?_, ?_, ?_, ?_, ?_, ?_, ?_, ?_, ?_, ?_, ?_, ?_, ?_, ?_, ?_, ?_, ?_, trivial⟩ ?_
  · intro ac w' hF hL hP hU K hK
    have hB : Below _ _ _ := hL
    have e5 : ac.eval (.tmp 5) = .bool true := hF.at 5 (by kernel_rfl)
    exact rop_move _ rfl e5 (wanted_none rfl) (hK _ _ (le8_refl _) rfl)
  · intro ac w' hF hL hP hU K hK
    have hB : Below _ _ _ := hL
    have e50 : ac.eval (.tmp 50) = .bool true := hP 0 (by kernel_rfl)
    exact rop_move _ rfl e50 (wanted_none rfl) (hK _ _ (le8_refl _) rfl)
  · intro ac w' hF hL hP hU K hK
    have hB : Below _ _ _ := hL
    have e15 : ac.eval (.tmp 15) = .bool true := hF.at 15 (by kernel_rfl)
    have e51 : ac.eval (.tmp 51) = .bool true := hP 1 (by kernel_rfl)
    exact rop_move _ rfl e15 (wanted_of (j := 1) (b := true) rfl rfl e51) (hK _ _ (le8_refl _) rfl)
  · intro ac w' hF hL hP hU K hK
    have hB : Below _ _ _ := hL
    have e51 : ac.eval (.tmp 51) = .bool true := hP 1 (by kernel_rfl)
    have e52 : ac.eval (.tmp 52) = .bool true := hP 2 (by kernel_rfl)
    exact rop_pick _ _ _ rfl true e51 (by simpa using e52) (wanted_none rfl) (hK _ _ (le8_refl _) rfl)
  · intro ac w' hF hL hP hU K hK
    have hB : Below _ _ _ := hL
    have e53 : ac.eval (.tmp 53) = .bool true := hP 3 (by kernel_rfl)
    exact rop_move _ rfl e53 (wanted_none rfl) (hK _ _ (le8_refl _) rfl)
  · intro ac w' hF hL hP hU K hK
    have hB : Below _ _ _ := hL
    have e8 : ac.eval (.tmp 8) = .bool x := hF.at 8 (by kernel_rfl)
    have e54 : ac.eval (.tmp 54) = .bool true := hP 4 (by kernel_rfl)
    exact rop_move _ rfl e8 (wanted_of (j := 4) (b := true) rfl rfl e54) (hK _ _ (le8_refl _) rfl)
  · intro ac w' hF hL hP hU K hK
    have hB : Below _ _ _ := hL
    have e10 : ac.eval (.tmp 10) = .bool x := hF.at 10 (by kernel_rfl)
    have e54 : ac.eval (.tmp 54) = .bool true := hP 4 (by kernel_rfl)
    exact rop_move _ rfl e10 (wanted_of (j := 4) (b := true) rfl rfl e54) (hK _ _ (le8_refl _) rfl)
  · intro ac w' hF hL hP hU K hK
    have hB : Below _ _ _ := hL
    have e55 : ac.eval (.tmp 55) = .bool x := hP 5 (by kernel_rfl)
    have e56 : ac.eval (.tmp 56) = .bool x := hP 6 (by kernel_rfl)
    have e54 : ac.eval (.tmp 54) = .bool true := hP 4 (by kernel_rfl)
    exact rop_bin _ _ _ _ _ rfl e55 e56 (guard_bool _ _ _ _ _ _ w') (eql_bool_same x w') (wanted_of (j := 4) (b := true) rfl rfl e54) (hK _ _ (le8_refl _) rfl)
  · intro ac w' hF hL hP hU K hK
    have hB : Below _ _ _ := hL
    have e54 : ac.eval (.tmp 54) = .bool true := hP 4 (by kernel_rfl)
    have e57 : ac.eval (.tmp 57) = .bool true := hP 7 (by kernel_rfl)
    exact rop_pick _ _ _ rfl true e54 (by simpa using e57) (wanted_none rfl) (hK _ _ (le8_refl _) rfl)
  · intro ac w' hF hL hP hU K hK
    have hB : Below _ _ _ := hL
    have e58 : ac.eval (.tmp 58) = .bool true := hP 8 (by kernel_rfl)
    exact rop_move _ rfl e58 (wanted_none rfl) (hK _ _ (le8_refl _) rfl)
  · intro ac w' hF hL hP hU K hK
    have hB : Below _ _ _ := hL
    have e16 : ac.eval (.tmp 16) = .bool true := hF.at 16 (by kernel_rfl)
    have e59 : ac.eval (.tmp 59) = .bool true := hP 9 (by kernel_rfl)
    exact rop_move _ rfl e16 (wanted_of (j := 9) (b := true) rfl rfl e59) (hK _ _ (le8_refl _) rfl)
  · intro ac w' hF hL hP hU K hK
    have hB : Below _ _ _ := hL
    have e59 : ac.eval (.tmp 59) = .bool true := hP 9 (by kernel_rfl)
    have e60 : ac.eval (.tmp 60) = .bool true := hP 10 (by kernel_rfl)
    exact rop_pick _ _ _ rfl true e59 (by simpa using e60) (wanted_none rfl) (hK _ _ (le8_refl _) rfl)
  · intro ac w' hF hL hP hU K hK
    have hB : Below _ _ _ := hL
    have e61 : ac.eval (.tmp 61) = .bool true := hP 11 (by kernel_rfl)
    exact rop_move _ rfl e61 (wanted_none rfl) (hK _ _ (le8_refl _) rfl)
  · intro ac w' hF hL hP hU K hK
    have hB : Below _ _ _ := hL
    have e12 : ac.eval (.tmp 12) = .bool y := hF.at 12 (by kernel_rfl)
    have e62 : ac.eval (.tmp 62) = .bool true := hP 12 (by kernel_rfl)
    exact rop_move _ rfl e12 (wanted_of (j := 12) (b := true) rfl rfl e62) (hK _ _ (le8_refl _) rfl)
  · intro ac w' hF hL hP hU K hK
    have hB : Below _ _ _ := hL
    have e14 : ac.eval (.tmp 14) = .bool y := hF.at 14 (by kernel_rfl)
    have e62 : ac.eval (.tmp 62) = .bool true := hP 12 (by kernel_rfl)
    exact rop_move _ rfl e14 (wanted_of (j := 12) (b := true) rfl rfl e62) (hK _ _ (le8_refl _) rfl)
  · intro ac w' hF hL hP hU K hK
    have hB : Below _ _ _ := hL
    have e63 : ac.eval (.tmp 63) = .bool y := hP 13 (by kernel_rfl)
    have e64 : ac.eval (.tmp 64) = .bool y := hP 14 (by kernel_rfl)
    have e62 : ac.eval (.tmp 62) = .bool true := hP 12 (by kernel_rfl)
    exact rop_bin _ _ _ _ _ rfl e63 e64 (guard_bool _ _ _ _ _ _ w') (eql_bool_same y w') (wanted_of (j := 12) (b := true) rfl rfl e62) (hK _ _ (le8_refl _) rfl)
  · intro ac w' hF hL hP hU K hK
    have hB : Below _ _ _ := hL
    have e62 : ac.eval (.tmp 62) = .bool true := hP 12 (by kernel_rfl)
    have e65 : ac.eval (.tmp 65) = .bool true := hP 15 (by kernel_rfl)
    exact rop_pick _ _ _ rfl true e62 (by simpa using e65) (wanted_none rfl) (hK _ _ (le8_refl _) rfl)
  · intro ac w' hF hL hP hU K hK
    have hB : Below _ _ _ := hL
    have e66 : ac.eval (.tmp 66) = .bool true := hP 16 (by kernel_rfl)
    exact rop_assign _ rfl e66 (wanted_none rfl) (hK _ _ (le8_refl _) rfl)
  · intro ac w' hF hB hT
    have e4 : ac.eval (.tmp 4) = .bool true := hT 17 (by decide)
    rw [hF.setsG [50, 51, 52, 53, 54, 55, 56, 57, 58, 59, 60, 61, 62, 63, 64, 65, 66, 4] (by kernel_rfl)]
    simp only [List.foldl_cons, List.foldl_nil, List.setIfInBounds_toArray, List.set_cons_succ, List.set_cons_zero, e4]
    generalize ac.eval (.tmp 50) = u50
    generalize ac.eval (.tmp 51) = u51
    generalize ac.eval (.tmp 52) = u52
    generalize ac.eval (.tmp 53) = u53
    generalize ac.eval (.tmp 54) = u54
    generalize ac.eval (.tmp 55) = u55
    generalize ac.eval (.tmp 56) = u56
    generalize ac.eval (.tmp 57) = u57
    generalize ac.eval (.tmp 58) = u58
    generalize ac.eval (.tmp 59) = u59
    generalize ac.eval (.tmp 60) = u60
    generalize ac.eval (.tmp 61) = u61
    generalize ac.eval (.tmp 62) = u62
    generalize ac.eval (.tmp 63) = u63
    generalize ac.eval (.tmp 64) = u64
    generalize ac.eval (.tmp 65) = u65
    generalize ac.eval (.tmp 66) = u66
    clear e4 hT hF ac
    go_wp2
    go_ret
    exact ⟨rfl, below_step bz (Nat.le_refl _) hB⟩

set_option maxRecDepth 100000 in
theorem lifted (os : Os) (started : os.Started) (H : Type) (enc : TypeId × Value → H) :
    ReturnsInHanded {} Tryd.checked os 3 .any (fun w args => (Rows.pathProofsSpec.pre enc Tryd.prog Tryd.f3 [] false w args ∧ laidMetH Tryd.prog [("scrinium/sha.k", Rows.laid_scrinium_sha_k)] w) ∧ sizedMet enc Tryd.prog Tryd.f3 (OpenSpec.ofChange Rows.pathProofsSpec) false w args)
      (Rows.pathProofsSpec.post enc Tryd.prog Tryd.f3 false true false false) := by
  refine returnsInHanded_of_change_and (C := Tryd.checked) (X := fun w _ => laidMetH Tryd.prog [("scrinium/sha.k", Rows.laid_scrinium_sha_k)] w) (fun _ _ _ hh h => h.of_heap hh) lawOwn started (by kernel_rfl) Tryd.func3
    (ChangeSpec.witness_shaped (enc := enc) (C := Tryd.checked) (os := os) (X := fun w _ => laidMetH Tryd.prog [("scrinium/sha.k", Rows.laid_scrinium_sha_k)] w) false (World.doorLaid Tryd.prog 400 os) #[.slice none 0 0, .int .i64 0] 8 rfl (World.shaped_of_RefB (by kernel_rfl) (by kernel_rfl)) (by kernel_rfl) (by kernel_rfl) (by kernel_rfl) (door_met os _)) ?_
  intro W base args ds gs before hval0 hW _ _ hL _
  have hval : ∀ (j : Nat) t v, Tryd.f3.params[j]? = some t → args[j]? = some v → Value.okWide Tryd.prog W .any base t v := hval0
  have hW' := hW
  obtain ⟨p, q, hA0, hV, rfl, hfz, hnd⟩ := hW
  have hA : DataW.TrodAll enc Tryd.prog W 0 (fun _ => true) true Tryd.f3.params.toList args.toList ds p := hA0
  rw [Tryd.params3] at hA hval
  obtain ⟨v0, vs0, d0, ds0, p0, q0, hargs, rfl, rfl, h0, r0⟩ := trodAll_cons hA
  obtain ⟨v1, vs1, d1, ds1, p1, q1, rfl, rfl, rfl, h1, r1⟩ := trodAll_cons r0
  obtain ⟨rfl, rfl, rfl⟩ := trodAll_nil r1
  obtain rfl : args = #[v0, v1] := by cases args; simp_all
  obtain ⟨rfl, rfl⟩ := trodVars_none hV
  have hKT := KT_of_laid hL
  obtain ⟨a0, len0, cap0, rfl⟩ := okWide_slice Tryd.underlying22 (hval 0 22 v0 rfl rfl)
  obtain ⟨l0, w0⟩ := sums_of h0
  obtain ⟨a1, rfl, rfl, rfl, w1⟩ := open_int Tryd.underlying3 (hval 1 3 v1 rfl rfl) h1
  clear hA0 hval0
  obtain ⟨l1, m1⟩ := i64_bounds w1
  refine (walk (w := W) hKT _ l0 w0 a1 l1 m1).mono fun e W' ⟨he, bel⟩ => ?_
  subst he
  exact ⟨_, rfl, law_post rfl rfl (by kernel_rfl) hW' rfl bel⟩

theorem row_holds : Rows.PathProofsSaid :=
  OpenClaim.holds_of_wide 3 Tryd.f3 rfl rfl rfl rfl rfl rfl rfl ⟨rfl, rfl, rfl, rfl, rfl⟩ rfl rfl rfl rfl rfl (by kernel_rfl) Tryd.func3 (by kernel_rfl)
    (of_decide_eq_true (by kernel_rfl)) (by unfold Func.isWrapper; first | (rw [if_pos (by decide +kernel)]; kernel_rfl) | (rw [if_neg (by decide +kernel)]; exact ⟨rfl, rfl⟩))
    (fun os started H enc _ => lifted os started H enc)

theorem holds : Rows.PathProofsCardSaid :=
  Claim7.holds_tied_plain_at .later [] [.data] true Rows.pathProofsCard.stood.harness false
    row_holds (fun _ h => by cases h) (by kernel_rfl) (fun _ h => by cases h) pathProofs_row_tie rfl ⟨rfl, rfl⟩ (by kernel_rfl) rfl
    (fun f fn hf hfn => by
      obtain rfl : f = 3 := Option.some.inj ((show Tryd.prog.funcNamed "scrinium/scriniumlaw10.PathProofs" = some 3 by kernel_rfl).symm.trans hf) |>.symm
      obtain rfl : fn = Tryd.f3 := (Option.some.inj (Tryd.func3.symm.trans hfn)).symm
      exact ⟨by kernel_rfl, fun j t ht => by
        rw [Tryd.params3] at ht
        have hm : t ∈ [22, 3] := by simpa using Array.mem_of_getElem? ht
        have hall : ([22, 3].all fun u => !Tryd.prog.wantsStandIn u) = true := by kernel_rfl
        exact (show Tryd.prog.wantsStandIn t = false by simpa using List.all_eq_true.1 hall t hm)⟩)
    (by kernel_rfl)
end Go.Proofs.YtagocdcclghdaaaDoor.pathProofs

theorem Go.Proofs.YtagocdcclghdaaaDoor.pathProofs_holds : Go.Proofs.YtagocdcclghdaaaDoor.Rows.PathProofsCardSaid := Go.Proofs.YtagocdcclghdaaaDoor.pathProofs.holds
#print axioms Go.Proofs.YtagocdcclghdaaaDoor.pathProofs_holds
