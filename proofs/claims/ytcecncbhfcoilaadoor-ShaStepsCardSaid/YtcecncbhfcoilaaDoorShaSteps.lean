/-
  ShaSteps: a state behind a block is as the document says: the program's Step and Start, and the document's own, tell the same. For any eight numbers and any sixteen; the numbers K are as the program's text lays them.
-/
import Derived.Test.YtcecncbhfcoilaaDoorShaLaw
import Derived.Test.YtcecncbhfcoilaaDoorRefStep2
import Derived.Test.YtcecncbhfcoilaaDoorRegOps
namespace Go.Proofs.YtcecncbhfcoilaaDoor.shaSteps
open Go.ChangeShapes Go.WideShapes Go.ChangeAt Go.RowKit

set_option maxHeartbeats 4000000 in
set_option maxRecDepth 100000 in
theorem walk {w : World} (hK : KT w) (v : Sha.V) (hv : v.ok) (B : List Nat) (hl : B.length = 16) (hb : ∀ x ∈ B, x < 4294967296) :
    Calls Tryd.prog 3 #[.agg (vC v), .agg (bC B)] w fun e w' => e = .returned (.bool true) ∧ Below w.heap.size w w' := by
  have Hl := Lib.hid hl
  have Hb := Lib.hid hb
  have Hv := Lib.hid hv
  clear hl hb hv
  go_enter Tryd.func3, Tryd.ntmps3
  go_upto_region 1 with (fail)
  obtain ⟨w0, hw0⟩ : ∃ w0, w0 = (w.alloc (.cells (vC v) 23)).alloc (.cells (bC B) 24) := ⟨_, rfl⟩
  have b0 : Below w.heap.size w w0 := by rw [hw0]; exact ((Below.refl _ _).alloc (Nat.le_refl _) _).alloc (by simp) _
  have g2 : w0.heap[w.heap.size]? = some (.cells (vC v) 23 (0, 0)) := by rw [hw0]; exact (Below.heap_alloc _ _ _ (by simp)).trans (heap_alloc_last w _)
  have g3 : w0.heap[w.heap.size + 1]? = some (.cells (bC B) 24 (0, 0)) := by
    rw [hw0]
    have := heap_alloc_last (w.alloc (.cells (vC v) 23)) (.cells (bC B) 24)
    simp only [World.size_alloc] at this
    exact this
  have s0 : w.heap.size + 1 < w0.heap.size := (Array.getElem?_eq_some_iff.1 g3).1
  rw [← hw0]
  clear hw0
  go_upto_region 2 with (first
    | (go_at_call 12; refine (awake_any _ (hK.old b0)).mono ?_; rintro e w1 ⟨rfl, b1⟩))
  have bb1 := below_step b0 (Nat.le_refl _) b1
  have hK1 := hK.old bb1
  have s1 : w.heap.size + 1 < w1.heap.size := Nat.lt_of_lt_of_le s0 b1.size
  have r2 : Hid (∀ w', Below w1.heap.size w1 w' → w'.rangeAt w.heap.size 0 (v.list.map u32V)) := Lib.hid fun w' h j y hy => (h.cell (p := ⟨w.heap.size, 0 + j, none⟩) (by show w.heap.size < w1.heap.size; omega)).trans ((b1.cell (p := ⟨w.heap.size, 0 + j, none⟩) (by show w.heap.size < w0.heap.size; omega)).trans (by rw [Nat.zero_add, cell_of g2, vC_eq]; simpa [bC] using hy))
  have r3 : Hid (∀ w', Below w1.heap.size w1 w' → w'.rangeAt (w.heap.size + 1) 0 (B.map u32V)) := Lib.hid fun w' h j y hy => (h.cell (p := ⟨w.heap.size + 1, 0 + j, none⟩) s1).trans ((b1.cell (p := ⟨w.heap.size + 1, 0 + j, none⟩) s0).trans (by rw [Nat.zero_add, cell_of g3]; simpa [bC] using hy))
  clear g2 g3
  try simp only [Act.put]
  refine wp_region_tab [RT.is (.bool true), RT.is (.bool true), RT.is (.agg (vC v)), RT.is (.agg (bC B)), RT.is (.agg (vC (Sha.step v B))), RT.is (.agg (vC v)), RT.is (.agg (bC B)), RT.is (.agg (vC (Sha.step v B))), RT.is (.bool true), RT.is (.bool true), RT.is (.bool true), RT.is (.agg (vC Sha.start)), RT.is (.agg (vC Sha.start)), RT.is (.bool true), RT.is (.bool true), RT.is (.bool true)] (by kernel_rfl) (by kernel_rfl) (by kernel_rfl) (by kernel_rfl) ⟨?_, ?_, ?_, ?_, ?_, ?_, ?_, ?_, ?_, ?_, ?_, ?_, ?_, ?_, ?_, ?_, trivial⟩ ?_
  · intro a w' hF hL hP hU K hK
    have hB := below_undrew hL
    have e5 : a.eval (.tmp 5) = .bool true := hF.at 5 (by kernel_rfl)
    exact rop_move _ rfl e5 (wanted_none rfl) (hK _ _ (le8_refl _) rfl)
  · intro a w' hF hL hP hU K hK
    have hB := below_undrew hL
    have e7 : a.eval (.tmp 7) = .bool true := hP 0 (by kernel_rfl)
    exact rop_move _ rfl e7 (wanted_none rfl) (hK _ _ (le8_refl _) rfl)
  · intro a w' hF hL hP hU K hK
    have hB := below_undrew hL
    have e2 : a.eval (.tmp 2) = .pointer (some ⟨w.heap.size, 0, none⟩) := hF.at 2 (by kernel_rfl)
    have e8 : a.eval (.tmp 8) = .bool true := hP 1 (by kernel_rfl)
    exact rop_load _ _ rfl w.heap.size 0 e2 (v.list.map u32V) _ (r2.out w' hB) Tryd.underlying23 rfl (by kernel_rfl) (wanted_of (j := 1) (b := true) rfl rfl e8) (hK _ _ (le8_refl _) rfl)
  · intro a w' hF hL hP hU K hK
    have hB := below_undrew hL
    have e3 : a.eval (.tmp 3) = .pointer (some ⟨w.heap.size + 1, 0, none⟩) := hF.at 3 (by kernel_rfl)
    have e8 : a.eval (.tmp 8) = .bool true := hP 1 (by kernel_rfl)
    exact rop_load _ _ rfl (w.heap.size + 1) 0 e3 (B.map u32V) _ (r3.out w' hB) Tryd.underlying24 rfl (by rw [List.length_map, Hl.out]; exact info_24) (wanted_of (j := 1) (b := true) rfl rfl e8) (hK _ _ (le8_refl _) rfl)
  · intro a w' hF hL hP hU K hK
    have hB := below_undrew hL
    have e9 : a.eval (.tmp 9) = .agg (vC v) := hP 2 (by kernel_rfl)
    have e10 : a.eval (.tmp 10) = .agg (bC B) := hP 3 (by kernel_rfl)
    have e8 : a.eval (.tmp 8) = .bool true := hP 1 (by kernel_rfl)
    refine rop_call 13 _ _ rfl #[.agg (vC v), .agg (bC B)] (by simp [e9, e10]) (by kernel_rfl) (wanted_of (j := 1) (b := true) rfl rfl e8) ?_
    refine (step_any v B w' Hl.out Hv.out Hb.out (hK1.old hB)).mono ?_
    rintro e w2 ⟨rfl, hb⟩
    exact ⟨_, rfl, hK _ _ hb rfl⟩
  · intro a w' hF hL hP hU K hK
    have hB := below_undrew hL
    have e2 : a.eval (.tmp 2) = .pointer (some ⟨w.heap.size, 0, none⟩) := hF.at 2 (by kernel_rfl)
    have e8 : a.eval (.tmp 8) = .bool true := hP 1 (by kernel_rfl)
    exact rop_load _ _ rfl w.heap.size 0 e2 (v.list.map u32V) _ (r2.out w' hB) Tryd.underlying23 rfl (by kernel_rfl) (wanted_of (j := 1) (b := true) rfl rfl e8) (hK _ _ (le8_refl _) rfl)
  · intro a w' hF hL hP hU K hK
    have hB := below_undrew hL
    have e3 : a.eval (.tmp 3) = .pointer (some ⟨w.heap.size + 1, 0, none⟩) := hF.at 3 (by kernel_rfl)
    have e8 : a.eval (.tmp 8) = .bool true := hP 1 (by kernel_rfl)
    exact rop_load _ _ rfl (w.heap.size + 1) 0 e3 (B.map u32V) _ (r3.out w' hB) Tryd.underlying24 rfl (by rw [List.length_map, Hl.out]; exact info_24) (wanted_of (j := 1) (b := true) rfl rfl e8) (hK _ _ (le8_refl _) rfl)
  · intro a w' hF hL hP hU K hK
    have hB := below_undrew hL
    have e12 : a.eval (.tmp 12) = .agg (vC v) := hP 5 (by kernel_rfl)
    have e13 : a.eval (.tmp 13) = .agg (bC B) := hP 6 (by kernel_rfl)
    have e8 : a.eval (.tmp 8) = .bool true := hP 1 (by kernel_rfl)
    refine rop_call 14 _ _ rfl #[.agg (vC v), .agg (bC B)] (by simp [e12, e13]) (by kernel_rfl) (wanted_of (j := 1) (b := true) rfl rfl e8) ?_
    refine (refStep_any v B w' Hl.out Hv.out Hb.out).mono ?_
    rintro e w2 ⟨rfl, hb⟩
    exact ⟨_, rfl, hK _ _ hb rfl⟩
  · intro a w' hF hL hP hU K hK
    have hB := below_undrew hL
    have e11 : a.eval (.tmp 11) = .agg (vC (Sha.step v B)) := hP 4 (by kernel_rfl)
    have e14 : a.eval (.tmp 14) = .agg (vC (Sha.step v B)) := hP 7 (by kernel_rfl)
    have e8 : a.eval (.tmp 8) = .bool true := hP 1 (by kernel_rfl)
    exact rop_bin _ _ _ _ _ rfl e11 e14 (guard_v8 .eql _ _ _ _ w') (eql_v8_t _ _ (Sha.step_ok v B) rfl w') (wanted_of (j := 1) (b := true) rfl rfl e8) (hK _ _ (le8_refl _) rfl)
  · intro a w' hF hL hP hU K hK
    have hB := below_undrew hL
    have e8 : a.eval (.tmp 8) = .bool true := hP 1 (by kernel_rfl)
    have e15 : a.eval (.tmp 15) = .bool true := hP 8 (by kernel_rfl)
    exact rop_pick _ _ _ rfl true e8 (by simpa using e15) (wanted_none rfl) (hK _ _ (le8_refl _) rfl)
  · intro a w' hF hL hP hU K hK
    have hB := below_undrew hL
    have e16 : a.eval (.tmp 16) = .bool true := hP 9 (by kernel_rfl)
    exact rop_move _ rfl e16 (wanted_none rfl) (hK _ _ (le8_refl _) rfl)
  · intro a w' hF hL hP hU K hK
    have hB := below_undrew hL
    have e17 : a.eval (.tmp 17) = .bool true := hP 10 (by kernel_rfl)
    refine rop_call 15 _ _ rfl #[] (by simp) (by kernel_rfl) (wanted_of (j := 10) (b := true) rfl rfl e17) ?_
    refine (start_any w').mono ?_
    rintro e w2 ⟨rfl, hb⟩
    exact ⟨_, rfl, hK _ _ hb rfl⟩
  · intro a w' hF hL hP hU K hK
    have hB := below_undrew hL
    have e17 : a.eval (.tmp 17) = .bool true := hP 10 (by kernel_rfl)
    refine rop_call 16 _ _ rfl #[] (by simp) (by kernel_rfl) (wanted_of (j := 10) (b := true) rfl rfl e17) ?_
    refine (rstart_any w').mono ?_
    rintro e w2 ⟨rfl, hb⟩
    exact ⟨_, rfl, hK _ _ hb rfl⟩
  · intro a w' hF hL hP hU K hK
    have hB := below_undrew hL
    have e18 : a.eval (.tmp 18) = .agg (vC Sha.start) := hP 11 (by kernel_rfl)
    have e19 : a.eval (.tmp 19) = .agg (vC Sha.start) := hP 12 (by kernel_rfl)
    have e17 : a.eval (.tmp 17) = .bool true := hP 10 (by kernel_rfl)
    exact rop_bin _ _ _ _ _ rfl e18 e19 (guard_v8 .eql _ _ _ _ w') (eql_v8_t _ _ Sha.start_ok rfl w') (wanted_of (j := 10) (b := true) rfl rfl e17) (hK _ _ (le8_refl _) rfl)
  · intro a w' hF hL hP hU K hK
    have hB := below_undrew hL
    have e17 : a.eval (.tmp 17) = .bool true := hP 10 (by kernel_rfl)
    have e20 : a.eval (.tmp 20) = .bool true := hP 13 (by kernel_rfl)
    exact rop_pick _ _ _ rfl true e17 (by simpa using e20) (wanted_none rfl) (hK _ _ (le8_refl _) rfl)
  · intro a w' hF hL hP hU K hK
    have hB := below_undrew hL
    have e21 : a.eval (.tmp 21) = .bool true := hP 14 (by kernel_rfl)
    exact rop_assign _ rfl e21 (wanted_none rfl) (hK _ _ (le8_refl _) rfl)
  · intro a w' hF hB hT
    have e4 : a.eval (.tmp 4) = .bool true := hT 15 (by decide)
    rw [hF.lit 22 rfl]
    simp only [List.range, List.range.loop, List.map_cons, List.map_nil, e4]
    go_wp2
    go_ret
    exact ⟨rfl, below_step bb1 (Nat.le_refl _) hB⟩

set_option maxRecDepth 100000 in
theorem lifted (os : Os) (started : os.Started) (H : Type) (enc : TypeId × Value → H) :
    ReturnsInHanded {} Tryd.checked os 3 .any (fun w args => (Rows.shaStepsSpec.pre enc Tryd.prog Tryd.f3 [] false w args ∧ laidMetH Tryd.prog [("scrinium/sha.k", Rows.laid_scrinium_sha_k)] w) ∧ sizedMet enc Tryd.prog Tryd.f3 (OpenSpec.ofChange Rows.shaStepsSpec) false w args)
      (Rows.shaStepsSpec.post enc Tryd.prog Tryd.f3 false true false false) := by
  refine returnsInHanded_of_change_and (C := Tryd.checked) (X := fun w _ => laidMetH Tryd.prog [("scrinium/sha.k", Rows.laid_scrinium_sha_k)] w) (fun _ _ _ hh h => h.of_heap hh) lawOwn started (by kernel_rfl) Tryd.func3
    (ChangeSpec.witness_shaped (enc := enc) (C := Tryd.checked) (os := os) (X := fun w _ => laidMetH Tryd.prog [("scrinium/sha.k", Rows.laid_scrinium_sha_k)] w) false (World.doorLaid Tryd.prog 400 os) #[.agg (vC zV), .agg (bC (List.replicate 16 0))] 8 rfl (World.shaped_of_RefB (by kernel_rfl) (by kernel_rfl)) (by kernel_rfl) (by kernel_rfl) (by kernel_rfl) (door_met os _)) ?_
  intro W base args ds gs before hval0 hW _ _ hL _
  have hval : ∀ (j : Nat) t v, Tryd.f3.params[j]? = some t → args[j]? = some v → Value.okWide Tryd.prog W .any base t v := hval0
  have hW' := hW
  obtain ⟨p, q, hA0, hV, rfl, hfz, hnd⟩ := hW
  have hA : DataW.TrodAll enc Tryd.prog W 0 (fun _ => true) true Tryd.f3.params.toList args.toList ds p := hA0
  rw [Tryd.params3] at hA hval
  obtain ⟨v0, vs0, d0, ds0, p0, q0, hargs, rfl, rfl, h0, r0⟩ := trodAll_cons hA
  obtain ⟨v1, vs1, d1, ds1, p1, q1, rfl, rfl, rfl, h1, r1⟩ := trodAll_cons r0
  obtain ⟨rfl, rfl, rfl⟩ := trodAll_nil r1
  obtain rfl : args = #[v0, v1] := by cases args; simp_all
  obtain ⟨rfl, rfl⟩ := trodVars_none hV
  have hKT := KT_of_laid hL
  obtain ⟨x0, rfl, w0⟩ := open_8 (hval 0 23 v0 rfl rfl) h0
  obtain ⟨x1, rfl, w1, u1⟩ := open_16 (hval 1 24 v1 rfl rfl) h1
  clear hA0 hval0
  refine (walk (w := W) hKT x0 w0 x1 w1 u1).mono fun e W' ⟨he, bel⟩ => ?_
  subst he
  exact ⟨_, rfl, law_post rfl rfl (by kernel_rfl) hW' rfl bel⟩

theorem row_holds : Rows.ShaStepsSaid :=
  OpenClaim.holds_of_wide 3 Tryd.f3 rfl rfl rfl rfl rfl rfl rfl ⟨rfl, rfl, rfl, rfl, rfl⟩ rfl rfl rfl rfl rfl (by kernel_rfl) Tryd.func3 (by kernel_rfl)
    (of_decide_eq_true (by kernel_rfl)) (by unfold Func.isWrapper; first | (rw [if_pos (by decide +kernel)]; kernel_rfl) | (rw [if_neg (by decide +kernel)]; exact ⟨rfl, rfl⟩))
    (fun os started H enc _ => lifted os started H enc)

theorem holds : Rows.ShaStepsCardSaid :=
  Claim7.holds_tied_plain_at .later [] [.data] true Rows.shaStepsCard.stood.harness false
    row_holds (fun _ h => by cases h) (by kernel_rfl) (fun _ h => by cases h) shaSteps_row_tie rfl ⟨rfl, rfl⟩ (by kernel_rfl) rfl
    (fun f fn hf hfn => by
      obtain rfl : f = 3 := Option.some.inj ((show Tryd.prog.funcNamed "scrinium/scriniumlaw02.ShaSteps" = some 3 by kernel_rfl).symm.trans hf) |>.symm
      obtain rfl : fn = Tryd.f3 := (Option.some.inj (Tryd.func3.symm.trans hfn)).symm
      exact ⟨by kernel_rfl, fun j t ht => by
        rw [Tryd.params3] at ht
        have hm : t ∈ [23, 24] := by simpa using Array.mem_of_getElem? ht
        have hall : ([23, 24].all fun u => !Tryd.prog.wantsStandIn u) = true := by kernel_rfl
        exact (show Tryd.prog.wantsStandIn t = false by simpa using List.all_eq_true.1 hall t hm)⟩)
    (by kernel_rfl)
end Go.Proofs.YtcecncbhfcoilaaDoor.shaSteps

theorem Go.Proofs.YtcecncbhfcoilaaDoor.shaSteps_holds : Go.Proofs.YtcecncbhfcoilaaDoor.Rows.ShaStepsCardSaid := Go.Proofs.YtcecncbhfcoilaaDoor.shaSteps.holds
#print axioms Go.Proofs.YtcecncbhfcoilaaDoor.shaSteps_holds
