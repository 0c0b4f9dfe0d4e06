/-
  ShaHashes: hashes, and how they are written, are as the document says: the program's Of, Hex and Bytes, and the document's own, tell the same. For every text (its first 500 bytes) and any 32 bytes; the numbers K are as the program's text lays them.
-/
import Derived.Test.YtcecncbhfcoilaaDoorShaLaw
import Derived.Test.YtcecncbhfcoilaaDoorShaOneA
import Derived.Test.YtcecncbhfcoilaaDoorRefOf
import Derived.Test.YtcecncbhfcoilaaDoorRegOps
namespace Go.Proofs.YtcecncbhfcoilaaDoor.shaHashes
open Go.ChangeShapes Go.WideShapes Go.ChangeAt Go.RowKit

set_option maxHeartbeats 4000000 in
set_option maxRecDepth 100000 in
theorem walk {w : World} (hK : KT w) (s0 : ByteArray) (_ : s0.size ≤ maxLen) (X : List UInt8) (hX : X.length = 32) :
    Calls Tryd.prog 4 #[.string s0, sumV X] w fun e w' => e = .returned (.bool true) ∧ Below w.heap.size w w' := by
  obtain ⟨t, ht⟩ : ∃ t, t = shortB s0 500 := ⟨_, rfl⟩
  have ht5 : t.size ≤ 500 := by rw [ht]; exact shortB_size s0 500
  have hlt : Hid ((flat [t]).length < 576460752303423488) := Lib.hid (by rw [flat_one, ← Lib.size_eq]; omega)
  have hlt2 : Hid ((flat [t]).length < 1152921504606846976) := Lib.hid (by rw [flat_one, ← Lib.size_eq]; omega)
  have HT : Hid (t.data.toList = flat [t]) := Lib.hid (flat_one t).symm
  have Ht := Lib.hid ht
  have HX := Lib.hid hX
  clear ht hX
  unfold sumV
  go_enter Tryd.func4, Tryd.ntmps4
  go_upto_region 1 with (fail)
  obtain ⟨w0, hw0⟩ : ∃ w0, w0 = w.alloc (.cells (X.map u8V).toArray 30) := ⟨_, rfl⟩
  have b0 : Below w.heap.size w w0 := by rw [hw0]; exact (Below.refl _ _).alloc (Nat.le_refl _) _
  have h0 : w0.heap[w.heap.size]? = some (.cells (X.map u8V).toArray 30 (0, 0)) := by rw [hw0]; exact heap_alloc_last w _
  have l0 : w.heap.size < w0.heap.size := by rw [hw0]; simp
  rw [← hw0]
  clear hw0
  go_upto_region 3 with (first
    | (go_at_call 12; refine (awake_any _ (hK.old b0)).mono ?_; rintro e w1 ⟨rfl, b1⟩)
    | (go_at_call 17; refine (short_any s0 500 500 rfl _).mono ?_; rintro e w2 ⟨rfl, rfl⟩; rw [← Ht.out]))
  have bb1 := below_step b0 (Nat.le_refl _) b1
  have hK1 := hK.old bb1
  have l1 : w.heap.size < w1.heap.size := Nat.lt_of_lt_of_le l0 b1.size
  have r3 : Hid (∀ w', Below w1.heap.size w1 w' → w'.rangeAt w.heap.size 0 (X.map u8V)) := Lib.hid fun w' h j y hy => (h.cell (p := ⟨w.heap.size, 0 + j, none⟩) l1).trans ((b1.cell (p := ⟨w.heap.size, 0 + j, none⟩) l0).trans (by rw [Nat.zero_add, cell_of h0]; simpa using hy))
  clear h0
  try simp only [Act.put]
  refine wp_region_tab [RT.is (.bool true), RT.is (.bool true), RT.is (.string t), RT.row [t], RT.is (sumV (Sha.digest (flat [t]))), RT.is (.string t), RT.is (sumV (Sha.digest (flat [t]))), RT.is (.bool true), RT.is (.bool true), RT.is (.bool true), RT.is (sumV X), RT.is (.string ⟨(Sha.hexL X).toArray⟩), RT.is (sumV X), RT.is (.string ⟨(Sha.hexL X).toArray⟩), RT.is (.bool true), RT.is (.bool true), RT.is (.bool true), RT.is (sumV X), RT.is (.string ⟨X.toArray⟩), RT.is (sumV X), RT.is (.string ⟨X.toArray⟩), RT.is (.bool true), RT.is (.bool true), RT.is (.bool true)] (by kernel_rfl) (by kernel_rfl) (by kernel_rfl) (by kernel_rfl) ⟨?_, ?_, ?_, ?_, ?_, ?_, ?_, ?_, ?_, ?_, ?_, ?_, ?_, ?_, ?_, ?_, ?_, ?_, ?_, ?_, ?_, ?_, ?_, ?_, trivial⟩ ?_
  · intro ac w' hF hL hP hU K hK
    have hB := below_undrew hL
    have e5 : ac.eval (.tmp 5) = .bool true := hF.at 5 (by kernel_rfl)
    exact rop_move _ rfl e5 (wanted_none rfl) (hK _ _ (le8_refl _) rfl)
  · intro ac w' hF hL hP hU K hK
    have hB := below_undrew hL
    have e9 : ac.eval (.tmp 9) = .bool true := hP 0 (by kernel_rfl)
    exact rop_move _ rfl e9 (wanted_none rfl) (hK _ _ (le8_refl _) rfl)
  · intro ac w' hF hL hP hU K hK
    have hB := below_undrew hL
    have e0 : ac.eval (.tmp 0) = .string t := hF.at 0 (by kernel_rfl)
    have e10 : ac.eval (.tmp 10) = .bool true := hP 1 (by kernel_rfl)
    exact rop_move _ rfl e0 (wanted_of (j := 1) (b := true) rfl rfl e10) (hK _ _ (le8_refl _) rfl)
  · intro ac w' hF hL hP hU K hK
    have hB := below_undrew hL
    have e11 : ac.eval (.tmp 11) = .string t := hP 2 (by kernel_rfl)
    have e10 : ac.eval (.tmp 10) = .bool true := hP 1 (by kernel_rfl)
    refine rop_texts 1 _ rfl [t] ?_ rfl (by decide) (by decide) (wanted_of (j := 1) (b := true) rfl rfl e10) (fun v w2 hb hr => hK v w2 hb hr)
    simp [e11, List.range, List.range.loop]
  · intro ac w' hF hL hP hU K hK
    have hB := below_undrew hL
    have e12 : StrRow w' (ac.eval (.tmp 12)) [t] := hP 3 (by kernel_rfl)
    have e10 : ac.eval (.tmp 10) = .bool true := hP 1 (by kernel_rfl)
    refine rop_call 18 _ _ rfl #[ac.eval (.tmp 12)] (by simp [Act.eval]) (by kernel_rfl) (wanted_of (j := 1) (b := true) rfl rfl e10) ?_
    refine (of_any _ [t] w' e12 (hK1.old hB) hlt.out).mono ?_
    rintro e w2 ⟨rfl, hb⟩
    exact ⟨_, rfl, hK _ _ hb rfl⟩
  · intro ac w' hF hL hP hU K hK
    have hB := below_undrew hL
    have e0 : ac.eval (.tmp 0) = .string t := hF.at 0 (by kernel_rfl)
    have e10 : ac.eval (.tmp 10) = .bool true := hP 1 (by kernel_rfl)
    exact rop_move _ rfl e0 (wanted_of (j := 1) (b := true) rfl rfl e10) (hK _ _ (le8_refl _) rfl)
  · intro ac w' hF hL hP hU K hK
    have hB := below_undrew hL
    have e14 : ac.eval (.tmp 14) = .string t := hP 5 (by kernel_rfl)
    have e10 : ac.eval (.tmp 10) = .bool true := hP 1 (by kernel_rfl)
    refine rop_call 19 _ _ rfl #[.string t] (by simp [e14]) (by kernel_rfl) (wanted_of (j := 1) (b := true) rfl rfl e10) ?_
    refine (rof_any t (flat [t]) HT.out w' hlt2.out).mono ?_
    rintro e w2 ⟨rfl, hb⟩
    exact ⟨_, rfl, hK _ _ hb rfl⟩
  · intro ac w' hF hL hP hU K hK
    have hB := below_undrew hL
    have e13 : ac.eval (.tmp 13) = sumV (Sha.digest (flat [t])) := hP 4 (by kernel_rfl)
    have e15 : ac.eval (.tmp 15) = sumV (Sha.digest (flat [t])) := hP 6 (by kernel_rfl)
    have e10 : ac.eval (.tmp 10) = .bool true := hP 1 (by kernel_rfl)
    exact rop_bin _ _ _ _ _ rfl e13 e15 (guard_run .eql _ _ _ _ w') (eql_sum_t _ _ (Sha.digest_length _) (Sha.digest_length _) rfl w') (wanted_of (j := 1) (b := true) rfl rfl e10) (hK _ _ (le8_refl _) rfl)
  · intro ac w' hF hL hP hU K hK
    have hB := below_undrew hL
    have e10 : ac.eval (.tmp 10) = .bool true := hP 1 (by kernel_rfl)
    have e16 : ac.eval (.tmp 16) = .bool true := hP 7 (by kernel_rfl)
    exact rop_pick _ _ _ rfl true e10 (by simpa using e16) (wanted_none rfl) (hK _ _ (le8_refl _) rfl)
  · intro ac w' hF hL hP hU K hK
    have hB := below_undrew hL
    have e17 : ac.eval (.tmp 17) = .bool true := hP 8 (by kernel_rfl)
    exact rop_move _ rfl e17 (wanted_none rfl) (hK _ _ (le8_refl _) rfl)
  · intro ac w' hF hL hP hU K hK
    have hB := below_undrew hL
    have e3 : ac.eval (.tmp 3) = .pointer (some ⟨w.heap.size, 0, none⟩) := hF.at 3 (by kernel_rfl)
    have e18 : ac.eval (.tmp 18) = .bool true := hP 9 (by kernel_rfl)
    exact rop_load _ _ rfl w.heap.size 0 e3 (X.map u8V) _ (r3.out w' hB) Tryd.underlying30 rfl (sum_info' HX.out) (wanted_of (j := 9) (b := true) rfl rfl e18) (hK _ _ (le8_refl _) rfl)
  · intro ac w' hF hL hP hU K hK
    have hB := below_undrew hL
    have e19 : ac.eval (.tmp 19) = sumV X := hP 10 (by kernel_rfl)
    have e18 : ac.eval (.tmp 18) = .bool true := hP 9 (by kernel_rfl)
    refine rop_call 20 _ _ rfl #[sumV X] (by simp [e19]) (by kernel_rfl) (wanted_of (j := 9) (b := true) rfl rfl e18) ?_
    refine (hex_any X w' HX.out).mono ?_
    rintro e w2 ⟨rfl, hb⟩
    exact ⟨_, rfl, hK _ _ hb rfl⟩
  · intro ac w' hF hL hP hU K hK
    have hB := below_undrew hL
    have e3 : ac.eval (.tmp 3) = .pointer (some ⟨w.heap.size, 0, none⟩) := hF.at 3 (by kernel_rfl)
    have e18 : ac.eval (.tmp 18) = .bool true := hP 9 (by kernel_rfl)
    exact rop_load _ _ rfl w.heap.size 0 e3 (X.map u8V) _ (r3.out w' hB) Tryd.underlying30 rfl (sum_info' HX.out) (wanted_of (j := 9) (b := true) rfl rfl e18) (hK _ _ (le8_refl _) rfl)
  · intro ac w' hF hL hP hU K hK
    have hB := below_undrew hL
    have e21 : ac.eval (.tmp 21) = sumV X := hP 12 (by kernel_rfl)
    have e18 : ac.eval (.tmp 18) = .bool true := hP 9 (by kernel_rfl)
    refine rop_call 21 _ _ rfl #[sumV X] (by simp [e21]) (by kernel_rfl) (wanted_of (j := 9) (b := true) rfl rfl e18) ?_
    refine (rhex_any X w' HX.out).mono ?_
    rintro e w2 ⟨rfl, hb⟩
    exact ⟨_, rfl, hK _ _ hb rfl⟩
  · intro ac w' hF hL hP hU K hK
    have hB := below_undrew hL
    have e20 : ac.eval (.tmp 20) = .string ⟨(Sha.hexL X).toArray⟩ := hP 11 (by kernel_rfl)
    have e22 : ac.eval (.tmp 22) = .string ⟨(Sha.hexL X).toArray⟩ := hP 13 (by kernel_rfl)
    have e18 : ac.eval (.tmp 18) = .bool true := hP 9 (by kernel_rfl)
    exact rop_bin _ _ _ _ _ rfl e20 e22 (guard_str _ _ _ _ _ _ w') (eql_str_t _ _ rfl w') (wanted_of (j := 9) (b := true) rfl rfl e18) (hK _ _ (le8_refl _) rfl)
  · intro ac w' hF hL hP hU K hK
    have hB := below_undrew hL
    have e18 : ac.eval (.tmp 18) = .bool true := hP 9 (by kernel_rfl)
    have e23 : ac.eval (.tmp 23) = .bool true := hP 14 (by kernel_rfl)
    exact rop_pick _ _ _ rfl true e18 (by simpa using e23) (wanted_none rfl) (hK _ _ (le8_refl _) rfl)
  · intro ac w' hF hL hP hU K hK
    have hB := below_undrew hL
    have e24 : ac.eval (.tmp 24) = .bool true := hP 15 (by kernel_rfl)
    exact rop_move _ rfl e24 (wanted_none rfl) (hK _ _ (le8_refl _) rfl)
  · intro ac w' hF hL hP hU K hK
    have hB := below_undrew hL
    have e3 : ac.eval (.tmp 3) = .pointer (some ⟨w.heap.size, 0, none⟩) := hF.at 3 (by kernel_rfl)
    have e25 : ac.eval (.tmp 25) = .bool true := hP 16 (by kernel_rfl)
    exact rop_load _ _ rfl w.heap.size 0 e3 (X.map u8V) _ (r3.out w' hB) Tryd.underlying30 rfl (sum_info' HX.out) (wanted_of (j := 16) (b := true) rfl rfl e25) (hK _ _ (le8_refl _) rfl)
  · intro ac w' hF hL hP hU K hK
    have hB := below_undrew hL
    have e26 : ac.eval (.tmp 26) = sumV X := hP 17 (by kernel_rfl)
    have e25 : ac.eval (.tmp 25) = .bool true := hP 16 (by kernel_rfl)
    refine rop_call 22 _ _ rfl #[sumV X] (by simp [e26]) (by kernel_rfl) (wanted_of (j := 16) (b := true) rfl rfl e25) ?_
    refine (bytes_any X w' HX.out).mono ?_
    rintro e w2 ⟨rfl, hb⟩
    exact ⟨_, rfl, hK _ _ hb rfl⟩
  · intro ac w' hF hL hP hU K hK
    have hB := below_undrew hL
    have e3 : ac.eval (.tmp 3) = .pointer (some ⟨w.heap.size, 0, none⟩) := hF.at 3 (by kernel_rfl)
    have e25 : ac.eval (.tmp 25) = .bool true := hP 16 (by kernel_rfl)
    exact rop_load _ _ rfl w.heap.size 0 e3 (X.map u8V) _ (r3.out w' hB) Tryd.underlying30 rfl (sum_info' HX.out) (wanted_of (j := 16) (b := true) rfl rfl e25) (hK _ _ (le8_refl _) rfl)
  · intro ac w' hF hL hP hU K hK
    have hB := below_undrew hL
    have e28 : ac.eval (.tmp 28) = sumV X := hP 19 (by kernel_rfl)
    have e25 : ac.eval (.tmp 25) = .bool true := hP 16 (by kernel_rfl)
    refine rop_call 23 _ _ rfl #[sumV X] (by simp [e28]) (by kernel_rfl) (wanted_of (j := 16) (b := true) rfl rfl e25) ?_
    refine (rbytes_any X w' HX.out).mono ?_
    rintro e w2 ⟨rfl, hb⟩
    exact ⟨_, rfl, hK _ _ hb rfl⟩
  · intro ac w' hF hL hP hU K hK
    have hB := below_undrew hL
    have e27 : ac.eval (.tmp 27) = .string ⟨X.toArray⟩ := hP 18 (by kernel_rfl)
    have e29 : ac.eval (.tmp 29) = .string ⟨X.toArray⟩ := hP 20 (by kernel_rfl)
    have e25 : ac.eval (.tmp 25) = .bool true := hP 16 (by kernel_rfl)
    exact rop_bin _ _ _ _ _ rfl e27 e29 (guard_str _ _ _ _ _ _ w') (eql_str_t _ _ rfl w') (wanted_of (j := 16) (b := true) rfl rfl e25) (hK _ _ (le8_refl _) rfl)
  · intro ac w' hF hL hP hU K hK
    have hB := below_undrew hL
    have e25 : ac.eval (.tmp 25) = .bool true := hP 16 (by kernel_rfl)
    have e30 : ac.eval (.tmp 30) = .bool true := hP 21 (by kernel_rfl)
    exact rop_pick _ _ _ rfl true e25 (by simpa using e30) (wanted_none rfl) (hK _ _ (le8_refl _) rfl)
  · intro ac w' hF hL hP hU K hK
    have hB := below_undrew hL
    have e31 : ac.eval (.tmp 31) = .bool true := hP 22 (by kernel_rfl)
    exact rop_assign _ rfl e31 (wanted_none rfl) (hK _ _ (le8_refl _) rfl)
  · intro ac w' hF hB hT
    have e4 : ac.eval (.tmp 4) = .bool true := hT 23 (by decide)
    rw [hF.lit 32 rfl]
    simp only [List.range, List.range.loop, List.map_cons, List.map_nil, e4]
    go_wp2
    go_ret
    exact ⟨rfl, below_step bb1 (Nat.le_refl _) hB⟩

set_option maxRecDepth 100000 in
theorem lifted (os : Os) (started : os.Started) (H : Type) (enc : TypeId × Value → H) :
    ReturnsInHanded {} Tryd.checked os 4 .any (fun w args => (Rows.shaHashesSpec.pre enc Tryd.prog Tryd.f4 [] false w args ∧ laidMetH Tryd.prog [("scrinium/sha.k", Rows.laid_scrinium_sha_k)] w) ∧ sizedMet enc Tryd.prog Tryd.f4 (OpenSpec.ofChange Rows.shaHashesSpec) false w args)
      (Rows.shaHashesSpec.post enc Tryd.prog Tryd.f4 false true false false) := by
  refine returnsInHanded_of_change_and (C := Tryd.checked) (X := fun w _ => laidMetH Tryd.prog [("scrinium/sha.k", Rows.laid_scrinium_sha_k)] w) (fun _ _ _ hh h => h.of_heap hh) lawOwn started (by kernel_rfl) Tryd.func4
    (ChangeSpec.witness_shaped (enc := enc) (C := Tryd.checked) (os := os) (X := fun w _ => laidMetH Tryd.prog [("scrinium/sha.k", Rows.laid_scrinium_sha_k)] w) false (World.doorLaid Tryd.prog 400 os) #[.string .empty, sumV (List.replicate 32 0)] 8 rfl (World.shaped_of_RefB (by kernel_rfl) (by kernel_rfl)) (by kernel_rfl) (by kernel_rfl) (by kernel_rfl) (door_met os _)) ?_
  intro W base args ds gs before hval0 hW _ _ hL _
  have hval : ∀ (j : Nat) t v, Tryd.f4.params[j]? = some t → args[j]? = some v → Value.okWide Tryd.prog W .any base t v := hval0
  have hW' := hW
  obtain ⟨p, q, hA0, hV, rfl, hfz, hnd⟩ := hW
  have hA : DataW.TrodAll enc Tryd.prog W 0 (fun _ => true) true Tryd.f4.params.toList args.toList ds p := hA0
  rw [Tryd.params4] at hA hval
  obtain ⟨v0, vs0, d0, ds0, p0, q0, hargs, rfl, rfl, h0, r0⟩ := trodAll_cons hA
  obtain ⟨v1, vs1, d1, ds1, p1, q1, rfl, rfl, rfl, h1, r1⟩ := trodAll_cons r0
  obtain ⟨rfl, rfl, rfl⟩ := trodAll_nil r1
  obtain rfl : args = #[v0, v1] := by cases args; simp_all
  obtain ⟨rfl, rfl⟩ := trodVars_none hV
  have hKT := KT_of_laid hL
  obtain ⟨s0, rfl, rfl, rfl, w0⟩ := Go.ChangeMaps.open_string Tryd.underlying9 (hval 0 9 v0 rfl rfl) h0
  obtain ⟨x1, rfl, w1⟩ := open_sum (hval 1 30 v1 rfl rfl) h1
  clear hA0 hval0
  refine (walk (w := W) hKT s0 w0 x1 w1).mono fun e W' ⟨he, bel⟩ => ?_
  subst he
  exact ⟨_, rfl, law_post rfl rfl (by kernel_rfl) hW' rfl bel⟩

theorem row_holds : Rows.ShaHashesSaid :=
  OpenClaim.holds_of_wide 4 Tryd.f4 rfl rfl rfl rfl rfl rfl rfl ⟨rfl, rfl, rfl, rfl, rfl⟩ rfl rfl rfl rfl rfl (by kernel_rfl) Tryd.func4 (by kernel_rfl)
    (of_decide_eq_true (by kernel_rfl)) (by unfold Func.isWrapper; first | (rw [if_pos (by decide +kernel)]; kernel_rfl) | (rw [if_neg (by decide +kernel)]; exact ⟨rfl, rfl⟩))
    (fun os started H enc _ => lifted os started H enc)

theorem holds : Rows.ShaHashesCardSaid :=
  Claim7.holds_tied_plain_at .later [] [.data] true Rows.shaHashesCard.stood.harness false
    row_holds (fun _ h => by cases h) (by kernel_rfl) (fun _ h => by cases h) shaHashes_row_tie rfl ⟨rfl, rfl⟩ (by kernel_rfl) rfl
    (fun f fn hf hfn => by
      obtain rfl : f = 4 := Option.some.inj ((show Tryd.prog.funcNamed "scrinium/scriniumlaw02.ShaHashes" = some 4 by kernel_rfl).symm.trans hf) |>.symm
      obtain rfl : fn = Tryd.f4 := (Option.some.inj (Tryd.func4.symm.trans hfn)).symm
      exact ⟨by kernel_rfl, fun j t ht => by
        rw [Tryd.params4] at ht
        have hm : t ∈ [9, 30] := by simpa using Array.mem_of_getElem? ht
        have hall : ([9, 30].all fun u => !Tryd.prog.wantsStandIn u) = true := by kernel_rfl
        exact (show Tryd.prog.wantsStandIn t = false by simpa using List.all_eq_true.1 hall t hm)⟩)
    (by kernel_rfl)
end Go.Proofs.YtcecncbhfcoilaaDoor.shaHashes

theorem Go.Proofs.YtcecncbhfcoilaaDoor.shaHashes_holds : Go.Proofs.YtcecncbhfcoilaaDoor.Rows.ShaHashesCardSaid := Go.Proofs.YtcecncbhfcoilaaDoor.shaHashes.holds
#print axioms Go.Proofs.YtcecncbhfcoilaaDoor.shaHashes_holds
