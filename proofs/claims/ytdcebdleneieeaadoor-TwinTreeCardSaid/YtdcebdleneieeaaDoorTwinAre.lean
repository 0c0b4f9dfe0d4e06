/-
  Package twin: Are; the document's own Are.
-/
import Derived.Test.YtdcebdleneieeaaDoorTwinText
import Derived.Test.YtdcebdleneieeaaDoorMShaB
import Derived.Test.YtdcebdleneieeaaDoorMShaR
import Derived.Test.YtdcebdleneieeaaDoorMLeafL
import Derived.Test.YtdcebdleneieeaaDoorMProofR
namespace Go.Proofs.YtdcebdleneieeaaDoor
open Go.RowKit

theorem neq_txt_tt (S T : ByteArray) (h : ¬ S = T) (w : World) : (binOp .neq 9 (.string S) (.string T)).run Tryd.prog w = .ok (.bool true) w := by
  rw [neq_txt, decide_eq_true h]
theorem neq_txt_ff (S T : ByteArray) (h : S = T) (w : World) : (binOp .neq 9 (.string S) (.string T)).run Tryd.prog w = .ok (.bool false) w := by
  rw [neq_txt, decide_eq_false (fun h' => h' h)]
set_option maxHeartbeats 2000000 in
set_option maxRecDepth 100000 in
theorem are_any (s t : List UInt8) (w : World) (hs : s.length ≤ 1000000) (ht : t.length ≤ 1000000) (hK : KT w) :
    Calls Tryd.prog 18 #[twV (s, t)] w fun e w' => e = .returned (.bool (Tree.areT s t)) ∧ Below w.heap.size w w' := by
  obtain ⟨S, hS⟩ : ∃ S, S = tS s := ⟨_, rfl⟩
  obtain ⟨T, hT⟩ : ∃ T, T = tS t := ⟨_, rfl⟩
  obtain ⟨D, hD⟩ : ∃ D, D = Sha.digest s := ⟨_, rfl⟩
  obtain ⟨E, hE⟩ : ∃ E, E = Sha.digest t := ⟨_, rfl⟩
  have HDl : Hid (D.length = 32) := Lib.hid (by rw [hD]; exact Sha.digest_length _)
  have HEl : Hid (E.length = 32) := Lib.hid (by rw [hE]; exact Sha.digest_length _)
  have hz : Tree.areT s t = (decide (S ≠ T) && decide (D = E)) := by
    unfold Tree.areT
    rw [hS, hT, hD, hE]
    congr 1
    exact decide_eq_decide.2 (not_congr ⟨fun h => by rw [h], tS_inj⟩)
  rw [hz]
  unfold twV tV
  simp only
  rw [← hS, ← hT]
  obtain ⟨w0, hw0⟩ : ∃ w0, w0 = w.alloc (.cells #[.string S, .string T] 32) := ⟨_, rfl⟩
  have b0 : Below w.heap.size w w0 := by rw [hw0]; exact (Below.refl _ _).alloc (Nat.le_refl _) _
  have h1 : w0.heap[w.heap.size]? = some (.cells #[.string S, .string T] 32 (0, 0)) := by rw [hw0]; exact heap_alloc_last w _
  have hqW : w.heap.size < w0.heap.size := (Array.getElem?_eq_some_iff.1 h1).1
  have HC0 : Hid (w0.cell? ⟨w.heap.size, 0, none⟩ = some (.string S)) := Lib.hid (cell_of h1 0)
  have HC1 : Hid (w0.cell? ⟨w.heap.size, 1, none⟩ = some (.string T)) := Lib.hid (cell_of h1 1)
  have hk0 : KT w0 := hK.old b0
  have HD : Hid (∀ v u, Below w0.heap.size w0 u → StrRow u v [S] → Calls Tryd.prog 39 #[v] u fun e w' => e = .returned (sumV D) ∧ Below u.heap.size u w') := Lib.hid fun v u hu hr => by
    have := of_any v [S] u hr (hk0.old hu) (by simp [flat, hS, tS_list]; omega)
    rwa [show flat [S] = s by simp [flat, hS, tS_list], ← hD] at this
  have HE : Hid (∀ v u, Below w0.heap.size w0 u → StrRow u v [T] → Calls Tryd.prog 39 #[v] u fun e w' => e = .returned (sumV E) ∧ Below u.heap.size u w') := Lib.hid fun v u hu hr => by
    have := of_any v [T] u hr (hk0.old hu) (by simp [flat, hT, tS_list]; omega)
    rwa [show flat [T] = t by simp [flat, hT, tS_list], ← hE] at this
  clear hk0 hK
  have HB := Lib.hid b0
  clear hz hS hT hD hE b0 h1 hs ht
  go_enter Tryd.func18, Tryd.ntmps18
  go_upto_region 1 with (fail)
  rw [← hw0]
  clear hw0
  obtain ⟨W, hW⟩ : ∃ W, W = w0 := ⟨_, rfl⟩
  subst hW
  obtain ⟨q, hq⟩ : ∃ q, q = w.heap.size := ⟨_, rfl⟩
  rw [← hq] at HC0 HC1 hqW ⊢
  by_cases hne : S = T
  · have hd := Lib.hid (show decide (S ≠ T) = false by simp [hne])
    try simp only [Act.put]
    refine wp_region_tab [RT.is (.pointer (some ⟨q, 0, none⟩)), RT.is (.string S), RT.is (.pointer (some ⟨q, 1, none⟩)), RT.is (.string T), RT.is (.bool false), RT.is (.bool false), RT.any, RT.any, RT.any, RT.any, RT.any, RT.any, RT.any, RT.any, RT.any, RT.is (.bool false), RT.is (.bool false)] (by kernel_rfl) (by kernel_rfl) (by kernel_rfl) (by kernel_rfl) ⟨?_, ?_, ?_, ?_, ?_, ?_, ?_, ?_, ?_, ?_, ?_, ?_, ?_, ?_, ?_, ?_, ?_, trivial⟩ ?_
    · intro ac w' hF hL hP hU K hK
      have hB := below_undrew hL
      have e1 : ac.eval (.tmp 1) = .pointer (some ⟨q, 0, none⟩) := hF.at 1 (by kernel_rfl)
      exact rop_fld _ _ _ rfl e1 (fld_tw0 q w') (wanted_none rfl) (hK _ _ (le8_refl _) rfl)
    · intro ac w' hF hL hP hU K hK
      have hB := below_undrew hL
      have e3 : ac.eval (.tmp 3) = .pointer (some ⟨q, 0, none⟩) := hP 0 (by kernel_rfl)
      exact rop_ld _ _ rfl e3 (load_text ((hB.cell (p := ⟨q, 0, none⟩) hqW).trans HC0.out)) (wanted_none rfl) (hK _ _ (le8_refl _) rfl)
    · intro ac w' hF hL hP hU K hK
      have hB := below_undrew hL
      have e1 : ac.eval (.tmp 1) = .pointer (some ⟨q, 0, none⟩) := hF.at 1 (by kernel_rfl)
      exact rop_fld _ _ _ rfl e1 (fld_tw1 q w') (wanted_none rfl) (hK _ _ (le8_refl _) rfl)
    · intro ac w' hF hL hP hU K hK
      have hB := below_undrew hL
      have e5 : ac.eval (.tmp 5) = .pointer (some ⟨q, 1, none⟩) := hP 2 (by kernel_rfl)
      exact rop_ld _ _ rfl e5 (load_text ((hB.cell (p := ⟨q, 1, none⟩) hqW).trans HC1.out)) (wanted_none rfl) (hK _ _ (le8_refl _) rfl)
    · intro ac w' hF hL hP hU K hK
      have hB := below_undrew hL
      have e4 : ac.eval (.tmp 4) = .string S := hP 1 (by kernel_rfl)
      have e6 : ac.eval (.tmp 6) = .string T := hP 3 (by kernel_rfl)
      exact rop_bin _ _ _ _ _ rfl e4 e6 (guard_str _ _ _ _ _ _ w') (neq_txt_ff S T hne w') (wanted_none rfl) (hK _ _ (le8_refl _) rfl)
    · intro ac w' hF hL hP hU K hK
      have hB := below_undrew hL
      have e7 : ac.eval (.tmp 7) = .bool false := hP 4 (by kernel_rfl)
      exact rop_move _ rfl e7 (wanted_none rfl) (hK _ _ (le8_refl _) rfl)
    · intro ac w' hF hL hP hU K hK
      have hB := below_undrew hL
      have e8 : ac.eval (.tmp 8) = .bool false := hP 5 (by kernel_rfl)
      exact rop_offG (j := 5) (b := true) rfl rfl e8 (by decide) (hK _ _ (le8_refl _) trivial)
    · intro ac w' hF hL hP hU K hK
      have hB := below_undrew hL
      have e8 : ac.eval (.tmp 8) = .bool false := hP 5 (by kernel_rfl)
      exact rop_offG (j := 5) (b := true) rfl rfl e8 (by decide) (hK _ _ (le8_refl _) trivial)
    · intro ac w' hF hL hP hU K hK
      have hB := below_undrew hL
      have e8 : ac.eval (.tmp 8) = .bool false := hP 5 (by kernel_rfl)
      exact rop_offG (j := 5) (b := true) rfl rfl e8 (by decide) (hK _ _ (le8_refl _) trivial)
    · intro ac w' hF hL hP hU K hK
      have hB := below_undrew hL
      have e8 : ac.eval (.tmp 8) = .bool false := hP 5 (by kernel_rfl)
      exact rop_offG (j := 5) (b := true) rfl rfl e8 (by decide) (hK _ _ (le8_refl _) trivial)
    · intro ac w' hF hL hP hU K hK
      have hB := below_undrew hL
      have e8 : ac.eval (.tmp 8) = .bool false := hP 5 (by kernel_rfl)
      exact rop_offG (j := 5) (b := true) rfl rfl e8 (by decide) (hK _ _ (le8_refl _) trivial)
    · intro ac w' hF hL hP hU K hK
      have hB := below_undrew hL
      have e8 : ac.eval (.tmp 8) = .bool false := hP 5 (by kernel_rfl)
      exact rop_offG (j := 5) (b := true) rfl rfl e8 (by decide) (hK _ _ (le8_refl _) trivial)
    · intro ac w' hF hL hP hU K hK
      have hB := below_undrew hL
      have e8 : ac.eval (.tmp 8) = .bool false := hP 5 (by kernel_rfl)
      exact rop_offG (j := 5) (b := true) rfl rfl e8 (by decide) (hK _ _ (le8_refl _) trivial)
    · intro ac w' hF hL hP hU K hK
      have hB := below_undrew hL
      have e8 : ac.eval (.tmp 8) = .bool false := hP 5 (by kernel_rfl)
      exact rop_offG (j := 5) (b := true) rfl rfl e8 (by decide) (hK _ _ (le8_refl _) trivial)
    · intro ac w' hF hL hP hU K hK
      have hB := below_undrew hL
      have e8 : ac.eval (.tmp 8) = .bool false := hP 5 (by kernel_rfl)
      exact rop_offG (j := 5) (b := true) rfl rfl e8 (by decide) (hK _ _ (le8_refl _) trivial)
    · intro ac w' hF hL hP hU K hK
      have hB := below_undrew hL
      have e8 : ac.eval (.tmp 8) = .bool false := hP 5 (by kernel_rfl)
      exact rop_pick _ _ _ rfl false e8 (by rfl) (wanted_none rfl) (hK _ _ (le8_refl _) rfl)
    · intro ac w' hF hL hP hU K hK
      have hB := below_undrew hL
      have e18 : ac.eval (.tmp 18) = .bool false := hP 15 (by kernel_rfl)
      exact rop_assign _ rfl e18 (wanted_none rfl) (hK _ _ (le8_refl _) rfl)
    · intro ac w' hF hB hT
      have e2 : ac.eval (.tmp 2) = .bool false := hT 16 (by decide)
      rw [hF.setsG [3, 4, 5, 6, 7, 8, 9, 10, 11, 12, 13, 14, 15, 16, 17, 18, 2] (by kernel_rfl)]
      simp only [List.foldl_cons, List.foldl_nil, List.setIfInBounds_toArray, List.set_cons_succ, List.set_cons_zero, e2]
      generalize ac.eval (.tmp 3) = u3
      generalize ac.eval (.tmp 4) = u4
      generalize ac.eval (.tmp 5) = u5
      generalize ac.eval (.tmp 6) = u6
      generalize ac.eval (.tmp 7) = u7
      generalize ac.eval (.tmp 8) = u8
      generalize ac.eval (.tmp 9) = u9
      generalize ac.eval (.tmp 10) = u10
      generalize ac.eval (.tmp 11) = u11
      generalize ac.eval (.tmp 12) = u12
      generalize ac.eval (.tmp 13) = u13
      generalize ac.eval (.tmp 14) = u14
      generalize ac.eval (.tmp 15) = u15
      generalize ac.eval (.tmp 16) = u16
      generalize ac.eval (.tmp 17) = u17
      generalize ac.eval (.tmp 18) = u18
      clear e2 hT hF ac
      have HF := Lib.hid (below_step HB.out (Nat.le_refl _) hB)
      clear hB
      go_wp2
      go_ret
      exact ⟨by rw [hd.out]; first | (rw [Bool.true_and]; rfl) | (rw [Bool.false_and]; rfl), HF.out⟩
  · have hd := Lib.hid (show decide (S ≠ T) = true by simp [hne])
    try simp only [Act.put]
    refine wp_region_tab [RT.is (.pointer (some ⟨q, 0, none⟩)), RT.is (.string S), RT.is (.pointer (some ⟨q, 1, none⟩)), RT.is (.string T), RT.is (.bool true), RT.is (.bool true), RT.is (.pointer (some ⟨q, 0, none⟩)), RT.is (.string S), RT.row [S], RT.is (sumV D), RT.is (.pointer (some ⟨q, 1, none⟩)), RT.is (.string T), RT.row [T], RT.is (sumV E), RT.is (.bool (decide (D = E))), RT.is (.bool (decide (D = E))), RT.is (.bool (decide (D = E)))] (by kernel_rfl) (by kernel_rfl) (by kernel_rfl) (by kernel_rfl) ⟨?_, ?_, ?_, ?_, ?_, ?_, ?_, ?_, ?_, ?_, ?_, ?_, ?_, ?_, ?_, ?_, ?_, trivial⟩ ?_
    · intro ac w' hF hL hP hU K hK
      have hB := below_undrew hL
      have e1 : ac.eval (.tmp 1) = .pointer (some ⟨q, 0, none⟩) := hF.at 1 (by kernel_rfl)
      exact rop_fld _ _ _ rfl e1 (fld_tw0 q w') (wanted_none rfl) (hK _ _ (le8_refl _) rfl)
    · intro ac w' hF hL hP hU K hK
      have hB := below_undrew hL
      have e3 : ac.eval (.tmp 3) = .pointer (some ⟨q, 0, none⟩) := hP 0 (by kernel_rfl)
      exact rop_ld _ _ rfl e3 (load_text ((hB.cell (p := ⟨q, 0, none⟩) hqW).trans HC0.out)) (wanted_none rfl) (hK _ _ (le8_refl _) rfl)
    · intro ac w' hF hL hP hU K hK
      have hB := below_undrew hL
      have e1 : ac.eval (.tmp 1) = .pointer (some ⟨q, 0, none⟩) := hF.at 1 (by kernel_rfl)
      exact rop_fld _ _ _ rfl e1 (fld_tw1 q w') (wanted_none rfl) (hK _ _ (le8_refl _) rfl)
    · intro ac w' hF hL hP hU K hK
      have hB := below_undrew hL
      have e5 : ac.eval (.tmp 5) = .pointer (some ⟨q, 1, none⟩) := hP 2 (by kernel_rfl)
      exact rop_ld _ _ rfl e5 (load_text ((hB.cell (p := ⟨q, 1, none⟩) hqW).trans HC1.out)) (wanted_none rfl) (hK _ _ (le8_refl _) rfl)
    · intro ac w' hF hL hP hU K hK
      have hB := below_undrew hL
      have e4 : ac.eval (.tmp 4) = .string S := hP 1 (by kernel_rfl)
      have e6 : ac.eval (.tmp 6) = .string T := hP 3 (by kernel_rfl)
      exact rop_bin _ _ _ _ _ rfl e4 e6 (guard_str _ _ _ _ _ _ w') (neq_txt_tt S T hne w') (wanted_none rfl) (hK _ _ (le8_refl _) rfl)
    · intro ac w' hF hL hP hU K hK
      have hB := below_undrew hL
      have e7 : ac.eval (.tmp 7) = .bool true := hP 4 (by kernel_rfl)
      exact rop_move _ rfl e7 (wanted_none rfl) (hK _ _ (le8_refl _) rfl)
    · intro ac w' hF hL hP hU K hK
      have hB := below_undrew hL
      have e1 : ac.eval (.tmp 1) = .pointer (some ⟨q, 0, none⟩) := hF.at 1 (by kernel_rfl)
      have e8 : ac.eval (.tmp 8) = .bool true := hP 5 (by kernel_rfl)
      exact rop_fld _ _ _ rfl e1 (fld_tw0 q w') (wanted_of (j := 5) (b := true) rfl rfl e8) (hK _ _ (le8_refl _) rfl)
    · intro ac w' hF hL hP hU K hK
      have hB := below_undrew hL
      have e9 : ac.eval (.tmp 9) = .pointer (some ⟨q, 0, none⟩) := hP 6 (by kernel_rfl)
      have e8 : ac.eval (.tmp 8) = .bool true := hP 5 (by kernel_rfl)
      exact rop_ld _ _ rfl e9 (load_text ((hB.cell (p := ⟨q, 0, none⟩) hqW).trans HC0.out)) (wanted_of (j := 5) (b := true) rfl rfl e8) (hK _ _ (le8_refl _) rfl)
    · intro ac w' hF hL hP hU K hK
      have hB := below_undrew hL
      have e10 : ac.eval (.tmp 10) = .string S := hP 7 (by kernel_rfl)
      have e8 : ac.eval (.tmp 8) = .bool true := hP 5 (by kernel_rfl)
      refine rop_texts 1 _ rfl [S] ?_ rfl (by decide) (by decide) (wanted_of (j := 5) (b := true) rfl rfl e8) (fun v w2 hb hr => hK v w2 hb hr)
      simp [e10, List.range, List.range.loop]
    · intro ac w' hF hL hP hU K hK
      have hB := below_undrew hL
      have e11 : StrRow w' (ac.eval (.tmp 11)) [S] := hP 8 (by kernel_rfl)
      have e8 : ac.eval (.tmp 8) = .bool true := hP 5 (by kernel_rfl)
      refine rop_call 39 _ _ rfl #[ac.eval (.tmp 11)] (by simp) (by kernel_rfl) (wanted_of (j := 5) (b := true) rfl rfl e8) ?_
      refine (HD.out _ w' hB e11).mono ?_
      rintro e w2 ⟨rfl, hb⟩
      exact ⟨_, rfl, hK _ _ hb rfl⟩
    · intro ac w' hF hL hP hU K hK
      have hB := below_undrew hL
      have e1 : ac.eval (.tmp 1) = .pointer (some ⟨q, 0, none⟩) := hF.at 1 (by kernel_rfl)
      have e8 : ac.eval (.tmp 8) = .bool true := hP 5 (by kernel_rfl)
      exact rop_fld _ _ _ rfl e1 (fld_tw1 q w') (wanted_of (j := 5) (b := true) rfl rfl e8) (hK _ _ (le8_refl _) rfl)
    · intro ac w' hF hL hP hU K hK
      have hB := below_undrew hL
      have e13 : ac.eval (.tmp 13) = .pointer (some ⟨q, 1, none⟩) := hP 10 (by kernel_rfl)
      have e8 : ac.eval (.tmp 8) = .bool true := hP 5 (by kernel_rfl)
      exact rop_ld _ _ rfl e13 (load_text ((hB.cell (p := ⟨q, 1, none⟩) hqW).trans HC1.out)) (wanted_of (j := 5) (b := true) rfl rfl e8) (hK _ _ (le8_refl _) rfl)
    · intro ac w' hF hL hP hU K hK
      have hB := below_undrew hL
      have e14 : ac.eval (.tmp 14) = .string T := hP 11 (by kernel_rfl)
      have e8 : ac.eval (.tmp 8) = .bool true := hP 5 (by kernel_rfl)
      refine rop_texts 1 _ rfl [T] ?_ rfl (by decide) (by decide) (wanted_of (j := 5) (b := true) rfl rfl e8) (fun v w2 hb hr => hK v w2 hb hr)
      simp [e14, List.range, List.range.loop]
    · intro ac w' hF hL hP hU K hK
      have hB := below_undrew hL
      have e15 : StrRow w' (ac.eval (.tmp 15)) [T] := hP 12 (by kernel_rfl)
      have e8 : ac.eval (.tmp 8) = .bool true := hP 5 (by kernel_rfl)
      refine rop_call 39 _ _ rfl #[ac.eval (.tmp 15)] (by simp) (by kernel_rfl) (wanted_of (j := 5) (b := true) rfl rfl e8) ?_
      refine (HE.out _ w' hB e15).mono ?_
      rintro e w2 ⟨rfl, hb⟩
      exact ⟨_, rfl, hK _ _ hb rfl⟩
    · intro ac w' hF hL hP hU K hK
      have hB := below_undrew hL
      have e12 : ac.eval (.tmp 12) = sumV D := hP 9 (by kernel_rfl)
      have e16 : ac.eval (.tmp 16) = sumV E := hP 13 (by kernel_rfl)
      have e8 : ac.eval (.tmp 8) = .bool true := hP 5 (by kernel_rfl)
      exact rop_bin _ _ _ _ _ rfl e12 e16 (guard_run _ _ _ _ _ w') (eql_sum D E HDl.out HEl.out w') (wanted_of (j := 5) (b := true) rfl rfl e8) (hK _ _ (le8_refl _) rfl)
    · intro ac w' hF hL hP hU K hK
      have hB := below_undrew hL
      have e8 : ac.eval (.tmp 8) = .bool true := hP 5 (by kernel_rfl)
      have e17 : ac.eval (.tmp 17) = .bool (decide (D = E)) := hP 14 (by kernel_rfl)
      exact rop_pick _ _ _ rfl true e8 (by simpa using e17) (wanted_none rfl) (hK _ _ (le8_refl _) rfl)
    · intro ac w' hF hL hP hU K hK
      have hB := below_undrew hL
      have e18 : ac.eval (.tmp 18) = .bool (decide (D = E)) := hP 15 (by kernel_rfl)
      exact rop_assign _ rfl e18 (wanted_none rfl) (hK _ _ (le8_refl _) rfl)
    · intro ac w' hF hB hT
      have e2 : ac.eval (.tmp 2) = .bool (decide (D = E)) := hT 16 (by decide)
      rw [hF.setsG [3, 4, 5, 6, 7, 8, 9, 10, 11, 12, 13, 14, 15, 16, 17, 18, 2] (by kernel_rfl)]
      simp only [List.foldl_cons, List.foldl_nil, List.setIfInBounds_toArray, List.set_cons_succ, List.set_cons_zero, e2]
      generalize ac.eval (.tmp 3) = u3
      generalize ac.eval (.tmp 4) = u4
      generalize ac.eval (.tmp 5) = u5
      generalize ac.eval (.tmp 6) = u6
      generalize ac.eval (.tmp 7) = u7
      generalize ac.eval (.tmp 8) = u8
      generalize ac.eval (.tmp 9) = u9
      generalize ac.eval (.tmp 10) = u10
      generalize ac.eval (.tmp 11) = u11
      generalize ac.eval (.tmp 12) = u12
      generalize ac.eval (.tmp 13) = u13
      generalize ac.eval (.tmp 14) = u14
      generalize ac.eval (.tmp 15) = u15
      generalize ac.eval (.tmp 16) = u16
      generalize ac.eval (.tmp 17) = u17
      generalize ac.eval (.tmp 18) = u18
      clear e2 hT hF ac
      have HF := Lib.hid (below_step HB.out (Nat.le_refl _) hB)
      clear hB
      go_wp2
      go_ret
      exact ⟨by rw [hd.out]; first | (rw [Bool.true_and]; rfl) | (rw [Bool.false_and]; rfl), HF.out⟩

set_option maxHeartbeats 2000000 in
set_option maxRecDepth 100000 in
theorem rare_any (s t : List UInt8) (w : World) (hs : s.length ≤ 1000000) (ht : t.length ≤ 1000000) :
    Calls Tryd.prog 51 #[twV (s, t)] w fun e w' => e = .returned (.bool (Tree.areT s t)) ∧ Below w.heap.size w w' := by
  obtain ⟨S, hS⟩ : ∃ S, S = tS s := ⟨_, rfl⟩
  obtain ⟨T, hT⟩ : ∃ T, T = tS t := ⟨_, rfl⟩
  obtain ⟨D, hD⟩ : ∃ D, D = Sha.digest s := ⟨_, rfl⟩
  obtain ⟨E, hE⟩ : ∃ E, E = Sha.digest t := ⟨_, rfl⟩
  have HDl : Hid (D.length = 32) := Lib.hid (by rw [hD]; exact Sha.digest_length _)
  have HEl : Hid (E.length = 32) := Lib.hid (by rw [hE]; exact Sha.digest_length _)
  have hz : Tree.areT s t = (decide (S ≠ T) && decide (D = E)) := by
    unfold Tree.areT
    rw [hS, hT, hD, hE]
    congr 1
    exact decide_eq_decide.2 (not_congr ⟨fun h => by rw [h], tS_inj⟩)
  rw [hz]
  unfold twV tV
  simp only
  rw [← hS, ← hT]
  obtain ⟨w0, hw0⟩ : ∃ w0, w0 = w.alloc (.cells #[.string S, .string T] 32) := ⟨_, rfl⟩
  have b0 : Below w.heap.size w w0 := by rw [hw0]; exact (Below.refl _ _).alloc (Nat.le_refl _) _
  have h1 : w0.heap[w.heap.size]? = some (.cells #[.string S, .string T] 32 (0, 0)) := by rw [hw0]; exact heap_alloc_last w _
  have hqW : w.heap.size < w0.heap.size := (Array.getElem?_eq_some_iff.1 h1).1
  have HC0 : Hid (w0.cell? ⟨w.heap.size, 0, none⟩ = some (.string S)) := Lib.hid (cell_of h1 0)
  have HC1 : Hid (w0.cell? ⟨w.heap.size, 1, none⟩ = some (.string T)) := Lib.hid (cell_of h1 1)
  have HD : Hid (∀ u, Calls Tryd.prog 15 #[.string S] u fun e w' => e = .returned (sumV D) ∧ Below u.heap.size u w') := Lib.hid fun u => by rw [hD]; exact rof_any S s (by rw [hS, tS_list]) u (by omega)
  have HE : Hid (∀ u, Calls Tryd.prog 15 #[.string T] u fun e w' => e = .returned (sumV E) ∧ Below u.heap.size u w') := Lib.hid fun u => by rw [hE]; exact rof_any T t (by rw [hT, tS_list]) u (by omega)
  have HB := Lib.hid b0
  clear hz hS hT hD hE b0 h1 hs ht
  go_enter Tryd.func51, Tryd.ntmps51
  go_upto_region 1 with (fail)
  rw [← hw0]
  clear hw0
  obtain ⟨W, hW⟩ : ∃ W, W = w0 := ⟨_, rfl⟩
  subst hW
  obtain ⟨q, hq⟩ : ∃ q, q = w.heap.size := ⟨_, rfl⟩
  rw [← hq] at HC0 HC1 hqW ⊢
  by_cases hne : S = T
  · have hd := Lib.hid (show decide (S ≠ T) = false by simp [hne])
    try simp only [Act.put]
    refine wp_region_tab [RT.is (.pointer (some ⟨q, 0, none⟩)), RT.is (.string S), RT.is (.pointer (some ⟨q, 1, none⟩)), RT.is (.string T), RT.is (.bool false), RT.is (.bool false), RT.any, RT.any, RT.any, RT.any, RT.any, RT.any, RT.any, RT.is (.bool false), RT.is (.bool false)] (by kernel_rfl) (by kernel_rfl) (by kernel_rfl) (by kernel_rfl) ⟨?_, ?_, ?_, ?_, ?_, ?_, ?_, ?_, ?_, ?_, ?_, ?_, ?_, ?_, ?_, trivial⟩ ?_
    · intro ac w' hF hL hP hU K hK
      have hB := below_undrew hL
      have e1 : ac.eval (.tmp 1) = .pointer (some ⟨q, 0, none⟩) := hF.at 1 (by kernel_rfl)
      exact rop_fld _ _ _ rfl e1 (fld_tw0 q w') (wanted_none rfl) (hK _ _ (le8_refl _) rfl)
    · intro ac w' hF hL hP hU K hK
      have hB := below_undrew hL
      have e3 : ac.eval (.tmp 3) = .pointer (some ⟨q, 0, none⟩) := hP 0 (by kernel_rfl)
      exact rop_ld _ _ rfl e3 (load_text ((hB.cell (p := ⟨q, 0, none⟩) hqW).trans HC0.out)) (wanted_none rfl) (hK _ _ (le8_refl _) rfl)
    · intro ac w' hF hL hP hU K hK
      have hB := below_undrew hL
      have e1 : ac.eval (.tmp 1) = .pointer (some ⟨q, 0, none⟩) := hF.at 1 (by kernel_rfl)
      exact rop_fld _ _ _ rfl e1 (fld_tw1 q w') (wanted_none rfl) (hK _ _ (le8_refl _) rfl)
    · intro ac w' hF hL hP hU K hK
      have hB := below_undrew hL
      have e5 : ac.eval (.tmp 5) = .pointer (some ⟨q, 1, none⟩) := hP 2 (by kernel_rfl)
      exact rop_ld _ _ rfl e5 (load_text ((hB.cell (p := ⟨q, 1, none⟩) hqW).trans HC1.out)) (wanted_none rfl) (hK _ _ (le8_refl _) rfl)
    · intro ac w' hF hL hP hU K hK
      have hB := below_undrew hL
      have e4 : ac.eval (.tmp 4) = .string S := hP 1 (by kernel_rfl)
      have e6 : ac.eval (.tmp 6) = .string T := hP 3 (by kernel_rfl)
      exact rop_bin _ _ _ _ _ rfl e4 e6 (guard_str _ _ _ _ _ _ w') (neq_txt_ff S T hne w') (wanted_none rfl) (hK _ _ (le8_refl _) rfl)
    · intro ac w' hF hL hP hU K hK
      have hB := below_undrew hL
      have e7 : ac.eval (.tmp 7) = .bool false := hP 4 (by kernel_rfl)
      exact rop_move _ rfl e7 (wanted_none rfl) (hK _ _ (le8_refl _) rfl)
    · intro ac w' hF hL hP hU K hK
      have hB := below_undrew hL
      have e8 : ac.eval (.tmp 8) = .bool false := hP 5 (by kernel_rfl)
      exact rop_offG (j := 5) (b := true) rfl rfl e8 (by decide) (hK _ _ (le8_refl _) trivial)
    · intro ac w' hF hL hP hU K hK
      have hB := below_undrew hL
      have e8 : ac.eval (.tmp 8) = .bool false := hP 5 (by kernel_rfl)
      exact rop_offG (j := 5) (b := true) rfl rfl e8 (by decide) (hK _ _ (le8_refl _) trivial)
    · intro ac w' hF hL hP hU K hK
      have hB := below_undrew hL
      have e8 : ac.eval (.tmp 8) = .bool false := hP 5 (by kernel_rfl)
      exact rop_offG (j := 5) (b := true) rfl rfl e8 (by decide) (hK _ _ (le8_refl _) trivial)
    · intro ac w' hF hL hP hU K hK
      have hB := below_undrew hL
      have e8 : ac.eval (.tmp 8) = .bool false := hP 5 (by kernel_rfl)
      exact rop_offG (j := 5) (b := true) rfl rfl e8 (by decide) (hK _ _ (le8_refl _) trivial)
    · intro ac w' hF hL hP hU K hK
      have hB := below_undrew hL
      have e8 : ac.eval (.tmp 8) = .bool false := hP 5 (by kernel_rfl)
      exact rop_offG (j := 5) (b := true) rfl rfl e8 (by decide) (hK _ _ (le8_refl _) trivial)
    · intro ac w' hF hL hP hU K hK
      have hB := below_undrew hL
      have e8 : ac.eval (.tmp 8) = .bool false := hP 5 (by kernel_rfl)
      exact rop_offG (j := 5) (b := true) rfl rfl e8 (by decide) (hK _ _ (le8_refl _) trivial)
    · intro ac w' hF hL hP hU K hK
      have hB := below_undrew hL
      have e8 : ac.eval (.tmp 8) = .bool false := hP 5 (by kernel_rfl)
      exact rop_offG (j := 5) (b := true) rfl rfl e8 (by decide) (hK _ _ (le8_refl _) trivial)
    · intro ac w' hF hL hP hU K hK
      have hB := below_undrew hL
      have e8 : ac.eval (.tmp 8) = .bool false := hP 5 (by kernel_rfl)
      exact rop_pick _ _ _ rfl false e8 (by rfl) (wanted_none rfl) (hK _ _ (le8_refl _) rfl)
    · intro ac w' hF hL hP hU K hK
      have hB := below_undrew hL
      have e16 : ac.eval (.tmp 16) = .bool false := hP 13 (by kernel_rfl)
      exact rop_assign _ rfl e16 (wanted_none rfl) (hK _ _ (le8_refl _) rfl)
    · intro ac w' hF hB hT
      have e2 : ac.eval (.tmp 2) = .bool false := hT 14 (by decide)
      rw [hF.setsG [3, 4, 5, 6, 7, 8, 9, 10, 11, 12, 13, 14, 15, 16, 2] (by kernel_rfl)]
      simp only [List.foldl_cons, List.foldl_nil, List.setIfInBounds_toArray, List.set_cons_succ, List.set_cons_zero, e2]
      generalize ac.eval (.tmp 3) = u3
      generalize ac.eval (.tmp 4) = u4
      generalize ac.eval (.tmp 5) = u5
      generalize ac.eval (.tmp 6) = u6
      generalize ac.eval (.tmp 7) = u7
      generalize ac.eval (.tmp 8) = u8
      generalize ac.eval (.tmp 9) = u9
      generalize ac.eval (.tmp 10) = u10
      generalize ac.eval (.tmp 11) = u11
      generalize ac.eval (.tmp 12) = u12
      generalize ac.eval (.tmp 13) = u13
      generalize ac.eval (.tmp 14) = u14
      generalize ac.eval (.tmp 15) = u15
      generalize ac.eval (.tmp 16) = u16
      clear e2 hT hF ac
      have HF := Lib.hid (below_step HB.out (Nat.le_refl _) hB)
      clear hB
      go_wp2
      go_ret
      exact ⟨by rw [hd.out]; first | (rw [Bool.true_and]; rfl) | (rw [Bool.false_and]; rfl), HF.out⟩
  · have hd := Lib.hid (show decide (S ≠ T) = true by simp [hne])
    try simp only [Act.put]
    refine wp_region_tab [RT.is (.pointer (some ⟨q, 0, none⟩)), RT.is (.string S), RT.is (.pointer (some ⟨q, 1, none⟩)), RT.is (.string T), RT.is (.bool true), RT.is (.bool true), RT.is (.pointer (some ⟨q, 0, none⟩)), RT.is (.string S), RT.is (sumV D), RT.is (.pointer (some ⟨q, 1, none⟩)), RT.is (.string T), RT.is (sumV E), RT.is (.bool (decide (D = E))), RT.is (.bool (decide (D = E))), RT.is (.bool (decide (D = E)))] (by kernel_rfl) (by kernel_rfl) (by kernel_rfl) (by kernel_rfl) ⟨?_, ?_, ?_, ?_, ?_, ?_, ?_, ?_, ?_, ?_, ?_, ?_, ?_, ?_, ?_, trivial⟩ ?_
    · intro ac w' hF hL hP hU K hK
      have hB := below_undrew hL
      have e1 : ac.eval (.tmp 1) = .pointer (some ⟨q, 0, none⟩) := hF.at 1 (by kernel_rfl)
      exact rop_fld _ _ _ rfl e1 (fld_tw0 q w') (wanted_none rfl) (hK _ _ (le8_refl _) rfl)
    · intro ac w' hF hL hP hU K hK
      have hB := below_undrew hL
      have e3 : ac.eval (.tmp 3) = .pointer (some ⟨q, 0, none⟩) := hP 0 (by kernel_rfl)
      exact rop_ld _ _ rfl e3 (load_text ((hB.cell (p := ⟨q, 0, none⟩) hqW).trans HC0.out)) (wanted_none rfl) (hK _ _ (le8_refl _) rfl)
    · intro ac w' hF hL hP hU K hK
      have hB := below_undrew hL
      have e1 : ac.eval (.tmp 1) = .pointer (some ⟨q, 0, none⟩) := hF.at 1 (by kernel_rfl)
      exact rop_fld _ _ _ rfl e1 (fld_tw1 q w') (wanted_none rfl) (hK _ _ (le8_refl _) rfl)
    · intro ac w' hF hL hP hU K hK
      have hB := below_undrew hL
      have e5 : ac.eval (.tmp 5) = .pointer (some ⟨q, 1, none⟩) := hP 2 (by kernel_rfl)
      exact rop_ld _ _ rfl e5 (load_text ((hB.cell (p := ⟨q, 1, none⟩) hqW).trans HC1.out)) (wanted_none rfl) (hK _ _ (le8_refl _) rfl)
    · intro ac w' hF hL hP hU K hK
      have hB := below_undrew hL
      have e4 : ac.eval (.tmp 4) = .string S := hP 1 (by kernel_rfl)
      have e6 : ac.eval (.tmp 6) = .string T := hP 3 (by kernel_rfl)
      exact rop_bin _ _ _ _ _ rfl e4 e6 (guard_str _ _ _ _ _ _ w') (neq_txt_tt S T hne w') (wanted_none rfl) (hK _ _ (le8_refl _) rfl)
    · intro ac w' hF hL hP hU K hK
      have hB := below_undrew hL
      have e7 : ac.eval (.tmp 7) = .bool true := hP 4 (by kernel_rfl)
      exact rop_move _ rfl e7 (wanted_none rfl) (hK _ _ (le8_refl _) rfl)
    · intro ac w' hF hL hP hU K hK
      have hB := below_undrew hL
      have e1 : ac.eval (.tmp 1) = .pointer (some ⟨q, 0, none⟩) := hF.at 1 (by kernel_rfl)
      have e8 : ac.eval (.tmp 8) = .bool true := hP 5 (by kernel_rfl)
      exact rop_fld _ _ _ rfl e1 (fld_tw0 q w') (wanted_of (j := 5) (b := true) rfl rfl e8) (hK _ _ (le8_refl _) rfl)
    · intro ac w' hF hL hP hU K hK
      have hB := below_undrew hL
      have e9 : ac.eval (.tmp 9) = .pointer (some ⟨q, 0, none⟩) := hP 6 (by kernel_rfl)
      have e8 : ac.eval (.tmp 8) = .bool true := hP 5 (by kernel_rfl)
      exact rop_ld _ _ rfl e9 (load_text ((hB.cell (p := ⟨q, 0, none⟩) hqW).trans HC0.out)) (wanted_of (j := 5) (b := true) rfl rfl e8) (hK _ _ (le8_refl _) rfl)
    · intro ac w' hF hL hP hU K hK
      have hB := below_undrew hL
      have e10 : ac.eval (.tmp 10) = .string S := hP 7 (by kernel_rfl)
      have e8 : ac.eval (.tmp 8) = .bool true := hP 5 (by kernel_rfl)
      refine rop_call 15 _ _ rfl #[.string S] (by simp [e10]) (by kernel_rfl) (wanted_of (j := 5) (b := true) rfl rfl e8) ?_
      refine (HD.out w').mono ?_
      rintro e w2 ⟨rfl, hb⟩
      exact ⟨_, rfl, hK _ _ hb rfl⟩
    · intro ac w' hF hL hP hU K hK
      have hB := below_undrew hL
      have e1 : ac.eval (.tmp 1) = .pointer (some ⟨q, 0, none⟩) := hF.at 1 (by kernel_rfl)
      have e8 : ac.eval (.tmp 8) = .bool true := hP 5 (by kernel_rfl)
      exact rop_fld _ _ _ rfl e1 (fld_tw1 q w') (wanted_of (j := 5) (b := true) rfl rfl e8) (hK _ _ (le8_refl _) rfl)
    · intro ac w' hF hL hP hU K hK
      have hB := below_undrew hL
      have e12 : ac.eval (.tmp 12) = .pointer (some ⟨q, 1, none⟩) := hP 9 (by kernel_rfl)
      have e8 : ac.eval (.tmp 8) = .bool true := hP 5 (by kernel_rfl)
      exact rop_ld _ _ rfl e12 (load_text ((hB.cell (p := ⟨q, 1, none⟩) hqW).trans HC1.out)) (wanted_of (j := 5) (b := true) rfl rfl e8) (hK _ _ (le8_refl _) rfl)
    · intro ac w' hF hL hP hU K hK
      have hB := below_undrew hL
      have e13 : ac.eval (.tmp 13) = .string T := hP 10 (by kernel_rfl)
      have e8 : ac.eval (.tmp 8) = .bool true := hP 5 (by kernel_rfl)
      refine rop_call 15 _ _ rfl #[.string T] (by simp [e13]) (by kernel_rfl) (wanted_of (j := 5) (b := true) rfl rfl e8) ?_
      refine (HE.out w').mono ?_
      rintro e w2 ⟨rfl, hb⟩
      exact ⟨_, rfl, hK _ _ hb rfl⟩
    · intro ac w' hF hL hP hU K hK
      have hB := below_undrew hL
      have e11 : ac.eval (.tmp 11) = sumV D := hP 8 (by kernel_rfl)
      have e14 : ac.eval (.tmp 14) = sumV E := hP 11 (by kernel_rfl)
      have e8 : ac.eval (.tmp 8) = .bool true := hP 5 (by kernel_rfl)
      exact rop_bin _ _ _ _ _ rfl e11 e14 (guard_run _ _ _ _ _ w') (eql_sum D E HDl.out HEl.out w') (wanted_of (j := 5) (b := true) rfl rfl e8) (hK _ _ (le8_refl _) rfl)
    · intro ac w' hF hL hP hU K hK
      have hB := below_undrew hL
      have e8 : ac.eval (.tmp 8) = .bool true := hP 5 (by kernel_rfl)
      have e15 : ac.eval (.tmp 15) = .bool (decide (D = E)) := hP 12 (by kernel_rfl)
      exact rop_pick _ _ _ rfl true e8 (by simpa using e15) (wanted_none rfl) (hK _ _ (le8_refl _) rfl)
    · intro ac w' hF hL hP hU K hK
      have hB := below_undrew hL
      have e16 : ac.eval (.tmp 16) = .bool (decide (D = E)) := hP 13 (by kernel_rfl)
      exact rop_assign _ rfl e16 (wanted_none rfl) (hK _ _ (le8_refl _) rfl)
    · intro ac w' hF hB hT
      have e2 : ac.eval (.tmp 2) = .bool (decide (D = E)) := hT 14 (by decide)
      rw [hF.setsG [3, 4, 5, 6, 7, 8, 9, 10, 11, 12, 13, 14, 15, 16, 2] (by kernel_rfl)]
      simp only [List.foldl_cons, List.foldl_nil, List.setIfInBounds_toArray, List.set_cons_succ, List.set_cons_zero, e2]
      generalize ac.eval (.tmp 3) = u3
      generalize ac.eval (.tmp 4) = u4
      generalize ac.eval (.tmp 5) = u5
      generalize ac.eval (.tmp 6) = u6
      generalize ac.eval (.tmp 7) = u7
      generalize ac.eval (.tmp 8) = u8
      generalize ac.eval (.tmp 9) = u9
      generalize ac.eval (.tmp 10) = u10
      generalize ac.eval (.tmp 11) = u11
      generalize ac.eval (.tmp 12) = u12
      generalize ac.eval (.tmp 13) = u13
      generalize ac.eval (.tmp 14) = u14
      generalize ac.eval (.tmp 15) = u15
      generalize ac.eval (.tmp 16) = u16
      clear e2 hT hF ac
      have HF := Lib.hid (below_step HB.out (Nat.le_refl _) hB)
      clear hB
      go_wp2
      go_ret
      exact ⟨by rw [hd.out]; first | (rw [Bool.true_and]; rfl) | (rw [Bool.false_and]; rfl), HF.out⟩

end Go.Proofs.YtdcebdleneieeaaDoor
