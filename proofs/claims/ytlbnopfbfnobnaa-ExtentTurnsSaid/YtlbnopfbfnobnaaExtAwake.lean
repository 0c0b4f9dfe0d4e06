/-
  The statements' awake: the chapter's examples.
-/
import Derived.Test.YtlbnopfbfnobnaaExtLaw
namespace Go.Proofs.Ytlbnopfbfnobnaa
open Go.RowKit Ext

theorem chap1 : tkB [(2, 3), (9, 1)] 4 = true ∧ tkA [(2, 3), (9, 1)] 4 = [(2, 3), (9, 1)] ∧ tkR [(2, 3), (9, 1)] 4 = [] := by decide
theorem chap2 : givB [(2, 3)] (5, 1) = true ∧ givV [(2, 3)] (5, 1) = [(2, 4)] ∧ givB [(2, 3)] (4, 1) = false := by decide
set_option maxHeartbeats 6400000 in
set_option maxRecDepth 100000 in
theorem awake_any (w : World) :
    Calls Try.prog 9 #[] w fun e w' => e = .returned (.bool true) ∧ Below w.heap.size w w' := by
  obtain ⟨B1, hB1⟩ : ∃ B1, B1 = w.heap.size := ⟨_, rfl⟩
  obtain ⟨w1, hw1⟩ : ∃ w1, w1 = w.alloc (.cells #[.int .i64 2, .int .i64 3, .int .i64 9, .int .i64 1] 24) := ⟨_, rfl⟩
  have b1 : Below w.heap.size w w1 := by rw [hw1]; exact below_box _ _
  have o1 : w1.heap[B1]? = some (.cells #[.int .i64 2, .int .i64 3, .int .i64 9, .int .i64 1] 24 (0, 0)) := by rw [hw1, hB1]; exact heap_alloc_last w _
  have hlt1 : B1 < w1.heap.size := (Array.getElem?_eq_some_iff.1 o1).1
  have hl : Runs w1 (.slice (some ⟨B1, 0, none⟩) 2 2) [(2, 3), (9, 1)] := by
    refine Runs.mk (l := [(2, 3), (9, 1)]) (by simp) (by decide) (fun r hr => ?_) hlt1 fun j hj => ?_
    · simp at hr; rcases hr with rfl | rfl <;> (unfold okR; decide)
    · match j, hj with
      | 0, _ => exact ⟨cell_of o1 0, cell_of o1 1⟩
      | 1, _ => exact ⟨cell_of o1 2, cell_of o1 3⟩
  have htk := take_any _ _ 4 w1 hl (by decide) (by decide) (by simp)
  rw [chap1.1, chap1.2.1, chap1.2.2] at htk
  have hg1 := fun u (hu : Runs u (.slice (some ⟨B1, 0, none⟩) 2 2) [(2, 3), (9, 1)]) => give_any _ [(2, 3)] 5 1 u (hu.head' 1 (by simp)) (by unfold okR; decide) (by simp)
  rw [chap2.1, chap2.2.1] at hg1
  have hg2 := fun u (hu : Runs u (.slice (some ⟨B1, 0, none⟩) 2 2) [(2, 3), (9, 1)]) => give_any _ [(2, 3)] 4 1 u (hu.head' 1 (by simp)) (by unfold okR; decide) (by simp)
  rw [chap2.2.2] at hg2
  have q1 : ∀ u, (Instr.sliceAt 22 (.slice (some ⟨B1, 0, none⟩) 2 2) none (some (.int .i64 1)) none).run Try.prog u = .ok (.slice (some ⟨B1, 0, none⟩) 1 2) u := fun u => (sliceAt_run _ _ _ _ _).trans (slice_h (some ⟨B1, 0, none⟩) 2 2 1 (by decide) u)
  go_enter Try.func9, Try.ntmps9
  go_upto_region 2 with fail
  rw [← hw1, ← hB1]
  have HB1 := Lib.hid hB1
  have HO := Lib.hid o1
  clear hw1 hB1 o1
  go_upto_region 5 with (first
    | (with_reducible refine wpList_slice_run rfl 22 (.tmp 19) none (some (.const (.int .i64 1))) none rfl rfl rfl rfl rfl (q1 _) ?_)
    | (with_reducible refine wpList_slice_run rfl 22 (.tmp 26) none (some (.const (.int .i64 1))) none rfl rfl rfl rfl rfl (q1 _) ?_)
    | (go_at_call 12; refine htk.mono ?_; rintro e w2 ⟨va, vb, rfl, ra, rb, b2⟩; replace hl := hl.old b2)
    | (go_at_call 14; ((with_reducible refine (hg1 _ hl).mono ?_); rintro e w3 ⟨vc, rfl, rc1, b3⟩; replace hl := hl.old b3; replace ra := ra.old b3; replace rb := rb.old b3))
    | (go_at_call 14; ((with_reducible refine (hg2 _ hl).mono ?_); rintro e w4 ⟨vd, rfl, rd1, b4⟩; replace hl := hl.old b4; replace ra := ra.old b4; replace rb := rb.old b4; replace rc1 := rc1.old b4)))
  have hbw := below_step (below_step (below_step b1 (Nat.le_refl _) b2) (Nat.le_refl _) b3) (Nat.le_refl _) b4
  obtain ⟨xa, ca, rfl, _, _⟩ := ra.slice
  obtain ⟨xb, cb, rfl, _, _⟩ := rb.slice
  obtain ⟨xc, cc, rfl, _, _⟩ := rc1.slice
  obtain ⟨p, o, rfl, hp, -, a0, a1⟩ := ra.at 0 (by simp)
  obtain ⟨p', o', ep, -, -, a2, a3⟩ := ra.at 1 (by simp)
  injection ep with ep
  injection ep with ep1 ep2 _
  subst ep1 ep2
  obtain ⟨B', o', ep, h1, -, l0, l1⟩ := hl.at 0 (by simp)
  injection ep with ep
  injection ep with ep1 ep2 _
  subst ep1 ep2
  obtain ⟨B', o', ep, -, -, l2, l3⟩ := hl.at 1 (by simp)
  injection ep with ep
  injection ep with ep1 ep2 _
  subst ep1 ep2
  obtain ⟨q, r, rfl, hq, -, -, c1⟩ := rc1.at 0 (by simp)
  simp only [List.length_cons, List.length_nil, Nat.zero_add, Nat.reduceAdd]
  clear b1 b2 b3 b4 htk hg1 hg2 q1 ra rb rc1 rd1 hl HO HB1 hlt1
  try simp only [Act.put]
  refine wp_region_tab [RT.is (.slice (some ⟨p, o, none⟩) 2 ca), RT.is (.int .i64 ((2 : Nat) : Int)), RT.is (.bool true), RT.is (.bool true), RT.is (.slice (some ⟨p, o, none⟩) 2 ca), RT.is (.pointer (some ⟨p, o + 0 * 2, none⟩)), RT.is (.agg #[.int .i64 2, .int .i64 3]), RT.is (.slice (some ⟨B1, 0, none⟩) 2 2), RT.is (.pointer (some ⟨B1, 0 + 0 * 2, none⟩)), RT.is (.agg #[.int .i64 2, .int .i64 3]), RT.is (.bool true), RT.is (.bool true), RT.is (.bool true), RT.is (.slice (some ⟨p, o, none⟩) 2 ca), RT.is (.pointer (some ⟨p, o + 1 * 2, none⟩)), RT.is (.agg #[.int .i64 9, .int .i64 1]), RT.is (.slice (some ⟨B1, 0, none⟩) 2 2), RT.is (.pointer (some ⟨B1, 0 + 1 * 2, none⟩)), RT.is (.agg #[.int .i64 9, .int .i64 1]), RT.is (.bool true), RT.is (.bool true), RT.is (.bool true), RT.is (.slice xb 0 cb), RT.is (.int .i64 ((0 : Nat) : Int)), RT.is (.bool true), RT.is (.bool true), RT.is (.bool true), RT.is (.bool true), RT.is (.bool true), RT.is (.bool true), RT.is (.slice (some ⟨q, r, none⟩) 1 cc), RT.is (.int .i64 ((1 : Nat) : Int)), RT.is (.bool true), RT.is (.bool true), RT.is (.bool true), RT.is (.slice (some ⟨q, r, none⟩) 1 cc), RT.is (.pointer (some ⟨q, r + 0 * 2, none⟩)), RT.is (.pointer (some ⟨q, r + 0 * 2 + 1, none⟩)), RT.is (.int .i64 4), RT.is (.bool true), RT.is (.bool true), RT.is (.bool true), RT.is (.bool true), RT.is (.bool true), RT.is (.bool true), RT.is (.bool false), RT.is (.bool true), RT.is (.bool true), RT.is (.bool true)] (by kernel_rfl) (by kernel_rfl) (by kernel_rfl) (by kernel_rfl) ⟨?_, ?_, ?_, ?_, ?_, ?_, ?_, ?_, ?_, ?_, ?_, ?_, ?_, ?_, ?_, ?_, ?_, ?_, ?_, ?_, ?_, ?_, ?_, ?_, ?_, ?_, ?_, ?_, ?_, ?_, ?_, ?_, ?_, ?_, ?_, ?_, ?_, ?_, ?_, ?_, ?_, ?_, ?_, ?_, ?_, ?_, ?_, ?_, ?_, trivial⟩ ?_
  · intro ac w' hF hL hP hU K hK
    have hB := below_undrew hL
    have e2 : ac.eval (.tmp 2) = .slice (some ⟨p, o, none⟩) 2 ca := hF.at 2 (by kernel_rfl)
    exact rop_move _ rfl e2 (wanted_none rfl) (hK _ _ (le8_refl _) rfl)
  · intro ac w' hF hL hP hU K hK
    have hB := below_undrew hL
    have e32 : ac.eval (.tmp 32) = .slice (some ⟨p, o, none⟩) 2 ca := hP 0 (by kernel_rfl)
    exact rop_len_sl _ rfl e32 (wanted_none rfl) (hK _ _ (le8_refl _) rfl)
  · intro ac w' hF hL hP hU K hK
    have hB := below_undrew hL
    have e33 : ac.eval (.tmp 33) = .int .i64 ((2 : Nat) : Int) := hP 1 (by kernel_rfl)
    exact rop_bin _ _ _ _ _ rfl e33 rfl (guard_int _ _ _ _ _ _ _ w') (eql_i _ _ _ (by decide) w') (wanted_none rfl) (hK _ _ (le8_refl _) rfl)
  · intro ac w' hF hL hP hU K hK
    have hB := below_undrew hL
    have e34 : ac.eval (.tmp 34) = .bool true := hP 2 (by kernel_rfl)
    exact rop_move _ rfl e34 (wanted_none rfl) (hK _ _ (le8_refl _) rfl)
  · intro ac w' hF hL hP hU K hK
    have hB := below_undrew hL
    have e2 : ac.eval (.tmp 2) = .slice (some ⟨p, o, none⟩) 2 ca := hF.at 2 (by kernel_rfl)
    have e35 : ac.eval (.tmp 35) = .bool true := hP 3 (by kernel_rfl)
    exact rop_move _ rfl e2 (wanted_of (j := 3) (b := true) rfl rfl e35) (hK _ _ (le8_refl _) rfl)
  · intro ac w' hF hL hP hU K hK
    have hB := below_undrew hL
    have e36 : ac.eval (.tmp 36) = .slice (some ⟨p, o, none⟩) 2 ca := hP 4 (by kernel_rfl)
    have e35 : ac.eval (.tmp 35) = .bool true := hP 3 (by kernel_rfl)
    exact rop_idx _ _ _ rfl e36 rfl (idx_run p o 2 ca 0 (by decide) _) (wanted_of (j := 3) (b := true) rfl rfl e35) (hK _ _ (le8_refl _) rfl)
  · intro ac w' hF hL hP hU K hK
    have hB := below_undrew hL
    have e37 : ac.eval (.tmp 37) = .pointer (some ⟨p, o + 0 * 2, none⟩) := hP 5 (by kernel_rfl)
    have e35 : ac.eval (.tmp 35) = .bool true := hP 3 (by kernel_rfl)
    exact rop_ld _ _ rfl e37 (load_run ((hB.cell (p := ⟨p, _, none⟩) hp).trans a0) ((hB.cell (p := ⟨p, _, none⟩) hp).trans a1)) (wanted_of (j := 3) (b := true) rfl rfl e35) (hK _ _ (le8_refl _) rfl)
  · intro ac w' hF hL hP hU K hK
    have hB := below_undrew hL
    have e1 : ac.eval (.tmp 1) = .slice (some ⟨B1, 0, none⟩) 2 2 := hF.at 1 (by kernel_rfl)
    have e35 : ac.eval (.tmp 35) = .bool true := hP 3 (by kernel_rfl)
    exact rop_move _ rfl e1 (wanted_of (j := 3) (b := true) rfl rfl e35) (hK _ _ (le8_refl _) rfl)
  · intro ac w' hF hL hP hU K hK
    have hB := below_undrew hL
    have e39 : ac.eval (.tmp 39) = .slice (some ⟨B1, 0, none⟩) 2 2 := hP 7 (by kernel_rfl)
    have e35 : ac.eval (.tmp 35) = .bool true := hP 3 (by kernel_rfl)
    exact rop_idx _ _ _ rfl e39 rfl (idx_run B1 0 2 2 0 (by decide) _) (wanted_of (j := 3) (b := true) rfl rfl e35) (hK _ _ (le8_refl _) rfl)
  · intro ac w' hF hL hP hU K hK
    have hB := below_undrew hL
    have e40 : ac.eval (.tmp 40) = .pointer (some ⟨B1, 0 + 0 * 2, none⟩) := hP 8 (by kernel_rfl)
    have e35 : ac.eval (.tmp 35) = .bool true := hP 3 (by kernel_rfl)
    exact rop_ld _ _ rfl e40 (load_run ((hB.cell (p := ⟨B1, _, none⟩) h1).trans l0) ((hB.cell (p := ⟨B1, _, none⟩) h1).trans l1)) (wanted_of (j := 3) (b := true) rfl rfl e35) (hK _ _ (le8_refl _) rfl)
  · intro ac w' hF hL hP hU K hK
    have hB := below_undrew hL
    have e38 : ac.eval (.tmp 38) = .agg #[.int .i64 2, .int .i64 3] := hP 6 (by kernel_rfl)
    have e41 : ac.eval (.tmp 41) = .agg #[.int .i64 2, .int .i64 3] := hP 9 (by kernel_rfl)
    have e35 : ac.eval (.tmp 35) = .bool true := hP 3 (by kernel_rfl)
    exact rop_bin _ _ _ _ _ rfl e38 e41 (guard_rn _ _ _ _ _ _ _ _) (eql_rn _ _ _) (wanted_of (j := 3) (b := true) rfl rfl e35) (hK _ _ (le8_refl _) rfl)
  · intro ac w' hF hL hP hU K hK
    have hB := below_undrew hL
    have e35 : ac.eval (.tmp 35) = .bool true := hP 3 (by kernel_rfl)
    have e42 : ac.eval (.tmp 42) = .bool true := hP 10 (by kernel_rfl)
    exact rop_pick _ _ _ rfl true e35 (by simpa using e42) (wanted_none rfl) (hK _ _ (le8_refl _) rfl)
  · intro ac w' hF hL hP hU K hK
    have hB := below_undrew hL
    have e43 : ac.eval (.tmp 43) = .bool true := hP 11 (by kernel_rfl)
    exact rop_move _ rfl e43 (wanted_none rfl) (hK _ _ (le8_refl _) rfl)
  · intro ac w' hF hL hP hU K hK
    have hB := below_undrew hL
    have e2 : ac.eval (.tmp 2) = .slice (some ⟨p, o, none⟩) 2 ca := hF.at 2 (by kernel_rfl)
    have e44 : ac.eval (.tmp 44) = .bool true := hP 12 (by kernel_rfl)
    exact rop_move _ rfl e2 (wanted_of (j := 12) (b := true) rfl rfl e44) (hK _ _ (le8_refl _) rfl)
  · intro ac w' hF hL hP hU K hK
    have hB := below_undrew hL
    have e45 : ac.eval (.tmp 45) = .slice (some ⟨p, o, none⟩) 2 ca := hP 13 (by kernel_rfl)
    have e44 : ac.eval (.tmp 44) = .bool true := hP 12 (by kernel_rfl)
    exact rop_idx _ _ _ rfl e45 rfl (idx_run p o 2 ca 1 (by decide) _) (wanted_of (j := 12) (b := true) rfl rfl e44) (hK _ _ (le8_refl _) rfl)
  · intro ac w' hF hL hP hU K hK
    have hB := below_undrew hL
    have e46 : ac.eval (.tmp 46) = .pointer (some ⟨p, o + 1 * 2, none⟩) := hP 14 (by kernel_rfl)
    have e44 : ac.eval (.tmp 44) = .bool true := hP 12 (by kernel_rfl)
    exact rop_ld _ _ rfl e46 (load_run ((hB.cell (p := ⟨p, _, none⟩) hp).trans a2) ((hB.cell (p := ⟨p, _, none⟩) hp).trans a3)) (wanted_of (j := 12) (b := true) rfl rfl e44) (hK _ _ (le8_refl _) rfl)
  · intro ac w' hF hL hP hU K hK
    have hB := below_undrew hL
    have e1 : ac.eval (.tmp 1) = .slice (some ⟨B1, 0, none⟩) 2 2 := hF.at 1 (by kernel_rfl)
    have e44 : ac.eval (.tmp 44) = .bool true := hP 12 (by kernel_rfl)
    exact rop_move _ rfl e1 (wanted_of (j := 12) (b := true) rfl rfl e44) (hK _ _ (le8_refl _) rfl)
  · intro ac w' hF hL hP hU K hK
    have hB := below_undrew hL
    have e48 : ac.eval (.tmp 48) = .slice (some ⟨B1, 0, none⟩) 2 2 := hP 16 (by kernel_rfl)
    have e44 : ac.eval (.tmp 44) = .bool true := hP 12 (by kernel_rfl)
    exact rop_idx _ _ _ rfl e48 rfl (idx_run B1 0 2 2 1 (by decide) _) (wanted_of (j := 12) (b := true) rfl rfl e44) (hK _ _ (le8_refl _) rfl)
  · intro ac w' hF hL hP hU K hK
    have hB := below_undrew hL
    have e49 : ac.eval (.tmp 49) = .pointer (some ⟨B1, 0 + 1 * 2, none⟩) := hP 17 (by kernel_rfl)
    have e44 : ac.eval (.tmp 44) = .bool true := hP 12 (by kernel_rfl)
    exact rop_ld _ _ rfl e49 (load_run ((hB.cell (p := ⟨B1, _, none⟩) h1).trans l2) ((hB.cell (p := ⟨B1, _, none⟩) h1).trans l3)) (wanted_of (j := 12) (b := true) rfl rfl e44) (hK _ _ (le8_refl _) rfl)
  · intro ac w' hF hL hP hU K hK
    have hB := below_undrew hL
    have e47 : ac.eval (.tmp 47) = .agg #[.int .i64 9, .int .i64 1] := hP 15 (by kernel_rfl)
    have e50 : ac.eval (.tmp 50) = .agg #[.int .i64 9, .int .i64 1] := hP 18 (by kernel_rfl)
    have e44 : ac.eval (.tmp 44) = .bool true := hP 12 (by kernel_rfl)
    exact rop_bin _ _ _ _ _ rfl e47 e50 (guard_rn _ _ _ _ _ _ _ _) (eql_rn _ _ _) (wanted_of (j := 12) (b := true) rfl rfl e44) (hK _ _ (le8_refl _) rfl)
  · intro ac w' hF hL hP hU K hK
    have hB := below_undrew hL
    have e44 : ac.eval (.tmp 44) = .bool true := hP 12 (by kernel_rfl)
    have e51 : ac.eval (.tmp 51) = .bool true := hP 19 (by kernel_rfl)
    exact rop_pick _ _ _ rfl true e44 (by simpa using e51) (wanted_none rfl) (hK _ _ (le8_refl _) rfl)
  · intro ac w' hF hL hP hU K hK
    have hB := below_undrew hL
    have e52 : ac.eval (.tmp 52) = .bool true := hP 20 (by kernel_rfl)
    exact rop_move _ rfl e52 (wanted_none rfl) (hK _ _ (le8_refl _) rfl)
  · intro ac w' hF hL hP hU K hK
    have hB := below_undrew hL
    have e3 : ac.eval (.tmp 3) = .slice xb 0 cb := hF.at 3 (by kernel_rfl)
    have e53 : ac.eval (.tmp 53) = .bool true := hP 21 (by kernel_rfl)
    exact rop_move _ rfl e3 (wanted_of (j := 21) (b := true) rfl rfl e53) (hK _ _ (le8_refl _) rfl)
  · intro ac w' hF hL hP hU K hK
    have hB := below_undrew hL
    have e54 : ac.eval (.tmp 54) = .slice xb 0 cb := hP 22 (by kernel_rfl)
    have e53 : ac.eval (.tmp 53) = .bool true := hP 21 (by kernel_rfl)
    exact rop_len_sl _ rfl e54 (wanted_of (j := 21) (b := true) rfl rfl e53) (hK _ _ (le8_refl _) rfl)
  · intro ac w' hF hL hP hU K hK
    have hB := below_undrew hL
    have e55 : ac.eval (.tmp 55) = .int .i64 ((0 : Nat) : Int) := hP 23 (by kernel_rfl)
    have e53 : ac.eval (.tmp 53) = .bool true := hP 21 (by kernel_rfl)
    exact rop_bin _ _ _ _ _ rfl e55 rfl (guard_int _ _ _ _ _ _ _ w') (eql_i _ _ _ (by decide) w') (wanted_of (j := 21) (b := true) rfl rfl e53) (hK _ _ (le8_refl _) rfl)
  · intro ac w' hF hL hP hU K hK
    have hB := below_undrew hL
    have e53 : ac.eval (.tmp 53) = .bool true := hP 21 (by kernel_rfl)
    have e56 : ac.eval (.tmp 56) = .bool true := hP 24 (by kernel_rfl)
    exact rop_pick _ _ _ rfl true e53 (by simpa using e56) (wanted_none rfl) (hK _ _ (le8_refl _) rfl)
  · intro ac w' hF hL hP hU K hK
    have hB := below_undrew hL
    have e57 : ac.eval (.tmp 57) = .bool true := hP 25 (by kernel_rfl)
    exact rop_move _ rfl e57 (wanted_none rfl) (hK _ _ (le8_refl _) rfl)
  · intro ac w' hF hL hP hU K hK
    have hB := below_undrew hL
    have e4 : ac.eval (.tmp 4) = .bool true := hF.at 4 (by kernel_rfl)
    have e58 : ac.eval (.tmp 58) = .bool true := hP 26 (by kernel_rfl)
    exact rop_move _ rfl e4 (wanted_of (j := 26) (b := true) rfl rfl e58) (hK _ _ (le8_refl _) rfl)
  · intro ac w' hF hL hP hU K hK
    have hB := below_undrew hL
    have e58 : ac.eval (.tmp 58) = .bool true := hP 26 (by kernel_rfl)
    have e59 : ac.eval (.tmp 59) = .bool true := hP 27 (by kernel_rfl)
    exact rop_pick _ _ _ rfl true e58 (by simpa using e59) (wanted_none rfl) (hK _ _ (le8_refl _) rfl)
  · intro ac w' hF hL hP hU K hK
    have hB := below_undrew hL
    have e60 : ac.eval (.tmp 60) = .bool true := hP 28 (by kernel_rfl)
    exact rop_move _ rfl e60 (wanted_none rfl) (hK _ _ (le8_refl _) rfl)
  · intro ac w' hF hL hP hU K hK
    have hB := below_undrew hL
    have e5 : ac.eval (.tmp 5) = .slice (some ⟨q, r, none⟩) 1 cc := hF.at 5 (by kernel_rfl)
    have e61 : ac.eval (.tmp 61) = .bool true := hP 29 (by kernel_rfl)
    exact rop_move _ rfl e5 (wanted_of (j := 29) (b := true) rfl rfl e61) (hK _ _ (le8_refl _) rfl)
  · intro ac w' hF hL hP hU K hK
    have hB := below_undrew hL
    have e62 : ac.eval (.tmp 62) = .slice (some ⟨q, r, none⟩) 1 cc := hP 30 (by kernel_rfl)
    have e61 : ac.eval (.tmp 61) = .bool true := hP 29 (by kernel_rfl)
    exact rop_len_sl _ rfl e62 (wanted_of (j := 29) (b := true) rfl rfl e61) (hK _ _ (le8_refl _) rfl)
  · intro ac w' hF hL hP hU K hK
    have hB := below_undrew hL
    have e63 : ac.eval (.tmp 63) = .int .i64 ((1 : Nat) : Int) := hP 31 (by kernel_rfl)
    have e61 : ac.eval (.tmp 61) = .bool true := hP 29 (by kernel_rfl)
    exact rop_bin _ _ _ _ _ rfl e63 rfl (guard_int _ _ _ _ _ _ _ w') (eql_i _ _ _ (by decide) w') (wanted_of (j := 29) (b := true) rfl rfl e61) (hK _ _ (le8_refl _) rfl)
  · intro ac w' hF hL hP hU K hK
    have hB := below_undrew hL
    have e61 : ac.eval (.tmp 61) = .bool true := hP 29 (by kernel_rfl)
    have e64 : ac.eval (.tmp 64) = .bool true := hP 32 (by kernel_rfl)
    exact rop_pick _ _ _ rfl true e61 (by simpa using e64) (wanted_none rfl) (hK _ _ (le8_refl _) rfl)
  · intro ac w' hF hL hP hU K hK
    have hB := below_undrew hL
    have e65 : ac.eval (.tmp 65) = .bool true := hP 33 (by kernel_rfl)
    exact rop_move _ rfl e65 (wanted_none rfl) (hK _ _ (le8_refl _) rfl)
  · intro ac w' hF hL hP hU K hK
    have hB := below_undrew hL
    have e5 : ac.eval (.tmp 5) = .slice (some ⟨q, r, none⟩) 1 cc := hF.at 5 (by kernel_rfl)
    have e66 : ac.eval (.tmp 66) = .bool true := hP 34 (by kernel_rfl)
    exact rop_move _ rfl e5 (wanted_of (j := 34) (b := true) rfl rfl e66) (hK _ _ (le8_refl _) rfl)
  · intro ac w' hF hL hP hU K hK
    have hB := below_undrew hL
    have e67 : ac.eval (.tmp 67) = .slice (some ⟨q, r, none⟩) 1 cc := hP 35 (by kernel_rfl)
    have e66 : ac.eval (.tmp 66) = .bool true := hP 34 (by kernel_rfl)
    exact rop_idx _ _ _ rfl e67 rfl (idx_run q r 1 cc 0 (by decide) _) (wanted_of (j := 34) (b := true) rfl rfl e66) (hK _ _ (le8_refl _) rfl)
  · intro ac w' hF hL hP hU K hK
    have hB := below_undrew hL
    have e68 : ac.eval (.tmp 68) = .pointer (some ⟨q, r + 0 * 2, none⟩) := hP 36 (by kernel_rfl)
    have e66 : ac.eval (.tmp 66) = .bool true := hP 34 (by kernel_rfl)
    exact rop_fld _ _ _ rfl e68 (fld_run1 _ _ _) (wanted_of (j := 34) (b := true) rfl rfl e66) (hK _ _ (le8_refl _) rfl)
  · intro ac w' hF hL hP hU K hK
    have hB := below_undrew hL
    have e69 : ac.eval (.tmp 69) = .pointer (some ⟨q, r + 0 * 2 + 1, none⟩) := hP 37 (by kernel_rfl)
    have e66 : ac.eval (.tmp 66) = .bool true := hP 34 (by kernel_rfl)
    exact rop_ld _ _ rfl e69 (load_int ((hB.cell (p := ⟨q, _, none⟩) hq).trans c1)) (wanted_of (j := 34) (b := true) rfl rfl e66) (hK _ _ (le8_refl _) rfl)
  · intro ac w' hF hL hP hU K hK
    have hB := below_undrew hL
    have e70 : ac.eval (.tmp 70) = .int .i64 4 := hP 38 (by kernel_rfl)
    have e66 : ac.eval (.tmp 66) = .bool true := hP 34 (by kernel_rfl)
    exact rop_bin _ _ _ _ _ rfl e70 rfl (guard_int _ _ _ _ _ _ _ w') (eql_i _ _ _ (by decide) w') (wanted_of (j := 34) (b := true) rfl rfl e66) (hK _ _ (le8_refl _) rfl)
  · intro ac w' hF hL hP hU K hK
    have hB := below_undrew hL
    have e66 : ac.eval (.tmp 66) = .bool true := hP 34 (by kernel_rfl)
    have e71 : ac.eval (.tmp 71) = .bool true := hP 39 (by kernel_rfl)
    exact rop_pick _ _ _ rfl true e66 (by simpa using e71) (wanted_none rfl) (hK _ _ (le8_refl _) rfl)
  · intro ac w' hF hL hP hU K hK
    have hB := below_undrew hL
    have e72 : ac.eval (.tmp 72) = .bool true := hP 40 (by kernel_rfl)
    exact rop_move _ rfl e72 (wanted_none rfl) (hK _ _ (le8_refl _) rfl)
  · intro ac w' hF hL hP hU K hK
    have hB := below_undrew hL
    have e6 : ac.eval (.tmp 6) = .bool true := hF.at 6 (by kernel_rfl)
    have e73 : ac.eval (.tmp 73) = .bool true := hP 41 (by kernel_rfl)
    exact rop_move _ rfl e6 (wanted_of (j := 41) (b := true) rfl rfl e73) (hK _ _ (le8_refl _) rfl)
  · intro ac w' hF hL hP hU K hK
    have hB := below_undrew hL
    have e73 : ac.eval (.tmp 73) = .bool true := hP 41 (by kernel_rfl)
    have e74 : ac.eval (.tmp 74) = .bool true := hP 42 (by kernel_rfl)
    exact rop_pick _ _ _ rfl true e73 (by simpa using e74) (wanted_none rfl) (hK _ _ (le8_refl _) rfl)
  · intro ac w' hF hL hP hU K hK
    have hB := below_undrew hL
    have e75 : ac.eval (.tmp 75) = .bool true := hP 43 (by kernel_rfl)
    exact rop_move _ rfl e75 (wanted_none rfl) (hK _ _ (le8_refl _) rfl)
  · intro ac w' hF hL hP hU K hK
    have hB := below_undrew hL
    have e8 : ac.eval (.tmp 8) = .bool false := hF.at 8 (by kernel_rfl)
    have e76 : ac.eval (.tmp 76) = .bool true := hP 44 (by kernel_rfl)
    exact rop_move _ rfl e8 (wanted_of (j := 44) (b := true) rfl rfl e76) (hK _ _ (le8_refl _) rfl)
  · intro ac w' hF hL hP hU K hK
    have hB := below_undrew hL
    have e77 : ac.eval (.tmp 77) = .bool false := hP 45 (by kernel_rfl)
    have e76 : ac.eval (.tmp 76) = .bool true := hP 44 (by kernel_rfl)
    exact rop_not _ _ rfl false e77 (wanted_of (j := 44) (b := true) rfl rfl e76) (hK _ _ (le8_refl _) rfl)
  · intro ac w' hF hL hP hU K hK
    have hB := below_undrew hL
    have e76 : ac.eval (.tmp 76) = .bool true := hP 44 (by kernel_rfl)
    have e78 : ac.eval (.tmp 78) = .bool true := hP 46 (by kernel_rfl)
    exact rop_pick _ _ _ rfl true e76 (by simpa using e78) (wanted_none rfl) (hK _ _ (le8_refl _) rfl)
  · intro ac w' hF hL hP hU K hK
    have hB := below_undrew hL
    have e79 : ac.eval (.tmp 79) = .bool true := hP 47 (by kernel_rfl)
    exact rop_assign _ rfl e79 (wanted_none rfl) (hK _ _ (le8_refl _) rfl)
  · intro ac w' hF hB hT
    have e0 : ac.eval (.tmp 0) = .bool true := hT 48 (by decide)
    rw [hF.lit 80 rfl]
    simp only [List.range, List.range.loop, List.map_cons, List.map_nil, e0, hF.at 1 (by kernel_rfl), hF.at 2 (by kernel_rfl), hF.at 3 (by kernel_rfl), hF.at 4 (by kernel_rfl), hF.at 5 (by kernel_rfl), hF.at 6 (by kernel_rfl), hF.at 7 (by kernel_rfl), hF.at 8 (by kernel_rfl), hF.at 9 (by kernel_rfl), hF.at 10 (by kernel_rfl), hF.at 11 (by kernel_rfl), hF.at 12 (by kernel_rfl), hF.at 13 (by kernel_rfl), hF.at 14 (by kernel_rfl), hF.at 15 (by kernel_rfl), hF.at 16 (by kernel_rfl), hF.at 17 (by kernel_rfl), hF.at 18 (by kernel_rfl), hF.at 19 (by kernel_rfl), hF.at 20 (by kernel_rfl), hF.at 21 (by kernel_rfl), hF.at 22 (by kernel_rfl), hF.at 23 (by kernel_rfl), hF.at 24 (by kernel_rfl), hF.at 25 (by kernel_rfl), hF.at 26 (by kernel_rfl), hF.at 27 (by kernel_rfl), hF.at 28 (by kernel_rfl), hF.at 29 (by kernel_rfl), hF.at 30 (by kernel_rfl), hF.at 31 (by kernel_rfl)]
    generalize ac.eval (.tmp 32) = u32
    generalize ac.eval (.tmp 33) = u33
    generalize ac.eval (.tmp 34) = u34
    generalize ac.eval (.tmp 35) = u35
    generalize ac.eval (.tmp 36) = u36
    generalize ac.eval (.tmp 37) = u37
    generalize ac.eval (.tmp 38) = u38
    generalize ac.eval (.tmp 39) = u39
    generalize ac.eval (.tmp 40) = u40
    generalize ac.eval (.tmp 41) = u41
    generalize ac.eval (.tmp 42) = u42
    generalize ac.eval (.tmp 43) = u43
    generalize ac.eval (.tmp 44) = u44
    generalize ac.eval (.tmp 45) = u45
    generalize ac.eval (.tmp 46) = u46
    generalize ac.eval (.tmp 47) = u47
    generalize ac.eval (.tmp 48) = u48
    generalize ac.eval (.tmp 49) = u49
    generalize ac.eval (.tmp 50) = u50
    generalize ac.eval (.tmp 51) = u51
    generalize ac.eval (.tmp 52) = u52
    generalize ac.eval (.tmp 53) = u53
    generalize ac.eval (.tmp 54) = u54
    generalize ac.eval (.tmp 55) = u55
    generalize ac.eval (.tmp 56) = u56
    generalize ac.eval (.tmp 57) = u57
    generalize ac.eval (.tmp 58) = u58
    generalize ac.eval (.tmp 59) = u59
    generalize ac.eval (.tmp 60) = u60
    generalize ac.eval (.tmp 61) = u61
    generalize ac.eval (.tmp 62) = u62
    generalize ac.eval (.tmp 63) = u63
    generalize ac.eval (.tmp 64) = u64
    generalize ac.eval (.tmp 65) = u65
    generalize ac.eval (.tmp 66) = u66
    generalize ac.eval (.tmp 67) = u67
    generalize ac.eval (.tmp 68) = u68
    generalize ac.eval (.tmp 69) = u69
    generalize ac.eval (.tmp 70) = u70
    generalize ac.eval (.tmp 71) = u71
    generalize ac.eval (.tmp 72) = u72
    generalize ac.eval (.tmp 73) = u73
    generalize ac.eval (.tmp 74) = u74
    generalize ac.eval (.tmp 75) = u75
    generalize ac.eval (.tmp 76) = u76
    generalize ac.eval (.tmp 77) = u77
    generalize ac.eval (.tmp 78) = u78
    generalize ac.eval (.tmp 79) = u79
    simp only [Act.eval, Array.getD_eq_getD_getElem?, List.getElem?_toArray, List.getElem?_cons_succ, List.getElem?_cons_zero, Option.getD_some]
    clear e0 hT hF ac
    go_wp2
    go_ret
    exact ⟨rfl, below_step hbw (Nat.le_refl _) hB⟩
end Go.Proofs.Ytlbnopfbfnobnaa
