/-
  Package extent: beside: where a run goes in a free list.
-/
import Derived.Test.YtlbnopfbfnobnaaRunReg
import Derived.Test.YtlbnopfbfnobnaaExtCheck
import Derived.WalkMore
namespace Go.Proofs.Ytlbnopfbfnobnaa
open Go.RowKit Ext

/-- A run that lies alone in block B. -/
def BoxAt (w : World) (B : Nat) (a n : Int) : Prop := w.heap[B]? = some (.cells #[.int .i64 a, .int .i64 n] 24 (0, 0))
theorem BoxAt.lt {w : World} {B : Nat} {a n : Int} (h : BoxAt w B a n) : B < w.heap.size := (Array.getElem?_eq_some_iff.1 h).1
theorem BoxAt.c0 {w : World} {B : Nat} {a n : Int} (h : BoxAt w B a n) : w.cell? ⟨B, 0, none⟩ = some (.int .i64 a) := cell_of h 0
theorem BoxAt.c1 {w : World} {B : Nat} {a n : Int} (h : BoxAt w B a n) : w.cell? ⟨B, 0 + 1, none⟩ = some (.int .i64 n) := cell_of h 1
theorem BoxAt.f {w : World} {B : Nat} {a n : Int} (h : BoxAt w B a n) (i : Nat) : w.frozen? ⟨B, i, none⟩ = false := fz_of h i
theorem BoxAt.old {w w' : World} {B : Nat} {a n : Int} (h : BoxAt w B a n) (k : Below w.heap.size w w') : BoxAt w' B a n := (k.block B h.lt).trans h
theorem BoxAt.new (w : World) (a n : Int) : BoxAt (w.alloc (.cells #[.int .i64 a, .int .i64 n] 24)) w.heap.size a n := heap_alloc_last w _
def bsV : Option (Nat × Nat) → Value
  | none => .tuple #[.int .i64 0, .int .i64 0, .bool false]
  | some (f, t) => .tuple #[.int .i64 (f : Nat), .int .i64 (t : Nat), .bool true]
set_option maxHeartbeats 6400000 in
set_option maxRecDepth 100000 in
theorem beside_any (v : Value) (l : List Rn) (a n : Int) (w : World) (hl : Runs w v l) (hf : fileB l = true) (h1 : 0 ≤ a) (h2 : 1 ≤ n) (h3 : n ≤ 65536 - a) :
    Calls Try.prog 34 #[v, .agg #[.int .i64 a, .int .i64 n]] w fun e w' => e = .returned (bsV (bs l (a, n) 0 0 0)) ∧ Below w.heap.size w w' := by
  obtain ⟨va, cap, rfl, hlc, hcap⟩ := hl.slice
  obtain ⟨B3, hB3⟩ : ∃ B3, B3 = w.heap.size := ⟨_, rfl⟩
  obtain ⟨w1, hw1⟩ : ∃ w1, w1 = w.alloc (.cells #[.int .i64 a, .int .i64 n] 24) := ⟨_, rfl⟩
  have x3 : BoxAt w1 B3 a n := by rw [hw1, hB3]; exact BoxAt.new _ _ _
  have b1 : Below w.heap.size w w1 := by rw [hw1]; exact below_box _ _
  have hl1 := hl.old b1
  have HB := Lib.hid hB3
  go_enter Try.func34, Try.ntmps34
  go_wp2
  go_step3
  go_wp2
  go_step3
  go_wp2
  rw [← hw1, ← hB3]
  clear hw1 hB3
  go_loopw [4, 5, 11] (fun s4 s5 s11 wr => ∃ k f t : Nat, k ≤ l.length ∧ s11 = .int .i64 k ∧ s4 = .int .i64 f ∧ s5 = .int .i64 t ∧ f ≤ l.length ∧ t ≤ l.length ∧ bs l (a, n) 0 0 0 = bs (l.drop k) (a, n) k f t ∧ Below w1.heap.size w1 wr) (fun _ _ s11 _ => l.length - (intOf s11).toNat)
  case atStart => exact ⟨0, 0, 0, by omega, rfl, rfl, rfl, by omega, by omega, rfl, Below.refl _ _⟩
  case round =>
    obtain ⟨k, f, t, hk, rfl, rfl, rfl, hfl, htl, hc, hb⟩ := hrel
    have HC := Lib.hid hc
    clear hc
    have hrun := hl1.old hb
    replace x3 := x3.old hb
    have hbw := hb
    replace hb := below_step b1 (Nat.le_refl _) hb
    clear hl1 hl
    by_cases hlt : k < l.length
    · obtain ⟨b, off, rfl, hbB, _, e0, e1⟩ := hrun.at k hlt
      have hs := fileB_get hf k hlt
      have hdrop := List.drop_eq_getElem_cons hlt
      obtain ⟨xx, hx⟩ : ∃ xx, xx = l[k] := ⟨_, rfl⟩
      rw [← hx] at e0 e1 hs hdrop
      obtain ⟨x, m⟩ := xx
      simp only at e0 e1 hs
      obtain ⟨s1, s2, s3⟩ := hs
      have HD := Lib.hid hdrop
      clear hdrop hx hf
      obtain ⟨B8, hB8⟩ : ∃ B8, B8 = wr.heap.size := ⟨_, rfl⟩
      obtain ⟨w5, hw5⟩ : ∃ w5, w5 = wr.alloc (.cells #[.int .i64 x, .int .i64 m] 24) := ⟨_, rfl⟩
      have b5 : Below wr.heap.size wr w5 := by rw [hw5]; exact below_box _ _
      have x8 : BoxAt w5 B8 x m := by rw [hw5, hB8]; exact BoxAt.new _ _ _
      replace x3 := x3.old b5
      replace hb := below_step hb (Nat.le_refl _) b5
      replace hbw := below_step hbw (Nat.le_refl _) b5
      replace hrun := hrun.old b5
      have HB8 := Lib.hid hB8
      go_wp2
      rw [← hw5, ← hB8]
      clear hw5 hB8 b5 e0 e1
      by_cases c1 : x + m < a
      ·
        try simp only [Act.put]
        refine wp_region_tab [RT.is (.agg #[.int .i64 x, .int .i64 m]), RT.is (.int .i64 (x + m)), RT.is (.pointer (some ⟨B3, 0, none⟩)), RT.is (.int .i64 a), RT.is (.bool true), RT.is (.bool true)] (by kernel_rfl) (by kernel_rfl) (by kernel_rfl) (by kernel_rfl) ⟨?_, ?_, ?_, ?_, ?_, ?_, trivial⟩ ?_
        · intro ac w' hF hL hP hU K hK
          have hB := below_undrew hL
          have e8 : ac.eval (.tmp 8) = .pointer (some ⟨B8, 0, none⟩) := hF.at 8 (by kernel_rfl)
          exact rop_ld _ _ rfl e8 (load_run (x8.old hB).c0 (x8.old hB).c1) (wanted_none rfl) (hK _ _ (le8_refl _) rfl)
        · intro ac w' hF hL hP hU K hK
          have hB := below_undrew hL
          have e17 : ac.eval (.tmp 17) = .agg #[.int .i64 x, .int .i64 m] := hP 0 (by kernel_rfl)
          refine rop_call 39 _ _ rfl #[.agg #[.int .i64 x, .int .i64 m]] (by simp [e17]) (by kernel_rfl) (wanted_none rfl) ?_
          refine (behind_any _ _ w' s1 s2 s3).mono ?_
          rintro e w2 ⟨rfl, hb⟩
          exact ⟨_, rfl, hK _ _ hb rfl⟩
        · intro ac w' hF hL hP hU K hK
          have hB := below_undrew hL
          have e3 : ac.eval (.tmp 3) = .pointer (some ⟨B3, 0, none⟩) := hF.at 3 (by kernel_rfl)
          exact rop_fld _ _ _ rfl e3 (fld_run0 _ _ _) (wanted_none rfl) (hK _ _ (le8_refl _) rfl)
        · intro ac w' hF hL hP hU K hK
          have hB := below_undrew hL
          have e19 : ac.eval (.tmp 19) = .pointer (some ⟨B3, 0, none⟩) := hP 2 (by kernel_rfl)
          exact rop_ld _ _ rfl e19 (load_int (x3.old hB).c0) (wanted_none rfl) (hK _ _ (le8_refl _) rfl)
        · intro ac w' hF hL hP hU K hK
          have hB := below_undrew hL
          have e18 : ac.eval (.tmp 18) = .int .i64 (x + m) := hP 1 (by kernel_rfl)
          have e20 : ac.eval (.tmp 20) = .int .i64 a := hP 3 (by kernel_rfl)
          exact rop_bin _ _ _ _ _ rfl e18 e20 (guard_int _ _ _ _ _ _ _ w') (lss_i _ _ _ (decide_eq_true c1) w') (wanted_none rfl) (hK _ _ (le8_refl _) rfl)
        · intro ac w' hF hL hP hU K hK
          have hB := below_undrew hL
          have e21 : ac.eval (.tmp 21) = .bool true := hP 4 (by kernel_rfl)
          exact rop_assign _ rfl e21 (wanted_none rfl) (hK _ _ (le8_refl _) rfl)
        · intro ac w' hF hB hT
          have e16 : ac.eval (.tmp 16) = .bool true := hT 5 (by decide)
          rw [hF.lit 48 rfl]
          simp only [List.range, List.range.loop, List.map_cons, List.map_nil, e16, hF.at 0 (by kernel_rfl), hF.at 1 (by kernel_rfl), hF.at 2 (by kernel_rfl), hF.at 3 (by kernel_rfl), hF.at 4 (by kernel_rfl), hF.at 5 (by kernel_rfl), hF.at 6 (by kernel_rfl), hF.at 7 (by kernel_rfl), hF.at 8 (by kernel_rfl), hF.at 9 (by kernel_rfl), hF.at 10 (by kernel_rfl), hF.at 11 (by kernel_rfl), hF.at 12 (by kernel_rfl), hF.at 13 (by kernel_rfl), hF.at 14 (by kernel_rfl), hF.at 15 (by kernel_rfl), hF.at 22 (by kernel_rfl), hF.at 23 (by kernel_rfl), hF.at 24 (by kernel_rfl), hF.at 25 (by kernel_rfl), hF.at 26 (by kernel_rfl), hF.at 27 (by kernel_rfl), hF.at 28 (by kernel_rfl), hF.at 29 (by kernel_rfl), hF.at 30 (by kernel_rfl), hF.at 31 (by kernel_rfl), hF.at 32 (by kernel_rfl), hF.at 33 (by kernel_rfl), hF.at 34 (by kernel_rfl), hF.at 35 (by kernel_rfl), hF.at 36 (by kernel_rfl), hF.at 37 (by kernel_rfl), hF.at 38 (by kernel_rfl), hF.at 39 (by kernel_rfl), hF.at 40 (by kernel_rfl), hF.at 41 (by kernel_rfl), hF.at 42 (by kernel_rfl), hF.at 43 (by kernel_rfl), hF.at 44 (by kernel_rfl), hF.at 45 (by kernel_rfl), hF.at 46 (by kernel_rfl), hF.at 47 (by kernel_rfl)]
          generalize ac.eval (.tmp 17) = u17
          generalize ac.eval (.tmp 18) = u18
          generalize ac.eval (.tmp 19) = u19
          generalize ac.eval (.tmp 20) = u20
          generalize ac.eval (.tmp 21) = u21
          simp only [Act.eval, Array.getD_eq_getD_getElem?, List.getElem?_toArray, List.getElem?_cons_succ, List.getElem?_cons_zero, Option.getD_some]
          clear e16 hT hF ac
          replace x3 := x3.old hB
          replace x8 := x8.old hB
          replace hb := below_step hb (Nat.le_refl _) hB
          replace hbw := below_step hbw (Nat.le_refl _) hB
          replace hrun := hrun.old hB
          clear hB
          go_wp2
          go_roundw
          case rel =>
            refine ⟨k + 1, k + 1, k + 1, by omega, by go_num, by go_num, by go_num, by omega, by omega, ?_, ?_⟩
            · rw [HC.out, HD.out, bs, if_pos (show (x, m).1 + (x, m).2 < (a, n).1 from c1)]
            · exact hbw
          case measure => simp [intOf]; omega
      · by_cases c2 : a + n < x
        ·
          try simp only [Act.put]
          refine wp_region_tab [RT.is (.agg #[.int .i64 x, .int .i64 m]), RT.is (.int .i64 (x + m)), RT.is (.pointer (some ⟨B3, 0, none⟩)), RT.is (.int .i64 a), RT.is (.bool false), RT.is (.bool false)] (by kernel_rfl) (by kernel_rfl) (by kernel_rfl) (by kernel_rfl) ⟨?_, ?_, ?_, ?_, ?_, ?_, trivial⟩ ?_
          · intro ac w' hF hL hP hU K hK
            have hB := below_undrew hL
            have e8 : ac.eval (.tmp 8) = .pointer (some ⟨B8, 0, none⟩) := hF.at 8 (by kernel_rfl)
            exact rop_ld _ _ rfl e8 (load_run (x8.old hB).c0 (x8.old hB).c1) (wanted_none rfl) (hK _ _ (le8_refl _) rfl)
          · intro ac w' hF hL hP hU K hK
            have hB := below_undrew hL
            have e17 : ac.eval (.tmp 17) = .agg #[.int .i64 x, .int .i64 m] := hP 0 (by kernel_rfl)
            refine rop_call 39 _ _ rfl #[.agg #[.int .i64 x, .int .i64 m]] (by simp [e17]) (by kernel_rfl) (wanted_none rfl) ?_
            refine (behind_any _ _ w' s1 s2 s3).mono ?_
            rintro e w2 ⟨rfl, hb⟩
            exact ⟨_, rfl, hK _ _ hb rfl⟩
          · intro ac w' hF hL hP hU K hK
            have hB := below_undrew hL
            have e3 : ac.eval (.tmp 3) = .pointer (some ⟨B3, 0, none⟩) := hF.at 3 (by kernel_rfl)
            exact rop_fld _ _ _ rfl e3 (fld_run0 _ _ _) (wanted_none rfl) (hK _ _ (le8_refl _) rfl)
          · intro ac w' hF hL hP hU K hK
            have hB := below_undrew hL
            have e19 : ac.eval (.tmp 19) = .pointer (some ⟨B3, 0, none⟩) := hP 2 (by kernel_rfl)
            exact rop_ld _ _ rfl e19 (load_int (x3.old hB).c0) (wanted_none rfl) (hK _ _ (le8_refl _) rfl)
          · intro ac w' hF hL hP hU K hK
            have hB := below_undrew hL
            have e18 : ac.eval (.tmp 18) = .int .i64 (x + m) := hP 1 (by kernel_rfl)
            have e20 : ac.eval (.tmp 20) = .int .i64 a := hP 3 (by kernel_rfl)
            exact rop_bin _ _ _ _ _ rfl e18 e20 (guard_int _ _ _ _ _ _ _ w') (lss_i _ _ _ (decide_eq_false (show ¬ x + m < a by omega)) w') (wanted_none rfl) (hK _ _ (le8_refl _) rfl)
          · intro ac w' hF hL hP hU K hK
            have hB := below_undrew hL
            have e21 : ac.eval (.tmp 21) = .bool false := hP 4 (by kernel_rfl)
            exact rop_assign _ rfl e21 (wanted_none rfl) (hK _ _ (le8_refl _) rfl)
          · intro ac w' hF hB hT
            have e16 : ac.eval (.tmp 16) = .bool false := hT 5 (by decide)
            rw [hF.lit 48 rfl]
            simp only [List.range, List.range.loop, List.map_cons, List.map_nil, e16, hF.at 0 (by kernel_rfl), hF.at 1 (by kernel_rfl), hF.at 2 (by kernel_rfl), hF.at 3 (by kernel_rfl), hF.at 4 (by kernel_rfl), hF.at 5 (by kernel_rfl), hF.at 6 (by kernel_rfl), hF.at 7 (by kernel_rfl), hF.at 8 (by kernel_rfl), hF.at 9 (by kernel_rfl), hF.at 10 (by kernel_rfl), hF.at 11 (by kernel_rfl), hF.at 12 (by kernel_rfl), hF.at 13 (by kernel_rfl), hF.at 14 (by kernel_rfl), hF.at 15 (by kernel_rfl), hF.at 22 (by kernel_rfl), hF.at 23 (by kernel_rfl), hF.at 24 (by kernel_rfl), hF.at 25 (by kernel_rfl), hF.at 26 (by kernel_rfl), hF.at 27 (by kernel_rfl), hF.at 28 (by kernel_rfl), hF.at 29 (by kernel_rfl), hF.at 30 (by kernel_rfl), hF.at 31 (by kernel_rfl), hF.at 32 (by kernel_rfl), hF.at 33 (by kernel_rfl), hF.at 34 (by kernel_rfl), hF.at 35 (by kernel_rfl), hF.at 36 (by kernel_rfl), hF.at 37 (by kernel_rfl), hF.at 38 (by kernel_rfl), hF.at 39 (by kernel_rfl), hF.at 40 (by kernel_rfl), hF.at 41 (by kernel_rfl), hF.at 42 (by kernel_rfl), hF.at 43 (by kernel_rfl), hF.at 44 (by kernel_rfl), hF.at 45 (by kernel_rfl), hF.at 46 (by kernel_rfl), hF.at 47 (by kernel_rfl)]
            generalize ac.eval (.tmp 17) = u17
            generalize ac.eval (.tmp 18) = u18
            generalize ac.eval (.tmp 19) = u19
            generalize ac.eval (.tmp 20) = u20
            generalize ac.eval (.tmp 21) = u21
            simp only [Act.eval, Array.getD_eq_getD_getElem?, List.getElem?_toArray, List.getElem?_cons_succ, List.getElem?_cons_zero, Option.getD_some]
            clear e16 hT hF ac
            replace x3 := x3.old hB
            replace x8 := x8.old hB
            replace hb := below_step hb (Nat.le_refl _) hB
            replace hbw := below_step hbw (Nat.le_refl _) hB
            replace hrun := hrun.old hB
            clear hB
            go_wp2
            try simp only [Act.put]
            refine wp_region_tab [RT.is (.agg #[.int .i64 a, .int .i64 n]), RT.is (.int .i64 (a + n)), RT.is (.pointer (some ⟨B8, 0, none⟩)), RT.is (.int .i64 x), RT.is (.bool true), RT.is (.bool true)] (by kernel_rfl) (by kernel_rfl) (by kernel_rfl) (by kernel_rfl) ⟨?_, ?_, ?_, ?_, ?_, ?_, trivial⟩ ?_
            · intro ac w' hF hL hP hU K hK
              have hB := below_undrew hL
              have e3 : ac.eval (.tmp 3) = .pointer (some ⟨B3, 0, none⟩) := hF.at 3 (by kernel_rfl)
              exact rop_ld _ _ rfl e3 (load_run (x3.old hB).c0 (x3.old hB).c1) (wanted_none rfl) (hK _ _ (le8_refl _) rfl)
            · intro ac w' hF hL hP hU K hK
              have hB := below_undrew hL
              have e27 : ac.eval (.tmp 27) = .agg #[.int .i64 a, .int .i64 n] := hP 0 (by kernel_rfl)
              refine rop_call 39 _ _ rfl #[.agg #[.int .i64 a, .int .i64 n]] (by simp [e27]) (by kernel_rfl) (wanted_none rfl) ?_
              refine (behind_any _ _ w' h1 h2 h3).mono ?_
              rintro e w2 ⟨rfl, hb⟩
              exact ⟨_, rfl, hK _ _ hb rfl⟩
            · intro ac w' hF hL hP hU K hK
              have hB := below_undrew hL
              have e8 : ac.eval (.tmp 8) = .pointer (some ⟨B8, 0, none⟩) := hF.at 8 (by kernel_rfl)
              exact rop_fld _ _ _ rfl e8 (fld_run0 _ _ _) (wanted_none rfl) (hK _ _ (le8_refl _) rfl)
            · intro ac w' hF hL hP hU K hK
              have hB := below_undrew hL
              have e29 : ac.eval (.tmp 29) = .pointer (some ⟨B8, 0, none⟩) := hP 2 (by kernel_rfl)
              exact rop_ld _ _ rfl e29 (load_int (x8.old hB).c0) (wanted_none rfl) (hK _ _ (le8_refl _) rfl)
            · intro ac w' hF hL hP hU K hK
              have hB := below_undrew hL
              have e28 : ac.eval (.tmp 28) = .int .i64 (a + n) := hP 1 (by kernel_rfl)
              have e30 : ac.eval (.tmp 30) = .int .i64 x := hP 3 (by kernel_rfl)
              exact rop_bin _ _ _ _ _ rfl e28 e30 (guard_int _ _ _ _ _ _ _ w') (lss_i _ _ _ (decide_eq_true c2) w') (wanted_none rfl) (hK _ _ (le8_refl _) rfl)
            · intro ac w' hF hL hP hU K hK
              have hB := below_undrew hL
              have e31 : ac.eval (.tmp 31) = .bool true := hP 4 (by kernel_rfl)
              exact rop_assign _ rfl e31 (wanted_none rfl) (hK _ _ (le8_refl _) rfl)
            · intro ac w' hF hB hT
              have e26 : ac.eval (.tmp 26) = .bool true := hT 5 (by decide)
              rw [hF.lit 48 rfl]
              simp only [List.range, List.range.loop, List.map_cons, List.map_nil, e26, hF.at 0 (by kernel_rfl), hF.at 1 (by kernel_rfl), hF.at 2 (by kernel_rfl), hF.at 3 (by kernel_rfl), hF.at 4 (by kernel_rfl), hF.at 5 (by kernel_rfl), hF.at 6 (by kernel_rfl), hF.at 7 (by kernel_rfl), hF.at 8 (by kernel_rfl), hF.at 9 (by kernel_rfl), hF.at 10 (by kernel_rfl), hF.at 11 (by kernel_rfl), hF.at 12 (by kernel_rfl), hF.at 13 (by kernel_rfl), hF.at 14 (by kernel_rfl), hF.at 15 (by kernel_rfl), hF.at 16 (by kernel_rfl), hF.at 17 (by kernel_rfl), hF.at 18 (by kernel_rfl), hF.at 19 (by kernel_rfl), hF.at 20 (by kernel_rfl), hF.at 21 (by kernel_rfl), hF.at 22 (by kernel_rfl), hF.at 23 (by kernel_rfl), hF.at 24 (by kernel_rfl), hF.at 25 (by kernel_rfl), hF.at 32 (by kernel_rfl), hF.at 33 (by kernel_rfl), hF.at 34 (by kernel_rfl), hF.at 35 (by kernel_rfl), hF.at 36 (by kernel_rfl), hF.at 37 (by kernel_rfl), hF.at 38 (by kernel_rfl), hF.at 39 (by kernel_rfl), hF.at 40 (by kernel_rfl), hF.at 41 (by kernel_rfl), hF.at 42 (by kernel_rfl), hF.at 43 (by kernel_rfl), hF.at 44 (by kernel_rfl), hF.at 45 (by kernel_rfl), hF.at 46 (by kernel_rfl), hF.at 47 (by kernel_rfl)]
              generalize ac.eval (.tmp 27) = u27
              generalize ac.eval (.tmp 28) = u28
              generalize ac.eval (.tmp 29) = u29
              generalize ac.eval (.tmp 30) = u30
              generalize ac.eval (.tmp 31) = u31
              simp only [Act.eval, Array.getD_eq_getD_getElem?, List.getElem?_toArray, List.getElem?_cons_succ, List.getElem?_cons_zero, Option.getD_some]
              clear e26 hT hF ac
              replace x3 := x3.old hB
              replace x8 := x8.old hB
              replace hb := below_step hb (Nat.le_refl _) hB
              replace hbw := below_step hbw (Nat.le_refl _) hB
              replace hrun := hrun.old hB
              clear hB
              go_wp2
              try rw [Exit.noGoto_ret]
              exact bodyPost_ret (v := .tuple #[.int .i64 f, .int .i64 t, .bool true]) (by simp [results, Try.results34, go_sem]) rfl ⟨by rw [HC.out, HD.out, bs, if_neg (show ¬ (x, m).1 + (x, m).2 < (a, n).1 from by simp only; omega), if_pos (show (a, n).1 + (a, n).2 < (x, m).1 from c2)]; rfl, hb⟩
        · by_cases c3 : x + m = a
          ·
            try simp only [Act.put]
            refine wp_region_tab [RT.is (.agg #[.int .i64 x, .int .i64 m]), RT.is (.int .i64 (x + m)), RT.is (.pointer (some ⟨B3, 0, none⟩)), RT.is (.int .i64 a), RT.is (.bool false), RT.is (.bool false)] (by kernel_rfl) (by kernel_rfl) (by kernel_rfl) (by kernel_rfl) ⟨?_, ?_, ?_, ?_, ?_, ?_, trivial⟩ ?_
            · intro ac w' hF hL hP hU K hK
              have hB := below_undrew hL
              have e8 : ac.eval (.tmp 8) = .pointer (some ⟨B8, 0, none⟩) := hF.at 8 (by kernel_rfl)
              exact rop_ld _ _ rfl e8 (load_run (x8.old hB).c0 (x8.old hB).c1) (wanted_none rfl) (hK _ _ (le8_refl _) rfl)
            · intro ac w' hF hL hP hU K hK
              have hB := below_undrew hL
              have e17 : ac.eval (.tmp 17) = .agg #[.int .i64 x, .int .i64 m] := hP 0 (by kernel_rfl)
              refine rop_call 39 _ _ rfl #[.agg #[.int .i64 x, .int .i64 m]] (by simp [e17]) (by kernel_rfl) (wanted_none rfl) ?_
              refine (behind_any _ _ w' s1 s2 s3).mono ?_
              rintro e w2 ⟨rfl, hb⟩
              exact ⟨_, rfl, hK _ _ hb rfl⟩
            · intro ac w' hF hL hP hU K hK
              have hB := below_undrew hL
              have e3 : ac.eval (.tmp 3) = .pointer (some ⟨B3, 0, none⟩) := hF.at 3 (by kernel_rfl)
              exact rop_fld _ _ _ rfl e3 (fld_run0 _ _ _) (wanted_none rfl) (hK _ _ (le8_refl _) rfl)
            · intro ac w' hF hL hP hU K hK
              have hB := below_undrew hL
              have e19 : ac.eval (.tmp 19) = .pointer (some ⟨B3, 0, none⟩) := hP 2 (by kernel_rfl)
              exact rop_ld _ _ rfl e19 (load_int (x3.old hB).c0) (wanted_none rfl) (hK _ _ (le8_refl _) rfl)
            · intro ac w' hF hL hP hU K hK
              have hB := below_undrew hL
              have e18 : ac.eval (.tmp 18) = .int .i64 (x + m) := hP 1 (by kernel_rfl)
              have e20 : ac.eval (.tmp 20) = .int .i64 a := hP 3 (by kernel_rfl)
              exact rop_bin _ _ _ _ _ rfl e18 e20 (guard_int _ _ _ _ _ _ _ w') (lss_i _ _ _ (decide_eq_false (show ¬ x + m < a by omega)) w') (wanted_none rfl) (hK _ _ (le8_refl _) rfl)
            · intro ac w' hF hL hP hU K hK
              have hB := below_undrew hL
              have e21 : ac.eval (.tmp 21) = .bool false := hP 4 (by kernel_rfl)
              exact rop_assign _ rfl e21 (wanted_none rfl) (hK _ _ (le8_refl _) rfl)
            · intro ac w' hF hB hT
              have e16 : ac.eval (.tmp 16) = .bool false := hT 5 (by decide)
              rw [hF.lit 48 rfl]
              simp only [List.range, List.range.loop, List.map_cons, List.map_nil, e16, hF.at 0 (by kernel_rfl), hF.at 1 (by kernel_rfl), hF.at 2 (by kernel_rfl), hF.at 3 (by kernel_rfl), hF.at 4 (by kernel_rfl), hF.at 5 (by kernel_rfl), hF.at 6 (by kernel_rfl), hF.at 7 (by kernel_rfl), hF.at 8 (by kernel_rfl), hF.at 9 (by kernel_rfl), hF.at 10 (by kernel_rfl), hF.at 11 (by kernel_rfl), hF.at 12 (by kernel_rfl), hF.at 13 (by kernel_rfl), hF.at 14 (by kernel_rfl), hF.at 15 (by kernel_rfl), hF.at 22 (by kernel_rfl), hF.at 23 (by kernel_rfl), hF.at 24 (by kernel_rfl), hF.at 25 (by kernel_rfl), hF.at 26 (by kernel_rfl), hF.at 27 (by kernel_rfl), hF.at 28 (by kernel_rfl), hF.at 29 (by kernel_rfl), hF.at 30 (by kernel_rfl), hF.at 31 (by kernel_rfl), hF.at 32 (by kernel_rfl), hF.at 33 (by kernel_rfl), hF.at 34 (by kernel_rfl), hF.at 35 (by kernel_rfl), hF.at 36 (by kernel_rfl), hF.at 37 (by kernel_rfl), hF.at 38 (by kernel_rfl), hF.at 39 (by kernel_rfl), hF.at 40 (by kernel_rfl), hF.at 41 (by kernel_rfl), hF.at 42 (by kernel_rfl), hF.at 43 (by kernel_rfl), hF.at 44 (by kernel_rfl), hF.at 45 (by kernel_rfl), hF.at 46 (by kernel_rfl), hF.at 47 (by kernel_rfl)]
              generalize ac.eval (.tmp 17) = u17
              generalize ac.eval (.tmp 18) = u18
              generalize ac.eval (.tmp 19) = u19
              generalize ac.eval (.tmp 20) = u20
              generalize ac.eval (.tmp 21) = u21
              simp only [Act.eval, Array.getD_eq_getD_getElem?, List.getElem?_toArray, List.getElem?_cons_succ, List.getElem?_cons_zero, Option.getD_some]
              clear e16 hT hF ac
              replace x3 := x3.old hB
              replace x8 := x8.old hB
              replace hb := below_step hb (Nat.le_refl _) hB
              replace hbw := below_step hbw (Nat.le_refl _) hB
              replace hrun := hrun.old hB
              clear hB
              go_wp2
              try simp only [Act.put]
              refine wp_region_tab [RT.is (.agg #[.int .i64 a, .int .i64 n]), RT.is (.int .i64 (a + n)), RT.is (.pointer (some ⟨B8, 0, none⟩)), RT.is (.int .i64 x), RT.is (.bool false), RT.is (.bool false)] (by kernel_rfl) (by kernel_rfl) (by kernel_rfl) (by kernel_rfl) ⟨?_, ?_, ?_, ?_, ?_, ?_, trivial⟩ ?_
              · intro ac w' hF hL hP hU K hK
                have hB := below_undrew hL
                have e3 : ac.eval (.tmp 3) = .pointer (some ⟨B3, 0, none⟩) := hF.at 3 (by kernel_rfl)
                exact rop_ld _ _ rfl e3 (load_run (x3.old hB).c0 (x3.old hB).c1) (wanted_none rfl) (hK _ _ (le8_refl _) rfl)
              · intro ac w' hF hL hP hU K hK
                have hB := below_undrew hL
                have e27 : ac.eval (.tmp 27) = .agg #[.int .i64 a, .int .i64 n] := hP 0 (by kernel_rfl)
                refine rop_call 39 _ _ rfl #[.agg #[.int .i64 a, .int .i64 n]] (by simp [e27]) (by kernel_rfl) (wanted_none rfl) ?_
                refine (behind_any _ _ w' h1 h2 h3).mono ?_
                rintro e w2 ⟨rfl, hb⟩
                exact ⟨_, rfl, hK _ _ hb rfl⟩
              · intro ac w' hF hL hP hU K hK
                have hB := below_undrew hL
                have e8 : ac.eval (.tmp 8) = .pointer (some ⟨B8, 0, none⟩) := hF.at 8 (by kernel_rfl)
                exact rop_fld _ _ _ rfl e8 (fld_run0 _ _ _) (wanted_none rfl) (hK _ _ (le8_refl _) rfl)
              · intro ac w' hF hL hP hU K hK
                have hB := below_undrew hL
                have e29 : ac.eval (.tmp 29) = .pointer (some ⟨B8, 0, none⟩) := hP 2 (by kernel_rfl)
                exact rop_ld _ _ rfl e29 (load_int (x8.old hB).c0) (wanted_none rfl) (hK _ _ (le8_refl _) rfl)
              · intro ac w' hF hL hP hU K hK
                have hB := below_undrew hL
                have e28 : ac.eval (.tmp 28) = .int .i64 (a + n) := hP 1 (by kernel_rfl)
                have e30 : ac.eval (.tmp 30) = .int .i64 x := hP 3 (by kernel_rfl)
                exact rop_bin _ _ _ _ _ rfl e28 e30 (guard_int _ _ _ _ _ _ _ w') (lss_i _ _ _ (decide_eq_false (show ¬ a + n < x by omega)) w') (wanted_none rfl) (hK _ _ (le8_refl _) rfl)
              · intro ac w' hF hL hP hU K hK
                have hB := below_undrew hL
                have e31 : ac.eval (.tmp 31) = .bool false := hP 4 (by kernel_rfl)
                exact rop_assign _ rfl e31 (wanted_none rfl) (hK _ _ (le8_refl _) rfl)
              · intro ac w' hF hB hT
                have e26 : ac.eval (.tmp 26) = .bool false := hT 5 (by decide)
                rw [hF.lit 48 rfl]
                simp only [List.range, List.range.loop, List.map_cons, List.map_nil, e26, hF.at 0 (by kernel_rfl), hF.at 1 (by kernel_rfl), hF.at 2 (by kernel_rfl), hF.at 3 (by kernel_rfl), hF.at 4 (by kernel_rfl), hF.at 5 (by kernel_rfl), hF.at 6 (by kernel_rfl), hF.at 7 (by kernel_rfl), hF.at 8 (by kernel_rfl), hF.at 9 (by kernel_rfl), hF.at 10 (by kernel_rfl), hF.at 11 (by kernel_rfl), hF.at 12 (by kernel_rfl), hF.at 13 (by kernel_rfl), hF.at 14 (by kernel_rfl), hF.at 15 (by kernel_rfl), hF.at 16 (by kernel_rfl), hF.at 17 (by kernel_rfl), hF.at 18 (by kernel_rfl), hF.at 19 (by kernel_rfl), hF.at 20 (by kernel_rfl), hF.at 21 (by kernel_rfl), hF.at 22 (by kernel_rfl), hF.at 23 (by kernel_rfl), hF.at 24 (by kernel_rfl), hF.at 25 (by kernel_rfl), hF.at 32 (by kernel_rfl), hF.at 33 (by kernel_rfl), hF.at 34 (by kernel_rfl), hF.at 35 (by kernel_rfl), hF.at 36 (by kernel_rfl), hF.at 37 (by kernel_rfl), hF.at 38 (by kernel_rfl), hF.at 39 (by kernel_rfl), hF.at 40 (by kernel_rfl), hF.at 41 (by kernel_rfl), hF.at 42 (by kernel_rfl), hF.at 43 (by kernel_rfl), hF.at 44 (by kernel_rfl), hF.at 45 (by kernel_rfl), hF.at 46 (by kernel_rfl), hF.at 47 (by kernel_rfl)]
                generalize ac.eval (.tmp 27) = u27
                generalize ac.eval (.tmp 28) = u28
                generalize ac.eval (.tmp 29) = u29
                generalize ac.eval (.tmp 30) = u30
                generalize ac.eval (.tmp 31) = u31
                simp only [Act.eval, Array.getD_eq_getD_getElem?, List.getElem?_toArray, List.getElem?_cons_succ, List.getElem?_cons_zero, Option.getD_some]
                clear e26 hT hF ac
                replace x3 := x3.old hB
                replace x8 := x8.old hB
                replace hb := below_step hb (Nat.le_refl _) hB
                replace hbw := below_step hbw (Nat.le_refl _) hB
                replace hrun := hrun.old hB
                clear hB
                go_wp2
                try simp only [Act.put]
                refine wp_region_tab [RT.is (.agg #[.int .i64 x, .int .i64 m]), RT.is (.int .i64 (x + m)), RT.is (.pointer (some ⟨B3, 0, none⟩)), RT.is (.int .i64 a), RT.is (.bool true), RT.is (.bool true)] (by kernel_rfl) (by kernel_rfl) (by kernel_rfl) (by kernel_rfl) ⟨?_, ?_, ?_, ?_, ?_, ?_, trivial⟩ ?_
                · intro ac w' hF hL hP hU K hK
                  have hB := below_undrew hL
                  have e8 : ac.eval (.tmp 8) = .pointer (some ⟨B8, 0, none⟩) := hF.at 8 (by kernel_rfl)
                  exact rop_ld _ _ rfl e8 (load_run (x8.old hB).c0 (x8.old hB).c1) (wanted_none rfl) (hK _ _ (le8_refl _) rfl)
                · intro ac w' hF hL hP hU K hK
                  have hB := below_undrew hL
                  have e33 : ac.eval (.tmp 33) = .agg #[.int .i64 x, .int .i64 m] := hP 0 (by kernel_rfl)
                  refine rop_call 39 _ _ rfl #[.agg #[.int .i64 x, .int .i64 m]] (by simp [e33]) (by kernel_rfl) (wanted_none rfl) ?_
                  refine (behind_any _ _ w' s1 s2 s3).mono ?_
                  rintro e w2 ⟨rfl, hb⟩
                  exact ⟨_, rfl, hK _ _ hb rfl⟩
                · intro ac w' hF hL hP hU K hK
                  have hB := below_undrew hL
                  have e3 : ac.eval (.tmp 3) = .pointer (some ⟨B3, 0, none⟩) := hF.at 3 (by kernel_rfl)
                  exact rop_fld _ _ _ rfl e3 (fld_run0 _ _ _) (wanted_none rfl) (hK _ _ (le8_refl _) rfl)
                · intro ac w' hF hL hP hU K hK
                  have hB := below_undrew hL
                  have e35 : ac.eval (.tmp 35) = .pointer (some ⟨B3, 0, none⟩) := hP 2 (by kernel_rfl)
                  exact rop_ld _ _ rfl e35 (load_int (x3.old hB).c0) (wanted_none rfl) (hK _ _ (le8_refl _) rfl)
                · intro ac w' hF hL hP hU K hK
                  have hB := below_undrew hL
                  have e34 : ac.eval (.tmp 34) = .int .i64 (x + m) := hP 1 (by kernel_rfl)
                  have e36 : ac.eval (.tmp 36) = .int .i64 a := hP 3 (by kernel_rfl)
                  exact rop_bin _ _ _ _ _ rfl e34 e36 (guard_int _ _ _ _ _ _ _ w') (eql_i _ _ _ (decide_eq_true c3) w') (wanted_none rfl) (hK _ _ (le8_refl _) rfl)
                · intro ac w' hF hL hP hU K hK
                  have hB := below_undrew hL
                  have e37 : ac.eval (.tmp 37) = .bool true := hP 4 (by kernel_rfl)
                  exact rop_assign _ rfl e37 (wanted_none rfl) (hK _ _ (le8_refl _) rfl)
                · intro ac w' hF hB hT
                  have e32 : ac.eval (.tmp 32) = .bool true := hT 5 (by decide)
                  rw [hF.lit 48 rfl]
                  simp only [List.range, List.range.loop, List.map_cons, List.map_nil, e32, hF.at 0 (by kernel_rfl), hF.at 1 (by kernel_rfl), hF.at 2 (by kernel_rfl), hF.at 3 (by kernel_rfl), hF.at 4 (by kernel_rfl), hF.at 5 (by kernel_rfl), hF.at 6 (by kernel_rfl), hF.at 7 (by kernel_rfl), hF.at 8 (by kernel_rfl), hF.at 9 (by kernel_rfl), hF.at 10 (by kernel_rfl), hF.at 11 (by kernel_rfl), hF.at 12 (by kernel_rfl), hF.at 13 (by kernel_rfl), hF.at 14 (by kernel_rfl), hF.at 15 (by kernel_rfl), hF.at 16 (by kernel_rfl), hF.at 17 (by kernel_rfl), hF.at 18 (by kernel_rfl), hF.at 19 (by kernel_rfl), hF.at 20 (by kernel_rfl), hF.at 21 (by kernel_rfl), hF.at 22 (by kernel_rfl), hF.at 23 (by kernel_rfl), hF.at 24 (by kernel_rfl), hF.at 25 (by kernel_rfl), hF.at 26 (by kernel_rfl), hF.at 27 (by kernel_rfl), hF.at 28 (by kernel_rfl), hF.at 29 (by kernel_rfl), hF.at 30 (by kernel_rfl), hF.at 31 (by kernel_rfl), hF.at 38 (by kernel_rfl), hF.at 39 (by kernel_rfl), hF.at 40 (by kernel_rfl), hF.at 41 (by kernel_rfl), hF.at 42 (by kernel_rfl), hF.at 43 (by kernel_rfl), hF.at 44 (by kernel_rfl), hF.at 45 (by kernel_rfl), hF.at 46 (by kernel_rfl), hF.at 47 (by kernel_rfl)]
                  generalize ac.eval (.tmp 33) = u33
                  generalize ac.eval (.tmp 34) = u34
                  generalize ac.eval (.tmp 35) = u35
                  generalize ac.eval (.tmp 36) = u36
                  generalize ac.eval (.tmp 37) = u37
                  simp only [Act.eval, Array.getD_eq_getD_getElem?, List.getElem?_toArray, List.getElem?_cons_succ, List.getElem?_cons_zero, Option.getD_some]
                  clear e32 hT hF ac
                  replace x3 := x3.old hB
                  replace x8 := x8.old hB
                  replace hb := below_step hb (Nat.le_refl _) hB
                  replace hbw := below_step hbw (Nat.le_refl _) hB
                  replace hrun := hrun.old hB
                  clear hB
                  go_wp2
                  go_roundw
                  case rel =>
                    refine ⟨k + 1, f, k + 1, by omega, by go_num, rfl, by go_num, by omega, by omega, ?_, ?_⟩
                    · rw [HC.out, HD.out, bs, if_neg (show ¬ (x, m).1 + (x, m).2 < (a, n).1 from by simp only; omega), if_neg (show ¬ (a, n).1 + (a, n).2 < (x, m).1 from by simp only; omega), if_pos (show (x, m).1 + (x, m).2 = (a, n).1 ∨ (a, n).1 + (a, n).2 = (x, m).1 from .inl c3)]
                    · exact hbw
                  case measure => simp [intOf]; omega
          · by_cases c4 : a + n = x
            ·
              try simp only [Act.put]
              refine wp_region_tab [RT.is (.agg #[.int .i64 x, .int .i64 m]), RT.is (.int .i64 (x + m)), RT.is (.pointer (some ⟨B3, 0, none⟩)), RT.is (.int .i64 a), RT.is (.bool false), RT.is (.bool false)] (by kernel_rfl) (by kernel_rfl) (by kernel_rfl) (by kernel_rfl) ⟨?_, ?_, ?_, ?_, ?_, ?_, trivial⟩ ?_
              · intro ac w' hF hL hP hU K hK
                have hB := below_undrew hL
                have e8 : ac.eval (.tmp 8) = .pointer (some ⟨B8, 0, none⟩) := hF.at 8 (by kernel_rfl)
                exact rop_ld _ _ rfl e8 (load_run (x8.old hB).c0 (x8.old hB).c1) (wanted_none rfl) (hK _ _ (le8_refl _) rfl)
              · intro ac w' hF hL hP hU K hK
                have hB := below_undrew hL
                have e17 : ac.eval (.tmp 17) = .agg #[.int .i64 x, .int .i64 m] := hP 0 (by kernel_rfl)
                refine rop_call 39 _ _ rfl #[.agg #[.int .i64 x, .int .i64 m]] (by simp [e17]) (by kernel_rfl) (wanted_none rfl) ?_
                refine (behind_any _ _ w' s1 s2 s3).mono ?_
                rintro e w2 ⟨rfl, hb⟩
                exact ⟨_, rfl, hK _ _ hb rfl⟩
              · intro ac w' hF hL hP hU K hK
                have hB := below_undrew hL
                have e3 : ac.eval (.tmp 3) = .pointer (some ⟨B3, 0, none⟩) := hF.at 3 (by kernel_rfl)
                exact rop_fld _ _ _ rfl e3 (fld_run0 _ _ _) (wanted_none rfl) (hK _ _ (le8_refl _) rfl)
              · intro ac w' hF hL hP hU K hK
                have hB := below_undrew hL
                have e19 : ac.eval (.tmp 19) = .pointer (some ⟨B3, 0, none⟩) := hP 2 (by kernel_rfl)
                exact rop_ld _ _ rfl e19 (load_int (x3.old hB).c0) (wanted_none rfl) (hK _ _ (le8_refl _) rfl)
              · intro ac w' hF hL hP hU K hK
                have hB := below_undrew hL
                have e18 : ac.eval (.tmp 18) = .int .i64 (x + m) := hP 1 (by kernel_rfl)
                have e20 : ac.eval (.tmp 20) = .int .i64 a := hP 3 (by kernel_rfl)
                exact rop_bin _ _ _ _ _ rfl e18 e20 (guard_int _ _ _ _ _ _ _ w') (lss_i _ _ _ (decide_eq_false (show ¬ x + m < a by omega)) w') (wanted_none rfl) (hK _ _ (le8_refl _) rfl)
              · intro ac w' hF hL hP hU K hK
                have hB := below_undrew hL
                have e21 : ac.eval (.tmp 21) = .bool false := hP 4 (by kernel_rfl)
                exact rop_assign _ rfl e21 (wanted_none rfl) (hK _ _ (le8_refl _) rfl)
              · intro ac w' hF hB hT
                have e16 : ac.eval (.tmp 16) = .bool false := hT 5 (by decide)
                rw [hF.lit 48 rfl]
                simp only [List.range, List.range.loop, List.map_cons, List.map_nil, e16, hF.at 0 (by kernel_rfl), hF.at 1 (by kernel_rfl), hF.at 2 (by kernel_rfl), hF.at 3 (by kernel_rfl), hF.at 4 (by kernel_rfl), hF.at 5 (by kernel_rfl), hF.at 6 (by kernel_rfl), hF.at 7 (by kernel_rfl), hF.at 8 (by kernel_rfl), hF.at 9 (by kernel_rfl), hF.at 10 (by kernel_rfl), hF.at 11 (by kernel_rfl), hF.at 12 (by kernel_rfl), hF.at 13 (by kernel_rfl), hF.at 14 (by kernel_rfl), hF.at 15 (by kernel_rfl), hF.at 22 (by kernel_rfl), hF.at 23 (by kernel_rfl), hF.at 24 (by kernel_rfl), hF.at 25 (by kernel_rfl), hF.at 26 (by kernel_rfl), hF.at 27 (by kernel_rfl), hF.at 28 (by kernel_rfl), hF.at 29 (by kernel_rfl), hF.at 30 (by kernel_rfl), hF.at 31 (by kernel_rfl), hF.at 32 (by kernel_rfl), hF.at 33 (by kernel_rfl), hF.at 34 (by kernel_rfl), hF.at 35 (by kernel_rfl), hF.at 36 (by kernel_rfl), hF.at 37 (by kernel_rfl), hF.at 38 (by kernel_rfl), hF.at 39 (by kernel_rfl), hF.at 40 (by kernel_rfl), hF.at 41 (by kernel_rfl), hF.at 42 (by kernel_rfl), hF.at 43 (by kernel_rfl), hF.at 44 (by kernel_rfl), hF.at 45 (by kernel_rfl), hF.at 46 (by kernel_rfl), hF.at 47 (by kernel_rfl)]
                generalize ac.eval (.tmp 17) = u17
                generalize ac.eval (.tmp 18) = u18
                generalize ac.eval (.tmp 19) = u19
                generalize ac.eval (.tmp 20) = u20
                generalize ac.eval (.tmp 21) = u21
                simp only [Act.eval, Array.getD_eq_getD_getElem?, List.getElem?_toArray, List.getElem?_cons_succ, List.getElem?_cons_zero, Option.getD_some]
                clear e16 hT hF ac
                replace x3 := x3.old hB
                replace x8 := x8.old hB
                replace hb := below_step hb (Nat.le_refl _) hB
                replace hbw := below_step hbw (Nat.le_refl _) hB
                replace hrun := hrun.old hB
                clear hB
                go_wp2
                try simp only [Act.put]
                refine wp_region_tab [RT.is (.agg #[.int .i64 a, .int .i64 n]), RT.is (.int .i64 (a + n)), RT.is (.pointer (some ⟨B8, 0, none⟩)), RT.is (.int .i64 x), RT.is (.bool false), RT.is (.bool false)] (by kernel_rfl) (by kernel_rfl) (by kernel_rfl) (by kernel_rfl) ⟨?_, ?_, ?_, ?_, ?_, ?_, trivial⟩ ?_
                · intro ac w' hF hL hP hU K hK
                  have hB := below_undrew hL
                  have e3 : ac.eval (.tmp 3) = .pointer (some ⟨B3, 0, none⟩) := hF.at 3 (by kernel_rfl)
                  exact rop_ld _ _ rfl e3 (load_run (x3.old hB).c0 (x3.old hB).c1) (wanted_none rfl) (hK _ _ (le8_refl _) rfl)
                · intro ac w' hF hL hP hU K hK
                  have hB := below_undrew hL
                  have e27 : ac.eval (.tmp 27) = .agg #[.int .i64 a, .int .i64 n] := hP 0 (by kernel_rfl)
                  refine rop_call 39 _ _ rfl #[.agg #[.int .i64 a, .int .i64 n]] (by simp [e27]) (by kernel_rfl) (wanted_none rfl) ?_
                  refine (behind_any _ _ w' h1 h2 h3).mono ?_
                  rintro e w2 ⟨rfl, hb⟩
                  exact ⟨_, rfl, hK _ _ hb rfl⟩
                · intro ac w' hF hL hP hU K hK
                  have hB := below_undrew hL
                  have e8 : ac.eval (.tmp 8) = .pointer (some ⟨B8, 0, none⟩) := hF.at 8 (by kernel_rfl)
                  exact rop_fld _ _ _ rfl e8 (fld_run0 _ _ _) (wanted_none rfl) (hK _ _ (le8_refl _) rfl)
                · intro ac w' hF hL hP hU K hK
                  have hB := below_undrew hL
                  have e29 : ac.eval (.tmp 29) = .pointer (some ⟨B8, 0, none⟩) := hP 2 (by kernel_rfl)
                  exact rop_ld _ _ rfl e29 (load_int (x8.old hB).c0) (wanted_none rfl) (hK _ _ (le8_refl _) rfl)
                · intro ac w' hF hL hP hU K hK
                  have hB := below_undrew hL
                  have e28 : ac.eval (.tmp 28) = .int .i64 (a + n) := hP 1 (by kernel_rfl)
                  have e30 : ac.eval (.tmp 30) = .int .i64 x := hP 3 (by kernel_rfl)
                  exact rop_bin _ _ _ _ _ rfl e28 e30 (guard_int _ _ _ _ _ _ _ w') (lss_i _ _ _ (decide_eq_false (show ¬ a + n < x by omega)) w') (wanted_none rfl) (hK _ _ (le8_refl _) rfl)
                · intro ac w' hF hL hP hU K hK
                  have hB := below_undrew hL
                  have e31 : ac.eval (.tmp 31) = .bool false := hP 4 (by kernel_rfl)
                  exact rop_assign _ rfl e31 (wanted_none rfl) (hK _ _ (le8_refl _) rfl)
                · intro ac w' hF hB hT
                  have e26 : ac.eval (.tmp 26) = .bool false := hT 5 (by decide)
                  rw [hF.lit 48 rfl]
                  simp only [List.range, List.range.loop, List.map_cons, List.map_nil, e26, hF.at 0 (by kernel_rfl), hF.at 1 (by kernel_rfl), hF.at 2 (by kernel_rfl), hF.at 3 (by kernel_rfl), hF.at 4 (by kernel_rfl), hF.at 5 (by kernel_rfl), hF.at 6 (by kernel_rfl), hF.at 7 (by kernel_rfl), hF.at 8 (by kernel_rfl), hF.at 9 (by kernel_rfl), hF.at 10 (by kernel_rfl), hF.at 11 (by kernel_rfl), hF.at 12 (by kernel_rfl), hF.at 13 (by kernel_rfl), hF.at 14 (by kernel_rfl), hF.at 15 (by kernel_rfl), hF.at 16 (by kernel_rfl), hF.at 17 (by kernel_rfl), hF.at 18 (by kernel_rfl), hF.at 19 (by kernel_rfl), hF.at 20 (by kernel_rfl), hF.at 21 (by kernel_rfl), hF.at 22 (by kernel_rfl), hF.at 23 (by kernel_rfl), hF.at 24 (by kernel_rfl), hF.at 25 (by kernel_rfl), hF.at 32 (by kernel_rfl), hF.at 33 (by kernel_rfl), hF.at 34 (by kernel_rfl), hF.at 35 (by kernel_rfl), hF.at 36 (by kernel_rfl), hF.at 37 (by kernel_rfl), hF.at 38 (by kernel_rfl), hF.at 39 (by kernel_rfl), hF.at 40 (by kernel_rfl), hF.at 41 (by kernel_rfl), hF.at 42 (by kernel_rfl), hF.at 43 (by kernel_rfl), hF.at 44 (by kernel_rfl), hF.at 45 (by kernel_rfl), hF.at 46 (by kernel_rfl), hF.at 47 (by kernel_rfl)]
                  generalize ac.eval (.tmp 27) = u27
                  generalize ac.eval (.tmp 28) = u28
                  generalize ac.eval (.tmp 29) = u29
                  generalize ac.eval (.tmp 30) = u30
                  generalize ac.eval (.tmp 31) = u31
                  simp only [Act.eval, Array.getD_eq_getD_getElem?, List.getElem?_toArray, List.getElem?_cons_succ, List.getElem?_cons_zero, Option.getD_some]
                  clear e26 hT hF ac
                  replace x3 := x3.old hB
                  replace x8 := x8.old hB
                  replace hb := below_step hb (Nat.le_refl _) hB
                  replace hbw := below_step hbw (Nat.le_refl _) hB
                  replace hrun := hrun.old hB
                  clear hB
                  go_wp2
                  try simp only [Act.put]
                  refine wp_region_tab [RT.is (.agg #[.int .i64 x, .int .i64 m]), RT.is (.int .i64 (x + m)), RT.is (.pointer (some ⟨B3, 0, none⟩)), RT.is (.int .i64 a), RT.is (.bool false), RT.is (.bool false)] (by kernel_rfl) (by kernel_rfl) (by kernel_rfl) (by kernel_rfl) ⟨?_, ?_, ?_, ?_, ?_, ?_, trivial⟩ ?_
                  · intro ac w' hF hL hP hU K hK
                    have hB := below_undrew hL
                    have e8 : ac.eval (.tmp 8) = .pointer (some ⟨B8, 0, none⟩) := hF.at 8 (by kernel_rfl)
                    exact rop_ld _ _ rfl e8 (load_run (x8.old hB).c0 (x8.old hB).c1) (wanted_none rfl) (hK _ _ (le8_refl _) rfl)
                  · intro ac w' hF hL hP hU K hK
                    have hB := below_undrew hL
                    have e33 : ac.eval (.tmp 33) = .agg #[.int .i64 x, .int .i64 m] := hP 0 (by kernel_rfl)
                    refine rop_call 39 _ _ rfl #[.agg #[.int .i64 x, .int .i64 m]] (by simp [e33]) (by kernel_rfl) (wanted_none rfl) ?_
                    refine (behind_any _ _ w' s1 s2 s3).mono ?_
                    rintro e w2 ⟨rfl, hb⟩
                    exact ⟨_, rfl, hK _ _ hb rfl⟩
                  · intro ac w' hF hL hP hU K hK
                    have hB := below_undrew hL
                    have e3 : ac.eval (.tmp 3) = .pointer (some ⟨B3, 0, none⟩) := hF.at 3 (by kernel_rfl)
                    exact rop_fld _ _ _ rfl e3 (fld_run0 _ _ _) (wanted_none rfl) (hK _ _ (le8_refl _) rfl)
                  · intro ac w' hF hL hP hU K hK
                    have hB := below_undrew hL
                    have e35 : ac.eval (.tmp 35) = .pointer (some ⟨B3, 0, none⟩) := hP 2 (by kernel_rfl)
                    exact rop_ld _ _ rfl e35 (load_int (x3.old hB).c0) (wanted_none rfl) (hK _ _ (le8_refl _) rfl)
                  · intro ac w' hF hL hP hU K hK
                    have hB := below_undrew hL
                    have e34 : ac.eval (.tmp 34) = .int .i64 (x + m) := hP 1 (by kernel_rfl)
                    have e36 : ac.eval (.tmp 36) = .int .i64 a := hP 3 (by kernel_rfl)
                    exact rop_bin _ _ _ _ _ rfl e34 e36 (guard_int _ _ _ _ _ _ _ w') (eql_i _ _ _ (decide_eq_false (show ¬ x + m = a by omega)) w') (wanted_none rfl) (hK _ _ (le8_refl _) rfl)
                  · intro ac w' hF hL hP hU K hK
                    have hB := below_undrew hL
                    have e37 : ac.eval (.tmp 37) = .bool false := hP 4 (by kernel_rfl)
                    exact rop_assign _ rfl e37 (wanted_none rfl) (hK _ _ (le8_refl _) rfl)
                  · intro ac w' hF hB hT
                    have e32 : ac.eval (.tmp 32) = .bool false := hT 5 (by decide)
                    rw [hF.lit 48 rfl]
                    simp only [List.range, List.range.loop, List.map_cons, List.map_nil, e32, hF.at 0 (by kernel_rfl), hF.at 1 (by kernel_rfl), hF.at 2 (by kernel_rfl), hF.at 3 (by kernel_rfl), hF.at 4 (by kernel_rfl), hF.at 5 (by kernel_rfl), hF.at 6 (by kernel_rfl), hF.at 7 (by kernel_rfl), hF.at 8 (by kernel_rfl), hF.at 9 (by kernel_rfl), hF.at 10 (by kernel_rfl), hF.at 11 (by kernel_rfl), hF.at 12 (by kernel_rfl), hF.at 13 (by kernel_rfl), hF.at 14 (by kernel_rfl), hF.at 15 (by kernel_rfl), hF.at 16 (by kernel_rfl), hF.at 17 (by kernel_rfl), hF.at 18 (by kernel_rfl), hF.at 19 (by kernel_rfl), hF.at 20 (by kernel_rfl), hF.at 21 (by kernel_rfl), hF.at 22 (by kernel_rfl), hF.at 23 (by kernel_rfl), hF.at 24 (by kernel_rfl), hF.at 25 (by kernel_rfl), hF.at 26 (by kernel_rfl), hF.at 27 (by kernel_rfl), hF.at 28 (by kernel_rfl), hF.at 29 (by kernel_rfl), hF.at 30 (by kernel_rfl), hF.at 31 (by kernel_rfl), hF.at 38 (by kernel_rfl), hF.at 39 (by kernel_rfl), hF.at 40 (by kernel_rfl), hF.at 41 (by kernel_rfl), hF.at 42 (by kernel_rfl), hF.at 43 (by kernel_rfl), hF.at 44 (by kernel_rfl), hF.at 45 (by kernel_rfl), hF.at 46 (by kernel_rfl), hF.at 47 (by kernel_rfl)]
                    generalize ac.eval (.tmp 33) = u33
                    generalize ac.eval (.tmp 34) = u34
                    generalize ac.eval (.tmp 35) = u35
                    generalize ac.eval (.tmp 36) = u36
                    generalize ac.eval (.tmp 37) = u37
                    simp only [Act.eval, Array.getD_eq_getD_getElem?, List.getElem?_toArray, List.getElem?_cons_succ, List.getElem?_cons_zero, Option.getD_some]
                    clear e32 hT hF ac
                    replace x3 := x3.old hB
                    replace x8 := x8.old hB
                    replace hb := below_step hb (Nat.le_refl _) hB
                    replace hbw := below_step hbw (Nat.le_refl _) hB
                    replace hrun := hrun.old hB
                    clear hB
                    go_wp2
                    try simp only [Act.put]
                    refine wp_region_tab [RT.is (.agg #[.int .i64 a, .int .i64 n]), RT.is (.int .i64 (a + n)), RT.is (.pointer (some ⟨B8, 0, none⟩)), RT.is (.int .i64 x), RT.is (.bool true), RT.is (.bool true)] (by kernel_rfl) (by kernel_rfl) (by kernel_rfl) (by kernel_rfl) ⟨?_, ?_, ?_, ?_, ?_, ?_, trivial⟩ ?_
                    · intro ac w' hF hL hP hU K hK
                      have hB := below_undrew hL
                      have e3 : ac.eval (.tmp 3) = .pointer (some ⟨B3, 0, none⟩) := hF.at 3 (by kernel_rfl)
                      exact rop_ld _ _ rfl e3 (load_run (x3.old hB).c0 (x3.old hB).c1) (wanted_none rfl) (hK _ _ (le8_refl _) rfl)
                    · intro ac w' hF hL hP hU K hK
                      have hB := below_undrew hL
                      have e38 : ac.eval (.tmp 38) = .agg #[.int .i64 a, .int .i64 n] := hP 0 (by kernel_rfl)
                      refine rop_call 39 _ _ rfl #[.agg #[.int .i64 a, .int .i64 n]] (by simp [e38]) (by kernel_rfl) (wanted_none rfl) ?_
                      refine (behind_any _ _ w' h1 h2 h3).mono ?_
                      rintro e w2 ⟨rfl, hb⟩
                      exact ⟨_, rfl, hK _ _ hb rfl⟩
                    · intro ac w' hF hL hP hU K hK
                      have hB := below_undrew hL
                      have e8 : ac.eval (.tmp 8) = .pointer (some ⟨B8, 0, none⟩) := hF.at 8 (by kernel_rfl)
                      exact rop_fld _ _ _ rfl e8 (fld_run0 _ _ _) (wanted_none rfl) (hK _ _ (le8_refl _) rfl)
                    · intro ac w' hF hL hP hU K hK
                      have hB := below_undrew hL
                      have e40 : ac.eval (.tmp 40) = .pointer (some ⟨B8, 0, none⟩) := hP 2 (by kernel_rfl)
                      exact rop_ld _ _ rfl e40 (load_int (x8.old hB).c0) (wanted_none rfl) (hK _ _ (le8_refl _) rfl)
                    · intro ac w' hF hL hP hU K hK
                      have hB := below_undrew hL
                      have e39 : ac.eval (.tmp 39) = .int .i64 (a + n) := hP 1 (by kernel_rfl)
                      have e41 : ac.eval (.tmp 41) = .int .i64 x := hP 3 (by kernel_rfl)
                      exact rop_bin _ _ _ _ _ rfl e39 e41 (guard_int _ _ _ _ _ _ _ w') (eql_i _ _ _ (decide_eq_true c4) w') (wanted_none rfl) (hK _ _ (le8_refl _) rfl)
                    · intro ac w' hF hL hP hU K hK
                      have hB := below_undrew hL
                      have e42 : ac.eval (.tmp 42) = .bool true := hP 4 (by kernel_rfl)
                      exact rop_assign _ rfl e42 (wanted_none rfl) (hK _ _ (le8_refl _) rfl)
                    · intro ac w' hF hB hT
                      have e32 : ac.eval (.tmp 32) = .bool true := hT 5 (by decide)
                      rw [hF.lit 48 rfl]
                      simp only [List.range, List.range.loop, List.map_cons, List.map_nil, e32, hF.at 0 (by kernel_rfl), hF.at 1 (by kernel_rfl), hF.at 2 (by kernel_rfl), hF.at 3 (by kernel_rfl), hF.at 4 (by kernel_rfl), hF.at 5 (by kernel_rfl), hF.at 6 (by kernel_rfl), hF.at 7 (by kernel_rfl), hF.at 8 (by kernel_rfl), hF.at 9 (by kernel_rfl), hF.at 10 (by kernel_rfl), hF.at 11 (by kernel_rfl), hF.at 12 (by kernel_rfl), hF.at 13 (by kernel_rfl), hF.at 14 (by kernel_rfl), hF.at 15 (by kernel_rfl), hF.at 16 (by kernel_rfl), hF.at 17 (by kernel_rfl), hF.at 18 (by kernel_rfl), hF.at 19 (by kernel_rfl), hF.at 20 (by kernel_rfl), hF.at 21 (by kernel_rfl), hF.at 22 (by kernel_rfl), hF.at 23 (by kernel_rfl), hF.at 24 (by kernel_rfl), hF.at 25 (by kernel_rfl), hF.at 26 (by kernel_rfl), hF.at 27 (by kernel_rfl), hF.at 28 (by kernel_rfl), hF.at 29 (by kernel_rfl), hF.at 30 (by kernel_rfl), hF.at 31 (by kernel_rfl), hF.at 33 (by kernel_rfl), hF.at 34 (by kernel_rfl), hF.at 35 (by kernel_rfl), hF.at 36 (by kernel_rfl), hF.at 37 (by kernel_rfl), hF.at 43 (by kernel_rfl), hF.at 44 (by kernel_rfl), hF.at 45 (by kernel_rfl), hF.at 46 (by kernel_rfl), hF.at 47 (by kernel_rfl)]
                      generalize ac.eval (.tmp 38) = u38
                      generalize ac.eval (.tmp 39) = u39
                      generalize ac.eval (.tmp 40) = u40
                      generalize ac.eval (.tmp 41) = u41
                      generalize ac.eval (.tmp 42) = u42
                      simp only [Act.eval, Array.getD_eq_getD_getElem?, List.getElem?_toArray, List.getElem?_cons_succ, List.getElem?_cons_zero, Option.getD_some]
                      clear e32 hT hF ac
                      replace x3 := x3.old hB
                      replace x8 := x8.old hB
                      replace hb := below_step hb (Nat.le_refl _) hB
                      replace hbw := below_step hbw (Nat.le_refl _) hB
                      replace hrun := hrun.old hB
                      clear hB
                      go_wp2
                      go_roundw
                      case rel =>
                        refine ⟨k + 1, f, k + 1, by omega, by go_num, rfl, by go_num, by omega, by omega, ?_, ?_⟩
                        · rw [HC.out, HD.out, bs, if_neg (show ¬ (x, m).1 + (x, m).2 < (a, n).1 from by simp only; omega), if_neg (show ¬ (a, n).1 + (a, n).2 < (x, m).1 from by simp only; omega), if_pos (show (x, m).1 + (x, m).2 = (a, n).1 ∨ (a, n).1 + (a, n).2 = (x, m).1 from .inr c4)]
                        · exact hbw
                      case measure => simp [intOf]; omega
            ·
              try simp only [Act.put]
              refine wp_region_tab [RT.is (.agg #[.int .i64 x, .int .i64 m]), RT.is (.int .i64 (x + m)), RT.is (.pointer (some ⟨B3, 0, none⟩)), RT.is (.int .i64 a), RT.is (.bool false), RT.is (.bool false)] (by kernel_rfl) (by kernel_rfl) (by kernel_rfl) (by kernel_rfl) ⟨?_, ?_, ?_, ?_, ?_, ?_, trivial⟩ ?_
              · intro ac w' hF hL hP hU K hK
                have hB := below_undrew hL
                have e8 : ac.eval (.tmp 8) = .pointer (some ⟨B8, 0, none⟩) := hF.at 8 (by kernel_rfl)
                exact rop_ld _ _ rfl e8 (load_run (x8.old hB).c0 (x8.old hB).c1) (wanted_none rfl) (hK _ _ (le8_refl _) rfl)
              · intro ac w' hF hL hP hU K hK
                have hB := below_undrew hL
                have e17 : ac.eval (.tmp 17) = .agg #[.int .i64 x, .int .i64 m] := hP 0 (by kernel_rfl)
                refine rop_call 39 _ _ rfl #[.agg #[.int .i64 x, .int .i64 m]] (by simp [e17]) (by kernel_rfl) (wanted_none rfl) ?_
                refine (behind_any _ _ w' s1 s2 s3).mono ?_
                rintro e w2 ⟨rfl, hb⟩
                exact ⟨_, rfl, hK _ _ hb rfl⟩
              · intro ac w' hF hL hP hU K hK
                have hB := below_undrew hL
                have e3 : ac.eval (.tmp 3) = .pointer (some ⟨B3, 0, none⟩) := hF.at 3 (by kernel_rfl)
                exact rop_fld _ _ _ rfl e3 (fld_run0 _ _ _) (wanted_none rfl) (hK _ _ (le8_refl _) rfl)
              · intro ac w' hF hL hP hU K hK
                have hB := below_undrew hL
                have e19 : ac.eval (.tmp 19) = .pointer (some ⟨B3, 0, none⟩) := hP 2 (by kernel_rfl)
                exact rop_ld _ _ rfl e19 (load_int (x3.old hB).c0) (wanted_none rfl) (hK _ _ (le8_refl _) rfl)
              · intro ac w' hF hL hP hU K hK
                have hB := below_undrew hL
                have e18 : ac.eval (.tmp 18) = .int .i64 (x + m) := hP 1 (by kernel_rfl)
                have e20 : ac.eval (.tmp 20) = .int .i64 a := hP 3 (by kernel_rfl)
                exact rop_bin _ _ _ _ _ rfl e18 e20 (guard_int _ _ _ _ _ _ _ w') (lss_i _ _ _ (decide_eq_false (show ¬ x + m < a by omega)) w') (wanted_none rfl) (hK _ _ (le8_refl _) rfl)
              · intro ac w' hF hL hP hU K hK
                have hB := below_undrew hL
                have e21 : ac.eval (.tmp 21) = .bool false := hP 4 (by kernel_rfl)
                exact rop_assign _ rfl e21 (wanted_none rfl) (hK _ _ (le8_refl _) rfl)
              · intro ac w' hF hB hT
                have e16 : ac.eval (.tmp 16) = .bool false := hT 5 (by decide)
                rw [hF.lit 48 rfl]
                simp only [List.range, List.range.loop, List.map_cons, List.map_nil, e16, hF.at 0 (by kernel_rfl), hF.at 1 (by kernel_rfl), hF.at 2 (by kernel_rfl), hF.at 3 (by kernel_rfl), hF.at 4 (by kernel_rfl), hF.at 5 (by kernel_rfl), hF.at 6 (by kernel_rfl), hF.at 7 (by kernel_rfl), hF.at 8 (by kernel_rfl), hF.at 9 (by kernel_rfl), hF.at 10 (by kernel_rfl), hF.at 11 (by kernel_rfl), hF.at 12 (by kernel_rfl), hF.at 13 (by kernel_rfl), hF.at 14 (by kernel_rfl), hF.at 15 (by kernel_rfl), hF.at 22 (by kernel_rfl), hF.at 23 (by kernel_rfl), hF.at 24 (by kernel_rfl), hF.at 25 (by kernel_rfl), hF.at 26 (by kernel_rfl), hF.at 27 (by kernel_rfl), hF.at 28 (by kernel_rfl), hF.at 29 (by kernel_rfl), hF.at 30 (by kernel_rfl), hF.at 31 (by kernel_rfl), hF.at 32 (by kernel_rfl), hF.at 33 (by kernel_rfl), hF.at 34 (by kernel_rfl), hF.at 35 (by kernel_rfl), hF.at 36 (by kernel_rfl), hF.at 37 (by kernel_rfl), hF.at 38 (by kernel_rfl), hF.at 39 (by kernel_rfl), hF.at 40 (by kernel_rfl), hF.at 41 (by kernel_rfl), hF.at 42 (by kernel_rfl), hF.at 43 (by kernel_rfl), hF.at 44 (by kernel_rfl), hF.at 45 (by kernel_rfl), hF.at 46 (by kernel_rfl), hF.at 47 (by kernel_rfl)]
                generalize ac.eval (.tmp 17) = u17
                generalize ac.eval (.tmp 18) = u18
                generalize ac.eval (.tmp 19) = u19
                generalize ac.eval (.tmp 20) = u20
                generalize ac.eval (.tmp 21) = u21
                simp only [Act.eval, Array.getD_eq_getD_getElem?, List.getElem?_toArray, List.getElem?_cons_succ, List.getElem?_cons_zero, Option.getD_some]
                clear e16 hT hF ac
                replace x3 := x3.old hB
                replace x8 := x8.old hB
                replace hb := below_step hb (Nat.le_refl _) hB
                replace hbw := below_step hbw (Nat.le_refl _) hB
                replace hrun := hrun.old hB
                clear hB
                go_wp2
                try simp only [Act.put]
                refine wp_region_tab [RT.is (.agg #[.int .i64 a, .int .i64 n]), RT.is (.int .i64 (a + n)), RT.is (.pointer (some ⟨B8, 0, none⟩)), RT.is (.int .i64 x), RT.is (.bool false), RT.is (.bool false)] (by kernel_rfl) (by kernel_rfl) (by kernel_rfl) (by kernel_rfl) ⟨?_, ?_, ?_, ?_, ?_, ?_, trivial⟩ ?_
                · intro ac w' hF hL hP hU K hK
                  have hB := below_undrew hL
                  have e3 : ac.eval (.tmp 3) = .pointer (some ⟨B3, 0, none⟩) := hF.at 3 (by kernel_rfl)
                  exact rop_ld _ _ rfl e3 (load_run (x3.old hB).c0 (x3.old hB).c1) (wanted_none rfl) (hK _ _ (le8_refl _) rfl)
                · intro ac w' hF hL hP hU K hK
                  have hB := below_undrew hL
                  have e27 : ac.eval (.tmp 27) = .agg #[.int .i64 a, .int .i64 n] := hP 0 (by kernel_rfl)
                  refine rop_call 39 _ _ rfl #[.agg #[.int .i64 a, .int .i64 n]] (by simp [e27]) (by kernel_rfl) (wanted_none rfl) ?_
                  refine (behind_any _ _ w' h1 h2 h3).mono ?_
                  rintro e w2 ⟨rfl, hb⟩
                  exact ⟨_, rfl, hK _ _ hb rfl⟩
                · intro ac w' hF hL hP hU K hK
                  have hB := below_undrew hL
                  have e8 : ac.eval (.tmp 8) = .pointer (some ⟨B8, 0, none⟩) := hF.at 8 (by kernel_rfl)
                  exact rop_fld _ _ _ rfl e8 (fld_run0 _ _ _) (wanted_none rfl) (hK _ _ (le8_refl _) rfl)
                · intro ac w' hF hL hP hU K hK
                  have hB := below_undrew hL
                  have e29 : ac.eval (.tmp 29) = .pointer (some ⟨B8, 0, none⟩) := hP 2 (by kernel_rfl)
                  exact rop_ld _ _ rfl e29 (load_int (x8.old hB).c0) (wanted_none rfl) (hK _ _ (le8_refl _) rfl)
                · intro ac w' hF hL hP hU K hK
                  have hB := below_undrew hL
                  have e28 : ac.eval (.tmp 28) = .int .i64 (a + n) := hP 1 (by kernel_rfl)
                  have e30 : ac.eval (.tmp 30) = .int .i64 x := hP 3 (by kernel_rfl)
                  exact rop_bin _ _ _ _ _ rfl e28 e30 (guard_int _ _ _ _ _ _ _ w') (lss_i _ _ _ (decide_eq_false (show ¬ a + n < x by omega)) w') (wanted_none rfl) (hK _ _ (le8_refl _) rfl)
                · intro ac w' hF hL hP hU K hK
                  have hB := below_undrew hL
                  have e31 : ac.eval (.tmp 31) = .bool false := hP 4 (by kernel_rfl)
                  exact rop_assign _ rfl e31 (wanted_none rfl) (hK _ _ (le8_refl _) rfl)
                · intro ac w' hF hB hT
                  have e26 : ac.eval (.tmp 26) = .bool false := hT 5 (by decide)
                  rw [hF.lit 48 rfl]
                  simp only [List.range, List.range.loop, List.map_cons, List.map_nil, e26, hF.at 0 (by kernel_rfl), hF.at 1 (by kernel_rfl), hF.at 2 (by kernel_rfl), hF.at 3 (by kernel_rfl), hF.at 4 (by kernel_rfl), hF.at 5 (by kernel_rfl), hF.at 6 (by kernel_rfl), hF.at 7 (by kernel_rfl), hF.at 8 (by kernel_rfl), hF.at 9 (by kernel_rfl), hF.at 10 (by kernel_rfl), hF.at 11 (by kernel_rfl), hF.at 12 (by kernel_rfl), hF.at 13 (by kernel_rfl), hF.at 14 (by kernel_rfl), hF.at 15 (by kernel_rfl), hF.at 16 (by kernel_rfl), hF.at 17 (by kernel_rfl), hF.at 18 (by kernel_rfl), hF.at 19 (by kernel_rfl), hF.at 20 (by kernel_rfl), hF.at 21 (by kernel_rfl), hF.at 22 (by kernel_rfl), hF.at 23 (by kernel_rfl), hF.at 24 (by kernel_rfl), hF.at 25 (by kernel_rfl), hF.at 32 (by kernel_rfl), hF.at 33 (by kernel_rfl), hF.at 34 (by kernel_rfl), hF.at 35 (by kernel_rfl), hF.at 36 (by kernel_rfl), hF.at 37 (by kernel_rfl), hF.at 38 (by kernel_rfl), hF.at 39 (by kernel_rfl), hF.at 40 (by kernel_rfl), hF.at 41 (by kernel_rfl), hF.at 42 (by kernel_rfl), hF.at 43 (by kernel_rfl), hF.at 44 (by kernel_rfl), hF.at 45 (by kernel_rfl), hF.at 46 (by kernel_rfl), hF.at 47 (by kernel_rfl)]
                  generalize ac.eval (.tmp 27) = u27
                  generalize ac.eval (.tmp 28) = u28
                  generalize ac.eval (.tmp 29) = u29
                  generalize ac.eval (.tmp 30) = u30
                  generalize ac.eval (.tmp 31) = u31
                  simp only [Act.eval, Array.getD_eq_getD_getElem?, List.getElem?_toArray, List.getElem?_cons_succ, List.getElem?_cons_zero, Option.getD_some]
                  clear e26 hT hF ac
                  replace x3 := x3.old hB
                  replace x8 := x8.old hB
                  replace hb := below_step hb (Nat.le_refl _) hB
                  replace hbw := below_step hbw (Nat.le_refl _) hB
                  replace hrun := hrun.old hB
                  clear hB
                  go_wp2
                  try simp only [Act.put]
                  refine wp_region_tab [RT.is (.agg #[.int .i64 x, .int .i64 m]), RT.is (.int .i64 (x + m)), RT.is (.pointer (some ⟨B3, 0, none⟩)), RT.is (.int .i64 a), RT.is (.bool false), RT.is (.bool false)] (by kernel_rfl) (by kernel_rfl) (by kernel_rfl) (by kernel_rfl) ⟨?_, ?_, ?_, ?_, ?_, ?_, trivial⟩ ?_
                  · intro ac w' hF hL hP hU K hK
                    have hB := below_undrew hL
                    have e8 : ac.eval (.tmp 8) = .pointer (some ⟨B8, 0, none⟩) := hF.at 8 (by kernel_rfl)
                    exact rop_ld _ _ rfl e8 (load_run (x8.old hB).c0 (x8.old hB).c1) (wanted_none rfl) (hK _ _ (le8_refl _) rfl)
                  · intro ac w' hF hL hP hU K hK
                    have hB := below_undrew hL
                    have e33 : ac.eval (.tmp 33) = .agg #[.int .i64 x, .int .i64 m] := hP 0 (by kernel_rfl)
                    refine rop_call 39 _ _ rfl #[.agg #[.int .i64 x, .int .i64 m]] (by simp [e33]) (by kernel_rfl) (wanted_none rfl) ?_
                    refine (behind_any _ _ w' s1 s2 s3).mono ?_
                    rintro e w2 ⟨rfl, hb⟩
                    exact ⟨_, rfl, hK _ _ hb rfl⟩
                  · intro ac w' hF hL hP hU K hK
                    have hB := below_undrew hL
                    have e3 : ac.eval (.tmp 3) = .pointer (some ⟨B3, 0, none⟩) := hF.at 3 (by kernel_rfl)
                    exact rop_fld _ _ _ rfl e3 (fld_run0 _ _ _) (wanted_none rfl) (hK _ _ (le8_refl _) rfl)
                  · intro ac w' hF hL hP hU K hK
                    have hB := below_undrew hL
                    have e35 : ac.eval (.tmp 35) = .pointer (some ⟨B3, 0, none⟩) := hP 2 (by kernel_rfl)
                    exact rop_ld _ _ rfl e35 (load_int (x3.old hB).c0) (wanted_none rfl) (hK _ _ (le8_refl _) rfl)
                  · intro ac w' hF hL hP hU K hK
                    have hB := below_undrew hL
                    have e34 : ac.eval (.tmp 34) = .int .i64 (x + m) := hP 1 (by kernel_rfl)
                    have e36 : ac.eval (.tmp 36) = .int .i64 a := hP 3 (by kernel_rfl)
                    exact rop_bin _ _ _ _ _ rfl e34 e36 (guard_int _ _ _ _ _ _ _ w') (eql_i _ _ _ (decide_eq_false (show ¬ x + m = a by omega)) w') (wanted_none rfl) (hK _ _ (le8_refl _) rfl)
                  · intro ac w' hF hL hP hU K hK
                    have hB := below_undrew hL
                    have e37 : ac.eval (.tmp 37) = .bool false := hP 4 (by kernel_rfl)
                    exact rop_assign _ rfl e37 (wanted_none rfl) (hK _ _ (le8_refl _) rfl)
                  · intro ac w' hF hB hT
                    have e32 : ac.eval (.tmp 32) = .bool false := hT 5 (by decide)
                    rw [hF.lit 48 rfl]
                    simp only [List.range, List.range.loop, List.map_cons, List.map_nil, e32, hF.at 0 (by kernel_rfl), hF.at 1 (by kernel_rfl), hF.at 2 (by kernel_rfl), hF.at 3 (by kernel_rfl), hF.at 4 (by kernel_rfl), hF.at 5 (by kernel_rfl), hF.at 6 (by kernel_rfl), hF.at 7 (by kernel_rfl), hF.at 8 (by kernel_rfl), hF.at 9 (by kernel_rfl), hF.at 10 (by kernel_rfl), hF.at 11 (by kernel_rfl), hF.at 12 (by kernel_rfl), hF.at 13 (by kernel_rfl), hF.at 14 (by kernel_rfl), hF.at 15 (by kernel_rfl), hF.at 16 (by kernel_rfl), hF.at 17 (by kernel_rfl), hF.at 18 (by kernel_rfl), hF.at 19 (by kernel_rfl), hF.at 20 (by kernel_rfl), hF.at 21 (by kernel_rfl), hF.at 22 (by kernel_rfl), hF.at 23 (by kernel_rfl), hF.at 24 (by kernel_rfl), hF.at 25 (by kernel_rfl), hF.at 26 (by kernel_rfl), hF.at 27 (by kernel_rfl), hF.at 28 (by kernel_rfl), hF.at 29 (by kernel_rfl), hF.at 30 (by kernel_rfl), hF.at 31 (by kernel_rfl), hF.at 38 (by kernel_rfl), hF.at 39 (by kernel_rfl), hF.at 40 (by kernel_rfl), hF.at 41 (by kernel_rfl), hF.at 42 (by kernel_rfl), hF.at 43 (by kernel_rfl), hF.at 44 (by kernel_rfl), hF.at 45 (by kernel_rfl), hF.at 46 (by kernel_rfl), hF.at 47 (by kernel_rfl)]
                    generalize ac.eval (.tmp 33) = u33
                    generalize ac.eval (.tmp 34) = u34
                    generalize ac.eval (.tmp 35) = u35
                    generalize ac.eval (.tmp 36) = u36
                    generalize ac.eval (.tmp 37) = u37
                    simp only [Act.eval, Array.getD_eq_getD_getElem?, List.getElem?_toArray, List.getElem?_cons_succ, List.getElem?_cons_zero, Option.getD_some]
                    clear e32 hT hF ac
                    replace x3 := x3.old hB
                    replace x8 := x8.old hB
                    replace hb := below_step hb (Nat.le_refl _) hB
                    replace hbw := below_step hbw (Nat.le_refl _) hB
                    replace hrun := hrun.old hB
                    clear hB
                    go_wp2
                    try simp only [Act.put]
                    refine wp_region_tab [RT.is (.agg #[.int .i64 a, .int .i64 n]), RT.is (.int .i64 (a + n)), RT.is (.pointer (some ⟨B8, 0, none⟩)), RT.is (.int .i64 x), RT.is (.bool false), RT.is (.bool false)] (by kernel_rfl) (by kernel_rfl) (by kernel_rfl) (by kernel_rfl) ⟨?_, ?_, ?_, ?_, ?_, ?_, trivial⟩ ?_
                    · intro ac w' hF hL hP hU K hK
                      have hB := below_undrew hL
                      have e3 : ac.eval (.tmp 3) = .pointer (some ⟨B3, 0, none⟩) := hF.at 3 (by kernel_rfl)
                      exact rop_ld _ _ rfl e3 (load_run (x3.old hB).c0 (x3.old hB).c1) (wanted_none rfl) (hK _ _ (le8_refl _) rfl)
                    · intro ac w' hF hL hP hU K hK
                      have hB := below_undrew hL
                      have e38 : ac.eval (.tmp 38) = .agg #[.int .i64 a, .int .i64 n] := hP 0 (by kernel_rfl)
                      refine rop_call 39 _ _ rfl #[.agg #[.int .i64 a, .int .i64 n]] (by simp [e38]) (by kernel_rfl) (wanted_none rfl) ?_
                      refine (behind_any _ _ w' h1 h2 h3).mono ?_
                      rintro e w2 ⟨rfl, hb⟩
                      exact ⟨_, rfl, hK _ _ hb rfl⟩
                    · intro ac w' hF hL hP hU K hK
                      have hB := below_undrew hL
                      have e8 : ac.eval (.tmp 8) = .pointer (some ⟨B8, 0, none⟩) := hF.at 8 (by kernel_rfl)
                      exact rop_fld _ _ _ rfl e8 (fld_run0 _ _ _) (wanted_none rfl) (hK _ _ (le8_refl _) rfl)
                    · intro ac w' hF hL hP hU K hK
                      have hB := below_undrew hL
                      have e40 : ac.eval (.tmp 40) = .pointer (some ⟨B8, 0, none⟩) := hP 2 (by kernel_rfl)
                      exact rop_ld _ _ rfl e40 (load_int (x8.old hB).c0) (wanted_none rfl) (hK _ _ (le8_refl _) rfl)
                    · intro ac w' hF hL hP hU K hK
                      have hB := below_undrew hL
                      have e39 : ac.eval (.tmp 39) = .int .i64 (a + n) := hP 1 (by kernel_rfl)
                      have e41 : ac.eval (.tmp 41) = .int .i64 x := hP 3 (by kernel_rfl)
                      exact rop_bin _ _ _ _ _ rfl e39 e41 (guard_int _ _ _ _ _ _ _ w') (eql_i _ _ _ (decide_eq_false (show ¬ a + n = x by omega)) w') (wanted_none rfl) (hK _ _ (le8_refl _) rfl)
                    · intro ac w' hF hL hP hU K hK
                      have hB := below_undrew hL
                      have e42 : ac.eval (.tmp 42) = .bool false := hP 4 (by kernel_rfl)
                      exact rop_assign _ rfl e42 (wanted_none rfl) (hK _ _ (le8_refl _) rfl)
                    · intro ac w' hF hB hT
                      have e32 : ac.eval (.tmp 32) = .bool false := hT 5 (by decide)
                      rw [hF.lit 48 rfl]
                      simp only [List.range, List.range.loop, List.map_cons, List.map_nil, e32, hF.at 0 (by kernel_rfl), hF.at 1 (by kernel_rfl), hF.at 2 (by kernel_rfl), hF.at 3 (by kernel_rfl), hF.at 4 (by kernel_rfl), hF.at 5 (by kernel_rfl), hF.at 6 (by kernel_rfl), hF.at 7 (by kernel_rfl), hF.at 8 (by kernel_rfl), hF.at 9 (by kernel_rfl), hF.at 10 (by kernel_rfl), hF.at 11 (by kernel_rfl), hF.at 12 (by kernel_rfl), hF.at 13 (by kernel_rfl), hF.at 14 (by kernel_rfl), hF.at 15 (by kernel_rfl), hF.at 16 (by kernel_rfl), hF.at 17 (by kernel_rfl), hF.at 18 (by kernel_rfl), hF.at 19 (by kernel_rfl), hF.at 20 (by kernel_rfl), hF.at 21 (by kernel_rfl), hF.at 22 (by kernel_rfl), hF.at 23 (by kernel_rfl), hF.at 24 (by kernel_rfl), hF.at 25 (by kernel_rfl), hF.at 26 (by kernel_rfl), hF.at 27 (by kernel_rfl), hF.at 28 (by kernel_rfl), hF.at 29 (by kernel_rfl), hF.at 30 (by kernel_rfl), hF.at 31 (by kernel_rfl), hF.at 33 (by kernel_rfl), hF.at 34 (by kernel_rfl), hF.at 35 (by kernel_rfl), hF.at 36 (by kernel_rfl), hF.at 37 (by kernel_rfl), hF.at 43 (by kernel_rfl), hF.at 44 (by kernel_rfl), hF.at 45 (by kernel_rfl), hF.at 46 (by kernel_rfl), hF.at 47 (by kernel_rfl)]
                      generalize ac.eval (.tmp 38) = u38
                      generalize ac.eval (.tmp 39) = u39
                      generalize ac.eval (.tmp 40) = u40
                      generalize ac.eval (.tmp 41) = u41
                      generalize ac.eval (.tmp 42) = u42
                      simp only [Act.eval, Array.getD_eq_getD_getElem?, List.getElem?_toArray, List.getElem?_cons_succ, List.getElem?_cons_zero, Option.getD_some]
                      clear e32 hT hF ac
                      replace x3 := x3.old hB
                      replace x8 := x8.old hB
                      replace hb := below_step hb (Nat.le_refl _) hB
                      replace hbw := below_step hbw (Nat.le_refl _) hB
                      replace hrun := hrun.old hB
                      clear hB
                      go_wp2
                      try rw [Exit.noGoto_ret]
                      exact bodyPost_ret (v := .tuple #[.int .i64 0, .int .i64 0, .bool false]) (by simp [results, Try.results34, go_sem]) rfl ⟨by rw [HC.out, HD.out, bs, if_neg (show ¬ (x, m).1 + (x, m).2 < (a, n).1 from by simp only; omega), if_neg (show ¬ (a, n).1 + (a, n).2 < (x, m).1 from by simp only; omega), if_neg (show ¬ ((x, m).1 + (x, m).2 = (a, n).1 ∨ (a, n).1 + (a, n).2 = (x, m).1) from by simp only; omega)]; rfl, hb⟩
    · go_wp2
      try rw [Exit.noGoto_ret]
      exact bodyPost_ret (v := .tuple #[.int .i64 f, .int .i64 t, .bool true]) (by simp [results, Try.results34, go_sem]) rfl ⟨by rw [HC.out, List.drop_eq_nil_of_le (by omega)]; rfl, hb⟩
end Go.Proofs.Ytlbnopfbfnobnaa
