/-
  Package extent: split: a list of sound runs in two.
-/
import Derived.Test.YtlbnopfbfnobnaaExtGiv
namespace Go.Proofs.Ytlbnopfbfnobnaa
open Go.RowKit Ext

theorem sf_step {l : List Rn} {k : Nat} {lf : Int} (hk : k < l.length) (h : l[k].2 ≤ lf) : sf (l.drop k) lf = l[k] :: sf (l.drop (k + 1)) (lf - l[k].2) := by
  rw [List.drop_eq_getElem_cons hk, sf, if_pos h]
theorem sg_step {l : List Rn} {k : Nat} {lf : Int} (hk : k < l.length) (h : l[k].2 ≤ lf) : sg (l.drop k) lf = sg (l.drop (k + 1)) (lf - l[k].2) := by
  rw [List.drop_eq_getElem_cons hk, sg, if_pos h]
set_option maxHeartbeats 6400000 in
set_option maxRecDepth 100000 in
theorem split_any (v : Value) (l : List Rn) (n : Int) (w : World) (hl : Runs w v l) (hf : fileB l = true) (hn1 : -9223372036854775808 ≤ n) (hn2 : n ≤ 9223372036854775807) (hln : l.length ≤ 1000) :
    Calls Try.prog 30 #[v, .int .i64 n] w fun e w' => ∃ v1 v2, e = .returned (.tuple #[v1, v2]) ∧ Runs w' v1 (sf l (max n 0)) ∧ Runs w' v2 (sg l (max n 0)) ∧ Below w.heap.size w w' := by
  obtain ⟨va, cap, rfl, hlc, hcap⟩ := hl.slice
  obtain ⟨N, hN⟩ : ∃ N, N = max n 0 := ⟨_, rfl⟩
  have hN0 : 0 ≤ N := by omega
  have hN1 : N ≤ 9223372036854775807 := by omega
  rw [← hN]
  have hcase : (0 ≤ n ∧ N = n) ∨ (n < 0 ∧ N = 0) := by omega
  clear hN
  rcases hcase with ⟨hc, rfl⟩ | ⟨hc, rfl⟩
  · go_enter Try.func30, Try.ntmps30
    go_wp2
    go_step3
    go_wp2
    go_step3
    go_wp2
    go_loop [6, 7] (fun s6 s7 => ∃ (k : Nat) (lf : Int), k ≤ l.length ∧ s6 = .int .i64 k ∧ s7 = .int .i64 lf ∧ 0 ≤ lf ∧ lf ≤ 9223372036854775807 ∧ sf l N = l.take k ++ sf (l.drop k) lf ∧ sg l N = sg (l.drop k) lf) (fun s6 _ => l.length - (intOf s6).toNat)
    case atStart => exact ⟨0, N, by omega, rfl, rfl, by omega, by omega, rfl, rfl⟩
    case round =>
      obtain ⟨k, lf, hk, rfl, rfl, hl0, hl1, hsf, hsg⟩ := hrel
      have HSF := Lib.hid hsf
      have HSG := Lib.hid hsg
      clear hsf hsg
      have q1 := slice_hm va l.length cap k (by omega)
      have q2 := slice_l va l.length cap k (by omega)
      by_cases hlt : k < l.length
      · obtain ⟨b, off, rfl, hbB, -, e0, e1⟩ := hl.at k hlt
        have hs := fileB_get hf k hlt
        have hst := fun lf h => sf_step (l := l) (k := k) (lf := lf) hlt h
        have hsg := fun lf h => sg_step (l := l) (k := k) (lf := lf) hlt h
        have htk := List.take_succ_eq_append_getElem hlt
        have hdr := List.drop_eq_getElem_cons hlt
        obtain ⟨xx, hx⟩ : ∃ xx, xx = l[k] := ⟨_, rfl⟩
        rw [← hx] at e0 e1 hs hst hsg htk hdr
        obtain ⟨a, m⟩ := xx
        simp only at e0 e1 hs hst hsg
        obtain ⟨s1, s2, s3⟩ := hs
        have HST := Lib.hid hst
        have HSS := Lib.hid hsg
        have HTK := Lib.hid htk
        have HDR := Lib.hid hdr
        clear hst hsg htk hdr hx
        by_cases hm : m ≤ lf
        · clear q1 q2
          go_wp2
          go_round
          case rel =>
            refine ⟨k + 1, lf - m, by omega, by go_num, rfl, by omega, by omega, ?_, ?_⟩
            · rw [HSF.out, HST.out lf (by omega), HTK.out]; simp
            · rw [HSG.out, HSS.out lf (by omega)]
          case measure => simp [intOf]; omega
        · by_cases hz : lf = 0
          · subst hz
            go_wp2
            try simp only [Act.put]
            refine wp_region_tab [RT.is (.slice (some ⟨b, off, none⟩) l.length cap), RT.is (.int .i64 k), RT.is (.int .i64 k), RT.is (.slice (some ⟨b, off, none⟩) k k), RT.runs (l.take k), RT.is (.slice (some ⟨b, off, none⟩) l.length cap), RT.is (.int .i64 k), RT.is (.slice (cutA (some ⟨b, off, none⟩) k cap) (l.length - k) (cap - k)), RT.runs (l.drop k), RT.runs (l.take k), RT.runs (l.drop k)] (by kernel_rfl) (by kernel_rfl) (by kernel_rfl) (by kernel_rfl) ⟨?_, ?_, ?_, ?_, ?_, ?_, ?_, ?_, ?_, ?_, ?_, trivial⟩ ?_
            · intro ac w' hF hL hP hU K hK
              have hB := below_undrew hL
              have e0 : ac.eval (.tmp 0) = .slice (some ⟨b, off, none⟩) l.length cap := hF.at 0 (by kernel_rfl)
              exact rop_move _ rfl e0 (wanted_none rfl) (hK _ _ (le8_refl _) rfl)
            · intro ac w' hF hL hP hU K hK
              have hB := below_undrew hL
              have e6 : ac.eval (.tmp 6) = .int .i64 k := hF.at 6 (by kernel_rfl)
              exact rop_move _ rfl e6 (wanted_none rfl) (hK _ _ (le8_refl _) rfl)
            · intro ac w' hF hL hP hU K hK
              have hB := below_undrew hL
              have e6 : ac.eval (.tmp 6) = .int .i64 k := hF.at 6 (by kernel_rfl)
              exact rop_move _ rfl e6 (wanted_none rfl) (hK _ _ (le8_refl _) rfl)
            · intro ac w' hF hL hP hU K hK
              have hB := below_undrew hL
              have e39 : ac.eval (.tmp 39) = .slice (some ⟨b, off, none⟩) l.length cap := hP 0 (by kernel_rfl)
              have e40 : ac.eval (.tmp 40) = .int .i64 k := hP 1 (by kernel_rfl)
              have e41 : ac.eval (.tmp 41) = .int .i64 k := hP 2 (by kernel_rfl)
              exact rop_slice _ _ _ _ _ rfl e39 rfl (by simp [e40]) (by simp [e41]) ((sliceAt_run _ _ _ _ _).trans (q1 _)) (wanted_none rfl) (hK _ _ (le8_refl _) rfl)
            · intro ac w' hF hL hP hU K hK
              have hB := below_undrew hL
              have e42 : ac.eval (.tmp 42) = .slice (some ⟨b, off, none⟩) k k := hP 3 (by kernel_rfl)
              refine rop_call 29 _ _ rfl #[.slice (some ⟨b, off, none⟩) k k] (by simp [e42]) (by kernel_rfl) (wanted_none rfl) ?_
              refine (clone_any _ (l.take k) w' ((hl.old hB).head k hk) (by rw [List.length_take]; omega)).mono ?_
              rintro e w2 ⟨v2, rfl, hr2, hb⟩
              exact ⟨_, rfl, hK _ _ hb hr2⟩
            · intro ac w' hF hL hP hU K hK
              have hB := below_undrew hL
              have e0 : ac.eval (.tmp 0) = .slice (some ⟨b, off, none⟩) l.length cap := hF.at 0 (by kernel_rfl)
              exact rop_move _ rfl e0 (wanted_none rfl) (hK _ _ (le8_refl _) rfl)
            · intro ac w' hF hL hP hU K hK
              have hB := below_undrew hL
              have e6 : ac.eval (.tmp 6) = .int .i64 k := hF.at 6 (by kernel_rfl)
              exact rop_move _ rfl e6 (wanted_none rfl) (hK _ _ (le8_refl _) rfl)
            · intro ac w' hF hL hP hU K hK
              have hB := below_undrew hL
              have e44 : ac.eval (.tmp 44) = .slice (some ⟨b, off, none⟩) l.length cap := hP 5 (by kernel_rfl)
              have e45 : ac.eval (.tmp 45) = .int .i64 k := hP 6 (by kernel_rfl)
              exact rop_slice _ _ _ _ _ rfl e44 (by simp [e45]) rfl rfl ((sliceAt_run _ _ _ _ _).trans (q2 _)) (wanted_none rfl) (hK _ _ (le8_refl _) rfl)
            · intro ac w' hF hL hP hU K hK
              have hB := below_undrew hL
              have e46 : ac.eval (.tmp 46) = .slice (cutA (some ⟨b, off, none⟩) k cap) (l.length - k) (cap - k) := hP 7 (by kernel_rfl)
              refine rop_call 29 _ _ rfl #[.slice (cutA (some ⟨b, off, none⟩) k cap) (l.length - k) (cap - k)] (by simp [e46]) (by kernel_rfl) (wanted_none rfl) ?_
              refine (clone_any _ (l.drop k) w' ((hl.old hB).tail k hk) (by rw [List.length_drop]; omega)).mono ?_
              rintro e w2 ⟨v2, rfl, hr2, hb⟩
              exact ⟨_, rfl, hK _ _ hb hr2⟩
            · intro ac w' hF hL hP hU K hK
              have hB := below_undrew hL
              have e43 : Runs w' (ac.eval (.tmp 43)) (l.take k) := hP 4 (by kernel_rfl)
              exact rop_assign _ rfl rfl (wanted_none rfl) (hK _ _ (le8_refl _) e43)
            · intro ac w' hF hL hP hU K hK
              have hB := below_undrew hL
              have e47 : Runs w' (ac.eval (.tmp 47)) (l.drop k) := hP 8 (by kernel_rfl)
              exact rop_assign _ rfl rfl (wanted_none rfl) (hK _ _ (le8_refl _) e47)
            · intro ac w' hF hB hT
              have e4 : Runs w' (ac.eval (.tmp 4)) (l.take k) := hT 9 (by decide)
              have e5 : Runs w' (ac.eval (.tmp 5)) (l.drop k) := hT 10 (by decide)
              rw [hF.lit 78 rfl]
              simp only [List.range, List.range.loop, List.map_cons, List.map_nil, hF.at 0 (by kernel_rfl), hF.at 1 (by kernel_rfl), hF.at 2 (by kernel_rfl), hF.at 3 (by kernel_rfl), hF.at 6 (by kernel_rfl), hF.at 7 (by kernel_rfl), hF.at 8 (by kernel_rfl), hF.at 9 (by kernel_rfl), hF.at 10 (by kernel_rfl), hF.at 11 (by kernel_rfl), hF.at 12 (by kernel_rfl), hF.at 13 (by kernel_rfl), hF.at 14 (by kernel_rfl), hF.at 15 (by kernel_rfl), hF.at 16 (by kernel_rfl), hF.at 17 (by kernel_rfl), hF.at 18 (by kernel_rfl), hF.at 19 (by kernel_rfl), hF.at 20 (by kernel_rfl), hF.at 21 (by kernel_rfl), hF.at 22 (by kernel_rfl), hF.at 23 (by kernel_rfl), hF.at 24 (by kernel_rfl), hF.at 25 (by kernel_rfl), hF.at 26 (by kernel_rfl), hF.at 27 (by kernel_rfl), hF.at 28 (by kernel_rfl), hF.at 29 (by kernel_rfl), hF.at 30 (by kernel_rfl), hF.at 31 (by kernel_rfl), hF.at 32 (by kernel_rfl), hF.at 33 (by kernel_rfl), hF.at 34 (by kernel_rfl), hF.at 35 (by kernel_rfl), hF.at 36 (by kernel_rfl), hF.at 37 (by kernel_rfl), hF.at 38 (by kernel_rfl), hF.at 48 (by kernel_rfl), hF.at 49 (by kernel_rfl), hF.at 50 (by kernel_rfl), hF.at 51 (by kernel_rfl), hF.at 52 (by kernel_rfl), hF.at 53 (by kernel_rfl), hF.at 54 (by kernel_rfl), hF.at 55 (by kernel_rfl), hF.at 56 (by kernel_rfl), hF.at 57 (by kernel_rfl), hF.at 58 (by kernel_rfl), hF.at 59 (by kernel_rfl), hF.at 60 (by kernel_rfl), hF.at 61 (by kernel_rfl), hF.at 62 (by kernel_rfl), hF.at 63 (by kernel_rfl), hF.at 64 (by kernel_rfl), hF.at 65 (by kernel_rfl), hF.at 66 (by kernel_rfl), hF.at 67 (by kernel_rfl), hF.at 68 (by kernel_rfl), hF.at 69 (by kernel_rfl), hF.at 70 (by kernel_rfl), hF.at 71 (by kernel_rfl), hF.at 72 (by kernel_rfl), hF.at 73 (by kernel_rfl), hF.at 74 (by kernel_rfl), hF.at 75 (by kernel_rfl), hF.at 76 (by kernel_rfl), hF.at 77 (by kernel_rfl)]
              generalize ac.eval (.tmp 39) = u39
              generalize ac.eval (.tmp 40) = u40
              generalize ac.eval (.tmp 41) = u41
              generalize ac.eval (.tmp 42) = u42
              generalize ac.eval (.tmp 43) = u43
              generalize ac.eval (.tmp 44) = u44
              generalize ac.eval (.tmp 45) = u45
              generalize ac.eval (.tmp 46) = u46
              generalize ac.eval (.tmp 47) = u47
              generalize ac.eval (.tmp 4) = v4 at e4 ⊢
              generalize ac.eval (.tmp 5) = v5 at e5 ⊢
              simp only [Act.eval, Array.getD_eq_getD_getElem?, List.getElem?_toArray, List.getElem?_cons_succ, List.getElem?_cons_zero, Option.getD_some]
              clear hT hF ac
              replace hb := hB
              go_wp2
              try rw [Exit.noGoto_ret]
              go_ret2
              refine ⟨v4, v5, rfl, ?_, ?_, hb⟩
              · rw [HSF.out, sf_zero (file_drop hf k) (Int.le_refl _), List.append_nil]; exact e4
              · rw [HSG.out, sg_zero (file_drop hf k) (Int.le_refl _)]; exact e5
          · have hz' : (lf == 0) = false := by simpa using hz
            obtain ⟨B8, hB8⟩ : ∃ B8, B8 = w.heap.size := ⟨_, rfl⟩
            obtain ⟨w5, hw5⟩ : ∃ w5, w5 = w.alloc (.cells #[.int .i64 a, .int .i64 m] 24) := ⟨_, rfl⟩
            have hb : Below w.heap.size w w5 := by rw [hw5]; exact below_box _ _
            have x8 : BoxAt w5 B8 a m := by rw [hw5, hB8]; exact BoxAt.new _ _ _
            have hrun := hl.old hb
            have HB8 := Lib.hid hB8
            have hlk : (l.take k).length = k := by rw [List.length_take]; omega
            have hput1 : ∀ u, Runs u (.slice (some ⟨b, off, none⟩) k k) (l.take k) → Calls Try.prog 36 #[.slice (some ⟨b, off, none⟩) k k, .int .i64 k, .int .i64 k, .agg #[.int .i64 a, .int .i64 lf]] u fun e w' => ∃ v', e = .returned v' ∧ Runs w' v' (l.take k ++ [(a, lf)]) ∧ Below u.heap.size u w' := fun u hu => by
              refine (put_any _ (l.take k) k k a lf u hu (Nat.le_refl _) (by omega) (by omega) (by unfold okR; simp only; omega)).mono fun e w' ⟨v', h1, h2, h3⟩ => ⟨v', h1, ?_, h3⟩
              have := h2.runs
              rw [List.take_of_length_le (by omega), List.drop_eq_nil_of_le (by omega)] at this
              exact this
            have hput2 : ∀ u, Runs u (.slice (cutA (some ⟨b, off, none⟩) k cap) (l.length - k) (cap - k)) (l.drop k) → Calls Try.prog 36 #[.slice (cutA (some ⟨b, off, none⟩) k cap) (l.length - k) (cap - k), .int .i64 0, .int .i64 1, .agg #[.int .i64 (a + lf), .int .i64 (m - lf)]] u fun e w' => ∃ v', e = .returned v' ∧ Runs w' v' ((a + lf, m - lf) :: l.drop (k + 1)) ∧ Below u.heap.size u w' := fun u hu => by
              refine (put_any _ (l.drop k) 0 1 (a + lf) (m - lf) u hu (by omega) (by rw [List.length_drop]; omega) (by rw [List.length_drop]; omega) (by unfold okR; simp only; omega)).mono fun e w' ⟨v', h1, h2, h3⟩ => ⟨v', h1, ?_, h3⟩
              have := h2.runs
              rw [List.take_zero, List.nil_append, List.drop_drop] at this
              exact this
            clear hlk
            go_wp2
            rw [← hw5, ← hB8]
            clear hw5 hB8 e0 e1
            try simp only [Act.put]
            refine wp_region_tab [RT.is (.slice (some ⟨b, off, none⟩) l.length cap), RT.is (.int .i64 k), RT.is (.int .i64 k), RT.is (.slice (some ⟨b, off, none⟩) k k), RT.is (.int .i64 k), RT.is (.int .i64 k), RT.is (.pointer (some ⟨B8, 0, none⟩)), RT.is (.int .i64 a), RT.is (.int .i64 lf), RT.is (.agg #[.int .i64 a, .int .i64 lf]), RT.runs (l.take k ++ [(a, lf)]), RT.runs (l.take k ++ [(a, lf)])] (by kernel_rfl) (by kernel_rfl) (by kernel_rfl) (by kernel_rfl) ⟨?_, ?_, ?_, ?_, ?_, ?_, ?_, ?_, ?_, ?_, ?_, ?_, trivial⟩ ?_
            · intro ac w' hF hL hP hU K hK
              have hB := below_undrew hL
              have e0 : ac.eval (.tmp 0) = .slice (some ⟨b, off, none⟩) l.length cap := hF.at 0 (by kernel_rfl)
              exact rop_move _ rfl e0 (wanted_none rfl) (hK _ _ (le8_refl _) rfl)
            · intro ac w' hF hL hP hU K hK
              have hB := below_undrew hL
              have e6 : ac.eval (.tmp 6) = .int .i64 k := hF.at 6 (by kernel_rfl)
              exact rop_move _ rfl e6 (wanted_none rfl) (hK _ _ (le8_refl _) rfl)
            · intro ac w' hF hL hP hU K hK
              have hB := below_undrew hL
              have e6 : ac.eval (.tmp 6) = .int .i64 k := hF.at 6 (by kernel_rfl)
              exact rop_move _ rfl e6 (wanted_none rfl) (hK _ _ (le8_refl _) rfl)
            · intro ac w' hF hL hP hU K hK
              have hB := below_undrew hL
              have e52 : ac.eval (.tmp 52) = .slice (some ⟨b, off, none⟩) l.length cap := hP 0 (by kernel_rfl)
              have e53 : ac.eval (.tmp 53) = .int .i64 k := hP 1 (by kernel_rfl)
              have e54 : ac.eval (.tmp 54) = .int .i64 k := hP 2 (by kernel_rfl)
              exact rop_slice _ _ _ _ _ rfl e52 rfl (by simp [e53]) (by simp [e54]) ((sliceAt_run _ _ _ _ _).trans (q1 _)) (wanted_none rfl) (hK _ _ (le8_refl _) rfl)
            · intro ac w' hF hL hP hU K hK
              have hB := below_undrew hL
              have e6 : ac.eval (.tmp 6) = .int .i64 k := hF.at 6 (by kernel_rfl)
              exact rop_move _ rfl e6 (wanted_none rfl) (hK _ _ (le8_refl _) rfl)
            · intro ac w' hF hL hP hU K hK
              have hB := below_undrew hL
              have e6 : ac.eval (.tmp 6) = .int .i64 k := hF.at 6 (by kernel_rfl)
              exact rop_move _ rfl e6 (wanted_none rfl) (hK _ _ (le8_refl _) rfl)
            · intro ac w' hF hL hP hU K hK
              have hB := below_undrew hL
              have e8 : ac.eval (.tmp 8) = .pointer (some ⟨B8, 0, none⟩) := hF.at 8 (by kernel_rfl)
              exact rop_fld _ _ _ rfl e8 (fld_run0 _ _ _) (wanted_none rfl) (hK _ _ (le8_refl _) rfl)
            · intro ac w' hF hL hP hU K hK
              have hB := below_undrew hL
              have e58 : ac.eval (.tmp 58) = .pointer (some ⟨B8, 0, none⟩) := hP 6 (by kernel_rfl)
              exact rop_ld _ _ rfl e58 (load_int (x8.old hB).c0) (wanted_none rfl) (hK _ _ (le8_refl _) rfl)
            · intro ac w' hF hL hP hU K hK
              have hB := below_undrew hL
              have e7 : ac.eval (.tmp 7) = .int .i64 lf := hF.at 7 (by kernel_rfl)
              exact rop_move _ rfl e7 (wanted_none rfl) (hK _ _ (le8_refl _) rfl)
            · intro ac w' hF hL hP hU K hK
              have hB := below_undrew hL
              have e59 : ac.eval (.tmp 59) = .int .i64 a := hP 7 (by kernel_rfl)
              have e60 : ac.eval (.tmp 60) = .int .i64 lf := hP 8 (by kernel_rfl)
              exact rop_build _ _ rfl _ (by simp [e59, e60]) (built_run _ _) (wanted_none rfl) (hK _ _ (le8_refl _) rfl)
            · intro ac w' hF hL hP hU K hK
              have hB := below_undrew hL
              have e55 : ac.eval (.tmp 55) = .slice (some ⟨b, off, none⟩) k k := hP 3 (by kernel_rfl)
              have e56 : ac.eval (.tmp 56) = .int .i64 k := hP 4 (by kernel_rfl)
              have e57 : ac.eval (.tmp 57) = .int .i64 k := hP 5 (by kernel_rfl)
              have e61 : ac.eval (.tmp 61) = .agg #[.int .i64 a, .int .i64 lf] := hP 9 (by kernel_rfl)
              refine rop_call 36 _ _ rfl #[.slice (some ⟨b, off, none⟩) k k, .int .i64 k, .int .i64 k, .agg #[.int .i64 a, .int .i64 lf]] (by simp [e55, e56, e57, e61]) (by kernel_rfl) (wanted_none rfl) ?_
              refine ((hput1 w' ((hrun.old hB).head k hk))).mono ?_
              rintro e w2 ⟨v2, rfl, hr2, hb⟩
              exact ⟨_, rfl, hK _ _ hb hr2⟩
            · intro ac w' hF hL hP hU K hK
              have hB := below_undrew hL
              have e62 : Runs w' (ac.eval (.tmp 62)) (l.take k ++ [(a, lf)]) := hP 10 (by kernel_rfl)
              exact rop_assign _ rfl rfl (wanted_none rfl) (hK _ _ (le8_refl _) e62)
            · intro ac w' hF hB hT
              have e4 : Runs w' (ac.eval (.tmp 4)) (l.take k ++ [(a, lf)]) := hT 11 (by decide)
              rw [hF.lit 78 rfl]
              simp only [List.range, List.range.loop, List.map_cons, List.map_nil, hF.at 0 (by kernel_rfl), hF.at 1 (by kernel_rfl), hF.at 2 (by kernel_rfl), hF.at 3 (by kernel_rfl), hF.at 5 (by kernel_rfl), hF.at 6 (by kernel_rfl), hF.at 7 (by kernel_rfl), hF.at 8 (by kernel_rfl), hF.at 9 (by kernel_rfl), hF.at 10 (by kernel_rfl), hF.at 11 (by kernel_rfl), hF.at 12 (by kernel_rfl), hF.at 13 (by kernel_rfl), hF.at 14 (by kernel_rfl), hF.at 15 (by kernel_rfl), hF.at 16 (by kernel_rfl), hF.at 17 (by kernel_rfl), hF.at 18 (by kernel_rfl), hF.at 19 (by kernel_rfl), hF.at 20 (by kernel_rfl), hF.at 21 (by kernel_rfl), hF.at 22 (by kernel_rfl), hF.at 23 (by kernel_rfl), hF.at 24 (by kernel_rfl), hF.at 25 (by kernel_rfl), hF.at 26 (by kernel_rfl), hF.at 27 (by kernel_rfl), hF.at 28 (by kernel_rfl), hF.at 29 (by kernel_rfl), hF.at 30 (by kernel_rfl), hF.at 31 (by kernel_rfl), hF.at 32 (by kernel_rfl), hF.at 33 (by kernel_rfl), hF.at 34 (by kernel_rfl), hF.at 35 (by kernel_rfl), hF.at 36 (by kernel_rfl), hF.at 37 (by kernel_rfl), hF.at 38 (by kernel_rfl), hF.at 39 (by kernel_rfl), hF.at 40 (by kernel_rfl), hF.at 41 (by kernel_rfl), hF.at 42 (by kernel_rfl), hF.at 43 (by kernel_rfl), hF.at 44 (by kernel_rfl), hF.at 45 (by kernel_rfl), hF.at 46 (by kernel_rfl), hF.at 47 (by kernel_rfl), hF.at 48 (by kernel_rfl), hF.at 49 (by kernel_rfl), hF.at 50 (by kernel_rfl), hF.at 51 (by kernel_rfl), hF.at 63 (by kernel_rfl), hF.at 64 (by kernel_rfl), hF.at 65 (by kernel_rfl), hF.at 66 (by kernel_rfl), hF.at 67 (by kernel_rfl), hF.at 68 (by kernel_rfl), hF.at 69 (by kernel_rfl), hF.at 70 (by kernel_rfl), hF.at 71 (by kernel_rfl), hF.at 72 (by kernel_rfl), hF.at 73 (by kernel_rfl), hF.at 74 (by kernel_rfl), hF.at 75 (by kernel_rfl), hF.at 76 (by kernel_rfl), hF.at 77 (by kernel_rfl)]
              generalize ac.eval (.tmp 52) = u52
              generalize ac.eval (.tmp 53) = u53
              generalize ac.eval (.tmp 54) = u54
              generalize ac.eval (.tmp 55) = u55
              generalize ac.eval (.tmp 56) = u56
              generalize ac.eval (.tmp 57) = u57
              generalize ac.eval (.tmp 58) = u58
              generalize ac.eval (.tmp 59) = u59
              generalize ac.eval (.tmp 60) = u60
              generalize ac.eval (.tmp 61) = u61
              generalize ac.eval (.tmp 62) = u62
              generalize ac.eval (.tmp 4) = v4 at e4 ⊢
              simp only [Act.eval, Array.getD_eq_getD_getElem?, List.getElem?_toArray, List.getElem?_cons_succ, List.getElem?_cons_zero, Option.getD_some]
              clear hT hF ac
              replace x8 := x8.old hB
              replace hrun := hrun.old hB
              replace hb := below_step hb (Nat.le_refl _) hB
              clear hB
              go_wp2
              try simp only [Act.put]
              refine wp_region_tab [RT.is (.slice (some ⟨b, off, none⟩) l.length cap), RT.is (.int .i64 k), RT.is (.slice (cutA (some ⟨b, off, none⟩) k cap) (l.length - k) (cap - k)), RT.is (.pointer (some ⟨B8, 0, none⟩)), RT.is (.int .i64 a), RT.is (.int .i64 lf), RT.is (.int .i64 (a + lf)), RT.is (.pointer (some ⟨B8, 0 + 1, none⟩)), RT.is (.int .i64 m), RT.is (.int .i64 lf), RT.is (.int .i64 (m - lf)), RT.is (.agg #[.int .i64 (a + lf), .int .i64 (m - lf)]), RT.runs ((a + lf, m - lf) :: l.drop (k + 1)), RT.runs ((a + lf, m - lf) :: l.drop (k + 1))] (by kernel_rfl) (by kernel_rfl) (by kernel_rfl) (by kernel_rfl) ⟨?_, ?_, ?_, ?_, ?_, ?_, ?_, ?_, ?_, ?_, ?_, ?_, ?_, ?_, trivial⟩ ?_
              · intro ac w' hF hL hP hU K hK
                have hB := below_undrew hL
                have e0 : ac.eval (.tmp 0) = .slice (some ⟨b, off, none⟩) l.length cap := hF.at 0 (by kernel_rfl)
                exact rop_move _ rfl e0 (wanted_none rfl) (hK _ _ (le8_refl _) rfl)
              · intro ac w' hF hL hP hU K hK
                have hB := below_undrew hL
                have e6 : ac.eval (.tmp 6) = .int .i64 k := hF.at 6 (by kernel_rfl)
                exact rop_move _ rfl e6 (wanted_none rfl) (hK _ _ (le8_refl _) rfl)
              · intro ac w' hF hL hP hU K hK
                have hB := below_undrew hL
                have e63 : ac.eval (.tmp 63) = .slice (some ⟨b, off, none⟩) l.length cap := hP 0 (by kernel_rfl)
                have e64 : ac.eval (.tmp 64) = .int .i64 k := hP 1 (by kernel_rfl)
                exact rop_slice _ _ _ _ _ rfl e63 (by simp [e64]) rfl rfl ((sliceAt_run _ _ _ _ _).trans (q2 _)) (wanted_none rfl) (hK _ _ (le8_refl _) rfl)
              · intro ac w' hF hL hP hU K hK
                have hB := below_undrew hL
                have e8 : ac.eval (.tmp 8) = .pointer (some ⟨B8, 0, none⟩) := hF.at 8 (by kernel_rfl)
                exact rop_fld _ _ _ rfl e8 (fld_run0 _ _ _) (wanted_none rfl) (hK _ _ (le8_refl _) rfl)
              · intro ac w' hF hL hP hU K hK
                have hB := below_undrew hL
                have e66 : ac.eval (.tmp 66) = .pointer (some ⟨B8, 0, none⟩) := hP 3 (by kernel_rfl)
                exact rop_ld _ _ rfl e66 (load_int (x8.old hB).c0) (wanted_none rfl) (hK _ _ (le8_refl _) rfl)
              · intro ac w' hF hL hP hU K hK
                have hB := below_undrew hL
                have e7 : ac.eval (.tmp 7) = .int .i64 lf := hF.at 7 (by kernel_rfl)
                exact rop_move _ rfl e7 (wanted_none rfl) (hK _ _ (le8_refl _) rfl)
              · intro ac w' hF hL hP hU K hK
                have hB := below_undrew hL
                have e67 : ac.eval (.tmp 67) = .int .i64 a := hP 4 (by kernel_rfl)
                have e68 : ac.eval (.tmp 68) = .int .i64 lf := hP 5 (by kernel_rfl)
                exact rop_bin _ _ _ _ _ rfl e67 e68 (guard_int _ _ _ _ _ _ _ w') (add_int _ _ _ (rfl) (by omega) w') (wanted_none rfl) (hK _ _ (le8_refl _) rfl)
              · intro ac w' hF hL hP hU K hK
                have hB := below_undrew hL
                have e8 : ac.eval (.tmp 8) = .pointer (some ⟨B8, 0, none⟩) := hF.at 8 (by kernel_rfl)
                exact rop_fld _ _ _ rfl e8 (fld_run1 _ _ _) (wanted_none rfl) (hK _ _ (le8_refl _) rfl)
              · intro ac w' hF hL hP hU K hK
                have hB := below_undrew hL
                have e70 : ac.eval (.tmp 70) = .pointer (some ⟨B8, 0 + 1, none⟩) := hP 7 (by kernel_rfl)
                exact rop_ld _ _ rfl e70 (load_int (x8.old hB).c1) (wanted_none rfl) (hK _ _ (le8_refl _) rfl)
              · intro ac w' hF hL hP hU K hK
                have hB := below_undrew hL
                have e7 : ac.eval (.tmp 7) = .int .i64 lf := hF.at 7 (by kernel_rfl)
                exact rop_move _ rfl e7 (wanted_none rfl) (hK _ _ (le8_refl _) rfl)
              · intro ac w' hF hL hP hU K hK
                have hB := below_undrew hL
                have e71 : ac.eval (.tmp 71) = .int .i64 m := hP 8 (by kernel_rfl)
                have e72 : ac.eval (.tmp 72) = .int .i64 lf := hP 9 (by kernel_rfl)
                exact rop_bin _ _ _ _ _ rfl e71 e72 (guard_int _ _ _ _ _ _ _ w') (sub_int _ _ _ (rfl) (by omega) w') (wanted_none rfl) (hK _ _ (le8_refl _) rfl)
              · intro ac w' hF hL hP hU K hK
                have hB := below_undrew hL
                have e69 : ac.eval (.tmp 69) = .int .i64 (a + lf) := hP 6 (by kernel_rfl)
                have e73 : ac.eval (.tmp 73) = .int .i64 (m - lf) := hP 10 (by kernel_rfl)
                exact rop_build _ _ rfl _ (by simp [e69, e73]) (built_run _ _) (wanted_none rfl) (hK _ _ (le8_refl _) rfl)
              · intro ac w' hF hL hP hU K hK
                have hB := below_undrew hL
                have e65 : ac.eval (.tmp 65) = .slice (cutA (some ⟨b, off, none⟩) k cap) (l.length - k) (cap - k) := hP 2 (by kernel_rfl)
                have e74 : ac.eval (.tmp 74) = .agg #[.int .i64 (a + lf), .int .i64 (m - lf)] := hP 11 (by kernel_rfl)
                refine rop_call 36 _ _ rfl #[.slice (cutA (some ⟨b, off, none⟩) k cap) (l.length - k) (cap - k), .int .i64 0, .int .i64 1, .agg #[.int .i64 (a + lf), .int .i64 (m - lf)]] (by simp [e65, e74, eval_const]) (by kernel_rfl) (wanted_none rfl) ?_
                refine ((hput2 w' ((hrun.old hB).tail k hk))).mono ?_
                rintro e w2 ⟨v2, rfl, hr2, hb⟩
                exact ⟨_, rfl, hK _ _ hb hr2⟩
              · intro ac w' hF hL hP hU K hK
                have hB := below_undrew hL
                have e75 : Runs w' (ac.eval (.tmp 75)) ((a + lf, m - lf) :: l.drop (k + 1)) := hP 12 (by kernel_rfl)
                exact rop_assign _ rfl rfl (wanted_none rfl) (hK _ _ (le8_refl _) e75)
              · intro ac w' hF hB hT
                have e5 : Runs w' (ac.eval (.tmp 5)) ((a + lf, m - lf) :: l.drop (k + 1)) := hT 13 (by decide)
                rw [hF.lit 78 rfl]
                simp only [List.range, List.range.loop, List.map_cons, List.map_nil, hF.at 0 (by kernel_rfl), hF.at 1 (by kernel_rfl), hF.at 2 (by kernel_rfl), hF.at 3 (by kernel_rfl), hF.at 4 (by kernel_rfl), hF.at 6 (by kernel_rfl), hF.at 7 (by kernel_rfl), hF.at 8 (by kernel_rfl), hF.at 9 (by kernel_rfl), hF.at 10 (by kernel_rfl), hF.at 11 (by kernel_rfl), hF.at 12 (by kernel_rfl), hF.at 13 (by kernel_rfl), hF.at 14 (by kernel_rfl), hF.at 15 (by kernel_rfl), hF.at 16 (by kernel_rfl), hF.at 17 (by kernel_rfl), hF.at 18 (by kernel_rfl), hF.at 19 (by kernel_rfl), hF.at 20 (by kernel_rfl), hF.at 21 (by kernel_rfl), hF.at 22 (by kernel_rfl), hF.at 23 (by kernel_rfl), hF.at 24 (by kernel_rfl), hF.at 25 (by kernel_rfl), hF.at 26 (by kernel_rfl), hF.at 27 (by kernel_rfl), hF.at 28 (by kernel_rfl), hF.at 29 (by kernel_rfl), hF.at 30 (by kernel_rfl), hF.at 31 (by kernel_rfl), hF.at 32 (by kernel_rfl), hF.at 33 (by kernel_rfl), hF.at 34 (by kernel_rfl), hF.at 35 (by kernel_rfl), hF.at 36 (by kernel_rfl), hF.at 37 (by kernel_rfl), hF.at 38 (by kernel_rfl), hF.at 39 (by kernel_rfl), hF.at 40 (by kernel_rfl), hF.at 41 (by kernel_rfl), hF.at 42 (by kernel_rfl), hF.at 43 (by kernel_rfl), hF.at 44 (by kernel_rfl), hF.at 45 (by kernel_rfl), hF.at 46 (by kernel_rfl), hF.at 47 (by kernel_rfl), hF.at 48 (by kernel_rfl), hF.at 49 (by kernel_rfl), hF.at 50 (by kernel_rfl), hF.at 51 (by kernel_rfl), hF.at 52 (by kernel_rfl), hF.at 53 (by kernel_rfl), hF.at 54 (by kernel_rfl), hF.at 55 (by kernel_rfl), hF.at 56 (by kernel_rfl), hF.at 57 (by kernel_rfl), hF.at 58 (by kernel_rfl), hF.at 59 (by kernel_rfl), hF.at 60 (by kernel_rfl), hF.at 61 (by kernel_rfl), hF.at 62 (by kernel_rfl), hF.at 76 (by kernel_rfl), hF.at 77 (by kernel_rfl)]
                generalize ac.eval (.tmp 63) = u63
                generalize ac.eval (.tmp 64) = u64
                generalize ac.eval (.tmp 65) = u65
                generalize ac.eval (.tmp 66) = u66
                generalize ac.eval (.tmp 67) = u67
                generalize ac.eval (.tmp 68) = u68
                generalize ac.eval (.tmp 69) = u69
                generalize ac.eval (.tmp 70) = u70
                generalize ac.eval (.tmp 71) = u71
                generalize ac.eval (.tmp 72) = u72
                generalize ac.eval (.tmp 73) = u73
                generalize ac.eval (.tmp 74) = u74
                generalize ac.eval (.tmp 75) = u75
                generalize ac.eval (.tmp 5) = v5 at e5 ⊢
                simp only [Act.eval, Array.getD_eq_getD_getElem?, List.getElem?_toArray, List.getElem?_cons_succ, List.getElem?_cons_zero, Option.getD_some]
                clear hT hF ac
                replace e4 := e4.old hB
                replace hb := below_step hb (Nat.le_refl _) hB
                clear hB
                go_wp2
                try rw [Exit.noGoto_ret]
                go_ret2
                refine ⟨v4, v5, rfl, ?_, ?_, hb⟩
                · rw [HSF.out, HDR.out, sf, if_neg (by simp only; omega), if_neg (by omega)]; exact e4
                · rw [HSG.out, HDR.out, sg, if_neg (by simp only; omega), if_neg (by omega)]; exact e5
      · obtain rfl : k = l.length := by omega
        go_wp2
        try simp only [Act.put]
        refine wp_region_tab [RT.is (.slice va l.length cap), RT.is (.int .i64 l.length), RT.is (.int .i64 l.length), RT.is (.slice va l.length l.length), RT.runs (l.take l.length), RT.is (.slice va l.length cap), RT.is (.int .i64 l.length), RT.is (.slice (cutA va l.length cap) (l.length - l.length) (cap - l.length)), RT.runs (l.drop l.length), RT.runs (l.take l.length), RT.runs (l.drop l.length)] (by kernel_rfl) (by kernel_rfl) (by kernel_rfl) (by kernel_rfl) ⟨?_, ?_, ?_, ?_, ?_, ?_, ?_, ?_, ?_, ?_, ?_, trivial⟩ ?_
        · intro ac w' hF hL hP hU K hK
          have hB := below_undrew hL
          have e0 : ac.eval (.tmp 0) = .slice va l.length cap := hF.at 0 (by kernel_rfl)
          exact rop_move _ rfl e0 (wanted_none rfl) (hK _ _ (le8_refl _) rfl)
        · intro ac w' hF hL hP hU K hK
          have hB := below_undrew hL
          have e6 : ac.eval (.tmp 6) = .int .i64 l.length := hF.at 6 (by kernel_rfl)
          exact rop_move _ rfl e6 (wanted_none rfl) (hK _ _ (le8_refl _) rfl)
        · intro ac w' hF hL hP hU K hK
          have hB := below_undrew hL
          have e6 : ac.eval (.tmp 6) = .int .i64 l.length := hF.at 6 (by kernel_rfl)
          exact rop_move _ rfl e6 (wanted_none rfl) (hK _ _ (le8_refl _) rfl)
        · intro ac w' hF hL hP hU K hK
          have hB := below_undrew hL
          have e39 : ac.eval (.tmp 39) = .slice va l.length cap := hP 0 (by kernel_rfl)
          have e40 : ac.eval (.tmp 40) = .int .i64 l.length := hP 1 (by kernel_rfl)
          have e41 : ac.eval (.tmp 41) = .int .i64 l.length := hP 2 (by kernel_rfl)
          exact rop_slice _ _ _ _ _ rfl e39 rfl (by simp [e40]) (by simp [e41]) ((sliceAt_run _ _ _ _ _).trans (q1 _)) (wanted_none rfl) (hK _ _ (le8_refl _) rfl)
        · intro ac w' hF hL hP hU K hK
          have hB := below_undrew hL
          have e42 : ac.eval (.tmp 42) = .slice va l.length l.length := hP 3 (by kernel_rfl)
          refine rop_call 29 _ _ rfl #[.slice va l.length l.length] (by simp [e42]) (by kernel_rfl) (wanted_none rfl) ?_
          refine (clone_any _ (l.take l.length) w' ((hl.old hB).head _ hk) (by rw [List.length_take]; omega)).mono ?_
          rintro e w2 ⟨v2, rfl, hr2, hb⟩
          exact ⟨_, rfl, hK _ _ hb hr2⟩
        · intro ac w' hF hL hP hU K hK
          have hB := below_undrew hL
          have e0 : ac.eval (.tmp 0) = .slice va l.length cap := hF.at 0 (by kernel_rfl)
          exact rop_move _ rfl e0 (wanted_none rfl) (hK _ _ (le8_refl _) rfl)
        · intro ac w' hF hL hP hU K hK
          have hB := below_undrew hL
          have e6 : ac.eval (.tmp 6) = .int .i64 l.length := hF.at 6 (by kernel_rfl)
          exact rop_move _ rfl e6 (wanted_none rfl) (hK _ _ (le8_refl _) rfl)
        · intro ac w' hF hL hP hU K hK
          have hB := below_undrew hL
          have e44 : ac.eval (.tmp 44) = .slice va l.length cap := hP 5 (by kernel_rfl)
          have e45 : ac.eval (.tmp 45) = .int .i64 l.length := hP 6 (by kernel_rfl)
          exact rop_slice _ _ _ _ _ rfl e44 (by simp [e45]) rfl rfl ((sliceAt_run _ _ _ _ _).trans (q2 _)) (wanted_none rfl) (hK _ _ (le8_refl _) rfl)
        · intro ac w' hF hL hP hU K hK
          have hB := below_undrew hL
          have e46 : ac.eval (.tmp 46) = .slice (cutA va l.length cap) (l.length - l.length) (cap - l.length) := hP 7 (by kernel_rfl)
          refine rop_call 29 _ _ rfl #[.slice (cutA va l.length cap) (l.length - l.length) (cap - l.length)] (by simp [e46]) (by kernel_rfl) (wanted_none rfl) ?_
          refine (clone_any _ (l.drop l.length) w' ((hl.old hB).tail _ hk) (by rw [List.length_drop]; omega)).mono ?_
          rintro e w2 ⟨v2, rfl, hr2, hb⟩
          exact ⟨_, rfl, hK _ _ hb hr2⟩
        · intro ac w' hF hL hP hU K hK
          have hB := below_undrew hL
          have e43 : Runs w' (ac.eval (.tmp 43)) (l.take l.length) := hP 4 (by kernel_rfl)
          exact rop_assign _ rfl rfl (wanted_none rfl) (hK _ _ (le8_refl _) e43)
        · intro ac w' hF hL hP hU K hK
          have hB := below_undrew hL
          have e47 : Runs w' (ac.eval (.tmp 47)) (l.drop l.length) := hP 8 (by kernel_rfl)
          exact rop_assign _ rfl rfl (wanted_none rfl) (hK _ _ (le8_refl _) e47)
        · intro ac w' hF hB hT
          have e4 : Runs w' (ac.eval (.tmp 4)) (l.take l.length) := hT 9 (by decide)
          have e5 : Runs w' (ac.eval (.tmp 5)) (l.drop l.length) := hT 10 (by decide)
          rw [hF.lit 78 rfl]
          simp only [List.range, List.range.loop, List.map_cons, List.map_nil, hF.at 0 (by kernel_rfl), hF.at 1 (by kernel_rfl), hF.at 2 (by kernel_rfl), hF.at 3 (by kernel_rfl), hF.at 6 (by kernel_rfl), hF.at 7 (by kernel_rfl), hF.at 8 (by kernel_rfl), hF.at 9 (by kernel_rfl), hF.at 10 (by kernel_rfl), hF.at 11 (by kernel_rfl), hF.at 12 (by kernel_rfl), hF.at 13 (by kernel_rfl), hF.at 14 (by kernel_rfl), hF.at 15 (by kernel_rfl), hF.at 16 (by kernel_rfl), hF.at 17 (by kernel_rfl), hF.at 18 (by kernel_rfl), hF.at 19 (by kernel_rfl), hF.at 20 (by kernel_rfl), hF.at 21 (by kernel_rfl), hF.at 22 (by kernel_rfl), hF.at 23 (by kernel_rfl), hF.at 24 (by kernel_rfl), hF.at 25 (by kernel_rfl), hF.at 26 (by kernel_rfl), hF.at 27 (by kernel_rfl), hF.at 28 (by kernel_rfl), hF.at 29 (by kernel_rfl), hF.at 30 (by kernel_rfl), hF.at 31 (by kernel_rfl), hF.at 32 (by kernel_rfl), hF.at 33 (by kernel_rfl), hF.at 34 (by kernel_rfl), hF.at 35 (by kernel_rfl), hF.at 36 (by kernel_rfl), hF.at 37 (by kernel_rfl), hF.at 38 (by kernel_rfl), hF.at 48 (by kernel_rfl), hF.at 49 (by kernel_rfl), hF.at 50 (by kernel_rfl), hF.at 51 (by kernel_rfl), hF.at 52 (by kernel_rfl), hF.at 53 (by kernel_rfl), hF.at 54 (by kernel_rfl), hF.at 55 (by kernel_rfl), hF.at 56 (by kernel_rfl), hF.at 57 (by kernel_rfl), hF.at 58 (by kernel_rfl), hF.at 59 (by kernel_rfl), hF.at 60 (by kernel_rfl), hF.at 61 (by kernel_rfl), hF.at 62 (by kernel_rfl), hF.at 63 (by kernel_rfl), hF.at 64 (by kernel_rfl), hF.at 65 (by kernel_rfl), hF.at 66 (by kernel_rfl), hF.at 67 (by kernel_rfl), hF.at 68 (by kernel_rfl), hF.at 69 (by kernel_rfl), hF.at 70 (by kernel_rfl), hF.at 71 (by kernel_rfl), hF.at 72 (by kernel_rfl), hF.at 73 (by kernel_rfl), hF.at 74 (by kernel_rfl), hF.at 75 (by kernel_rfl), hF.at 76 (by kernel_rfl), hF.at 77 (by kernel_rfl)]
          generalize ac.eval (.tmp 39) = u39
          generalize ac.eval (.tmp 40) = u40
          generalize ac.eval (.tmp 41) = u41
          generalize ac.eval (.tmp 42) = u42
          generalize ac.eval (.tmp 43) = u43
          generalize ac.eval (.tmp 44) = u44
          generalize ac.eval (.tmp 45) = u45
          generalize ac.eval (.tmp 46) = u46
          generalize ac.eval (.tmp 47) = u47
          generalize ac.eval (.tmp 4) = v4 at e4 ⊢
          generalize ac.eval (.tmp 5) = v5 at e5 ⊢
          simp only [Act.eval, Array.getD_eq_getD_getElem?, List.getElem?_toArray, List.getElem?_cons_succ, List.getElem?_cons_zero, Option.getD_some]
          clear hT hF ac
          replace hb := hB
          go_wp2
          try rw [Exit.noGoto_ret]
          go_ret2
          refine ⟨v4, v5, rfl, ?_, ?_, hb⟩
          · rw [HSF.out, List.drop_eq_nil_of_le (Nat.le_refl _)]; simpa [sf] using e4
          · rw [HSG.out, List.drop_eq_nil_of_le (Nat.le_refl _)]; simpa [sg] using e5
  · go_enter Try.func30, Try.ntmps30
    go_wp2
    go_step3
    go_wp2
    go_step3
    go_wp2
    go_loop [6, 7] (fun s6 s7 => ∃ (k : Nat) (lf : Int), k ≤ l.length ∧ s6 = .int .i64 k ∧ s7 = .int .i64 lf ∧ 0 ≤ lf ∧ lf ≤ 9223372036854775807 ∧ sf l 0 = l.take k ++ sf (l.drop k) lf ∧ sg l 0 = sg (l.drop k) lf) (fun s6 _ => l.length - (intOf s6).toNat)
    case atStart => exact ⟨0, 0, by omega, rfl, rfl, by omega, by omega, rfl, rfl⟩
    case round =>
      obtain ⟨k, lf, hk, rfl, rfl, hl0, hl1, hsf, hsg⟩ := hrel
      have HSF := Lib.hid hsf
      have HSG := Lib.hid hsg
      clear hsf hsg
      have q1 := slice_hm va l.length cap k (by omega)
      have q2 := slice_l va l.length cap k (by omega)
      by_cases hlt : k < l.length
      · obtain ⟨b, off, rfl, hbB, -, e0, e1⟩ := hl.at k hlt
        have hs := fileB_get hf k hlt
        have hst := fun lf h => sf_step (l := l) (k := k) (lf := lf) hlt h
        have hsg := fun lf h => sg_step (l := l) (k := k) (lf := lf) hlt h
        have htk := List.take_succ_eq_append_getElem hlt
        have hdr := List.drop_eq_getElem_cons hlt
        obtain ⟨xx, hx⟩ : ∃ xx, xx = l[k] := ⟨_, rfl⟩
        rw [← hx] at e0 e1 hs hst hsg htk hdr
        obtain ⟨a, m⟩ := xx
        simp only at e0 e1 hs hst hsg
        obtain ⟨s1, s2, s3⟩ := hs
        have HST := Lib.hid hst
        have HSS := Lib.hid hsg
        have HTK := Lib.hid htk
        have HDR := Lib.hid hdr
        clear hst hsg htk hdr hx
        by_cases hm : m ≤ lf
        · clear q1 q2
          go_wp2
          go_round
          case rel =>
            refine ⟨k + 1, lf - m, by omega, by go_num, rfl, by omega, by omega, ?_, ?_⟩
            · rw [HSF.out, HST.out lf (by omega), HTK.out]; simp
            · rw [HSG.out, HSS.out lf (by omega)]
          case measure => simp [intOf]; omega
        · by_cases hz : lf = 0
          · subst hz
            go_wp2
            try simp only [Act.put]
            refine wp_region_tab [RT.is (.slice (some ⟨b, off, none⟩) l.length cap), RT.is (.int .i64 k), RT.is (.int .i64 k), RT.is (.slice (some ⟨b, off, none⟩) k k), RT.runs (l.take k), RT.is (.slice (some ⟨b, off, none⟩) l.length cap), RT.is (.int .i64 k), RT.is (.slice (cutA (some ⟨b, off, none⟩) k cap) (l.length - k) (cap - k)), RT.runs (l.drop k), RT.runs (l.take k), RT.runs (l.drop k)] (by kernel_rfl) (by kernel_rfl) (by kernel_rfl) (by kernel_rfl) ⟨?_, ?_, ?_, ?_, ?_, ?_, ?_, ?_, ?_, ?_, ?_, trivial⟩ ?_
            · intro ac w' hF hL hP hU K hK
              have hB := below_undrew hL
              have e0 : ac.eval (.tmp 0) = .slice (some ⟨b, off, none⟩) l.length cap := hF.at 0 (by kernel_rfl)
              exact rop_move _ rfl e0 (wanted_none rfl) (hK _ _ (le8_refl _) rfl)
            · intro ac w' hF hL hP hU K hK
              have hB := below_undrew hL
              have e6 : ac.eval (.tmp 6) = .int .i64 k := hF.at 6 (by kernel_rfl)
              exact rop_move _ rfl e6 (wanted_none rfl) (hK _ _ (le8_refl _) rfl)
            · intro ac w' hF hL hP hU K hK
              have hB := below_undrew hL
              have e6 : ac.eval (.tmp 6) = .int .i64 k := hF.at 6 (by kernel_rfl)
              exact rop_move _ rfl e6 (wanted_none rfl) (hK _ _ (le8_refl _) rfl)
            · intro ac w' hF hL hP hU K hK
              have hB := below_undrew hL
              have e39 : ac.eval (.tmp 39) = .slice (some ⟨b, off, none⟩) l.length cap := hP 0 (by kernel_rfl)
              have e40 : ac.eval (.tmp 40) = .int .i64 k := hP 1 (by kernel_rfl)
              have e41 : ac.eval (.tmp 41) = .int .i64 k := hP 2 (by kernel_rfl)
              exact rop_slice _ _ _ _ _ rfl e39 rfl (by simp [e40]) (by simp [e41]) ((sliceAt_run _ _ _ _ _).trans (q1 _)) (wanted_none rfl) (hK _ _ (le8_refl _) rfl)
            · intro ac w' hF hL hP hU K hK
              have hB := below_undrew hL
              have e42 : ac.eval (.tmp 42) = .slice (some ⟨b, off, none⟩) k k := hP 3 (by kernel_rfl)
              refine rop_call 29 _ _ rfl #[.slice (some ⟨b, off, none⟩) k k] (by simp [e42]) (by kernel_rfl) (wanted_none rfl) ?_
              refine (clone_any _ (l.take k) w' ((hl.old hB).head k hk) (by rw [List.length_take]; omega)).mono ?_
              rintro e w2 ⟨v2, rfl, hr2, hb⟩
              exact ⟨_, rfl, hK _ _ hb hr2⟩
            · intro ac w' hF hL hP hU K hK
              have hB := below_undrew hL
              have e0 : ac.eval (.tmp 0) = .slice (some ⟨b, off, none⟩) l.length cap := hF.at 0 (by kernel_rfl)
              exact rop_move _ rfl e0 (wanted_none rfl) (hK _ _ (le8_refl _) rfl)
            · intro ac w' hF hL hP hU K hK
              have hB := below_undrew hL
              have e6 : ac.eval (.tmp 6) = .int .i64 k := hF.at 6 (by kernel_rfl)
              exact rop_move _ rfl e6 (wanted_none rfl) (hK _ _ (le8_refl _) rfl)
            · intro ac w' hF hL hP hU K hK
              have hB := below_undrew hL
              have e44 : ac.eval (.tmp 44) = .slice (some ⟨b, off, none⟩) l.length cap := hP 5 (by kernel_rfl)
              have e45 : ac.eval (.tmp 45) = .int .i64 k := hP 6 (by kernel_rfl)
              exact rop_slice _ _ _ _ _ rfl e44 (by simp [e45]) rfl rfl ((sliceAt_run _ _ _ _ _).trans (q2 _)) (wanted_none rfl) (hK _ _ (le8_refl _) rfl)
            · intro ac w' hF hL hP hU K hK
              have hB := below_undrew hL
              have e46 : ac.eval (.tmp 46) = .slice (cutA (some ⟨b, off, none⟩) k cap) (l.length - k) (cap - k) := hP 7 (by kernel_rfl)
              refine rop_call 29 _ _ rfl #[.slice (cutA (some ⟨b, off, none⟩) k cap) (l.length - k) (cap - k)] (by simp [e46]) (by kernel_rfl) (wanted_none rfl) ?_
              refine (clone_any _ (l.drop k) w' ((hl.old hB).tail k hk) (by rw [List.length_drop]; omega)).mono ?_
              rintro e w2 ⟨v2, rfl, hr2, hb⟩
              exact ⟨_, rfl, hK _ _ hb hr2⟩
            · intro ac w' hF hL hP hU K hK
              have hB := below_undrew hL
              have e43 : Runs w' (ac.eval (.tmp 43)) (l.take k) := hP 4 (by kernel_rfl)
              exact rop_assign _ rfl rfl (wanted_none rfl) (hK _ _ (le8_refl _) e43)
            · intro ac w' hF hL hP hU K hK
              have hB := below_undrew hL
              have e47 : Runs w' (ac.eval (.tmp 47)) (l.drop k) := hP 8 (by kernel_rfl)
              exact rop_assign _ rfl rfl (wanted_none rfl) (hK _ _ (le8_refl _) e47)
            · intro ac w' hF hB hT
              have e4 : Runs w' (ac.eval (.tmp 4)) (l.take k) := hT 9 (by decide)
              have e5 : Runs w' (ac.eval (.tmp 5)) (l.drop k) := hT 10 (by decide)
              rw [hF.lit 78 rfl]
              simp only [List.range, List.range.loop, List.map_cons, List.map_nil, hF.at 0 (by kernel_rfl), hF.at 1 (by kernel_rfl), hF.at 2 (by kernel_rfl), hF.at 3 (by kernel_rfl), hF.at 6 (by kernel_rfl), hF.at 7 (by kernel_rfl), hF.at 8 (by kernel_rfl), hF.at 9 (by kernel_rfl), hF.at 10 (by kernel_rfl), hF.at 11 (by kernel_rfl), hF.at 12 (by kernel_rfl), hF.at 13 (by kernel_rfl), hF.at 14 (by kernel_rfl), hF.at 15 (by kernel_rfl), hF.at 16 (by kernel_rfl), hF.at 17 (by kernel_rfl), hF.at 18 (by kernel_rfl), hF.at 19 (by kernel_rfl), hF.at 20 (by kernel_rfl), hF.at 21 (by kernel_rfl), hF.at 22 (by kernel_rfl), hF.at 23 (by kernel_rfl), hF.at 24 (by kernel_rfl), hF.at 25 (by kernel_rfl), hF.at 26 (by kernel_rfl), hF.at 27 (by kernel_rfl), hF.at 28 (by kernel_rfl), hF.at 29 (by kernel_rfl), hF.at 30 (by kernel_rfl), hF.at 31 (by kernel_rfl), hF.at 32 (by kernel_rfl), hF.at 33 (by kernel_rfl), hF.at 34 (by kernel_rfl), hF.at 35 (by kernel_rfl), hF.at 36 (by kernel_rfl), hF.at 37 (by kernel_rfl), hF.at 38 (by kernel_rfl), hF.at 48 (by kernel_rfl), hF.at 49 (by kernel_rfl), hF.at 50 (by kernel_rfl), hF.at 51 (by kernel_rfl), hF.at 52 (by kernel_rfl), hF.at 53 (by kernel_rfl), hF.at 54 (by kernel_rfl), hF.at 55 (by kernel_rfl), hF.at 56 (by kernel_rfl), hF.at 57 (by kernel_rfl), hF.at 58 (by kernel_rfl), hF.at 59 (by kernel_rfl), hF.at 60 (by kernel_rfl), hF.at 61 (by kernel_rfl), hF.at 62 (by kernel_rfl), hF.at 63 (by kernel_rfl), hF.at 64 (by kernel_rfl), hF.at 65 (by kernel_rfl), hF.at 66 (by kernel_rfl), hF.at 67 (by kernel_rfl), hF.at 68 (by kernel_rfl), hF.at 69 (by kernel_rfl), hF.at 70 (by kernel_rfl), hF.at 71 (by kernel_rfl), hF.at 72 (by kernel_rfl), hF.at 73 (by kernel_rfl), hF.at 74 (by kernel_rfl), hF.at 75 (by kernel_rfl), hF.at 76 (by kernel_rfl), hF.at 77 (by kernel_rfl)]
              generalize ac.eval (.tmp 39) = u39
              generalize ac.eval (.tmp 40) = u40
              generalize ac.eval (.tmp 41) = u41
              generalize ac.eval (.tmp 42) = u42
              generalize ac.eval (.tmp 43) = u43
              generalize ac.eval (.tmp 44) = u44
              generalize ac.eval (.tmp 45) = u45
              generalize ac.eval (.tmp 46) = u46
              generalize ac.eval (.tmp 47) = u47
              generalize ac.eval (.tmp 4) = v4 at e4 ⊢
              generalize ac.eval (.tmp 5) = v5 at e5 ⊢
              simp only [Act.eval, Array.getD_eq_getD_getElem?, List.getElem?_toArray, List.getElem?_cons_succ, List.getElem?_cons_zero, Option.getD_some]
              clear hT hF ac
              replace hb := hB
              go_wp2
              try rw [Exit.noGoto_ret]
              go_ret2
              refine ⟨v4, v5, rfl, ?_, ?_, hb⟩
              · rw [HSF.out, sf_zero (file_drop hf k) (Int.le_refl _), List.append_nil]; exact e4
              · rw [HSG.out, sg_zero (file_drop hf k) (Int.le_refl _)]; exact e5
          · have hz' : (lf == 0) = false := by simpa using hz
            obtain ⟨B8, hB8⟩ : ∃ B8, B8 = w.heap.size := ⟨_, rfl⟩
            obtain ⟨w5, hw5⟩ : ∃ w5, w5 = w.alloc (.cells #[.int .i64 a, .int .i64 m] 24) := ⟨_, rfl⟩
            have hb : Below w.heap.size w w5 := by rw [hw5]; exact below_box _ _
            have x8 : BoxAt w5 B8 a m := by rw [hw5, hB8]; exact BoxAt.new _ _ _
            have hrun := hl.old hb
            have HB8 := Lib.hid hB8
            have hlk : (l.take k).length = k := by rw [List.length_take]; omega
            have hput1 : ∀ u, Runs u (.slice (some ⟨b, off, none⟩) k k) (l.take k) → Calls Try.prog 36 #[.slice (some ⟨b, off, none⟩) k k, .int .i64 k, .int .i64 k, .agg #[.int .i64 a, .int .i64 lf]] u fun e w' => ∃ v', e = .returned v' ∧ Runs w' v' (l.take k ++ [(a, lf)]) ∧ Below u.heap.size u w' := fun u hu => by
              refine (put_any _ (l.take k) k k a lf u hu (Nat.le_refl _) (by omega) (by omega) (by unfold okR; simp only; omega)).mono fun e w' ⟨v', h1, h2, h3⟩ => ⟨v', h1, ?_, h3⟩
              have := h2.runs
              rw [List.take_of_length_le (by omega), List.drop_eq_nil_of_le (by omega)] at this
              exact this
            have hput2 : ∀ u, Runs u (.slice (cutA (some ⟨b, off, none⟩) k cap) (l.length - k) (cap - k)) (l.drop k) → Calls Try.prog 36 #[.slice (cutA (some ⟨b, off, none⟩) k cap) (l.length - k) (cap - k), .int .i64 0, .int .i64 1, .agg #[.int .i64 (a + lf), .int .i64 (m - lf)]] u fun e w' => ∃ v', e = .returned v' ∧ Runs w' v' ((a + lf, m - lf) :: l.drop (k + 1)) ∧ Below u.heap.size u w' := fun u hu => by
              refine (put_any _ (l.drop k) 0 1 (a + lf) (m - lf) u hu (by omega) (by rw [List.length_drop]; omega) (by rw [List.length_drop]; omega) (by unfold okR; simp only; omega)).mono fun e w' ⟨v', h1, h2, h3⟩ => ⟨v', h1, ?_, h3⟩
              have := h2.runs
              rw [List.take_zero, List.nil_append, List.drop_drop] at this
              exact this
            clear hlk
            go_wp2
            rw [← hw5, ← hB8]
            clear hw5 hB8 e0 e1
            try simp only [Act.put]
            refine wp_region_tab [RT.is (.slice (some ⟨b, off, none⟩) l.length cap), RT.is (.int .i64 k), RT.is (.int .i64 k), RT.is (.slice (some ⟨b, off, none⟩) k k), RT.is (.int .i64 k), RT.is (.int .i64 k), RT.is (.pointer (some ⟨B8, 0, none⟩)), RT.is (.int .i64 a), RT.is (.int .i64 lf), RT.is (.agg #[.int .i64 a, .int .i64 lf]), RT.runs (l.take k ++ [(a, lf)]), RT.runs (l.take k ++ [(a, lf)])] (by kernel_rfl) (by kernel_rfl) (by kernel_rfl) (by kernel_rfl) ⟨?_, ?_, ?_, ?_, ?_, ?_, ?_, ?_, ?_, ?_, ?_, ?_, trivial⟩ ?_
            · intro ac w' hF hL hP hU K hK
              have hB := below_undrew hL
              have e0 : ac.eval (.tmp 0) = .slice (some ⟨b, off, none⟩) l.length cap := hF.at 0 (by kernel_rfl)
              exact rop_move _ rfl e0 (wanted_none rfl) (hK _ _ (le8_refl _) rfl)
            · intro ac w' hF hL hP hU K hK
              have hB := below_undrew hL
              have e6 : ac.eval (.tmp 6) = .int .i64 k := hF.at 6 (by kernel_rfl)
              exact rop_move _ rfl e6 (wanted_none rfl) (hK _ _ (le8_refl _) rfl)
            · intro ac w' hF hL hP hU K hK
              have hB := below_undrew hL
              have e6 : ac.eval (.tmp 6) = .int .i64 k := hF.at 6 (by kernel_rfl)
              exact rop_move _ rfl e6 (wanted_none rfl) (hK _ _ (le8_refl _) rfl)
            · intro ac w' hF hL hP hU K hK
              have hB := below_undrew hL
              have e52 : ac.eval (.tmp 52) = .slice (some ⟨b, off, none⟩) l.length cap := hP 0 (by kernel_rfl)
              have e53 : ac.eval (.tmp 53) = .int .i64 k := hP 1 (by kernel_rfl)
              have e54 : ac.eval (.tmp 54) = .int .i64 k := hP 2 (by kernel_rfl)
              exact rop_slice _ _ _ _ _ rfl e52 rfl (by simp [e53]) (by simp [e54]) ((sliceAt_run _ _ _ _ _).trans (q1 _)) (wanted_none rfl) (hK _ _ (le8_refl _) rfl)
            · intro ac w' hF hL hP hU K hK
              have hB := below_undrew hL
              have e6 : ac.eval (.tmp 6) = .int .i64 k := hF.at 6 (by kernel_rfl)
              exact rop_move _ rfl e6 (wanted_none rfl) (hK _ _ (le8_refl _) rfl)
            · intro ac w' hF hL hP hU K hK
              have hB := below_undrew hL
              have e6 : ac.eval (.tmp 6) = .int .i64 k := hF.at 6 (by kernel_rfl)
              exact rop_move _ rfl e6 (wanted_none rfl) (hK _ _ (le8_refl _) rfl)
            · intro ac w' hF hL hP hU K hK
              have hB := below_undrew hL
              have e8 : ac.eval (.tmp 8) = .pointer (some ⟨B8, 0, none⟩) := hF.at 8 (by kernel_rfl)
              exact rop_fld _ _ _ rfl e8 (fld_run0 _ _ _) (wanted_none rfl) (hK _ _ (le8_refl _) rfl)
            · intro ac w' hF hL hP hU K hK
              have hB := below_undrew hL
              have e58 : ac.eval (.tmp 58) = .pointer (some ⟨B8, 0, none⟩) := hP 6 (by kernel_rfl)
              exact rop_ld _ _ rfl e58 (load_int (x8.old hB).c0) (wanted_none rfl) (hK _ _ (le8_refl _) rfl)
            · intro ac w' hF hL hP hU K hK
              have hB := below_undrew hL
              have e7 : ac.eval (.tmp 7) = .int .i64 lf := hF.at 7 (by kernel_rfl)
              exact rop_move _ rfl e7 (wanted_none rfl) (hK _ _ (le8_refl _) rfl)
            · intro ac w' hF hL hP hU K hK
              have hB := below_undrew hL
              have e59 : ac.eval (.tmp 59) = .int .i64 a := hP 7 (by kernel_rfl)
              have e60 : ac.eval (.tmp 60) = .int .i64 lf := hP 8 (by kernel_rfl)
              exact rop_build _ _ rfl _ (by simp [e59, e60]) (built_run _ _) (wanted_none rfl) (hK _ _ (le8_refl _) rfl)
            · intro ac w' hF hL hP hU K hK
              have hB := below_undrew hL
              have e55 : ac.eval (.tmp 55) = .slice (some ⟨b, off, none⟩) k k := hP 3 (by kernel_rfl)
              have e56 : ac.eval (.tmp 56) = .int .i64 k := hP 4 (by kernel_rfl)
              have e57 : ac.eval (.tmp 57) = .int .i64 k := hP 5 (by kernel_rfl)
              have e61 : ac.eval (.tmp 61) = .agg #[.int .i64 a, .int .i64 lf] := hP 9 (by kernel_rfl)
              refine rop_call 36 _ _ rfl #[.slice (some ⟨b, off, none⟩) k k, .int .i64 k, .int .i64 k, .agg #[.int .i64 a, .int .i64 lf]] (by simp [e55, e56, e57, e61]) (by kernel_rfl) (wanted_none rfl) ?_
              refine ((hput1 w' ((hrun.old hB).head k hk))).mono ?_
              rintro e w2 ⟨v2, rfl, hr2, hb⟩
              exact ⟨_, rfl, hK _ _ hb hr2⟩
            · intro ac w' hF hL hP hU K hK
              have hB := below_undrew hL
              have e62 : Runs w' (ac.eval (.tmp 62)) (l.take k ++ [(a, lf)]) := hP 10 (by kernel_rfl)
              exact rop_assign _ rfl rfl (wanted_none rfl) (hK _ _ (le8_refl _) e62)
            · intro ac w' hF hB hT
              have e4 : Runs w' (ac.eval (.tmp 4)) (l.take k ++ [(a, lf)]) := hT 11 (by decide)
              rw [hF.lit 78 rfl]
              simp only [List.range, List.range.loop, List.map_cons, List.map_nil, hF.at 0 (by kernel_rfl), hF.at 1 (by kernel_rfl), hF.at 2 (by kernel_rfl), hF.at 3 (by kernel_rfl), hF.at 5 (by kernel_rfl), hF.at 6 (by kernel_rfl), hF.at 7 (by kernel_rfl), hF.at 8 (by kernel_rfl), hF.at 9 (by kernel_rfl), hF.at 10 (by kernel_rfl), hF.at 11 (by kernel_rfl), hF.at 12 (by kernel_rfl), hF.at 13 (by kernel_rfl), hF.at 14 (by kernel_rfl), hF.at 15 (by kernel_rfl), hF.at 16 (by kernel_rfl), hF.at 17 (by kernel_rfl), hF.at 18 (by kernel_rfl), hF.at 19 (by kernel_rfl), hF.at 20 (by kernel_rfl), hF.at 21 (by kernel_rfl), hF.at 22 (by kernel_rfl), hF.at 23 (by kernel_rfl), hF.at 24 (by kernel_rfl), hF.at 25 (by kernel_rfl), hF.at 26 (by kernel_rfl), hF.at 27 (by kernel_rfl), hF.at 28 (by kernel_rfl), hF.at 29 (by kernel_rfl), hF.at 30 (by kernel_rfl), hF.at 31 (by kernel_rfl), hF.at 32 (by kernel_rfl), hF.at 33 (by kernel_rfl), hF.at 34 (by kernel_rfl), hF.at 35 (by kernel_rfl), hF.at 36 (by kernel_rfl), hF.at 37 (by kernel_rfl), hF.at 38 (by kernel_rfl), hF.at 39 (by kernel_rfl), hF.at 40 (by kernel_rfl), hF.at 41 (by kernel_rfl), hF.at 42 (by kernel_rfl), hF.at 43 (by kernel_rfl), hF.at 44 (by kernel_rfl), hF.at 45 (by kernel_rfl), hF.at 46 (by kernel_rfl), hF.at 47 (by kernel_rfl), hF.at 48 (by kernel_rfl), hF.at 49 (by kernel_rfl), hF.at 50 (by kernel_rfl), hF.at 51 (by kernel_rfl), hF.at 63 (by kernel_rfl), hF.at 64 (by kernel_rfl), hF.at 65 (by kernel_rfl), hF.at 66 (by kernel_rfl), hF.at 67 (by kernel_rfl), hF.at 68 (by kernel_rfl), hF.at 69 (by kernel_rfl), hF.at 70 (by kernel_rfl), hF.at 71 (by kernel_rfl), hF.at 72 (by kernel_rfl), hF.at 73 (by kernel_rfl), hF.at 74 (by kernel_rfl), hF.at 75 (by kernel_rfl), hF.at 76 (by kernel_rfl), hF.at 77 (by kernel_rfl)]
              generalize ac.eval (.tmp 52) = u52
              generalize ac.eval (.tmp 53) = u53
              generalize ac.eval (.tmp 54) = u54
              generalize ac.eval (.tmp 55) = u55
              generalize ac.eval (.tmp 56) = u56
              generalize ac.eval (.tmp 57) = u57
              generalize ac.eval (.tmp 58) = u58
              generalize ac.eval (.tmp 59) = u59
              generalize ac.eval (.tmp 60) = u60
              generalize ac.eval (.tmp 61) = u61
              generalize ac.eval (.tmp 62) = u62
              generalize ac.eval (.tmp 4) = v4 at e4 ⊢
              simp only [Act.eval, Array.getD_eq_getD_getElem?, List.getElem?_toArray, List.getElem?_cons_succ, List.getElem?_cons_zero, Option.getD_some]
              clear hT hF ac
              replace x8 := x8.old hB
              replace hrun := hrun.old hB
              replace hb := below_step hb (Nat.le_refl _) hB
              clear hB
              go_wp2
              try simp only [Act.put]
              refine wp_region_tab [RT.is (.slice (some ⟨b, off, none⟩) l.length cap), RT.is (.int .i64 k), RT.is (.slice (cutA (some ⟨b, off, none⟩) k cap) (l.length - k) (cap - k)), RT.is (.pointer (some ⟨B8, 0, none⟩)), RT.is (.int .i64 a), RT.is (.int .i64 lf), RT.is (.int .i64 (a + lf)), RT.is (.pointer (some ⟨B8, 0 + 1, none⟩)), RT.is (.int .i64 m), RT.is (.int .i64 lf), RT.is (.int .i64 (m - lf)), RT.is (.agg #[.int .i64 (a + lf), .int .i64 (m - lf)]), RT.runs ((a + lf, m - lf) :: l.drop (k + 1)), RT.runs ((a + lf, m - lf) :: l.drop (k + 1))] (by kernel_rfl) (by kernel_rfl) (by kernel_rfl) (by kernel_rfl) ⟨?_, ?_, ?_, ?_, ?_, ?_, ?_, ?_, ?_, ?_, ?_, ?_, ?_, ?_, trivial⟩ ?_
              · intro ac w' hF hL hP hU K hK
                have hB := below_undrew hL
                have e0 : ac.eval (.tmp 0) = .slice (some ⟨b, off, none⟩) l.length cap := hF.at 0 (by kernel_rfl)
                exact rop_move _ rfl e0 (wanted_none rfl) (hK _ _ (le8_refl _) rfl)
              · intro ac w' hF hL hP hU K hK
                have hB := below_undrew hL
                have e6 : ac.eval (.tmp 6) = .int .i64 k := hF.at 6 (by kernel_rfl)
                exact rop_move _ rfl e6 (wanted_none rfl) (hK _ _ (le8_refl _) rfl)
              · intro ac w' hF hL hP hU K hK
                have hB := below_undrew hL
                have e63 : ac.eval (.tmp 63) = .slice (some ⟨b, off, none⟩) l.length cap := hP 0 (by kernel_rfl)
                have e64 : ac.eval (.tmp 64) = .int .i64 k := hP 1 (by kernel_rfl)
                exact rop_slice _ _ _ _ _ rfl e63 (by simp [e64]) rfl rfl ((sliceAt_run _ _ _ _ _).trans (q2 _)) (wanted_none rfl) (hK _ _ (le8_refl _) rfl)
              · intro ac w' hF hL hP hU K hK
                have hB := below_undrew hL
                have e8 : ac.eval (.tmp 8) = .pointer (some ⟨B8, 0, none⟩) := hF.at 8 (by kernel_rfl)
                exact rop_fld _ _ _ rfl e8 (fld_run0 _ _ _) (wanted_none rfl) (hK _ _ (le8_refl _) rfl)
              · intro ac w' hF hL hP hU K hK
                have hB := below_undrew hL
                have e66 : ac.eval (.tmp 66) = .pointer (some ⟨B8, 0, none⟩) := hP 3 (by kernel_rfl)
                exact rop_ld _ _ rfl e66 (load_int (x8.old hB).c0) (wanted_none rfl) (hK _ _ (le8_refl _) rfl)
              · intro ac w' hF hL hP hU K hK
                have hB := below_undrew hL
                have e7 : ac.eval (.tmp 7) = .int .i64 lf := hF.at 7 (by kernel_rfl)
                exact rop_move _ rfl e7 (wanted_none rfl) (hK _ _ (le8_refl _) rfl)
              · intro ac w' hF hL hP hU K hK
                have hB := below_undrew hL
                have e67 : ac.eval (.tmp 67) = .int .i64 a := hP 4 (by kernel_rfl)
                have e68 : ac.eval (.tmp 68) = .int .i64 lf := hP 5 (by kernel_rfl)
                exact rop_bin _ _ _ _ _ rfl e67 e68 (guard_int _ _ _ _ _ _ _ w') (add_int _ _ _ (rfl) (by omega) w') (wanted_none rfl) (hK _ _ (le8_refl _) rfl)
              · intro ac w' hF hL hP hU K hK
                have hB := below_undrew hL
                have e8 : ac.eval (.tmp 8) = .pointer (some ⟨B8, 0, none⟩) := hF.at 8 (by kernel_rfl)
                exact rop_fld _ _ _ rfl e8 (fld_run1 _ _ _) (wanted_none rfl) (hK _ _ (le8_refl _) rfl)
              · intro ac w' hF hL hP hU K hK
                have hB := below_undrew hL
                have e70 : ac.eval (.tmp 70) = .pointer (some ⟨B8, 0 + 1, none⟩) := hP 7 (by kernel_rfl)
                exact rop_ld _ _ rfl e70 (load_int (x8.old hB).c1) (wanted_none rfl) (hK _ _ (le8_refl _) rfl)
              · intro ac w' hF hL hP hU K hK
                have hB := below_undrew hL
                have e7 : ac.eval (.tmp 7) = .int .i64 lf := hF.at 7 (by kernel_rfl)
                exact rop_move _ rfl e7 (wanted_none rfl) (hK _ _ (le8_refl _) rfl)
              · intro ac w' hF hL hP hU K hK
                have hB := below_undrew hL
                have e71 : ac.eval (.tmp 71) = .int .i64 m := hP 8 (by kernel_rfl)
                have e72 : ac.eval (.tmp 72) = .int .i64 lf := hP 9 (by kernel_rfl)
                exact rop_bin _ _ _ _ _ rfl e71 e72 (guard_int _ _ _ _ _ _ _ w') (sub_int _ _ _ (rfl) (by omega) w') (wanted_none rfl) (hK _ _ (le8_refl _) rfl)
              · intro ac w' hF hL hP hU K hK
                have hB := below_undrew hL
                have e69 : ac.eval (.tmp 69) = .int .i64 (a + lf) := hP 6 (by kernel_rfl)
                have e73 : ac.eval (.tmp 73) = .int .i64 (m - lf) := hP 10 (by kernel_rfl)
                exact rop_build _ _ rfl _ (by simp [e69, e73]) (built_run _ _) (wanted_none rfl) (hK _ _ (le8_refl _) rfl)
              · intro ac w' hF hL hP hU K hK
                have hB := below_undrew hL
                have e65 : ac.eval (.tmp 65) = .slice (cutA (some ⟨b, off, none⟩) k cap) (l.length - k) (cap - k) := hP 2 (by kernel_rfl)
                have e74 : ac.eval (.tmp 74) = .agg #[.int .i64 (a + lf), .int .i64 (m - lf)] := hP 11 (by kernel_rfl)
                refine rop_call 36 _ _ rfl #[.slice (cutA (some ⟨b, off, none⟩) k cap) (l.length - k) (cap - k), .int .i64 0, .int .i64 1, .agg #[.int .i64 (a + lf), .int .i64 (m - lf)]] (by simp [e65, e74, eval_const]) (by kernel_rfl) (wanted_none rfl) ?_
                refine ((hput2 w' ((hrun.old hB).tail k hk))).mono ?_
                rintro e w2 ⟨v2, rfl, hr2, hb⟩
                exact ⟨_, rfl, hK _ _ hb hr2⟩
              · intro ac w' hF hL hP hU K hK
                have hB := below_undrew hL
                have e75 : Runs w' (ac.eval (.tmp 75)) ((a + lf, m - lf) :: l.drop (k + 1)) := hP 12 (by kernel_rfl)
                exact rop_assign _ rfl rfl (wanted_none rfl) (hK _ _ (le8_refl _) e75)
              · intro ac w' hF hB hT
                have e5 : Runs w' (ac.eval (.tmp 5)) ((a + lf, m - lf) :: l.drop (k + 1)) := hT 13 (by decide)
                rw [hF.lit 78 rfl]
                simp only [List.range, List.range.loop, List.map_cons, List.map_nil, hF.at 0 (by kernel_rfl), hF.at 1 (by kernel_rfl), hF.at 2 (by kernel_rfl), hF.at 3 (by kernel_rfl), hF.at 4 (by kernel_rfl), hF.at 6 (by kernel_rfl), hF.at 7 (by kernel_rfl), hF.at 8 (by kernel_rfl), hF.at 9 (by kernel_rfl), hF.at 10 (by kernel_rfl), hF.at 11 (by kernel_rfl), hF.at 12 (by kernel_rfl), hF.at 13 (by kernel_rfl), hF.at 14 (by kernel_rfl), hF.at 15 (by kernel_rfl), hF.at 16 (by kernel_rfl), hF.at 17 (by kernel_rfl), hF.at 18 (by kernel_rfl), hF.at 19 (by kernel_rfl), hF.at 20 (by kernel_rfl), hF.at 21 (by kernel_rfl), hF.at 22 (by kernel_rfl), hF.at 23 (by kernel_rfl), hF.at 24 (by kernel_rfl), hF.at 25 (by kernel_rfl), hF.at 26 (by kernel_rfl), hF.at 27 (by kernel_rfl), hF.at 28 (by kernel_rfl), hF.at 29 (by kernel_rfl), hF.at 30 (by kernel_rfl), hF.at 31 (by kernel_rfl), hF.at 32 (by kernel_rfl), hF.at 33 (by kernel_rfl), hF.at 34 (by kernel_rfl), hF.at 35 (by kernel_rfl), hF.at 36 (by kernel_rfl), hF.at 37 (by kernel_rfl), hF.at 38 (by kernel_rfl), hF.at 39 (by kernel_rfl), hF.at 40 (by kernel_rfl), hF.at 41 (by kernel_rfl), hF.at 42 (by kernel_rfl), hF.at 43 (by kernel_rfl), hF.at 44 (by kernel_rfl), hF.at 45 (by kernel_rfl), hF.at 46 (by kernel_rfl), hF.at 47 (by kernel_rfl), hF.at 48 (by kernel_rfl), hF.at 49 (by kernel_rfl), hF.at 50 (by kernel_rfl), hF.at 51 (by kernel_rfl), hF.at 52 (by kernel_rfl), hF.at 53 (by kernel_rfl), hF.at 54 (by kernel_rfl), hF.at 55 (by kernel_rfl), hF.at 56 (by kernel_rfl), hF.at 57 (by kernel_rfl), hF.at 58 (by kernel_rfl), hF.at 59 (by kernel_rfl), hF.at 60 (by kernel_rfl), hF.at 61 (by kernel_rfl), hF.at 62 (by kernel_rfl), hF.at 76 (by kernel_rfl), hF.at 77 (by kernel_rfl)]
                generalize ac.eval (.tmp 63) = u63
                generalize ac.eval (.tmp 64) = u64
                generalize ac.eval (.tmp 65) = u65
                generalize ac.eval (.tmp 66) = u66
                generalize ac.eval (.tmp 67) = u67
                generalize ac.eval (.tmp 68) = u68
                generalize ac.eval (.tmp 69) = u69
                generalize ac.eval (.tmp 70) = u70
                generalize ac.eval (.tmp 71) = u71
                generalize ac.eval (.tmp 72) = u72
                generalize ac.eval (.tmp 73) = u73
                generalize ac.eval (.tmp 74) = u74
                generalize ac.eval (.tmp 75) = u75
                generalize ac.eval (.tmp 5) = v5 at e5 ⊢
                simp only [Act.eval, Array.getD_eq_getD_getElem?, List.getElem?_toArray, List.getElem?_cons_succ, List.getElem?_cons_zero, Option.getD_some]
                clear hT hF ac
                replace e4 := e4.old hB
                replace hb := below_step hb (Nat.le_refl _) hB
                clear hB
                go_wp2
                try rw [Exit.noGoto_ret]
                go_ret2
                refine ⟨v4, v5, rfl, ?_, ?_, hb⟩
                · rw [HSF.out, HDR.out, sf, if_neg (by simp only; omega), if_neg (by omega)]; exact e4
                · rw [HSG.out, HDR.out, sg, if_neg (by simp only; omega), if_neg (by omega)]; exact e5
      · obtain rfl : k = l.length := by omega
        go_wp2
        try simp only [Act.put]
        refine wp_region_tab [RT.is (.slice va l.length cap), RT.is (.int .i64 l.length), RT.is (.int .i64 l.length), RT.is (.slice va l.length l.length), RT.runs (l.take l.length), RT.is (.slice va l.length cap), RT.is (.int .i64 l.length), RT.is (.slice (cutA va l.length cap) (l.length - l.length) (cap - l.length)), RT.runs (l.drop l.length), RT.runs (l.take l.length), RT.runs (l.drop l.length)] (by kernel_rfl) (by kernel_rfl) (by kernel_rfl) (by kernel_rfl) ⟨?_, ?_, ?_, ?_, ?_, ?_, ?_, ?_, ?_, ?_, ?_, trivial⟩ ?_
        · intro ac w' hF hL hP hU K hK
          have hB := below_undrew hL
          have e0 : ac.eval (.tmp 0) = .slice va l.length cap := hF.at 0 (by kernel_rfl)
          exact rop_move _ rfl e0 (wanted_none rfl) (hK _ _ (le8_refl _) rfl)
        · intro ac w' hF hL hP hU K hK
          have hB := below_undrew hL
          have e6 : ac.eval (.tmp 6) = .int .i64 l.length := hF.at 6 (by kernel_rfl)
          exact rop_move _ rfl e6 (wanted_none rfl) (hK _ _ (le8_refl _) rfl)
        · intro ac w' hF hL hP hU K hK
          have hB := below_undrew hL
          have e6 : ac.eval (.tmp 6) = .int .i64 l.length := hF.at 6 (by kernel_rfl)
          exact rop_move _ rfl e6 (wanted_none rfl) (hK _ _ (le8_refl _) rfl)
        · intro ac w' hF hL hP hU K hK
          have hB := below_undrew hL
          have e39 : ac.eval (.tmp 39) = .slice va l.length cap := hP 0 (by kernel_rfl)
          have e40 : ac.eval (.tmp 40) = .int .i64 l.length := hP 1 (by kernel_rfl)
          have e41 : ac.eval (.tmp 41) = .int .i64 l.length := hP 2 (by kernel_rfl)
          exact rop_slice _ _ _ _ _ rfl e39 rfl (by simp [e40]) (by simp [e41]) ((sliceAt_run _ _ _ _ _).trans (q1 _)) (wanted_none rfl) (hK _ _ (le8_refl _) rfl)
        · intro ac w' hF hL hP hU K hK
          have hB := below_undrew hL
          have e42 : ac.eval (.tmp 42) = .slice va l.length l.length := hP 3 (by kernel_rfl)
          refine rop_call 29 _ _ rfl #[.slice va l.length l.length] (by simp [e42]) (by kernel_rfl) (wanted_none rfl) ?_
          refine (clone_any _ (l.take l.length) w' ((hl.old hB).head _ hk) (by rw [List.length_take]; omega)).mono ?_
          rintro e w2 ⟨v2, rfl, hr2, hb⟩
          exact ⟨_, rfl, hK _ _ hb hr2⟩
        · intro ac w' hF hL hP hU K hK
          have hB := below_undrew hL
          have e0 : ac.eval (.tmp 0) = .slice va l.length cap := hF.at 0 (by kernel_rfl)
          exact rop_move _ rfl e0 (wanted_none rfl) (hK _ _ (le8_refl _) rfl)
        · intro ac w' hF hL hP hU K hK
          have hB := below_undrew hL
          have e6 : ac.eval (.tmp 6) = .int .i64 l.length := hF.at 6 (by kernel_rfl)
          exact rop_move _ rfl e6 (wanted_none rfl) (hK _ _ (le8_refl _) rfl)
        · intro ac w' hF hL hP hU K hK
          have hB := below_undrew hL
          have e44 : ac.eval (.tmp 44) = .slice va l.length cap := hP 5 (by kernel_rfl)
          have e45 : ac.eval (.tmp 45) = .int .i64 l.length := hP 6 (by kernel_rfl)
          exact rop_slice _ _ _ _ _ rfl e44 (by simp [e45]) rfl rfl ((sliceAt_run _ _ _ _ _).trans (q2 _)) (wanted_none rfl) (hK _ _ (le8_refl _) rfl)
        · intro ac w' hF hL hP hU K hK
          have hB := below_undrew hL
          have e46 : ac.eval (.tmp 46) = .slice (cutA va l.length cap) (l.length - l.length) (cap - l.length) := hP 7 (by kernel_rfl)
          refine rop_call 29 _ _ rfl #[.slice (cutA va l.length cap) (l.length - l.length) (cap - l.length)] (by simp [e46]) (by kernel_rfl) (wanted_none rfl) ?_
          refine (clone_any _ (l.drop l.length) w' ((hl.old hB).tail _ hk) (by rw [List.length_drop]; omega)).mono ?_
          rintro e w2 ⟨v2, rfl, hr2, hb⟩
          exact ⟨_, rfl, hK _ _ hb hr2⟩
        · intro ac w' hF hL hP hU K hK
          have hB := below_undrew hL
          have e43 : Runs w' (ac.eval (.tmp 43)) (l.take l.length) := hP 4 (by kernel_rfl)
          exact rop_assign _ rfl rfl (wanted_none rfl) (hK _ _ (le8_refl _) e43)
        · intro ac w' hF hL hP hU K hK
          have hB := below_undrew hL
          have e47 : Runs w' (ac.eval (.tmp 47)) (l.drop l.length) := hP 8 (by kernel_rfl)
          exact rop_assign _ rfl rfl (wanted_none rfl) (hK _ _ (le8_refl _) e47)
        · intro ac w' hF hB hT
          have e4 : Runs w' (ac.eval (.tmp 4)) (l.take l.length) := hT 9 (by decide)
          have e5 : Runs w' (ac.eval (.tmp 5)) (l.drop l.length) := hT 10 (by decide)
          rw [hF.lit 78 rfl]
          simp only [List.range, List.range.loop, List.map_cons, List.map_nil, hF.at 0 (by kernel_rfl), hF.at 1 (by kernel_rfl), hF.at 2 (by kernel_rfl), hF.at 3 (by kernel_rfl), hF.at 6 (by kernel_rfl), hF.at 7 (by kernel_rfl), hF.at 8 (by kernel_rfl), hF.at 9 (by kernel_rfl), hF.at 10 (by kernel_rfl), hF.at 11 (by kernel_rfl), hF.at 12 (by kernel_rfl), hF.at 13 (by kernel_rfl), hF.at 14 (by kernel_rfl), hF.at 15 (by kernel_rfl), hF.at 16 (by kernel_rfl), hF.at 17 (by kernel_rfl), hF.at 18 (by kernel_rfl), hF.at 19 (by kernel_rfl), hF.at 20 (by kernel_rfl), hF.at 21 (by kernel_rfl), hF.at 22 (by kernel_rfl), hF.at 23 (by kernel_rfl), hF.at 24 (by kernel_rfl), hF.at 25 (by kernel_rfl), hF.at 26 (by kernel_rfl), hF.at 27 (by kernel_rfl), hF.at 28 (by kernel_rfl), hF.at 29 (by kernel_rfl), hF.at 30 (by kernel_rfl), hF.at 31 (by kernel_rfl), hF.at 32 (by kernel_rfl), hF.at 33 (by kernel_rfl), hF.at 34 (by kernel_rfl), hF.at 35 (by kernel_rfl), hF.at 36 (by kernel_rfl), hF.at 37 (by kernel_rfl), hF.at 38 (by kernel_rfl), hF.at 48 (by kernel_rfl), hF.at 49 (by kernel_rfl), hF.at 50 (by kernel_rfl), hF.at 51 (by kernel_rfl), hF.at 52 (by kernel_rfl), hF.at 53 (by kernel_rfl), hF.at 54 (by kernel_rfl), hF.at 55 (by kernel_rfl), hF.at 56 (by kernel_rfl), hF.at 57 (by kernel_rfl), hF.at 58 (by kernel_rfl), hF.at 59 (by kernel_rfl), hF.at 60 (by kernel_rfl), hF.at 61 (by kernel_rfl), hF.at 62 (by kernel_rfl), hF.at 63 (by kernel_rfl), hF.at 64 (by kernel_rfl), hF.at 65 (by kernel_rfl), hF.at 66 (by kernel_rfl), hF.at 67 (by kernel_rfl), hF.at 68 (by kernel_rfl), hF.at 69 (by kernel_rfl), hF.at 70 (by kernel_rfl), hF.at 71 (by kernel_rfl), hF.at 72 (by kernel_rfl), hF.at 73 (by kernel_rfl), hF.at 74 (by kernel_rfl), hF.at 75 (by kernel_rfl), hF.at 76 (by kernel_rfl), hF.at 77 (by kernel_rfl)]
          generalize ac.eval (.tmp 39) = u39
          generalize ac.eval (.tmp 40) = u40
          generalize ac.eval (.tmp 41) = u41
          generalize ac.eval (.tmp 42) = u42
          generalize ac.eval (.tmp 43) = u43
          generalize ac.eval (.tmp 44) = u44
          generalize ac.eval (.tmp 45) = u45
          generalize ac.eval (.tmp 46) = u46
          generalize ac.eval (.tmp 47) = u47
          generalize ac.eval (.tmp 4) = v4 at e4 ⊢
          generalize ac.eval (.tmp 5) = v5 at e5 ⊢
          simp only [Act.eval, Array.getD_eq_getD_getElem?, List.getElem?_toArray, List.getElem?_cons_succ, List.getElem?_cons_zero, Option.getD_some]
          clear hT hF ac
          replace hb := hB
          go_wp2
          try rw [Exit.noGoto_ret]
          go_ret2
          refine ⟨v4, v5, rfl, ?_, ?_, hb⟩
          · rw [HSF.out, List.drop_eq_nil_of_le (Nat.le_refl _)]; simpa [sf] using e4
          · rw [HSG.out, List.drop_eq_nil_of_le (Nat.le_refl _)]; simpa [sg] using e5
end Go.Proofs.Ytlbnopfbfnobnaa
