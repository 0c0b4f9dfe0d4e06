/-
  The document's own Give.
-/
import Derived.Test.YtlbnopfbfnobnaaExtRefC
namespace Go.Proofs.Ytlbnopfbfnobnaa
open Go.RowKit Ext

theorem ahead_is : ∀ {l : List Rn} {r : Rn} {k : Nat}, k ≤ l.length → (∀ i (h : i < l.length), i < k → l[i].1 < r.1) → (∀ h : k < l.length, ¬ l[k].1 < r.1) → Ext.ahead l r = k
  | [], r, k, hk, _, _ => by simp at hk; subst hk; rfl
  | x :: t, r, 0, _, _, h2 => by rw [ahead_cons, if_neg (show ¬ x.1 < r.1 from h2 (by simp))]
  | x :: t, r, k + 1, hk, h1, h2 => by
    rw [ahead_cons, if_pos (show x.1 < r.1 from h1 0 (by simp) (by omega)), ahead_is (k := k) (by simpa using hk) (fun i h hik => h1 (i + 1) (by simpa using h) (by omega)) (fun h => h2 (by simpa using h))]
set_option maxHeartbeats 12800000 in
set_option maxRecDepth 100000 in
theorem rgive_any (v : Value) (l : List Rn) (a n : Int) (w : World) (hl : Runs w v l) (hr : okR (a, n)) (hn : l.length ≤ 900) :
    Calls Try.prog 15 #[v, .agg #[.int .i64 a, .int .i64 n]] w fun e w' => ∃ v', e = .returned (.tuple #[v', .bool (givB l (a, n))]) ∧ Runs w' v' (givV l (a, n)) ∧ Below w.heap.size w w' := by
  obtain ⟨va, cap, rfl, hlc, hcap⟩ := hl.slice
  obtain ⟨B3, hB3⟩ : ∃ B3, B3 = w.heap.size := ⟨_, rfl⟩
  obtain ⟨w1, hw1⟩ : ∃ w1, w1 = w.alloc (.cells #[.int .i64 a, .int .i64 n] 24) := ⟨_, rfl⟩
  have x3 : BoxAt w1 B3 a n := by rw [hw1, hB3]; exact BoxAt.new _ _ _
  have b1 : Below w.heap.size w w1 := by rw [hw1]; exact below_box _ _
  have hl1 := hl.old b1
  have HB := Lib.hid hB3
  have hgd := good_any a n w1 hr
  have hck := fun u (hu : Runs u (.slice va l.length cap) l) => rcheck_any _ l u hu
  have c0 := x3.c0
  have c1 := x3.c1
  go_enter Try.func15, Try.ntmps15
  go_upto_region 1 with fail
  rw [← hw1, ← hB3]
  clear hw1 hB3
  cases hc : chk 0 l with
  | false =>
    have hg : givO l (a, n) = none := by unfold givO; rw [hc]; rfl
    have HGB := Lib.hid (show givB l (a, n) = false by unfold givB; rw [hg]; rfl)
    have HGV := Lib.hid (show givV l (a, n) = l by unfold givV; rw [hg]; rfl)
    rw [show chkE l = 1 by unfold chkE; rw [hc]; rfl] at hck
    clear hg
    obtain ⟨sb, hsb⟩ : ∃ sb, sb = sndB (a, n) := ⟨_, rfl⟩
    rw [← hsb] at hgd
    clear hsb
    go_wp2_with (first
      | (go_at_call 37; refine hgd.mono ?_; rintro e w2 ⟨rfl, b2⟩; replace hl1 := hl1.old b2)
      | (go_at_call 31; refine (hck _ hl1).mono ?_; rintro e w3 ⟨rfl, b3⟩; replace hl1 := hl1.old b3))
    go_ret2
    exact ⟨_, by rw [HGB.out]; rfl, by rw [HGV.out]; exact hl1, below_step (below_step b1 (Nat.le_refl _) b2) (Nat.le_refl _) b3⟩
  | true =>
    rw [show chkE l = 0 by unfold chkE; rw [hc]; rfl] at hck
    cases hs : sndB (a, n) with
    | false =>
      have hg : givO l (a, n) = none := by unfold givO; rw [hs]; simp
      have HGB := Lib.hid (show givB l (a, n) = false by unfold givB; rw [hg]; rfl)
      have HGV := Lib.hid (show givV l (a, n) = l by unfold givV; rw [hg]; rfl)
      rw [hs] at hgd
      clear hg
      go_wp2_with (first
        | (go_at_call 37; refine hgd.mono ?_; rintro e w2 ⟨rfl, b2⟩; replace hl1 := hl1.old b2)
        | (go_at_call 31; refine (hck _ hl1).mono ?_; rintro e w3 ⟨rfl, b3⟩; replace hl1 := hl1.old b3))
      go_ret2
      exact ⟨_, by rw [HGB.out]; rfl, by rw [HGV.out]; exact hl1, below_step (below_step b1 (Nat.le_refl _) b2) (Nat.le_refl _) b3⟩
    | true =>
      rw [hs] at hgd
      have hs' := (sndB_iff _).1 hs
      simp only at hs'
      obtain ⟨s1, s2, s3⟩ := hs'
      have hf := chk_file hc
      have hge : givO l (a, n) = gvR l (a, n) := by
        unfold givO
        rw [if_pos ⟨hc, hs⟩, gvR_eq hc s1 s2 s3]
      have HGE := Lib.hid hge
      clear hge
      go_upto_region 4 with (first
        | (go_at_call 37; refine hgd.mono ?_; rintro e w2 ⟨rfl, b2⟩; replace hl1 := hl1.old b2; replace x3 := x3.old b2)
        | (go_at_call 31; refine (hck _ hl1).mono ?_; rintro e w3 ⟨rfl, b3⟩; replace hl1 := hl1.old b3; replace x3 := x3.old b3))
      replace b1 := below_step (below_step b1 (Nat.le_refl _) b2) (Nat.le_refl _) b3
      clear b2 b3 hck hgd c0 c1
      go_wp2
      go_loopw [7] (fun s7 wr => ∃ k : Nat, k ≤ l.length ∧ s7 = .int .i64 k ∧ ovB (l.take k) (a, n) = false ∧ Below w3.heap.size w3 wr) (fun s7 _ => l.length - (intOf s7).toNat)
      case atStart => exact ⟨0, by omega, rfl, rfl, Below.refl _ _⟩
      case round =>
        obtain ⟨k, hk, rfl, hov, hb⟩ := hrel
        have HOV := Lib.hid hov
        clear hov
        by_cases hlt : k < l.length
        · obtain ⟨p, o, rfl, hp, -, e0, e1⟩ := (hl1.old hb).at k hlt
          replace x3 := x3.old hb
          have hsx := fileB_get hf k hlt
          have htk := List.take_succ_eq_append_getElem hlt
          have hdr := List.drop_eq_getElem_cons hlt
          obtain ⟨xx, hx⟩ : ∃ xx, xx = l[k] := ⟨_, rfl⟩
          rw [← hx] at e0 e1 hsx htk hdr
          obtain ⟨x, m⟩ := xx
          simp only at e0 e1 hsx
          obtain ⟨z1, z2, z3⟩ := hsx
          have HTK := Lib.hid htk
          have HDR := Lib.hid hdr
          clear htk hdr hx
          by_cases k1 : x < a + n
          · by_cases k2 : a < x + m
            · go_wp2
              try simp only [Act.put]
              refine wp_region_tab [RT.is (.slice (some ⟨p, o, none⟩) l.length cap), RT.is (.int .i64 ((k : Nat) : Int)), RT.is (.pointer (some ⟨p, o + k * 2, none⟩)), RT.is (.pointer (some ⟨p, o + k * 2, none⟩)), RT.is (.int .i64 x), RT.is (.pointer (some ⟨B3, 0, none⟩)), RT.is (.int .i64 a), RT.is (.pointer (some ⟨B3, 0 + 1, none⟩)), RT.is (.int .i64 n), RT.is (.int .i64 (a + n)), RT.is (.bool true), RT.is (.bool true), RT.is (.pointer (some ⟨B3, 0, none⟩)), RT.is (.int .i64 a), RT.is (.slice (some ⟨p, o, none⟩) l.length cap), RT.is (.int .i64 ((k : Nat) : Int)), RT.is (.pointer (some ⟨p, o + k * 2, none⟩)), RT.is (.pointer (some ⟨p, o + k * 2, none⟩)), RT.is (.int .i64 x), RT.is (.slice (some ⟨p, o, none⟩) l.length cap), RT.is (.int .i64 ((k : Nat) : Int)), RT.is (.pointer (some ⟨p, o + k * 2, none⟩)), RT.is (.pointer (some ⟨p, o + k * 2 + 1, none⟩)), RT.is (.int .i64 m), RT.is (.int .i64 (x + m)), RT.is (.bool true), RT.is (.bool true)] (by kernel_rfl) (by kernel_rfl) (by kernel_rfl) (by kernel_rfl) ⟨?_, ?_, ?_, ?_, ?_, ?_, ?_, ?_, ?_, ?_, ?_, ?_, ?_, ?_, ?_, ?_, ?_, ?_, ?_, ?_, ?_, ?_, ?_, ?_, ?_, ?_, ?_, trivial⟩ ?_
              · intro ac w' hF hL hP hU K hK
                have hB := below_undrew hL
                have e0 : ac.eval (.tmp 0) = .slice (some ⟨p, o, none⟩) l.length cap := hF.at 0 (by kernel_rfl)
                exact rop_move _ rfl e0 (wanted_none rfl) (hK _ _ (le8_refl _) rfl)
              · intro ac w' hF hL hP hU K hK
                have hB := below_undrew hL
                have e7 : ac.eval (.tmp 7) = .int .i64 ((k : Nat) : Int) := hF.at 7 (by kernel_rfl)
                exact rop_move _ rfl e7 (wanted_none rfl) (hK _ _ (le8_refl _) rfl)
              · intro ac w' hF hL hP hU K hK
                have hB := below_undrew hL
                have e26 : ac.eval (.tmp 26) = .slice (some ⟨p, o, none⟩) l.length cap := hP 0 (by kernel_rfl)
                have e27 : ac.eval (.tmp 27) = .int .i64 ((k : Nat) : Int) := hP 1 (by kernel_rfl)
                exact rop_idx _ _ _ rfl e26 e27 (idx_run p o l.length cap k hlt _) (wanted_none rfl) (hK _ _ (le8_refl _) rfl)
              · intro ac w' hF hL hP hU K hK
                have hB := below_undrew hL
                have e28 : ac.eval (.tmp 28) = .pointer (some ⟨p, o + k * 2, none⟩) := hP 2 (by kernel_rfl)
                exact rop_fld _ _ _ rfl e28 (fld_run0 _ _ _) (wanted_none rfl) (hK _ _ (le8_refl _) rfl)
              · intro ac w' hF hL hP hU K hK
                have hB := below_undrew hL
                have e29 : ac.eval (.tmp 29) = .pointer (some ⟨p, o + k * 2, none⟩) := hP 3 (by kernel_rfl)
                exact rop_ld _ _ rfl e29 (load_int ((hB.cell (p := ⟨p, _, none⟩) hp).trans e0)) (wanted_none rfl) (hK _ _ (le8_refl _) rfl)
              · intro ac w' hF hL hP hU K hK
                have hB := below_undrew hL
                have e3 : ac.eval (.tmp 3) = .pointer (some ⟨B3, 0, none⟩) := hF.at 3 (by kernel_rfl)
                exact rop_fld _ _ _ rfl e3 (fld_run0 _ _ _) (wanted_none rfl) (hK _ _ (le8_refl _) rfl)
              · intro ac w' hF hL hP hU K hK
                have hB := below_undrew hL
                have e31 : ac.eval (.tmp 31) = .pointer (some ⟨B3, 0, none⟩) := hP 5 (by kernel_rfl)
                exact rop_ld _ _ rfl e31 (load_int (x3.old hB).c0) (wanted_none rfl) (hK _ _ (le8_refl _) rfl)
              · intro ac w' hF hL hP hU K hK
                have hB := below_undrew hL
                have e3 : ac.eval (.tmp 3) = .pointer (some ⟨B3, 0, none⟩) := hF.at 3 (by kernel_rfl)
                exact rop_fld _ _ _ rfl e3 (fld_run1 _ _ _) (wanted_none rfl) (hK _ _ (le8_refl _) rfl)
              · intro ac w' hF hL hP hU K hK
                have hB := below_undrew hL
                have e33 : ac.eval (.tmp 33) = .pointer (some ⟨B3, 0 + 1, none⟩) := hP 7 (by kernel_rfl)
                exact rop_ld _ _ rfl e33 (load_int (x3.old hB).c1) (wanted_none rfl) (hK _ _ (le8_refl _) rfl)
              · intro ac w' hF hL hP hU K hK
                have hB := below_undrew hL
                have e32 : ac.eval (.tmp 32) = .int .i64 a := hP 6 (by kernel_rfl)
                have e34 : ac.eval (.tmp 34) = .int .i64 n := hP 8 (by kernel_rfl)
                exact rop_bin _ _ _ _ _ rfl e32 e34 (guard_int _ _ _ _ _ _ _ w') (add_int _ _ _ (rfl) (by omega) w') (wanted_none rfl) (hK _ _ (le8_refl _) rfl)
              · intro ac w' hF hL hP hU K hK
                have hB := below_undrew hL
                have e30 : ac.eval (.tmp 30) = .int .i64 x := hP 4 (by kernel_rfl)
                have e35 : ac.eval (.tmp 35) = .int .i64 (a + n) := hP 9 (by kernel_rfl)
                exact rop_bin _ _ _ _ _ rfl e30 e35 (guard_int _ _ _ _ _ _ _ w') (lss_i _ _ _ (by rw [decide_eq_true_iff]; omega) w') (wanted_none rfl) (hK _ _ (le8_refl _) rfl)
              · intro ac w' hF hL hP hU K hK
                have hB := below_undrew hL
                have e36 : ac.eval (.tmp 36) = .bool true := hP 10 (by kernel_rfl)
                exact rop_move _ rfl e36 (wanted_none rfl) (hK _ _ (le8_refl _) rfl)
              · intro ac w' hF hL hP hU K hK
                have hB := below_undrew hL
                have e3 : ac.eval (.tmp 3) = .pointer (some ⟨B3, 0, none⟩) := hF.at 3 (by kernel_rfl)
                have e37 : ac.eval (.tmp 37) = .bool true := hP 11 (by kernel_rfl)
                exact rop_fld _ _ _ rfl e3 (fld_run0 _ _ _) (wanted_of (j := 11) (b := true) rfl rfl e37) (hK _ _ (le8_refl _) rfl)
              · intro ac w' hF hL hP hU K hK
                have hB := below_undrew hL
                have e38 : ac.eval (.tmp 38) = .pointer (some ⟨B3, 0, none⟩) := hP 12 (by kernel_rfl)
                have e37 : ac.eval (.tmp 37) = .bool true := hP 11 (by kernel_rfl)
                exact rop_ld _ _ rfl e38 (load_int (x3.old hB).c0) (wanted_of (j := 11) (b := true) rfl rfl e37) (hK _ _ (le8_refl _) rfl)
              · intro ac w' hF hL hP hU K hK
                have hB := below_undrew hL
                have e0 : ac.eval (.tmp 0) = .slice (some ⟨p, o, none⟩) l.length cap := hF.at 0 (by kernel_rfl)
                have e37 : ac.eval (.tmp 37) = .bool true := hP 11 (by kernel_rfl)
                exact rop_move _ rfl e0 (wanted_of (j := 11) (b := true) rfl rfl e37) (hK _ _ (le8_refl _) rfl)
              · intro ac w' hF hL hP hU K hK
                have hB := below_undrew hL
                have e7 : ac.eval (.tmp 7) = .int .i64 ((k : Nat) : Int) := hF.at 7 (by kernel_rfl)
                have e37 : ac.eval (.tmp 37) = .bool true := hP 11 (by kernel_rfl)
                exact rop_move _ rfl e7 (wanted_of (j := 11) (b := true) rfl rfl e37) (hK _ _ (le8_refl _) rfl)
              · intro ac w' hF hL hP hU K hK
                have hB := below_undrew hL
                have e40 : ac.eval (.tmp 40) = .slice (some ⟨p, o, none⟩) l.length cap := hP 14 (by kernel_rfl)
                have e41 : ac.eval (.tmp 41) = .int .i64 ((k : Nat) : Int) := hP 15 (by kernel_rfl)
                have e37 : ac.eval (.tmp 37) = .bool true := hP 11 (by kernel_rfl)
                exact rop_idx _ _ _ rfl e40 e41 (idx_run p o l.length cap k hlt _) (wanted_of (j := 11) (b := true) rfl rfl e37) (hK _ _ (le8_refl _) rfl)
              · intro ac w' hF hL hP hU K hK
                have hB := below_undrew hL
                have e42 : ac.eval (.tmp 42) = .pointer (some ⟨p, o + k * 2, none⟩) := hP 16 (by kernel_rfl)
                have e37 : ac.eval (.tmp 37) = .bool true := hP 11 (by kernel_rfl)
                exact rop_fld _ _ _ rfl e42 (fld_run0 _ _ _) (wanted_of (j := 11) (b := true) rfl rfl e37) (hK _ _ (le8_refl _) rfl)
              · intro ac w' hF hL hP hU K hK
                have hB := below_undrew hL
                have e43 : ac.eval (.tmp 43) = .pointer (some ⟨p, o + k * 2, none⟩) := hP 17 (by kernel_rfl)
                have e37 : ac.eval (.tmp 37) = .bool true := hP 11 (by kernel_rfl)
                exact rop_ld _ _ rfl e43 (load_int ((hB.cell (p := ⟨p, _, none⟩) hp).trans e0)) (wanted_of (j := 11) (b := true) rfl rfl e37) (hK _ _ (le8_refl _) rfl)
              · intro ac w' hF hL hP hU K hK
                have hB := below_undrew hL
                have e0 : ac.eval (.tmp 0) = .slice (some ⟨p, o, none⟩) l.length cap := hF.at 0 (by kernel_rfl)
                have e37 : ac.eval (.tmp 37) = .bool true := hP 11 (by kernel_rfl)
                exact rop_move _ rfl e0 (wanted_of (j := 11) (b := true) rfl rfl e37) (hK _ _ (le8_refl _) rfl)
              · intro ac w' hF hL hP hU K hK
                have hB := below_undrew hL
                have e7 : ac.eval (.tmp 7) = .int .i64 ((k : Nat) : Int) := hF.at 7 (by kernel_rfl)
                have e37 : ac.eval (.tmp 37) = .bool true := hP 11 (by kernel_rfl)
                exact rop_move _ rfl e7 (wanted_of (j := 11) (b := true) rfl rfl e37) (hK _ _ (le8_refl _) rfl)
              · intro ac w' hF hL hP hU K hK
                have hB := below_undrew hL
                have e45 : ac.eval (.tmp 45) = .slice (some ⟨p, o, none⟩) l.length cap := hP 19 (by kernel_rfl)
                have e46 : ac.eval (.tmp 46) = .int .i64 ((k : Nat) : Int) := hP 20 (by kernel_rfl)
                have e37 : ac.eval (.tmp 37) = .bool true := hP 11 (by kernel_rfl)
                exact rop_idx _ _ _ rfl e45 e46 (idx_run p o l.length cap k hlt _) (wanted_of (j := 11) (b := true) rfl rfl e37) (hK _ _ (le8_refl _) rfl)
              · intro ac w' hF hL hP hU K hK
                have hB := below_undrew hL
                have e47 : ac.eval (.tmp 47) = .pointer (some ⟨p, o + k * 2, none⟩) := hP 21 (by kernel_rfl)
                have e37 : ac.eval (.tmp 37) = .bool true := hP 11 (by kernel_rfl)
                exact rop_fld _ _ _ rfl e47 (fld_run1 _ _ _) (wanted_of (j := 11) (b := true) rfl rfl e37) (hK _ _ (le8_refl _) rfl)
              · intro ac w' hF hL hP hU K hK
                have hB := below_undrew hL
                have e48 : ac.eval (.tmp 48) = .pointer (some ⟨p, o + k * 2 + 1, none⟩) := hP 22 (by kernel_rfl)
                have e37 : ac.eval (.tmp 37) = .bool true := hP 11 (by kernel_rfl)
                exact rop_ld _ _ rfl e48 (load_int ((hB.cell (p := ⟨p, _, none⟩) hp).trans e1)) (wanted_of (j := 11) (b := true) rfl rfl e37) (hK _ _ (le8_refl _) rfl)
              · intro ac w' hF hL hP hU K hK
                have hB := below_undrew hL
                have e44 : ac.eval (.tmp 44) = .int .i64 x := hP 18 (by kernel_rfl)
                have e49 : ac.eval (.tmp 49) = .int .i64 m := hP 23 (by kernel_rfl)
                have e37 : ac.eval (.tmp 37) = .bool true := hP 11 (by kernel_rfl)
                exact rop_bin _ _ _ _ _ rfl e44 e49 (guard_int _ _ _ _ _ _ _ w') (add_int _ _ _ (rfl) (by omega) w') (wanted_of (j := 11) (b := true) rfl rfl e37) (hK _ _ (le8_refl _) rfl)
              · intro ac w' hF hL hP hU K hK
                have hB := below_undrew hL
                have e39 : ac.eval (.tmp 39) = .int .i64 a := hP 13 (by kernel_rfl)
                have e50 : ac.eval (.tmp 50) = .int .i64 (x + m) := hP 24 (by kernel_rfl)
                have e37 : ac.eval (.tmp 37) = .bool true := hP 11 (by kernel_rfl)
                exact rop_bin _ _ _ _ _ rfl e39 e50 (guard_int _ _ _ _ _ _ _ w') (lss_i _ _ _ (by rw [decide_eq_true_iff]; omega) w') (wanted_of (j := 11) (b := true) rfl rfl e37) (hK _ _ (le8_refl _) rfl)
              · intro ac w' hF hL hP hU K hK
                have hB := below_undrew hL
                have e37 : ac.eval (.tmp 37) = .bool true := hP 11 (by kernel_rfl)
                have e51 : ac.eval (.tmp 51) = .bool true := hP 25 (by kernel_rfl)
                exact rop_pick _ _ _ rfl true e37 (by simpa using e51) (wanted_none rfl) (hK _ _ (le8_refl _) rfl)
              · intro ac w' hF hB hT
                have e52 : ac.eval (.tmp 52) = .bool true := hT 26 (by decide)
                rw [hF.lit 86 rfl]
                simp only [List.range, List.range.loop, List.map_cons, List.map_nil, e52, hF.at 0 (by kernel_rfl), hF.at 1 (by kernel_rfl), hF.at 2 (by kernel_rfl), hF.at 3 (by kernel_rfl), hF.at 4 (by kernel_rfl), hF.at 5 (by kernel_rfl), hF.at 6 (by kernel_rfl), hF.at 7 (by kernel_rfl), hF.at 8 (by kernel_rfl), hF.at 9 (by kernel_rfl), hF.at 10 (by kernel_rfl), hF.at 11 (by kernel_rfl), hF.at 12 (by kernel_rfl), hF.at 13 (by kernel_rfl), hF.at 14 (by kernel_rfl), hF.at 15 (by kernel_rfl), hF.at 16 (by kernel_rfl), hF.at 17 (by kernel_rfl), hF.at 18 (by kernel_rfl), hF.at 19 (by kernel_rfl), hF.at 20 (by kernel_rfl), hF.at 21 (by kernel_rfl), hF.at 22 (by kernel_rfl), hF.at 23 (by kernel_rfl), hF.at 24 (by kernel_rfl), hF.at 25 (by kernel_rfl), hF.at 53 (by kernel_rfl), hF.at 54 (by kernel_rfl), hF.at 55 (by kernel_rfl), hF.at 56 (by kernel_rfl), hF.at 57 (by kernel_rfl), hF.at 58 (by kernel_rfl), hF.at 59 (by kernel_rfl), hF.at 60 (by kernel_rfl), hF.at 61 (by kernel_rfl), hF.at 62 (by kernel_rfl), hF.at 63 (by kernel_rfl), hF.at 64 (by kernel_rfl), hF.at 65 (by kernel_rfl), hF.at 66 (by kernel_rfl), hF.at 67 (by kernel_rfl), hF.at 68 (by kernel_rfl), hF.at 69 (by kernel_rfl), hF.at 70 (by kernel_rfl), hF.at 71 (by kernel_rfl), hF.at 72 (by kernel_rfl), hF.at 73 (by kernel_rfl), hF.at 74 (by kernel_rfl), hF.at 75 (by kernel_rfl), hF.at 76 (by kernel_rfl), hF.at 77 (by kernel_rfl), hF.at 78 (by kernel_rfl), hF.at 79 (by kernel_rfl), hF.at 80 (by kernel_rfl), hF.at 81 (by kernel_rfl), hF.at 82 (by kernel_rfl), hF.at 83 (by kernel_rfl), hF.at 84 (by kernel_rfl), hF.at 85 (by kernel_rfl)]
                generalize ac.eval (.tmp 26) = u26
                generalize ac.eval (.tmp 27) = u27
                generalize ac.eval (.tmp 28) = u28
                generalize ac.eval (.tmp 29) = u29
                generalize ac.eval (.tmp 30) = u30
                generalize ac.eval (.tmp 31) = u31
                generalize ac.eval (.tmp 32) = u32
                generalize ac.eval (.tmp 33) = u33
                generalize ac.eval (.tmp 34) = u34
                generalize ac.eval (.tmp 35) = u35
                generalize ac.eval (.tmp 36) = u36
                generalize ac.eval (.tmp 37) = u37
                generalize ac.eval (.tmp 38) = u38
                generalize ac.eval (.tmp 39) = u39
                generalize ac.eval (.tmp 40) = u40
                generalize ac.eval (.tmp 41) = u41
                generalize ac.eval (.tmp 42) = u42
                generalize ac.eval (.tmp 43) = u43
                generalize ac.eval (.tmp 44) = u44
                generalize ac.eval (.tmp 45) = u45
                generalize ac.eval (.tmp 46) = u46
                generalize ac.eval (.tmp 47) = u47
                generalize ac.eval (.tmp 48) = u48
                generalize ac.eval (.tmp 49) = u49
                generalize ac.eval (.tmp 50) = u50
                generalize ac.eval (.tmp 51) = u51
                simp only [Act.eval, Array.getD_eq_getD_getElem?, List.getElem?_toArray, List.getElem?_cons_succ, List.getElem?_cons_zero, Option.getD_some]
                clear e52 hT hF ac
                go_wp2
                go_ret2
                have hov : ovB l (a, n) = true := by
                  rw [← List.take_append_drop k l, HDR.out]
                  unfold ovB
                  rw [List.any_append, List.any_cons, decide_eq_true (show (x, m).1 < (a, n).1 + (a, n).2 from k1), decide_eq_true (show (a, n).1 < (x, m).1 + (x, m).2 from k2)]
                  simp
                have hg : givO l (a, n) = none := by rw [HGE.out]; unfold gvR; rw [if_pos hov]
                replace hb := below_step hb (Nat.le_refl _) hB
                exact ⟨_, by rw [show givB l (a, n) = false by unfold givB; rw [hg]; rfl]; rfl, by rw [show givV l (a, n) = l by unfold givV; rw [hg]; rfl]; exact hl1.old hb, below_step b1 (Nat.le_refl _) hb⟩
            · go_wp2
              try simp only [Act.put]
              refine wp_region_tab [RT.is (.slice (some ⟨p, o, none⟩) l.length cap), RT.is (.int .i64 ((k : Nat) : Int)), RT.is (.pointer (some ⟨p, o + k * 2, none⟩)), RT.is (.pointer (some ⟨p, o + k * 2, none⟩)), RT.is (.int .i64 x), RT.is (.pointer (some ⟨B3, 0, none⟩)), RT.is (.int .i64 a), RT.is (.pointer (some ⟨B3, 0 + 1, none⟩)), RT.is (.int .i64 n), RT.is (.int .i64 (a + n)), RT.is (.bool true), RT.is (.bool true), RT.is (.pointer (some ⟨B3, 0, none⟩)), RT.is (.int .i64 a), RT.is (.slice (some ⟨p, o, none⟩) l.length cap), RT.is (.int .i64 ((k : Nat) : Int)), RT.is (.pointer (some ⟨p, o + k * 2, none⟩)), RT.is (.pointer (some ⟨p, o + k * 2, none⟩)), RT.is (.int .i64 x), RT.is (.slice (some ⟨p, o, none⟩) l.length cap), RT.is (.int .i64 ((k : Nat) : Int)), RT.is (.pointer (some ⟨p, o + k * 2, none⟩)), RT.is (.pointer (some ⟨p, o + k * 2 + 1, none⟩)), RT.is (.int .i64 m), RT.is (.int .i64 (x + m)), RT.is (.bool false), RT.is (.bool false)] (by kernel_rfl) (by kernel_rfl) (by kernel_rfl) (by kernel_rfl) ⟨?_, ?_, ?_, ?_, ?_, ?_, ?_, ?_, ?_, ?_, ?_, ?_, ?_, ?_, ?_, ?_, ?_, ?_, ?_, ?_, ?_, ?_, ?_, ?_, ?_, ?_, ?_, trivial⟩ ?_
              · intro ac w' hF hL hP hU K hK
                have hB := below_undrew hL
                have e0 : ac.eval (.tmp 0) = .slice (some ⟨p, o, none⟩) l.length cap := hF.at 0 (by kernel_rfl)
                exact rop_move _ rfl e0 (wanted_none rfl) (hK _ _ (le8_refl _) rfl)
              · intro ac w' hF hL hP hU K hK
                have hB := below_undrew hL
                have e7 : ac.eval (.tmp 7) = .int .i64 ((k : Nat) : Int) := hF.at 7 (by kernel_rfl)
                exact rop_move _ rfl e7 (wanted_none rfl) (hK _ _ (le8_refl _) rfl)
              · intro ac w' hF hL hP hU K hK
                have hB := below_undrew hL
                have e26 : ac.eval (.tmp 26) = .slice (some ⟨p, o, none⟩) l.length cap := hP 0 (by kernel_rfl)
                have e27 : ac.eval (.tmp 27) = .int .i64 ((k : Nat) : Int) := hP 1 (by kernel_rfl)
                exact rop_idx _ _ _ rfl e26 e27 (idx_run p o l.length cap k hlt _) (wanted_none rfl) (hK _ _ (le8_refl _) rfl)
              · intro ac w' hF hL hP hU K hK
                have hB := below_undrew hL
                have e28 : ac.eval (.tmp 28) = .pointer (some ⟨p, o + k * 2, none⟩) := hP 2 (by kernel_rfl)
                exact rop_fld _ _ _ rfl e28 (fld_run0 _ _ _) (wanted_none rfl) (hK _ _ (le8_refl _) rfl)
              · intro ac w' hF hL hP hU K hK
                have hB := below_undrew hL
                have e29 : ac.eval (.tmp 29) = .pointer (some ⟨p, o + k * 2, none⟩) := hP 3 (by kernel_rfl)
                exact rop_ld _ _ rfl e29 (load_int ((hB.cell (p := ⟨p, _, none⟩) hp).trans e0)) (wanted_none rfl) (hK _ _ (le8_refl _) rfl)
              · intro ac w' hF hL hP hU K hK
                have hB := below_undrew hL
                have e3 : ac.eval (.tmp 3) = .pointer (some ⟨B3, 0, none⟩) := hF.at 3 (by kernel_rfl)
                exact rop_fld _ _ _ rfl e3 (fld_run0 _ _ _) (wanted_none rfl) (hK _ _ (le8_refl _) rfl)
              · intro ac w' hF hL hP hU K hK
                have hB := below_undrew hL
                have e31 : ac.eval (.tmp 31) = .pointer (some ⟨B3, 0, none⟩) := hP 5 (by kernel_rfl)
                exact rop_ld _ _ rfl e31 (load_int (x3.old hB).c0) (wanted_none rfl) (hK _ _ (le8_refl _) rfl)
              · intro ac w' hF hL hP hU K hK
                have hB := below_undrew hL
                have e3 : ac.eval (.tmp 3) = .pointer (some ⟨B3, 0, none⟩) := hF.at 3 (by kernel_rfl)
                exact rop_fld _ _ _ rfl e3 (fld_run1 _ _ _) (wanted_none rfl) (hK _ _ (le8_refl _) rfl)
              · intro ac w' hF hL hP hU K hK
                have hB := below_undrew hL
                have e33 : ac.eval (.tmp 33) = .pointer (some ⟨B3, 0 + 1, none⟩) := hP 7 (by kernel_rfl)
                exact rop_ld _ _ rfl e33 (load_int (x3.old hB).c1) (wanted_none rfl) (hK _ _ (le8_refl _) rfl)
              · intro ac w' hF hL hP hU K hK
                have hB := below_undrew hL
                have e32 : ac.eval (.tmp 32) = .int .i64 a := hP 6 (by kernel_rfl)
                have e34 : ac.eval (.tmp 34) = .int .i64 n := hP 8 (by kernel_rfl)
                exact rop_bin _ _ _ _ _ rfl e32 e34 (guard_int _ _ _ _ _ _ _ w') (add_int _ _ _ (rfl) (by omega) w') (wanted_none rfl) (hK _ _ (le8_refl _) rfl)
              · intro ac w' hF hL hP hU K hK
                have hB := below_undrew hL
                have e30 : ac.eval (.tmp 30) = .int .i64 x := hP 4 (by kernel_rfl)
                have e35 : ac.eval (.tmp 35) = .int .i64 (a + n) := hP 9 (by kernel_rfl)
                exact rop_bin _ _ _ _ _ rfl e30 e35 (guard_int _ _ _ _ _ _ _ w') (lss_i _ _ _ (by rw [decide_eq_true_iff]; omega) w') (wanted_none rfl) (hK _ _ (le8_refl _) rfl)
              · intro ac w' hF hL hP hU K hK
                have hB := below_undrew hL
                have e36 : ac.eval (.tmp 36) = .bool true := hP 10 (by kernel_rfl)
                exact rop_move _ rfl e36 (wanted_none rfl) (hK _ _ (le8_refl _) rfl)
              · intro ac w' hF hL hP hU K hK
                have hB := below_undrew hL
                have e3 : ac.eval (.tmp 3) = .pointer (some ⟨B3, 0, none⟩) := hF.at 3 (by kernel_rfl)
                have e37 : ac.eval (.tmp 37) = .bool true := hP 11 (by kernel_rfl)
                exact rop_fld _ _ _ rfl e3 (fld_run0 _ _ _) (wanted_of (j := 11) (b := true) rfl rfl e37) (hK _ _ (le8_refl _) rfl)
              · intro ac w' hF hL hP hU K hK
                have hB := below_undrew hL
                have e38 : ac.eval (.tmp 38) = .pointer (some ⟨B3, 0, none⟩) := hP 12 (by kernel_rfl)
                have e37 : ac.eval (.tmp 37) = .bool true := hP 11 (by kernel_rfl)
                exact rop_ld _ _ rfl e38 (load_int (x3.old hB).c0) (wanted_of (j := 11) (b := true) rfl rfl e37) (hK _ _ (le8_refl _) rfl)
              · intro ac w' hF hL hP hU K hK
                have hB := below_undrew hL
                have e0 : ac.eval (.tmp 0) = .slice (some ⟨p, o, none⟩) l.length cap := hF.at 0 (by kernel_rfl)
                have e37 : ac.eval (.tmp 37) = .bool true := hP 11 (by kernel_rfl)
                exact rop_move _ rfl e0 (wanted_of (j := 11) (b := true) rfl rfl e37) (hK _ _ (le8_refl _) rfl)
              · intro ac w' hF hL hP hU K hK
                have hB := below_undrew hL
                have e7 : ac.eval (.tmp 7) = .int .i64 ((k : Nat) : Int) := hF.at 7 (by kernel_rfl)
                have e37 : ac.eval (.tmp 37) = .bool true := hP 11 (by kernel_rfl)
                exact rop_move _ rfl e7 (wanted_of (j := 11) (b := true) rfl rfl e37) (hK _ _ (le8_refl _) rfl)
              · intro ac w' hF hL hP hU K hK
                have hB := below_undrew hL
                have e40 : ac.eval (.tmp 40) = .slice (some ⟨p, o, none⟩) l.length cap := hP 14 (by kernel_rfl)
                have e41 : ac.eval (.tmp 41) = .int .i64 ((k : Nat) : Int) := hP 15 (by kernel_rfl)
                have e37 : ac.eval (.tmp 37) = .bool true := hP 11 (by kernel_rfl)
                exact rop_idx _ _ _ rfl e40 e41 (idx_run p o l.length cap k hlt _) (wanted_of (j := 11) (b := true) rfl rfl e37) (hK _ _ (le8_refl _) rfl)
              · intro ac w' hF hL hP hU K hK
                have hB := below_undrew hL
                have e42 : ac.eval (.tmp 42) = .pointer (some ⟨p, o + k * 2, none⟩) := hP 16 (by kernel_rfl)
                have e37 : ac.eval (.tmp 37) = .bool true := hP 11 (by kernel_rfl)
                exact rop_fld _ _ _ rfl e42 (fld_run0 _ _ _) (wanted_of (j := 11) (b := true) rfl rfl e37) (hK _ _ (le8_refl _) rfl)
              · intro ac w' hF hL hP hU K hK
                have hB := below_undrew hL
                have e43 : ac.eval (.tmp 43) = .pointer (some ⟨p, o + k * 2, none⟩) := hP 17 (by kernel_rfl)
                have e37 : ac.eval (.tmp 37) = .bool true := hP 11 (by kernel_rfl)
                exact rop_ld _ _ rfl e43 (load_int ((hB.cell (p := ⟨p, _, none⟩) hp).trans e0)) (wanted_of (j := 11) (b := true) rfl rfl e37) (hK _ _ (le8_refl _) rfl)
              · intro ac w' hF hL hP hU K hK
                have hB := below_undrew hL
                have e0 : ac.eval (.tmp 0) = .slice (some ⟨p, o, none⟩) l.length cap := hF.at 0 (by kernel_rfl)
                have e37 : ac.eval (.tmp 37) = .bool true := hP 11 (by kernel_rfl)
                exact rop_move _ rfl e0 (wanted_of (j := 11) (b := true) rfl rfl e37) (hK _ _ (le8_refl _) rfl)
              · intro ac w' hF hL hP hU K hK
                have hB := below_undrew hL
                have e7 : ac.eval (.tmp 7) = .int .i64 ((k : Nat) : Int) := hF.at 7 (by kernel_rfl)
                have e37 : ac.eval (.tmp 37) = .bool true := hP 11 (by kernel_rfl)
                exact rop_move _ rfl e7 (wanted_of (j := 11) (b := true) rfl rfl e37) (hK _ _ (le8_refl _) rfl)
              · intro ac w' hF hL hP hU K hK
                have hB := below_undrew hL
                have e45 : ac.eval (.tmp 45) = .slice (some ⟨p, o, none⟩) l.length cap := hP 19 (by kernel_rfl)
                have e46 : ac.eval (.tmp 46) = .int .i64 ((k : Nat) : Int) := hP 20 (by kernel_rfl)
                have e37 : ac.eval (.tmp 37) = .bool true := hP 11 (by kernel_rfl)
                exact rop_idx _ _ _ rfl e45 e46 (idx_run p o l.length cap k hlt _) (wanted_of (j := 11) (b := true) rfl rfl e37) (hK _ _ (le8_refl _) rfl)
              · intro ac w' hF hL hP hU K hK
                have hB := below_undrew hL
                have e47 : ac.eval (.tmp 47) = .pointer (some ⟨p, o + k * 2, none⟩) := hP 21 (by kernel_rfl)
                have e37 : ac.eval (.tmp 37) = .bool true := hP 11 (by kernel_rfl)
                exact rop_fld _ _ _ rfl e47 (fld_run1 _ _ _) (wanted_of (j := 11) (b := true) rfl rfl e37) (hK _ _ (le8_refl _) rfl)
              · intro ac w' hF hL hP hU K hK
                have hB := below_undrew hL
                have e48 : ac.eval (.tmp 48) = .pointer (some ⟨p, o + k * 2 + 1, none⟩) := hP 22 (by kernel_rfl)
                have e37 : ac.eval (.tmp 37) = .bool true := hP 11 (by kernel_rfl)
                exact rop_ld _ _ rfl e48 (load_int ((hB.cell (p := ⟨p, _, none⟩) hp).trans e1)) (wanted_of (j := 11) (b := true) rfl rfl e37) (hK _ _ (le8_refl _) rfl)
              · intro ac w' hF hL hP hU K hK
                have hB := below_undrew hL
                have e44 : ac.eval (.tmp 44) = .int .i64 x := hP 18 (by kernel_rfl)
                have e49 : ac.eval (.tmp 49) = .int .i64 m := hP 23 (by kernel_rfl)
                have e37 : ac.eval (.tmp 37) = .bool true := hP 11 (by kernel_rfl)
                exact rop_bin _ _ _ _ _ rfl e44 e49 (guard_int _ _ _ _ _ _ _ w') (add_int _ _ _ (rfl) (by omega) w') (wanted_of (j := 11) (b := true) rfl rfl e37) (hK _ _ (le8_refl _) rfl)
              · intro ac w' hF hL hP hU K hK
                have hB := below_undrew hL
                have e39 : ac.eval (.tmp 39) = .int .i64 a := hP 13 (by kernel_rfl)
                have e50 : ac.eval (.tmp 50) = .int .i64 (x + m) := hP 24 (by kernel_rfl)
                have e37 : ac.eval (.tmp 37) = .bool true := hP 11 (by kernel_rfl)
                exact rop_bin _ _ _ _ _ rfl e39 e50 (guard_int _ _ _ _ _ _ _ w') (lss_i _ _ _ (by rw [decide_eq_false_iff_not]; omega) w') (wanted_of (j := 11) (b := true) rfl rfl e37) (hK _ _ (le8_refl _) rfl)
              · intro ac w' hF hL hP hU K hK
                have hB := below_undrew hL
                have e37 : ac.eval (.tmp 37) = .bool true := hP 11 (by kernel_rfl)
                have e51 : ac.eval (.tmp 51) = .bool false := hP 25 (by kernel_rfl)
                exact rop_pick _ _ _ rfl true e37 (by simpa using e51) (wanted_none rfl) (hK _ _ (le8_refl _) rfl)
              · intro ac w' hF hB hT
                have e52 : ac.eval (.tmp 52) = .bool false := hT 26 (by decide)
                rw [hF.lit 86 rfl]
                simp only [List.range, List.range.loop, List.map_cons, List.map_nil, e52, hF.at 0 (by kernel_rfl), hF.at 1 (by kernel_rfl), hF.at 2 (by kernel_rfl), hF.at 3 (by kernel_rfl), hF.at 4 (by kernel_rfl), hF.at 5 (by kernel_rfl), hF.at 6 (by kernel_rfl), hF.at 7 (by kernel_rfl), hF.at 8 (by kernel_rfl), hF.at 9 (by kernel_rfl), hF.at 10 (by kernel_rfl), hF.at 11 (by kernel_rfl), hF.at 12 (by kernel_rfl), hF.at 13 (by kernel_rfl), hF.at 14 (by kernel_rfl), hF.at 15 (by kernel_rfl), hF.at 16 (by kernel_rfl), hF.at 17 (by kernel_rfl), hF.at 18 (by kernel_rfl), hF.at 19 (by kernel_rfl), hF.at 20 (by kernel_rfl), hF.at 21 (by kernel_rfl), hF.at 22 (by kernel_rfl), hF.at 23 (by kernel_rfl), hF.at 24 (by kernel_rfl), hF.at 25 (by kernel_rfl), hF.at 53 (by kernel_rfl), hF.at 54 (by kernel_rfl), hF.at 55 (by kernel_rfl), hF.at 56 (by kernel_rfl), hF.at 57 (by kernel_rfl), hF.at 58 (by kernel_rfl), hF.at 59 (by kernel_rfl), hF.at 60 (by kernel_rfl), hF.at 61 (by kernel_rfl), hF.at 62 (by kernel_rfl), hF.at 63 (by kernel_rfl), hF.at 64 (by kernel_rfl), hF.at 65 (by kernel_rfl), hF.at 66 (by kernel_rfl), hF.at 67 (by kernel_rfl), hF.at 68 (by kernel_rfl), hF.at 69 (by kernel_rfl), hF.at 70 (by kernel_rfl), hF.at 71 (by kernel_rfl), hF.at 72 (by kernel_rfl), hF.at 73 (by kernel_rfl), hF.at 74 (by kernel_rfl), hF.at 75 (by kernel_rfl), hF.at 76 (by kernel_rfl), hF.at 77 (by kernel_rfl), hF.at 78 (by kernel_rfl), hF.at 79 (by kernel_rfl), hF.at 80 (by kernel_rfl), hF.at 81 (by kernel_rfl), hF.at 82 (by kernel_rfl), hF.at 83 (by kernel_rfl), hF.at 84 (by kernel_rfl), hF.at 85 (by kernel_rfl)]
                generalize ac.eval (.tmp 26) = u26
                generalize ac.eval (.tmp 27) = u27
                generalize ac.eval (.tmp 28) = u28
                generalize ac.eval (.tmp 29) = u29
                generalize ac.eval (.tmp 30) = u30
                generalize ac.eval (.tmp 31) = u31
                generalize ac.eval (.tmp 32) = u32
                generalize ac.eval (.tmp 33) = u33
                generalize ac.eval (.tmp 34) = u34
                generalize ac.eval (.tmp 35) = u35
                generalize ac.eval (.tmp 36) = u36
                generalize ac.eval (.tmp 37) = u37
                generalize ac.eval (.tmp 38) = u38
                generalize ac.eval (.tmp 39) = u39
                generalize ac.eval (.tmp 40) = u40
                generalize ac.eval (.tmp 41) = u41
                generalize ac.eval (.tmp 42) = u42
                generalize ac.eval (.tmp 43) = u43
                generalize ac.eval (.tmp 44) = u44
                generalize ac.eval (.tmp 45) = u45
                generalize ac.eval (.tmp 46) = u46
                generalize ac.eval (.tmp 47) = u47
                generalize ac.eval (.tmp 48) = u48
                generalize ac.eval (.tmp 49) = u49
                generalize ac.eval (.tmp 50) = u50
                generalize ac.eval (.tmp 51) = u51
                simp only [Act.eval, Array.getD_eq_getD_getElem?, List.getElem?_toArray, List.getElem?_cons_succ, List.getElem?_cons_zero, Option.getD_some]
                clear e52 hT hF ac
                go_wp2
                go_roundw
                case rel =>
                  refine ⟨k + 1, by omega, by go_num, ?_, below_step hb (Nat.le_refl _) hB⟩
                  rw [HTK.out]
                  have := HOV.out
                  unfold ovB at this ⊢
                  rw [List.any_append, this, List.any_cons, decide_eq_false (show ¬ (a, n).1 < (x, m).1 + (x, m).2 from by simp only; omega)]
                  simp
                case measure => simp [intOf]; omega
          · go_wp2
            try simp only [Act.put]
            refine wp_region_tab [RT.is (.slice (some ⟨p, o, none⟩) l.length cap), RT.is (.int .i64 ((k : Nat) : Int)), RT.is (.pointer (some ⟨p, o + k * 2, none⟩)), RT.is (.pointer (some ⟨p, o + k * 2, none⟩)), RT.is (.int .i64 x), RT.is (.pointer (some ⟨B3, 0, none⟩)), RT.is (.int .i64 a), RT.is (.pointer (some ⟨B3, 0 + 1, none⟩)), RT.is (.int .i64 n), RT.is (.int .i64 (a + n)), RT.is (.bool false), RT.is (.bool false), RT.any, RT.any, RT.any, RT.any, RT.any, RT.any, RT.any, RT.any, RT.any, RT.any, RT.any, RT.any, RT.any, RT.any, RT.is (.bool false)] (by kernel_rfl) (by kernel_rfl) (by kernel_rfl) (by kernel_rfl) ⟨?_, ?_, ?_, ?_, ?_, ?_, ?_, ?_, ?_, ?_, ?_, ?_, ?_, ?_, ?_, ?_, ?_, ?_, ?_, ?_, ?_, ?_, ?_, ?_, ?_, ?_, ?_, trivial⟩ ?_
            · intro ac w' hF hL hP hU K hK
              have hB := below_undrew hL
              have e0 : ac.eval (.tmp 0) = .slice (some ⟨p, o, none⟩) l.length cap := hF.at 0 (by kernel_rfl)
              exact rop_move _ rfl e0 (wanted_none rfl) (hK _ _ (le8_refl _) rfl)
            · intro ac w' hF hL hP hU K hK
              have hB := below_undrew hL
              have e7 : ac.eval (.tmp 7) = .int .i64 ((k : Nat) : Int) := hF.at 7 (by kernel_rfl)
              exact rop_move _ rfl e7 (wanted_none rfl) (hK _ _ (le8_refl _) rfl)
            · intro ac w' hF hL hP hU K hK
              have hB := below_undrew hL
              have e26 : ac.eval (.tmp 26) = .slice (some ⟨p, o, none⟩) l.length cap := hP 0 (by kernel_rfl)
              have e27 : ac.eval (.tmp 27) = .int .i64 ((k : Nat) : Int) := hP 1 (by kernel_rfl)
              exact rop_idx _ _ _ rfl e26 e27 (idx_run p o l.length cap k hlt _) (wanted_none rfl) (hK _ _ (le8_refl _) rfl)
            · intro ac w' hF hL hP hU K hK
              have hB := below_undrew hL
              have e28 : ac.eval (.tmp 28) = .pointer (some ⟨p, o + k * 2, none⟩) := hP 2 (by kernel_rfl)
              exact rop_fld _ _ _ rfl e28 (fld_run0 _ _ _) (wanted_none rfl) (hK _ _ (le8_refl _) rfl)
            · intro ac w' hF hL hP hU K hK
              have hB := below_undrew hL
              have e29 : ac.eval (.tmp 29) = .pointer (some ⟨p, o + k * 2, none⟩) := hP 3 (by kernel_rfl)
              exact rop_ld _ _ rfl e29 (load_int ((hB.cell (p := ⟨p, _, none⟩) hp).trans e0)) (wanted_none rfl) (hK _ _ (le8_refl _) rfl)
            · intro ac w' hF hL hP hU K hK
              have hB := below_undrew hL
              have e3 : ac.eval (.tmp 3) = .pointer (some ⟨B3, 0, none⟩) := hF.at 3 (by kernel_rfl)
              exact rop_fld _ _ _ rfl e3 (fld_run0 _ _ _) (wanted_none rfl) (hK _ _ (le8_refl _) rfl)
            · intro ac w' hF hL hP hU K hK
              have hB := below_undrew hL
              have e31 : ac.eval (.tmp 31) = .pointer (some ⟨B3, 0, none⟩) := hP 5 (by kernel_rfl)
              exact rop_ld _ _ rfl e31 (load_int (x3.old hB).c0) (wanted_none rfl) (hK _ _ (le8_refl _) rfl)
            · intro ac w' hF hL hP hU K hK
              have hB := below_undrew hL
              have e3 : ac.eval (.tmp 3) = .pointer (some ⟨B3, 0, none⟩) := hF.at 3 (by kernel_rfl)
              exact rop_fld _ _ _ rfl e3 (fld_run1 _ _ _) (wanted_none rfl) (hK _ _ (le8_refl _) rfl)
            · intro ac w' hF hL hP hU K hK
              have hB := below_undrew hL
              have e33 : ac.eval (.tmp 33) = .pointer (some ⟨B3, 0 + 1, none⟩) := hP 7 (by kernel_rfl)
              exact rop_ld _ _ rfl e33 (load_int (x3.old hB).c1) (wanted_none rfl) (hK _ _ (le8_refl _) rfl)
            · intro ac w' hF hL hP hU K hK
              have hB := below_undrew hL
              have e32 : ac.eval (.tmp 32) = .int .i64 a := hP 6 (by kernel_rfl)
              have e34 : ac.eval (.tmp 34) = .int .i64 n := hP 8 (by kernel_rfl)
              exact rop_bin _ _ _ _ _ rfl e32 e34 (guard_int _ _ _ _ _ _ _ w') (add_int _ _ _ (rfl) (by omega) w') (wanted_none rfl) (hK _ _ (le8_refl _) rfl)
            · intro ac w' hF hL hP hU K hK
              have hB := below_undrew hL
              have e30 : ac.eval (.tmp 30) = .int .i64 x := hP 4 (by kernel_rfl)
              have e35 : ac.eval (.tmp 35) = .int .i64 (a + n) := hP 9 (by kernel_rfl)
              exact rop_bin _ _ _ _ _ rfl e30 e35 (guard_int _ _ _ _ _ _ _ w') (lss_i _ _ _ (by rw [decide_eq_false_iff_not]; omega) w') (wanted_none rfl) (hK _ _ (le8_refl _) rfl)
            · intro ac w' hF hL hP hU K hK
              have hB := below_undrew hL
              have e36 : ac.eval (.tmp 36) = .bool false := hP 10 (by kernel_rfl)
              exact rop_move _ rfl e36 (wanted_none rfl) (hK _ _ (le8_refl _) rfl)
            · intro ac w' hF hL hP hU K hK
              have hB := below_undrew hL
              have e37 : ac.eval (.tmp 37) = .bool false := hP 11 (by kernel_rfl)
              exact rop_off (j := 11) (b := true) rfl rfl e37 (by decide) (hK _ _ (le8_refl _) trivial)
            · intro ac w' hF hL hP hU K hK
              have hB := below_undrew hL
              have e37 : ac.eval (.tmp 37) = .bool false := hP 11 (by kernel_rfl)
              exact rop_off (j := 11) (b := true) rfl rfl e37 (by decide) (hK _ _ (le8_refl _) trivial)
            · intro ac w' hF hL hP hU K hK
              have hB := below_undrew hL
              have e37 : ac.eval (.tmp 37) = .bool false := hP 11 (by kernel_rfl)
              exact rop_off (j := 11) (b := true) rfl rfl e37 (by decide) (hK _ _ (le8_refl _) trivial)
            · intro ac w' hF hL hP hU K hK
              have hB := below_undrew hL
              have e37 : ac.eval (.tmp 37) = .bool false := hP 11 (by kernel_rfl)
              exact rop_off (j := 11) (b := true) rfl rfl e37 (by decide) (hK _ _ (le8_refl _) trivial)
            · intro ac w' hF hL hP hU K hK
              have hB := below_undrew hL
              have e37 : ac.eval (.tmp 37) = .bool false := hP 11 (by kernel_rfl)
              exact rop_off (j := 11) (b := true) rfl rfl e37 (by decide) (hK _ _ (le8_refl _) trivial)
            · intro ac w' hF hL hP hU K hK
              have hB := below_undrew hL
              have e37 : ac.eval (.tmp 37) = .bool false := hP 11 (by kernel_rfl)
              exact rop_off (j := 11) (b := true) rfl rfl e37 (by decide) (hK _ _ (le8_refl _) trivial)
            · intro ac w' hF hL hP hU K hK
              have hB := below_undrew hL
              have e37 : ac.eval (.tmp 37) = .bool false := hP 11 (by kernel_rfl)
              exact rop_off (j := 11) (b := true) rfl rfl e37 (by decide) (hK _ _ (le8_refl _) trivial)
            · intro ac w' hF hL hP hU K hK
              have hB := below_undrew hL
              have e37 : ac.eval (.tmp 37) = .bool false := hP 11 (by kernel_rfl)
              exact rop_off (j := 11) (b := true) rfl rfl e37 (by decide) (hK _ _ (le8_refl _) trivial)
            · intro ac w' hF hL hP hU K hK
              have hB := below_undrew hL
              have e37 : ac.eval (.tmp 37) = .bool false := hP 11 (by kernel_rfl)
              exact rop_off (j := 11) (b := true) rfl rfl e37 (by decide) (hK _ _ (le8_refl _) trivial)
            · intro ac w' hF hL hP hU K hK
              have hB := below_undrew hL
              have e37 : ac.eval (.tmp 37) = .bool false := hP 11 (by kernel_rfl)
              exact rop_off (j := 11) (b := true) rfl rfl e37 (by decide) (hK _ _ (le8_refl _) trivial)
            · intro ac w' hF hL hP hU K hK
              have hB := below_undrew hL
              have e37 : ac.eval (.tmp 37) = .bool false := hP 11 (by kernel_rfl)
              exact rop_off (j := 11) (b := true) rfl rfl e37 (by decide) (hK _ _ (le8_refl _) trivial)
            · intro ac w' hF hL hP hU K hK
              have hB := below_undrew hL
              have e37 : ac.eval (.tmp 37) = .bool false := hP 11 (by kernel_rfl)
              exact rop_off (j := 11) (b := true) rfl rfl e37 (by decide) (hK _ _ (le8_refl _) trivial)
            · intro ac w' hF hL hP hU K hK
              have hB := below_undrew hL
              have e37 : ac.eval (.tmp 37) = .bool false := hP 11 (by kernel_rfl)
              exact rop_off (j := 11) (b := true) rfl rfl e37 (by decide) (hK _ _ (le8_refl _) trivial)
            · intro ac w' hF hL hP hU K hK
              have hB := below_undrew hL
              have e37 : ac.eval (.tmp 37) = .bool false := hP 11 (by kernel_rfl)
              exact rop_off (j := 11) (b := true) rfl rfl e37 (by decide) (hK _ _ (le8_refl _) trivial)
            · intro ac w' hF hL hP hU K hK
              have hB := below_undrew hL
              have e37 : ac.eval (.tmp 37) = .bool false := hP 11 (by kernel_rfl)
              exact rop_pick _ _ _ rfl false e37 (by rfl) (wanted_none rfl) (hK _ _ (le8_refl _) rfl)
            · intro ac w' hF hB hT
              have e52 : ac.eval (.tmp 52) = .bool false := hT 26 (by decide)
              rw [hF.lit 86 rfl]
              simp only [List.range, List.range.loop, List.map_cons, List.map_nil, e52, hF.at 0 (by kernel_rfl), hF.at 1 (by kernel_rfl), hF.at 2 (by kernel_rfl), hF.at 3 (by kernel_rfl), hF.at 4 (by kernel_rfl), hF.at 5 (by kernel_rfl), hF.at 6 (by kernel_rfl), hF.at 7 (by kernel_rfl), hF.at 8 (by kernel_rfl), hF.at 9 (by kernel_rfl), hF.at 10 (by kernel_rfl), hF.at 11 (by kernel_rfl), hF.at 12 (by kernel_rfl), hF.at 13 (by kernel_rfl), hF.at 14 (by kernel_rfl), hF.at 15 (by kernel_rfl), hF.at 16 (by kernel_rfl), hF.at 17 (by kernel_rfl), hF.at 18 (by kernel_rfl), hF.at 19 (by kernel_rfl), hF.at 20 (by kernel_rfl), hF.at 21 (by kernel_rfl), hF.at 22 (by kernel_rfl), hF.at 23 (by kernel_rfl), hF.at 24 (by kernel_rfl), hF.at 25 (by kernel_rfl), hF.at 53 (by kernel_rfl), hF.at 54 (by kernel_rfl), hF.at 55 (by kernel_rfl), hF.at 56 (by kernel_rfl), hF.at 57 (by kernel_rfl), hF.at 58 (by kernel_rfl), hF.at 59 (by kernel_rfl), hF.at 60 (by kernel_rfl), hF.at 61 (by kernel_rfl), hF.at 62 (by kernel_rfl), hF.at 63 (by kernel_rfl), hF.at 64 (by kernel_rfl), hF.at 65 (by kernel_rfl), hF.at 66 (by kernel_rfl), hF.at 67 (by kernel_rfl), hF.at 68 (by kernel_rfl), hF.at 69 (by kernel_rfl), hF.at 70 (by kernel_rfl), hF.at 71 (by kernel_rfl), hF.at 72 (by kernel_rfl), hF.at 73 (by kernel_rfl), hF.at 74 (by kernel_rfl), hF.at 75 (by kernel_rfl), hF.at 76 (by kernel_rfl), hF.at 77 (by kernel_rfl), hF.at 78 (by kernel_rfl), hF.at 79 (by kernel_rfl), hF.at 80 (by kernel_rfl), hF.at 81 (by kernel_rfl), hF.at 82 (by kernel_rfl), hF.at 83 (by kernel_rfl), hF.at 84 (by kernel_rfl), hF.at 85 (by kernel_rfl)]
              generalize ac.eval (.tmp 26) = u26
              generalize ac.eval (.tmp 27) = u27
              generalize ac.eval (.tmp 28) = u28
              generalize ac.eval (.tmp 29) = u29
              generalize ac.eval (.tmp 30) = u30
              generalize ac.eval (.tmp 31) = u31
              generalize ac.eval (.tmp 32) = u32
              generalize ac.eval (.tmp 33) = u33
              generalize ac.eval (.tmp 34) = u34
              generalize ac.eval (.tmp 35) = u35
              generalize ac.eval (.tmp 36) = u36
              generalize ac.eval (.tmp 37) = u37
              generalize ac.eval (.tmp 38) = u38
              generalize ac.eval (.tmp 39) = u39
              generalize ac.eval (.tmp 40) = u40
              generalize ac.eval (.tmp 41) = u41
              generalize ac.eval (.tmp 42) = u42
              generalize ac.eval (.tmp 43) = u43
              generalize ac.eval (.tmp 44) = u44
              generalize ac.eval (.tmp 45) = u45
              generalize ac.eval (.tmp 46) = u46
              generalize ac.eval (.tmp 47) = u47
              generalize ac.eval (.tmp 48) = u48
              generalize ac.eval (.tmp 49) = u49
              generalize ac.eval (.tmp 50) = u50
              generalize ac.eval (.tmp 51) = u51
              simp only [Act.eval, Array.getD_eq_getD_getElem?, List.getElem?_toArray, List.getElem?_cons_succ, List.getElem?_cons_zero, Option.getD_some]
              clear e52 hT hF ac
              go_wp2
              go_roundw
              case rel =>
                refine ⟨k + 1, by omega, by go_num, ?_, below_step hb (Nat.le_refl _) hB⟩
                rw [HTK.out]
                have := HOV.out
                unfold ovB at this ⊢
                rw [List.any_append, this, List.any_cons, decide_eq_false (show ¬ (x, m).1 < (a, n).1 + (a, n).2 from by simp only; omega)]
                simp
              case measure => simp [intOf]; omega
        · obtain rfl : k = l.length := by omega
          have hov := HOV.out
          rw [List.take_of_length_le (Nat.le_refl _)] at hov
          have hgo : ∀ k : Nat, Ext.ahead l (a, n) = k → givB l (a, n) = true ∧ givV l (a, n) = jn (jn (l.take k) [(a, n)]) (l.drop k) := fun k hk => by
            have hg : givO l (a, n) = some (jn (jn (l.take k) [(a, n)]) (l.drop k)) := by
              rw [HGE.out]; unfold gvR; rw [if_neg (by rw [hov]; decide), hk]
            exact ⟨by unfold givB; rw [hg]; rfl, by unfold givV; rw [hg]; rfl⟩
          have HG := Lib.hid hgo
          replace hl1 := hl1.old hb
          replace x3 := x3.old hb
          replace b1 := below_step b1 (Nat.le_refl _) hb
          clear hgo hov HOV HGE hb
          rename_i w3'
          obtain ⟨w4, hw4⟩ : ∃ w4, w4 = wr := ⟨_, rfl⟩
          subst hw4
          go_wp2
          go_loopw [8, 9] (fun s8 s9 wr => ∃ k : Nat, k ≤ l.length ∧ s9 = .int .i64 k ∧ (∀ i (h : i < l.length), i < k → l[i].1 < a) ∧ Own w4.heap.size wr s8 (l.take k) ∧ Below w4.heap.size w4 wr) (fun _ s9 _ => l.length - (intOf s9).toNat)
          case atStart => exact ⟨0, by omega, rfl, fun i _ h => by omega, Own.nil _ _, Below.refl _ _⟩
          case round =>
            obtain ⟨k, hk, rfl, hless, ho, hb⟩ := hrel
            have HLE := Lib.hid hless
            clear hless
            replace x3 := x3.old hb
            by_cases hlt : k < l.length
            · obtain ⟨p, o, rfl, hp, -, e0, e1⟩ := (hl1.old hb).at k hlt
              have hokr := hl1.ok l[k] (List.getElem_mem hlt)
              have htk := List.take_succ_eq_append_getElem hlt
              obtain ⟨xx, hx⟩ : ∃ xx, xx = l[k] := ⟨_, rfl⟩
              have HX := Lib.hid hx
              rw [← hx] at e0 e1 htk hokr
              obtain ⟨x, m⟩ := xx
              simp only at e0 e1
              have HTK := Lib.hid htk
              clear htk hx
              by_cases k1 : x < a
              · go_wp2
                try simp only [Act.put]
                refine wp_region_tab [RT.is (.int .i64 ((k : Nat) : Int)), RT.is (.slice (some ⟨p, o, none⟩) l.length cap), RT.is (.int .i64 ((l.length : Nat) : Int)), RT.is (.bool true), RT.is (.bool true), RT.is (.slice (some ⟨p, o, none⟩) l.length cap), RT.is (.int .i64 ((k : Nat) : Int)), RT.is (.pointer (some ⟨p, o + k * 2, none⟩)), RT.is (.pointer (some ⟨p, o + k * 2, none⟩)), RT.is (.int .i64 x), RT.is (.pointer (some ⟨B3, 0, none⟩)), RT.is (.int .i64 a), RT.is (.bool true), RT.is (.bool true)] (by kernel_rfl) (by kernel_rfl) (by kernel_rfl) (by kernel_rfl) ⟨?_, ?_, ?_, ?_, ?_, ?_, ?_, ?_, ?_, ?_, ?_, ?_, ?_, ?_, trivial⟩ ?_
                · intro ac w' hF hL hP hU K hK
                  have hB := below_undrew hL
                  have e9 : ac.eval (.tmp 9) = .int .i64 ((k : Nat) : Int) := hF.at 9 (by kernel_rfl)
                  exact rop_move _ rfl e9 (wanted_none rfl) (hK _ _ (le8_refl _) rfl)
                · intro ac w' hF hL hP hU K hK
                  have hB := below_undrew hL
                  have e0 : ac.eval (.tmp 0) = .slice (some ⟨p, o, none⟩) l.length cap := hF.at 0 (by kernel_rfl)
                  exact rop_move _ rfl e0 (wanted_none rfl) (hK _ _ (le8_refl _) rfl)
                · intro ac w' hF hL hP hU K hK
                  have hB := below_undrew hL
                  have e55 : ac.eval (.tmp 55) = .slice (some ⟨p, o, none⟩) l.length cap := hP 1 (by kernel_rfl)
                  exact rop_len_sl _ rfl e55 (wanted_none rfl) (hK _ _ (le8_refl _) rfl)
                · intro ac w' hF hL hP hU K hK
                  have hB := below_undrew hL
                  have e54 : ac.eval (.tmp 54) = .int .i64 ((k : Nat) : Int) := hP 0 (by kernel_rfl)
                  have e56 : ac.eval (.tmp 56) = .int .i64 ((l.length : Nat) : Int) := hP 2 (by kernel_rfl)
                  exact rop_bin _ _ _ _ _ rfl e54 e56 (guard_int _ _ _ _ _ _ _ w') (lss_i _ _ _ (by rw [decide_eq_true_iff]; omega) w') (wanted_none rfl) (hK _ _ (le8_refl _) rfl)
                · intro ac w' hF hL hP hU K hK
                  have hB := below_undrew hL
                  have e57 : ac.eval (.tmp 57) = .bool true := hP 3 (by kernel_rfl)
                  exact rop_move _ rfl e57 (wanted_none rfl) (hK _ _ (le8_refl _) rfl)
                · intro ac w' hF hL hP hU K hK
                  have hB := below_undrew hL
                  have e0 : ac.eval (.tmp 0) = .slice (some ⟨p, o, none⟩) l.length cap := hF.at 0 (by kernel_rfl)
                  have e58 : ac.eval (.tmp 58) = .bool true := hP 4 (by kernel_rfl)
                  exact rop_move _ rfl e0 (wanted_of (j := 4) (b := true) rfl rfl e58) (hK _ _ (le8_refl _) rfl)
                · intro ac w' hF hL hP hU K hK
                  have hB := below_undrew hL
                  have e9 : ac.eval (.tmp 9) = .int .i64 ((k : Nat) : Int) := hF.at 9 (by kernel_rfl)
                  have e58 : ac.eval (.tmp 58) = .bool true := hP 4 (by kernel_rfl)
                  exact rop_move _ rfl e9 (wanted_of (j := 4) (b := true) rfl rfl e58) (hK _ _ (le8_refl _) rfl)
                · intro ac w' hF hL hP hU K hK
                  have hB := below_undrew hL
                  have e59 : ac.eval (.tmp 59) = .slice (some ⟨p, o, none⟩) l.length cap := hP 5 (by kernel_rfl)
                  have e60 : ac.eval (.tmp 60) = .int .i64 ((k : Nat) : Int) := hP 6 (by kernel_rfl)
                  have e58 : ac.eval (.tmp 58) = .bool true := hP 4 (by kernel_rfl)
                  exact rop_idx _ _ _ rfl e59 e60 (idx_run p o l.length cap k hlt _) (wanted_of (j := 4) (b := true) rfl rfl e58) (hK _ _ (le8_refl _) rfl)
                · intro ac w' hF hL hP hU K hK
                  have hB := below_undrew hL
                  have e61 : ac.eval (.tmp 61) = .pointer (some ⟨p, o + k * 2, none⟩) := hP 7 (by kernel_rfl)
                  have e58 : ac.eval (.tmp 58) = .bool true := hP 4 (by kernel_rfl)
                  exact rop_fld _ _ _ rfl e61 (fld_run0 _ _ _) (wanted_of (j := 4) (b := true) rfl rfl e58) (hK _ _ (le8_refl _) rfl)
                · intro ac w' hF hL hP hU K hK
                  have hB := below_undrew hL
                  have e62 : ac.eval (.tmp 62) = .pointer (some ⟨p, o + k * 2, none⟩) := hP 8 (by kernel_rfl)
                  have e58 : ac.eval (.tmp 58) = .bool true := hP 4 (by kernel_rfl)
                  exact rop_ld _ _ rfl e62 (load_int ((hB.cell (p := ⟨p, _, none⟩) hp).trans e0)) (wanted_of (j := 4) (b := true) rfl rfl e58) (hK _ _ (le8_refl _) rfl)
                · intro ac w' hF hL hP hU K hK
                  have hB := below_undrew hL
                  have e3 : ac.eval (.tmp 3) = .pointer (some ⟨B3, 0, none⟩) := hF.at 3 (by kernel_rfl)
                  have e58 : ac.eval (.tmp 58) = .bool true := hP 4 (by kernel_rfl)
                  exact rop_fld _ _ _ rfl e3 (fld_run0 _ _ _) (wanted_of (j := 4) (b := true) rfl rfl e58) (hK _ _ (le8_refl _) rfl)
                · intro ac w' hF hL hP hU K hK
                  have hB := below_undrew hL
                  have e64 : ac.eval (.tmp 64) = .pointer (some ⟨B3, 0, none⟩) := hP 10 (by kernel_rfl)
                  have e58 : ac.eval (.tmp 58) = .bool true := hP 4 (by kernel_rfl)
                  exact rop_ld _ _ rfl e64 (load_int (x3.old hB).c0) (wanted_of (j := 4) (b := true) rfl rfl e58) (hK _ _ (le8_refl _) rfl)
                · intro ac w' hF hL hP hU K hK
                  have hB := below_undrew hL
                  have e63 : ac.eval (.tmp 63) = .int .i64 x := hP 9 (by kernel_rfl)
                  have e65 : ac.eval (.tmp 65) = .int .i64 a := hP 11 (by kernel_rfl)
                  have e58 : ac.eval (.tmp 58) = .bool true := hP 4 (by kernel_rfl)
                  exact rop_bin _ _ _ _ _ rfl e63 e65 (guard_int _ _ _ _ _ _ _ w') (lss_i _ _ _ (by rw [decide_eq_true_iff]; omega) w') (wanted_of (j := 4) (b := true) rfl rfl e58) (hK _ _ (le8_refl _) rfl)
                · intro ac w' hF hL hP hU K hK
                  have hB := below_undrew hL
                  have e58 : ac.eval (.tmp 58) = .bool true := hP 4 (by kernel_rfl)
                  have e66 : ac.eval (.tmp 66) = .bool true := hP 12 (by kernel_rfl)
                  exact rop_pick _ _ _ rfl true e58 (by simpa using e66) (wanted_none rfl) (hK _ _ (le8_refl _) rfl)
                · intro ac w' hF hB hT
                  have e67 : ac.eval (.tmp 67) = .bool true := hT 13 (by decide)
                  rw [hF.lit 86 rfl]
                  simp only [List.range, List.range.loop, List.map_cons, List.map_nil, e67, hF.at 0 (by kernel_rfl), hF.at 1 (by kernel_rfl), hF.at 2 (by kernel_rfl), hF.at 3 (by kernel_rfl), hF.at 4 (by kernel_rfl), hF.at 5 (by kernel_rfl), hF.at 6 (by kernel_rfl), hF.at 7 (by kernel_rfl), hF.at 8 (by kernel_rfl), hF.at 9 (by kernel_rfl), hF.at 10 (by kernel_rfl), hF.at 11 (by kernel_rfl), hF.at 12 (by kernel_rfl), hF.at 13 (by kernel_rfl), hF.at 14 (by kernel_rfl), hF.at 15 (by kernel_rfl), hF.at 16 (by kernel_rfl), hF.at 17 (by kernel_rfl), hF.at 18 (by kernel_rfl), hF.at 19 (by kernel_rfl), hF.at 20 (by kernel_rfl), hF.at 21 (by kernel_rfl), hF.at 22 (by kernel_rfl), hF.at 23 (by kernel_rfl), hF.at 24 (by kernel_rfl), hF.at 25 (by kernel_rfl), hF.at 26 (by kernel_rfl), hF.at 27 (by kernel_rfl), hF.at 28 (by kernel_rfl), hF.at 29 (by kernel_rfl), hF.at 30 (by kernel_rfl), hF.at 31 (by kernel_rfl), hF.at 32 (by kernel_rfl), hF.at 33 (by kernel_rfl), hF.at 34 (by kernel_rfl), hF.at 35 (by kernel_rfl), hF.at 36 (by kernel_rfl), hF.at 37 (by kernel_rfl), hF.at 38 (by kernel_rfl), hF.at 39 (by kernel_rfl), hF.at 40 (by kernel_rfl), hF.at 41 (by kernel_rfl), hF.at 42 (by kernel_rfl), hF.at 43 (by kernel_rfl), hF.at 44 (by kernel_rfl), hF.at 45 (by kernel_rfl), hF.at 46 (by kernel_rfl), hF.at 47 (by kernel_rfl), hF.at 48 (by kernel_rfl), hF.at 49 (by kernel_rfl), hF.at 50 (by kernel_rfl), hF.at 51 (by kernel_rfl), hF.at 52 (by kernel_rfl), hF.at 53 (by kernel_rfl), hF.at 68 (by kernel_rfl), hF.at 69 (by kernel_rfl), hF.at 70 (by kernel_rfl), hF.at 71 (by kernel_rfl), hF.at 72 (by kernel_rfl), hF.at 73 (by kernel_rfl), hF.at 74 (by kernel_rfl), hF.at 75 (by kernel_rfl), hF.at 76 (by kernel_rfl), hF.at 77 (by kernel_rfl), hF.at 78 (by kernel_rfl), hF.at 79 (by kernel_rfl), hF.at 80 (by kernel_rfl), hF.at 81 (by kernel_rfl), hF.at 82 (by kernel_rfl), hF.at 83 (by kernel_rfl), hF.at 84 (by kernel_rfl), hF.at 85 (by kernel_rfl)]
                  generalize ac.eval (.tmp 54) = u54
                  generalize ac.eval (.tmp 55) = u55
                  generalize ac.eval (.tmp 56) = u56
                  generalize ac.eval (.tmp 57) = u57
                  generalize ac.eval (.tmp 58) = u58
                  generalize ac.eval (.tmp 59) = u59
                  generalize ac.eval (.tmp 60) = u60
                  generalize ac.eval (.tmp 61) = u61
                  generalize ac.eval (.tmp 62) = u62
                  generalize ac.eval (.tmp 63) = u63
                  generalize ac.eval (.tmp 64) = u64
                  generalize ac.eval (.tmp 65) = u65
                  generalize ac.eval (.tmp 66) = u66
                  simp only [Act.eval, Array.getD_eq_getD_getElem?, List.getElem?_toArray, List.getElem?_cons_succ, List.getElem?_cons_zero, Option.getD_some]
                  clear e67 hT hF ac
                  replace e0 := (hB.cell (p := ⟨p, _, none⟩) hp).trans e0
                  replace e1 := (hB.cell (p := ⟨p, _, none⟩) hp).trans e1
                  replace hb := below_step hb (Nat.le_refl _) hB
                  obtain ⟨v7, w7, hr7, ho7, b7, _⟩ := append_one (x, m) hokr (ho.kept hB) hb.size (by rw [List.length_take]; omega)
                  simp only at hr7
                  rw [← HTK.out] at ho7
                  have HR7 := Lib.hid hr7
                  have HO7 := Lib.hid ho7
                  clear hr7 ho7 ho hB
                  go_wp2_with (at_builtin; refine Lib.wpList_append_run _ rfl _ _ _ _ rfl _ _ rfl rfl _ _ HR7.out ?_)
                  go_roundw
                  case rel =>
                    refine ⟨k + 1, by omega, by go_num, fun i h hik => ?_, HO7.out, hb.trans b7⟩
                    by_cases hi : i < k
                    · exact HLE.out i h hi
                    · obtain rfl : i = k := by omega
                      rw [← HX.out]; exact k1
                  case measure => simp [intOf]; omega
              · have hah : Ext.ahead l (a, n) = k := ahead_is hk (fun i h hik => HLE.out i h hik) (fun h => by rw [← HX.out]; exact k1)
                go_wp2
                try simp only [Act.put]
                refine wp_region_tab [RT.is (.int .i64 ((k : Nat) : Int)), RT.is (.slice (some ⟨p, o, none⟩) l.length cap), RT.is (.int .i64 ((l.length : Nat) : Int)), RT.is (.bool true), RT.is (.bool true), RT.is (.slice (some ⟨p, o, none⟩) l.length cap), RT.is (.int .i64 ((k : Nat) : Int)), RT.is (.pointer (some ⟨p, o + k * 2, none⟩)), RT.is (.pointer (some ⟨p, o + k * 2, none⟩)), RT.is (.int .i64 x), RT.is (.pointer (some ⟨B3, 0, none⟩)), RT.is (.int .i64 a), RT.is (.bool false), RT.is (.bool false)] (by kernel_rfl) (by kernel_rfl) (by kernel_rfl) (by kernel_rfl) ⟨?_, ?_, ?_, ?_, ?_, ?_, ?_, ?_, ?_, ?_, ?_, ?_, ?_, ?_, trivial⟩ ?_
                · intro ac w' hF hL hP hU K hK
                  have hB := below_undrew hL
                  have e9 : ac.eval (.tmp 9) = .int .i64 ((k : Nat) : Int) := hF.at 9 (by kernel_rfl)
                  exact rop_move _ rfl e9 (wanted_none rfl) (hK _ _ (le8_refl _) rfl)
                · intro ac w' hF hL hP hU K hK
                  have hB := below_undrew hL
                  have e0 : ac.eval (.tmp 0) = .slice (some ⟨p, o, none⟩) l.length cap := hF.at 0 (by kernel_rfl)
                  exact rop_move _ rfl e0 (wanted_none rfl) (hK _ _ (le8_refl _) rfl)
                · intro ac w' hF hL hP hU K hK
                  have hB := below_undrew hL
                  have e55 : ac.eval (.tmp 55) = .slice (some ⟨p, o, none⟩) l.length cap := hP 1 (by kernel_rfl)
                  exact rop_len_sl _ rfl e55 (wanted_none rfl) (hK _ _ (le8_refl _) rfl)
                · intro ac w' hF hL hP hU K hK
                  have hB := below_undrew hL
                  have e54 : ac.eval (.tmp 54) = .int .i64 ((k : Nat) : Int) := hP 0 (by kernel_rfl)
                  have e56 : ac.eval (.tmp 56) = .int .i64 ((l.length : Nat) : Int) := hP 2 (by kernel_rfl)
                  exact rop_bin _ _ _ _ _ rfl e54 e56 (guard_int _ _ _ _ _ _ _ w') (lss_i _ _ _ (by rw [decide_eq_true_iff]; omega) w') (wanted_none rfl) (hK _ _ (le8_refl _) rfl)
                · intro ac w' hF hL hP hU K hK
                  have hB := below_undrew hL
                  have e57 : ac.eval (.tmp 57) = .bool true := hP 3 (by kernel_rfl)
                  exact rop_move _ rfl e57 (wanted_none rfl) (hK _ _ (le8_refl _) rfl)
                · intro ac w' hF hL hP hU K hK
                  have hB := below_undrew hL
                  have e0 : ac.eval (.tmp 0) = .slice (some ⟨p, o, none⟩) l.length cap := hF.at 0 (by kernel_rfl)
                  have e58 : ac.eval (.tmp 58) = .bool true := hP 4 (by kernel_rfl)
                  exact rop_move _ rfl e0 (wanted_of (j := 4) (b := true) rfl rfl e58) (hK _ _ (le8_refl _) rfl)
                · intro ac w' hF hL hP hU K hK
                  have hB := below_undrew hL
                  have e9 : ac.eval (.tmp 9) = .int .i64 ((k : Nat) : Int) := hF.at 9 (by kernel_rfl)
                  have e58 : ac.eval (.tmp 58) = .bool true := hP 4 (by kernel_rfl)
                  exact rop_move _ rfl e9 (wanted_of (j := 4) (b := true) rfl rfl e58) (hK _ _ (le8_refl _) rfl)
                · intro ac w' hF hL hP hU K hK
                  have hB := below_undrew hL
                  have e59 : ac.eval (.tmp 59) = .slice (some ⟨p, o, none⟩) l.length cap := hP 5 (by kernel_rfl)
                  have e60 : ac.eval (.tmp 60) = .int .i64 ((k : Nat) : Int) := hP 6 (by kernel_rfl)
                  have e58 : ac.eval (.tmp 58) = .bool true := hP 4 (by kernel_rfl)
                  exact rop_idx _ _ _ rfl e59 e60 (idx_run p o l.length cap k hlt _) (wanted_of (j := 4) (b := true) rfl rfl e58) (hK _ _ (le8_refl _) rfl)
                · intro ac w' hF hL hP hU K hK
                  have hB := below_undrew hL
                  have e61 : ac.eval (.tmp 61) = .pointer (some ⟨p, o + k * 2, none⟩) := hP 7 (by kernel_rfl)
                  have e58 : ac.eval (.tmp 58) = .bool true := hP 4 (by kernel_rfl)
                  exact rop_fld _ _ _ rfl e61 (fld_run0 _ _ _) (wanted_of (j := 4) (b := true) rfl rfl e58) (hK _ _ (le8_refl _) rfl)
                · intro ac w' hF hL hP hU K hK
                  have hB := below_undrew hL
                  have e62 : ac.eval (.tmp 62) = .pointer (some ⟨p, o + k * 2, none⟩) := hP 8 (by kernel_rfl)
                  have e58 : ac.eval (.tmp 58) = .bool true := hP 4 (by kernel_rfl)
                  exact rop_ld _ _ rfl e62 (load_int ((hB.cell (p := ⟨p, _, none⟩) hp).trans e0)) (wanted_of (j := 4) (b := true) rfl rfl e58) (hK _ _ (le8_refl _) rfl)
                · intro ac w' hF hL hP hU K hK
                  have hB := below_undrew hL
                  have e3 : ac.eval (.tmp 3) = .pointer (some ⟨B3, 0, none⟩) := hF.at 3 (by kernel_rfl)
                  have e58 : ac.eval (.tmp 58) = .bool true := hP 4 (by kernel_rfl)
                  exact rop_fld _ _ _ rfl e3 (fld_run0 _ _ _) (wanted_of (j := 4) (b := true) rfl rfl e58) (hK _ _ (le8_refl _) rfl)
                · intro ac w' hF hL hP hU K hK
                  have hB := below_undrew hL
                  have e64 : ac.eval (.tmp 64) = .pointer (some ⟨B3, 0, none⟩) := hP 10 (by kernel_rfl)
                  have e58 : ac.eval (.tmp 58) = .bool true := hP 4 (by kernel_rfl)
                  exact rop_ld _ _ rfl e64 (load_int (x3.old hB).c0) (wanted_of (j := 4) (b := true) rfl rfl e58) (hK _ _ (le8_refl _) rfl)
                · intro ac w' hF hL hP hU K hK
                  have hB := below_undrew hL
                  have e63 : ac.eval (.tmp 63) = .int .i64 x := hP 9 (by kernel_rfl)
                  have e65 : ac.eval (.tmp 65) = .int .i64 a := hP 11 (by kernel_rfl)
                  have e58 : ac.eval (.tmp 58) = .bool true := hP 4 (by kernel_rfl)
                  exact rop_bin _ _ _ _ _ rfl e63 e65 (guard_int _ _ _ _ _ _ _ w') (lss_i _ _ _ (by rw [decide_eq_false_iff_not]; omega) w') (wanted_of (j := 4) (b := true) rfl rfl e58) (hK _ _ (le8_refl _) rfl)
                · intro ac w' hF hL hP hU K hK
                  have hB := below_undrew hL
                  have e58 : ac.eval (.tmp 58) = .bool true := hP 4 (by kernel_rfl)
                  have e66 : ac.eval (.tmp 66) = .bool false := hP 12 (by kernel_rfl)
                  exact rop_pick _ _ _ rfl true e58 (by simpa using e66) (wanted_none rfl) (hK _ _ (le8_refl _) rfl)
                · intro ac w' hF hB hT
                  have e67 : ac.eval (.tmp 67) = .bool false := hT 13 (by decide)
                  rw [hF.lit 86 rfl]
                  simp only [List.range, List.range.loop, List.map_cons, List.map_nil, e67, hF.at 0 (by kernel_rfl), hF.at 1 (by kernel_rfl), hF.at 2 (by kernel_rfl), hF.at 3 (by kernel_rfl), hF.at 4 (by kernel_rfl), hF.at 5 (by kernel_rfl), hF.at 6 (by kernel_rfl), hF.at 7 (by kernel_rfl), hF.at 8 (by kernel_rfl), hF.at 9 (by kernel_rfl), hF.at 10 (by kernel_rfl), hF.at 11 (by kernel_rfl), hF.at 12 (by kernel_rfl), hF.at 13 (by kernel_rfl), hF.at 14 (by kernel_rfl), hF.at 15 (by kernel_rfl), hF.at 16 (by kernel_rfl), hF.at 17 (by kernel_rfl), hF.at 18 (by kernel_rfl), hF.at 19 (by kernel_rfl), hF.at 20 (by kernel_rfl), hF.at 21 (by kernel_rfl), hF.at 22 (by kernel_rfl), hF.at 23 (by kernel_rfl), hF.at 24 (by kernel_rfl), hF.at 25 (by kernel_rfl), hF.at 26 (by kernel_rfl), hF.at 27 (by kernel_rfl), hF.at 28 (by kernel_rfl), hF.at 29 (by kernel_rfl), hF.at 30 (by kernel_rfl), hF.at 31 (by kernel_rfl), hF.at 32 (by kernel_rfl), hF.at 33 (by kernel_rfl), hF.at 34 (by kernel_rfl), hF.at 35 (by kernel_rfl), hF.at 36 (by kernel_rfl), hF.at 37 (by kernel_rfl), hF.at 38 (by kernel_rfl), hF.at 39 (by kernel_rfl), hF.at 40 (by kernel_rfl), hF.at 41 (by kernel_rfl), hF.at 42 (by kernel_rfl), hF.at 43 (by kernel_rfl), hF.at 44 (by kernel_rfl), hF.at 45 (by kernel_rfl), hF.at 46 (by kernel_rfl), hF.at 47 (by kernel_rfl), hF.at 48 (by kernel_rfl), hF.at 49 (by kernel_rfl), hF.at 50 (by kernel_rfl), hF.at 51 (by kernel_rfl), hF.at 52 (by kernel_rfl), hF.at 53 (by kernel_rfl), hF.at 68 (by kernel_rfl), hF.at 69 (by kernel_rfl), hF.at 70 (by kernel_rfl), hF.at 71 (by kernel_rfl), hF.at 72 (by kernel_rfl), hF.at 73 (by kernel_rfl), hF.at 74 (by kernel_rfl), hF.at 75 (by kernel_rfl), hF.at 76 (by kernel_rfl), hF.at 77 (by kernel_rfl), hF.at 78 (by kernel_rfl), hF.at 79 (by kernel_rfl), hF.at 80 (by kernel_rfl), hF.at 81 (by kernel_rfl), hF.at 82 (by kernel_rfl), hF.at 83 (by kernel_rfl), hF.at 84 (by kernel_rfl), hF.at 85 (by kernel_rfl)]
                  generalize ac.eval (.tmp 54) = u54
                  generalize ac.eval (.tmp 55) = u55
                  generalize ac.eval (.tmp 56) = u56
                  generalize ac.eval (.tmp 57) = u57
                  generalize ac.eval (.tmp 58) = u58
                  generalize ac.eval (.tmp 59) = u59
                  generalize ac.eval (.tmp 60) = u60
                  generalize ac.eval (.tmp 61) = u61
                  generalize ac.eval (.tmp 62) = u62
                  generalize ac.eval (.tmp 63) = u63
                  generalize ac.eval (.tmp 64) = u64
                  generalize ac.eval (.tmp 65) = u65
                  generalize ac.eval (.tmp 66) = u66
                  simp only [Act.eval, Array.getD_eq_getD_getElem?, List.getElem?_toArray, List.getElem?_cons_succ, List.getElem?_cons_zero, Option.getD_some]
                  clear e67 hT hF ac
                  replace x3 := x3.old hB
                  replace hb := below_step hb (Nat.le_refl _) hB
                  have hrun := hl1.old hb
                  have c0 := x3.c0
                  have c1 := x3.c1
                  obtain ⟨w7, hw7⟩ : ∃ w7, w7 = w'.alloc (.cells #[.int .i64 a, .int .i64 n] 24) := ⟨_, rfl⟩
                  have b7 : Below w'.heap.size w' w7 := by rw [hw7]; exact below_box _ _
                  have hone : Runs w7 (.slice (some ⟨w'.heap.size, 0, none⟩) 1 1) [(a, n)] := by rw [hw7]; exact Runs.one w' (a, n) hr
                  have hft := file_take hf k
                  have hfd := file_drop hf k
                  have hj1 := rjoin_any _ _ (l.take k) [(a, n)] w7 ((ho.kept hB).kept b7).runs hone hft (by rw [fileB_cons, hs]; rfl) (by rw [List.length_take]; omega) (by simp)
                  obtain ⟨J, hJ⟩ : ∃ J, J = jn (l.take k) [(a, n)] := ⟨_, rfl⟩
                  have hJl : J.length ≤ 1000 := by rw [hJ]; have := jn_len (l.take k) [(a, n)]; rw [List.length_take] at this; simp at this; omega
                  have hJf : fileB J = true := by rw [hJ]; exact jn_file hft (by rw [fileB_cons, hs]; rfl)
                  rw [← hJ] at hj1
                  have hj2 := fun u v (hu : Runs u v J) (hru : Runs u (.slice (some ⟨p, o, none⟩) l.length cap) l) => rjoin_any v _ J (l.drop k) u hu (hru.tail k hk) hJf hfd hJl (by rw [List.length_drop]; omega)
                  have q2 : ∀ u, (Instr.sliceAt 22 (.slice (some ⟨p, o, none⟩) l.length cap) (some (.int .i64 (k : Int))) none none).run Try.prog u = .ok (.slice (cutA (some ⟨p, o, none⟩) k cap) (l.length - k) (cap - k)) u := fun u => (sliceAt_run _ _ _ _ _).trans (slice_l (some ⟨p, o, none⟩) l.length cap k hk u)
                  obtain ⟨vs, hvs⟩ : ∃ vs, vs = Value.slice (cutA (some ⟨p, o, none⟩) k cap) (l.length - k) (cap - k) := ⟨_, rfl⟩
                  rw [← hvs] at q2 hj2
                  have HJ := Lib.hid hJ
                  have HH := Lib.hid hah
                  have hlw := below_step b1 (Nat.le_refl _) hb
                  clear hJ hvs hah hJl hft hfd hJf
                  go_upto_region 15 with (go_at_call 23; rw [← hw7]; refine hj1.mono ?_; rintro e w8 ⟨v8, rfl, h8, b8⟩)
                  replace hrun := (hrun.old b7).old b8
                  go_wp2_with (first
                    | (with_reducible refine wpList_slice_run rfl 22 (.tmp 82) (some (.tmp 83)) none none rfl rfl rfl rfl rfl (q2 _) ?_)
                    | (go_at_call 23; refine (hj2 _ _ h8 hrun).mono ?_; rintro e w9 ⟨v9, rfl, h9, b9⟩))
                  go_ret2
                  refine ⟨v9, by rw [(HG.out _ HH.out).1]; rfl, ?_, below_step (below_step (below_step hlw (Nat.le_refl _) b7) (Nat.le_refl _) b8) (Nat.le_refl _) b9⟩
                  rw [(HG.out _ HH.out).2, ← HJ.out]
                  exact h9
            · have hah : Ext.ahead l (a, n) = k := ahead_is hk (fun i h hik => HLE.out i h hik) (fun h => absurd h hlt)
              go_wp2
              try simp only [Act.put]
              refine wp_region_tab [RT.is (.int .i64 ((k : Nat) : Int)), RT.is (.slice va l.length cap), RT.is (.int .i64 ((l.length : Nat) : Int)), RT.is (.bool false), RT.is (.bool false), RT.any, RT.any, RT.any, RT.any, RT.any, RT.any, RT.any, RT.any, RT.is (.bool false)] (by kernel_rfl) (by kernel_rfl) (by kernel_rfl) (by kernel_rfl) ⟨?_, ?_, ?_, ?_, ?_, ?_, ?_, ?_, ?_, ?_, ?_, ?_, ?_, ?_, trivial⟩ ?_
              · intro ac w' hF hL hP hU K hK
                have hB := below_undrew hL
                have e9 : ac.eval (.tmp 9) = .int .i64 ((k : Nat) : Int) := hF.at 9 (by kernel_rfl)
                exact rop_move _ rfl e9 (wanted_none rfl) (hK _ _ (le8_refl _) rfl)
              · intro ac w' hF hL hP hU K hK
                have hB := below_undrew hL
                have e0 : ac.eval (.tmp 0) = .slice va l.length cap := hF.at 0 (by kernel_rfl)
                exact rop_move _ rfl e0 (wanted_none rfl) (hK _ _ (le8_refl _) rfl)
              · intro ac w' hF hL hP hU K hK
                have hB := below_undrew hL
                have e55 : ac.eval (.tmp 55) = .slice va l.length cap := hP 1 (by kernel_rfl)
                exact rop_len_sl _ rfl e55 (wanted_none rfl) (hK _ _ (le8_refl _) rfl)
              · intro ac w' hF hL hP hU K hK
                have hB := below_undrew hL
                have e54 : ac.eval (.tmp 54) = .int .i64 ((k : Nat) : Int) := hP 0 (by kernel_rfl)
                have e56 : ac.eval (.tmp 56) = .int .i64 ((l.length : Nat) : Int) := hP 2 (by kernel_rfl)
                exact rop_bin _ _ _ _ _ rfl e54 e56 (guard_int _ _ _ _ _ _ _ w') (lss_i _ _ _ (by rw [decide_eq_false_iff_not]; omega) w') (wanted_none rfl) (hK _ _ (le8_refl _) rfl)
              · intro ac w' hF hL hP hU K hK
                have hB := below_undrew hL
                have e57 : ac.eval (.tmp 57) = .bool false := hP 3 (by kernel_rfl)
                exact rop_move _ rfl e57 (wanted_none rfl) (hK _ _ (le8_refl _) rfl)
              · intro ac w' hF hL hP hU K hK
                have hB := below_undrew hL
                have e58 : ac.eval (.tmp 58) = .bool false := hP 4 (by kernel_rfl)
                exact rop_off (j := 4) (b := true) rfl rfl e58 (by decide) (hK _ _ (le8_refl _) trivial)
              · intro ac w' hF hL hP hU K hK
                have hB := below_undrew hL
                have e58 : ac.eval (.tmp 58) = .bool false := hP 4 (by kernel_rfl)
                exact rop_off (j := 4) (b := true) rfl rfl e58 (by decide) (hK _ _ (le8_refl _) trivial)
              · intro ac w' hF hL hP hU K hK
                have hB := below_undrew hL
                have e58 : ac.eval (.tmp 58) = .bool false := hP 4 (by kernel_rfl)
                exact rop_off (j := 4) (b := true) rfl rfl e58 (by decide) (hK _ _ (le8_refl _) trivial)
              · intro ac w' hF hL hP hU K hK
                have hB := below_undrew hL
                have e58 : ac.eval (.tmp 58) = .bool false := hP 4 (by kernel_rfl)
                exact rop_off (j := 4) (b := true) rfl rfl e58 (by decide) (hK _ _ (le8_refl _) trivial)
              · intro ac w' hF hL hP hU K hK
                have hB := below_undrew hL
                have e58 : ac.eval (.tmp 58) = .bool false := hP 4 (by kernel_rfl)
                exact rop_off (j := 4) (b := true) rfl rfl e58 (by decide) (hK _ _ (le8_refl _) trivial)
              · intro ac w' hF hL hP hU K hK
                have hB := below_undrew hL
                have e58 : ac.eval (.tmp 58) = .bool false := hP 4 (by kernel_rfl)
                exact rop_off (j := 4) (b := true) rfl rfl e58 (by decide) (hK _ _ (le8_refl _) trivial)
              · intro ac w' hF hL hP hU K hK
                have hB := below_undrew hL
                have e58 : ac.eval (.tmp 58) = .bool false := hP 4 (by kernel_rfl)
                exact rop_off (j := 4) (b := true) rfl rfl e58 (by decide) (hK _ _ (le8_refl _) trivial)
              · intro ac w' hF hL hP hU K hK
                have hB := below_undrew hL
                have e58 : ac.eval (.tmp 58) = .bool false := hP 4 (by kernel_rfl)
                exact rop_off (j := 4) (b := true) rfl rfl e58 (by decide) (hK _ _ (le8_refl _) trivial)
              · intro ac w' hF hL hP hU K hK
                have hB := below_undrew hL
                have e58 : ac.eval (.tmp 58) = .bool false := hP 4 (by kernel_rfl)
                exact rop_pick _ _ _ rfl false e58 (by rfl) (wanted_none rfl) (hK _ _ (le8_refl _) rfl)
              · intro ac w' hF hB hT
                have e67 : ac.eval (.tmp 67) = .bool false := hT 13 (by decide)
                rw [hF.lit 86 rfl]
                simp only [List.range, List.range.loop, List.map_cons, List.map_nil, e67, hF.at 0 (by kernel_rfl), hF.at 1 (by kernel_rfl), hF.at 2 (by kernel_rfl), hF.at 3 (by kernel_rfl), hF.at 4 (by kernel_rfl), hF.at 5 (by kernel_rfl), hF.at 6 (by kernel_rfl), hF.at 7 (by kernel_rfl), hF.at 8 (by kernel_rfl), hF.at 9 (by kernel_rfl), hF.at 10 (by kernel_rfl), hF.at 11 (by kernel_rfl), hF.at 12 (by kernel_rfl), hF.at 13 (by kernel_rfl), hF.at 14 (by kernel_rfl), hF.at 15 (by kernel_rfl), hF.at 16 (by kernel_rfl), hF.at 17 (by kernel_rfl), hF.at 18 (by kernel_rfl), hF.at 19 (by kernel_rfl), hF.at 20 (by kernel_rfl), hF.at 21 (by kernel_rfl), hF.at 22 (by kernel_rfl), hF.at 23 (by kernel_rfl), hF.at 24 (by kernel_rfl), hF.at 25 (by kernel_rfl), hF.at 26 (by kernel_rfl), hF.at 27 (by kernel_rfl), hF.at 28 (by kernel_rfl), hF.at 29 (by kernel_rfl), hF.at 30 (by kernel_rfl), hF.at 31 (by kernel_rfl), hF.at 32 (by kernel_rfl), hF.at 33 (by kernel_rfl), hF.at 34 (by kernel_rfl), hF.at 35 (by kernel_rfl), hF.at 36 (by kernel_rfl), hF.at 37 (by kernel_rfl), hF.at 38 (by kernel_rfl), hF.at 39 (by kernel_rfl), hF.at 40 (by kernel_rfl), hF.at 41 (by kernel_rfl), hF.at 42 (by kernel_rfl), hF.at 43 (by kernel_rfl), hF.at 44 (by kernel_rfl), hF.at 45 (by kernel_rfl), hF.at 46 (by kernel_rfl), hF.at 47 (by kernel_rfl), hF.at 48 (by kernel_rfl), hF.at 49 (by kernel_rfl), hF.at 50 (by kernel_rfl), hF.at 51 (by kernel_rfl), hF.at 52 (by kernel_rfl), hF.at 53 (by kernel_rfl), hF.at 68 (by kernel_rfl), hF.at 69 (by kernel_rfl), hF.at 70 (by kernel_rfl), hF.at 71 (by kernel_rfl), hF.at 72 (by kernel_rfl), hF.at 73 (by kernel_rfl), hF.at 74 (by kernel_rfl), hF.at 75 (by kernel_rfl), hF.at 76 (by kernel_rfl), hF.at 77 (by kernel_rfl), hF.at 78 (by kernel_rfl), hF.at 79 (by kernel_rfl), hF.at 80 (by kernel_rfl), hF.at 81 (by kernel_rfl), hF.at 82 (by kernel_rfl), hF.at 83 (by kernel_rfl), hF.at 84 (by kernel_rfl), hF.at 85 (by kernel_rfl)]
                generalize ac.eval (.tmp 54) = u54
                generalize ac.eval (.tmp 55) = u55
                generalize ac.eval (.tmp 56) = u56
                generalize ac.eval (.tmp 57) = u57
                generalize ac.eval (.tmp 58) = u58
                generalize ac.eval (.tmp 59) = u59
                generalize ac.eval (.tmp 60) = u60
                generalize ac.eval (.tmp 61) = u61
                generalize ac.eval (.tmp 62) = u62
                generalize ac.eval (.tmp 63) = u63
                generalize ac.eval (.tmp 64) = u64
                generalize ac.eval (.tmp 65) = u65
                generalize ac.eval (.tmp 66) = u66
                simp only [Act.eval, Array.getD_eq_getD_getElem?, List.getElem?_toArray, List.getElem?_cons_succ, List.getElem?_cons_zero, Option.getD_some]
                clear e67 hT hF ac
                replace x3 := x3.old hB
                replace hb := below_step hb (Nat.le_refl _) hB
                have hrun := hl1.old hb
                have c0 := x3.c0
                have c1 := x3.c1
                obtain ⟨w7, hw7⟩ : ∃ w7, w7 = w'.alloc (.cells #[.int .i64 a, .int .i64 n] 24) := ⟨_, rfl⟩
                have b7 : Below w'.heap.size w' w7 := by rw [hw7]; exact below_box _ _
                have hone : Runs w7 (.slice (some ⟨w'.heap.size, 0, none⟩) 1 1) [(a, n)] := by rw [hw7]; exact Runs.one w' (a, n) hr
                have hft := file_take hf k
                have hfd := file_drop hf k
                have hj1 := rjoin_any _ _ (l.take k) [(a, n)] w7 ((ho.kept hB).kept b7).runs hone hft (by rw [fileB_cons, hs]; rfl) (by rw [List.length_take]; omega) (by simp)
                obtain ⟨J, hJ⟩ : ∃ J, J = jn (l.take k) [(a, n)] := ⟨_, rfl⟩
                have hJl : J.length ≤ 1000 := by rw [hJ]; have := jn_len (l.take k) [(a, n)]; rw [List.length_take] at this; simp at this; omega
                have hJf : fileB J = true := by rw [hJ]; exact jn_file hft (by rw [fileB_cons, hs]; rfl)
                rw [← hJ] at hj1
                have hj2 := fun u v (hu : Runs u v J) (hru : Runs u (.slice va l.length cap) l) => rjoin_any v _ J (l.drop k) u hu (hru.tail k hk) hJf hfd hJl (by rw [List.length_drop]; omega)
                have q2 : ∀ u, (Instr.sliceAt 22 (.slice va l.length cap) (some (.int .i64 (k : Int))) none none).run Try.prog u = .ok (.slice (cutA va k cap) (l.length - k) (cap - k)) u := fun u => (sliceAt_run _ _ _ _ _).trans (slice_l va l.length cap k hk u)
                obtain ⟨vs, hvs⟩ : ∃ vs, vs = Value.slice (cutA va k cap) (l.length - k) (cap - k) := ⟨_, rfl⟩
                rw [← hvs] at q2 hj2
                have HJ := Lib.hid hJ
                have HH := Lib.hid hah
                have hlw := below_step b1 (Nat.le_refl _) hb
                clear hJ hvs hah hJl hft hfd hJf
                go_upto_region 15 with (go_at_call 23; rw [← hw7]; refine hj1.mono ?_; rintro e w8 ⟨v8, rfl, h8, b8⟩)
                replace hrun := (hrun.old b7).old b8
                go_wp2_with (first
                  | (with_reducible refine wpList_slice_run rfl 22 (.tmp 82) (some (.tmp 83)) none none rfl rfl rfl rfl rfl (q2 _) ?_)
                  | (go_at_call 23; refine (hj2 _ _ h8 hrun).mono ?_; rintro e w9 ⟨v9, rfl, h9, b9⟩))
                go_ret2
                refine ⟨v9, by rw [(HG.out _ HH.out).1]; rfl, ?_, below_step (below_step (below_step hlw (Nat.le_refl _) b7) (Nat.le_refl _) b8) (Nat.le_refl _) b9⟩
                rw [(HG.out _ HH.out).2, ← HJ.out]
                exact h9
end Go.Proofs.Ytlbnopfbfnobnaa
