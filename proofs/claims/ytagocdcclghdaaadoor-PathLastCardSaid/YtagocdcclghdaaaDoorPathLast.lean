/-
  PathLast: the path of the last leaf has the roots of the parts ahead, the last one first. For all hashes (the first 20 of them); the numbers K of the package sha are as the program's own start lays them.
-/
import Derived.Test.YtagocdcclghdaaaDoorPathLaw
namespace Go.Proofs.YtagocdcclghdaaaDoor.pathLast
open Go.ChangeShapes Go.WideShapes Go.ChangeAt Go.RowKit

/-- Ahead of a part: what was told so far, and what the rest has, are all. -/
def LastRel (B : Nat) (w : World) (r : Hs) (n : Nat) (s8 s9 s10 : Value) (wr : World) : Prop :=
  ∃ (lo left : Nat) (acc : Hs), s9 = .int .i64 (lo : Int) ∧ s10 = .int .i64 (left : Int) ∧ lo + left = n ∧ 1 ≤ left ∧ OwnS B wr s8 acc ∧ acc ++ Tree.ahead (r.drop lo) = Tree.ahead r ∧ Below B w wr
set_option maxHeartbeats 8000000 in
set_option maxRecDepth 100000 in
theorem walk {w : World} (hK : KT w) (v : Value) (l : Hs) (hv : Sums w v l) :
    Calls Tryd.prog 7 #[v] w fun e w' => e = .returned (.bool true) ∧ Below w.heap.size w w' := by
  have HAW := Lib.hid (awake10_any w hK)
  have HV := Lib.hid hv
  obtain ⟨r, hr⟩ : ∃ r, r = l.take 20 := ⟨_, rfl⟩
  have hrl : r.length ≤ 20 := by rw [hr, List.length_take]; omega
  have hro : all32 r := by rw [hr]; exact hv.ok.take 20
  obtain ⟨n, hn⟩ : ∃ n, n = r.length := ⟨_, rfl⟩
  have hn20 : n ≤ 20 := by omega
  have Hr := Lib.hid hr
  have Hro := Lib.hid hro
  have Hn := Lib.hid hn
  have HKW := Lib.hid hK
  clear hrl hr hn hv hK hro
  go_enter Tryd.func7, Tryd.ntmps7
  go_upto_region 4 with (first
    | (go_at_call 9; ((with_reducible refine HAW.out.mono ?_); rintro e w1 ⟨rfl, b1⟩))
    | (go_at_call 10; refine (few10_any _ l _ (HV.out.old b1)).mono ?_; rintro e w2 ⟨v6, rfl, h6, rfl⟩; rw [← Hr.out] at h6; have H6 := Lib.hid h6.1; obtain ⟨a6, c6, rfl, hnc, hcc⟩ := h6.1.slice; rw [← Hn.out] at H6 hnc ⊢; clear h6))
  by_cases h2 : n < 2
  · have h2' : (n : Int) < 2 := by omega
    go_wp2
    go_ret
    exact ⟨rfl, b1⟩
  · have h2' : ¬ (n : Int) < 2 := by omega
    obtain ⟨k, hk⟩ : ∃ k, k = Tree.long (n - 1) n := ⟨_, rfl⟩
    have hk5 : k ≤ 5 := by rw [hk]; exact long_lt _ n hn20
    obtain ⟨P, hP⟩ : ∃ P, P = Tree.path r (n - 1) := ⟨_, rfl⟩
    have hPl : P.length = k := by rw [hP, Tree.path_length _ _ _ (Nat.le_refl _), ← Hn.out, ← hk]
    have hP32 : ∀ x ∈ P, x.length = 32 := by rw [hP]; exact Tree.path_all _ r _ (Nat.le_refl _) Hro.out
    have hPA : P = (Tree.ahead r).reverse := by rw [hP, Hn.out]; exact Tree.path_last _ r (Nat.le_refl _)
    have hAl : (Tree.ahead r).length = k := by rw [← hPl, hPA, List.length_reverse]
    have e1 : (n : Int) - 1 = ((n - 1 : Nat) : Int) := by omega
    have HPT : Hid (∀ v u, KT u → Sums u v r → Calls Tryd.prog 11 #[v, .int .i64 ((n : Int) - 1)] u fun e w' => ∃ b c, e = .returned (.tuple #[.slice b k c, .bool true]) ∧ Sums w' (.slice b k c) P ∧ Below u.heap.size u w') := Lib.hid fun v u hk0 hv => by
      have := path_any v r ((n - 1 : Nat) : Int) u hv (by have := Hn.out; omega) hk0
      rw [pathZ_t r (n - 1) (by have := Hn.out; omega), ← hP, ← e1] at this
      refine this.mono fun e w' ⟨v', he, ho, hb⟩ => ?_
      obtain ⟨b, c, rfl, -, -⟩ := ho.sums.slice
      have hs := ho.sums
      simp only at hs he
      rw [hPl] at he hs
      exact ⟨b, c, he, hs, hb⟩
    have hw1 := IntWalk.i64_in ((n : Int) - 1) (by omega)
    have hw2 := IntWalk.i64_in (n : Int) (by omega)
    have HP32 := Lib.hid hP32
    have HPK := Lib.hid hPl
    have HPA := Lib.hid hPA
    have HAl := Lib.hid hAl
    clear hk hP hPl hP32 hPA hAl e1
    go_upto_region 7 with (go_at_call 11; ((with_reducible refine (HPT.out _ _ (HKW.out.old b1) H6.out).mono ?_); rintro e w3 ⟨ap, cp, rfl, hsp, b3⟩; have HSP := Lib.hid hsp; clear hsp))
    obtain ⟨B, hB0⟩ : ∃ B, B = w3.heap.size := ⟨_, rfl⟩
    have HB0 := Lib.hid hB0
    have bz := below_step b1 (Nat.le_refl _) b3
    clear hB0
    go_wp2
    go_loopw [8, 9, 10] (LastRel B w3 r n) (fun _ _ s10 _ => (intOf s10).toNat)
    case atStart => exact ⟨0, n, [], rfl, rfl, by omega, by omega, OwnS.nil _ _, rfl, Below.refl _ _⟩
    case round =>
      obtain ⟨lo, left, acc, rfl, rfl, hsum, hl1, ho, hac, hbel⟩ := hrel
      have hBW : B ≤ wr.heap.size := HB0.out ▸ hbel.size
      obtain ⟨aw, cw, rfl, _, _⟩ := ho.sums.slice
      have hbw : Below w3.heap.size w3 wr := HB0.out ▸ hbel
      by_cases hle : left < 2
      · have hle' : ¬ 1 < (left : Int) := by omega
        rw [Tree.ahead_small (l := r.drop lo) (by rw [List.length_drop, ← Hn.out]; omega), List.append_nil] at hac
        have hal : acc.length = k := by rw [hac]; exact HAl.out
        have hss := ho.sums
        rw [hal] at hss ⊢
        have HSS := Lib.hid hss
        have HAC := Lib.hid hac
        have HKL := Lib.hid hal
        clear ho hac hss hal
        go_upto_region 15 with (fail)
        try simp only [Act.put]
        refine wp_region_tab0 [RT.is (.bool true), RT.is (.bool false), RT.is (.bool false), RT.is (.slice ap k cp), RT.is (.int .i64 (k : Int)), RT.is (.slice aw k cw), RT.is (.int .i64 (k : Int)), RT.is (.bool false), RT.is (.bool false)] (by kernel_rfl) (by kernel_rfl) (by kernel_rfl) ⟨?_, ?_, ?_, ?_, ?_, ?_, ?_, ?_, ?_, trivial⟩ ?_
        · intro ac w' hF hL hP hU K hK
          have hB : Below _ _ _ := hL
          have e7 : ac.eval (.tmp 7) = .bool true := hF.at 7 (by kernel_rfl)
          exact rop_move _ rfl e7 (wanted_none rfl) (hK _ _ (le8_refl _) rfl)
        · intro ac w' hF hL hP hU K hK
          have hB : Below _ _ _ := hL
          have e49 : ac.eval (.tmp 49) = .bool true := hP 0 (by kernel_rfl)
          exact rop_not _ _ rfl true e49 (wanted_none rfl) (hK _ _ (le8_refl _) rfl)
        · intro ac w' hF hL hP hU K hK
          have hB : Below _ _ _ := hL
          have e50 : ac.eval (.tmp 50) = .bool false := hP 1 (by kernel_rfl)
          exact rop_move _ rfl e50 (wanted_none rfl) (hK _ _ (le8_refl _) rfl)
        · intro ac w' hF hL hP hU K hK
          have hB : Below _ _ _ := hL
          have e6 : ac.eval (.tmp 6) = .slice ap k cp := hF.at 6 (by kernel_rfl)
          have e51 : ac.eval (.tmp 51) = .bool false := hP 2 (by kernel_rfl)
          exact rop_move _ rfl e6 (wanted_of (j := 2) (b := false) rfl rfl e51) (hK _ _ (le8_refl _) rfl)
        · intro ac w' hF hL hP hU K hK
          have hB : Below _ _ _ := hL
          have e52 : ac.eval (.tmp 52) = .slice ap k cp := hP 3 (by kernel_rfl)
          have e51 : ac.eval (.tmp 51) = .bool false := hP 2 (by kernel_rfl)
          exact rop_lenG _ Tryd.underlying22 rfl e52 (wanted_of (j := 2) (b := false) rfl rfl e51) (hK _ _ (le8_refl _) rfl)
        · intro ac w' hF hL hP hU K hK
          have hB : Below _ _ _ := hL
          have e8 : ac.eval (.tmp 8) = .slice aw k cw := hF.at 8 (by kernel_rfl)
          have e51 : ac.eval (.tmp 51) = .bool false := hP 2 (by kernel_rfl)
          exact rop_move _ rfl e8 (wanted_of (j := 2) (b := false) rfl rfl e51) (hK _ _ (le8_refl _) rfl)
        · intro ac w' hF hL hP hU K hK
          have hB : Below _ _ _ := hL
          have e54 : ac.eval (.tmp 54) = .slice aw k cw := hP 5 (by kernel_rfl)
          have e51 : ac.eval (.tmp 51) = .bool false := hP 2 (by kernel_rfl)
          exact rop_lenG _ Tryd.underlying22 rfl e54 (wanted_of (j := 2) (b := false) rfl rfl e51) (hK _ _ (le8_refl _) rfl)
        · intro ac w' hF hL hP hU K hK
          have hB : Below _ _ _ := hL
          have e53 : ac.eval (.tmp 53) = .int .i64 (k : Int) := hP 4 (by kernel_rfl)
          have e55 : ac.eval (.tmp 55) = .int .i64 (k : Int) := hP 6 (by kernel_rfl)
          have e51 : ac.eval (.tmp 51) = .bool false := hP 2 (by kernel_rfl)
          exact rop_bin _ _ _ _ _ rfl e53 e55 (guard_int _ _ _ _ _ _ _ w') (neq_iG _ _ _ (by simp) w') (wanted_of (j := 2) (b := false) rfl rfl e51) (hK _ _ (le8_refl _) rfl)
        · intro ac w' hF hL hP hU K hK
          have hB : Below _ _ _ := hL
          have e51 : ac.eval (.tmp 51) = .bool false := hP 2 (by kernel_rfl)
          have e56 : ac.eval (.tmp 56) = .bool false := hP 7 (by kernel_rfl)
          exact rop_pick _ _ _ rfl false e51 (by simpa using e56) (wanted_none rfl) (hK _ _ (le8_refl _) rfl)
        · intro ac w' hF hB hT
          have e57 : ac.eval (.tmp 57) = .bool false := hT 8 (by decide)
          rw [hF.setsG [49, 50, 51, 52, 53, 54, 55, 56, 57] (by kernel_rfl)]
          simp only [List.foldl_cons, List.foldl_nil, List.setIfInBounds_toArray, List.set_cons_succ, List.set_cons_zero, e57]
          generalize ac.eval (.tmp 49) = u49
          generalize ac.eval (.tmp 50) = u50
          generalize ac.eval (.tmp 51) = u51
          generalize ac.eval (.tmp 52) = u52
          generalize ac.eval (.tmp 53) = u53
          generalize ac.eval (.tmp 54) = u54
          generalize ac.eval (.tmp 55) = u55
          generalize ac.eval (.tmp 56) = u56
          clear e57 hT hF ac
          obtain ⟨W, hW⟩ : ∃ W, W = w' := ⟨_, rfl⟩
          subst hW
          have hW3 := below_step hbw (Nat.le_refl _) hB
          have hWr := hB
          clear hB
          go_wp2
          go_loopw [12] (fun s12 wq => Below W.heap.size W wq ∧ ∃ i : Nat, s12 = .int .i64 (i : Int) ∧ i ≤ k) (fun s12 _ => k - (intOf s12).toNat)
          case atStart => exact ⟨Below.refl _ _, 0, rfl, by omega⟩
          case round =>
            obtain ⟨wo, hwo⟩ : ∃ wo, wo = wr := ⟨_, rfl⟩
            obtain ⟨hWq, i, rfl, hi⟩ := hrel
            clear hwo
            by_cases hik : i < k
            · have hik' : (i : Int) < (k : Int) := by omega
              obtain ⟨x, hx⟩ : ∃ x, P[i]? = some x := ⟨_, List.getElem?_eq_getElem (by rw [HPK.out]; exact hik)⟩
              have hxl := HP32.out x (List.mem_of_getElem? hx)
              have hxa : acc[k - 1 - i]? = some x := by
                rw [HAC.out]
                have h := hx
                rw [HPA.out, List.getElem?_reverse (by rw [HAl.out]; exact hik), HAl.out] at h
                exact h
              obtain ⟨bp, op, rfl, hbp0, -, hrp0⟩ := HSP.out.at i (by rw [HPK.out]; exact hik)
              rw [(List.getElem?_eq_some_iff.1 hx).2] at hrp0
              obtain ⟨bw, ow, rfl, hbw0, -, hrw0⟩ := HSS.out.at (k - 1 - i) (by rw [HKL.out]; omega)
              rw [(List.getElem?_eq_some_iff.1 hxa).2] at hrw0
              have hbp1 := Nat.lt_of_lt_of_le hbp0 hW3.size
              have hbw1 := Nat.lt_of_lt_of_le hbw0 hWr.size
              have hrp := below_range hWq hbp1 (below_range hW3 hbp0 hrp0)
              have hrw := below_range hWq hbw1 (below_range hWr hbw0 hrw0)
              have hbp := Nat.lt_of_lt_of_le hbp1 hWq.size
              have hbw := Nat.lt_of_lt_of_le hbw1 hWq.size
              have HXl := Lib.hid hxl
              clear hx hxa hxl hbp0 hrp0 hbw0 hrw0
              go_upto_region 20 with (fail)
              try simp only [Act.put]
              refine wp_region_tab [RT.is (.slice (some ⟨bp, op, none⟩) k cp), RT.is (.int .i64 (i : Int)), RT.is (.pointer (some ⟨bp, op + i * 32, none⟩)), RT.is (sumV x), RT.is (.slice (some ⟨bw, ow, none⟩) k cw), RT.is (.slice (some ⟨bw, ow, none⟩) k cw), RT.is (.int .i64 (k : Int)), RT.is (.int .i64 ((k : Int) - 1)), RT.is (.int .i64 (i : Int)), RT.is (.int .i64 (((k - 1 - i : Nat) : Int))), RT.is (.pointer (some ⟨bw, ow + (k - 1 - i) * 32, none⟩)), RT.is (sumV x), RT.is (.bool false)] (by kernel_rfl) (by kernel_rfl) (by kernel_rfl) (by kernel_rfl) ⟨?_, ?_, ?_, ?_, ?_, ?_, ?_, ?_, ?_, ?_, ?_, ?_, ?_, trivial⟩ ?_
              · intro ac w' hF hL hP hU K hK
                have hB := below_undrew hL
                have e6 : ac.eval (.tmp 6) = .slice (some ⟨bp, op, none⟩) k cp := hF.at 6 (by kernel_rfl)
                exact rop_move _ rfl e6 (wanted_none rfl) (hK _ _ (le8_refl _) rfl)
              · intro ac w' hF hL hP hU K hK
                have hB := below_undrew hL
                have e12 : ac.eval (.tmp 12) = .int .i64 (i : Int) := hF.at 12 (by kernel_rfl)
                exact rop_move _ rfl e12 (wanted_none rfl) (hK _ _ (le8_refl _) rfl)
              · intro ac w' hF hL hP hU K hK
                have hB := below_undrew hL
                have e64 : ac.eval (.tmp 64) = .slice (some ⟨bp, op, none⟩) k cp := hP 0 (by kernel_rfl)
                have e65 : ac.eval (.tmp 65) = .int .i64 (i : Int) := hP 1 (by kernel_rfl)
                exact rop_idx _ _ _ rfl e64 e65 (index_sums bp op k cp i hik w') (wanted_none rfl) (hK _ _ (le8_refl _) rfl)
              · intro ac w' hF hL hP hU K hK
                have hB := below_undrew hL
                have e66 : ac.eval (.tmp 66) = .pointer (some ⟨bp, op + i * 32, none⟩) := hP 2 (by kernel_rfl)
                exact rop_ld _ _ rfl e66 (run_loadAt_mid _ _ _ _ _ _ (below_range hB hbp hrp) Tryd.underlying35 rfl (sum_info' HXl.out)) (wanted_none rfl) (hK _ _ (le8_refl _) rfl)
              · intro ac w' hF hL hP hU K hK
                have hB := below_undrew hL
                have e8 : ac.eval (.tmp 8) = .slice (some ⟨bw, ow, none⟩) k cw := hF.at 8 (by kernel_rfl)
                exact rop_move _ rfl e8 (wanted_none rfl) (hK _ _ (le8_refl _) rfl)
              · intro ac w' hF hL hP hU K hK
                have hB := below_undrew hL
                have e8 : ac.eval (.tmp 8) = .slice (some ⟨bw, ow, none⟩) k cw := hF.at 8 (by kernel_rfl)
                exact rop_move _ rfl e8 (wanted_none rfl) (hK _ _ (le8_refl _) rfl)
              · intro ac w' hF hL hP hU K hK
                have hB := below_undrew hL
                have e69 : ac.eval (.tmp 69) = .slice (some ⟨bw, ow, none⟩) k cw := hP 5 (by kernel_rfl)
                exact rop_lenG _ Tryd.underlying22 rfl e69 (wanted_none rfl) (hK _ _ (le8_refl _) rfl)
              · intro ac w' hF hL hP hU K hK
                have hB := below_undrew hL
                have e70 : ac.eval (.tmp 70) = .int .i64 (k : Int) := hP 6 (by kernel_rfl)
                exact rop_bin _ _ _ _ _ rfl e70 rfl (guard_int _ _ _ _ _ _ _ w') (sub_int _ _ _ (rfl) (by omega) w') (wanted_none rfl) (hK _ _ (le8_refl _) rfl)
              · intro ac w' hF hL hP hU K hK
                have hB := below_undrew hL
                have e12 : ac.eval (.tmp 12) = .int .i64 (i : Int) := hF.at 12 (by kernel_rfl)
                exact rop_move _ rfl e12 (wanted_none rfl) (hK _ _ (le8_refl _) rfl)
              · intro ac w' hF hL hP hU K hK
                have hB := below_undrew hL
                have e71 : ac.eval (.tmp 71) = .int .i64 ((k : Int) - 1) := hP 7 (by kernel_rfl)
                have e72 : ac.eval (.tmp 72) = .int .i64 (i : Int) := hP 8 (by kernel_rfl)
                exact rop_bin _ _ _ _ _ rfl e71 e72 (guard_int _ _ _ _ _ _ _ w') (sub_int _ _ _ (by omega) (by omega) w') (wanted_none rfl) (hK _ _ (le8_refl _) rfl)
              · intro ac w' hF hL hP hU K hK
                have hB := below_undrew hL
                have e68 : ac.eval (.tmp 68) = .slice (some ⟨bw, ow, none⟩) k cw := hP 4 (by kernel_rfl)
                have e73 : ac.eval (.tmp 73) = .int .i64 (((k - 1 - i : Nat) : Int)) := hP 9 (by kernel_rfl)
                exact rop_idx _ _ _ rfl e68 e73 (index_sums bw ow k cw (k - 1 - i) (by omega) w') (wanted_none rfl) (hK _ _ (le8_refl _) rfl)
              · intro ac w' hF hL hP hU K hK
                have hB := below_undrew hL
                have e74 : ac.eval (.tmp 74) = .pointer (some ⟨bw, ow + (k - 1 - i) * 32, none⟩) := hP 10 (by kernel_rfl)
                exact rop_ld _ _ rfl e74 (run_loadAt_mid _ _ _ _ _ _ (below_range hB hbw hrw) Tryd.underlying35 rfl (sum_info' HXl.out)) (wanted_none rfl) (hK _ _ (le8_refl _) rfl)
              · intro ac w' hF hL hP hU K hK
                have hB := below_undrew hL
                have e67 : ac.eval (.tmp 67) = sumV x := hP 3 (by kernel_rfl)
                have e75 : ac.eval (.tmp 75) = sumV x := hP 11 (by kernel_rfl)
                exact rop_bin _ _ _ _ _ rfl e67 e75 (guard_run .neq _ _ _ _ w') (neq_sum_ff x x HXl.out HXl.out rfl w') (wanted_none rfl) (hK _ _ (le8_refl _) rfl)
              · intro ac w' hF hB hT
                have e76 : ac.eval (.tmp 76) = .bool false := hT 12 (by decide)
                rw [hF.setsG [64, 65, 66, 67, 68, 69, 70, 71, 72, 73, 74, 75, 76] (by kernel_rfl)]
                simp only [List.foldl_cons, List.foldl_nil, List.setIfInBounds_toArray, List.set_cons_succ, List.set_cons_zero, e76]
                generalize ac.eval (.tmp 64) = u64
                generalize ac.eval (.tmp 65) = u65
                generalize ac.eval (.tmp 66) = u66
                generalize ac.eval (.tmp 67) = u67
                generalize ac.eval (.tmp 68) = u68
                generalize ac.eval (.tmp 69) = u69
                generalize ac.eval (.tmp 70) = u70
                generalize ac.eval (.tmp 71) = u71
                generalize ac.eval (.tmp 72) = u72
                generalize ac.eval (.tmp 73) = u73
                generalize ac.eval (.tmp 74) = u74
                generalize ac.eval (.tmp 75) = u75
                clear e76 hT hF ac
                have hWn := below_step hWq (Nat.le_refl _) hB
                clear hB hrp hrw hbp hbw
                go_wp2
                exact ⟨⟨hWn, i + 1, by simp, by omega⟩, by simp [intOf]; omega⟩
            · have hik' : ¬ (i : Int) < (k : Int) := by omega
              go_wp2
              go_ret
              exact ⟨rfl, below_step bz (Nat.le_refl _) (below_step hW3 (Nat.le_refl _) hWq)⟩
      · have hle' : 1 < (left : Int) := by omega
        obtain ⟨s, hs⟩ : ∃ s, s = Tree.split left := ⟨_, rfl⟩
        have hlt := Tree.split_lt (n := left) (by omega)
        have hps := Tree.split_pos (n := left) (by omega)
        have hsp := fun u => rleafSplit_any (left : Int) (by omega) (by omega) u
        rw [Int.toNat_natCast, ← hs] at hsp
        rw [← hs] at hlt hps
        have hdl : (r.drop lo).length = left := by rw [List.length_drop, ← Hn.out]; omega
        have hsq := ((H6.out.old b3).old hbw).tail lo (by rw [← Hn.out]; omega)
        rw [← Hn.out, show n - lo = left by omega] at hsq
        have hsh := hsq.head s (by rw [hdl]; omega)
        have hgo := Tree.ahead_go (l := r.drop lo) (by rw [hdl]; omega)
        rw [hdl, ← hs, List.drop_drop] at hgo
        obtain ⟨D, hD⟩ : ∃ D, D = Tree.root ((r.drop lo).take s) := ⟨_, rfl⟩
        rw [← hD] at hgo
        rw [hgo] at hac
        have hDl : D.length = 32 := by rw [hD]; exact Tree.root_length _ hsh.ok
        have hrt := rleafRoot_any s ((r.drop lo).take s) _ wr (by rw [List.length_take, hdl]; omega) (by omega) hsh
        rw [← hD] at hrt
        unfold sumV at hrt
        have hcut := fun u => scut_lh a6 n c6 lo (lo + s) (by omega) (by omega) u
        rw [show lo + s - lo = s by omega, show ((lo + s : Nat) : Int) = (lo : Int) + (s : Int) by omega] at hcut
        obtain ⟨va, hva⟩ : ∃ va, va = cutS a6 lo c6 := ⟨_, rfl⟩
        rw [← hva] at hrt hcut
        have HCUT := Lib.hid hcut
        have hacl : acc.length ≤ 5 := by
          have := congrArg List.length hac
          rw [HAl.out, List.length_append] at this
          omega
        have hac2 : (acc ++ [D]) ++ Tree.ahead (r.drop (lo + s)) = Tree.ahead r := by rw [List.append_assoc]; exact hac
        have hw5 := IntWalk.i64_in ((lo : Int) + (s : Int)) (by omega)
        have hw6 := IntWalk.i64_in ((left : Int) - (s : Int)) (by omega)
        have HSPL := Lib.hid hsp
        have HRT := Lib.hid hrt
        have HAC := Lib.hid hac2
        have HO := Lib.hid ho
        have HDl := Lib.hid hDl
        have HBL := Lib.hid hbel
        have hfold := fold_zero D hDl
        have hD32 := hDl
        clear hsp hs hdl hsq hsh hgo hD hDl hrt hac hac2 hva hcut ho hbw hbel
        go_wp2_with (first
          | (go_at_call 24; ((with_reducible refine (HSPL.out _).mono ?_); rintro e w4 ⟨rfl, rfl⟩))
          | (refine wpList_slice_runS rfl 22 (.tmp 34) (some (.tmp 35)) (some (.tmp 38)) none rfl (u := .slice a6 n c6) (lo' := some (.int .i64 (lo : Int))) (hi' := some (.int .i64 ((lo : Int) + (s : Int)))) (mx' := none) rfl rfl rfl rfl (HCUT.out _) ?_)
          | (go_at_call 23; ((with_reducible refine HRT.out.mono ?_); rintro e w5 ⟨rfl, b5⟩; obtain ⟨v8, w8, hr8, ho8, b8⟩ := sappend_own 22 (HO.out.kept (b5.trans ((Below.refl w5.heap.size w5).alloc (Nat.le_refl _) (.cells (D.map u8V).toArray 35) |>.mono b5.size))) (Sums.one w5 D HDl.out) (by simp; have := b5.size; omega) (by simp; omega); have HR8 := Lib.hid hr8; have HO8 := Lib.hid ho8; have b9 := (HBL.out.trans (b5.mono hBW)).trans ((((Below.refl w5.heap.size w5).alloc (Nat.le_refl _) (.cells (D.map u8V).toArray 35)).mono (Nat.le_trans hBW b5.size)).trans b8); clear hr8 ho8))
          | (at_builtin; refine Lib.wpList_append_run _ rfl _ _ _ _ rfl _ _ rfl rfl _ _ HR8.out ?_))
        exact ⟨⟨lo + s, left - s, acc ++ [D], by simp, by rw [Int.ofNat_sub (by omega)], by omega, by omega, HO8.out, HAC.out, b9⟩, by simp [intOf]; omega⟩

set_option maxRecDepth 100000 in
theorem lifted (os : Os) (started : os.Started) (H : Type) (enc : TypeId × Value → H) :
    ReturnsInHanded {} Tryd.checked os 7 .any (fun w args => (Rows.pathLastSpec.pre enc Tryd.prog Tryd.f7 [] false w args ∧ laidMetH Tryd.prog [("scrinium/sha.k", Rows.laid_scrinium_sha_k)] w) ∧ sizedMet enc Tryd.prog Tryd.f7 (OpenSpec.ofChange Rows.pathLastSpec) false w args)
      (Rows.pathLastSpec.post enc Tryd.prog Tryd.f7 false true false false) := by
  refine returnsInHanded_of_change_and (C := Tryd.checked) (X := fun w _ => laidMetH Tryd.prog [("scrinium/sha.k", Rows.laid_scrinium_sha_k)] w) (fun _ _ _ hh h => h.of_heap hh) lawOwn started (by kernel_rfl) Tryd.func7
    (ChangeSpec.witness_shaped (enc := enc) (C := Tryd.checked) (os := os) (X := fun w _ => laidMetH Tryd.prog [("scrinium/sha.k", Rows.laid_scrinium_sha_k)] w) false (World.doorLaid Tryd.prog 400 os) #[.slice none 0 0] 8 rfl (World.shaped_of_RefB (by kernel_rfl) (by kernel_rfl)) (by kernel_rfl) (by kernel_rfl) (by kernel_rfl) (door_met os _)) ?_
  intro W base args ds gs before hval0 hW _ _ hL _
  have hval : ∀ (j : Nat) t v, Tryd.f7.params[j]? = some t → args[j]? = some v → Value.okWide Tryd.prog W .any base t v := hval0
  have hW' := hW
  obtain ⟨p, q, hA0, hV, rfl, hfz, hnd⟩ := hW
  have hA : DataW.TrodAll enc Tryd.prog W 0 (fun _ => true) true Tryd.f7.params.toList args.toList ds p := hA0
  rw [Tryd.params7] at hA hval
  obtain ⟨v0, vs0, d0, ds0, p0, q0, hargs, rfl, rfl, h0, r0⟩ := trodAll_cons hA
  obtain ⟨rfl, rfl, rfl⟩ := trodAll_nil r0
  obtain rfl : args = #[v0] := by cases args; simp_all
  obtain ⟨rfl, rfl⟩ := trodVars_none hV
  have hKT := KT_of_laid hL
  obtain ⟨a0, len0, cap0, rfl⟩ := okWide_slice Tryd.underlying22 (hval 0 22 v0 rfl rfl)
  obtain ⟨l0, w0⟩ := sums_of h0
  clear hA0 hval0
  refine (walk (w := W) hKT _ l0 w0).mono fun e W' ⟨he, bel⟩ => ?_
  subst he
  exact ⟨_, rfl, law_post rfl rfl (by kernel_rfl) hW' rfl bel⟩

theorem row_holds : Rows.PathLastSaid :=
  OpenClaim.holds_of_wide 7 Tryd.f7 rfl rfl rfl rfl rfl rfl rfl ⟨rfl, rfl, rfl, rfl, rfl⟩ rfl rfl rfl rfl rfl (by kernel_rfl) Tryd.func7 (by kernel_rfl)
    (of_decide_eq_true (by kernel_rfl)) (by unfold Func.isWrapper; first | (rw [if_pos (by decide +kernel)]; kernel_rfl) | (rw [if_neg (by decide +kernel)]; exact ⟨rfl, rfl⟩))
    (fun os started H enc _ => lifted os started H enc)

theorem holds : Rows.PathLastCardSaid :=
  Claim7.holds_tied_plain_at .later [] [.data] true Rows.pathLastCard.stood.harness false
    row_holds (fun _ h => by cases h) (by kernel_rfl) (fun _ h => by cases h) pathLast_row_tie rfl ⟨rfl, rfl⟩ (by kernel_rfl) rfl
    (fun f fn hf hfn => by
      obtain rfl : f = 7 := Option.some.inj ((show Tryd.prog.funcNamed "scrinium/scriniumlaw10.PathLast" = some 7 by kernel_rfl).symm.trans hf) |>.symm
      obtain rfl : fn = Tryd.f7 := (Option.some.inj (Tryd.func7.symm.trans hfn)).symm
      exact ⟨by kernel_rfl, fun j t ht => by
        rw [Tryd.params7] at ht
        have hm : t ∈ [22] := by simpa using Array.mem_of_getElem? ht
        have hall : ([22].all fun u => !Tryd.prog.wantsStandIn u) = true := by kernel_rfl
        exact (show Tryd.prog.wantsStandIn t = false by simpa using List.all_eq_true.1 hall t hm)⟩)
    (by kernel_rfl)
end Go.Proofs.YtagocdcclghdaaaDoor.pathLast

theorem Go.Proofs.YtagocdcclghdaaaDoor.pathLast_holds : Go.Proofs.YtagocdcclghdaaaDoor.Rows.PathLastCardSaid := Go.Proofs.YtagocdcclghdaaaDoor.pathLast.holds
#print axioms Go.Proofs.YtagocdcclghdaaaDoor.pathLast_holds
