/-
  FrontGrows: a front has, leaf by leaf, the root and the peaks of all, and the bytes that P11.2 says. For all hashes (the first 20 of them); the numbers K of the package sha are as the program's own start lays them.
-/
import Derived.Test.YtgiakpnkidblpaaDoorFrontAwake
import Derived.Test.YtgiakpnkidblpaaDoorMFrG
namespace Go.Proofs.YtgiakpnkidblpaaDoor.frontGrows
open Go.ChangeShapes Go.WideShapes Go.ChangeAt Go.RowKit

theorem add_iF (a b : Int) (h : IntKind.i64.wrap (a + b) = a + b) (w : World) : (binOp .add 3 (.int .i64 a) (.int .i64 b)).run Tryd.prog w = .ok (.int .i64 (a + b)) w := by
  go_simp
set_option maxHeartbeats 8000000 in
set_option maxRecDepth 100000 in
theorem walk {w : World} (hK : KT w) (v : Value) (l : Hs) (hv : Sums w v l) :
    Calls Tryd.prog 3 #[v] w fun e w' => e = .returned (.bool true) ∧ Below w.heap.size w w' := by
  have HAW := Lib.hid (awake11_any w hK)
  have HV := Lib.hid hv
  obtain ⟨r, hr⟩ : ∃ r, r = l.take 20 := ⟨_, rfl⟩
  have hrl : r.length ≤ 20 := by rw [hr, List.length_take]; omega
  have hro : all32 r := by rw [hr]; exact hv.ok.take 20
  obtain ⟨n, hn⟩ : ∃ n, n = r.length := ⟨_, rfl⟩
  have hn20 : n ≤ 20 := by omega
  have hpos : 0 < w.heap.size := hK.pos
  have Hr := Lib.hid hr
  have Hro := Lib.hid hro
  have Hn := Lib.hid hn
  have HKW := Lib.hid hK
  have Hpos := Lib.hid hpos
  clear hrl hr hn hv hK hro hpos
  go_enter Tryd.func3, Tryd.ntmps3
  go_wp2_with (first
    | (go_at_call 9; ((with_reducible refine HAW.out.mono ?_); rintro e w1 ⟨rfl, b1⟩))
    | (go_at_call 10; refine (few11_any _ l _ (HV.out.old b1)).mono ?_; rintro e w2 ⟨v4, rfl, h4, rfl⟩; rw [← Hr.out] at h4; have H4 := Lib.hid h4.1; obtain ⟨a4, c4, rfl, hc4, _⟩ := h4.1.slice; rw [← Hn.out] at H4 hc4 ⊢; clear h4)
    | (go_at_call 11; refine (new_fp _ (Nat.lt_of_lt_of_le Hpos.out b1.size)).mono ?_; rintro e w3 ⟨rfl, f3, d3⟩))
  obtain ⟨fb, hfb⟩ : ∃ fb, fb = w1.heap.size := ⟨_, rfl⟩
  rw [← hfb] at f3 d3 ⊢
  have hwf : w.heap.size ≤ fb := by rw [hfb]; exact b1.size
  have b3 : Below w.heap.size w w3 := b1.trans (d3.mono hwf)
  have D3 : Hid (∀ u : World, Below fb w1 u → Sums u (.slice a4 n c4) r) := Lib.hid fun u hu => H4.out.old (by rw [← hfb]; exact hu)
  have Hwf := Lib.hid hwf
  have F3 : Hid (FP fb 0 (Tree.peaks (r.take 0)) w3) := Lib.hid f3
  have B3 := Lib.hid b3
  have HD3 := Lib.hid d3
  have Hf1 : Hid (fb ≤ w1.heap.size) := Lib.hid (by rw [hfb]; exact Nat.le_refl _)
  clear f3 b3 d3 hwf hfb b1 HAW HV
  go_loopw [6] (fun s6 wr => ∃ i : Nat, s6 = .int .i64 (i : Int) ∧ i ≤ n + 1 ∧ (i ≤ n → FP fb i (Tree.peaks (r.take i)) wr) ∧ Below fb w1 wr ∧ Below w.heap.size w wr) (fun s6 _ => n + 1 - (intOf s6).toNat)
  case atStart => exact ⟨0, rfl, Nat.zero_le _, fun _ => F3.out, HD3.out, B3.out⟩
  case round =>
    obtain ⟨i, rfl, hik, hf, hd, hb⟩ := hrel
    have HF := Lib.hid hf
    have HD := Lib.hid hd
    have HB := Lib.hid hb
    clear hf hd hb
    by_cases hlt : i ≤ n
    · have hlt' : (i : Int) ≤ (n : Int) := by omega
      have hw1 := IntWalk.i64_in ((i : Int) + 1) (by omega)
      have hic : i ≤ c4 := by omega
      have hcut := fun u => scut_h a4 n c4 i hic u
      obtain ⟨P, hP⟩ : ∃ P, P = Tree.peaks (r.take i) := ⟨_, rfl⟩
      have hf := HF.out hlt
      rw [← hP] at hf
      have HF1 := Lib.hid hf
      have HS4 := Lib.hid (D3.out wr HD.out)
      have hhd := HS4.out.head i (by rw [← Hn.out]; exact hlt)
      have HHD := Lib.hid hhd
      have hrtl : (r.take i).length ≤ 1000 := by rw [List.length_take]; omega
      have HPK : Hid (Calls Tryd.prog 12 #[.slice a4 i c4] wr fun e w' => ∃ a7 k7 c7, e = .returned (.slice a7 k7 c7) ∧ Sums w' (.slice a7 k7 c7) P ∧ Below wr.heap.size wr w') := Lib.hid (by
        rw [hP]
        refine (rpeaks11_any _ (r.take i) wr HHD.out hrtl).mono ?_
        rintro e w' ⟨v', rfl, ho, hb⟩
        have hs := ho.sums
        obtain ⟨a, c, rfl, -, -⟩ := hs.slice
        exact ⟨a, _, c, rfl, hs, hb⟩)
      have HFK : Hid (∀ u, Below wr.heap.size wr u → Calls Tryd.prog 14 #[.pointer (some ⟨fb, 0, none⟩)] u fun e w' => ∃ v', e = .returned v' ∧ Sums w' v' P ∧ Below u.heap.size u w') := Lib.hid fun u hu => (peaks_fp fb i P u (HF1.out.old hu)).mono (by
        rintro e w' ⟨v', rfl, ho, hb⟩
        exact ⟨v', rfl, ho.sums, hb⟩)
      have hP40 : P.length ≤ 40 := hf.len40
      have HSM : Hid (∀ u va vb, Sums u va P → Sums u vb P → Calls Tryd.prog 13 #[va, vb] u fun e w' => e = .returned (.bool true) ∧ Below u.heap.size u w') := Lib.hid fun u va vb h1 h2 => by
        have := same_any va vb P P u h1 h2 (by omega)
        rwa [decide_eq_true rfl] at this
      obtain ⟨D, hD⟩ : ∃ D, D = Tree.root (r.take i) := ⟨_, rfl⟩
      have hDl : D.length = 32 := by rw [hD]; exact Tree.root_length _ (Hro.out.take i)
      have hDP : Tree.rootP P = D := by rw [hP, hD]; exact Tree.rootP_peaks _ _ (Nat.le_refl _)
      obtain ⟨S, hS⟩ : ∃ S, S = frontB i P := ⟨_, rfl⟩
      have HDl := Lib.hid hDl
      have HDP := Lib.hid hDP
      have HDr := Lib.hid hD
      have HS := Lib.hid hS
      have HPP := Lib.hid hP
      have HP40 := Lib.hid hP40
      clear hP hf hhd hD hDl hDP hS hP40
      go_upto_region 11 with (first
        | (with_reducible refine wpList_slice_runS rfl 22 (.tmp 21) none (some (.tmp 22)) none rfl rfl rfl rfl rfl (hcut _) ?_)
        | (go_at_call 12; ((with_reducible refine HPK.out.mono ?_); rintro e w5 ⟨a7, k7, c7, rfl, h7, b5⟩))
        | (go_at_call 14; ((with_reducible refine (HFK.out _ b5).mono ?_); rintro e w6 ⟨v8, rfl, h8, b6⟩))
        | (go_at_call 13; ((with_reducible refine (HSM.out _ _ _ h8 (h7.old b6)).mono ?_); rintro e w7 ⟨rfl, b7⟩)))
      have b57 := below_step (below_step b5 (Nat.le_refl _) b6) (Nat.le_refl _) b7
      have H7 := Lib.hid ((h7.old b6).old b7)
      have F7 := Lib.hid (HF1.out.old b57)
      have H4w := Lib.hid (HHD.out.old b57)
      have B7 := Lib.hid (below_step HB.out (Nat.le_refl _) b57)
      have D7 := Lib.hid (HD.out.trans (b57.mono (by have := HF1.out.lt; omega)))
      have HSZ : Hid (∀ u, Below w7.heap.size w7 u → Calls Tryd.prog 15 #[.pointer (some ⟨fb, 0, none⟩)] u fun e w' => e = .returned (.int .i64 (i : Int)) ∧ Below u.heap.size u w') := Lib.hid fun u hu => (size_fp fb i P u (F7.out.old hu)).mono fun e w' ⟨h1, h2⟩ => ⟨h1, h2 ▸ Below.refl _ _⟩
      have HRT : Hid (∀ u, Below w7.heap.size w7 u → Calls Tryd.prog 16 #[.pointer (some ⟨fb, 0, none⟩)] u fun e w' => e = .returned (sumV D) ∧ Below u.heap.size u w') := Lib.hid fun u hu => by
        have := root_fp fb i P u (F7.out.old hu) (HKW.out.old (below_step B7.out (Nat.le_refl _) hu))
        rwa [HDP.out] at this
      have HRR : Hid (∀ u, Below w7.heap.size w7 u → Calls Tryd.prog 17 #[.slice a4 i c4] u fun e w' => e = .returned (sumV D) ∧ Below u.heap.size u w') := Lib.hid fun u hu => by
        rw [HDr.out]
        exact rleafRoot_any _ _ _ u rfl (by rw [List.length_take]; omega) (H4w.out.old hu)
      have HBY : Hid (∀ u, Below w7.heap.size w7 u → Calls Tryd.prog 18 #[.pointer (some ⟨fb, 0, none⟩)] u fun e w' => e = .returned (.string S) ∧ Below u.heap.size u w') := Lib.hid fun u hu => by
        rw [HS.out]
        exact bytes_fp fb i P u (F7.out.old hu)
      have HRB : Hid (∀ u, Below w7.heap.size w7 u → Calls Tryd.prog 19 #[.int .i64 (i : Int), .slice a7 k7 c7] u fun e w' => e = .returned (.string S) ∧ Below u.heap.size u w') := Lib.hid fun u hu => by
        rw [HS.out]
        exact rbytes11_any _ i P u (H7.out.old hu) (by omega) HP40.out
      clear b5 b6 b7 h7 h8 b57
      try simp only [Act.put]
      refine wp_region_tab [RT.is (.bool true), RT.is (.bool false), RT.is (.bool false), RT.is (.pointer (some ⟨fb, 0, none⟩)), RT.is (.int .i64 (i : Int)), RT.is (.int .i64 (i : Int)), RT.is (.bool false), RT.is (.bool false), RT.is (.bool false), RT.is (.pointer (some ⟨fb, 0, none⟩)), RT.is (sumV D), RT.is (.slice a4 n c4), RT.is (.int .i64 (i : Int)), RT.is (.slice a4 i c4), RT.is (sumV D), RT.is (.bool false), RT.is (.bool false), RT.is (.bool false), RT.is (.pointer (some ⟨fb, 0, none⟩)), RT.is (.string S), RT.is (.int .i64 (i : Int)), RT.is (.slice a7 k7 c7), RT.is (.string S), RT.is (.bool false), RT.is (.bool false)] (by kernel_rfl) (by kernel_rfl) (by kernel_rfl) (by kernel_rfl) ⟨?_, ?_, ?_, ?_, ?_, ?_, ?_, ?_, ?_, ?_, ?_, ?_, ?_, ?_, ?_, ?_, ?_, ?_, ?_, ?_, ?_, ?_, ?_, ?_, ?_, trivial⟩ ?_
      · intro ac w' hF hL hP hU K hK
        have hB := below_undrew hL
        have e8 : ac.eval (.tmp 8) = .bool true := hF.at 8 (by kernel_rfl)
        exact rop_move _ rfl e8 (wanted_none rfl) (hK _ _ (le8_refl _) rfl)
      · intro ac w' hF hL hP hU K hK
        have hB := below_undrew hL
        have e29 : ac.eval (.tmp 29) = .bool true := hP 0 (by kernel_rfl)
        exact rop_not _ _ rfl true e29 (wanted_none rfl) (hK _ _ (le8_refl _) rfl)
      · intro ac w' hF hL hP hU K hK
        have hB := below_undrew hL
        have e30 : ac.eval (.tmp 30) = .bool false := hP 1 (by kernel_rfl)
        exact rop_move _ rfl e30 (wanted_none rfl) (hK _ _ (le8_refl _) rfl)
      · intro ac w' hF hL hP hU K hK
        have hB := below_undrew hL
        have e5 : ac.eval (.tmp 5) = .pointer (some ⟨fb, 0, none⟩) := hF.at 5 (by kernel_rfl)
        have e31 : ac.eval (.tmp 31) = .bool false := hP 2 (by kernel_rfl)
        exact rop_move _ rfl e5 (wanted_of (j := 2) (b := false) rfl rfl e31) (hK _ _ (le8_refl _) rfl)
      · intro ac w' hF hL hP hU K hK
        have hB := below_undrew hL
        have e32 : ac.eval (.tmp 32) = .pointer (some ⟨fb, 0, none⟩) := hP 3 (by kernel_rfl)
        have e31 : ac.eval (.tmp 31) = .bool false := hP 2 (by kernel_rfl)
        refine rop_call 15 _ _ rfl #[.pointer (some ⟨fb, 0, none⟩)] (by simp [e32]) (by kernel_rfl) (wanted_of (j := 2) (b := false) rfl rfl e31) ?_
        refine (HSZ.out w' hB).mono ?_
        rintro e w2 ⟨rfl, hb⟩
        exact ⟨_, rfl, hK _ _ hb rfl⟩
      · intro ac w' hF hL hP hU K hK
        have hB := below_undrew hL
        have e6 : ac.eval (.tmp 6) = .int .i64 (i : Int) := hF.at 6 (by kernel_rfl)
        have e31 : ac.eval (.tmp 31) = .bool false := hP 2 (by kernel_rfl)
        exact rop_move _ rfl e6 (wanted_of (j := 2) (b := false) rfl rfl e31) (hK _ _ (le8_refl _) rfl)
      · intro ac w' hF hL hP hU K hK
        have hB := below_undrew hL
        have e33 : ac.eval (.tmp 33) = .int .i64 (i : Int) := hP 4 (by kernel_rfl)
        have e34 : ac.eval (.tmp 34) = .int .i64 (i : Int) := hP 5 (by kernel_rfl)
        have e31 : ac.eval (.tmp 31) = .bool false := hP 2 (by kernel_rfl)
        exact rop_bin _ _ _ _ _ rfl e33 e34 (guard_int _ _ _ _ _ _ _ w') (neq_iT _ _ rfl w') (wanted_of (j := 2) (b := false) rfl rfl e31) (hK _ _ (le8_refl _) rfl)
      · intro ac w' hF hL hP hU K hK
        have hB := below_undrew hL
        have e31 : ac.eval (.tmp 31) = .bool false := hP 2 (by kernel_rfl)
        have e35 : ac.eval (.tmp 35) = .bool false := hP 6 (by kernel_rfl)
        exact rop_pick _ _ _ rfl false e31 (by simpa using e35) (wanted_none rfl) (hK _ _ (le8_refl _) rfl)
      · intro ac w' hF hL hP hU K hK
        have hB := below_undrew hL
        have e36 : ac.eval (.tmp 36) = .bool false := hP 7 (by kernel_rfl)
        exact rop_move _ rfl e36 (wanted_none rfl) (hK _ _ (le8_refl _) rfl)
      · intro ac w' hF hL hP hU K hK
        have hB := below_undrew hL
        have e5 : ac.eval (.tmp 5) = .pointer (some ⟨fb, 0, none⟩) := hF.at 5 (by kernel_rfl)
        have e37 : ac.eval (.tmp 37) = .bool false := hP 8 (by kernel_rfl)
        exact rop_move _ rfl e5 (wanted_of (j := 8) (b := false) rfl rfl e37) (hK _ _ (le8_refl _) rfl)
      · intro ac w' hF hL hP hU K hK
        have hB := below_undrew hL
        have e38 : ac.eval (.tmp 38) = .pointer (some ⟨fb, 0, none⟩) := hP 9 (by kernel_rfl)
        have e37 : ac.eval (.tmp 37) = .bool false := hP 8 (by kernel_rfl)
        refine rop_call 16 _ _ rfl #[.pointer (some ⟨fb, 0, none⟩)] (by simp [e38]) (by kernel_rfl) (wanted_of (j := 8) (b := false) rfl rfl e37) ?_
        refine (HRT.out w' hB).mono ?_
        rintro e w2 ⟨rfl, hb⟩
        exact ⟨_, rfl, hK _ _ hb rfl⟩
      · intro ac w' hF hL hP hU K hK
        have hB := below_undrew hL
        have e4 : ac.eval (.tmp 4) = .slice a4 n c4 := hF.at 4 (by kernel_rfl)
        have e37 : ac.eval (.tmp 37) = .bool false := hP 8 (by kernel_rfl)
        exact rop_move _ rfl e4 (wanted_of (j := 8) (b := false) rfl rfl e37) (hK _ _ (le8_refl _) rfl)
      · intro ac w' hF hL hP hU K hK
        have hB := below_undrew hL
        have e6 : ac.eval (.tmp 6) = .int .i64 (i : Int) := hF.at 6 (by kernel_rfl)
        have e37 : ac.eval (.tmp 37) = .bool false := hP 8 (by kernel_rfl)
        exact rop_move _ rfl e6 (wanted_of (j := 8) (b := false) rfl rfl e37) (hK _ _ (le8_refl _) rfl)
      · intro ac w' hF hL hP hU K hK
        have hB := below_undrew hL
        have e40 : ac.eval (.tmp 40) = .slice a4 n c4 := hP 11 (by kernel_rfl)
        have e41 : ac.eval (.tmp 41) = .int .i64 (i : Int) := hP 12 (by kernel_rfl)
        have e37 : ac.eval (.tmp 37) = .bool false := hP 8 (by kernel_rfl)
        exact rop_sliceG _ _ _ _ _ rfl e40 rfl (by simp [e41]) rfl (scut_h a4 n c4 i hic w') (wanted_of (j := 8) (b := false) rfl rfl e37) (hK _ _ (le8_refl _) rfl)
      · intro ac w' hF hL hP hU K hK
        have hB := below_undrew hL
        have e42 : ac.eval (.tmp 42) = .slice a4 i c4 := hP 13 (by kernel_rfl)
        have e37 : ac.eval (.tmp 37) = .bool false := hP 8 (by kernel_rfl)
        refine rop_call 17 _ _ rfl #[.slice a4 i c4] (by simp [e42]) (by kernel_rfl) (wanted_of (j := 8) (b := false) rfl rfl e37) ?_
        refine (HRR.out w' hB).mono ?_
        rintro e w2 ⟨rfl, hb⟩
        exact ⟨_, rfl, hK _ _ hb rfl⟩
      · intro ac w' hF hL hP hU K hK
        have hB := below_undrew hL
        have e39 : ac.eval (.tmp 39) = sumV D := hP 10 (by kernel_rfl)
        have e43 : ac.eval (.tmp 43) = sumV D := hP 14 (by kernel_rfl)
        have e37 : ac.eval (.tmp 37) = .bool false := hP 8 (by kernel_rfl)
        exact rop_bin _ _ _ _ _ rfl e39 e43 (guard_run .neq _ _ _ _ w') (neq_sum_ff D D HDl.out HDl.out rfl w') (wanted_of (j := 8) (b := false) rfl rfl e37) (hK _ _ (le8_refl _) rfl)
      · intro ac w' hF hL hP hU K hK
        have hB := below_undrew hL
        have e37 : ac.eval (.tmp 37) = .bool false := hP 8 (by kernel_rfl)
        have e44 : ac.eval (.tmp 44) = .bool false := hP 15 (by kernel_rfl)
        exact rop_pick _ _ _ rfl false e37 (by simpa using e44) (wanted_none rfl) (hK _ _ (le8_refl _) rfl)
      · intro ac w' hF hL hP hU K hK
        have hB := below_undrew hL
        have e45 : ac.eval (.tmp 45) = .bool false := hP 16 (by kernel_rfl)
        exact rop_move _ rfl e45 (wanted_none rfl) (hK _ _ (le8_refl _) rfl)
      · intro ac w' hF hL hP hU K hK
        have hB := below_undrew hL
        have e5 : ac.eval (.tmp 5) = .pointer (some ⟨fb, 0, none⟩) := hF.at 5 (by kernel_rfl)
        have e46 : ac.eval (.tmp 46) = .bool false := hP 17 (by kernel_rfl)
        exact rop_move _ rfl e5 (wanted_of (j := 17) (b := false) rfl rfl e46) (hK _ _ (le8_refl _) rfl)
      · intro ac w' hF hL hP hU K hK
        have hB := below_undrew hL
        have e47 : ac.eval (.tmp 47) = .pointer (some ⟨fb, 0, none⟩) := hP 18 (by kernel_rfl)
        have e46 : ac.eval (.tmp 46) = .bool false := hP 17 (by kernel_rfl)
        refine rop_call 18 _ _ rfl #[.pointer (some ⟨fb, 0, none⟩)] (by simp [e47]) (by kernel_rfl) (wanted_of (j := 17) (b := false) rfl rfl e46) ?_
        refine (HBY.out w' hB).mono ?_
        rintro e w2 ⟨rfl, hb⟩
        exact ⟨_, rfl, hK _ _ hb rfl⟩
      · intro ac w' hF hL hP hU K hK
        have hB := below_undrew hL
        have e6 : ac.eval (.tmp 6) = .int .i64 (i : Int) := hF.at 6 (by kernel_rfl)
        have e46 : ac.eval (.tmp 46) = .bool false := hP 17 (by kernel_rfl)
        exact rop_move _ rfl e6 (wanted_of (j := 17) (b := false) rfl rfl e46) (hK _ _ (le8_refl _) rfl)
      · intro ac w' hF hL hP hU K hK
        have hB := below_undrew hL
        have e7 : ac.eval (.tmp 7) = .slice a7 k7 c7 := hF.at 7 (by kernel_rfl)
        have e46 : ac.eval (.tmp 46) = .bool false := hP 17 (by kernel_rfl)
        exact rop_move _ rfl e7 (wanted_of (j := 17) (b := false) rfl rfl e46) (hK _ _ (le8_refl _) rfl)
      · intro ac w' hF hL hP hU K hK
        have hB := below_undrew hL
        have e49 : ac.eval (.tmp 49) = .int .i64 (i : Int) := hP 20 (by kernel_rfl)
        have e50 : ac.eval (.tmp 50) = .slice a7 k7 c7 := hP 21 (by kernel_rfl)
        have e46 : ac.eval (.tmp 46) = .bool false := hP 17 (by kernel_rfl)
        refine rop_call 19 _ _ rfl #[.int .i64 (i : Int), .slice a7 k7 c7] (by simp [e49, e50]) (by kernel_rfl) (wanted_of (j := 17) (b := false) rfl rfl e46) ?_
        refine (HRB.out w' hB).mono ?_
        rintro e w2 ⟨rfl, hb⟩
        exact ⟨_, rfl, hK _ _ hb rfl⟩
      · intro ac w' hF hL hP hU K hK
        have hB := below_undrew hL
        have e48 : ac.eval (.tmp 48) = .string S := hP 19 (by kernel_rfl)
        have e51 : ac.eval (.tmp 51) = .string S := hP 22 (by kernel_rfl)
        have e46 : ac.eval (.tmp 46) = .bool false := hP 17 (by kernel_rfl)
        exact rop_bin _ _ _ _ _ rfl e48 e51 (guard_str _ _ _ _ _ _ w') (neq_str_f _ w') (wanted_of (j := 17) (b := false) rfl rfl e46) (hK _ _ (le8_refl _) rfl)
      · intro ac w' hF hL hP hU K hK
        have hB := below_undrew hL
        have e46 : ac.eval (.tmp 46) = .bool false := hP 17 (by kernel_rfl)
        have e52 : ac.eval (.tmp 52) = .bool false := hP 23 (by kernel_rfl)
        exact rop_pick _ _ _ rfl false e46 (by simpa using e52) (wanted_none rfl) (hK _ _ (le8_refl _) rfl)
      · intro ac w' hF hB hT
        have e53 : ac.eval (.tmp 53) = .bool false := hT 24 (by decide)
        rw [hF.setsG [29, 30, 31, 32, 33, 34, 35, 36, 37, 38, 39, 40, 41, 42, 43, 44, 45, 46, 47, 48, 49, 50, 51, 52, 53] (by kernel_rfl)]
        simp only [List.foldl_cons, List.foldl_nil, List.setIfInBounds_toArray, List.set_cons_succ, List.set_cons_zero, e53]
        generalize ac.eval (.tmp 29) = u29
        generalize ac.eval (.tmp 30) = u30
        generalize ac.eval (.tmp 31) = u31
        generalize ac.eval (.tmp 32) = u32
        generalize ac.eval (.tmp 33) = u33
        generalize ac.eval (.tmp 34) = u34
        generalize ac.eval (.tmp 35) = u35
        generalize ac.eval (.tmp 36) = u36
        generalize ac.eval (.tmp 37) = u37
        generalize ac.eval (.tmp 38) = u38
        generalize ac.eval (.tmp 39) = u39
        generalize ac.eval (.tmp 40) = u40
        generalize ac.eval (.tmp 41) = u41
        generalize ac.eval (.tmp 42) = u42
        generalize ac.eval (.tmp 43) = u43
        generalize ac.eval (.tmp 44) = u44
        generalize ac.eval (.tmp 45) = u45
        generalize ac.eval (.tmp 46) = u46
        generalize ac.eval (.tmp 47) = u47
        generalize ac.eval (.tmp 48) = u48
        generalize ac.eval (.tmp 49) = u49
        generalize ac.eval (.tmp 50) = u50
        generalize ac.eval (.tmp 51) = u51
        generalize ac.eval (.tmp 52) = u52
        clear e53 hT hF ac
        obtain ⟨w8, h8⟩ : ∃ u, u = w' := ⟨_, rfl⟩
        subst h8
        have F8 := Lib.hid (F7.out.old hB)
        have B8 := Lib.hid (below_step B7.out (Nat.le_refl _) hB)
        have D8 := Lib.hid (D7.out.trans (hB.mono (by have := F7.out.lt; omega)))
        clear hB
        by_cases hin : i < n
        · have hin' : (i : Int) < (n : Int) := by omega
          obtain ⟨b, off, rfl, hbl, -, hr4⟩ := (D3.out w8 D8.out).at i (by rw [← Hn.out]; exact hin)
          obtain ⟨x, hx⟩ : ∃ x, x = r[i]'(by rw [← Hn.out]; exact hin) := ⟨_, rfl⟩
          rw [← hx] at hr4
          have hxl : x.length = 32 := by rw [hx]; exact Hro.out _ (List.getElem_mem _)
          have hnx : Tree.addP i P x = Tree.peaks (r.take (i + 1)) := by
            rw [HPP.out, hx]
            exact addP_take r i (by rw [← Hn.out]; exact hin)
          have HAD : Hid (Calls Tryd.prog 20 #[.pointer (some ⟨fb, 0, none⟩), .agg (x.map u8V).toArray] w8 fun e w' => e = .returned (.int .i64 ((i : Int) + 1)) ∧ FP fb (i + 1) (Tree.peaks (r.take (i + 1))) w' ∧ Only fb w8 w') := Lib.hid (by
            rw [← hnx]
            exact add_fp fb i P x w8 F8.out (by omega) hxl (HKW.out.old B8.out))
          have HXl := Lib.hid hxl
          have HR4 := Lib.hid hr4
          clear hx hr4 hxl hnx hbl
          go_upto_region 13 with (fail)
          try simp only [Act.put]
          refine wp_region_ph0 (Lx := fun _ _ _ _ => True) [RXP.is (.int .i64 (i : Int)), RXP.is (.slice (some ⟨b, off, none⟩) n c4), RXP.is (.int .i64 (n : Int)), RXP.is (.bool true), RXP.is (.bool true), RXP.is (.pointer (some ⟨fb, 0, none⟩)), RXP.is (.slice (some ⟨b, off, none⟩) n c4), RXP.is (.int .i64 (i : Int)), RXP.is (.pointer (some ⟨b, off + i * 32, none⟩)), RXP.is (sumV x), RXP.is (.int .i64 ((i : Int) + 1)), RXP.is (.int .i64 (i : Int)), RXP.is (.int .i64 ((i : Int) + 1)), RXP.is (.bool false), RXP.is (.bool false)] [10] (fun k w' => (k = 0 → w' = w8) ∧ (k = 1 → FP fb (i + 1) (Tree.peaks (r.take (i + 1))) w') ∧ Below fb w1 w' ∧ Below w.heap.size w w') (by kernel_rfl) (by kernel_rfl) (by kernel_rfl) (by kernel_rfl) (by kernel_rfl) (⟨fun _ => rfl, fun h => absurd h (by decide), D8.out, B8.out⟩) ⟨?_, ?_, ?_, ?_, ?_, ?_, ?_, ?_, ?_, ?_, ?_, ?_, ?_, ?_, ?_, trivial⟩ ?_
          · intro ac w' ph hF hPh hlt hP hU K hK0
            have e6 : ac.eval (.tmp 6) = .int .i64 (i : Int) := hF.at 6 (by kernel_rfl)
            exact rop_move _ rfl e6 (wanted_none rfl) (hK0 _ _ trivial hPh rfl)
          · intro ac w' ph hF hPh hlt hP hU K hK0
            have e4 : ac.eval (.tmp 4) = .slice (some ⟨b, off, none⟩) n c4 := hF.at 4 (by kernel_rfl)
            exact rop_move _ rfl e4 (wanted_none rfl) (hK0 _ _ trivial hPh rfl)
          · intro ac w' ph hF hPh hlt hP hU K hK0
            have e55 : ac.eval (.tmp 55) = .slice (some ⟨b, off, none⟩) n c4 := hP 1 (by kernel_rfl)
            exact rop_lenG _ Tryd.underlying22 rfl e55 (wanted_none rfl) (hK0 _ _ trivial hPh rfl)
          · intro ac w' ph hF hPh hlt hP hU K hK0
            have e54 : ac.eval (.tmp 54) = .int .i64 (i : Int) := hP 0 (by kernel_rfl)
            have e56 : ac.eval (.tmp 56) = .int .i64 (n : Int) := hP 2 (by kernel_rfl)
            exact rop_bin _ _ _ _ _ rfl e54 e56 (guard_int _ _ _ _ _ _ _ w') (lss_iG _ _ _ (by simpa using hin) w') (wanted_none rfl) (hK0 _ _ trivial hPh rfl)
          · intro ac w' ph hF hPh hlt hP hU K hK0
            have e57 : ac.eval (.tmp 57) = .bool true := hP 3 (by kernel_rfl)
            exact rop_move _ rfl e57 (wanted_none rfl) (hK0 _ _ trivial hPh rfl)
          · intro ac w' ph hF hPh hlt hP hU K hK0
            have e5 : ac.eval (.tmp 5) = .pointer (some ⟨fb, 0, none⟩) := hF.at 5 (by kernel_rfl)
            have e58 : ac.eval (.tmp 58) = .bool true := hP 4 (by kernel_rfl)
            exact rop_move _ rfl e5 (wanted_of (j := 4) (b := true) rfl rfl e58) (hK0 _ _ trivial hPh rfl)
          · intro ac w' ph hF hPh hlt hP hU K hK0
            have e4 : ac.eval (.tmp 4) = .slice (some ⟨b, off, none⟩) n c4 := hF.at 4 (by kernel_rfl)
            have e58 : ac.eval (.tmp 58) = .bool true := hP 4 (by kernel_rfl)
            exact rop_move _ rfl e4 (wanted_of (j := 4) (b := true) rfl rfl e58) (hK0 _ _ trivial hPh rfl)
          · intro ac w' ph hF hPh hlt hP hU K hK0
            have e6 : ac.eval (.tmp 6) = .int .i64 (i : Int) := hF.at 6 (by kernel_rfl)
            have e58 : ac.eval (.tmp 58) = .bool true := hP 4 (by kernel_rfl)
            exact rop_move _ rfl e6 (wanted_of (j := 4) (b := true) rfl rfl e58) (hK0 _ _ trivial hPh rfl)
          · intro ac w' ph hF hPh hlt hP hU K hK0
            have e60 : ac.eval (.tmp 60) = .slice (some ⟨b, off, none⟩) n c4 := hP 6 (by kernel_rfl)
            have e61 : ac.eval (.tmp 61) = .int .i64 (i : Int) := hP 7 (by kernel_rfl)
            have e58 : ac.eval (.tmp 58) = .bool true := hP 4 (by kernel_rfl)
            exact rop_idx _ _ _ rfl e60 e61 (index_sums b off n c4 i hin w') (wanted_of (j := 4) (b := true) rfl rfl e58) (hK0 _ _ trivial hPh rfl)
          · intro ac w' ph hF hPh hlt hP hU K hK0
            have hph : ph ≤ 0 := (hlt 0 10 rfl).2 (by kernel_rfl)
            have e62 : ac.eval (.tmp 62) = .pointer (some ⟨b, off + i * 32, none⟩) := hP 8 (by kernel_rfl)
            have e58 : ac.eval (.tmp 58) = .bool true := hP 4 (by kernel_rfl)
            exact rop_ld _ _ rfl e62 (run_loadAt_mid _ _ _ _ _ _ (by rw [hPh.1 (by omega)]; exact HR4.out) Tryd.underlying31 rfl (sum_info' HXl.out)) (wanted_of (j := 4) (b := true) rfl rfl e58) (hK0 _ _ trivial hPh rfl)
          · intro ac w' ph hF hPh hlt hP hU K hK0
            obtain rfl : ph = 0 := (hlt 0 10 rfl).1 rfl
            have e59 : ac.eval (.tmp 59) = .pointer (some ⟨fb, 0, none⟩) := hP 5 (by kernel_rfl)
            have e63 : ac.eval (.tmp 63) = sumV x := hP 9 (by kernel_rfl)
            have e58 : ac.eval (.tmp 58) = .bool true := hP 4 (by kernel_rfl)
            have e8 := hPh.1 rfl
            subst e8
            refine rop_call 20 _ _ rfl #[.pointer (some ⟨fb, 0, none⟩), sumV x] (by simp [e59, e63]) (by kernel_rfl) (wanted_of (j := 4) (b := true) rfl rfl e58) ?_
            refine HAD.out.mono ?_
            rintro e w2 ⟨rfl, hf, ho⟩
            exact ⟨_, rfl, hK0 _ _ trivial ⟨fun h => absurd h (by decide), fun _ => hf, D8.out.trans (ho.below (Nat.le_refl _) (by have := F8.out.lt; omega)), below_onlyF B8.out ho Hwf.out (Nat.le_refl _)⟩ rfl⟩
          · intro ac w' ph hF hPh hlt hP hU K hK0
            have e6 : ac.eval (.tmp 6) = .int .i64 (i : Int) := hF.at 6 (by kernel_rfl)
            have e58 : ac.eval (.tmp 58) = .bool true := hP 4 (by kernel_rfl)
            exact rop_move _ rfl e6 (wanted_of (j := 4) (b := true) rfl rfl e58) (hK0 _ _ trivial hPh rfl)
          · intro ac w' ph hF hPh hlt hP hU K hK0
            have e65 : ac.eval (.tmp 65) = .int .i64 (i : Int) := hP 11 (by kernel_rfl)
            have e58 : ac.eval (.tmp 58) = .bool true := hP 4 (by kernel_rfl)
            exact rop_bin _ _ _ _ _ rfl e65 rfl (guard_int _ _ _ _ _ _ _ w') (add_iF _ _ hw1 w') (wanted_of (j := 4) (b := true) rfl rfl e58) (hK0 _ _ trivial hPh rfl)
          · intro ac w' ph hF hPh hlt hP hU K hK0
            have e64 : ac.eval (.tmp 64) = .int .i64 ((i : Int) + 1) := hP 10 (by kernel_rfl)
            have e66 : ac.eval (.tmp 66) = .int .i64 ((i : Int) + 1) := hP 12 (by kernel_rfl)
            have e58 : ac.eval (.tmp 58) = .bool true := hP 4 (by kernel_rfl)
            exact rop_bin _ _ _ _ _ rfl e64 e66 (guard_int _ _ _ _ _ _ _ w') (neq_iT _ _ rfl w') (wanted_of (j := 4) (b := true) rfl rfl e58) (hK0 _ _ trivial hPh rfl)
          · intro ac w' ph hF hPh hlt hP hU K hK0
            have e58 : ac.eval (.tmp 58) = .bool true := hP 4 (by kernel_rfl)
            have e67 : ac.eval (.tmp 67) = .bool false := hP 13 (by kernel_rfl)
            exact rop_pick _ _ _ rfl true e58 (by simpa using e67) (wanted_none rfl) (hK0 _ _ trivial hPh rfl)
          · intro ac w' hF hPh hT
            have e68 : ac.eval (.tmp 68) = .bool false := hT 14 (by decide)
            rw [hF.setsG [54, 55, 56, 57, 58, 59, 60, 61, 62, 63, 64, 65, 66, 67, 68] (by kernel_rfl)]
            simp only [List.foldl_cons, List.foldl_nil, List.setIfInBounds_toArray, List.set_cons_succ, List.set_cons_zero, e68]
            generalize ac.eval (.tmp 54) = u54
            generalize ac.eval (.tmp 55) = u55
            generalize ac.eval (.tmp 56) = u56
            generalize ac.eval (.tmp 57) = u57
            generalize ac.eval (.tmp 58) = u58
            generalize ac.eval (.tmp 59) = u59
            generalize ac.eval (.tmp 60) = u60
            generalize ac.eval (.tmp 61) = u61
            generalize ac.eval (.tmp 62) = u62
            generalize ac.eval (.tmp 63) = u63
            generalize ac.eval (.tmp 64) = u64
            generalize ac.eval (.tmp 65) = u65
            generalize ac.eval (.tmp 66) = u66
            generalize ac.eval (.tmp 67) = u67
            clear e68 hT hF ac
            obtain ⟨-, f9, d9, b9⟩ := hPh
            go_wp2
            go_roundw
            case rel => exact ⟨i + 1, by go_num, by omega, fun _ => f9 rfl, d9, b9⟩
            case measure => simp [intOf]; omega
        · have hin' : ¬ (i : Int) < (n : Int) := by omega
          go_wp2
          go_roundw
          case rel => exact ⟨i + 1, by go_num, by omega, fun h => absurd h (by omega), D8.out, B8.out⟩
          case measure => simp [intOf]; omega
    · have hlt' : ¬ (i : Int) ≤ (n : Int) := by omega
      go_wp2
      go_ret
      exact ⟨rfl, HB.out⟩
set_option maxRecDepth 100000 in
theorem lifted (os : Os) (started : os.Started) (H : Type) (enc : TypeId × Value → H) :
    ReturnsInHanded {} Tryd.checked os 3 .any (fun w args => (Rows.frontGrowsSpec.pre enc Tryd.prog Tryd.f3 [] false w args ∧ laidMetH Tryd.prog [("scrinium/sha.k", Rows.laid_scrinium_sha_k)] w) ∧ sizedMet enc Tryd.prog Tryd.f3 (OpenSpec.ofChange Rows.frontGrowsSpec) false w args)
      (Rows.frontGrowsSpec.post enc Tryd.prog Tryd.f3 false true false false) := by
  refine returnsInHanded_of_change_and (C := Tryd.checked) (X := fun w _ => laidMetH Tryd.prog [("scrinium/sha.k", Rows.laid_scrinium_sha_k)] w) (fun _ _ _ hh h => h.of_heap hh) lawOwn started (by kernel_rfl) Tryd.func3
    (ChangeSpec.witness_shaped (enc := enc) (C := Tryd.checked) (os := os) (X := fun w _ => laidMetH Tryd.prog [("scrinium/sha.k", Rows.laid_scrinium_sha_k)] w) false (World.doorLaid Tryd.prog 400 os) #[.slice none 0 0] 8 rfl (World.shaped_of_RefB (by kernel_rfl) (by kernel_rfl)) (by kernel_rfl) (by kernel_rfl) (by kernel_rfl) (door_met os _)) ?_
  intro W base args ds gs before hval0 hW _ _ hL _
  have hval : ∀ (j : Nat) t v, Tryd.f3.params[j]? = some t → args[j]? = some v → Value.okWide Tryd.prog W .any base t v := hval0
  have hW' := hW
  obtain ⟨p, q, hA0, hV, rfl, hfz, hnd⟩ := hW
  have hA : DataW.TrodAll enc Tryd.prog W 0 (fun _ => true) true Tryd.f3.params.toList args.toList ds p := hA0
  rw [Tryd.params3] at hA hval
  obtain ⟨v0, vs0, d0, ds0, p0, q0, hargs, rfl, rfl, h0, r0⟩ := trodAll_cons hA
  obtain ⟨rfl, rfl, rfl⟩ := trodAll_nil r0
  obtain rfl : args = #[v0] := by cases args; simp_all
  obtain ⟨rfl, rfl⟩ := trodVars_none hV
  have hKT := KT_of_laid hL
  obtain ⟨a0, len0, cap0, rfl⟩ := okWide_slice Tryd.underlying22 (hval 0 22 v0 rfl rfl)
  obtain ⟨l0, w0⟩ := sums_of h0
  clear hA0 hval0
  refine (walk (w := W) hKT _ l0 w0).mono fun e W' ⟨he, bel⟩ => ?_
  subst he
  exact ⟨_, rfl, law_post rfl rfl (by kernel_rfl) hW' rfl bel⟩

theorem row_holds : Rows.FrontGrowsSaid :=
  OpenClaim.holds_of_wide 3 Tryd.f3 rfl rfl rfl rfl rfl rfl rfl ⟨rfl, rfl, rfl, rfl, rfl⟩ rfl rfl rfl rfl rfl (by kernel_rfl) Tryd.func3 (by kernel_rfl)
    (of_decide_eq_true (by kernel_rfl)) (by unfold Func.isWrapper; first | (rw [if_pos (by decide +kernel)]; kernel_rfl) | (rw [if_neg (by decide +kernel)]; exact ⟨rfl, rfl⟩))
    (fun os started H enc _ => lifted os started H enc)

theorem holds : Rows.FrontGrowsCardSaid :=
  Claim7.holds_tied_plain_at .later [] [.data] true Rows.frontGrowsCard.stood.harness false
    row_holds (fun _ h => by cases h) (by kernel_rfl) (fun _ h => by cases h) frontGrows_row_tie rfl ⟨rfl, rfl⟩ (by kernel_rfl) rfl
    (fun f fn hf hfn => by
      obtain rfl : f = 3 := Option.some.inj ((show Tryd.prog.funcNamed "scrinium/scriniumlaw11.FrontGrows" = some 3 by kernel_rfl).symm.trans hf) |>.symm
      obtain rfl : fn = Tryd.f3 := (Option.some.inj (Tryd.func3.symm.trans hfn)).symm
      exact ⟨by kernel_rfl, fun j t ht => by
        rw [Tryd.params3] at ht
        have hm : t ∈ [22] := by simpa using Array.mem_of_getElem? ht
        have hall : ([22].all fun u => !Tryd.prog.wantsStandIn u) = true := by kernel_rfl
        exact (show Tryd.prog.wantsStandIn t = false by simpa using List.all_eq_true.1 hall t hm)⟩)
    (by kernel_rfl)
end Go.Proofs.YtgiakpnkidblpaaDoor.frontGrows

theorem Go.Proofs.YtgiakpnkidblpaaDoor.frontGrows_holds : Go.Proofs.YtgiakpnkidblpaaDoor.Rows.FrontGrowsCardSaid := Go.Proofs.YtgiakpnkidblpaaDoor.frontGrows.holds
#print axioms Go.Proofs.YtgiakpnkidblpaaDoor.frontGrows_holds
