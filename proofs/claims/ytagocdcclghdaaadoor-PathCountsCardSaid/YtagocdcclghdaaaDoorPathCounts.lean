/-
  PathCounts: paths and links have as many hashes as is told, and a path no more than the number of leaves less 1 has bits. For all hashes (the first 20 of them), and every place among them; the numbers K of the package sha are as the program's own start lays them.
-/
import Derived.Test.YtagocdcclghdaaaDoorPathLaw
namespace Go.Proofs.YtagocdcclghdaaaDoor.pathCounts
open Go.ChangeShapes Go.WideShapes Go.ChangeAt Go.RowKit

set_option maxHeartbeats 8000000 in
set_option maxRecDepth 100000 in
theorem walk {w : World} (hK : KT w) (v : Value) (l : Hs) (hv : Sums w v l) (a : Int) (_ : -9223372036854775808 ≤ a) (_ : a ≤ 9223372036854775807) :
    Calls Tryd.prog 5 #[v, .int .i64 a] w fun e w' => e = .returned (.bool true) ∧ Below w.heap.size w w' := by
  have HAW := Lib.hid (awake10_any w hK)
  have HV := Lib.hid hv
  obtain ⟨r, hr⟩ : ∃ r, r = l.take 20 := ⟨_, rfl⟩
  have hrl : r.length ≤ 20 := by rw [hr, List.length_take]; omega
  obtain ⟨n, hn⟩ : ∃ n, n = r.length := ⟨_, rfl⟩
  have hn20 : n ≤ 20 := by omega
  have Hr := Lib.hid hr
  have Hn := Lib.hid hn
  have HKW := Lib.hid hK
  clear hrl hr hn hv hK
  go_enter Tryd.func5, Tryd.ntmps5
  go_upto_region 4 with (first
    | (go_at_call 9; ((with_reducible refine HAW.out.mono ?_); rintro e w1 ⟨rfl, b1⟩))
    | (go_at_call 10; refine (few10_any _ l _ (HV.out.old b1)).mono ?_; rintro e w2 ⟨v6, rfl, h6, rfl⟩; rw [← Hr.out] at h6; have H6 := Lib.hid h6.1; obtain ⟨a6, c6, rfl, _, _⟩ := h6.1.slice; rw [← Hn.out] at H6 ⊢; clear h6))
  rcases Nat.eq_zero_or_pos n with h0 | h0
  · have h0' : (n : Int) = 0 := by omega
    go_wp2
    go_ret
    exact ⟨rfl, b1⟩
  · have h0' : ¬ (n : Int) = 0 := by omega
    obtain ⟨q, hq, m, hm, hqm⟩ := place_of a n h0
    obtain ⟨LP, hLP⟩ : ∃ LP, LP = Tree.long m n := ⟨_, rfl⟩
    obtain ⟨LL, hLL⟩ : ∃ LL, LL = Tree.llong (m + 1) n true := ⟨_, rfl⟩
    have okp : okP (m : Int) (n : Int) = true := by simp [okP]; omega
    have okl : okL ((m : Int) + 1) (n : Int) = true := by simp [okL]; omega
    have e1 : ((m : Int) + 1).toNat = m + 1 := by omega
    have HPA : Hid (∀ v u, KT u → Sums u v r → Calls Tryd.prog 11 #[v, .int .i64 (m : Int)] u fun e w' => ∃ b c, e = .returned (.tuple #[.slice b LP c, .bool true]) ∧ Below u.heap.size u w') := Lib.hid fun v u hk hv => by
      have := path_any v r (m : Int) u hv (by have := Hn.out; omega) hk
      rw [pathZ_t r m (by have := Hn.out; omega)] at this
      refine this.mono fun e w' ⟨v', he, ho, hb⟩ => ?_
      obtain ⟨b, c, rfl, -, -⟩ := ho.sums.slice
      rw [Tree.path_length _ _ _ (Nat.le_refl _), ← Hn.out, ← hLP] at he
      exact ⟨b, c, he, hb⟩
    have HLI : Hid (∀ v u, KT u → Sums u v r → Calls Tryd.prog 13 #[v, .int .i64 ((m : Int) + 1)] u fun e w' => ∃ b c, e = .returned (.tuple #[.slice b LL c, .bool true]) ∧ Below u.heap.size u w') := Lib.hid fun v u hk hv => by
      have := links_any v r ((m + 1 : Nat) : Int) u hv (by have := Hn.out; omega) hk
      rw [linksZ_t r (m + 1) (by omega) (by have := Hn.out; omega)] at this
      refine this.mono fun e w' ⟨v', he, ho, hb⟩ => ?_
      obtain ⟨b, c, rfl, -, -⟩ := ho.sums.slice
      rw [Tree.links_length _ _ _ _ (by omega) (by have := Hn.out; omega) (Nat.le_refl _), ← Hn.out, ← hLL] at he
      exact ⟨b, c, he, hb⟩
    have HTU : Hid (∀ u, Calls Tryd.prog 16 #[.int .i64 (m : Int), .int .i64 (n : Int)] u fun e w' => ∃ b c, e = .returned (.slice b LP c) ∧ Below u.heap.size u w') := Lib.hid fun u => by
      have := turns_any (m : Int) (n : Int) u (by omega) (by omega)
      refine this.mono fun e w' ⟨v', he, ho, hb⟩ => ?_
      obtain ⟨b, c, rfl, -, -⟩ := ho.bools.slice
      have e2 : (turnsZ (m : Int) (n : Int)).length = LP := by unfold turnsZ; rw [if_pos okp, hLP]; rfl
      rw [e2] at he
      exact ⟨b, c, he, hb⟩
    have HLG : Hid (∀ u, Calls Tryd.prog 18 #[.int .i64 (m : Int), .int .i64 (n : Int)] u fun e w' => e = .returned (.int .i64 (LP : Int)) ∧ Below u.heap.size u w') := Lib.hid fun u => by
      have := long_any (m : Int) (n : Int) u (by omega) (by omega)
      rw [okp] at this
      refine this.mono fun e w' ⟨he, hw⟩ => ⟨by rw [he, hLP]; rfl, hw ▸ Below.refl _ _⟩
    have HLL : Hid (∀ u, Calls Tryd.prog 20 #[.int .i64 ((m : Int) + 1), .int .i64 (n : Int)] u fun e w' => e = .returned (.int .i64 (LL : Int)) ∧ Below u.heap.size u w') := Lib.hid fun u => by
      have := linksLong_any ((m : Int) + 1) (n : Int) u (by omega) (by omega)
      rw [okl, e1] at this
      refine this.mono fun e w' ⟨he, hw⟩ => ⟨by rw [he, hLL]; rfl, hw ▸ Below.refl _ _⟩
    have HLE : Hid (∀ i, n ≤ 2 ^ i → LP ≤ i) := Lib.hid fun i hi => by rw [hLP]; exact Tree.long_le i m n hi
    have hw1 := IntWalk.i64_in ((m : Int) + 1) (by omega)
    have hw2 := IntWalk.i64_in ((n : Int) - 1) (by omega)
    have hw3 := IntWalk.i64_in (m : Int) (by omega)
    clear hLP hLL okp okl e1
    rcases hqm with ⟨hq0, rfl⟩ | ⟨hq0, rfl⟩ <;>
    (go_upto_region 11 with (first
      | (go_at_call 11; ((with_reducible refine (HPA.out _ _ (HKW.out.old b1) H6.out).mono ?_); rintro e w3 ⟨a9, c9, rfl, b3⟩))
      | (go_at_call 13; ((with_reducible refine (HLI.out _ _ ((HKW.out.old b1).old b3) (H6.out.old b3)).mono ?_); rintro e w4 ⟨a11, c11, rfl, b4⟩)))
     have bz := below_step (below_step b1 (Nat.le_refl _) b3) (Nat.le_refl _) b4
     go_wp2
     go_loopw [13] (fun s13 wr => wr = w4 ∧ ∃ i : Nat, s13 = .int .i64 (i : Int) ∧ i ≤ 5) (fun s13 _ => 6 - (intOf s13).toNat)
     case atStart => exact ⟨rfl, 0, rfl, by omega⟩
     case round =>
      obtain ⟨rfl, i, rfl, hi⟩ := hrel
      obtain ⟨P, hP⟩ : ∃ P : Nat, P = 2 ^ i := ⟨_, rfl⟩
      have hsh := shl_one i (by omega) P hP
      have hle := HLE.out i
      rw [← hP] at hle
      have h32 : i = 5 → P = 32 := fun h => by rw [hP, h]
      clear hP
      by_cases hge : P ≤ n - 1
      · have hge' : (P : Int) ≤ (n : Int) - 1 := by omega
        go_wp2
        exact ⟨⟨trivial, i + 1, by simp, by omega⟩, by simp [intOf]; omega⟩
      · have hge' : ¬ (P : Int) ≤ (n : Int) - 1 := by omega
        have hLPi : (LP : Int) ≤ (i : Int) := by have := hle (by omega); omega
        go_upto_region 14 with (fail)
        try simp only [Act.put]
        refine wp_region_tab0 [RT.is (.bool true), RT.is (.bool true), RT.is (.bool true), RT.is (.bool true), RT.is (.bool true), RT.is (.bool true), RT.is (.bool true), RT.is (.bool true), RT.is (.slice a9 LP c9), RT.is (.int .i64 (LP : Int)), RT.is (.int .i64 (m : Int)), RT.is (.int .i64 (n : Int)), RT.is (.int .i64 (LP : Int)), RT.is (.bool true), RT.is (.bool true), RT.is (.bool true), RT.is (.slice a11 LL c11), RT.is (.int .i64 (LL : Int)), RT.is (.int .i64 (m : Int)), RT.is (.int .i64 ((m : Int) + 1)), RT.is (.int .i64 (n : Int)), RT.is (.int .i64 (LL : Int)), RT.is (.bool true), RT.is (.bool true), RT.is (.bool true), RT.is (.slice a9 LP c9), RT.is (.int .i64 (LP : Int)), RT.is (.int .i64 (i : Int)), RT.is (.bool true), RT.is (.bool true), RT.is (.bool true), RT.is (.int .i64 (m : Int)), RT.is (.int .i64 (n : Int)), RT.slen LP, RT.is (.int .i64 (LP : Int)), RT.is (.slice a9 LP c9), RT.is (.int .i64 (LP : Int)), RT.is (.bool true), RT.is (.bool true), RT.is (.bool true)] (by kernel_rfl) (by kernel_rfl) (by kernel_rfl) ⟨?_, ?_, ?_, ?_, ?_, ?_, ?_, ?_, ?_, ?_, ?_, ?_, ?_, ?_, ?_, ?_, ?_, ?_, ?_, ?_, ?_, ?_, ?_, ?_, ?_, ?_, ?_, ?_, ?_, ?_, ?_, ?_, ?_, ?_, ?_, ?_, ?_, ?_, ?_, ?_, trivial⟩ ?_
        · intro ac w' hF hL hP hU K hK
          have hB : Below _ _ _ := hL
          have e5 : ac.eval (.tmp 5) = .bool true := hF.at 5 (by kernel_rfl)
          exact rop_move _ rfl e5 (wanted_none rfl) (hK _ _ (le8_refl _) rfl)
        · intro ac w' hF hL hP hU K hK
          have hB : Below _ _ _ := hL
          have e50 : ac.eval (.tmp 50) = .bool true := hP 0 (by kernel_rfl)
          exact rop_move _ rfl e50 (wanted_none rfl) (hK _ _ (le8_refl _) rfl)
        · intro ac w' hF hL hP hU K hK
          have hB : Below _ _ _ := hL
          have e10 : ac.eval (.tmp 10) = .bool true := hF.at 10 (by kernel_rfl)
          have e51 : ac.eval (.tmp 51) = .bool true := hP 1 (by kernel_rfl)
          exact rop_move _ rfl e10 (wanted_of (j := 1) (b := true) rfl rfl e51) (hK _ _ (le8_refl _) rfl)
        · intro ac w' hF hL hP hU K hK
          have hB : Below _ _ _ := hL
          have e51 : ac.eval (.tmp 51) = .bool true := hP 1 (by kernel_rfl)
          have e52 : ac.eval (.tmp 52) = .bool true := hP 2 (by kernel_rfl)
          exact rop_pick _ _ _ rfl true e51 (by simpa using e52) (wanted_none rfl) (hK _ _ (le8_refl _) rfl)
        · intro ac w' hF hL hP hU K hK
          have hB : Below _ _ _ := hL
          have e53 : ac.eval (.tmp 53) = .bool true := hP 3 (by kernel_rfl)
          exact rop_move _ rfl e53 (wanted_none rfl) (hK _ _ (le8_refl _) rfl)
        · intro ac w' hF hL hP hU K hK
          have hB : Below _ _ _ := hL
          have e12 : ac.eval (.tmp 12) = .bool true := hF.at 12 (by kernel_rfl)
          have e54 : ac.eval (.tmp 54) = .bool true := hP 4 (by kernel_rfl)
          exact rop_move _ rfl e12 (wanted_of (j := 4) (b := true) rfl rfl e54) (hK _ _ (le8_refl _) rfl)
        · intro ac w' hF hL hP hU K hK
          have hB : Below _ _ _ := hL
          have e54 : ac.eval (.tmp 54) = .bool true := hP 4 (by kernel_rfl)
          have e55 : ac.eval (.tmp 55) = .bool true := hP 5 (by kernel_rfl)
          exact rop_pick _ _ _ rfl true e54 (by simpa using e55) (wanted_none rfl) (hK _ _ (le8_refl _) rfl)
        · intro ac w' hF hL hP hU K hK
          have hB : Below _ _ _ := hL
          have e56 : ac.eval (.tmp 56) = .bool true := hP 6 (by kernel_rfl)
          exact rop_move _ rfl e56 (wanted_none rfl) (hK _ _ (le8_refl _) rfl)
        · intro ac w' hF hL hP hU K hK
          have hB : Below _ _ _ := hL
          have e9 : ac.eval (.tmp 9) = .slice a9 LP c9 := hF.at 9 (by kernel_rfl)
          have e57 : ac.eval (.tmp 57) = .bool true := hP 7 (by kernel_rfl)
          exact rop_move _ rfl e9 (wanted_of (j := 7) (b := true) rfl rfl e57) (hK _ _ (le8_refl _) rfl)
        · intro ac w' hF hL hP hU K hK
          have hB : Below _ _ _ := hL
          have e58 : ac.eval (.tmp 58) = .slice a9 LP c9 := hP 8 (by kernel_rfl)
          have e57 : ac.eval (.tmp 57) = .bool true := hP 7 (by kernel_rfl)
          exact rop_lenG _ Tryd.underlying22 rfl e58 (wanted_of (j := 7) (b := true) rfl rfl e57) (hK _ _ (le8_refl _) rfl)
        · intro ac w' hF hL hP hU K hK
          have hB : Below _ _ _ := hL
          have e8 : ac.eval (.tmp 8) = .int .i64 (m : Int) := hF.at 8 (by kernel_rfl)
          have e57 : ac.eval (.tmp 57) = .bool true := hP 7 (by kernel_rfl)
          exact rop_move _ rfl e8 (wanted_of (j := 7) (b := true) rfl rfl e57) (hK _ _ (le8_refl _) rfl)
        · intro ac w' hF hL hP hU K hK
          have hB : Below _ _ _ := hL
          have e7 : ac.eval (.tmp 7) = .int .i64 (n : Int) := hF.at 7 (by kernel_rfl)
          have e57 : ac.eval (.tmp 57) = .bool true := hP 7 (by kernel_rfl)
          exact rop_move _ rfl e7 (wanted_of (j := 7) (b := true) rfl rfl e57) (hK _ _ (le8_refl _) rfl)
        · intro ac w' hF hL hP hU K hK
          have hB : Below _ _ _ := hL
          have e60 : ac.eval (.tmp 60) = .int .i64 (m : Int) := hP 10 (by kernel_rfl)
          have e61 : ac.eval (.tmp 61) = .int .i64 (n : Int) := hP 11 (by kernel_rfl)
          have e57 : ac.eval (.tmp 57) = .bool true := hP 7 (by kernel_rfl)
          refine rop_call 18 _ _ rfl #[.int .i64 (m : Int), .int .i64 (n : Int)] (by simp [e60, e61]) (by kernel_rfl) (wanted_of (j := 7) (b := true) rfl rfl e57) ?_
          refine (HLG.out w').mono ?_
          rintro e w2 ⟨rfl, hb⟩
          exact ⟨_, rfl, hK _ _ hb rfl⟩
        · intro ac w' hF hL hP hU K hK
          have hB : Below _ _ _ := hL
          have e59 : ac.eval (.tmp 59) = .int .i64 (LP : Int) := hP 9 (by kernel_rfl)
          have e62 : ac.eval (.tmp 62) = .int .i64 (LP : Int) := hP 12 (by kernel_rfl)
          have e57 : ac.eval (.tmp 57) = .bool true := hP 7 (by kernel_rfl)
          exact rop_bin _ _ _ _ _ rfl e59 e62 (guard_int _ _ _ _ _ _ _ w') (eql_iG _ _ _ (decide_eq_true rfl) w') (wanted_of (j := 7) (b := true) rfl rfl e57) (hK _ _ (le8_refl _) rfl)
        · intro ac w' hF hL hP hU K hK
          have hB : Below _ _ _ := hL
          have e57 : ac.eval (.tmp 57) = .bool true := hP 7 (by kernel_rfl)
          have e63 : ac.eval (.tmp 63) = .bool true := hP 13 (by kernel_rfl)
          exact rop_pick _ _ _ rfl true e57 (by simpa using e63) (wanted_none rfl) (hK _ _ (le8_refl _) rfl)
        · intro ac w' hF hL hP hU K hK
          have hB : Below _ _ _ := hL
          have e64 : ac.eval (.tmp 64) = .bool true := hP 14 (by kernel_rfl)
          exact rop_move _ rfl e64 (wanted_none rfl) (hK _ _ (le8_refl _) rfl)
        · intro ac w' hF hL hP hU K hK
          have hB : Below _ _ _ := hL
          have e11 : ac.eval (.tmp 11) = .slice a11 LL c11 := hF.at 11 (by kernel_rfl)
          have e65 : ac.eval (.tmp 65) = .bool true := hP 15 (by kernel_rfl)
          exact rop_move _ rfl e11 (wanted_of (j := 15) (b := true) rfl rfl e65) (hK _ _ (le8_refl _) rfl)
        · intro ac w' hF hL hP hU K hK
          have hB : Below _ _ _ := hL
          have e66 : ac.eval (.tmp 66) = .slice a11 LL c11 := hP 16 (by kernel_rfl)
          have e65 : ac.eval (.tmp 65) = .bool true := hP 15 (by kernel_rfl)
          exact rop_lenG _ Tryd.underlying22 rfl e66 (wanted_of (j := 15) (b := true) rfl rfl e65) (hK _ _ (le8_refl _) rfl)
        · intro ac w' hF hL hP hU K hK
          have hB : Below _ _ _ := hL
          have e8 : ac.eval (.tmp 8) = .int .i64 (m : Int) := hF.at 8 (by kernel_rfl)
          have e65 : ac.eval (.tmp 65) = .bool true := hP 15 (by kernel_rfl)
          exact rop_move _ rfl e8 (wanted_of (j := 15) (b := true) rfl rfl e65) (hK _ _ (le8_refl _) rfl)
        · intro ac w' hF hL hP hU K hK
          have hB : Below _ _ _ := hL
          have e68 : ac.eval (.tmp 68) = .int .i64 (m : Int) := hP 18 (by kernel_rfl)
          have e65 : ac.eval (.tmp 65) = .bool true := hP 15 (by kernel_rfl)
          exact rop_bin _ _ _ _ _ rfl e68 rfl (guard_int _ _ _ _ _ _ _ w') (add_int _ _ _ (rfl) (by omega) w') (wanted_of (j := 15) (b := true) rfl rfl e65) (hK _ _ (le8_refl _) rfl)
        · intro ac w' hF hL hP hU K hK
          have hB : Below _ _ _ := hL
          have e7 : ac.eval (.tmp 7) = .int .i64 (n : Int) := hF.at 7 (by kernel_rfl)
          have e65 : ac.eval (.tmp 65) = .bool true := hP 15 (by kernel_rfl)
          exact rop_move _ rfl e7 (wanted_of (j := 15) (b := true) rfl rfl e65) (hK _ _ (le8_refl _) rfl)
        · intro ac w' hF hL hP hU K hK
          have hB : Below _ _ _ := hL
          have e69 : ac.eval (.tmp 69) = .int .i64 ((m : Int) + 1) := hP 19 (by kernel_rfl)
          have e70 : ac.eval (.tmp 70) = .int .i64 (n : Int) := hP 20 (by kernel_rfl)
          have e65 : ac.eval (.tmp 65) = .bool true := hP 15 (by kernel_rfl)
          refine rop_call 20 _ _ rfl #[.int .i64 ((m : Int) + 1), .int .i64 (n : Int)] (by simp [e69, e70]) (by kernel_rfl) (wanted_of (j := 15) (b := true) rfl rfl e65) ?_
          refine (HLL.out w').mono ?_
          rintro e w2 ⟨rfl, hb⟩
          exact ⟨_, rfl, hK _ _ hb rfl⟩
        · intro ac w' hF hL hP hU K hK
          have hB : Below _ _ _ := hL
          have e67 : ac.eval (.tmp 67) = .int .i64 (LL : Int) := hP 17 (by kernel_rfl)
          have e71 : ac.eval (.tmp 71) = .int .i64 (LL : Int) := hP 21 (by kernel_rfl)
          have e65 : ac.eval (.tmp 65) = .bool true := hP 15 (by kernel_rfl)
          exact rop_bin _ _ _ _ _ rfl e67 e71 (guard_int _ _ _ _ _ _ _ w') (eql_iG _ _ _ (decide_eq_true rfl) w') (wanted_of (j := 15) (b := true) rfl rfl e65) (hK _ _ (le8_refl _) rfl)
        · intro ac w' hF hL hP hU K hK
          have hB : Below _ _ _ := hL
          have e65 : ac.eval (.tmp 65) = .bool true := hP 15 (by kernel_rfl)
          have e72 : ac.eval (.tmp 72) = .bool true := hP 22 (by kernel_rfl)
          exact rop_pick _ _ _ rfl true e65 (by simpa using e72) (wanted_none rfl) (hK _ _ (le8_refl _) rfl)
        · intro ac w' hF hL hP hU K hK
          have hB : Below _ _ _ := hL
          have e73 : ac.eval (.tmp 73) = .bool true := hP 23 (by kernel_rfl)
          exact rop_move _ rfl e73 (wanted_none rfl) (hK _ _ (le8_refl _) rfl)
        · intro ac w' hF hL hP hU K hK
          have hB : Below _ _ _ := hL
          have e9 : ac.eval (.tmp 9) = .slice a9 LP c9 := hF.at 9 (by kernel_rfl)
          have e74 : ac.eval (.tmp 74) = .bool true := hP 24 (by kernel_rfl)
          exact rop_move _ rfl e9 (wanted_of (j := 24) (b := true) rfl rfl e74) (hK _ _ (le8_refl _) rfl)
        · intro ac w' hF hL hP hU K hK
          have hB : Below _ _ _ := hL
          have e75 : ac.eval (.tmp 75) = .slice a9 LP c9 := hP 25 (by kernel_rfl)
          have e74 : ac.eval (.tmp 74) = .bool true := hP 24 (by kernel_rfl)
          exact rop_lenG _ Tryd.underlying22 rfl e75 (wanted_of (j := 24) (b := true) rfl rfl e74) (hK _ _ (le8_refl _) rfl)
        · intro ac w' hF hL hP hU K hK
          have hB : Below _ _ _ := hL
          have e13 : ac.eval (.tmp 13) = .int .i64 (i : Int) := hF.at 13 (by kernel_rfl)
          have e74 : ac.eval (.tmp 74) = .bool true := hP 24 (by kernel_rfl)
          exact rop_move _ rfl e13 (wanted_of (j := 24) (b := true) rfl rfl e74) (hK _ _ (le8_refl _) rfl)
        · intro ac w' hF hL hP hU K hK
          have hB : Below _ _ _ := hL
          have e76 : ac.eval (.tmp 76) = .int .i64 (LP : Int) := hP 26 (by kernel_rfl)
          have e77 : ac.eval (.tmp 77) = .int .i64 (i : Int) := hP 27 (by kernel_rfl)
          have e74 : ac.eval (.tmp 74) = .bool true := hP 24 (by kernel_rfl)
          exact rop_bin _ _ _ _ _ rfl e76 e77 (guard_int _ _ _ _ _ _ _ w') (leq_iG _ _ _ (decide_eq_true (by omega)) w') (wanted_of (j := 24) (b := true) rfl rfl e74) (hK _ _ (le8_refl _) rfl)
        · intro ac w' hF hL hP hU K hK
          have hB : Below _ _ _ := hL
          have e74 : ac.eval (.tmp 74) = .bool true := hP 24 (by kernel_rfl)
          have e78 : ac.eval (.tmp 78) = .bool true := hP 28 (by kernel_rfl)
          exact rop_pick _ _ _ rfl true e74 (by simpa using e78) (wanted_none rfl) (hK _ _ (le8_refl _) rfl)
        · intro ac w' hF hL hP hU K hK
          have hB : Below _ _ _ := hL
          have e79 : ac.eval (.tmp 79) = .bool true := hP 29 (by kernel_rfl)
          exact rop_move _ rfl e79 (wanted_none rfl) (hK _ _ (le8_refl _) rfl)
        · intro ac w' hF hL hP hU K hK
          have hB : Below _ _ _ := hL
          have e8 : ac.eval (.tmp 8) = .int .i64 (m : Int) := hF.at 8 (by kernel_rfl)
          have e80 : ac.eval (.tmp 80) = .bool true := hP 30 (by kernel_rfl)
          exact rop_move _ rfl e8 (wanted_of (j := 30) (b := true) rfl rfl e80) (hK _ _ (le8_refl _) rfl)
        · intro ac w' hF hL hP hU K hK
          have hB : Below _ _ _ := hL
          have e7 : ac.eval (.tmp 7) = .int .i64 (n : Int) := hF.at 7 (by kernel_rfl)
          have e80 : ac.eval (.tmp 80) = .bool true := hP 30 (by kernel_rfl)
          exact rop_move _ rfl e7 (wanted_of (j := 30) (b := true) rfl rfl e80) (hK _ _ (le8_refl _) rfl)
        · intro ac w' hF hL hP hU K hK
          have hB : Below _ _ _ := hL
          have e81 : ac.eval (.tmp 81) = .int .i64 (m : Int) := hP 31 (by kernel_rfl)
          have e82 : ac.eval (.tmp 82) = .int .i64 (n : Int) := hP 32 (by kernel_rfl)
          have e80 : ac.eval (.tmp 80) = .bool true := hP 30 (by kernel_rfl)
          refine rop_call 16 _ _ rfl #[.int .i64 (m : Int), .int .i64 (n : Int)] (by simp [e81, e82]) (by kernel_rfl) (wanted_of (j := 30) (b := true) rfl rfl e80) ?_
          refine (HTU.out w').mono ?_
          rintro e w2 ⟨a2, c2, rfl, hb⟩
          exact ⟨_, rfl, hK _ _ hb ⟨a2, c2, rfl⟩⟩
        · intro ac w' hF hL hP hU K hK
          have hB : Below _ _ _ := hL
          have e83 : ∃ a c, (ac.eval (.tmp 83)) = .slice a LP c := hP 33 (by kernel_rfl)
          have e80 : ac.eval (.tmp 80) = .bool true := hP 30 (by kernel_rfl)
          obtain ⟨a2, c2, e2⟩ := e83
          exact rop_lenG _ Tryd.underlying29 rfl e2 (wanted_of (j := 30) (b := true) rfl rfl e80) (hK _ _ (le8_refl _) rfl)
        · intro ac w' hF hL hP hU K hK
          have hB : Below _ _ _ := hL
          have e9 : ac.eval (.tmp 9) = .slice a9 LP c9 := hF.at 9 (by kernel_rfl)
          have e80 : ac.eval (.tmp 80) = .bool true := hP 30 (by kernel_rfl)
          exact rop_move _ rfl e9 (wanted_of (j := 30) (b := true) rfl rfl e80) (hK _ _ (le8_refl _) rfl)
        · intro ac w' hF hL hP hU K hK
          have hB : Below _ _ _ := hL
          have e85 : ac.eval (.tmp 85) = .slice a9 LP c9 := hP 35 (by kernel_rfl)
          have e80 : ac.eval (.tmp 80) = .bool true := hP 30 (by kernel_rfl)
          exact rop_lenG _ Tryd.underlying22 rfl e85 (wanted_of (j := 30) (b := true) rfl rfl e80) (hK _ _ (le8_refl _) rfl)
        · intro ac w' hF hL hP hU K hK
          have hB : Below _ _ _ := hL
          have e84 : ac.eval (.tmp 84) = .int .i64 (LP : Int) := hP 34 (by kernel_rfl)
          have e86 : ac.eval (.tmp 86) = .int .i64 (LP : Int) := hP 36 (by kernel_rfl)
          have e80 : ac.eval (.tmp 80) = .bool true := hP 30 (by kernel_rfl)
          exact rop_bin _ _ _ _ _ rfl e84 e86 (guard_int _ _ _ _ _ _ _ w') (eql_iG _ _ _ (decide_eq_true rfl) w') (wanted_of (j := 30) (b := true) rfl rfl e80) (hK _ _ (le8_refl _) rfl)
        · intro ac w' hF hL hP hU K hK
          have hB : Below _ _ _ := hL
          have e80 : ac.eval (.tmp 80) = .bool true := hP 30 (by kernel_rfl)
          have e87 : ac.eval (.tmp 87) = .bool true := hP 37 (by kernel_rfl)
          exact rop_pick _ _ _ rfl true e80 (by simpa using e87) (wanted_none rfl) (hK _ _ (le8_refl _) rfl)
        · intro ac w' hF hL hP hU K hK
          have hB : Below _ _ _ := hL
          have e88 : ac.eval (.tmp 88) = .bool true := hP 38 (by kernel_rfl)
          exact rop_assign _ rfl e88 (wanted_none rfl) (hK _ _ (le8_refl _) rfl)
        · intro ac w' hF hB hT
          have e4 : ac.eval (.tmp 4) = .bool true := hT 39 (by decide)
          rw [hF.setsG [50, 51, 52, 53, 54, 55, 56, 57, 58, 59, 60, 61, 62, 63, 64, 65, 66, 67, 68, 69, 70, 71, 72, 73, 74, 75, 76, 77, 78, 79, 80, 81, 82, 83, 84, 85, 86, 87, 88, 4] (by kernel_rfl)]
          simp only [List.foldl_cons, List.foldl_nil, List.setIfInBounds_toArray, List.set_cons_succ, List.set_cons_zero, e4]
          generalize ac.eval (.tmp 50) = u50
          generalize ac.eval (.tmp 51) = u51
          generalize ac.eval (.tmp 52) = u52
          generalize ac.eval (.tmp 53) = u53
          generalize ac.eval (.tmp 54) = u54
          generalize ac.eval (.tmp 55) = u55
          generalize ac.eval (.tmp 56) = u56
          generalize ac.eval (.tmp 57) = u57
          generalize ac.eval (.tmp 58) = u58
          generalize ac.eval (.tmp 59) = u59
          generalize ac.eval (.tmp 60) = u60
          generalize ac.eval (.tmp 61) = u61
          generalize ac.eval (.tmp 62) = u62
          generalize ac.eval (.tmp 63) = u63
          generalize ac.eval (.tmp 64) = u64
          generalize ac.eval (.tmp 65) = u65
          generalize ac.eval (.tmp 66) = u66
          generalize ac.eval (.tmp 67) = u67
          generalize ac.eval (.tmp 68) = u68
          generalize ac.eval (.tmp 69) = u69
          generalize ac.eval (.tmp 70) = u70
          generalize ac.eval (.tmp 71) = u71
          generalize ac.eval (.tmp 72) = u72
          generalize ac.eval (.tmp 73) = u73
          generalize ac.eval (.tmp 74) = u74
          generalize ac.eval (.tmp 75) = u75
          generalize ac.eval (.tmp 76) = u76
          generalize ac.eval (.tmp 77) = u77
          generalize ac.eval (.tmp 78) = u78
          generalize ac.eval (.tmp 79) = u79
          generalize ac.eval (.tmp 80) = u80
          generalize ac.eval (.tmp 81) = u81
          generalize ac.eval (.tmp 82) = u82
          generalize ac.eval (.tmp 83) = u83
          generalize ac.eval (.tmp 84) = u84
          generalize ac.eval (.tmp 85) = u85
          generalize ac.eval (.tmp 86) = u86
          generalize ac.eval (.tmp 87) = u87
          generalize ac.eval (.tmp 88) = u88
          clear e4 hT hF ac
          go_wp2
          go_ret
          exact ⟨rfl, below_step bz (Nat.le_refl _) hB⟩)

set_option maxRecDepth 100000 in
theorem lifted (os : Os) (started : os.Started) (H : Type) (enc : TypeId × Value → H) :
    ReturnsInHanded {} Tryd.checked os 5 .any (fun w args => (Rows.pathCountsSpec.pre enc Tryd.prog Tryd.f5 [] false w args ∧ laidMetH Tryd.prog [("scrinium/sha.k", Rows.laid_scrinium_sha_k)] w) ∧ sizedMet enc Tryd.prog Tryd.f5 (OpenSpec.ofChange Rows.pathCountsSpec) false w args)
      (Rows.pathCountsSpec.post enc Tryd.prog Tryd.f5 false true false false) := by
  refine returnsInHanded_of_change_and (C := Tryd.checked) (X := fun w _ => laidMetH Tryd.prog [("scrinium/sha.k", Rows.laid_scrinium_sha_k)] w) (fun _ _ _ hh h => h.of_heap hh) lawOwn started (by kernel_rfl) Tryd.func5
    (ChangeSpec.witness_shaped (enc := enc) (C := Tryd.checked) (os := os) (X := fun w _ => laidMetH Tryd.prog [("scrinium/sha.k", Rows.laid_scrinium_sha_k)] w) false (World.doorLaid Tryd.prog 400 os) #[.slice none 0 0, .int .i64 0] 8 rfl (World.shaped_of_RefB (by kernel_rfl) (by kernel_rfl)) (by kernel_rfl) (by kernel_rfl) (by kernel_rfl) (door_met os _)) ?_
  intro W base args ds gs before hval0 hW _ _ hL _
  have hval : ∀ (j : Nat) t v, Tryd.f5.params[j]? = some t → args[j]? = some v → Value.okWide Tryd.prog W .any base t v := hval0
  have hW' := hW
  obtain ⟨p, q, hA0, hV, rfl, hfz, hnd⟩ := hW
  have hA : DataW.TrodAll enc Tryd.prog W 0 (fun _ => true) true Tryd.f5.params.toList args.toList ds p := hA0
  rw [Tryd.params5] at hA hval
  obtain ⟨v0, vs0, d0, ds0, p0, q0, hargs, rfl, rfl, h0, r0⟩ := trodAll_cons hA
  obtain ⟨v1, vs1, d1, ds1, p1, q1, rfl, rfl, rfl, h1, r1⟩ := trodAll_cons r0
  obtain ⟨rfl, rfl, rfl⟩ := trodAll_nil r1
  obtain rfl : args = #[v0, v1] := by cases args; simp_all
  obtain ⟨rfl, rfl⟩ := trodVars_none hV
  have hKT := KT_of_laid hL
  obtain ⟨a0, len0, cap0, rfl⟩ := okWide_slice Tryd.underlying22 (hval 0 22 v0 rfl rfl)
  obtain ⟨l0, w0⟩ := sums_of h0
  obtain ⟨a1, rfl, rfl, rfl, w1⟩ := open_int Tryd.underlying3 (hval 1 3 v1 rfl rfl) h1
  clear hA0 hval0
  obtain ⟨l1, m1⟩ := i64_bounds w1
  refine (walk (w := W) hKT _ l0 w0 a1 l1 m1).mono fun e W' ⟨he, bel⟩ => ?_
  subst he
  exact ⟨_, rfl, law_post rfl rfl (by kernel_rfl) hW' rfl bel⟩

theorem row_holds : Rows.PathCountsSaid :=
  OpenClaim.holds_of_wide 5 Tryd.f5 rfl rfl rfl rfl rfl rfl rfl ⟨rfl, rfl, rfl, rfl, rfl⟩ rfl rfl rfl rfl rfl (by kernel_rfl) Tryd.func5 (by kernel_rfl)
    (of_decide_eq_true (by kernel_rfl)) (by unfold Func.isWrapper; first | (rw [if_pos (by decide +kernel)]; kernel_rfl) | (rw [if_neg (by decide +kernel)]; exact ⟨rfl, rfl⟩))
    (fun os started H enc _ => lifted os started H enc)

theorem holds : Rows.PathCountsCardSaid :=
  Claim7.holds_tied_plain_at .later [] [.data] true Rows.pathCountsCard.stood.harness false
    row_holds (fun _ h => by cases h) (by kernel_rfl) (fun _ h => by cases h) pathCounts_row_tie rfl ⟨rfl, rfl⟩ (by kernel_rfl) rfl
    (fun f fn hf hfn => by
      obtain rfl : f = 5 := Option.some.inj ((show Tryd.prog.funcNamed "scrinium/scriniumlaw10.PathCounts" = some 5 by kernel_rfl).symm.trans hf) |>.symm
      obtain rfl : fn = Tryd.f5 := (Option.some.inj (Tryd.func5.symm.trans hfn)).symm
      exact ⟨by kernel_rfl, fun j t ht => by
        rw [Tryd.params5] at ht
        have hm : t ∈ [22, 3] := by simpa using Array.mem_of_getElem? ht
        have hall : ([22, 3].all fun u => !Tryd.prog.wantsStandIn u) = true := by kernel_rfl
        exact (show Tryd.prog.wantsStandIn t = false by simpa using List.all_eq_true.1 hall t hm)⟩)
    (by kernel_rfl)
end Go.Proofs.YtagocdcclghdaaaDoor.pathCounts

theorem Go.Proofs.YtagocdcclghdaaaDoor.pathCounts_holds : Go.Proofs.YtagocdcclghdaaaDoor.Rows.PathCountsCardSaid := Go.Proofs.YtagocdcclghdaaaDoor.pathCounts.holds
#print axioms Go.Proofs.YtagocdcclghdaaaDoor.pathCounts_holds
