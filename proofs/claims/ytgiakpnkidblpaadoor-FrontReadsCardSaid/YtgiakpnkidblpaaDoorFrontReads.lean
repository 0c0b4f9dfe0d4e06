/-
  FrontReads: any bytes are read as the front that they are, or refused, as P11.2 says; its root is that of its peaks. For every text (its first 600 bytes); the numbers K of the package sha are as the program's own start lays them.
-/
import Derived.Test.YtgiakpnkidblpaaDoorFrontAwake
import Derived.Test.YtgiakpnkidblpaaDoorMFrR
namespace Go.Proofs.YtgiakpnkidblpaaDoor.frontReads
open Go.ChangeShapes Go.WideShapes Go.ChangeAt Go.RowKit

theorem neq_none_none (w : World) : (binOp .neq 25 (.pointer none) (.pointer none)).run Tryd.prog w = .ok (.bool false) w := by
  go_simp
theorem neq_ptr_none (b : Nat) (w : World) : (binOp .neq 25 (.pointer (some ⟨b, 0, none⟩)) (.pointer none)).run Tryd.prog w = .ok (.bool true) w := by
  go_simp
theorem neq_bool_same (x : Bool) (w : World) : (binOp .neq 4 (.bool x) (.bool x)).run Tryd.prog w = .ok (.bool false) w := by cases x <;> go_simp
theorem eql_errT (a : Int) (w : World) : (binOp .eql 38 (.int .i64 a) (.int .i64 a)).run Tryd.prog w = .ok (.bool true) w := by
  have h' : (a == a) = true := by simp
  go_simp
theorem eql_errF (a b : Int) (h : ¬ a = b) (w : World) : (binOp .eql 38 (.int .i64 a) (.int .i64 b)).run Tryd.prog w = .ok (.bool false) w := by
  have h' : (a == b) = false := by simpa using h
  go_simp
set_option maxHeartbeats 8000000 in
set_option maxRecDepth 100000 in
theorem walk {w : World} (hK : KT w) (s0 : ByteArray) (_ : s0.size ≤ maxLen) :
    Calls Tryd.prog 4 #[.string s0] w fun e w' => e = .returned (.bool true) ∧ Below w.heap.size w w' := by
  obtain ⟨S, hS⟩ : ∃ S, S = shortB s0 600 := ⟨_, rfl⟩
  have hsz : S.size ≤ 600 := by have := shortB_size s0 600; rw [hS]; omega
  have hcase : (600 < s0.size ∧ s0.extract 0 600 = S) ∨ (¬ 600 < s0.size ∧ S = s0) := by
    unfold shortB at hS
    split at hS
    · exact .inl ⟨by assumption, hS.symm⟩
    · exact .inr ⟨by assumption, hS⟩
  have HAW := Lib.hid (awake11_any w hK)
  have HKW := Lib.hid hK
  have Hpos : Hid (0 < w.heap.size) := Lib.hid hK.pos
  clear hS hK
  by_cases hok : okF S.data.toList
  · obtain ⟨n, hn⟩ : ∃ n, n = numF S.data.toList := ⟨_, rfl⟩
    obtain ⟨P, hP⟩ : ∃ P, P = (lstF S.data.toList (Tree.ones (numF S.data.toList))).1 := ⟨_, rfl⟩
    have hb := okF_bytes hok
    rw [← hP, ← hn] at hb
    have hn40 := numF_le S.data.toList
    rw [← hn] at hn40
    have HRF : Hid (∀ u : World, 0 < u.heap.size → Calls Tryd.prog 21 #[.string S] u fun e w' => ∃ b, e = .returned (.tuple #[.pointer (some ⟨b, 0, none⟩), .int .i64 0]) ∧ FP b n P w' ∧ Below u.heap.size u w') := Lib.hid fun u hu => (fread_any S u (by omega)).mono fun e w' ⟨hb, h⟩ => by
      rcases h with ⟨-, b, Q, hbw, he, hf, hq⟩ | ⟨hno, -⟩
      · rw [← hn] at hf hq
        rw [hn, ← hP] at hq
        exact ⟨b, he, ⟨hn40, by omega, Q, hf, by rw [hn]; exact hq⟩, hb⟩
      · exact absurd hok hno
    have HRD : Hid (∀ u : World, Calls Tryd.prog 22 #[.string S] u fun e w' => ∃ a7 k7 c7, e = .returned (.tuple #[.int .i64 (n : Int), .slice a7 k7 c7, .int .i64 0]) ∧ Sums w' (.slice a7 k7 c7) P ∧ Below u.heap.size u w') := Lib.hid fun u => (rread11_any S u (by omega)).mono fun e w' ⟨hb, h⟩ => by
      rcases h with ⟨-, v', he, ho⟩ | ⟨hno, -⟩
      · rw [ok64_eq hok, ← hP] at ho
        rw [← hn] at he
        have hs := ho.sums
        obtain ⟨a, c, rfl, -, -⟩ := hs.slice
        exact ⟨a, _, c, he, hs, hb⟩
      · exact absurd hok hno
    obtain ⟨D, hD⟩ : ∃ D, D = Tree.rootP P := ⟨_, rfl⟩
    have Hb := Lib.hid hb
    have HDr := Lib.hid hD
    have Hn40 := Lib.hid hn40
    have HSM : Hid (∀ u va vb, P.length ≤ 40 → Sums u va P → Sums u vb P → Calls Tryd.prog 13 #[va, vb] u fun e w' => e = .returned (.bool true) ∧ Below u.heap.size u w') := Lib.hid fun u va vb h40 h1 h2 => by
      have := same_any va vb P P u h1 h2 (by omega)
      rwa [decide_eq_true rfl] at this
    clear hok hb hn hP hD hsz hn40
    go_enter Tryd.func4, Tryd.ntmps4
    rcases hcase with ⟨hc, hx⟩ | ⟨hc, hx⟩
    all_goals (
      first
      | (subst hx; have hc' : ¬ 600 < (S.size : Int) := by omega)
      | (have hc' : 600 < (s0.size : Int) := by omega
         have hc9 : 600 ≤ s0.size := by omega
         skip)
      clear hc
      go_upto_region 4 with (go_at_call 9; ((with_reducible refine HAW.out.mono ?_); rintro e w1 ⟨rfl, b1⟩))
      try rw [hx]
      go_upto_region 6 with (first
        | (go_at_call 21; ((with_reducible refine (HRF.out _ (Nat.lt_of_lt_of_le Hpos.out b1.size)).mono ?_); rintro e w2 ⟨fb, rfl, f2, b2⟩))
        | (go_at_call 22; ((with_reducible refine (HRD.out _).mono ?_); rintro e w3 ⟨a7, k7, c7, rfl, s3, b3⟩)))
      have F3 := Lib.hid (f2.old b3)
      have S3 := Lib.hid s3
      have B3 := Lib.hid (below_step (below_step b1 (Nat.le_refl _) b2) (Nat.le_refl _) b3)
      clear f2 s3 b1 b2 b3
      try simp only [Act.put]
      refine wp_region_tab0 [RT.is (.int .i64 0), RT.is (.int .i64 0), RT.is (.bool false), RT.is (.bool false), RT.is (.pointer (some ⟨fb, 0, none⟩)), RT.is (.bool true), RT.is (.int .i64 0), RT.is (.bool true), RT.is (.bool false), RT.is (.bool false)] (by kernel_rfl) (by kernel_rfl) (by kernel_rfl) ⟨?_, ?_, ?_, ?_, ?_, ?_, ?_, ?_, ?_, ?_, trivial⟩ ?_
      · intro ac w' hF hL hP hU K hK
        have hB : Below _ _ _ := hL
        have e5 : ac.eval (.tmp 5) = .int .i64 0 := hF.at 5 (by kernel_rfl)
        exact rop_move _ rfl e5 (wanted_none rfl) (hK _ _ (le8_refl _) rfl)
      · intro ac w' hF hL hP hU K hK
        have hB : Below _ _ _ := hL
        have e8 : ac.eval (.tmp 8) = .int .i64 0 := hF.at 8 (by kernel_rfl)
        exact rop_move _ rfl e8 (wanted_none rfl) (hK _ _ (le8_refl _) rfl)
      · intro ac w' hF hL hP hU K hK
        have hB : Below _ _ _ := hL
        have e27 : ac.eval (.tmp 27) = .int .i64 0 := hP 0 (by kernel_rfl)
        have e28 : ac.eval (.tmp 28) = .int .i64 0 := hP 1 (by kernel_rfl)
        exact rop_bin _ _ _ _ _ rfl e27 e28 (guard_int _ _ _ _ _ _ _ w') (neq_errT _ w') (wanted_none rfl) (hK _ _ (le8_refl _) rfl)
      · intro ac w' hF hL hP hU K hK
        have hB : Below _ _ _ := hL
        have e29 : ac.eval (.tmp 29) = .bool false := hP 2 (by kernel_rfl)
        exact rop_move _ rfl e29 (wanted_none rfl) (hK _ _ (le8_refl _) rfl)
      · intro ac w' hF hL hP hU K hK
        have hB : Below _ _ _ := hL
        have e4 : ac.eval (.tmp 4) = .pointer (some ⟨fb, 0, none⟩) := hF.at 4 (by kernel_rfl)
        have e30 : ac.eval (.tmp 30) = .bool false := hP 3 (by kernel_rfl)
        exact rop_move _ rfl e4 (wanted_of (j := 3) (b := false) rfl rfl e30) (hK _ _ (le8_refl _) rfl)
      · intro ac w' hF hL hP hU K hK
        have hB : Below _ _ _ := hL
        have e31 : ac.eval (.tmp 31) = .pointer (some ⟨fb, 0, none⟩) := hP 4 (by kernel_rfl)
        have e30 : ac.eval (.tmp 30) = .bool false := hP 3 (by kernel_rfl)
        exact rop_bin _ _ _ _ _ rfl e31 rfl (guard_ptr _ _ _ _ _ _ w') (neq_ptr_none fb w') (wanted_of (j := 3) (b := false) rfl rfl e30) (hK _ _ (le8_refl _) rfl)
      · intro ac w' hF hL hP hU K hK
        have hB : Below _ _ _ := hL
        have e5 : ac.eval (.tmp 5) = .int .i64 0 := hF.at 5 (by kernel_rfl)
        have e30 : ac.eval (.tmp 30) = .bool false := hP 3 (by kernel_rfl)
        exact rop_move _ rfl e5 (wanted_of (j := 3) (b := false) rfl rfl e30) (hK _ _ (le8_refl _) rfl)
      · intro ac w' hF hL hP hU K hK
        have hB : Below _ _ _ := hL
        have e33 : ac.eval (.tmp 33) = .int .i64 0 := hP 6 (by kernel_rfl)
        have e30 : ac.eval (.tmp 30) = .bool false := hP 3 (by kernel_rfl)
        exact rop_bin _ _ _ _ _ rfl e33 rfl (guard_int _ _ _ _ _ _ _ w') (eql_errT _ w') (wanted_of (j := 3) (b := false) rfl rfl e30) (hK _ _ (le8_refl _) rfl)
      · intro ac w' hF hL hP hU K hK
        have hB : Below _ _ _ := hL
        have e32 : ac.eval (.tmp 32) = .bool true := hP 5 (by kernel_rfl)
        have e34 : ac.eval (.tmp 34) = .bool true := hP 7 (by kernel_rfl)
        have e30 : ac.eval (.tmp 30) = .bool false := hP 3 (by kernel_rfl)
        exact rop_bin _ _ _ _ _ rfl e32 e34 (guard_bool _ _ _ _ _ _ w') (neq_bool_same _ w') (wanted_of (j := 3) (b := false) rfl rfl e30) (hK _ _ (le8_refl _) rfl)
      · intro ac w' hF hL hP hU K hK
        have hB : Below _ _ _ := hL
        have e30 : ac.eval (.tmp 30) = .bool false := hP 3 (by kernel_rfl)
        have e35 : ac.eval (.tmp 35) = .bool false := hP 8 (by kernel_rfl)
        exact rop_pick _ _ _ rfl false e30 (by simpa using e35) (wanted_none rfl) (hK _ _ (le8_refl _) rfl)
      · intro ac w' hF hB hT
        have e36 : ac.eval (.tmp 36) = .bool false := hT 9 (by decide)
        rw [hF.setsG [27, 28, 29, 30, 31, 32, 33, 34, 35, 36] (by kernel_rfl)]
        simp only [List.foldl_cons, List.foldl_nil, List.setIfInBounds_toArray, List.set_cons_succ, List.set_cons_zero, e36]
        generalize ac.eval (.tmp 27) = u27
        generalize ac.eval (.tmp 28) = u28
        generalize ac.eval (.tmp 29) = u29
        generalize ac.eval (.tmp 30) = u30
        generalize ac.eval (.tmp 31) = u31
        generalize ac.eval (.tmp 32) = u32
        generalize ac.eval (.tmp 33) = u33
        generalize ac.eval (.tmp 34) = u34
        generalize ac.eval (.tmp 35) = u35
        clear e36 hT hF ac
        obtain ⟨w4, h4⟩ : ∃ u, u = w' := ⟨_, rfl⟩
        subst h4
        have F4 := Lib.hid (F3.out.old hB)
        have S4 := Lib.hid (S3.out.old hB)
        have B4 := Lib.hid (below_step B3.out (Nat.le_refl _) hB)
        clear hB F3 S3 B3
        have HPK : Hid (Calls Tryd.prog 14 #[.pointer (some ⟨fb, 0, none⟩)] w4 fun e w' => ∃ v', e = .returned v' ∧ Sums w' v' P ∧ Below w4.heap.size w4 w') := Lib.hid ((peaks_fp fb n P w4 F4.out).mono (by
          rintro e w' ⟨v', rfl, ho, hb⟩
          exact ⟨v', rfl, ho.sums, hb⟩))
        go_upto_region 11 with (first
          | (go_at_call 14; ((with_reducible refine HPK.out.mono ?_); rintro e w6 ⟨v8, rfl, h8, b6⟩))
          | (go_at_call 13; ((with_reducible refine (HSM.out _ _ _ F4.out.len40 h8 (S4.out.old b6)).mono ?_); rintro e w7 ⟨rfl, b7⟩)))
        have b57 := below_step b6 (Nat.le_refl _) b7
        have F7 := Lib.hid (F4.out.old b57)
        have S7 := Lib.hid (S4.out.old b57)
        have B7 := Lib.hid (below_step B4.out (Nat.le_refl _) b57)
        have HDl : Hid (D.length = 32) := Lib.hid (by rw [HDr.out]; exact Tree.rootP_length _ F7.out.ok)
        have HSZ : Hid (∀ u, Below w7.heap.size w7 u → Calls Tryd.prog 15 #[.pointer (some ⟨fb, 0, none⟩)] u fun e w' => e = .returned (.int .i64 (n : Int)) ∧ Below u.heap.size u w') := Lib.hid fun u hu => (size_fp fb n P u (F7.out.old hu)).mono fun e w' ⟨h1, h2⟩ => ⟨h1, h2 ▸ Below.refl _ _⟩
        have HRT : Hid (∀ u, Below w7.heap.size w7 u → Calls Tryd.prog 16 #[.pointer (some ⟨fb, 0, none⟩)] u fun e w' => e = .returned (sumV D) ∧ Below u.heap.size u w') := Lib.hid fun u hu => by
          rw [HDr.out]
          exact root_fp fb n P u (F7.out.old hu) (HKW.out.old (below_step B7.out (Nat.le_refl _) hu))
        have HRR : Hid (∀ u, Below w7.heap.size w7 u → Calls Tryd.prog 23 #[.slice a7 k7 c7] u fun e w' => e = .returned (sumV D) ∧ Below u.heap.size u w') := Lib.hid fun u hu => by
          rw [HDr.out]
          exact rroot11_any _ P u (S7.out.old hu) (by have := F7.out.len40; omega)
        have HBY : Hid (∀ u, Below w7.heap.size w7 u → Calls Tryd.prog 18 #[.pointer (some ⟨fb, 0, none⟩)] u fun e w' => e = .returned (.string S) ∧ Below u.heap.size u w') := Lib.hid fun u hu => by
          have := bytes_fp fb n P u (F7.out.old hu)
          rwa [Hb.out] at this
        clear b6 b7 h8 b57
        try simp only [Act.put]
        refine wp_region_tab0 [RT.is (.bool true), RT.is (.bool true), RT.is (.bool true), RT.is (.bool true), RT.is (.bool true), RT.is (.pointer (some ⟨fb, 0, none⟩)), RT.is (.int .i64 (n : Int)), RT.is (.int .i64 (n : Int)), RT.is (.bool true), RT.is (.bool true), RT.is (.bool true), RT.is (.pointer (some ⟨fb, 0, none⟩)), RT.is (.string S), RT.is (.string S), RT.is (.bool true), RT.is (.bool true), RT.is (.bool true), RT.is (.pointer (some ⟨fb, 0, none⟩)), RT.is (sumV D), RT.is (.slice a7 k7 c7), RT.is (sumV D), RT.is (.bool true), RT.is (.bool true), RT.is (.bool true)] (by kernel_rfl) (by kernel_rfl) (by kernel_rfl) ⟨?_, ?_, ?_, ?_, ?_, ?_, ?_, ?_, ?_, ?_, ?_, ?_, ?_, ?_, ?_, ?_, ?_, ?_, ?_, ?_, ?_, ?_, ?_, ?_, trivial⟩ ?_
        · intro ac w' hF hL hP hU K hK
          have hB : Below _ _ _ := hL
          have e3 : ac.eval (.tmp 3) = .bool true := hF.at 3 (by kernel_rfl)
          exact rop_move _ rfl e3 (wanted_none rfl) (hK _ _ (le8_refl _) rfl)
        · intro ac w' hF hL hP hU K hK
          have hB : Below _ _ _ := hL
          have e44 : ac.eval (.tmp 44) = .bool true := hP 0 (by kernel_rfl)
          exact rop_move _ rfl e44 (wanted_none rfl) (hK _ _ (le8_refl _) rfl)
        · intro ac w' hF hL hP hU K hK
          have hB : Below _ _ _ := hL
          have e9 : ac.eval (.tmp 9) = .bool true := hF.at 9 (by kernel_rfl)
          have e45 : ac.eval (.tmp 45) = .bool true := hP 1 (by kernel_rfl)
          exact rop_move _ rfl e9 (wanted_of (j := 1) (b := true) rfl rfl e45) (hK _ _ (le8_refl _) rfl)
        · intro ac w' hF hL hP hU K hK
          have hB : Below _ _ _ := hL
          have e45 : ac.eval (.tmp 45) = .bool true := hP 1 (by kernel_rfl)
          have e46 : ac.eval (.tmp 46) = .bool true := hP 2 (by kernel_rfl)
          exact rop_pick _ _ _ rfl true e45 (by simpa using e46) (wanted_none rfl) (hK _ _ (le8_refl _) rfl)
        · intro ac w' hF hL hP hU K hK
          have hB : Below _ _ _ := hL
          have e47 : ac.eval (.tmp 47) = .bool true := hP 3 (by kernel_rfl)
          exact rop_move _ rfl e47 (wanted_none rfl) (hK _ _ (le8_refl _) rfl)
        · intro ac w' hF hL hP hU K hK
          have hB : Below _ _ _ := hL
          have e4 : ac.eval (.tmp 4) = .pointer (some ⟨fb, 0, none⟩) := hF.at 4 (by kernel_rfl)
          have e48 : ac.eval (.tmp 48) = .bool true := hP 4 (by kernel_rfl)
          exact rop_move _ rfl e4 (wanted_of (j := 4) (b := true) rfl rfl e48) (hK _ _ (le8_refl _) rfl)
        · intro ac w' hF hL hP hU K hK
          have hB : Below _ _ _ := hL
          have e49 : ac.eval (.tmp 49) = .pointer (some ⟨fb, 0, none⟩) := hP 5 (by kernel_rfl)
          have e48 : ac.eval (.tmp 48) = .bool true := hP 4 (by kernel_rfl)
          refine rop_call 15 _ _ rfl #[.pointer (some ⟨fb, 0, none⟩)] (by simp [e49]) (by kernel_rfl) (wanted_of (j := 4) (b := true) rfl rfl e48) ?_
          refine (HSZ.out w' hB).mono ?_
          rintro e w2 ⟨rfl, hb⟩
          exact ⟨_, rfl, hK _ _ hb rfl⟩
        · intro ac w' hF hL hP hU K hK
          have hB : Below _ _ _ := hL
          have e6 : ac.eval (.tmp 6) = .int .i64 (n : Int) := hF.at 6 (by kernel_rfl)
          have e48 : ac.eval (.tmp 48) = .bool true := hP 4 (by kernel_rfl)
          exact rop_move _ rfl e6 (wanted_of (j := 4) (b := true) rfl rfl e48) (hK _ _ (le8_refl _) rfl)
        · intro ac w' hF hL hP hU K hK
          have hB : Below _ _ _ := hL
          have e50 : ac.eval (.tmp 50) = .int .i64 (n : Int) := hP 6 (by kernel_rfl)
          have e51 : ac.eval (.tmp 51) = .int .i64 (n : Int) := hP 7 (by kernel_rfl)
          have e48 : ac.eval (.tmp 48) = .bool true := hP 4 (by kernel_rfl)
          exact rop_bin _ _ _ _ _ rfl e50 e51 (guard_int _ _ _ _ _ _ _ w') (eql_iT _ w') (wanted_of (j := 4) (b := true) rfl rfl e48) (hK _ _ (le8_refl _) rfl)
        · intro ac w' hF hL hP hU K hK
          have hB : Below _ _ _ := hL
          have e48 : ac.eval (.tmp 48) = .bool true := hP 4 (by kernel_rfl)
          have e52 : ac.eval (.tmp 52) = .bool true := hP 8 (by kernel_rfl)
          exact rop_pick _ _ _ rfl true e48 (by simpa using e52) (wanted_none rfl) (hK _ _ (le8_refl _) rfl)
        · intro ac w' hF hL hP hU K hK
          have hB : Below _ _ _ := hL
          have e53 : ac.eval (.tmp 53) = .bool true := hP 9 (by kernel_rfl)
          exact rop_move _ rfl e53 (wanted_none rfl) (hK _ _ (le8_refl _) rfl)
        · intro ac w' hF hL hP hU K hK
          have hB : Below _ _ _ := hL
          have e4 : ac.eval (.tmp 4) = .pointer (some ⟨fb, 0, none⟩) := hF.at 4 (by kernel_rfl)
          have e54 : ac.eval (.tmp 54) = .bool true := hP 10 (by kernel_rfl)
          exact rop_move _ rfl e4 (wanted_of (j := 10) (b := true) rfl rfl e54) (hK _ _ (le8_refl _) rfl)
        · intro ac w' hF hL hP hU K hK
          have hB : Below _ _ _ := hL
          have e55 : ac.eval (.tmp 55) = .pointer (some ⟨fb, 0, none⟩) := hP 11 (by kernel_rfl)
          have e54 : ac.eval (.tmp 54) = .bool true := hP 10 (by kernel_rfl)
          refine rop_call 18 _ _ rfl #[.pointer (some ⟨fb, 0, none⟩)] (by simp [e55]) (by kernel_rfl) (wanted_of (j := 10) (b := true) rfl rfl e54) ?_
          refine (HBY.out w' hB).mono ?_
          rintro e w2 ⟨rfl, hb⟩
          exact ⟨_, rfl, hK _ _ hb rfl⟩
        · intro ac w' hF hL hP hU K hK
          have hB : Below _ _ _ := hL
          have e0 : ac.eval (.tmp 0) = .string S := hF.at 0 (by kernel_rfl)
          have e54 : ac.eval (.tmp 54) = .bool true := hP 10 (by kernel_rfl)
          exact rop_move _ rfl e0 (wanted_of (j := 10) (b := true) rfl rfl e54) (hK _ _ (le8_refl _) rfl)
        · intro ac w' hF hL hP hU K hK
          have hB : Below _ _ _ := hL
          have e56 : ac.eval (.tmp 56) = .string S := hP 12 (by kernel_rfl)
          have e57 : ac.eval (.tmp 57) = .string S := hP 13 (by kernel_rfl)
          have e54 : ac.eval (.tmp 54) = .bool true := hP 10 (by kernel_rfl)
          exact rop_bin _ _ _ _ _ rfl e56 e57 (guard_str _ _ _ _ _ _ w') (eql_str_t _ _ rfl w') (wanted_of (j := 10) (b := true) rfl rfl e54) (hK _ _ (le8_refl _) rfl)
        · intro ac w' hF hL hP hU K hK
          have hB : Below _ _ _ := hL
          have e54 : ac.eval (.tmp 54) = .bool true := hP 10 (by kernel_rfl)
          have e58 : ac.eval (.tmp 58) = .bool true := hP 14 (by kernel_rfl)
          exact rop_pick _ _ _ rfl true e54 (by simpa using e58) (wanted_none rfl) (hK _ _ (le8_refl _) rfl)
        · intro ac w' hF hL hP hU K hK
          have hB : Below _ _ _ := hL
          have e59 : ac.eval (.tmp 59) = .bool true := hP 15 (by kernel_rfl)
          exact rop_move _ rfl e59 (wanted_none rfl) (hK _ _ (le8_refl _) rfl)
        · intro ac w' hF hL hP hU K hK
          have hB : Below _ _ _ := hL
          have e4 : ac.eval (.tmp 4) = .pointer (some ⟨fb, 0, none⟩) := hF.at 4 (by kernel_rfl)
          have e60 : ac.eval (.tmp 60) = .bool true := hP 16 (by kernel_rfl)
          exact rop_move _ rfl e4 (wanted_of (j := 16) (b := true) rfl rfl e60) (hK _ _ (le8_refl _) rfl)
        · intro ac w' hF hL hP hU K hK
          have hB : Below _ _ _ := hL
          have e61 : ac.eval (.tmp 61) = .pointer (some ⟨fb, 0, none⟩) := hP 17 (by kernel_rfl)
          have e60 : ac.eval (.tmp 60) = .bool true := hP 16 (by kernel_rfl)
          refine rop_call 16 _ _ rfl #[.pointer (some ⟨fb, 0, none⟩)] (by simp [e61]) (by kernel_rfl) (wanted_of (j := 16) (b := true) rfl rfl e60) ?_
          refine (HRT.out w' hB).mono ?_
          rintro e w2 ⟨rfl, hb⟩
          exact ⟨_, rfl, hK _ _ hb rfl⟩
        · intro ac w' hF hL hP hU K hK
          have hB : Below _ _ _ := hL
          have e7 : ac.eval (.tmp 7) = .slice a7 k7 c7 := hF.at 7 (by kernel_rfl)
          have e60 : ac.eval (.tmp 60) = .bool true := hP 16 (by kernel_rfl)
          exact rop_move _ rfl e7 (wanted_of (j := 16) (b := true) rfl rfl e60) (hK _ _ (le8_refl _) rfl)
        · intro ac w' hF hL hP hU K hK
          have hB : Below _ _ _ := hL
          have e63 : ac.eval (.tmp 63) = .slice a7 k7 c7 := hP 19 (by kernel_rfl)
          have e60 : ac.eval (.tmp 60) = .bool true := hP 16 (by kernel_rfl)
          refine rop_call 23 _ _ rfl #[.slice a7 k7 c7] (by simp [e63]) (by kernel_rfl) (wanted_of (j := 16) (b := true) rfl rfl e60) ?_
          refine (HRR.out w' hB).mono ?_
          rintro e w2 ⟨rfl, hb⟩
          exact ⟨_, rfl, hK _ _ hb rfl⟩
        · intro ac w' hF hL hP hU K hK
          have hB : Below _ _ _ := hL
          have e62 : ac.eval (.tmp 62) = sumV D := hP 18 (by kernel_rfl)
          have e64 : ac.eval (.tmp 64) = sumV D := hP 20 (by kernel_rfl)
          have e60 : ac.eval (.tmp 60) = .bool true := hP 16 (by kernel_rfl)
          exact rop_bin _ _ _ _ _ rfl e62 e64 (guard_run .eql _ _ _ _ w') (eql_sum_tt D D HDl.out HDl.out rfl w') (wanted_of (j := 16) (b := true) rfl rfl e60) (hK _ _ (le8_refl _) rfl)
        · intro ac w' hF hL hP hU K hK
          have hB : Below _ _ _ := hL
          have e60 : ac.eval (.tmp 60) = .bool true := hP 16 (by kernel_rfl)
          have e65 : ac.eval (.tmp 65) = .bool true := hP 21 (by kernel_rfl)
          exact rop_pick _ _ _ rfl true e60 (by simpa using e65) (wanted_none rfl) (hK _ _ (le8_refl _) rfl)
        · intro ac w' hF hL hP hU K hK
          have hB : Below _ _ _ := hL
          have e66 : ac.eval (.tmp 66) = .bool true := hP 22 (by kernel_rfl)
          exact rop_assign _ rfl e66 (wanted_none rfl) (hK _ _ (le8_refl _) rfl)
        · intro ac w' hF hB hT
          have e2 : ac.eval (.tmp 2) = .bool true := hT 23 (by decide)
          rw [hF.setsG [44, 45, 46, 47, 48, 49, 50, 51, 52, 53, 54, 55, 56, 57, 58, 59, 60, 61, 62, 63, 64, 65, 66, 2] (by kernel_rfl)]
          simp only [List.foldl_cons, List.foldl_nil, List.setIfInBounds_toArray, List.set_cons_succ, List.set_cons_zero, e2]
          generalize ac.eval (.tmp 44) = u44
          generalize ac.eval (.tmp 45) = u45
          generalize ac.eval (.tmp 46) = u46
          generalize ac.eval (.tmp 47) = u47
          generalize ac.eval (.tmp 48) = u48
          generalize ac.eval (.tmp 49) = u49
          generalize ac.eval (.tmp 50) = u50
          generalize ac.eval (.tmp 51) = u51
          generalize ac.eval (.tmp 52) = u52
          generalize ac.eval (.tmp 53) = u53
          generalize ac.eval (.tmp 54) = u54
          generalize ac.eval (.tmp 55) = u55
          generalize ac.eval (.tmp 56) = u56
          generalize ac.eval (.tmp 57) = u57
          generalize ac.eval (.tmp 58) = u58
          generalize ac.eval (.tmp 59) = u59
          generalize ac.eval (.tmp 60) = u60
          generalize ac.eval (.tmp 61) = u61
          generalize ac.eval (.tmp 62) = u62
          generalize ac.eval (.tmp 63) = u63
          generalize ac.eval (.tmp 64) = u64
          generalize ac.eval (.tmp 65) = u65
          generalize ac.eval (.tmp 66) = u66
          clear e2 hT hF ac
          go_wp2
          go_ret
          exact ⟨rfl, below_step B7.out (Nat.le_refl _) hB⟩)
  · have HRF : Hid (∀ u : World, Calls Tryd.prog 21 #[.string S] u fun e w' => e = .returned (.tuple #[.pointer none, .int .i64 10]) ∧ Below u.heap.size u w') := Lib.hid fun u => (fread_any S u (by omega)).mono fun e w' ⟨hb, h⟩ => by
      rcases h with ⟨hyes, -⟩ | ⟨-, he⟩
      · exact absurd hyes hok
      · exact ⟨he, hb⟩
    have HRD : Hid (∀ u : World, Calls Tryd.prog 22 #[.string S] u fun e w' => e = .returned (.tuple #[.int .i64 0, .slice none 0 0, .int .i64 10]) ∧ Below u.heap.size u w') := Lib.hid fun u => (rread11_any S u (by omega)).mono fun e w' ⟨hb, h⟩ => by
      rcases h with ⟨hyes, -⟩ | ⟨-, he⟩
      · exact absurd hyes hok
      · exact ⟨he, hb⟩
    clear hok hsz
    go_enter Tryd.func4, Tryd.ntmps4
    rcases hcase with ⟨hc, hx⟩ | ⟨hc, hx⟩
    all_goals (
      first
      | (subst hx; have hc' : ¬ 600 < (S.size : Int) := by omega)
      | (have hc' : 600 < (s0.size : Int) := by omega
         have hc9 : 600 ≤ s0.size := by omega
         skip)
      clear hc
      go_upto_region 4 with (go_at_call 9; ((with_reducible refine HAW.out.mono ?_); rintro e w1 ⟨rfl, b1⟩))
      try rw [hx]
      go_upto_region 6 with (first
        | (go_at_call 21; ((with_reducible refine (HRF.out _).mono ?_); rintro e w2 ⟨rfl, b2⟩))
        | (go_at_call 22; ((with_reducible refine (HRD.out _).mono ?_); rintro e w3 ⟨rfl, b3⟩)))
      have B3 := Lib.hid (below_step (below_step b1 (Nat.le_refl _) b2) (Nat.le_refl _) b3)
      clear b1 b2 b3
      try simp only [Act.put]
      refine wp_region_tab0 [RT.is (.int .i64 10), RT.is (.int .i64 10), RT.is (.bool false), RT.is (.bool false), RT.is (.pointer none), RT.is (.bool false), RT.is (.int .i64 10), RT.is (.bool false), RT.is (.bool false), RT.is (.bool false)] (by kernel_rfl) (by kernel_rfl) (by kernel_rfl) ⟨?_, ?_, ?_, ?_, ?_, ?_, ?_, ?_, ?_, ?_, trivial⟩ ?_
      · intro ac w' hF hL hP hU K hK
        have hB : Below _ _ _ := hL
        have e5 : ac.eval (.tmp 5) = .int .i64 10 := hF.at 5 (by kernel_rfl)
        exact rop_move _ rfl e5 (wanted_none rfl) (hK _ _ (le8_refl _) rfl)
      · intro ac w' hF hL hP hU K hK
        have hB : Below _ _ _ := hL
        have e8 : ac.eval (.tmp 8) = .int .i64 10 := hF.at 8 (by kernel_rfl)
        exact rop_move _ rfl e8 (wanted_none rfl) (hK _ _ (le8_refl _) rfl)
      · intro ac w' hF hL hP hU K hK
        have hB : Below _ _ _ := hL
        have e27 : ac.eval (.tmp 27) = .int .i64 10 := hP 0 (by kernel_rfl)
        have e28 : ac.eval (.tmp 28) = .int .i64 10 := hP 1 (by kernel_rfl)
        exact rop_bin _ _ _ _ _ rfl e27 e28 (guard_int _ _ _ _ _ _ _ w') (neq_errT _ w') (wanted_none rfl) (hK _ _ (le8_refl _) rfl)
      · intro ac w' hF hL hP hU K hK
        have hB : Below _ _ _ := hL
        have e29 : ac.eval (.tmp 29) = .bool false := hP 2 (by kernel_rfl)
        exact rop_move _ rfl e29 (wanted_none rfl) (hK _ _ (le8_refl _) rfl)
      · intro ac w' hF hL hP hU K hK
        have hB : Below _ _ _ := hL
        have e4 : ac.eval (.tmp 4) = .pointer none := hF.at 4 (by kernel_rfl)
        have e30 : ac.eval (.tmp 30) = .bool false := hP 3 (by kernel_rfl)
        exact rop_move _ rfl e4 (wanted_of (j := 3) (b := false) rfl rfl e30) (hK _ _ (le8_refl _) rfl)
      · intro ac w' hF hL hP hU K hK
        have hB : Below _ _ _ := hL
        have e31 : ac.eval (.tmp 31) = .pointer none := hP 4 (by kernel_rfl)
        have e30 : ac.eval (.tmp 30) = .bool false := hP 3 (by kernel_rfl)
        exact rop_bin _ _ _ _ _ rfl e31 rfl (guard_ptr _ _ _ _ _ _ w') (neq_none_none w') (wanted_of (j := 3) (b := false) rfl rfl e30) (hK _ _ (le8_refl _) rfl)
      · intro ac w' hF hL hP hU K hK
        have hB : Below _ _ _ := hL
        have e5 : ac.eval (.tmp 5) = .int .i64 10 := hF.at 5 (by kernel_rfl)
        have e30 : ac.eval (.tmp 30) = .bool false := hP 3 (by kernel_rfl)
        exact rop_move _ rfl e5 (wanted_of (j := 3) (b := false) rfl rfl e30) (hK _ _ (le8_refl _) rfl)
      · intro ac w' hF hL hP hU K hK
        have hB : Below _ _ _ := hL
        have e33 : ac.eval (.tmp 33) = .int .i64 10 := hP 6 (by kernel_rfl)
        have e30 : ac.eval (.tmp 30) = .bool false := hP 3 (by kernel_rfl)
        exact rop_bin _ _ _ _ _ rfl e33 rfl (guard_int _ _ _ _ _ _ _ w') (eql_errF _ _ (by decide) w') (wanted_of (j := 3) (b := false) rfl rfl e30) (hK _ _ (le8_refl _) rfl)
      · intro ac w' hF hL hP hU K hK
        have hB : Below _ _ _ := hL
        have e32 : ac.eval (.tmp 32) = .bool false := hP 5 (by kernel_rfl)
        have e34 : ac.eval (.tmp 34) = .bool false := hP 7 (by kernel_rfl)
        have e30 : ac.eval (.tmp 30) = .bool false := hP 3 (by kernel_rfl)
        exact rop_bin _ _ _ _ _ rfl e32 e34 (guard_bool _ _ _ _ _ _ w') (neq_bool_same _ w') (wanted_of (j := 3) (b := false) rfl rfl e30) (hK _ _ (le8_refl _) rfl)
      · intro ac w' hF hL hP hU K hK
        have hB : Below _ _ _ := hL
        have e30 : ac.eval (.tmp 30) = .bool false := hP 3 (by kernel_rfl)
        have e35 : ac.eval (.tmp 35) = .bool false := hP 8 (by kernel_rfl)
        exact rop_pick _ _ _ rfl false e30 (by simpa using e35) (wanted_none rfl) (hK _ _ (le8_refl _) rfl)
      · intro ac w' hF hB hT
        have e36 : ac.eval (.tmp 36) = .bool false := hT 9 (by decide)
        rw [hF.setsG [27, 28, 29, 30, 31, 32, 33, 34, 35, 36] (by kernel_rfl)]
        simp only [List.foldl_cons, List.foldl_nil, List.setIfInBounds_toArray, List.set_cons_succ, List.set_cons_zero, e36]
        generalize ac.eval (.tmp 27) = u27
        generalize ac.eval (.tmp 28) = u28
        generalize ac.eval (.tmp 29) = u29
        generalize ac.eval (.tmp 30) = u30
        generalize ac.eval (.tmp 31) = u31
        generalize ac.eval (.tmp 32) = u32
        generalize ac.eval (.tmp 33) = u33
        generalize ac.eval (.tmp 34) = u34
        generalize ac.eval (.tmp 35) = u35
        clear e36 hT hF ac
        go_wp2
        go_ret
        exact ⟨rfl, below_step B3.out (Nat.le_refl _) hB⟩)
set_option maxRecDepth 100000 in
theorem lifted (os : Os) (started : os.Started) (H : Type) (enc : TypeId × Value → H) :
    ReturnsInHanded {} Tryd.checked os 4 .any (fun w args => (Rows.frontReadsSpec.pre enc Tryd.prog Tryd.f4 [] false w args ∧ laidMetH Tryd.prog [("scrinium/sha.k", Rows.laid_scrinium_sha_k)] w) ∧ sizedMet enc Tryd.prog Tryd.f4 (OpenSpec.ofChange Rows.frontReadsSpec) false w args)
      (Rows.frontReadsSpec.post enc Tryd.prog Tryd.f4 false true false false) := by
  refine returnsInHanded_of_change_and (C := Tryd.checked) (X := fun w _ => laidMetH Tryd.prog [("scrinium/sha.k", Rows.laid_scrinium_sha_k)] w) (fun _ _ _ hh h => h.of_heap hh) lawOwn started (by kernel_rfl) Tryd.func4
    (ChangeSpec.witness_shaped (enc := enc) (C := Tryd.checked) (os := os) (X := fun w _ => laidMetH Tryd.prog [("scrinium/sha.k", Rows.laid_scrinium_sha_k)] w) false (World.doorLaid Tryd.prog 400 os) #[.string .empty] 8 rfl (World.shaped_of_RefB (by kernel_rfl) (by kernel_rfl)) (by kernel_rfl) (by kernel_rfl) (by kernel_rfl) (door_met os _)) ?_
  intro W base args ds gs before hval0 hW _ _ hL _
  have hval : ∀ (j : Nat) t v, Tryd.f4.params[j]? = some t → args[j]? = some v → Value.okWide Tryd.prog W .any base t v := hval0
  have hW' := hW
  obtain ⟨p, q, hA0, hV, rfl, hfz, hnd⟩ := hW
  have hA : DataW.TrodAll enc Tryd.prog W 0 (fun _ => true) true Tryd.f4.params.toList args.toList ds p := hA0
  rw [Tryd.params4] at hA hval
  obtain ⟨v0, vs0, d0, ds0, p0, q0, hargs, rfl, rfl, h0, r0⟩ := trodAll_cons hA
  obtain ⟨rfl, rfl, rfl⟩ := trodAll_nil r0
  obtain rfl : args = #[v0] := by cases args; simp_all
  obtain ⟨rfl, rfl⟩ := trodVars_none hV
  have hKT := KT_of_laid hL
  obtain ⟨s0, rfl, rfl, rfl, w0⟩ := Go.ChangeMaps.open_string Tryd.underlying9 (hval 0 9 v0 rfl rfl) h0
  clear hA0 hval0
  refine (walk (w := W) hKT s0 w0).mono fun e W' ⟨he, bel⟩ => ?_
  subst he
  exact ⟨_, rfl, law_post rfl rfl (by kernel_rfl) hW' rfl bel⟩

theorem row_holds : Rows.FrontReadsSaid :=
  OpenClaim.holds_of_wide 4 Tryd.f4 rfl rfl rfl rfl rfl rfl rfl ⟨rfl, rfl, rfl, rfl, rfl⟩ rfl rfl rfl rfl rfl (by kernel_rfl) Tryd.func4 (by kernel_rfl)
    (of_decide_eq_true (by kernel_rfl)) (by unfold Func.isWrapper; first | (rw [if_pos (by decide +kernel)]; kernel_rfl) | (rw [if_neg (by decide +kernel)]; exact ⟨rfl, rfl⟩))
    (fun os started H enc _ => lifted os started H enc)

theorem holds : Rows.FrontReadsCardSaid :=
  Claim7.holds_tied_plain_at .later [] [.data] true Rows.frontReadsCard.stood.harness false
    row_holds (fun _ h => by cases h) (by kernel_rfl) (fun _ h => by cases h) frontReads_row_tie rfl ⟨rfl, rfl⟩ (by kernel_rfl) rfl
    (fun f fn hf hfn => by
      obtain rfl : f = 4 := Option.some.inj ((show Tryd.prog.funcNamed "scrinium/scriniumlaw11.FrontReads" = some 4 by kernel_rfl).symm.trans hf) |>.symm
      obtain rfl : fn = Tryd.f4 := (Option.some.inj (Tryd.func4.symm.trans hfn)).symm
      exact ⟨by kernel_rfl, fun j t ht => by
        rw [Tryd.params4] at ht
        have hm : t ∈ [9] := by simpa using Array.mem_of_getElem? ht
        have hall : ([9].all fun u => !Tryd.prog.wantsStandIn u) = true := by kernel_rfl
        exact (show Tryd.prog.wantsStandIn t = false by simpa using List.all_eq_true.1 hall t hm)⟩)
    (by kernel_rfl)
end Go.Proofs.YtgiakpnkidblpaaDoor.frontReads

theorem Go.Proofs.YtgiakpnkidblpaaDoor.frontReads_holds : Go.Proofs.YtgiakpnkidblpaaDoor.Rows.FrontReadsCardSaid := Go.Proofs.YtgiakpnkidblpaaDoor.frontReads.holds
#print axioms Go.Proofs.YtgiakpnkidblpaaDoor.frontReads_holds
