/-
  PathBits: of as many leaves as a power of two (to 2^30) a path has as many hashes as the power says, and those on the left are told by the bits of the place. For any power and place; the numbers K of the package sha are as the program's own start lays them.
-/
import Derived.Test.YtagocdcclghdaaaDoorPathLaw
namespace Go.Proofs.YtagocdcclghdaaaDoor.pathBits
open Go.ChangeShapes Go.WideShapes Go.ChangeAt Go.RowKit

theorem bit_bounds (n m k : Nat) (hn : n ≤ 1073741824) (hm : m < n) (hk : k < 31) : IntKind.i64.wrap (k : Int) = (k : Int) ∧ IntKind.i64.wrap ((n : Int) - 1) = (n : Int) - 1 ∧ IntKind.i64.wrap (m : Int) = (m : Int) :=
  ⟨IntWalk.i64_in _ (by omega), IntWalk.i64_in _ (by omega), IntWalk.i64_in _ (by omega)⟩
set_option maxHeartbeats 4000000 in
set_option maxRecDepth 100000 in
theorem walk {w : World} (hK : KT w) (p : Int) (_ : -9223372036854775808 ≤ p) (_ : p ≤ 9223372036854775807) (a : Int) (_ : -9223372036854775808 ≤ a) (_ : a ≤ 9223372036854775807) :
    Calls Tryd.prog 8 #[.int .i64 p, .int .i64 a] w fun e w' => e = .returned (.bool true) ∧ Below w.heap.size w w' := by
  have HAW := Lib.hid (awake10_any w hK)
  obtain ⟨z, hz, k, hk, hzk⟩ := place_of p 31 (by decide)
  have hz' : p.tmod 31 = z := hz
  obtain ⟨n, hn⟩ : ∃ n : Nat, n = 2 ^ k := ⟨_, rfl⟩
  have hn30 : n ≤ 1073741824 := by rw [hn]; exact Nat.le_trans (Nat.pow_le_pow_right (by decide) (show k ≤ 30 by omega)) (by decide)
  have hn0 : 0 < n := by rw [hn]; exact Nat.two_pow_pos k
  obtain ⟨m, hm⟩ : ∃ m : Nat, a % (n : Int) = (m : Int) := ⟨(a % (n : Int)).toNat, by have := Int.emod_nonneg a (show (n : Int) ≠ 0 by omega); omega⟩
  have hmn : m < n := by have := Int.emod_lt_of_pos a (show (0 : Int) < (n : Int) by omega); omega
  have hand : bits .and .i64 a ((n : Int) - 1) = (m : Int) := by
    rw [show (n : Int) - 1 = ((n - 1 : Nat) : Int) by omega, and_maskL a k ((n - 1 : Nat) : Int) (by omega) (by rw [BitVec.ofInt_natCast, BitVec.toNat_ofNat, Nat.mod_eq_of_lt (by omega), hn]), ← hn, hm]
  obtain ⟨T, hT⟩ : ∃ T, T = Tree.turns m n := ⟨_, rfl⟩
  have hTp : T = (List.range k).map fun i => decide (m / 2 ^ i % 2 = 1) := by rw [hT, hn]; exact Tree.turns_pow k m (by rw [← hn]; exact hmn)
  have hTl : T.length = k := by rw [hTp]; simp
  have okp : okP (m : Int) (n : Int) = true := by simp [okP]; omega
  have HTU : Hid (∀ u, Calls Tryd.prog 16 #[.int .i64 (m : Int), .int .i64 (n : Int)] u fun e w' => ∃ b c, e = .returned (.slice b k c) ∧ Bools w' (.slice b k c) T ∧ Below u.heap.size u w') := Lib.hid fun u => by
    have := turns_any (m : Int) (n : Int) u (by omega) (by omega)
    have e2 : turnsZ (m : Int) (n : Int) = T := by unfold turnsZ; rw [if_pos okp, hT]; rfl
    rw [e2] at this
    refine this.mono fun e w' ⟨v', he, ho, hb⟩ => ?_
    obtain ⟨b, c, rfl, -, -⟩ := ho.bools.slice
    have hs := ho.bools
    rw [hTl] at he hs
    exact ⟨b, c, he, hs, hb⟩
  have HLG : Hid (∀ u, Calls Tryd.prog 18 #[.int .i64 (m : Int), .int .i64 (n : Int)] u fun e w' => e = .returned (.int .i64 (k : Int)) ∧ Below u.heap.size u w') := Lib.hid fun u => by
    have := long_any (m : Int) (n : Int) u (by omega) (by omega)
    rw [okp] at this
    have e3 : Tree.long m n = k := by rw [← hTl, hT]; rfl
    refine this.mono fun e w' ⟨he, hw⟩ => ⟨by rw [he, ← e3]; rfl, hw ▸ Below.refl _ _⟩
  have HTp := Lib.hid hTp
  have hsh := shl_one k (by omega) n hn
  obtain ⟨hw1, hw2, hw3⟩ := bit_bounds n m k hn30 hmn hk
  have hk64 : (k : Int) < 64 := by omega
  clear hT hTp hTl okp hn hm hz hK
  go_enter Tryd.func8, Tryd.ntmps8
  rcases hzk with ⟨hq0, rfl⟩ | ⟨hq0, rfl⟩ <;>
  (go_upto_region 8 with (first
    | (go_at_call 9; ((with_reducible refine HAW.out.mono ?_); rintro e w1 ⟨rfl, b1⟩))
    | (go_at_call 16; ((with_reducible refine (HTU.out _).mono ?_); rintro e w2 ⟨aT, ct, rfl, hsa, b2⟩; have HSA := Lib.hid hsa; clear hsa)))
   try simp only [Act.put]
   refine wp_region_tab0 [RT.is (.slice aT k ct), RT.is (.int .i64 (k : Int)), RT.is (.int .i64 (k : Int)), RT.is (.bool false), RT.is (.bool false), RT.is (.int .i64 (m : Int)), RT.is (.int .i64 (n : Int)), RT.is (.int .i64 (k : Int)), RT.is (.int .i64 (k : Int)), RT.is (.bool false), RT.is (.bool false)] (by kernel_rfl) (by kernel_rfl) (by kernel_rfl) ⟨?_, ?_, ?_, ?_, ?_, ?_, ?_, ?_, ?_, ?_, ?_, trivial⟩ ?_
   · intro ac w' hF hL hP hU K hK
     have hB : Below _ _ _ := hL
     have e9 : ac.eval (.tmp 9) = .slice aT k ct := hF.at 9 (by kernel_rfl)
     exact rop_move _ rfl e9 (wanted_none rfl) (hK _ _ (le8_refl _) rfl)
   · intro ac w' hF hL hP hU K hK
     have hB : Below _ _ _ := hL
     have e28 : ac.eval (.tmp 28) = .slice aT k ct := hP 0 (by kernel_rfl)
     exact rop_lenG _ Tryd.underlying29 rfl e28 (wanted_none rfl) (hK _ _ (le8_refl _) rfl)
   · intro ac w' hF hL hP hU K hK
     have hB : Below _ _ _ := hL
     have e6 : ac.eval (.tmp 6) = .int .i64 (k : Int) := hF.at 6 (by kernel_rfl)
     exact rop_move _ rfl e6 (wanted_none rfl) (hK _ _ (le8_refl _) rfl)
   · intro ac w' hF hL hP hU K hK
     have hB : Below _ _ _ := hL
     have e29 : ac.eval (.tmp 29) = .int .i64 (k : Int) := hP 1 (by kernel_rfl)
     have e30 : ac.eval (.tmp 30) = .int .i64 (k : Int) := hP 2 (by kernel_rfl)
     exact rop_bin _ _ _ _ _ rfl e29 e30 (guard_int _ _ _ _ _ _ _ w') (neq_iG _ _ _ (by simp) w') (wanted_none rfl) (hK _ _ (le8_refl _) rfl)
   · intro ac w' hF hL hP hU K hK
     have hB : Below _ _ _ := hL
     have e31 : ac.eval (.tmp 31) = .bool false := hP 3 (by kernel_rfl)
     exact rop_move _ rfl e31 (wanted_none rfl) (hK _ _ (le8_refl _) rfl)
   · intro ac w' hF hL hP hU K hK
     have hB : Below _ _ _ := hL
     have e8 : ac.eval (.tmp 8) = .int .i64 (m : Int) := hF.at 8 (by kernel_rfl)
     have e32 : ac.eval (.tmp 32) = .bool false := hP 4 (by kernel_rfl)
     exact rop_move _ rfl e8 (wanted_of (j := 4) (b := false) rfl rfl e32) (hK _ _ (le8_refl _) rfl)
   · intro ac w' hF hL hP hU K hK
     have hB : Below _ _ _ := hL
     have e7 : ac.eval (.tmp 7) = .int .i64 (n : Int) := hF.at 7 (by kernel_rfl)
     have e32 : ac.eval (.tmp 32) = .bool false := hP 4 (by kernel_rfl)
     exact rop_move _ rfl e7 (wanted_of (j := 4) (b := false) rfl rfl e32) (hK _ _ (le8_refl _) rfl)
   · intro ac w' hF hL hP hU K hK
     have hB : Below _ _ _ := hL
     have e33 : ac.eval (.tmp 33) = .int .i64 (m : Int) := hP 5 (by kernel_rfl)
     have e34 : ac.eval (.tmp 34) = .int .i64 (n : Int) := hP 6 (by kernel_rfl)
     have e32 : ac.eval (.tmp 32) = .bool false := hP 4 (by kernel_rfl)
     refine rop_call 18 _ _ rfl #[.int .i64 (m : Int), .int .i64 (n : Int)] (by simp [e33, e34]) (by kernel_rfl) (wanted_of (j := 4) (b := false) rfl rfl e32) ?_
     refine (HLG.out w').mono ?_
     rintro e w2 ⟨rfl, hb⟩
     exact ⟨_, rfl, hK _ _ hb rfl⟩
   · intro ac w' hF hL hP hU K hK
     have hB : Below _ _ _ := hL
     have e6 : ac.eval (.tmp 6) = .int .i64 (k : Int) := hF.at 6 (by kernel_rfl)
     have e32 : ac.eval (.tmp 32) = .bool false := hP 4 (by kernel_rfl)
     exact rop_move _ rfl e6 (wanted_of (j := 4) (b := false) rfl rfl e32) (hK _ _ (le8_refl _) rfl)
   · intro ac w' hF hL hP hU K hK
     have hB : Below _ _ _ := hL
     have e35 : ac.eval (.tmp 35) = .int .i64 (k : Int) := hP 7 (by kernel_rfl)
     have e36 : ac.eval (.tmp 36) = .int .i64 (k : Int) := hP 8 (by kernel_rfl)
     have e32 : ac.eval (.tmp 32) = .bool false := hP 4 (by kernel_rfl)
     exact rop_bin _ _ _ _ _ rfl e35 e36 (guard_int _ _ _ _ _ _ _ w') (neq_iG _ _ _ (by simp) w') (wanted_of (j := 4) (b := false) rfl rfl e32) (hK _ _ (le8_refl _) rfl)
   · intro ac w' hF hL hP hU K hK
     have hB : Below _ _ _ := hL
     have e32 : ac.eval (.tmp 32) = .bool false := hP 4 (by kernel_rfl)
     have e37 : ac.eval (.tmp 37) = .bool false := hP 9 (by kernel_rfl)
     exact rop_pick _ _ _ rfl false e32 (by simpa using e37) (wanted_none rfl) (hK _ _ (le8_refl _) rfl)
   · intro ac w' hF hB hT
     have e38 : ac.eval (.tmp 38) = .bool false := hT 10 (by decide)
     rw [hF.setsG [28, 29, 30, 31, 32, 33, 34, 35, 36, 37, 38] (by kernel_rfl)]
     simp only [List.foldl_cons, List.foldl_nil, List.setIfInBounds_toArray, List.set_cons_succ, List.set_cons_zero, e38]
     generalize ac.eval (.tmp 28) = u28
     generalize ac.eval (.tmp 29) = u29
     generalize ac.eval (.tmp 30) = u30
     generalize ac.eval (.tmp 31) = u31
     generalize ac.eval (.tmp 32) = u32
     generalize ac.eval (.tmp 33) = u33
     generalize ac.eval (.tmp 34) = u34
     generalize ac.eval (.tmp 35) = u35
     generalize ac.eval (.tmp 36) = u36
     generalize ac.eval (.tmp 37) = u37
     clear e38 hT hF ac
     obtain ⟨W, hW⟩ : ∃ W, W = w' := ⟨_, rfl⟩
     subst hW
     have bz := below_step (below_step b1 (Nat.le_refl _) b2) (Nat.le_refl _) hB
     have b2W := hB
     clear hB
     go_wp2
     go_loopw [10] (fun s10 wr => Below W.heap.size W wr ∧ ∃ i : Nat, s10 = .int .i64 (i : Int) ∧ i ≤ k) (fun s10 _ => k - (intOf s10).toNat)
     case atStart => exact ⟨Below.refl _ _, 0, rfl, by omega⟩
     case round =>
      obtain ⟨hWr, i, rfl, hi⟩ := hrel
      by_cases hik : i < k
      · have hik' : (i : Int) < (k : Int) := by omega
        have htb : T[i]? = some (decide (m / 2 ^ i % 2 = 1)) := by rw [HTp.out]; simp [hik]
        obtain ⟨pa, oa, rfl, hpa, -, hca⟩ := ((HSA.out.old b2W).old hWr).at htb
        clear htb
        go_upto_region 13 with (fail)
        try simp only [Act.put]
        refine wp_region_tab0 [RT.is (.slice (some ⟨pa, oa, none⟩) k ct), RT.is (.int .i64 (i : Int)), RT.is (.pointer (some ⟨pa, oa + i, none⟩)), RT.is (.bool (decide (m / 2 ^ i % 2 = 1))), RT.is (.int .i64 (m : Int)), RT.is (.int .i64 (i : Int)), RT.is (.int .u64 (i : Int)), RT.is (.int .i64 ((m / 2 ^ i : Nat) : Int)), RT.is (.int .i64 ((m / 2 ^ i % 2 : Nat) : Int)), RT.is (.bool (decide (m / 2 ^ i % 2 = 1))), RT.is (.bool false)] (by kernel_rfl) (by kernel_rfl) (by kernel_rfl) ⟨?_, ?_, ?_, ?_, ?_, ?_, ?_, ?_, ?_, ?_, ?_, trivial⟩ ?_
        · intro ac w' hF hL hP hU K hK
          have hB : Below _ _ _ := hL
          have e9 : ac.eval (.tmp 9) = .slice (some ⟨pa, oa, none⟩) k ct := hF.at 9 (by kernel_rfl)
          exact rop_move _ rfl e9 (wanted_none rfl) (hK _ _ (le8_refl _) rfl)
        · intro ac w' hF hL hP hU K hK
          have hB : Below _ _ _ := hL
          have e10 : ac.eval (.tmp 10) = .int .i64 (i : Int) := hF.at 10 (by kernel_rfl)
          exact rop_move _ rfl e10 (wanted_none rfl) (hK _ _ (le8_refl _) rfl)
        · intro ac w' hF hL hP hU K hK
          have hB : Below _ _ _ := hL
          have e44 : ac.eval (.tmp 44) = .slice (some ⟨pa, oa, none⟩) k ct := hP 0 (by kernel_rfl)
          have e45 : ac.eval (.tmp 45) = .int .i64 (i : Int) := hP 1 (by kernel_rfl)
          exact rop_idx _ _ _ rfl e44 e45 (index_bools pa oa k ct i _ rfl hik w') (wanted_none rfl) (hK _ _ (le8_refl _) rfl)
        · intro ac w' hF hL hP hU K hK
          have hB : Below _ _ _ := hL
          have e46 : ac.eval (.tmp 46) = .pointer (some ⟨pa, oa + i, none⟩) := hP 2 (by kernel_rfl)
          exact rop_ld _ _ rfl e46 (load_boolP ((hB.cell (p := ⟨pa, oa + i, none⟩) hpa).trans hca)) (wanted_none rfl) (hK _ _ (le8_refl _) rfl)
        · intro ac w' hF hL hP hU K hK
          have hB : Below _ _ _ := hL
          have e8 : ac.eval (.tmp 8) = .int .i64 (m : Int) := hF.at 8 (by kernel_rfl)
          exact rop_move _ rfl e8 (wanted_none rfl) (hK _ _ (le8_refl _) rfl)
        · intro ac w' hF hL hP hU K hK
          have hB : Below _ _ _ := hL
          have e10 : ac.eval (.tmp 10) = .int .i64 (i : Int) := hF.at 10 (by kernel_rfl)
          exact rop_move _ rfl e10 (wanted_none rfl) (hK _ _ (le8_refl _) rfl)
        · intro ac w' hF hL hP hU K hK
          have hB : Below _ _ _ := hL
          have e49 : ac.eval (.tmp 49) = .int .i64 (i : Int) := hP 5 (by kernel_rfl)
          exact rop_convP _ _ _ rfl e49 (conv_u64 i (by omega) w') (wanted_none rfl) (hK _ _ (le8_refl _) rfl)
        · intro ac w' hF hL hP hU K hK
          have hB : Below _ _ _ := hL
          have e48 : ac.eval (.tmp 48) = .int .i64 (m : Int) := hP 4 (by kernel_rfl)
          have e50 : ac.eval (.tmp 50) = .int .u64 (i : Int) := hP 6 (by kernel_rfl)
          exact rop_bin _ _ _ _ _ rfl e48 e50 (guard_shr _ _ _ _ _ _ w') (shr_nat m i (by omega) (by omega) w') (wanted_none rfl) (hK _ _ (le8_refl _) rfl)
        · intro ac w' hF hL hP hU K hK
          have hB : Below _ _ _ := hL
          have e51 : ac.eval (.tmp 51) = .int .i64 ((m / 2 ^ i : Nat) : Int) := hP 7 (by kernel_rfl)
          exact rop_bin _ _ _ _ _ rfl e51 rfl (guard_int _ _ _ _ _ _ _ w') (and_one _ w') (wanted_none rfl) (hK _ _ (le8_refl _) rfl)
        · intro ac w' hF hL hP hU K hK
          have hB : Below _ _ _ := hL
          have e52 : ac.eval (.tmp 52) = .int .i64 ((m / 2 ^ i % 2 : Nat) : Int) := hP 8 (by kernel_rfl)
          exact rop_bin _ _ _ _ _ rfl e52 rfl (guard_int _ _ _ _ _ _ _ w') (eql_one _ w') (wanted_none rfl) (hK _ _ (le8_refl _) rfl)
        · intro ac w' hF hL hP hU K hK
          have hB : Below _ _ _ := hL
          have e47 : ac.eval (.tmp 47) = .bool (decide (m / 2 ^ i % 2 = 1)) := hP 3 (by kernel_rfl)
          have e53 : ac.eval (.tmp 53) = .bool (decide (m / 2 ^ i % 2 = 1)) := hP 9 (by kernel_rfl)
          exact rop_bin _ _ _ _ _ rfl e47 e53 (guard_bool _ _ _ _ _ _ w') (neq_bool_same _ w') (wanted_none rfl) (hK _ _ (le8_refl _) rfl)
        · intro ac w' hF hB hT
          have e54 : ac.eval (.tmp 54) = .bool false := hT 10 (by decide)
          rw [hF.setsG [44, 45, 46, 47, 48, 49, 50, 51, 52, 53, 54] (by kernel_rfl)]
          simp only [List.foldl_cons, List.foldl_nil, List.setIfInBounds_toArray, List.set_cons_succ, List.set_cons_zero, e54]
          generalize ac.eval (.tmp 44) = u44
          generalize ac.eval (.tmp 45) = u45
          generalize ac.eval (.tmp 46) = u46
          generalize ac.eval (.tmp 47) = u47
          generalize ac.eval (.tmp 48) = u48
          generalize ac.eval (.tmp 49) = u49
          generalize ac.eval (.tmp 50) = u50
          generalize ac.eval (.tmp 51) = u51
          generalize ac.eval (.tmp 52) = u52
          generalize ac.eval (.tmp 53) = u53
          clear e54 hT hF ac
          have hWn := below_step hWr (Nat.le_refl _) hB
          clear hB hca hpa
          go_wp2
          exact ⟨⟨hWn, i + 1, by simp, by omega⟩, by simp [intOf]; omega⟩
      · have hik' : ¬ (i : Int) < (k : Int) := by omega
        go_wp2
        go_ret
        exact ⟨rfl, below_step bz (Nat.le_refl _) hWr⟩)

set_option maxRecDepth 100000 in
theorem lifted (os : Os) (started : os.Started) (H : Type) (enc : TypeId × Value → H) :
    ReturnsInHanded {} Tryd.checked os 8 .any (fun w args => (Rows.pathBitsSpec.pre enc Tryd.prog Tryd.f8 [] false w args ∧ laidMetH Tryd.prog [("scrinium/sha.k", Rows.laid_scrinium_sha_k)] w) ∧ sizedMet enc Tryd.prog Tryd.f8 (OpenSpec.ofChange Rows.pathBitsSpec) false w args)
      (Rows.pathBitsSpec.post enc Tryd.prog Tryd.f8 false true false false) := by
  refine returnsInHanded_of_change_and (C := Tryd.checked) (X := fun w _ => laidMetH Tryd.prog [("scrinium/sha.k", Rows.laid_scrinium_sha_k)] w) (fun _ _ _ hh h => h.of_heap hh) lawOwn started (by kernel_rfl) Tryd.func8
    (ChangeSpec.witness_shaped (enc := enc) (C := Tryd.checked) (os := os) (X := fun w _ => laidMetH Tryd.prog [("scrinium/sha.k", Rows.laid_scrinium_sha_k)] w) false (World.doorLaid Tryd.prog 400 os) #[.int .i64 0, .int .i64 0] 8 rfl (World.shaped_of_RefB (by kernel_rfl) (by kernel_rfl)) (by kernel_rfl) (by kernel_rfl) (by kernel_rfl) (door_met os _)) ?_
  intro W base args ds gs before hval0 hW _ _ hL _
  have hval : ∀ (j : Nat) t v, Tryd.f8.params[j]? = some t → args[j]? = some v → Value.okWide Tryd.prog W .any base t v := hval0
  have hW' := hW
  obtain ⟨p, q, hA0, hV, rfl, hfz, hnd⟩ := hW
  have hA : DataW.TrodAll enc Tryd.prog W 0 (fun _ => true) true Tryd.f8.params.toList args.toList ds p := hA0
  rw [Tryd.params8] at hA hval
  obtain ⟨v0, vs0, d0, ds0, p0, q0, hargs, rfl, rfl, h0, r0⟩ := trodAll_cons hA
  obtain ⟨v1, vs1, d1, ds1, p1, q1, rfl, rfl, rfl, h1, r1⟩ := trodAll_cons r0
  obtain ⟨rfl, rfl, rfl⟩ := trodAll_nil r1
  obtain rfl : args = #[v0, v1] := by cases args; simp_all
  obtain ⟨rfl, rfl⟩ := trodVars_none hV
  have hKT := KT_of_laid hL
  obtain ⟨a0, rfl, rfl, rfl, w0⟩ := open_int Tryd.underlying3 (hval 0 3 v0 rfl rfl) h0
  obtain ⟨a1, rfl, rfl, rfl, w1⟩ := open_int Tryd.underlying3 (hval 1 3 v1 rfl rfl) h1
  clear hA0 hval0
  obtain ⟨l0, m0⟩ := i64_bounds w0
  obtain ⟨l1, m1⟩ := i64_bounds w1
  refine (walk (w := W) hKT a0 l0 m0 a1 l1 m1).mono fun e W' ⟨he, bel⟩ => ?_
  subst he
  exact ⟨_, rfl, law_post rfl rfl (by kernel_rfl) hW' rfl bel⟩

theorem row_holds : Rows.PathBitsSaid :=
  OpenClaim.holds_of_wide 8 Tryd.f8 rfl rfl rfl rfl rfl rfl rfl ⟨rfl, rfl, rfl, rfl, rfl⟩ rfl rfl rfl rfl rfl (by kernel_rfl) Tryd.func8 (by kernel_rfl)
    (of_decide_eq_true (by kernel_rfl)) (by unfold Func.isWrapper; first | (rw [if_pos (by decide +kernel)]; kernel_rfl) | (rw [if_neg (by decide +kernel)]; exact ⟨rfl, rfl⟩))
    (fun os started H enc _ => lifted os started H enc)

theorem holds : Rows.PathBitsCardSaid :=
  Claim7.holds_tied_plain_at .later [] [.data] true Rows.pathBitsCard.stood.harness false
    row_holds (fun _ h => by cases h) (by kernel_rfl) (fun _ h => by cases h) pathBits_row_tie rfl ⟨rfl, rfl⟩ (by kernel_rfl) rfl
    (fun f fn hf hfn => by
      obtain rfl : f = 8 := Option.some.inj ((show Tryd.prog.funcNamed "scrinium/scriniumlaw10.PathBits" = some 8 by kernel_rfl).symm.trans hf) |>.symm
      obtain rfl : fn = Tryd.f8 := (Option.some.inj (Tryd.func8.symm.trans hfn)).symm
      exact ⟨by kernel_rfl, fun j t ht => by
        rw [Tryd.params8] at ht
        have hm : t ∈ [3, 3] := by simpa using Array.mem_of_getElem? ht
        have hall : ([3, 3].all fun u => !Tryd.prog.wantsStandIn u) = true := by kernel_rfl
        exact (show Tryd.prog.wantsStandIn t = false by simpa using List.all_eq_true.1 hall t hm)⟩)
    (by kernel_rfl)
end Go.Proofs.YtagocdcclghdaaaDoor.pathBits

theorem Go.Proofs.YtagocdcclghdaaaDoor.pathBits_holds : Go.Proofs.YtagocdcclghdaaaDoor.Rows.PathBitsCardSaid := Go.Proofs.YtagocdcclghdaaaDoor.pathBits.holds
#print axioms Go.Proofs.YtagocdcclghdaaaDoor.pathBits_holds
