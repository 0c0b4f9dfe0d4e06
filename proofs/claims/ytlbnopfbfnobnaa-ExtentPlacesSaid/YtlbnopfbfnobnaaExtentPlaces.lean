/-
  ExtentPlaces: the runs of some of a file's sectors have just these, in order. For every list of runs (of a longer one the first 12) and every two places, no condition.
-/
import Derived.Test.YtlbnopfbfnobnaaRunArg
namespace Go.Proofs.Ytlbnopfbfnobnaa.extentPlaces
open Go.ChangeShapes Go.WideShapes Go.ChangeAt Go.RowKit Ext

theorem places {m : List Rn} (h : FileL m) (i k : Nat) (hi : (i : Int) ≤ tot m) (hk : (k : Int) ≤ tot m - i) :
    (allS (sf (sg m i) k)).length = k ∧ ∀ j, j < k → (allS (sf (sg m i) k))[j]? = (allS m)[i + j]? := by
  have hf := h.file
  have hf2 := sg_file hf i
  have t1 := sf_tot hf (n := i) (by omega) hi
  have t2 := cut_tot m i
  have t3 := sf_tot hf2 (n := k) (by omega) (by omega)
  have l1 := allS_length (sf_file hf i)
  have l2 := allS_length (sf_file hf2 k)
  have e1 := cut_all hf i
  have e2 := cut_all hf2 k
  refine ⟨by omega, fun j hj => ?_⟩
  rw [← e1, ← e2, List.getElem?_append_right (by omega), show i + j - (allS (sf m i)).length = j by omega, List.getElem?_append_left (by omega)]
set_option maxHeartbeats 12800000 in
set_option maxRecDepth 100000 in
theorem walk {w : World} (v : Value) (l : List Rn) (hl : Runs w v l) (fr : Int) (_f1 : -9223372036854775808 ≤ fr) (_f2 : fr ≤ 9223372036854775807) (n : Int) (_n1 : -9223372036854775808 ≤ n) (_n2 : n ≤ 9223372036854775807) :
    Calls Try.prog 8 #[v, .int .i64 fr, .int .i64 n] w fun e w' => e = .returned (.bool true) ∧ Below w.heap.size w w' := by
  obtain ⟨va, cap, rfl, hlc, hcap⟩ := hl.slice
  go_enter Try.func8, Try.ntmps8
  go_upto_region 4 with (first
    | (go_at_call 9; refine (awake_any _).mono ?_; rintro e w1 ⟨rfl, b1⟩)
    | (go_at_call 17; refine (file_any _ l _ (hl.old b1)).mono ?_; rintro e w2 ⟨v2, m, rfl, hm, hfl, b2⟩)
    | (go_at_call 18; refine (all_any _ m _ hm hfl.file (by have := hfl.len; omega)).mono ?_; rintro e w3 ⟨v3, rfl, h3, b3⟩))
  replace hm := hm.old b3
  have hb := below_step (below_step b1 (Nat.le_refl _) b2) (Nat.le_refl _) b3
  clear b1 b2 b3
  have hal := allS_length hfl.file
  have htt := hfl.tot
  obtain ⟨xa, ca, rfl, _⟩ := h3.slice
  obtain ⟨A, hA⟩ : ∃ A, A = (allS m).length := ⟨_, rfl⟩
  have hA4 : A ≤ 384 := by omega
  have HAL := Lib.hid (show (A : Int) = tot m by omega)
  rw [← hA] at h3 ⊢
  have HA := Lib.hid hA
  obtain ⟨mv, mc, rfl, _, _⟩ := hm.slice
  clear hal htt hA
  obtain ⟨t0, ht0, t1, t2⟩ := rem_abs fr A
  go_upto_if 25 with fail
  clear ht0
  go_cut [10] (fun s10 wx => w3 = wx ∧ ∃ Ix : Nat, s10 = .int .i64 Ix ∧ Ix ≤ A)
  case first =>
    by_cases hneg : t0 < 0
    · go_wp2
      go_meet
      case rel => exact ⟨rfl, (-t0).toNat, by rw [show (((-t0).toNat : Nat) : Int) = -t0 by omega], by omega⟩
    · go_wp2
      go_meet
      case rel => exact ⟨rfl, t0.toNat, by rw [show ((t0.toNat : Nat) : Int) = t0 by omega], by omega⟩
  case rest =>
    obtain ⟨rfl, Ix, rfl, hIx⟩ := hcut
    clear t1 t2
    obtain ⟨t0, ht0, t1, t2⟩ := rem_abs n (A - Ix)
    rw [show ((A - Ix : Nat) : Int) = (A : Int) - Ix by omega] at ht0 t1 t2
    go_upto_if 36 with fail
    clear ht0
    go_cut [11] (fun s11 wx => w3 = wx ∧ ∃ Kx : Nat, s11 = .int .i64 Kx ∧ Kx ≤ A - Ix)
    case first =>
      by_cases hneg : t0 < 0
      · go_wp2
        go_meet
        case rel => exact ⟨rfl, (-t0).toNat, by rw [show (((-t0).toNat : Nat) : Int) = -t0 by omega], by omega⟩
      · go_wp2
        go_meet
        case rel => exact ⟨rfl, t0.toNat, by rw [show ((t0.toNat : Nat) : Int) = t0 by omega], by omega⟩
    case rest =>
      obtain ⟨rfl, Kx, rfl, hKx⟩ := hcut
      clear t1 t2
      obtain ⟨hpl, hpj⟩ := places hfl Ix Kx (by rw [← HAL.out]; omega) (by rw [← HAL.out]; omega)
      have hre := rest_any _ m Ix Kx w3 hm hfl.file (by omega) (by omega) (by omega) (by omega) (by have := hfl.len; omega)
      rw [Int.max_eq_left (by omega)] at hre
      have hff := sf_file (sg_file hfl.file (Ix : Int)) (Kx : Int)
      have hlen2 : (sf (sg m (Ix : Int)) (Kx : Int)).length ≤ 1000 := by
        have h1 := sf_len (sg m (Ix : Int)) (Kx : Int)
        have h2 := sg_len m (Ix : Int)
        have h3 := hfl.len
        omega
      obtain ⟨S, hS⟩ : ∃ S, S = sf (sg m (Ix : Int)) (Kx : Int) := ⟨_, rfl⟩
      rw [← hS] at hpl hpj hre hff hlen2
      have HPL := Lib.hid hpl
      have HPJ := Lib.hid hpj
      clear hpl hpj hS
      go_upto_region 11 with (first
        | (go_at_call 20; refine hre.mono ?_; rintro e w4 ⟨v4, rfl, h4, b4⟩)
        | (go_at_call 18; refine (all_any _ S _ h4 hff hlen2).mono ?_; rintro e w5 ⟨v5, rfl, h5, b5⟩))
      replace h3 := (h3.old b4).old b5
      replace hb := below_step (below_step hb (Nat.le_refl _) b4) (Nat.le_refl _) b5
      clear b4 b5 hre hm
      obtain ⟨xs, cs, rfl, _⟩ := h5.slice
      rw [HPL.out] at h5 ⊢
      go_wp2
      go_loopw [13] (fun s13 wr => ∃ j : Nat, j ≤ Kx ∧ s13 = .int .i64 j ∧ Below w5.heap.size w5 wr) (fun s13 _ => Kx - (intOf s13).toNat)
      case atStart => exact ⟨0, by omega, rfl, Below.refl _ _⟩
      case round =>
        obtain ⟨j, hj, rfl, hbj⟩ := hrel
        by_cases hjk : j < Kx
        · obtain ⟨q, r, rfl, hq, -, d0⟩ := (h5.old hbj).at j (by rw [HPL.out]; exact hjk)
          obtain ⟨p, o, rfl, hp, -, c0⟩ := (h3.old hbj).at (Ix + j) (by rw [← HA.out]; omega)
          have hsame : (allS S)[j]'(by rw [HPL.out]; exact hjk) = (allS m)[Ix + j]'(by rw [← HA.out]; omega) := by
            have := HPJ.out j hjk
            rw [List.getElem?_eq_getElem (by rw [HPL.out]; exact hjk), List.getElem?_eq_getElem (by rw [← HA.out]; omega)] at this
            exact Option.some.inj this
          rw [hsame] at d0
          obtain ⟨y, hy⟩ : ∃ y, y = (allS m)[Ix + j]'(by rw [← HA.out]; omega) := ⟨_, rfl⟩
          rw [← hy] at d0 c0
          clear hy hsame
          go_wp2
          try simp only [Act.put]
          refine wp_region_tab [RT.is (.slice (some ⟨q, r, none⟩) Kx cs), RT.is (.int .i64 ((j : Nat) : Int)), RT.is (.pointer (some ⟨q, r + j, none⟩)), RT.is (.int .i64 y), RT.is (.slice (some ⟨p, o, none⟩) A ca), RT.is (.int .i64 ((Ix : Nat) : Int)), RT.is (.int .i64 ((j : Nat) : Int)), RT.is (.int .i64 (((Ix + j : Nat) : Int))), RT.is (.pointer (some ⟨p, o + (Ix + j), none⟩)), RT.is (.int .i64 y), RT.is (.bool false)] (by kernel_rfl) (by kernel_rfl) (by kernel_rfl) (by kernel_rfl) ⟨?_, ?_, ?_, ?_, ?_, ?_, ?_, ?_, ?_, ?_, ?_, trivial⟩ ?_
          · intro ac w' hF hL hP hU K hK
            have hB := below_undrew hL
            have e12 : ac.eval (.tmp 12) = .slice (some ⟨q, r, none⟩) Kx cs := hF.at 12 (by kernel_rfl)
            exact rop_move _ rfl e12 (wanted_none rfl) (hK _ _ (le8_refl _) rfl)
          · intro ac w' hF hL hP hU K hK
            have hB := below_undrew hL
            have e13 : ac.eval (.tmp 13) = .int .i64 ((j : Nat) : Int) := hF.at 13 (by kernel_rfl)
            exact rop_move _ rfl e13 (wanted_none rfl) (hK _ _ (le8_refl _) rfl)
          · intro ac w' hF hL hP hU K hK
            have hB := below_undrew hL
            have e53 : ac.eval (.tmp 53) = .slice (some ⟨q, r, none⟩) Kx cs := hP 0 (by kernel_rfl)
            have e54 : ac.eval (.tmp 54) = .int .i64 ((j : Nat) : Int) := hP 1 (by kernel_rfl)
            exact rop_idx _ _ _ rfl e53 e54 (idx_num q r Kx cs j hjk _) (wanted_none rfl) (hK _ _ (le8_refl _) rfl)
          · intro ac w' hF hL hP hU K hK
            have hB := below_undrew hL
            have e55 : ac.eval (.tmp 55) = .pointer (some ⟨q, r + j, none⟩) := hP 2 (by kernel_rfl)
            exact rop_ld _ _ rfl e55 (load_int ((hB.cell (p := ⟨q, _, none⟩) hq).trans d0)) (wanted_none rfl) (hK _ _ (le8_refl _) rfl)
          · intro ac w' hF hL hP hU K hK
            have hB := below_undrew hL
            have e9 : ac.eval (.tmp 9) = .slice (some ⟨p, o, none⟩) A ca := hF.at 9 (by kernel_rfl)
            exact rop_move _ rfl e9 (wanted_none rfl) (hK _ _ (le8_refl _) rfl)
          · intro ac w' hF hL hP hU K hK
            have hB := below_undrew hL
            have e10 : ac.eval (.tmp 10) = .int .i64 ((Ix : Nat) : Int) := hF.at 10 (by kernel_rfl)
            exact rop_move _ rfl e10 (wanted_none rfl) (hK _ _ (le8_refl _) rfl)
          · intro ac w' hF hL hP hU K hK
            have hB := below_undrew hL
            have e13 : ac.eval (.tmp 13) = .int .i64 ((j : Nat) : Int) := hF.at 13 (by kernel_rfl)
            exact rop_move _ rfl e13 (wanted_none rfl) (hK _ _ (le8_refl _) rfl)
          · intro ac w' hF hL hP hU K hK
            have hB := below_undrew hL
            have e58 : ac.eval (.tmp 58) = .int .i64 ((Ix : Nat) : Int) := hP 5 (by kernel_rfl)
            have e59 : ac.eval (.tmp 59) = .int .i64 ((j : Nat) : Int) := hP 6 (by kernel_rfl)
            exact rop_bin _ _ _ _ _ rfl e58 e59 (guard_int _ _ _ _ _ _ _ w') (add_int _ _ _ (by omega) (by omega) w') (wanted_none rfl) (hK _ _ (le8_refl _) rfl)
          · intro ac w' hF hL hP hU K hK
            have hB := below_undrew hL
            have e57 : ac.eval (.tmp 57) = .slice (some ⟨p, o, none⟩) A ca := hP 4 (by kernel_rfl)
            have e60 : ac.eval (.tmp 60) = .int .i64 (((Ix + j : Nat) : Int)) := hP 7 (by kernel_rfl)
            exact rop_idx _ _ _ rfl e57 e60 (idx_num p o A ca (Ix + j) (by omega) _) (wanted_none rfl) (hK _ _ (le8_refl _) rfl)
          · intro ac w' hF hL hP hU K hK
            have hB := below_undrew hL
            have e61 : ac.eval (.tmp 61) = .pointer (some ⟨p, o + (Ix + j), none⟩) := hP 8 (by kernel_rfl)
            exact rop_ld _ _ rfl e61 (load_int ((hB.cell (p := ⟨p, _, none⟩) hp).trans c0)) (wanted_none rfl) (hK _ _ (le8_refl _) rfl)
          · intro ac w' hF hL hP hU K hK
            have hB := below_undrew hL
            have e56 : ac.eval (.tmp 56) = .int .i64 y := hP 3 (by kernel_rfl)
            have e62 : ac.eval (.tmp 62) = .int .i64 y := hP 9 (by kernel_rfl)
            exact rop_bin _ _ _ _ _ rfl e56 e62 (guard_int _ _ _ _ _ _ _ w') (neq_i _ _ _ (by simp) w') (wanted_none rfl) (hK _ _ (le8_refl _) rfl)
          · intro ac w' hF hB hT
            have e63 : ac.eval (.tmp 63) = .bool false := hT 10 (by decide)
            rw [hF.lit 65 rfl]
            simp only [List.range, List.range.loop, List.map_cons, List.map_nil, e63, hF.at 0 (by kernel_rfl), hF.at 1 (by kernel_rfl), hF.at 2 (by kernel_rfl), hF.at 3 (by kernel_rfl), hF.at 4 (by kernel_rfl), hF.at 5 (by kernel_rfl), hF.at 6 (by kernel_rfl), hF.at 7 (by kernel_rfl), hF.at 8 (by kernel_rfl), hF.at 9 (by kernel_rfl), hF.at 10 (by kernel_rfl), hF.at 11 (by kernel_rfl), hF.at 12 (by kernel_rfl), hF.at 13 (by kernel_rfl), hF.at 14 (by kernel_rfl), hF.at 15 (by kernel_rfl), hF.at 16 (by kernel_rfl), hF.at 17 (by kernel_rfl), hF.at 18 (by kernel_rfl), hF.at 19 (by kernel_rfl), hF.at 20 (by kernel_rfl), hF.at 21 (by kernel_rfl), hF.at 22 (by kernel_rfl), hF.at 23 (by kernel_rfl), hF.at 24 (by kernel_rfl), hF.at 25 (by kernel_rfl), hF.at 26 (by kernel_rfl), hF.at 27 (by kernel_rfl), hF.at 28 (by kernel_rfl), hF.at 29 (by kernel_rfl), hF.at 30 (by kernel_rfl), hF.at 31 (by kernel_rfl), hF.at 32 (by kernel_rfl), hF.at 33 (by kernel_rfl), hF.at 34 (by kernel_rfl), hF.at 35 (by kernel_rfl), hF.at 36 (by kernel_rfl), hF.at 37 (by kernel_rfl), hF.at 38 (by kernel_rfl), hF.at 39 (by kernel_rfl), hF.at 40 (by kernel_rfl), hF.at 41 (by kernel_rfl), hF.at 42 (by kernel_rfl), hF.at 43 (by kernel_rfl), hF.at 44 (by kernel_rfl), hF.at 45 (by kernel_rfl), hF.at 46 (by kernel_rfl), hF.at 47 (by kernel_rfl), hF.at 48 (by kernel_rfl), hF.at 49 (by kernel_rfl), hF.at 50 (by kernel_rfl), hF.at 51 (by kernel_rfl), hF.at 52 (by kernel_rfl), hF.at 64 (by kernel_rfl)]
            generalize ac.eval (.tmp 53) = u53
            generalize ac.eval (.tmp 54) = u54
            generalize ac.eval (.tmp 55) = u55
            generalize ac.eval (.tmp 56) = u56
            generalize ac.eval (.tmp 57) = u57
            generalize ac.eval (.tmp 58) = u58
            generalize ac.eval (.tmp 59) = u59
            generalize ac.eval (.tmp 60) = u60
            generalize ac.eval (.tmp 61) = u61
            generalize ac.eval (.tmp 62) = u62
            simp only [Act.eval, Array.getD_eq_getD_getElem?, List.getElem?_toArray, List.getElem?_cons_succ, List.getElem?_cons_zero, Option.getD_some]
            clear e63 hT hF ac
            go_wp2
            go_roundw
            case rel => exact ⟨j + 1, by omega, by go_num, below_step hbj (Nat.le_refl _) hB⟩
            case measure => simp [intOf]; omega
        · go_wp2
          go_ret
          exact ⟨rfl, below_step hb (Nat.le_refl _) hbj⟩

set_option maxRecDepth 100000 in
theorem lifted (os : Os) (started : os.Started) (H : Type) (enc : TypeId × Value → H) :
    ReturnsInHanded {} Try.checked os 8 .any (Rows.extentPlacesSpec.pre6 enc Try.prog Try.f8 Rows.extentPlacesRow.domain false) (Rows.extentPlacesSpec.post enc Try.prog Try.f8 false true false false) := by
  refine returnsInHanded_of_change (C := Try.checked) lawOwn started (by kernel_rfl) Try.func8
    (ChangeSpec.witness6 (enc := enc) (C := Try.checked) false ⟨#[], #[.slice none 0 0, .int .i64 0, .int .i64 0], []⟩ 8 (by kernel_rfl) (by kernel_rfl) (by kernel_rfl) (by kernel_rfl)) ?_
  intro W base args ds gs before hval0 hW hcnd _
  have hval : ∀ (j : Nat) t v, Try.f8.params[j]? = some t → args[j]? = some v → Value.okWide Try.prog W .any base t v := hval0
  have hW' := hW
  obtain ⟨p, q, hA0, hV, rfl, hfz, hnd⟩ := hW
  have hA : DataW.TrodAll enc Try.prog W 0 (fun _ => true) true Try.f8.params.toList args.toList ds p := hA0
  rw [Try.params8] at hA hval
  obtain ⟨v0, vs0, d0, ds0, p0, q0, hargs, rfl, rfl, h0, r0⟩ := trodAll_cons hA
  obtain ⟨v1, vs1, d1, ds1, p1, q1, rfl, rfl, rfl, h1, r1⟩ := trodAll_cons r0
  obtain ⟨v2, vs2, d2, ds2, p2, q2, rfl, rfl, rfl, h2, r2⟩ := trodAll_cons r1
  obtain ⟨rfl, rfl, rfl⟩ := trodAll_nil r2
  obtain rfl : args = #[v0, v1, v2] := by cases args; simp_all
  obtain ⟨rfl, rfl⟩ := trodVars_none hV
  obtain ⟨a0, len0, cap0, rfl⟩ := okWide_slice Try.underlying22 (hval 0 22 v0 rfl rfl)
  obtain ⟨l0, w0⟩ := runs_of h0
  obtain ⟨a1, rfl, rfl, rfl, w1⟩ := open_int Try.underlying3 (hval 1 3 v1 rfl rfl) h1
  obtain ⟨a2, rfl, rfl, rfl, w2⟩ := open_int Try.underlying3 (hval 2 3 v2 rfl rfl) h2
  clear hA0 hval0 hcnd
  obtain ⟨l1, m1⟩ := i64_bounds w1
  obtain ⟨l2, m2⟩ := i64_bounds w2
  refine (walk (w := W) _ l0 w0 a1 l1 m1 a2 l2 m2).mono fun e W' ⟨he, bel⟩ => ?_
  subst he
  exact ⟨_, rfl, law_post rfl rfl (by kernel_rfl) hW' rfl bel⟩

theorem holds : Rows.ExtentPlacesSaid :=
  OpenClaim.holds_of_wide 8 Try.f8 rfl rfl rfl rfl rfl rfl rfl ⟨rfl, rfl, rfl, rfl, rfl⟩ rfl rfl rfl rfl rfl (by kernel_rfl) Try.func8 (by kernel_rfl)
    (of_decide_eq_true (by kernel_rfl)) (by unfold Func.isWrapper; first | (rw [if_pos (by decide +kernel)]; kernel_rfl) | (rw [if_neg (by decide +kernel)]; exact ⟨rfl, rfl⟩))
    (fun os started H enc _ => lifted os started H enc)
end Go.Proofs.Ytlbnopfbfnobnaa.extentPlaces

theorem Go.Proofs.Ytlbnopfbfnobnaa.extentPlaces_holds : Go.Proofs.Ytlbnopfbfnobnaa.Rows.ExtentPlacesSaid := Go.Proofs.Ytlbnopfbfnobnaa.extentPlaces.holds
#print axioms Go.Proofs.Ytlbnopfbfnobnaa.extentPlaces_holds
