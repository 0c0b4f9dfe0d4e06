/-
  ExtentApart: no sector is in two runs of what free lists come to, and between any two runs one lies that is in none. For every list of runs (of a longer one the first 20) and every runs that are given (the first 12), no condition.
-/
import Derived.Test.YtlbnopfbfnobnaaRunArg
namespace Go.Proofs.Ytlbnopfbfnobnaa.extentApart
open Go.ChangeShapes Go.WideShapes Go.ChangeAt Go.RowKit Ext

/-- Is one of the first k sectors from x on free? -/
def someB (m : List Rn) (x : Int) : Nat → Bool
  | 0 => false
  | k + 1 => someB m x k || hasB m (x + k)
theorem someB_iff (m : List Rn) (x : Int) : ∀ k : Nat, someB m x k = true ↔ ∃ s, x ≤ s ∧ s < x + k ∧ hasB m s = true
  | 0 => by simp [someB]; intro s h1 h2; omega
  | k + 1 => by
    rw [someB, Bool.or_eq_true, someB_iff m x k]
    constructor
    · rintro (⟨s, h1, h2, h3⟩ | h)
      · exact ⟨s, h1, by omega, h3⟩
      · exact ⟨x + k, by omega, by omega, h⟩
    · rintro ⟨s, h1, h2, h3⟩
      by_cases hs : s < x + k
      · exact .inl ⟨s, h1, hs, h3⟩
      · obtain rfl : s = x + k := by omega
        exact .inr h3
theorem give_some {m : List Rn} (hc : chk 0 m = true) {x : Int} {N : Nat} (h1 : 0 ≤ x) (h2 : 1 ≤ N) (h3 : (N : Int) ≤ 65536 - x) :
    (someB m x N = true ∧ givB m (x, N) = false ∧ givV m (x, N) = m) ∨
    (someB m x N = false ∧ givB m (x, N) = true ∧ Given 0 m (x, N) (givV m (x, N))) := by
  have hs : sndB (x, (N : Int)) = true := (sndB_iff _).2 (by simp only; omega)
  have hg : givO m (x, N) = gv m (x, N) := by unfold givO; rw [if_pos ⟨hc, hs⟩]
  have hsp := gv_spec (l := m) (n := 0) (r := (x, (N : Int))) hc h1 (by simp only; omega) (by simp only; omega) h1
  cases hv : gv m (x, N) with
  | none =>
    rw [hv] at hsp hg
    obtain ⟨s, s1, s2, s3⟩ := hsp
    exact .inl ⟨(someB_iff m x N).2 ⟨s, s1, s2, s3⟩, by unfold givB; rw [hg]; rfl, by unfold givV; rw [hg]; rfl⟩
  | some m' =>
    rw [hv] at hsp hg
    have e : givV m (x, N) = m' := by unfold givV; rw [hg]; rfl
    refine .inr ⟨?_, by unfold givB; rw [hg]; rfl, by rw [e]; exact hsp⟩
    cases hb : someB m x N with
    | false => rfl
    | true =>
      obtain ⟨s, s1, s2, s3⟩ := (someB_iff m x N).1 hb
      exact absurd s3 (hsp.free s s1 s2)
set_option maxHeartbeats 12800000 in
set_option maxRecDepth 100000 in
theorem walk {w : World} (v : Value) (l : List Rn) (hl : Runs w v l) (v' : Value) (l' : List Rn) (hl' : Runs w v' l') :
    Calls Try.prog 7 #[v, v'] w fun e w' => e = .returned (.bool true) ∧ Below w.heap.size w w' := by
  obtain ⟨va, cap, rfl, hlc, hcap⟩ := hl.slice
  obtain ⟨va', cap', rfl, hlc', hcap'⟩ := hl'.slice
  go_enter Try.func7, Try.ntmps7
  go_upto_region 5 with (first
    | (go_at_call 9; refine (awake_any _).mono ?_; rintro e w1 ⟨rfl, b1⟩; replace hl := hl.old b1; replace hl' := hl'.old b1)
    | (go_at_call 11; refine (free_any _ l _ hl).mono ?_; rintro e w2 ⟨v2, m0, rfl, hm0, hc0, hm020, b2⟩; replace hl' := hl'.old b2)
    | (go_at_call 26; refine (total_any _ m0 _ hm0 (chk_file hc0) (by omega)).mono ?_; rintro e w3 ⟨rfl, b3⟩; replace hl' := hl'.old b3; replace hm0 := hm0.old b3)
    | (go_at_call 17; refine (file_any _ l' _ hl').mono ?_; rintro e w4 ⟨v4, g, rfl, hg, hfl, b4⟩; replace hm0 := hm0.old b4))
  have hb := below_step (below_step (below_step b1 (Nat.le_refl _) b2) (Nat.le_refl _) b3) (Nat.le_refl _) b4
  clear b1 b2 b3 b4 hl hl'
  have hf := hfl.file
  have hlow := hfl.low
  have hg12 := hfl.len
  have HLOW := Lib.hid hlow
  clear hlow
  obtain ⟨gv', gc, rfl, _, _⟩ := hg.slice
  obtain ⟨T0, hT0⟩ : ∃ T0, T0 = tot m0 := ⟨_, rfl⟩
  rw [← hT0]
  go_wp2
  go_loopw [6, 7, 9] (fun s6 s7 s9 wr => ∃ (i : Nat) (m : List Rn) (T : Int), i ≤ g.length ∧ s9 = .int .i64 i ∧ s7 = .int .i64 T ∧ T = tot m ∧ Runs wr s6 m ∧ chk 0 m = true ∧ m.length ≤ 20 + i ∧ Below w4.heap.size w4 wr) (fun _ _ s9 _ => g.length - (intOf s9).toNat)
  case atStart => exact ⟨0, m0, T0, by omega, rfl, rfl, hT0, hm0, hc0, by omega, Below.refl _ _⟩
  case round =>
    clear hm0 hc0 hm020 hT0
    obtain ⟨i, m, T, hi, rfl, rfl, hT, hm, hc, hml, hbr⟩ := hrel
    have HT := Lib.hid hT
    have HC := Lib.hid hc
    clear hT hc
    by_cases hlt : i < g.length
    · obtain ⟨p, o, rfl, hp, -, e0, e1⟩ := (hg.old hbr).at i hlt
      have hs := fileB_get hf i hlt
      have hlw := HLOW.out _ (List.getElem_mem hlt)
      obtain ⟨xx, hx⟩ : ∃ xx, xx = g[i] := ⟨_, rfl⟩
      rw [← hx] at e0 e1 hs hlw
      obtain ⟨x, N⟩ := xx
      simp only at e0 e1 hs hlw
      obtain ⟨s1, s2, s3⟩ := hs
      obtain ⟨s4, s5⟩ := hlw
      clear hx
      obtain ⟨N, rfl⟩ : ∃ N' : Nat, N = N' := ⟨N.toNat, by omega⟩
      obtain ⟨mv, mc, rfl, _, _⟩ := hm.slice
      obtain ⟨L, hL⟩ : ∃ L, L = m.length := ⟨_, rfl⟩
      rw [← hL] at hm ⊢
      have HE0 := Lib.hid e0
      have HE1 := Lib.hid e1
      clear hL e0 e1
      have hfm := chk_file HC.out
      go_wp2
      go_loopw [10, 11] (fun s10 s11 wv => ∃ k : Nat, k ≤ N ∧ s11 = .int .i64 k ∧ s10 = .bool (someB m x k) ∧ Below wr.heap.size wr wv) (fun _ s11 _ => N - (intOf s11).toNat)
      case atStart => exact ⟨0, by omega, rfl, rfl, Below.refl _ _⟩
      case round =>
        obtain ⟨k, hk, rfl, rfl, hbv⟩ := hrel
        rename_i wv _ _ _ _ _ _ _ _ _ _ _ _
        have e0 := (hbv.cell (p := ⟨p, _, none⟩) hp).trans HE0.out
        have e1 := (hbv.cell (p := ⟨p, _, none⟩) hp).trans HE1.out
        by_cases hkN : k < N
        · have hkN' : (k : Int) < (N : Int) := by omega
          have hha := has_any _ m (x + k) _ (hm.old hbv) hfm (by omega) (by omega)
          cases hsb : someB m x k with
          | true =>
            go_wp2
            go_roundw
            case rel => exact ⟨k + 1, by omega, by go_num, by rw [someB, hsb]; rfl, hbv⟩
            case measure => simp [intOf]; omega
          | false =>
            obtain ⟨hv, hhv⟩ : ∃ hv, hv = hasB m (x + k) := ⟨_, rfl⟩
            rw [← hhv] at hha
            have HHV := Lib.hid hhv
            have HSB := Lib.hid hsb
            clear hhv hsb
            go_wp2_with (go_at_call 28; refine hha.mono ?_; rintro e w6 ⟨rfl, b6⟩)
            go_roundw
            case rel => exact ⟨k + 1, by omega, by go_num, by rw [someB, HSB.out, Bool.false_or, ← HHV.out], below_step hbv (Nat.le_refl _) b6⟩
            case measure => simp [intOf]; omega
        · obtain rfl : k = N := by omega
          have hgi := give_any _ m x k _ (hm.old hbv) (by unfold okR; simp only; omega) (by omega)
          rcases give_some HC.out s1 (by omega) s3 with ⟨g1, g2, g3⟩ | ⟨g1, g2, g3⟩
          · rw [g2, g3] at hgi
            have HG1 := Lib.hid g1
            clear g2 g3
            rw [g1]
            clear g1
            have hck := fun u v (hu : Runs u v m) => check_any v m u hu
            rw [show chkE m = 0 by unfold chkE; rw [HC.out]; rfl] at hck
            have hto := fun u v (hu : Runs u v m) => total_any v m u hu hfm (by omega)
            rw [← HT.out] at hto
            go_wp2_with (first
              | (go_at_call 14; refine hgi.mono ?_; rintro e w7 ⟨v7, rfl, h7, b7⟩)
              | (go_at_call 27; refine (hck _ _ h7).mono ?_; rintro e w8 ⟨rfl, b8⟩; replace h7 := h7.old b8)
              | (go_at_call 26; refine (hto _ _ h7).mono ?_; rintro e w9 ⟨rfl, b9⟩; replace h7 := h7.old b9))
            go_roundw
            case rel => exact ⟨i + 1, m, T, by omega, by go_num, rfl, HT.out, h7, HC.out, by omega, below_step (below_step (below_step (below_step hbr (Nat.le_refl _) hbv) (Nat.le_refl _) b7) (Nat.le_refl _) b8) (Nat.le_refl _) b9⟩
            case measure => simp [intOf]; omega
          · obtain ⟨m', hm'⟩ : ∃ m', m' = givV m (x, (k : Int)) := ⟨_, rfl⟩
            rw [← hm'] at hgi g3
            rw [g2] at hgi
            have hc' := g3.chk
            have ht' := g3.tot
            have hl'' := g3.len
            simp only at ht'
            have HC' := Lib.hid hc'
            have hT' : T + k = tot m' := by rw [ht', HT.out]
            have HT' := Lib.hid hT'
            have hfm' := chk_file hc'
            have hTb := tot_nonneg hfm
            rw [← HT.out] at hTb
            have hT1 : 0 ≤ T := hTb.1
            have hT2 : T ≤ 65536 * 100 := by have := hTb.2; omega
            rw [g1]
            clear g1 g2 g3 hm' hc' ht' hT' hTb
            have hck := fun u v (hu : Runs u v m') => check_any v m' u hu
            rw [show chkE m' = 0 by unfold chkE; rw [HC'.out]; rfl] at hck
            have hto := fun u v (hu : Runs u v m') => total_any v m' u hu hfm' (by omega)
            rw [← HT'.out] at hto
            go_upto_region 16 with (go_at_call 14; refine hgi.mono ?_; rintro e w7 ⟨v7, rfl, h7, b7⟩)
            have e1' := (b7.cell (p := ⟨p, _, none⟩) (Nat.lt_of_lt_of_le hp hbv.size)).trans e1
            go_wp2_with (first
              | (go_at_call 27; refine (hck _ _ h7).mono ?_; rintro e w8 ⟨rfl, b8⟩; replace h7 := h7.old b8)
              | (go_at_call 26; refine (hto _ _ h7).mono ?_; rintro e w9 ⟨rfl, b9⟩; replace h7 := h7.old b9))
            go_roundw
            case rel => exact ⟨i + 1, m', T + k, by omega, by go_num, rfl, HT'.out, h7, HC'.out, by omega, below_step (below_step (below_step (below_step hbr (Nat.le_refl _) hbv) (Nat.le_refl _) b7) (Nat.le_refl _) b8) (Nat.le_refl _) b9⟩
            case measure => simp [intOf]; omega
    · go_wp2
      go_ret
      exact ⟨rfl, below_step hb (Nat.le_refl _) hbr⟩

set_option maxRecDepth 100000 in
theorem lifted (os : Os) (started : os.Started) (H : Type) (enc : TypeId × Value → H) :
    ReturnsInHanded {} Try.checked os 7 .any (Rows.extentApartSpec.pre6 enc Try.prog Try.f7 Rows.extentApartRow.domain false) (Rows.extentApartSpec.post enc Try.prog Try.f7 false true false false) := by
  refine returnsInHanded_of_change (C := Try.checked) lawOwn started (by kernel_rfl) Try.func7
    (ChangeSpec.witness6 (enc := enc) (C := Try.checked) false ⟨#[], #[.slice none 0 0, .slice none 0 0], []⟩ 8 (by kernel_rfl) (by kernel_rfl) (by kernel_rfl) (by kernel_rfl)) ?_
  intro W base args ds gs before hval0 hW hcnd _
  have hval : ∀ (j : Nat) t v, Try.f7.params[j]? = some t → args[j]? = some v → Value.okWide Try.prog W .any base t v := hval0
  have hW' := hW
  obtain ⟨p, q, hA0, hV, rfl, hfz, hnd⟩ := hW
  have hA : DataW.TrodAll enc Try.prog W 0 (fun _ => true) true Try.f7.params.toList args.toList ds p := hA0
  rw [Try.params7] at hA hval
  obtain ⟨v0, vs0, d0, ds0, p0, q0, hargs, rfl, rfl, h0, r0⟩ := trodAll_cons hA
  obtain ⟨v1, vs1, d1, ds1, p1, q1, rfl, rfl, rfl, h1, r1⟩ := trodAll_cons r0
  obtain ⟨rfl, rfl, rfl⟩ := trodAll_nil r1
  obtain rfl : args = #[v0, v1] := by cases args; simp_all
  obtain ⟨rfl, rfl⟩ := trodVars_none hV
  obtain ⟨a0, len0, cap0, rfl⟩ := okWide_slice Try.underlying22 (hval 0 22 v0 rfl rfl)
  obtain ⟨l0, w0⟩ := runs_of h0
  obtain ⟨a1, len1, cap1, rfl⟩ := okWide_slice Try.underlying22 (hval 1 22 v1 rfl rfl)
  obtain ⟨l1, w1⟩ := runs_of h1
  clear hA0 hval0 hcnd
  refine (walk (w := W) _ l0 w0 _ l1 w1).mono fun e W' ⟨he, bel⟩ => ?_
  subst he
  exact ⟨_, rfl, law_post rfl rfl (by kernel_rfl) hW' rfl bel⟩

theorem holds : Rows.ExtentApartSaid :=
  OpenClaim.holds_of_wide 7 Try.f7 rfl rfl rfl rfl rfl rfl rfl ⟨rfl, rfl, rfl, rfl, rfl⟩ rfl rfl rfl rfl rfl (by kernel_rfl) Try.func7 (by kernel_rfl)
    (of_decide_eq_true (by kernel_rfl)) (by unfold Func.isWrapper; first | (rw [if_pos (by decide +kernel)]; kernel_rfl) | (rw [if_neg (by decide +kernel)]; exact ⟨rfl, rfl⟩))
    (fun os started H enc _ => lifted os started H enc)
end Go.Proofs.Ytlbnopfbfnobnaa.extentApart

theorem Go.Proofs.Ytlbnopfbfnobnaa.extentApart_holds : Go.Proofs.Ytlbnopfbfnobnaa.Rows.ExtentApartSaid := Go.Proofs.Ytlbnopfbfnobnaa.extentApart.holds
#print axioms Go.Proofs.Ytlbnopfbfnobnaa.extentApart_holds
