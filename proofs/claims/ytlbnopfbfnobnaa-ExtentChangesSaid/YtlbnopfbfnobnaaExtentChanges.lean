/-
  ExtentChanges: sectors are taken and given as the document's own answers are; what is handed in stays. For every list of runs (of a longer one the first 20, as they are, and put in order as a free list), every number and every run, no condition.
-/
import Derived.Test.YtlbnopfbfnobnaaRunArg
namespace Go.Proofs.Ytlbnopfbfnobnaa.extentChanges
open Go.ChangeShapes Go.WideShapes Go.ChangeAt Go.RowKit Ext

set_option maxHeartbeats 12800000 in
set_option maxRecDepth 100000 in
theorem walk {w : World} (v : Value) (l : List Rn) (hl : Runs w v l) (n : Int) (n1 : -9223372036854775808 ≤ n) (n2 : n ≤ 9223372036854775807) (a c : Int) (hr : okR (a, c)) :
    Calls Try.prog 3 #[v, .int .i64 n, .agg #[.int .i64 a, .int .i64 c]] w fun e w' => e = .returned (.bool true) ∧ Below w.heap.size w w' := by
  obtain ⟨va, cap, rfl, hlc, hcap⟩ := hl.slice
  obtain ⟨B5, hB5⟩ : ∃ B5, B5 = w.heap.size := ⟨_, rfl⟩
  obtain ⟨w0, hw0⟩ : ∃ w0, w0 = w.alloc (.cells #[.int .i64 a, .int .i64 c] 24) := ⟨_, rfl⟩
  have b0 : Below w.heap.size w w0 := by rw [hw0]; exact below_box _ _
  have x5 : BoxAt w0 B5 a c := by rw [hw0, hB5]; exact BoxAt.new _ _ _
  have hl0 := hl.old b0
  have HB5 := Lib.hid hB5
  go_enter Try.func3, Try.ntmps3
  go_upto_region 1 with fail
  rw [← hw0, ← hB5]
  clear hw0 hB5 hl
  go_upto_region 2 with (go_at_call 9; refine (awake_any _).mono ?_; rintro e w1 ⟨rfl, b1⟩)
  replace hl0 := hl0.old b1
  replace x5 := x5.old b1
  replace b0 := below_step b0 (Nat.le_refl _) b1
  clear b1
  go_wp2
  go_loopw [8] (fun s8 wr => (s8 = .int .i64 0 ∨ s8 = .int .i64 1 ∨ s8 = .int .i64 2) ∧ Below w1.heap.size w1 wr) (fun s8 _ => 2 - (intOf s8).toNat)
  case atStart => exact ⟨.inl rfl, Below.refl _ _⟩
  case round =>
    obtain ⟨ht, hb⟩ := hrel
    have hlr := hl0.old hb
    have x5r := x5.old hb
    by_cases h2 : u8 = .int .i64 2
    · subst h2
      go_wp2
      go_ret
      exact ⟨rfl, below_step b0 (Nat.le_refl _) hb⟩
    · obtain ⟨tn, rfl, htn⟩ : ∃ tn : Int, u8 = .int .i64 tn ∧ (tn = 0 ∨ tn = 1) := by
        rcases ht with rfl | rfl | rfl
        · exact ⟨0, rfl, .inl rfl⟩
        · exact ⟨1, rfl, .inr rfl⟩
        · exact absurd rfl h2
      clear ht h2
      have ht2 : tn < 2 := by omega
      have ht3 : 0 ≤ tn := by omega
      have hfe := few_any _ l wr hlr
      have hl20 : (l.take 20).length ≤ 20 := by rw [List.length_take]; omega
      go_upto_if 33 with (go_at_call 10; refine hfe.mono ?_; rintro e w2 ⟨v2, rfl, h2, rfl⟩)
      go_cut [9] (fun s9 wx => ∃ m, Runs wx s9 m ∧ m.length ≤ 20 ∧ Below w1.heap.size w1 wx)
      case first =>
        rcases htn with rfl | rfl
        · go_wp2
          go_meet
          case rel => exact ⟨_, h2, hl20, hb⟩
        · go_wp2_with (go_at_call 11; refine (free_any _ l _ hlr).mono ?_; rintro e w3 ⟨v3, m, rfl, h3, _, h320, b3⟩)
          go_meet
          case rel => exact ⟨_, h3, h320, below_step hb (Nat.le_refl _) b3⟩
      case rest =>
        obtain ⟨m, hm, hm20, hbx⟩ := hcut
        clear hfe hl20 hlr h2 hb x5r
        obtain ⟨mv, mc, rfl, _, _⟩ := hm.slice
        obtain ⟨v4, w4, hr4, ho4, b4⟩ := append_own (B := _) 22 (Own.nil _ _) hm (Nat.le_refl _) (by simp; omega)
        rw [List.nil_append] at ho4
        have HR4 := Lib.hid hr4
        clear hr4
        have x4 := (x5.old hbx).old b4
        have hm4 := hm.old b4
        have h4 := ho4.runs
        have hb4 := below_step hbx (Nat.le_refl _) b4
        obtain ⟨L, hL⟩ : ∃ L, L = m.length := ⟨_, rfl⟩
        clear ho4 hm b4 hbx
        obtain ⟨hv, hc', rfl, _, _⟩ := h4.slice
        rw [← hL] at hm4 h4 HR4 ⊢
        clear hL
        have htk := fun u (hu : Runs u (.slice mv L mc) m) => take_any _ m n u hu n1 n2 (by omega)
        have hrt := fun u (hu : Runs u (.slice mv L mc) m) => rtake_any _ m n u hu n1 n2 (by omega)
        have hgi := fun u (hu : Runs u (.slice mv L mc) m) => give_any _ m a c u hu hr (by omega)
        have hrg := fun u (hu : Runs u (.slice mv L mc) m) => rgive_any _ m a c u hu hr (by omega)
        obtain ⟨tb, htb⟩ : ∃ tb, tb = tkB m n := ⟨_, rfl⟩
        obtain ⟨gb, hgb⟩ : ∃ gb, gb = givB m (a, c) := ⟨_, rfl⟩
        rw [← htb] at htk hrt
        rw [← hgb] at hgi hrg
        clear htb hgb
        go_upto_region 12 with (first
          | (at_builtin; refine Lib.wpList_append_run _ rfl _ _ _ _ rfl _ _ rfl rfl _ _ HR4.out ?_)
          | (go_at_call 12; refine (htk _ hm4).mono ?_; rintro e w5 ⟨p1, p2, rfl, r1, r2, b5⟩; replace hm4 := hm4.old b5; replace h4 := h4.old b5; replace x4 := x4.old b5; replace hb4 := below_step hb4 (Nat.le_refl _) b5)
          | (go_at_call 13; refine (hrt _ hm4).mono ?_; rintro e w6 ⟨p3, p4, rfl, r3, r4, b6⟩; replace hm4 := hm4.old b6; replace h4 := h4.old b6; replace x4 := x4.old b6; replace hb4 := below_step hb4 (Nat.le_refl _) b6; replace r1 := r1.old b6; replace r2 := r2.old b6))
        clear b5 b6 htk hrt
        have c0 := x4.c0
        have c1 := x4.c1
        go_upto_region 13 with (go_at_call 14; refine (hgi _ hm4).mono ?_; rintro e w7 ⟨p5, rfl, r5, b7⟩; replace hm4 := hm4.old b7; replace h4 := h4.old b7; replace x4 := x4.old b7; replace hb4 := below_step hb4 (Nat.le_refl _) b7; replace r1 := r1.old b7; replace r2 := r2.old b7; replace r3 := r3.old b7; replace r4 := r4.old b7)
        clear b7 hgi c0 c1
        have c0 := x4.c0
        have c1 := x4.c1
        go_upto_region 18 with (first
          | (go_at_call 15; refine (hrg _ hm4).mono ?_; rintro e w8 ⟨p6, rfl, r6, b8⟩; replace hm4 := hm4.old b8; replace h4 := h4.old b8; replace hb4 := below_step hb4 (Nat.le_refl _) b8; replace r1 := r1.old b8; replace r2 := r2.old b8; replace r3 := r3.old b8; replace r4 := r4.old b8; replace r5 := r5.old b8)
          | (go_at_call 16; ((with_reducible refine (same_any _ _ _ _ r1 r3).mono ?_); rintro e w9 ⟨rfl, b9⟩; replace hb4 := below_step hb4 (Nat.le_refl _) b9; replace hm4 := hm4.old b9; replace h4 := h4.old b9; replace r2 := r2.old b9; replace r4 := r4.old b9; replace r5 := r5.old b9; replace r6 := r6.old b9))
          | (go_at_call 16; ((with_reducible refine (same_any _ _ _ _ r2 r4).mono ?_); rintro e w10 ⟨rfl, b10⟩; replace hb4 := below_step hb4 (Nat.le_refl _) b10; replace hm4 := hm4.old b10; replace h4 := h4.old b10; replace r5 := r5.old b10; replace r6 := r6.old b10))
          | (go_at_call 16; ((with_reducible refine (same_any _ _ _ _ r5 r6).mono ?_); rintro e w11 ⟨rfl, b11⟩; replace hb4 := below_step hb4 (Nat.le_refl _) b11; replace hm4 := hm4.old b11; replace h4 := h4.old b11))
          | (go_at_call 16; ((with_reducible refine (same_any _ _ _ _ hm4 h4).mono ?_); rintro e w12 ⟨rfl, b12⟩; replace hb4 := below_step hb4 (Nat.le_refl _) b12)))
        clear b8 b9 b10 b11 b12 hrg c0 c1
        cases tb <;> cases gb
        all_goals
          go_wp2
          go_roundw
          case rel =>
            refine ⟨?_, hb4⟩
            rcases htn with rfl | rfl
            · exact .inr (.inl rfl)
            · exact .inr (.inr rfl)
          case measure => simp [intOf]; omega

set_option maxRecDepth 100000 in
theorem lifted (os : Os) (started : os.Started) (H : Type) (enc : TypeId × Value → H) :
    ReturnsInHanded {} Try.checked os 3 .any (Rows.extentChangesSpec.pre6 enc Try.prog Try.f3 Rows.extentChangesRow.domain false) (Rows.extentChangesSpec.post enc Try.prog Try.f3 false true false false) := by
  refine returnsInHanded_of_change (C := Try.checked) lawOwn started (by kernel_rfl) Try.func3
    (ChangeSpec.witness6 (enc := enc) (C := Try.checked) false ⟨#[], #[.slice none 0 0, .int .i64 0, .agg #[.int .i64 0, .int .i64 0]], []⟩ 8 (by kernel_rfl) (by kernel_rfl) (by kernel_rfl) (by kernel_rfl)) ?_
  intro W base args ds gs before hval0 hW hcnd _
  have hval : ∀ (j : Nat) t v, Try.f3.params[j]? = some t → args[j]? = some v → Value.okWide Try.prog W .any base t v := hval0
  have hW' := hW
  obtain ⟨p, q, hA0, hV, rfl, hfz, hnd⟩ := hW
  have hA : DataW.TrodAll enc Try.prog W 0 (fun _ => true) true Try.f3.params.toList args.toList ds p := hA0
  rw [Try.params3] at hA hval
  obtain ⟨v0, vs0, d0, ds0, p0, q0, hargs, rfl, rfl, h0, r0⟩ := trodAll_cons hA
  obtain ⟨v1, vs1, d1, ds1, p1, q1, rfl, rfl, rfl, h1, r1⟩ := trodAll_cons r0
  obtain ⟨v2, vs2, d2, ds2, p2, q2, rfl, rfl, rfl, h2, r2⟩ := trodAll_cons r1
  obtain ⟨rfl, rfl, rfl⟩ := trodAll_nil r2
  obtain rfl : args = #[v0, v1, v2] := by cases args; simp_all
  obtain ⟨rfl, rfl⟩ := trodVars_none hV
  obtain ⟨a0, len0, cap0, rfl⟩ := okWide_slice Try.underlying22 (hval 0 22 v0 rfl rfl)
  obtain ⟨l0, w0⟩ := runs_of h0
  obtain ⟨a1, rfl, rfl, rfl, w1⟩ := open_int Try.underlying3 (hval 1 3 v1 rfl rfl) h1
  obtain ⟨a2, n2, rfl, w2⟩ := run_arg (hval 2 24 v2 rfl rfl) h2
  clear hA0 hval0 hcnd
  obtain ⟨l1, m1⟩ := i64_bounds w1
  refine (walk (w := W) _ l0 w0 a1 l1 m1 a2 n2 w2).mono fun e W' ⟨he, bel⟩ => ?_
  subst he
  exact ⟨_, rfl, law_post rfl rfl (by kernel_rfl) hW' rfl bel⟩

theorem holds : Rows.ExtentChangesSaid :=
  OpenClaim.holds_of_wide 3 Try.f3 rfl rfl rfl rfl rfl rfl rfl ⟨rfl, rfl, rfl, rfl, rfl⟩ rfl rfl rfl rfl rfl (by kernel_rfl) Try.func3 (by kernel_rfl)
    (of_decide_eq_true (by kernel_rfl)) (by unfold Func.isWrapper; first | (rw [if_pos (by decide +kernel)]; kernel_rfl) | (rw [if_neg (by decide +kernel)]; exact ⟨rfl, rfl⟩))
    (fun os started H enc _ => lifted os started H enc)
end Go.Proofs.Ytlbnopfbfnobnaa.extentChanges

theorem Go.Proofs.Ytlbnopfbfnobnaa.extentChanges_holds : Go.Proofs.Ytlbnopfbfnobnaa.Rows.ExtentChangesSaid := Go.Proofs.Ytlbnopfbfnobnaa.extentChanges.holds
#print axioms Go.Proofs.Ytlbnopfbfnobnaa.extentChanges_holds
