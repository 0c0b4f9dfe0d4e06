/-
  WindowNext: a window ends where the next one begins, and is due its term behind its end; the first one begins at 0. For every three numbers, no condition.
-/
import Derived.Test.YthhmncmbnbkhaaaWinAll
import Derived.Test.YthhmncmbnbkhaaaMArg
namespace Go.Proofs.Ythhmncmbnbkhaaa.windowNext
open Go.ChangeShapes Go.WideShapes Go.ChangeAt Go.RowKit

set_option maxHeartbeats 6400000 in
set_option maxRecDepth 100000 in
theorem walk {w : World} (n : Int) (_n1 : -9223372036854775808 ≤ n) (n2 : n ≤ 9223372036854775807) (x : Int) (_x1 : -9223372036854775808 ≤ x) (_x2 : x ≤ 9223372036854775807) (t : Int) (_t1 : -9223372036854775808 ≤ t) (_t2 : t ≤ 9223372036854775807) :
    Calls Try.prog 6 #[.int .i64 n, .int .i64 x, .int .i64 t] w fun e w' => e = .returned (.bool true) ∧ Below w.heap.size w w' := by
  obtain ⟨m, hm⟩ : ∃ m, m = wrap64 (n + 1) := ⟨_, rfl⟩
  have q1 := fun u => end_any n x u
  have q2 := fun u => begin_any m x u
  have q3 := fun u => due_any n x t u
  have q4 := fun u => begin_any 0 x u
  -- what is told, as plain numbers
  have k1 : okW n 1 x t → okW n 1 x 0 := by
    unfold okW sumW isT isW; rintro ⟨h1, h2, h3, h4⟩; exact ⟨h1, h2, by omega, by omega⟩
  have k2 : okW n 1 x 0 → okW 0 0 x 0 := by
    unfold okW sumW isT isW; rintro ⟨h1, h2, h3, h4⟩; exact ⟨by omega, h2, by omega, by omega⟩
  have k3 : okW n 1 x 0 → 0 ≤ n ∧ n ≤ 1125899906842624 := fun h => h.1
  have k4 : valW 0 0 x 0 = 0 := by
    by_cases h : okW 0 0 x 0
    · rw [valW_t h]; unfold sumW; omega
    · exact valW_f h
  have k5 : okW n 1 x 0 → ¬ 1125899906842624 ≤ n → okW m 0 x 0 ∧ valW n 1 x 0 = valW m 0 x 0 := by
    intro h hn
    have hmn : m = n + 1 := by rw [hm]; exact IntWalk.wrap64_in _ ⟨by have := h.1.1; omega, by omega⟩
    have h4 := h.2.2.2
    have e : sumW n 1 x 0 = sumW m 0 x 0 := by rw [hmn]; unfold sumW; rw [Int.add_mul]; omega
    have ho : okW m 0 x 0 := ⟨⟨by have := h.1.1; omega, by omega⟩, h.2.1, h.2.2.1, by rw [← e]; exact h4⟩
    exact ⟨ho, by rw [valW_t h, valW_t ho, e]⟩
  have k6 : okW n 1 x t → valW n 1 x t = valW n 1 x 0 + t := by
    intro h
    rw [valW_t h, valW_t (k1 h)]; unfold sumW; omega
  have k7 : okW n 1 x t → 0 ≤ valW n 1 x 0 ∧ valW n 1 x 0 ≤ 1125899906842624 ∧ 0 ≤ t ∧ t ≤ 1125899906842624 := by
    intro h
    have h0 := k1 h
    rw [valW_t h0]
    have := Int.mul_nonneg h0.1.1 (show 0 ≤ x by have := h0.2.1.1; omega)
    exact ⟨by unfold sumW; have := h0.2.1.1; omega, h0.2.2.2, h.2.2.1⟩
  rw [k4] at q4
  have HM := Lib.hid hm
  have f1 : decide (okW n 1 x t) = true → decide (okW n 1 x 0) = true := fun h => decide_eq_true (k1 (of_decide_eq_true h))
  have f2 : decide (okW n 1 x 0) = true → decide (okW 0 0 x 0) = true := fun h => decide_eq_true (k2 (of_decide_eq_true h))
  have f3 : decide (okW n 1 x 0) = true → 0 ≤ n ∧ n ≤ 1125899906842624 := fun h => k3 (of_decide_eq_true h)
  have f5 : decide (okW n 1 x 0) = true → ¬ 1125899906842624 ≤ n → decide (okW m 0 x 0) = true ∧ valW n 1 x 0 = valW m 0 x 0 := fun h hn => ⟨decide_eq_true (k5 (of_decide_eq_true h) hn).1, (k5 (of_decide_eq_true h) hn).2⟩
  have f6 : decide (okW n 1 x t) = true → valW n 1 x t = valW n 1 x 0 + t := fun h => k6 (of_decide_eq_true h)
  have f7 : decide (okW n 1 x t) = true → 0 ≤ valW n 1 x 0 ∧ valW n 1 x 0 ≤ 1125899906842624 ∧ 0 ≤ t ∧ t ≤ 1125899906842624 := fun h => k7 (of_decide_eq_true h)
  clear k1 k2 k3 k4 k5 k6 k7
  generalize decide (okW n 1 x t) = Zk at *
  generalize decide (okW n 1 x 0) = Zi at *
  generalize decide (okW m 0 x 0) = Zj at *
  generalize decide (okW 0 0 x 0) = Zl at *
  generalize valW n 1 x t = D at *
  generalize valW n 1 x 0 = E at *
  generalize valW m 0 x 0 = C at *
  rw [hm] at q2
  have HQ2 := Lib.hid q2
  clear hm q2
  go_enter Try.func6, Try.ntmps6
  go_upto_region 6 with (first
    | (go_at_call 7; ((with_reducible refine (awake_any _).mono ?_); rintro e w1 ⟨rfl, b1⟩))
    | (go_at_call 11; ((with_reducible refine (q1 _).mono ?_); rintro e w2 ⟨rfl, b2⟩))
    | (go_at_call 10; ((with_reducible refine (q4 _).mono ?_); rintro e w5 ⟨rfl, b5⟩))
    | (go_at_call 10; ((with_reducible refine (HQ2.out _).mono ?_); rintro e w3 ⟨rfl, b3⟩))
    | (go_at_call 15; ((with_reducible refine (q3 _).mono ?_); rintro e w4 ⟨rfl, b4⟩)))
  have hb := below_step (below_step (below_step (below_step b1 (Nat.le_refl _) b2) (Nat.le_refl _) b3) (Nat.le_refl _) b4) (Nat.le_refl _) b5
  clear q1 q3 q4 HQ2 b1 b2 b3 b4 b5 HM
  cases Zi
  · have e0 : Zk = false := by cases Zk; rfl; exact absurd (f1 rfl) (by decide)
    subst e0
    clear f1 f2 f3 f5 f6 f7
    by_cases hn : n = 9223372036854775807
    · subst hn
      cases Zl <;>
      · go_wp2
        go_ret
        exact ⟨rfl, hb⟩
    · cases Zl <;>
      · go_wp2
        go_ret
        exact ⟨rfl, hb⟩
  · have e1 : Zl = true := f2 rfl
    subst e1
    obtain ⟨h1, h2⟩ := f3 rfl
    have hn : ¬ n = 9223372036854775807 := by omega
    by_cases hh : 1125899906842624 ≤ n
    · cases Zk
      · clear f1 f2 f3 f5 f6 f7
        go_wp2
        go_ret
        exact ⟨rfl, hb⟩
      · have h6 := f6 rfl
        obtain ⟨g1, g2, g3, g4⟩ := f7 rfl
        subst h6
        clear f1 f2 f3 f5 f6 f7
        go_wp2
        go_ret
        exact ⟨by simp, hb⟩
    · obtain ⟨e2, e3⟩ := f5 rfl (by omega)
      subst e2 e3
      cases Zk
      · clear f1 f2 f3 f5 f6 f7
        go_wp2
        go_ret
        exact ⟨by simp, hb⟩
      · have h6 := f6 rfl
        obtain ⟨g1, g2, g3, g4⟩ := f7 rfl
        subst h6
        clear f1 f2 f3 f5 f6 f7
        go_wp2
        go_ret
        exact ⟨by simp, hb⟩
set_option maxRecDepth 100000 in
theorem lifted (os : Os) (started : os.Started) (H : Type) (enc : TypeId × Value → H) :
    ReturnsInHanded {} Try.checked os 6 .any (Rows.windowNextSpec.pre6 enc Try.prog Try.f6 Rows.windowNextRow.domain false) (Rows.windowNextSpec.post enc Try.prog Try.f6 false true false false) := by
  refine returnsInHanded_of_change (C := Try.checked) lawOwn started (by kernel_rfl) Try.func6
    (ChangeSpec.witness6 (enc := enc) (C := Try.checked) false ⟨#[], #[.int .i64 0, .int .i64 0, .int .i64 0], []⟩ 8 (by kernel_rfl) (by kernel_rfl) (by kernel_rfl) (by kernel_rfl)) ?_
  intro W base args ds gs before hval0 hW hcnd _
  have hval : ∀ (j : Nat) t v, Try.f6.params[j]? = some t → args[j]? = some v → Value.okWide Try.prog W .any base t v := hval0
  have hW' := hW
  obtain ⟨p, q, hA0, hV, rfl, hfz, hnd⟩ := hW
  have hA : DataW.TrodAll enc Try.prog W 0 (fun _ => true) true Try.f6.params.toList args.toList ds p := hA0
  rw [Try.params6] at hA hval
  obtain ⟨v0, vs0, d0, ds0, p0, q0, hargs, rfl, rfl, h0, r0⟩ := trodAll_cons hA
  obtain ⟨v1, vs1, d1, ds1, p1, q1, rfl, rfl, rfl, h1, r1⟩ := trodAll_cons r0
  obtain ⟨v2, vs2, d2, ds2, p2, q2, rfl, rfl, rfl, h2, r2⟩ := trodAll_cons r1
  obtain ⟨rfl, rfl, rfl⟩ := trodAll_nil r2
  obtain rfl : args = #[v0, v1, v2] := by cases args; simp_all
  obtain ⟨rfl, rfl⟩ := trodVars_none hV
  obtain ⟨a0, rfl, rfl, rfl, w0⟩ := open_int Try.underlying3 (hval 0 3 v0 rfl rfl) h0
  obtain ⟨a1, rfl, rfl, rfl, w1⟩ := open_int Try.underlying3 (hval 1 3 v1 rfl rfl) h1
  obtain ⟨a2, rfl, rfl, rfl, w2⟩ := open_int Try.underlying3 (hval 2 3 v2 rfl rfl) h2
  clear hA0 hval0 hcnd
  obtain ⟨l0, m0⟩ := i64_bounds w0
  obtain ⟨l1, m1⟩ := i64_bounds w1
  obtain ⟨l2, m2⟩ := i64_bounds w2
  refine (walk (w := W) a0 l0 m0 a1 l1 m1 a2 l2 m2).mono fun e W' ⟨he, bel⟩ => ?_
  subst he
  exact ⟨_, rfl, law_post rfl rfl (by kernel_rfl) hW' rfl bel⟩

theorem holds : Rows.WindowNextSaid :=
  OpenClaim.holds_of_wide 6 Try.f6 rfl rfl rfl rfl rfl rfl rfl ⟨rfl, rfl, rfl, rfl, rfl⟩ rfl rfl rfl rfl rfl (by kernel_rfl) Try.func6 (by kernel_rfl)
    (of_decide_eq_true (by kernel_rfl)) (by unfold Func.isWrapper; first | (rw [if_pos (by decide +kernel)]; kernel_rfl) | (rw [if_neg (by decide +kernel)]; exact ⟨rfl, rfl⟩))
    (fun os started H enc _ => lifted os started H enc)
end Go.Proofs.Ythhmncmbnbkhaaa.windowNext

theorem Go.Proofs.Ythhmncmbnbkhaaa.windowNext_holds : Go.Proofs.Ythhmncmbnbkhaaa.Rows.WindowNextSaid := Go.Proofs.Ythhmncmbnbkhaaa.windowNext.holds
#print axioms Go.Proofs.Ythhmncmbnbkhaaa.windowNext_holds
