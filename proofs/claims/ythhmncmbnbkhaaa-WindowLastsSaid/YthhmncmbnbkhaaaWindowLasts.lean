/-
  WindowLasts: a window that is expired is closed, and stays so at each later time; with a longer term it is not expired sooner. For every six numbers, no condition.
-/
import Derived.Test.YthhmncmbnbkhaaaWinAll
import Derived.Test.YthhmncmbnbkhaaaWinArg
namespace Go.Proofs.Ythhmncmbnbkhaaa.windowLasts
open Go.ChangeShapes Go.WideShapes Go.ChangeAt Go.RowKit

/-- What follows of sums. -/
theorem facts {a x s l t u : Int} (ha : 0 ≤ a) (ha2 : a ≤ 1048576) (hx : 1 ≤ x) (hx2 : x ≤ 1048577) (hs : 0 ≤ s) (hsl : s ≤ l) (hl2 : l ≤ 2147483648) (ht : 0 ≤ t) (htu : t ≤ u) (hu : u ≤ 70368744177664) :
    (expB a x s t = true → clsB a x t = true ∧ expB a x s u = true) ∧ (expB a x l t = true → expB a x s t = true) ∧ (clsB a x t = true → a < ofZ t x) := by
  have hax : 0 ≤ a * x := Int.mul_nonneg ha (by omega)
  have hax2 : a * x ≤ 1048576 * 1048577 := Int.mul_le_mul ha2 hx2 (by omega) (by omega)
  have hok : ∀ z, 0 ≤ z → z ≤ 2147483648 → okW a 1 x z := fun z h1 h2 => ⟨⟨ha, by omega⟩, ⟨hx, by omega⟩, ⟨h1, by omega⟩, by unfold sumW; omega⟩
  have hv : ∀ z, 0 ≤ z → z ≤ 2147483648 → valW a 1 x z = a * x + x + z := fun z h1 h2 => by rw [valW_t (hok z h1 h2)]; unfold sumW; omega
  have he : ∀ z n, 0 ≤ z → z ≤ 2147483648 → 0 ≤ n → n ≤ 70368744177664 → (expB a x z n = true ↔ a * x + x + z ≤ n) := fun z n h1 h2 h3 h4 => by
    unfold expB
    rw [decide_eq_true (hok z h1 h2), decide_eq_true (show isT n from ⟨h3, by omega⟩), hv z h1 h2]
    simp
  have hc : clsB a x t = true ↔ a * x + x ≤ t := by
    unfold clsB
    rw [decide_eq_true (hok 0 (by decide) (by decide)), decide_eq_true (show isT t from ⟨ht, by omega⟩), hv 0 (by decide) (by decide)]
    simp
  rw [he s t hs (by omega) ht (by omega), he s u hs (by omega) (by omega) hu, he l t (by omega) hl2 ht (by omega), hc]
  refine ⟨fun h => ⟨by omega, by omega⟩, fun h => by omega, fun h => ?_⟩
  rw [show ofZ t x = t / x from if_pos ⟨⟨ht, by omega⟩, hx, by omega⟩]
  have : a + 1 ≤ t / x := (Int.le_ediv_iff_mul_le (by omega)).2 (by rw [Int.add_mul, Int.one_mul]; exact h)
  omega
set_option maxHeartbeats 6400000 in
set_option maxRecDepth 100000 in
theorem walk {w : World} (z y : Int) (_wz : -9223372036854775808 ≤ z ∧ z ≤ 9223372036854775807) (_wy : -9223372036854775808 ≤ y ∧ y ≤ 9223372036854775807) (z' y' : Int) (_wz' : -9223372036854775808 ≤ z' ∧ z' ≤ 9223372036854775807) (_wy' : -9223372036854775808 ≤ y' ∧ y' ≤ 9223372036854775807) (z'' y'' : Int) (_wz'' : -9223372036854775808 ≤ z'' ∧ z'' ≤ 9223372036854775807) (_wy'' : -9223372036854775808 ≤ y'' ∧ y'' ≤ 9223372036854775807) :
    Calls Try.prog 4 #[.agg #[.int .i64 z, .int .i64 y], .agg #[.int .i64 z', .int .i64 y'], .agg #[.int .i64 z'', .int .i64 y'']] w fun e w' => e = .returned (.bool true) ∧ Below w.heap.size w w' := by
  clear _wz _wy _wz' _wy' _wz'' _wy''
  obtain ⟨W, hW⟩ : ∃ W, W = ((w.alloc (.cells #[.int .i64 z, .int .i64 y] 27)).alloc (.cells #[.int .i64 z', .int .i64 y'] 27)).alloc (.cells #[.int .i64 z'', .int .i64 y''] 27) := ⟨_, rfl⟩
  obtain ⟨B, hB⟩ : ∃ B, B = w.heap.size := ⟨_, rfl⟩
  have hbW : Below w.heap.size w W := by
    rw [hW]
    exact (((Below.refl _ _).alloc (Nat.le_refl _) _).alloc (by simp) _).alloc (by simp; omega) _
  have hp1 : W.heap[B]? = some (.cells #[.int .i64 z, .int .i64 y] 27 (0, 0)) := by
    rw [hW, hB]
    exact ((((Below.refl (w.alloc (.cells #[.int .i64 z, .int .i64 y] 27)).heap.size _).alloc (Nat.le_refl _) _).alloc (by simp) _).block w.heap.size (by simp)).trans (heap_alloc_last w _)
  have hp2 : W.heap[B + 1]? = some (.cells #[.int .i64 z', .int .i64 y'] 27 (0, 0)) := by
    rw [hW, hB]
    have := heap_alloc_last (w.alloc (.cells #[.int .i64 z, .int .i64 y] 27)) (.cells #[.int .i64 z', .int .i64 y'] 27)
    rw [World.size_alloc] at this
    exact (((Below.refl ((w.alloc (.cells #[.int .i64 z, .int .i64 y] 27)).alloc (.cells #[.int .i64 z', .int .i64 y'] 27)).heap.size _).alloc (Nat.le_refl _) _).block (w.heap.size + 1) (by simp)).trans this
  have hp3 : W.heap[B + 1 + 1]? = some (.cells #[.int .i64 z'', .int .i64 y''] 27 (0, 0)) := by
    rw [hW, hB]
    have := heap_alloc_last ((w.alloc (.cells #[.int .i64 z, .int .i64 y] 27)).alloc (.cells #[.int .i64 z', .int .i64 y'] 27)) (.cells #[.int .i64 z'', .int .i64 y''] 27)
    rwa [World.size_alloc, World.size_alloc] at this
  have HW := Lib.hid hW
  have HB := Lib.hid hB
  have HP1 := Lib.hid hp1
  have HP2 := Lib.hid hp2
  have HP3 := Lib.hid hp3
  clear hW hB hp1 hp2 hp3
  go_enter Try.func4, Try.ntmps4
  go_upto_region 1 with fail
  rw [← HB.out, ← HW.out]
  clear HW
  go_upto_region 2 with (go_at_call 7; ((with_reducible refine (awake_any _).mono ?_); rintro e w1 ⟨rfl, b1⟩))
  have o1 := fun k => (cell_of ((b1.block _ (Array.getElem?_eq_some_iff.1 HP1.out).1).trans HP1.out) k)
  have o2 := fun k => (cell_of ((b1.block _ (Array.getElem?_eq_some_iff.1 HP2.out).1).trans HP2.out) k)
  have o3 := fun k => (cell_of ((b1.block _ (Array.getElem?_eq_some_iff.1 HP3.out).1).trans HP3.out) k)
  have c10 : w1.cell? ⟨B, 0, none⟩ = some (.int .i64 z) := o1 0
  have c11 : w1.cell? ⟨B, 1, none⟩ = some (.int .i64 y) := o1 1
  have c20 : w1.cell? ⟨B + 1, 0, none⟩ = some (.int .i64 z') := o2 0
  have c21 : w1.cell? ⟨B + 1, 1, none⟩ = some (.int .i64 y') := o2 1
  have c30 : w1.cell? ⟨B + 1 + 1, 0, none⟩ = some (.int .i64 z'') := o3 0
  have c31 : w1.cell? ⟨B + 1 + 1, 1, none⟩ = some (.int .i64 y'') := o3 1
  have hb := below_step hbW (Nat.le_refl _) b1
  clear o1 o2 o3 HP1 HP2 HP3 b1 hbW
  go_upto_region 8 with (first
    | (go_at_call 8; ((with_reducible refine (kept_any z 1048576 _ (by decide) (by decide)).mono ?_); rintro e w2 ⟨⟨a, rfl, ha0, ha1⟩, rfl⟩))
    | (go_at_call 8; ((with_reducible refine (kept_any y 1048576 _ (by decide) (by decide)).mono ?_); rintro e w3 ⟨⟨x, rfl, hx0, hx1⟩, rfl⟩))
    | (go_at_call 8; ((with_reducible refine (kept_any z' 1073741824 _ (by decide) (by decide)).mono ?_); rintro e w4 ⟨⟨s, rfl, hs0, hs1⟩, rfl⟩))
    | (go_at_call 8; ((with_reducible refine (kept_any y' 1073741824 _ (by decide) (by decide)).mono ?_); rintro e w5 ⟨⟨l, rfl, hl0, hl1⟩, rfl⟩))
    | (go_at_call 8; ((with_reducible refine (kept_any z'' 35184372088832 _ (by decide) (by decide)).mono ?_); rintro e w6 ⟨⟨t, rfl, ht0, ht1⟩, rfl⟩))
    | (go_at_call 8; ((with_reducible refine (kept_any y'' 35184372088832 _ (by decide) (by decide)).mono ?_); rintro e w7 ⟨⟨u, rfl, hu0, hu1⟩, rfl⟩)))
  clear c10 c11 c20 c21 c30 c31
  obtain ⟨X, hX⟩ : ∃ X, X = 1 + x := ⟨_, rfl⟩
  obtain ⟨L, hL⟩ : ∃ L, L = s + l := ⟨_, rfl⟩
  obtain ⟨U, hU⟩ : ∃ U, U = t + u := ⟨_, rfl⟩
  obtain ⟨f1, f2, f3⟩ := facts (a := a) (x := X) (s := s) (l := L) (t := t) (u := U) ha0 ha1 (by omega) (by omega) hs0 (by omega) (by omega) ht0 (by omega) (by omega)
  rw [← hX, ← hL, ← hU]
  clear hX hL hU
  have q1 := fun u' => expired_any a X s t u'
  have q2 := fun u' => closed_any a X t u'
  have q3 := fun u' => expired_any a X s U u'
  have q4 := fun u' => expired_any a X L t u'
  have q5 := fun u' => of_any t X u'
  generalize expB a X s t = E1 at *
  generalize clsB a X t = C1 at *
  generalize expB a X s U = E2 at *
  generalize expB a X L t = E3 at *
  generalize ofZ t X = O at *
  cases E1
  · have e3 : E3 = false := by cases E3; rfl; exact absurd (f2 rfl) (by decide)
    subst e3
    clear f1 f2
    cases C1
    · clear f3
      go_wp2_with (first
        | (go_at_call 12; ((with_reducible refine (q1 _).mono ?_); rintro e v1 ⟨rfl, bb1⟩; replace hb := below_step hb (Nat.le_refl _) bb1))
        | (go_at_call 13; ((with_reducible refine (q2 _).mono ?_); rintro e v2 ⟨rfl, bb2⟩; replace hb := below_step hb (Nat.le_refl _) bb2))
        | (go_at_call 12; ((with_reducible refine (q3 _).mono ?_); rintro e v3 ⟨rfl, bb3⟩; replace hb := below_step hb (Nat.le_refl _) bb3))
        | (go_at_call 12; ((with_reducible refine (q4 _).mono ?_); rintro e v4 ⟨rfl, bb4⟩; replace hb := below_step hb (Nat.le_refl _) bb4))
        | (go_at_call 9; ((with_reducible refine (q5 _).mono ?_); rintro e v5 ⟨rfl, rfl⟩)))
      go_ret
      exact ⟨rfl, hb⟩
    · have h3 := f3 rfl
      clear f3
      go_wp2_with (first
        | (go_at_call 12; ((with_reducible refine (q1 _).mono ?_); rintro e v1 ⟨rfl, bb1⟩; replace hb := below_step hb (Nat.le_refl _) bb1))
        | (go_at_call 13; ((with_reducible refine (q2 _).mono ?_); rintro e v2 ⟨rfl, bb2⟩; replace hb := below_step hb (Nat.le_refl _) bb2))
        | (go_at_call 12; ((with_reducible refine (q3 _).mono ?_); rintro e v3 ⟨rfl, bb3⟩; replace hb := below_step hb (Nat.le_refl _) bb3))
        | (go_at_call 12; ((with_reducible refine (q4 _).mono ?_); rintro e v4 ⟨rfl, bb4⟩; replace hb := below_step hb (Nat.le_refl _) bb4))
        | (go_at_call 9; ((with_reducible refine (q5 _).mono ?_); rintro e v5 ⟨rfl, rfl⟩)))
      go_ret
      exact ⟨by simp, hb⟩
  · obtain ⟨rfl, rfl⟩ := f1 rfl
    have h3 := f3 rfl
    clear f1 f2 f3
    cases E3 <;>
    · go_wp2_with (first
        | (go_at_call 12; ((with_reducible refine (q1 _).mono ?_); rintro e v1 ⟨rfl, bb1⟩; replace hb := below_step hb (Nat.le_refl _) bb1))
        | (go_at_call 13; ((with_reducible refine (q2 _).mono ?_); rintro e v2 ⟨rfl, bb2⟩; replace hb := below_step hb (Nat.le_refl _) bb2))
        | (go_at_call 12; ((with_reducible refine (q3 _).mono ?_); rintro e v3 ⟨rfl, bb3⟩; replace hb := below_step hb (Nat.le_refl _) bb3))
        | (go_at_call 12; ((with_reducible refine (q4 _).mono ?_); rintro e v4 ⟨rfl, bb4⟩; replace hb := below_step hb (Nat.le_refl _) bb4))
        | (go_at_call 9; ((with_reducible refine (q5 _).mono ?_); rintro e v5 ⟨rfl, rfl⟩)))
      go_ret
      exact ⟨by simp, hb⟩
set_option maxRecDepth 100000 in
theorem lifted (os : Os) (started : os.Started) (H : Type) (enc : TypeId × Value → H) :
    ReturnsInHanded {} Try.checked os 4 .any (Rows.windowLastsSpec.pre6 enc Try.prog Try.f4 Rows.windowLastsRow.domain false) (Rows.windowLastsSpec.post enc Try.prog Try.f4 false true false false) := by
  refine returnsInHanded_of_change (C := Try.checked) lawOwn started (by kernel_rfl) Try.func4
    (ChangeSpec.witness6 (enc := enc) (C := Try.checked) false ⟨#[], #[.agg #[.int .i64 0, .int .i64 0], .agg #[.int .i64 0, .int .i64 0], .agg #[.int .i64 0, .int .i64 0]], []⟩ 8 (by kernel_rfl) (by kernel_rfl) (by kernel_rfl) (by kernel_rfl)) ?_
  intro W base args ds gs before hval0 hW hcnd _
  have hval : ∀ (j : Nat) t v, Try.f4.params[j]? = some t → args[j]? = some v → Value.okWide Try.prog W .any base t v := hval0
  have hW' := hW
  obtain ⟨p, q, hA0, hV, rfl, hfz, hnd⟩ := hW
  have hA : DataW.TrodAll enc Try.prog W 0 (fun _ => true) true Try.f4.params.toList args.toList ds p := hA0
  rw [Try.params4] at hA hval
  obtain ⟨v0, vs0, d0, ds0, p0, q0, hargs, rfl, rfl, h0, r0⟩ := trodAll_cons hA
  obtain ⟨v1, vs1, d1, ds1, p1, q1, rfl, rfl, rfl, h1, r1⟩ := trodAll_cons r0
  obtain ⟨v2, vs2, d2, ds2, p2, q2, rfl, rfl, rfl, h2, r2⟩ := trodAll_cons r1
  obtain ⟨rfl, rfl, rfl⟩ := trodAll_nil r2
  obtain rfl : args = #[v0, v1, v2] := by cases args; simp_all
  obtain ⟨rfl, rfl⟩ := trodVars_none hV
  obtain ⟨z0, y0, rfl, w0, w0b⟩ := ints2_arg (hval 0 27 v0 rfl rfl) h0
  obtain ⟨z1, y1, rfl, w1, w1b⟩ := ints2_arg (hval 1 27 v1 rfl rfl) h1
  obtain ⟨z2, y2, rfl, w2, w2b⟩ := ints2_arg (hval 2 27 v2 rfl rfl) h2
  clear hA0 hval0 hcnd
  refine (walk (w := W) z0 y0 w0 w0b z1 y1 w1 w1b z2 y2 w2 w2b).mono fun e W' ⟨he, bel⟩ => ?_
  subst he
  exact ⟨_, rfl, law_post rfl rfl (by kernel_rfl) hW' rfl bel⟩

theorem holds : Rows.WindowLastsSaid :=
  OpenClaim.holds_of_wide 4 Try.f4 rfl rfl rfl rfl rfl rfl rfl ⟨rfl, rfl, rfl, rfl, rfl⟩ rfl rfl rfl rfl rfl (by kernel_rfl) Try.func4 (by kernel_rfl)
    (of_decide_eq_true (by kernel_rfl)) (by unfold Func.isWrapper; first | (rw [if_pos (by decide +kernel)]; kernel_rfl) | (rw [if_neg (by decide +kernel)]; exact ⟨rfl, rfl⟩))
    (fun os started H enc _ => lifted os started H enc)
end Go.Proofs.Ythhmncmbnbkhaaa.windowLasts

theorem Go.Proofs.Ythhmncmbnbkhaaa.windowLasts_holds : Go.Proofs.Ythhmncmbnbkhaaa.Rows.WindowLastsSaid := Go.Proofs.Ythhmncmbnbkhaaa.windowLasts.holds
#print axioms Go.Proofs.Ythhmncmbnbkhaaa.windowLasts_holds
