/-
  WindowApart: each time lies in the window that is told, and in none other. For every three numbers, no condition.
-/
import Derived.Test.YthhmncmbnbkhaaaWinAll
import Derived.Test.YthhmncmbnbkhaaaMArg
namespace Go.Proofs.Ythhmncmbnbkhaaa.windowApart
open Go.ChangeShapes Go.WideShapes Go.ChangeAt Go.RowKit

theorem begin_iff {a b : Int} (hb : isW b) : okW a 0 b 0 ↔ isT a ∧ a * b ≤ 1125899906842624 := by
  unfold okW sumW isT isW at *
  constructor
  · rintro ⟨h1, _, _, h2⟩; exact ⟨h1, by omega⟩
  · rintro ⟨h1, h2⟩; exact ⟨h1, hb, by omega, by omega⟩
theorem end_iff {a b : Int} (hb : isW b) : okW a 1 b 0 ↔ isT a ∧ a * b + b ≤ 1125899906842624 := by
  unfold okW sumW isT isW at *
  constructor
  · rintro ⟨h1, _, _, h2⟩; exact ⟨h1, by omega⟩
  · rintro ⟨h1, h2⟩; exact ⟨h1, hb, by omega, by omega⟩
theorem begin_val {a b : Int} (h : okW a 0 b 0) : valW a 0 b 0 = a * b := by rw [valW_t h]; unfold sumW; omega
theorem end_val {a b : Int} (h : okW a 1 b 0) : valW a 1 b 0 = a * b + b := by rw [valW_t h]; unfold sumW; omega
set_option maxHeartbeats 3200000 in
set_option maxRecDepth 100000 in
theorem walk {w : World} (t : Int) (_t1 : -9223372036854775808 ≤ t) (_t2 : t ≤ 9223372036854775807) (x : Int) (_x1 : -9223372036854775808 ≤ x) (_x2 : x ≤ 9223372036854775807) (n : Int) (_n1 : -9223372036854775808 ≤ n) (_n2 : n ≤ 9223372036854775807) :
    Calls Try.prog 3 #[.int .i64 t, .int .i64 x, .int .i64 n] w fun e w' => e = .returned (.bool true) ∧ Below w.heap.size w w' := by
  go_enter Try.func3, Try.ntmps3
  go_upto_region 4 with (first
    | (go_at_call 7; ((with_reducible refine (awake_any _).mono ?_); rintro e w1 ⟨rfl, b1⟩))
    | (go_at_call 8; ((with_reducible refine (kept_any t 1099511627776 _ (by decide) (by decide)).mono ?_); rintro e w2 ⟨⟨a, rfl, ha0, ha1⟩, rfl⟩))
    | (go_at_call 8; ((with_reducible refine (kept_any x 1048576 _ (by decide) (by decide)).mono ?_); rintro e w3 ⟨⟨b0, rfl, hb0, hb1⟩, rfl⟩)))
  obtain ⟨b, hb⟩ : ∃ b, b = 1 + b0 := ⟨_, rfl⟩
  have hbW : isW b := ⟨by omega, by omega⟩
  rw [← hb]
  have b1' : 1 ≤ b := by omega
  have b2' : b ≤ 1048577 := by omega
  clear hb hb0 hb1
  obtain ⟨k, hk⟩ : ∃ k, k = a / b := ⟨_, rfl⟩
  have q1 := fun u => of_any a b u
  rw [show ofZ a b = k from hk ▸ if_pos ⟨⟨by omega, by omega⟩, hbW⟩] at q1
  have hk0 : 0 ≤ k := by rw [hk]; exact Int.ediv_nonneg ha0 (by omega)
  have hk1 : k ≤ a := by rw [hk]; exact Int.ediv_le_self _ ha0
  have hlo : k * b ≤ a := by rw [hk]; exact Int.ediv_mul_le a (by omega)
  have hhi : a < k * b + b := by
    rw [hk]
    have := Int.lt_ediv_add_one_mul_self a (b := b) (by omega)
    rwa [Int.add_mul, Int.one_mul] at this
  have o1 : okW k 0 b 0 := (begin_iff hbW).2 ⟨⟨hk0, by omega⟩, by omega⟩
  have o2 : okW k 1 b 0 := (end_iff hbW).2 ⟨⟨hk0, by omega⟩, by omega⟩
  have q2 := fun u => begin_any k b u
  rw [decide_eq_true o1, begin_val o1] at q2
  have q3 := fun u => end_any k b u
  rw [decide_eq_true o2, end_val o2] at q3
  have q4 := fun u => begin_any n b u
  have q5 := fun u => end_any n b u
  obtain ⟨B, hB⟩ : ∃ B, B = k * b := ⟨_, rfl⟩
  rw [← hB] at q2 q3 hlo hhi
  have hBB : 0 ≤ B := by rw [hB]; exact Int.mul_nonneg hk0 (by omega)
  have HB := Lib.hid hB
  clear hk hB o1 o2
  have e1 : decide (a < B) = false := decide_eq_false (by omega)
  have e2 : decide (B + b ≤ a) = false := decide_eq_false (by omega)
  have e3 : (B + b - B != b) = false := by rw [show B + b - B = b by omega]; simp
  have c1 : (decide (a < B) || decide (B + b ≤ a) || B + b - B != b) = false := by rw [e1, e2, e3]; rfl
  clear e1 e2 e3
  by_cases x1 : okW n 0 b 0
  rotate_left
  · rw [decide_eq_false x1] at q4
    generalize valW n 0 b 0 = V at *
    generalize valW n 1 b 0 = V2 at *
    generalize decide (okW n 1 b 0) = y at *
    clear x1
    go_wp2_with (first
      | (go_at_call 9; ((with_reducible refine (q1 _).mono ?_); rintro e w4 ⟨rfl, rfl⟩))
      | (go_at_call 10; ((with_reducible refine (q2 _).mono ?_); rintro e w5 ⟨rfl, b5⟩))
      | (go_at_call 11; ((with_reducible refine (q3 _).mono ?_); rintro e w6 ⟨rfl, b6⟩))
      | (go_at_call 10; ((with_reducible refine (q4 _).mono ?_); rintro e w7 ⟨rfl, b7⟩))
      | (go_at_call 11; ((with_reducible refine (q5 _).mono ?_); rintro e w8 ⟨rfl, b8⟩)))
    go_ret
    exact ⟨rfl, below_step (below_step (below_step (below_step b1 (Nat.le_refl _) b5) (Nat.le_refl _) b6) (Nat.le_refl _) b7) (Nat.le_refl _) b8⟩
  rw [decide_eq_true x1, begin_val x1] at q4
  by_cases y1 : okW n 1 b 0
  rotate_left
  · rw [decide_eq_false y1] at q5
    generalize n * b = V at *
    generalize valW n 1 b 0 = V2 at *
    clear x1 y1
    go_wp2_with (first
      | (go_at_call 9; ((with_reducible refine (q1 _).mono ?_); rintro e w4 ⟨rfl, rfl⟩))
      | (go_at_call 10; ((with_reducible refine (q2 _).mono ?_); rintro e w5 ⟨rfl, b5⟩))
      | (go_at_call 11; ((with_reducible refine (q3 _).mono ?_); rintro e w6 ⟨rfl, b6⟩))
      | (go_at_call 10; ((with_reducible refine (q4 _).mono ?_); rintro e w7 ⟨rfl, b7⟩))
      | (go_at_call 11; ((with_reducible refine (q5 _).mono ?_); rintro e w8 ⟨rfl, b8⟩)))
    go_ret
    exact ⟨rfl, below_step (below_step (below_step (below_step b1 (Nat.le_refl _) b5) (Nat.le_refl _) b6) (Nat.le_refl _) b7) (Nat.le_refl _) b8⟩
  rw [decide_eq_true y1, end_val y1] at q5
  have hn0 := ((begin_iff hbW).1 x1).1.1
  have hn1 := ((end_iff hbW).1 y1).2
  obtain ⟨C, hC⟩ : ∃ C, C = n * b := ⟨_, rfl⟩
  have hC0 : 0 ≤ C := by rw [hC]; exact Int.mul_nonneg hn0 (by omega)
  rw [← hC] at q4 q5 hn1
  have key : ((n ≤ k ∧ k ≤ n) ∧ C ≤ B ∧ B ≤ C) ∨ (n < k ∧ C + b ≤ B) ∨ (k < n ∧ B + b ≤ C) := by
    rcases Int.lt_trichotomy n k with h | h | h
    · refine .inr (.inl ⟨h, ?_⟩)
      have := Int.mul_le_mul_of_nonneg_right (show n + 1 ≤ k by omega) (show 0 ≤ b by omega)
      rw [Int.add_mul, Int.one_mul] at this
      rw [hC, HB.out]; exact this
    · exact .inl ⟨by omega, by rw [hC, HB.out, h]; omega⟩
    · refine .inr (.inr ⟨h, ?_⟩)
      have := Int.mul_le_mul_of_nonneg_right (show k + 1 ≤ n by omega) (show 0 ≤ b by omega)
      rw [Int.add_mul, Int.one_mul] at this
      rw [hC, HB.out]; exact this
  clear x1 y1 hC HB
  have fin : n = k ↔ (C ≤ a ∧ a < C + b) := by omega
  clear key
  go_wp2_with (first
    | (go_at_call 9; ((with_reducible refine (q1 _).mono ?_); rintro e w4 ⟨rfl, rfl⟩))
    | (go_at_call 10; ((with_reducible refine (q2 _).mono ?_); rintro e w5 ⟨rfl, b5⟩))
    | (go_at_call 11; ((with_reducible refine (q3 _).mono ?_); rintro e w6 ⟨rfl, b6⟩))
    | (go_at_call 10; ((with_reducible refine (q4 _).mono ?_); rintro e w7 ⟨rfl, b7⟩))
    | (go_at_call 11; ((with_reducible refine (q5 _).mono ?_); rintro e w8 ⟨rfl, b8⟩)))
  all_goals
    go_ret
    exact ⟨by first | (simp; omega) | (simp; rw [Bool.eq_iff_iff]; simp; omega), below_step (below_step (below_step (below_step b1 (Nat.le_refl _) b5) (Nat.le_refl _) b6) (Nat.le_refl _) b7) (Nat.le_refl _) b8⟩
set_option maxRecDepth 100000 in
theorem lifted (os : Os) (started : os.Started) (H : Type) (enc : TypeId × Value → H) :
    ReturnsInHanded {} Try.checked os 3 .any (Rows.windowApartSpec.pre6 enc Try.prog Try.f3 Rows.windowApartRow.domain false) (Rows.windowApartSpec.post enc Try.prog Try.f3 false true false false) := by
  refine returnsInHanded_of_change (C := Try.checked) lawOwn started (by kernel_rfl) Try.func3
    (ChangeSpec.witness6 (enc := enc) (C := Try.checked) false ⟨#[], #[.int .i64 0, .int .i64 0, .int .i64 0], []⟩ 8 (by kernel_rfl) (by kernel_rfl) (by kernel_rfl) (by kernel_rfl)) ?_
  intro W base args ds gs before hval0 hW hcnd _
  have hval : ∀ (j : Nat) t v, Try.f3.params[j]? = some t → args[j]? = some v → Value.okWide Try.prog W .any base t v := hval0
  have hW' := hW
  obtain ⟨p, q, hA0, hV, rfl, hfz, hnd⟩ := hW
  have hA : DataW.TrodAll enc Try.prog W 0 (fun _ => true) true Try.f3.params.toList args.toList ds p := hA0
  rw [Try.params3] at hA hval
  obtain ⟨v0, vs0, d0, ds0, p0, q0, hargs, rfl, rfl, h0, r0⟩ := trodAll_cons hA
  obtain ⟨v1, vs1, d1, ds1, p1, q1, rfl, rfl, rfl, h1, r1⟩ := trodAll_cons r0
  obtain ⟨v2, vs2, d2, ds2, p2, q2, rfl, rfl, rfl, h2, r2⟩ := trodAll_cons r1
  obtain ⟨rfl, rfl, rfl⟩ := trodAll_nil r2
  obtain rfl : args = #[v0, v1, v2] := by cases args; simp_all
  obtain ⟨rfl, rfl⟩ := trodVars_none hV
  obtain ⟨a0, rfl, rfl, rfl, w0⟩ := open_int Try.underlying3 (hval 0 3 v0 rfl rfl) h0
  obtain ⟨a1, rfl, rfl, rfl, w1⟩ := open_int Try.underlying3 (hval 1 3 v1 rfl rfl) h1
  obtain ⟨a2, rfl, rfl, rfl, w2⟩ := open_int Try.underlying3 (hval 2 3 v2 rfl rfl) h2
  clear hA0 hval0 hcnd
  obtain ⟨l0, m0⟩ := i64_bounds w0
  obtain ⟨l1, m1⟩ := i64_bounds w1
  obtain ⟨l2, m2⟩ := i64_bounds w2
  refine (walk (w := W) a0 l0 m0 a1 l1 m1 a2 l2 m2).mono fun e W' ⟨he, bel⟩ => ?_
  subst he
  exact ⟨_, rfl, law_post rfl rfl (by kernel_rfl) hW' rfl bel⟩

theorem holds : Rows.WindowApartSaid :=
  OpenClaim.holds_of_wide 3 Try.f3 rfl rfl rfl rfl rfl rfl rfl ⟨rfl, rfl, rfl, rfl, rfl⟩ rfl rfl rfl rfl rfl (by kernel_rfl) Try.func3 (by kernel_rfl)
    (of_decide_eq_true (by kernel_rfl)) (by unfold Func.isWrapper; first | (rw [if_pos (by decide +kernel)]; kernel_rfl) | (rw [if_neg (by decide +kernel)]; exact ⟨rfl, rfl⟩))
    (fun os started H enc _ => lifted os started H enc)
end Go.Proofs.Ythhmncmbnbkhaaa.windowApart

theorem Go.Proofs.Ythhmncmbnbkhaaa.windowApart_holds : Go.Proofs.Ythhmncmbnbkhaaa.Rows.WindowApartSaid := Go.Proofs.Ythhmncmbnbkhaaa.windowApart.holds
#print axioms Go.Proofs.Ythhmncmbnbkhaaa.windowApart_holds
