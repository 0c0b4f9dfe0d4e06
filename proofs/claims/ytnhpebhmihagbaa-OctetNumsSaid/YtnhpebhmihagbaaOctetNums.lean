/-
  OctetNums: a number n (64 bits, no sign) that was put is read by Num(most) just if most is not below 0 and n is not above it; then it is told, and nothing is left; else 0 is told and the scanner is spoilt. For every n and most, no condition.
-/
import Derived.Test.YtnhpebhmihagbaaOctAwake
import Derived.Test.YtnhpebhmihagbaaOctRead
import Derived.Test.YtnhpebhmihagbaaLawFrame
namespace Go.Proofs.Ytnhpebhmihagbaa.octetNums
open Go.ChangeShapes Go.WideShapes Go.ChangeAt Go.RowKit

set_option maxHeartbeats 1600000 in
theorem walk (n : Nat) (hn : n < 18446744073709551616) (most : Int) (m1 : -9223372036854775808 ≤ most) (m2 : most ≤ 9223372036854775807) (w : World) :
    Calls Try.prog 7 #[.int .u64 n, .int .i64 most] w fun e w' => e = .returned (.bool true) ∧ Below w.heap.size w w' := by
  have hl : (Oct.putL n).length ≤ maxLen := by have := putL_le n hn; unfold maxLen; omega
  have HR := Lib.hid (fun w => read_any (Oct.putL n) w hl)
  clear hl
  by_cases hm : most < 0 ∨ most < n
  · obtain ⟨e1, e2⟩ := num_bad n hn [] most hm
    rw [List.append_nil] at e1 e2
    have HN : Hid (∀ b w, Scn b (some (Oct.putL n)) w → Calls Try.prog 24 #[.pointer (some ⟨b, 0, none⟩), .int .i64 most] w fun e w' => e = .returned (.int .i64 0) ∧ Scn b none w' ∧ Only b w w') := by
      intro b w h
      have := num_any b _ most w h m1 m2
      rw [e1, e2] at this
      exact this
    clear e1 e2
    by_cases h0 : most < 0
    · clear hm
      go_enter Try.func7, Try.ntmps7
      go_wp2_with (first
        | (go_at_call 11; refine (awake_any _).mono ?_; rintro e w1 ⟨rfl, b1⟩)
        | (go_at_call 14; refine (put_any _ _ hn).mono ?_; rintro e w2 ⟨rfl, b2⟩; replace b1 := below_step b1 (Nat.le_refl _) b2; clear b2)
        | (go_at_call 21; refine (HR.out _).mono ?_; rintro e w3 ⟨rfl, h3, b3⟩)
        | (go_at_call 24; refine (HN.out _ _ h3).mono ?_; rintro e w4 ⟨rfl, h4, o4⟩)
        | (go_at_call 33; refine (sound_any _ _ _ h4).mono ?_; rintro e w5 ⟨rfl, rfl⟩)
        | (go_at_call 34; refine (end_any _ _ _ h4).mono ?_; rintro e w6 ⟨rfl, rfl⟩))
      go_ret
      exact ⟨rfl, (below_step b1 (Nat.le_refl _) b3).trans (o4.below b1.size (Nat.le_trans b1.size b3.size))⟩
    · have hx : most < n := by omega
      clear hm
      go_enter Try.func7, Try.ntmps7
      go_wp2_with (first
        | (go_at_call 11; refine (awake_any _).mono ?_; rintro e w1 ⟨rfl, b1⟩)
        | (go_at_call 14; refine (put_any _ _ hn).mono ?_; rintro e w2 ⟨rfl, b2⟩; replace b1 := below_step b1 (Nat.le_refl _) b2; clear b2)
        | (go_at_call 21; refine (HR.out _).mono ?_; rintro e w3 ⟨rfl, h3, b3⟩)
        | (go_at_call 24; refine (HN.out _ _ h3).mono ?_; rintro e w4 ⟨rfl, h4, o4⟩)
        | (go_at_call 33; refine (sound_any _ _ _ h4).mono ?_; rintro e w5 ⟨rfl, rfl⟩)
        | (go_at_call 34; refine (end_any _ _ _ h4).mono ?_; rintro e w6 ⟨rfl, rfl⟩))
      go_ret
      exact ⟨rfl, (below_step b1 (Nat.le_refl _) b3).trans (o4.below b1.size (Nat.le_trans b1.size b3.size))⟩
  · have e1 := numV_put n hn [] most hm
    have e2 := numS_put n hn [] most hm
    rw [List.append_nil] at e1 e2
    have HN : Hid (∀ b w, Scn b (some (Oct.putL n)) w → Calls Try.prog 24 #[.pointer (some ⟨b, 0, none⟩), .int .i64 most] w fun e w' => e = .returned (.int .i64 n) ∧ Scn b (some []) w' ∧ Only b w w') := by
      intro b w h
      have := num_any b _ most w h m1 m2
      rw [e1, e2] at this
      exact this
    clear e1 e2
    have h0 : 0 ≤ most := by omega
    have hx : (n : Int) ≤ most := by omega
    clear hm
    go_enter Try.func7, Try.ntmps7
    go_wp2_with (first
      | (go_at_call 11; refine (awake_any _).mono ?_; rintro e w1 ⟨rfl, b1⟩)
      | (go_at_call 14; refine (put_any _ _ hn).mono ?_; rintro e w2 ⟨rfl, b2⟩; replace b1 := below_step b1 (Nat.le_refl _) b2; clear b2)
      | (go_at_call 21; refine (HR.out _).mono ?_; rintro e w3 ⟨rfl, h3, b3⟩)
      | (go_at_call 24; refine (HN.out _ _ h3).mono ?_; rintro e w4 ⟨rfl, h4, o4⟩)
      | (go_at_call 33; refine (sound_any _ _ _ h4).mono ?_; rintro e w5 ⟨rfl, rfl⟩)
      | (go_at_call 34; refine (end_any _ _ _ h4).mono ?_; rintro e w6 ⟨rfl, rfl⟩))
    go_ret
    exact ⟨rfl, (below_step b1 (Nat.le_refl _) b3).trans (o4.below b1.size (Nat.le_trans b1.size b3.size))⟩

set_option maxRecDepth 100000 in
theorem lifted (os : Os) (started : os.Started) (H : Type) (enc : TypeId × Value → H) :
    ReturnsInHanded {} Try.checked os 7 .any (Rows.octetNumsSpec.pre6 enc Try.prog Try.f7 Rows.octetNumsRow.domain false) (Rows.octetNumsSpec.post enc Try.prog Try.f7 false true false false) := by
  refine returnsInHanded_of_change (C := Try.checked) lawOwn started (by kernel_rfl) Try.func7
    (ChangeSpec.witness6 (enc := enc) (C := Try.checked) false ⟨#[], #[.int .u64 0, .int .i64 0], []⟩ 8 (by kernel_rfl) (by kernel_rfl) (by kernel_rfl) (by kernel_rfl)) ?_
  intro W base args ds gs before hval0 hW hcnd _
  have hval : ∀ (j : Nat) t v, Try.f7.params[j]? = some t → args[j]? = some v → Value.okWide Try.prog W .any base t v := hval0
  have hW' := hW
  obtain ⟨p, q, hA0, hV, rfl, hfz, hnd⟩ := hW
  have hA : DataW.TrodAll enc Try.prog W 0 (fun _ => true) true Try.f7.params.toList args.toList ds p := hA0
  rw [Try.params7] at hA hval
  obtain ⟨v0, vs0, d0, ds0, p0, q0, hargs, rfl, rfl, h0, r0⟩ := trodAll_cons hA
  obtain ⟨v1, vs1, d1, ds1, p1, q1, rfl, rfl, rfl, h1, r1⟩ := trodAll_cons r0
  obtain ⟨rfl, rfl, rfl⟩ := trodAll_nil r1
  obtain rfl : args = #[v0, v1] := by cases args; simp_all
  obtain ⟨rfl, rfl⟩ := trodVars_none hV
  obtain ⟨a0, rfl, rfl, rfl, w0⟩ := open_int Try.underlying22 (hval 0 22 v0 rfl rfl) h0
  obtain ⟨a1, rfl, rfl, rfl, w1⟩ := open_int Try.underlying3 (hval 1 3 v1 rfl rfl) h1
  clear hA0 hval0 hcnd
  obtain ⟨n0, rfl, l0⟩ := u64_nat w0
  obtain ⟨l1, m1⟩ := i64_bounds w1
  refine (walk (w := W) n0 l0 a1 l1 m1).mono fun e W' ⟨he, bel⟩ => ?_
  subst he
  exact ⟨_, rfl, law_post rfl rfl (by kernel_rfl) hW' rfl bel⟩

theorem holds : Rows.OctetNumsSaid :=
  OpenClaim.holds_of_wide 7 Try.f7 rfl rfl rfl rfl rfl rfl rfl ⟨rfl, rfl, rfl, rfl, rfl⟩ rfl rfl rfl rfl rfl (by kernel_rfl) Try.func7 (by kernel_rfl)
    (of_decide_eq_true (by kernel_rfl)) (by unfold Func.isWrapper; first | (rw [if_pos (by decide +kernel)]; kernel_rfl) | (rw [if_neg (by decide +kernel)]; exact ⟨rfl, rfl⟩))
    (fun os started H enc _ => lifted os started H enc)
end Go.Proofs.Ytnhpebhmihagbaa.octetNums

theorem Go.Proofs.Ytnhpebhmihagbaa.octetNums_holds : Go.Proofs.Ytnhpebhmihagbaa.Rows.OctetNumsSaid := Go.Proofs.Ytnhpebhmihagbaa.octetNums.holds
#print axioms Go.Proofs.Ytnhpebhmihagbaa.octetNums_holds
