/-
  OctetNil: of no scanner (nil) each call tells nothing: 0, no text, no list, ErrForm; a zero scanner is sound, at its end, has no number, and is then spoilt. For every bound most, no condition.
-/
import Derived.Test.YtnhpebhmihagbaaOctNone
import Derived.Test.YtnhpebhmihagbaaLawFrame
namespace Go.Proofs.Ytnhpebhmihagbaa.octetNil
open Go.ChangeShapes Go.WideShapes Go.ChangeAt Go.RowKit

set_option maxHeartbeats 1600000 in
theorem walk (most : Int) (m1 : -9223372036854775808 ≤ most) (m2 : most ≤ 9223372036854775807) (w : World) :
    Calls Try.prog 9 #[.int .i64 most] w fun e w' => e = .returned (.bool true) ∧ Below w.heap.size w w' := by
  have hn : Oct.num? [] = none := by decide
  have HN := Lib.hid hn
  have HZ := Lib.hid (Scn.alloc [] w (by decide))
  clear hn
  go_enter Try.func9, Try.ntmps9
  go_wp2_with (first
    | (go_at_call 11; refine (awake_any _).mono ?_; rintro e w1 ⟨rfl, b1⟩)
    | (go_at_call 22; (with_reducible refine (long_nil _).mono ?_); rintro e w1 ⟨rfl, rfl⟩)
    | (go_at_call 24; (with_reducible refine (num_nil _ m1 m2 _).mono ?_); rintro e w1 ⟨rfl, rfl⟩)
    | (go_at_call 26; (with_reducible refine (text_nil _ m1 m2 _).mono ?_); rintro e w1 ⟨rfl, rfl⟩)
    | (go_at_call 29; (with_reducible refine (list_nil _ m1 m2 _).mono ?_); rintro e w2 ⟨rfl, b2⟩)
    | (go_at_call 31; (with_reducible refine (left_nil _).mono ?_); rintro e w1 ⟨rfl, rfl⟩)
    | (go_at_call 33; (with_reducible refine (sound_nil _).mono ?_); rintro e w1 ⟨rfl, rfl⟩)
    | (go_at_call 34; (with_reducible refine (end_nil _).mono ?_); rintro e w1 ⟨rfl, rfl⟩))
  have h2 : Scn w.heap.size (some []) w2 := (HZ.out.old b1 (by simp)).old b2 (by have := b1.size; simp at this; omega)
  have bb : Below w.heap.size w w2 := below_step ((((Below.refl _ _).alloc (Nat.le_refl _) _).trans (b1.mono (by simp)))) (Nat.le_refl _) b2
  clear b1 b2
  go_wp2_with (first
    | (go_at_call 22; refine (long_none _ _ _ h2 HN.out).mono ?_; rintro e w3 ⟨rfl, h3, o3⟩)
    | (go_at_call 33; ((with_reducible refine (sound_any _ _ _ h2).mono ?_); rintro e w4 ⟨rfl, rfl⟩))
    | (go_at_call 33; ((with_reducible refine (sound_any _ _ _ h3).mono ?_); rintro e w4 ⟨rfl, rfl⟩))
    | (go_at_call 34; refine (end_any _ _ _ h2).mono ?_; rintro e w5 ⟨rfl, rfl⟩))
  go_ret
  exact ⟨rfl, bb.trans (o3.below (Nat.le_refl _) bb.size)⟩

set_option maxRecDepth 100000 in
theorem lifted (os : Os) (started : os.Started) (H : Type) (enc : TypeId × Value → H) :
    ReturnsInHanded {} Try.checked os 9 .any (Rows.octetNilSpec.pre6 enc Try.prog Try.f9 Rows.octetNilRow.domain false) (Rows.octetNilSpec.post enc Try.prog Try.f9 false true false false) := by
  refine returnsInHanded_of_change (C := Try.checked) lawOwn started (by kernel_rfl) Try.func9
    (ChangeSpec.witness6 (enc := enc) (C := Try.checked) false ⟨#[], #[.int .i64 0], []⟩ 8 (by kernel_rfl) (by kernel_rfl) (by kernel_rfl) (by kernel_rfl)) ?_
  intro W base args ds gs before hval0 hW hcnd _
  have hval : ∀ (j : Nat) t v, Try.f9.params[j]? = some t → args[j]? = some v → Value.okWide Try.prog W .any base t v := hval0
  have hW' := hW
  obtain ⟨p, q, hA0, hV, rfl, hfz, hnd⟩ := hW
  have hA : DataW.TrodAll enc Try.prog W 0 (fun _ => true) true Try.f9.params.toList args.toList ds p := hA0
  rw [Try.params9] at hA hval
  obtain ⟨v0, vs0, d0, ds0, p0, q0, hargs, rfl, rfl, h0, r0⟩ := trodAll_cons hA
  obtain ⟨rfl, rfl, rfl⟩ := trodAll_nil r0
  obtain rfl : args = #[v0] := by cases args; simp_all
  obtain ⟨rfl, rfl⟩ := trodVars_none hV
  obtain ⟨a0, rfl, rfl, rfl, w0⟩ := open_int Try.underlying3 (hval 0 3 v0 rfl rfl) h0
  clear hA0 hval0 hcnd
  obtain ⟨l0, m0⟩ := i64_bounds w0
  refine (walk (w := W) a0 l0 m0).mono fun e W' ⟨he, bel⟩ => ?_
  subst he
  exact ⟨_, rfl, law_post rfl rfl (by kernel_rfl) hW' rfl bel⟩

theorem holds : Rows.OctetNilSaid :=
  OpenClaim.holds_of_wide 9 Try.f9 rfl rfl rfl rfl rfl rfl rfl ⟨rfl, rfl, rfl, rfl, rfl⟩ rfl rfl rfl rfl rfl (by kernel_rfl) Try.func9 (by kernel_rfl)
    (of_decide_eq_true (by kernel_rfl)) (by unfold Func.isWrapper; first | (rw [if_pos (by decide +kernel)]; kernel_rfl) | (rw [if_neg (by decide +kernel)]; exact ⟨rfl, rfl⟩))
    (fun os started H enc _ => lifted os started H enc)
end Go.Proofs.Ytnhpebhmihagbaa.octetNil

theorem Go.Proofs.Ytnhpebhmihagbaa.octetNil_holds : Go.Proofs.Ytnhpebhmihagbaa.Rows.OctetNilSaid := Go.Proofs.Ytnhpebhmihagbaa.octetNil.holds
#print axioms Go.Proofs.Ytnhpebhmihagbaa.octetNil_holds
