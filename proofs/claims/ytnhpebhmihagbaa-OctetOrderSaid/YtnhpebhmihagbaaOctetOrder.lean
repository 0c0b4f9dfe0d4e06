/-
  OctetOrder: of any two numbers a and b (64 bits, no sign) the bytes that Put tells are in the order of the numbers; Size tells how many bytes there are, 1 to 9. For every input, no condition.
-/
import Derived.Test.YtnhpebhmihagbaaOctAwake
import Derived.Test.YtnhpebhmihagbaaOctLess
import Derived.Test.YtnhpebhmihagbaaLawFrame
namespace Go.Proofs.Ytnhpebhmihagbaa.octetOrder
open Go.ChangeShapes Go.WideShapes Go.ChangeAt Go.RowKit

set_option maxHeartbeats 1600000 in
theorem walk (a b : Nat) (ha : a < 18446744073709551616) (hb : b < 18446744073709551616) (w : World) :
    Calls Try.prog 10 #[.int .u64 a, .int .u64 b] w fun e w' => e = .returned (.bool true) ∧ Below w.heap.size w w' := by
  have hl := Oct.put_less a b ha hb
  have hs : (Oct.need a : Int) + 1 = ((Oct.putB a).size : Int) := by rw [Oct.putB_size]; omega
  have h9 : ((Oct.putB a).size : Int) ≤ 9 := by have := Oct.need_le a ha; omega
  have h1 : 1 ≤ ((Oct.putB a).size : Int) := by omega
  go_enter Try.func10, Try.ntmps10
  go_wp2_with (first
    | (go_at_call 11; refine (awake_any _).mono ?_; rintro e w1 ⟨rfl, b1⟩)
    | (go_at_call 14; refine (put_any _ _ (by assumption)).mono ?_; rintro e w2 ⟨rfl, b2⟩; replace b1 := below_step b1 (Nat.le_refl _) b2; clear b2)
    | (go_at_call 16; refine (size_any _ _ (by assumption)).mono ?_; rintro e w3 ⟨rfl, rfl⟩))
  go_ret
  exact ⟨rfl, b1⟩

set_option maxRecDepth 100000 in
theorem lifted (os : Os) (started : os.Started) (H : Type) (enc : TypeId × Value → H) :
    ReturnsInHanded {} Try.checked os 10 .any (Rows.octetOrderSpec.pre6 enc Try.prog Try.f10 Rows.octetOrderRow.domain false) (Rows.octetOrderSpec.post enc Try.prog Try.f10 false true false false) := by
  refine returnsInHanded_of_change (C := Try.checked) lawOwn started (by kernel_rfl) Try.func10
    (ChangeSpec.witness6 (enc := enc) (C := Try.checked) false ⟨#[], #[.int .u64 0, .int .u64 0], []⟩ 8 (by kernel_rfl) (by kernel_rfl) (by kernel_rfl) (by kernel_rfl)) ?_
  intro W base args ds gs before hval0 hW hcnd _
  have hval : ∀ (j : Nat) t v, Try.f10.params[j]? = some t → args[j]? = some v → Value.okWide Try.prog W .any base t v := hval0
  have hW' := hW
  obtain ⟨p, q, hA0, hV, rfl, hfz, hnd⟩ := hW
  have hA : DataW.TrodAll enc Try.prog W 0 (fun _ => true) true Try.f10.params.toList args.toList ds p := hA0
  rw [Try.params10] at hA hval
  obtain ⟨v0, vs0, d0, ds0, p0, q0, hargs, rfl, rfl, h0, r0⟩ := trodAll_cons hA
  obtain ⟨v1, vs1, d1, ds1, p1, q1, rfl, rfl, rfl, h1, r1⟩ := trodAll_cons r0
  obtain ⟨rfl, rfl, rfl⟩ := trodAll_nil r1
  obtain rfl : args = #[v0, v1] := by cases args; simp_all
  obtain ⟨rfl, rfl⟩ := trodVars_none hV
  obtain ⟨a0, rfl, rfl, rfl, w0⟩ := open_int Try.underlying22 (hval 0 22 v0 rfl rfl) h0
  obtain ⟨a1, rfl, rfl, rfl, w1⟩ := open_int Try.underlying22 (hval 1 22 v1 rfl rfl) h1
  clear hA0 hval0 hcnd
  obtain ⟨n0, rfl, l0⟩ := u64_nat w0
  obtain ⟨n1, rfl, l1⟩ := u64_nat w1
  refine (walk n0 n1 l0 l1 W).mono fun e W' ⟨he, bel⟩ => ?_
  subst he
  exact ⟨_, rfl, law_post rfl rfl (by kernel_rfl) hW' rfl bel⟩

theorem holds : Rows.OctetOrderSaid :=
  OpenClaim.holds_of_wide 10 Try.f10 rfl rfl rfl rfl rfl rfl rfl ⟨rfl, rfl, rfl, rfl, rfl⟩ rfl rfl rfl rfl rfl (by kernel_rfl) Try.func10 (by kernel_rfl)
    (of_decide_eq_true (by kernel_rfl)) (by unfold Func.isWrapper; first | (rw [if_pos (by decide +kernel)]; kernel_rfl) | (rw [if_neg (by decide +kernel)]; exact ⟨rfl, rfl⟩))
    (fun os started H enc _ => lifted os started H enc)
end Go.Proofs.Ytnhpebhmihagbaa.octetOrder

theorem Go.Proofs.Ytnhpebhmihagbaa.octetOrder_holds : Go.Proofs.Ytnhpebhmihagbaa.Rows.OctetOrderSaid := Go.Proofs.Ytnhpebhmihagbaa.octetOrder.holds
#print axioms Go.Proofs.Ytnhpebhmihagbaa.octetOrder_holds
