/-
  OctetPuts: Put and Size of any number, Text of any text (cut to 1000 bytes), List of any texts (at most 12, cut to 100 bytes) tell what the document's own answer tells. For every input, no condition.
-/
import Derived.Test.YtnhpebhmihagbaaOctSame
import Derived.Test.YtnhpebhmihagbaaOctArgs
namespace Go.Proofs.Ytnhpebhmihagbaa.octetPuts
open Go.ChangeShapes Go.WideShapes Go.ChangeAt Go.RowKit

set_option maxHeartbeats 1600000 in
theorem walk (n : Nat) (hn : n < 18446744073709551616) (s : ByteArray) (_hs : s.size ≤ maxLen) (v : Value) (ts : List ByteArray) (w : World) (hv : StrRow w v ts) :
    Calls Try.prog 3 #[.int .u64 n, .string s, v] w fun e w' => e = .returned (.bool true) ∧ Below w.heap.size w w' := by
  have hsh : (shortB s 1000).size ≤ 1000 := shortB_size s 1000
  have hsz : ((Oct.need n : Int) + 1 == ((Oct.putB n).size : Int)) = true := by rw [Oct.putB_size]; simp; omega
  have hfl := fewL_length ts
  have HF := Lib.hid (few_small ts)
  go_enter Try.func3, Try.ntmps3
  go_wp2_with (first
    | (go_at_call 11; refine (awake_any _).mono ?_; rintro e w1 ⟨rfl, b1⟩)
    | (go_at_call 12; refine (short_1000 _ _).mono ?_; rintro e w2 ⟨rfl, rfl⟩)
    | (go_at_call 13; refine (few_any _ _ _ (hv.old b1)).mono ?_; rintro e w3 ⟨v', rfl, hr, b3⟩; replace b1 := below_step b1 (Nat.le_refl _) b3; clear b3)
    | (go_at_call 14; refine (put_any _ _ hn).mono ?_; rintro e w2 ⟨rfl, b2⟩; replace b1 := below_step b1 (Nat.le_refl _) b2; replace hr := hr.old b2; clear b2)
    | (go_at_call 15; refine (refPut_any _ _ hn).mono ?_; rintro e w2 ⟨rfl, b2⟩; replace b1 := below_step b1 (Nat.le_refl _) b2; replace hr := hr.old b2; clear b2)
    | (go_at_call 16; refine (size_any _ _ hn).mono ?_; rintro e w2 ⟨rfl, rfl⟩)
    | (go_at_call 17; refine (textPut_any _ _ (by omega)).mono ?_; rintro e w2 ⟨rfl, b2⟩; replace b1 := below_step b1 (Nat.le_refl _) b2; replace hr := hr.old b2; clear b2)
    | (go_at_call 18; refine (refText_any _ _ (by omega)).mono ?_; rintro e w2 ⟨rfl, b2⟩; replace b1 := below_step b1 (Nat.le_refl _) b2; replace hr := hr.old b2; clear b2)
    | (go_at_call 19; refine (listPut_any _ _ _ hr hfl HF.out).mono ?_; rintro e w2 ⟨rfl, b2⟩; replace b1 := below_step b1 (Nat.le_refl _) b2; replace hr := hr.old b2; clear b2)
    | (go_at_call 20; refine (refList_any _ _ _ hr hfl HF.out).mono ?_; rintro e w2 ⟨rfl, b2⟩; replace b1 := below_step b1 (Nat.le_refl _) b2; replace hr := hr.old b2; clear b2))
  go_ret
  exact ⟨rfl, b1⟩

set_option maxRecDepth 100000 in
theorem lifted (os : Os) (started : os.Started) (H : Type) (enc : TypeId × Value → H) :
    ReturnsInHanded {} Try.checked os 3 .any (Rows.octetPutsSpec.pre6 enc Try.prog Try.f3 Rows.octetPutsRow.domain false) (Rows.octetPutsSpec.post enc Try.prog Try.f3 false true false false) := by
  refine returnsInHanded_of_change (C := Try.checked) lawOwn started (by kernel_rfl) Try.func3
    (ChangeSpec.witness6 (enc := enc) (C := Try.checked) false ⟨#[], #[.int .u64 0, .string .empty, .slice none 0 0], []⟩ 8 (by kernel_rfl) (by kernel_rfl) (by kernel_rfl) (by kernel_rfl)) ?_
  intro W base args ds gs before hval0 hW hcnd _
  have hval : ∀ (j : Nat) t v, Try.f3.params[j]? = some t → args[j]? = some v → Value.okWide Try.prog W .any base t v := hval0
  have hW' := hW
  obtain ⟨p, q, hA0, hV, rfl, hfz, hnd⟩ := hW
  have hA : DataW.TrodAll enc Try.prog W 0 (fun _ => true) true Try.f3.params.toList args.toList ds p := hA0
  rw [Try.params3] at hA hval
  obtain ⟨v0, vs0, d0, ds0, p0, q0, hargs, rfl, rfl, h0, r0⟩ := trodAll_cons hA
  obtain ⟨v1, vs1, d1, ds1, p1, q1, rfl, rfl, rfl, h1, r1⟩ := trodAll_cons r0
  obtain ⟨v2, vs2, d2, ds2, p2, q2, rfl, rfl, rfl, h2, r2⟩ := trodAll_cons r1
  obtain ⟨rfl, rfl, rfl⟩ := trodAll_nil r2
  obtain rfl : args = #[v0, v1, v2] := by cases args; simp_all
  obtain ⟨rfl, rfl⟩ := trodVars_none hV
  obtain ⟨a0, rfl, rfl, rfl, w0⟩ := open_int Try.underlying22 (hval 0 22 v0 rfl rfl) h0
  obtain ⟨s1, rfl, rfl, rfl, w1⟩ := Go.ChangeMaps.open_string Try.underlying9 (hval 1 9 v1 rfl rfl) h1
  obtain ⟨a2, len2, cap2, rfl⟩ := okWide_slice Try.underlying23 (hval 2 23 v2 rfl rfl)
  obtain ⟨ss2, w2⟩ := strRow_of h2
  clear hA0 hval0 hcnd
  obtain ⟨n0, rfl, l0⟩ := u64_nat w0
  refine (walk (w := W) n0 l0 s1 w1 _ ss2 w2).mono fun e W' ⟨he, bel⟩ => ?_
  subst he
  exact ⟨_, rfl, law_post rfl rfl (by kernel_rfl) hW' rfl bel⟩

theorem holds : Rows.OctetPutsSaid :=
  OpenClaim.holds_of_wide 3 Try.f3 rfl rfl rfl rfl rfl rfl rfl ⟨rfl, rfl, rfl, rfl, rfl⟩ rfl rfl rfl rfl rfl (by kernel_rfl) Try.func3 (by kernel_rfl)
    (of_decide_eq_true (by kernel_rfl)) (by unfold Func.isWrapper; first | (rw [if_pos (by decide +kernel)]; kernel_rfl) | (rw [if_neg (by decide +kernel)]; exact ⟨rfl, rfl⟩))
    (fun os started H enc _ => lifted os started H enc)
end Go.Proofs.Ytnhpebhmihagbaa.octetPuts

theorem Go.Proofs.Ytnhpebhmihagbaa.octetPuts_holds : Go.Proofs.Ytnhpebhmihagbaa.Rows.OctetPutsSaid := Go.Proofs.Ytnhpebhmihagbaa.octetPuts.holds
#print axioms Go.Proofs.Ytnhpebhmihagbaa.octetPuts_holds
