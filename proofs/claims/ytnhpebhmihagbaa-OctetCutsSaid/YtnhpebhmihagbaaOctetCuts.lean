/-
  OctetCuts: of the list of any texts (at most 12, cut to 100 bytes), cut short at any place, nothing is read: List tells nothing and the scanner is spoilt: nothing is left, and Long and Text tell nothing. For every input, no condition.
-/
import Derived.Test.YtnhpebhmihagbaaOctCutPure
import Derived.Test.YtnhpebhmihagbaaOctArgs
namespace Go.Proofs.Ytnhpebhmihagbaa.octetCuts
open Go.ChangeShapes Go.WideShapes Go.ChangeAt Go.RowKit

theorem cut_neg (a : Int) (L : Nat) (ha : a < 0) (hL : 0 < L) : ∃ j : Nat, (a + 1).tmod (L : Int) = -(j : Int) ∧ j < L := by
  have h1 := Int.emod_nonneg (-(a + 1)) (show (L : Int) ≠ 0 by omega)
  have h2 := Int.emod_lt_of_pos (-(a + 1)) (show 0 < (L : Int) by omega)
  refine ⟨(-(a + 1) % (L : Int)).toNat, ?_, by omega⟩
  have e : (a + 1) = -(-(a + 1)) := by omega
  rw [e, Int.neg_tmod, Int.tmod_eq_emod_of_nonneg (by omega), ← e]
  omega

theorem cut_pos (a : Int) (L : Nat) (_ha : 0 ≤ a) (hL : 0 < L) : ∃ j : Nat, a % (L : Int) = (j : Int) ∧ j < L := by
  have h1 := Int.emod_nonneg a (show (L : Int) ≠ 0 by omega)
  have h2 := Int.emod_lt_of_pos a (show 0 < (L : Int) by omega)
  exact ⟨(a % (L : Int)).toNat, by omega, by omega⟩

theorem cut_data (us : List ByteArray) (j : Nat) : ((⟨(listL us).toArray⟩ : ByteArray).extract 0 j).data.toList = (listL us).take j := by
  rw [Lib.extract_data]
  simp

/-- What List leaves of what was cut. -/
theorem list_cutten (b : Nat) (us : List ByteArray) (j : Nat) (w : World) (hl : us.length ≤ 12) (hus : ∀ t ∈ us, t.size ≤ 1000) (hj : j < (listL us).length) (hL : (listL us).length ≤ 20000) (h : Scn b (some ((listL us).take j)) w) :
    Calls Try.prog 29 #[.pointer (some ⟨b, 0, none⟩), .int .i64 1048576] w (ListPost b w ([], none)) := by
  have := list_any b _ 1048576 w h (by decide) (by decide) (by rw [Option.getD_some, List.length_take]; omega)
  rw [list_cut us hl hus 1048576 (by decide) j hj] at this
  exact this

theorem text_9 (b : Nat) (w : World) (h : Scn b none w) : Calls Try.prog 26 #[.pointer (some ⟨b, 0, none⟩), .int .i64 9] w fun e w' => e = .returned (.string ⟨#[]⟩) ∧ Scn b none w' ∧ Only b w w' :=
  text_spoilt b none 9 w h (by decide) (by decide) rfl

set_option maxHeartbeats 3200000 in
theorem walk (v : Value) (ts : List ByteArray) (w : World) (hv : StrRow w v ts) (at_ : Int) (m1 : -9223372036854775808 ≤ at_) (m2 : at_ ≤ 9223372036854775807) :
    Calls Try.prog 8 #[v, .int .i64 at_] w fun e w' => e = .returned (.bool true) ∧ Below w.heap.size w w' := by
  obtain ⟨us, hus⟩ : ∃ us, us = fewL ts := ⟨_, rfl⟩
  have hlen : us.length ≤ 12 := by rw [hus]; exact fewL_length ts
  have HS : Hid (∀ t ∈ us, t.size ≤ 1000) := by rw [hus]; exact few_small ts
  have hfew := fun w h => few_any v ts w h
  rw [← hus] at hfew
  have HF := Lib.hid hfew
  clear hfew hus
  have hll : (listL us).length ≤ 20000 := by
    have := putL_len us.length (by omega)
    have := txts_length us HS.out
    rw [listL, List.length_append]; omega
  have hpos := listL_pos us
  have hp0 : (((listL us).length : Int) == 0) = false := by rw [beq_eq_false_iff_ne]; omega
  by_cases hneg : at_ < 0
  · obtain ⟨j, hj, hjl⟩ := cut_neg at_ (listL us).length hneg hpos
    have HD := Lib.hid (cut_data us j)
    have hjc : (j : Int) ≤ ((listL us).length : Int) := by omega
    have hj0 : (0 : Int) ≤ (j : Int) := by omega
    go_enter Try.func8, Try.ntmps8
    go_wp2_with (first
      | (go_at_call 11; refine (awake_any _).mono ?_; rintro e w1 ⟨rfl, b1⟩)
      | (go_at_call 13; refine (HF.out _ (hv.old b1)).mono ?_; rintro e w3 ⟨v', rfl, hrow, b3⟩; replace b1 := below_step b1 (Nat.le_refl _) b3; clear b3)
      | (go_at_call 19; refine (listPut_any _ _ _ hrow hlen HS.out).mono ?_; rintro e w2 ⟨rfl, b2⟩; replace b1 := below_step b1 (Nat.le_refl _) b2; clear b2 hrow)
      | (go_at_call 21; refine (read_str _ _ (by unfold maxLen; rw [Lib.size_eq, HD.out, List.length_take]; omega)).mono ?_; rintro e w4 ⟨rfl, h4, b4⟩; rw [HD.out] at h4; have hbb := b1.size; replace b1 := below_step b1 (Nat.le_refl _) b4; clear b4)
      | (go_at_call 29; refine (list_cutten _ us j _ hlen HS.out hjl hll h4).mono ?_; rintro e w5 ⟨v5, rfl, ⟨a5, c5, rfl, _, _⟩, h5, o5⟩; replace b1 := b1.trans (o5.below hbb b1.size); clear h4 o5)
      | (go_at_call 33; refine (sound_any _ _ _ h5).mono ?_; rintro e w9 ⟨rfl, rfl⟩)
      | (go_at_call 31; refine (left_any _ _ _ h5).mono ?_; rintro e w9 ⟨rfl, rfl⟩)
      | (go_at_call 22; refine (long_spoilt _ _ h5).mono ?_; rintro e w9 ⟨rfl, rfl⟩)
      | (go_at_call 26; refine (text_9 _ _ h5).mono ?_; rintro e w6 ⟨rfl, h6, o6⟩; replace b1 := b1.trans (o6.below hbb b1.size); clear h5 o6))
    go_ret
    exact ⟨rfl, b1⟩
  · obtain ⟨j, hj, hjl⟩ := cut_pos at_ (listL us).length (by omega) hpos
    have hat : 0 ≤ at_ := by omega
    have HD := Lib.hid (cut_data us j)
    have hjc : (j : Int) ≤ ((listL us).length : Int) := by omega
    have hj0 : (0 : Int) ≤ (j : Int) := by omega
    clear hneg
    go_enter Try.func8, Try.ntmps8
    go_wp2_with (first
      | (go_at_call 11; refine (awake_any _).mono ?_; rintro e w1 ⟨rfl, b1⟩)
      | (go_at_call 13; refine (HF.out _ (hv.old b1)).mono ?_; rintro e w3 ⟨v', rfl, hrow, b3⟩; replace b1 := below_step b1 (Nat.le_refl _) b3; clear b3)
      | (go_at_call 19; refine (listPut_any _ _ _ hrow hlen HS.out).mono ?_; rintro e w2 ⟨rfl, b2⟩; replace b1 := below_step b1 (Nat.le_refl _) b2; clear b2 hrow)
      | (go_at_call 21; refine (read_str _ _ (by unfold maxLen; rw [Lib.size_eq, HD.out, List.length_take]; omega)).mono ?_; rintro e w4 ⟨rfl, h4, b4⟩; rw [HD.out] at h4; have hbb := b1.size; replace b1 := below_step b1 (Nat.le_refl _) b4; clear b4)
      | (go_at_call 29; refine (list_cutten _ us j _ hlen HS.out hjl hll h4).mono ?_; rintro e w5 ⟨v5, rfl, ⟨a5, c5, rfl, _, _⟩, h5, o5⟩; replace b1 := b1.trans (o5.below hbb b1.size); clear h4 o5)
      | (go_at_call 33; refine (sound_any _ _ _ h5).mono ?_; rintro e w9 ⟨rfl, rfl⟩)
      | (go_at_call 31; refine (left_any _ _ _ h5).mono ?_; rintro e w9 ⟨rfl, rfl⟩)
      | (go_at_call 22; refine (long_spoilt _ _ h5).mono ?_; rintro e w9 ⟨rfl, rfl⟩)
      | (go_at_call 26; refine (text_9 _ _ h5).mono ?_; rintro e w6 ⟨rfl, h6, o6⟩; replace b1 := b1.trans (o6.below hbb b1.size); clear h5 o6))
    go_ret
    exact ⟨rfl, b1⟩

set_option maxRecDepth 100000 in
theorem lifted (os : Os) (started : os.Started) (H : Type) (enc : TypeId × Value → H) :
    ReturnsInHanded {} Try.checked os 8 .any (Rows.octetCutsSpec.pre6 enc Try.prog Try.f8 Rows.octetCutsRow.domain false) (Rows.octetCutsSpec.post enc Try.prog Try.f8 false true false false) := by
  refine returnsInHanded_of_change (C := Try.checked) lawOwn started (by kernel_rfl) Try.func8
    (ChangeSpec.witness6 (enc := enc) (C := Try.checked) false ⟨#[], #[.slice none 0 0, .int .i64 0], []⟩ 8 (by kernel_rfl) (by kernel_rfl) (by kernel_rfl) (by kernel_rfl)) ?_
  intro W base args ds gs before hval0 hW hcnd _
  have hval : ∀ (j : Nat) t v, Try.f8.params[j]? = some t → args[j]? = some v → Value.okWide Try.prog W .any base t v := hval0
  have hW' := hW
  obtain ⟨p, q, hA0, hV, rfl, hfz, hnd⟩ := hW
  have hA : DataW.TrodAll enc Try.prog W 0 (fun _ => true) true Try.f8.params.toList args.toList ds p := hA0
  rw [Try.params8] at hA hval
  obtain ⟨v0, vs0, d0, ds0, p0, q0, hargs, rfl, rfl, h0, r0⟩ := trodAll_cons hA
  obtain ⟨v1, vs1, d1, ds1, p1, q1, rfl, rfl, rfl, h1, r1⟩ := trodAll_cons r0
  obtain ⟨rfl, rfl, rfl⟩ := trodAll_nil r1
  obtain rfl : args = #[v0, v1] := by cases args; simp_all
  obtain ⟨rfl, rfl⟩ := trodVars_none hV
  obtain ⟨a0, len0, cap0, rfl⟩ := okWide_slice Try.underlying23 (hval 0 23 v0 rfl rfl)
  obtain ⟨ss0, w0⟩ := strRow_of h0
  obtain ⟨a1, rfl, rfl, rfl, w1⟩ := open_int Try.underlying3 (hval 1 3 v1 rfl rfl) h1
  clear hA0 hval0 hcnd
  obtain ⟨l1, m1⟩ := i64_bounds w1
  refine (walk (w := W) _ ss0 w0 a1 l1 m1).mono fun e W' ⟨he, bel⟩ => ?_
  subst he
  exact ⟨_, rfl, law_post rfl rfl (by kernel_rfl) hW' rfl bel⟩

theorem holds : Rows.OctetCutsSaid :=
  OpenClaim.holds_of_wide 8 Try.f8 rfl rfl rfl rfl rfl rfl rfl ⟨rfl, rfl, rfl, rfl, rfl⟩ rfl rfl rfl rfl rfl (by kernel_rfl) Try.func8 (by kernel_rfl)
    (of_decide_eq_true (by kernel_rfl)) (by unfold Func.isWrapper; first | (rw [if_pos (by decide +kernel)]; kernel_rfl) | (rw [if_neg (by decide +kernel)]; exact ⟨rfl, rfl⟩))
    (fun os started H enc _ => lifted os started H enc)
end Go.Proofs.Ytnhpebhmihagbaa.octetCuts

theorem Go.Proofs.Ytnhpebhmihagbaa.octetCuts_holds : Go.Proofs.Ytnhpebhmihagbaa.Rows.OctetCutsSaid := Go.Proofs.Ytnhpebhmihagbaa.octetCuts.holds
#print axioms Go.Proofs.Ytnhpebhmihagbaa.octetCuts_holds
