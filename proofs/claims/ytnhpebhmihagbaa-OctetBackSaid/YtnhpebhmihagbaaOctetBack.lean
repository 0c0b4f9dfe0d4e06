/-
  OctetBack: any number, the first of any texts and the list of them (at most 12, cut to 100 bytes), put one behind the other with any bytes behind (cut to 100), are read again as they were, and those bytes are left. For every input, no condition.
-/
import Derived.Test.YtnhpebhmihagbaaOctPutRead
import Derived.Test.YtnhpebhmihagbaaOctArgs
namespace Go.Proofs.Ytnhpebhmihagbaa.octetBack
open Go.ChangeShapes Go.WideShapes Go.ChangeAt Go.RowKit

theorem all_bytes (n : Nat) (t : ByteArray) (us : List ByteArray) (r : ByteArray) :
    (((Oct.putB n ++ (Oct.putB t.size ++ t)) ++ ⟨(listL us).toArray⟩) ++ r).data.toList = Oct.putL n ++ (txtL t ++ (listL us ++ r.data.toList)) := by
  simp [ByteArray.data_append, txtL, Oct.putB]

theorem end_empty (r : ByteArray) : ((endV (some r.data.toList) == 0) == r.toList.isEmpty) = true := by
  rw [Lib.toList_data]
  cases h : r.data.toList with
  | nil => rfl
  | cons b l => simp [endV]

theorem few_head (us : List ByteArray) (h : ∀ t ∈ us, t.size ≤ 100) : (us.getD 0 ByteArray.empty).size ≤ 100 := by
  cases us with
  | nil => decide
  | cons t r => exact h t (by simp)

theorem few_100 (ts : List ByteArray) : ∀ t ∈ fewL ts, t.size ≤ 100 := by
  intro t ht
  simp only [fewL, List.mem_map] at ht
  obtain ⟨x, _, rfl⟩ := ht
  exact shortB_size x 100

set_option maxHeartbeats 3200000 in
theorem walk (n : Nat) (hn : n < 18446744073709551616) (v : Value) (ts : List ByteArray) (w : World) (hv : StrRow w v ts) (rest : ByteArray) (_hs : rest.size ≤ maxLen) :
    Calls Try.prog 5 #[.int .u64 n, v, .string rest] w fun e w' => e = .returned (.bool true) ∧ Below w.heap.size w w' := by
  obtain ⟨us, hus⟩ : ∃ us, us = fewL ts := ⟨_, rfl⟩
  obtain ⟨r, hr⟩ : ∃ r, r = shortB rest 100 := ⟨_, rfl⟩
  have hrs : r.size ≤ 100 := by rw [hr]; exact shortB_size rest 100
  have hlen : us.length ≤ 12 := by rw [hus]; exact fewL_length ts
  have HS : Hid (∀ t ∈ us, t.size ≤ 1000) := by rw [hus]; exact few_small ts
  have HH : Hid (∀ t ∈ us, t.size ≤ 100) := by rw [hus]; exact few_100 ts
  have hfew := fun w h => few_any v ts w h
  rw [← hus] at hfew
  have hsh := fun w => short_100 rest w
  rw [← hr] at hsh
  have HF := Lib.hid hfew
  have HSh := Lib.hid hsh
  clear hfew hsh hus hr
  have hp9 : (Oct.putB n).size ≤ 9 := by have := Oct.need_le n hn; rw [Oct.putB_size]; omega
  have hll : (listL us).length ≤ 20000 := by
    have := putL_len us.length (by omega)
    have := txts_length us HS.out
    rw [listL, List.length_append]; omega
  have hlB : (⟨(listL us).toArray⟩ : ByteArray).size ≤ 20000 := by rw [size_mk]; exact hll
  go_enter Try.func5, Try.ntmps5
  go_wp2_with (first
    | (go_at_call 11; refine (awake_any _).mono ?_; rintro e w1 ⟨rfl, b1⟩)
    | (go_at_call 13; refine (HF.out _ (hv.old b1)).mono ?_; rintro e w3 ⟨v', rfl, hrow, b3⟩; replace b1 := below_step b1 (Nat.le_refl _) b3; clear b3)
    | (go_at_call 12; fail))
  obtain ⟨a, cap, hv', _, hc⟩ := id hrow
  subst hv'
  obtain ⟨t, htv⟩ : ∃ t, t = us.getD 0 ByteArray.empty := ⟨_, rfl⟩
  have hts : t.size ≤ 100 := by rw [htv]; exact few_head us HH.out
  have htB : (Oct.putB t.size).size ≤ 9 := by have := Oct.need_le t.size (by omega); rw [Oct.putB_size]; omega
  have HB := Lib.hid (all_bytes n t us r)
  have HR := Lib.hid hrow
  have bR : Below w3.heap.size w3 w3 := Below.refl _ _
  have hrl : r.data.toList.length ≤ 100000 := by rw [← Lib.size_eq]; omega
  clear hrow
  by_cases hn0 : us = []
  · subst hn0
    obtain rfl : t = ⟨#[]⟩ := htv
    clear hc
    have HB0 : Hid ((((Oct.putB n ++ (Oct.putB 0 ++ ⟨#[]⟩)) ++ ⟨(listL []).toArray⟩) ++ r).data.toList = Oct.putL n ++ (txtL ⟨#[]⟩ ++ (listL [] ++ r.data.toList))) := HB.out
    have hp0 : (Oct.putB 0).size ≤ 9 := htB
    clear HB htB hts
    go_wp2_with (first
      | (go_at_call 12; refine (HSh.out _).mono ?_; rintro e w2 ⟨rfl, rfl⟩)
      | (go_at_call 14; refine (put_any _ _ hn).mono ?_; rintro e w2 ⟨rfl, b2⟩; replace bR := below_step bR (Nat.le_refl _) b2; clear b2)
      | (go_at_call 17; refine (textPut_any _ _ (by decide)).mono ?_; rintro e w2 ⟨rfl, b2⟩; replace bR := below_step bR (Nat.le_refl _) b2; clear b2)
      | (go_at_call 19; refine (listPut_any _ _ _ (HR.out.old bR) hlen HS.out).mono ?_; rintro e w2 ⟨rfl, b2⟩; replace bR := below_step bR (Nat.le_refl _) b2; clear b2)
      | (go_at_call 21; refine (read_str _ _ (by unfold maxLen; simp only [ByteArray.size_append, size_mk]; have e : (⟨#[]⟩ : ByteArray).size = 0 := rfl; omega)).mono ?_; rintro e w4 ⟨rfl, h4, b4⟩; rw [HB0.out] at h4; have hbb := bR.size; replace bR := below_step bR (Nat.le_refl _) b4; clear b4)
      | (go_at_call 22; refine (long_put _ n _ _ hn h4).mono ?_; rintro e w5 ⟨rfl, h5, o5⟩; replace bR := bR.trans (o5.below hbb bR.size); clear h4 o5)
      | (go_at_call 26; refine (text_put _ ⟨#[]⟩ _ 100 _ (by decide) (by decide) h5).mono ?_; rintro e w6 ⟨rfl, h6, o6⟩; replace bR := bR.trans (o6.below hbb bR.size); clear h5 o6)
      | (go_at_call 29; refine (list_put _ [] _ 12 _ (by omega) (by decide) hlen HS.out hrl h6).mono ?_; rintro e w7 ⟨v7, rfl, r7, h7, o7⟩; replace bR := bR.trans (o7.below hbb bR.size); clear h6 o7)
      | (go_at_call 28; refine (same_any _ _ _ _ _ r7 (HR.out.old bR)).mono ?_; rintro e w8 ⟨rfl, b8⟩; replace h7 := h7.old b8 h7.lt; replace bR := below_step bR (Nat.le_refl _) b8; clear b8)
      | (go_at_call 33; refine (sound_any _ _ _ h7).mono ?_; rintro e w9 ⟨rfl, rfl⟩)
      | (go_at_call 31; refine (left_any _ _ _ h7).mono ?_; rintro e w9 ⟨rfl, rfl⟩)
      | (go_at_call 34; refine (end_any _ _ _ h7).mono ?_; rintro e w9 ⟨rfl, rfl⟩))
    go_ret
    exact ⟨ret_bool (end_empty r), b1.trans (bR.mono b1.size)⟩
  · obtain ⟨b0, off, ha, hb0, hcell⟩ := hc hn0
    subst ha
    have hpos : 0 < us.length := List.length_pos_iff.2 hn0
    have hcell0 : w3.cell? ⟨b0, off, none⟩ = some (.string t) := by
      have := hcell 0 hpos
      rw [← htv] at this
      simpa using this
    clear hc hcell hn0 htv
    go_wp2_with (first
      | (go_at_call 12; refine (HSh.out _).mono ?_; rintro e w2 ⟨rfl, rfl⟩)
      | (go_at_call 14; refine (put_any _ _ hn).mono ?_; rintro e w2 ⟨rfl, b2⟩; replace bR := below_step bR (Nat.le_refl _) b2; clear b2)
      | (go_at_call 17; refine (textPut_any _ _ (by omega)).mono ?_; rintro e w2 ⟨rfl, b2⟩; replace bR := below_step bR (Nat.le_refl _) b2; clear b2)
      | (go_at_call 19; refine (listPut_any _ _ _ (HR.out.old bR) hlen HS.out).mono ?_; rintro e w2 ⟨rfl, b2⟩; replace bR := below_step bR (Nat.le_refl _) b2; clear b2)
      | (go_at_call 21; refine (read_str _ _ (by unfold maxLen; simp only [ByteArray.size_append]; omega)).mono ?_; rintro e w4 ⟨rfl, h4, b4⟩; rw [HB.out] at h4; have hbb := bR.size; replace bR := below_step bR (Nat.le_refl _) b4; clear b4)
      | (go_at_call 22; refine (long_put _ n _ _ hn h4).mono ?_; rintro e w5 ⟨rfl, h5, o5⟩; replace bR := bR.trans (o5.below hbb bR.size); clear h4 o5)
      | (go_at_call 26; refine (text_put _ _ _ 100 _ (by omega) (by decide) h5).mono ?_; rintro e w6 ⟨rfl, h6, o6⟩; replace bR := bR.trans (o6.below hbb bR.size); clear h5 o6)
      | (go_at_call 29; refine (list_put _ us _ 12 _ (by omega) (by decide) hlen HS.out hrl h6).mono ?_; rintro e w7 ⟨v7, rfl, r7, h7, o7⟩; replace bR := bR.trans (o7.below hbb bR.size); clear h6 o7)
      | (go_at_call 28; refine (same_any _ _ _ _ _ r7 (HR.out.old bR)).mono ?_; rintro e w8 ⟨rfl, b8⟩; replace h7 := h7.old b8 h7.lt; replace bR := below_step bR (Nat.le_refl _) b8; clear b8)
      | (go_at_call 33; refine (sound_any _ _ _ h7).mono ?_; rintro e w9 ⟨rfl, rfl⟩)
      | (go_at_call 31; refine (left_any _ _ _ h7).mono ?_; rintro e w9 ⟨rfl, rfl⟩)
      | (go_at_call 34; refine (end_any _ _ _ h7).mono ?_; rintro e w9 ⟨rfl, rfl⟩))
    go_ret
    exact ⟨ret_bool (end_empty r), b1.trans (bR.mono b1.size)⟩

set_option maxRecDepth 100000 in
theorem lifted (os : Os) (started : os.Started) (H : Type) (enc : TypeId × Value → H) :
    ReturnsInHanded {} Try.checked os 5 .any (Rows.octetBackSpec.pre6 enc Try.prog Try.f5 Rows.octetBackRow.domain false) (Rows.octetBackSpec.post enc Try.prog Try.f5 false true false false) := by
  refine returnsInHanded_of_change (C := Try.checked) lawOwn started (by kernel_rfl) Try.func5
    (ChangeSpec.witness6 (enc := enc) (C := Try.checked) false ⟨#[], #[.int .u64 0, .slice none 0 0, .string .empty], []⟩ 8 (by kernel_rfl) (by kernel_rfl) (by kernel_rfl) (by kernel_rfl)) ?_
  intro W base args ds gs before hval0 hW hcnd _
  have hval : ∀ (j : Nat) t v, Try.f5.params[j]? = some t → args[j]? = some v → Value.okWide Try.prog W .any base t v := hval0
  have hW' := hW
  obtain ⟨p, q, hA0, hV, rfl, hfz, hnd⟩ := hW
  have hA : DataW.TrodAll enc Try.prog W 0 (fun _ => true) true Try.f5.params.toList args.toList ds p := hA0
  rw [Try.params5] at hA hval
  obtain ⟨v0, vs0, d0, ds0, p0, q0, hargs, rfl, rfl, h0, r0⟩ := trodAll_cons hA
  obtain ⟨v1, vs1, d1, ds1, p1, q1, rfl, rfl, rfl, h1, r1⟩ := trodAll_cons r0
  obtain ⟨v2, vs2, d2, ds2, p2, q2, rfl, rfl, rfl, h2, r2⟩ := trodAll_cons r1
  obtain ⟨rfl, rfl, rfl⟩ := trodAll_nil r2
  obtain rfl : args = #[v0, v1, v2] := by cases args; simp_all
  obtain ⟨rfl, rfl⟩ := trodVars_none hV
  obtain ⟨a0, rfl, rfl, rfl, w0⟩ := open_int Try.underlying22 (hval 0 22 v0 rfl rfl) h0
  obtain ⟨a1, len1, cap1, rfl⟩ := okWide_slice Try.underlying23 (hval 1 23 v1 rfl rfl)
  obtain ⟨ss1, w1⟩ := strRow_of h1
  obtain ⟨s2, rfl, rfl, rfl, w2⟩ := Go.ChangeMaps.open_string Try.underlying9 (hval 2 9 v2 rfl rfl) h2
  clear hA0 hval0 hcnd
  obtain ⟨n0, rfl, l0⟩ := u64_nat w0
  refine (walk (w := W) n0 l0 _ ss1 w1 s2 w2).mono fun e W' ⟨he, bel⟩ => ?_
  subst he
  exact ⟨_, rfl, law_post rfl rfl (by kernel_rfl) hW' rfl bel⟩

theorem holds : Rows.OctetBackSaid :=
  OpenClaim.holds_of_wide 5 Try.f5 rfl rfl rfl rfl rfl rfl rfl ⟨rfl, rfl, rfl, rfl, rfl⟩ rfl rfl rfl rfl rfl (by kernel_rfl) Try.func5 (by kernel_rfl)
    (of_decide_eq_true (by kernel_rfl)) (by unfold Func.isWrapper; first | (rw [if_pos (by decide +kernel)]; kernel_rfl) | (rw [if_neg (by decide +kernel)]; exact ⟨rfl, rfl⟩))
    (fun os started H enc _ => lifted os started H enc)
end Go.Proofs.Ytnhpebhmihagbaa.octetBack

theorem Go.Proofs.Ytnhpebhmihagbaa.octetBack_holds : Go.Proofs.Ytnhpebhmihagbaa.Rows.OctetBackSaid := Go.Proofs.Ytnhpebhmihagbaa.octetBack.holds
#print axioms Go.Proofs.Ytnhpebhmihagbaa.octetBack_holds
