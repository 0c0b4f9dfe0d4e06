/-
  SectorOne: no two texts make one sector, and none but sectors of 256 bytes are opened; what is opened is made again. For every two texts (of longer ones the first 253 bytes) and every bytes (of longer ones the first 300), no condition.
-/
import Derived.Test.YtnieebkkpmdgmaaSecAwake
import Derived.Test.YtnieebkkpmdgmaaSecOpen
import Derived.Test.YtnieebkkpmdgmaaGenLaw
namespace Go.Proofs.Ytnieebkkpmdgmaa.sectorOne
open Go.ChangeShapes Go.WideShapes Go.ChangeAt Go.RowKit Dsk

theorem fits_of (s : ByteArray) (h : fillE s = 0) : s.size ≤ 256 := by
  unfold fillE at h
  split at h
  · exact fits_small s (by assumption)
  · cases h
theorem fits_253 (s : ByteArray) (h : s.size ≤ 253) : (textB s).size ≤ 256 := by
  have hb : Lib.bitLen s.size ≤ 8 := Lib.bitLen_le s.size 8 (by decide) (by omega)
  rw [textB_size]
  have : Oct.need s.size ≤ 1 := by unfold Oct.need; omega
  omega
theorem ne_list {a b : ByteArray} (h : a ≠ b) : (a.toList == b.toList) = false := by
  have : a.toList ≠ b.toList := fun e => h (by rw [Lib.toList_data, Lib.toList_data] at e; exact ByteArray.ext (Array.toList_inj.1 e))
  simpa using this

set_option maxHeartbeats 3200000 in
set_option maxRecDepth 100000 in
theorem walk {w : World} (a : ByteArray) (_ha : a.size ≤ maxLen) (b : ByteArray) (_hb : b.size ≤ maxLen) (raw : ByteArray) (_hr : raw.size ≤ maxLen) :
    Calls Try.prog 7 #[.string a, .string b, .string raw] w fun e w' => e = .returned (.bool true) ∧ Below w.heap.size w w' := by
  have hsa := fun u => short_any a 253 u
  have hsb := fun u => short_any b 253 u
  have hsr := fun u => short_any raw 300 u
  have hAs := shortB_size a 253
  have hBs := shortB_size b 253
  have hRs := shortB_size raw 300
  obtain ⟨A, hA⟩ : ∃ A, A = shortB a 253 := ⟨_, rfl⟩
  obtain ⟨B, hB⟩ : ∃ B, B = shortB b 253 := ⟨_, rfl⟩
  obtain ⟨R, hR⟩ : ∃ R, R = shortB raw 300 := ⟨_, rfl⟩
  simp only [← hA] at hsa
  simp only [← hB] at hsb
  simp only [← hR] at hsr
  rw [← hA] at hAs
  rw [← hB] at hBs
  rw [← hR] at hRs
  rw [show ((300 : Nat) : Int) = 300 from rfl] at hsr
  rw [show ((253 : Nat) : Int) = 253 from rfl] at hsa hsb
  clear hA hB hR
  have fA := fits_253 A hAs
  have fB := fits_253 B hBs
  have hfa := fun u => fill_any A u (by omega)
  have hfb := fun u => fill_any B u (by omega)
  have hop := fun u => open_any R u (by omega)
  simp only [show fillE A = 0 from if_pos fA] at hfa
  simp only [show fillE B = 0 from if_pos fB] at hfb
  have hinj := fill_inj A B fA fB
  obtain ⟨FA, hFA⟩ : ∃ FA, FA = fillS A := ⟨_, rfl⟩
  obtain ⟨FB, hFB⟩ : ∃ FB, FB = fillS B := ⟨_, rfl⟩
  by_cases hab : A = B
  · subst hab
    obtain rfl : FA = FB := by rw [hFA, hFB]
    simp only [← hFA] at hfa hfb
    clear hFA hFB hinj fA fB
    cases hob : openB R with
    | false =>
      simp only [hob] at hop
      clear hob
      go_enter Try.func7, Try.ntmps7
      go_upto_region 2 with (go_at_call 10; refine (awake_any _).mono ?_; rintro e w1 ⟨rfl, b1⟩)
      go_upto_region 3 with (go_at_call 11; refine (hsa _).mono ?_; rintro e w1' ⟨rfl, rfl⟩)
      go_upto_region 4 with (go_at_call 11; refine (hsb _).mono ?_; rintro e w1' ⟨rfl, rfl⟩)
      go_upto_region 5 with (go_at_call 11; refine (hsr _).mono ?_; rintro e w1' ⟨rfl, rfl⟩)
      go_upto_region 6 with (go_at_call 12; refine (hfa _).mono ?_; rintro e w2 ⟨rfl, b2⟩)
      go_upto_region 7 with (go_at_call 12; refine (hfb _).mono ?_; rintro e w3 ⟨rfl, b3⟩)
      go_upto_region 8 with (go_at_call 14; refine (hop _).mono ?_; rintro e w4 ⟨rfl, b4⟩)
      go_wp2
      go_ret
      exact ⟨rfl, below_step (below_step (below_step b1 (Nat.le_refl _) b2) (Nat.le_refl _) b3) (Nat.le_refl _) b4⟩
    | true =>
      obtain ⟨r1, r2, r3⟩ := open_size R hob
      simp only [hob] at hop
      have hfx := fun u => fill_any (openS R) u (by have := fits_of _ r2; omega)
      simp only [r2, r3] at hfx
      obtain ⟨OS, hOS⟩ : ∃ OS, OS = openS R := ⟨_, rfl⟩
      simp only [← hOS] at hop hfx
      have r1' : (R.size : Int) = 256 := by omega
      clear hOS hob r2 r3
      go_enter Try.func7, Try.ntmps7
      go_upto_region 2 with (go_at_call 10; refine (awake_any _).mono ?_; rintro e w1 ⟨rfl, b1⟩)
      go_upto_region 3 with (go_at_call 11; refine (hsa _).mono ?_; rintro e w1' ⟨rfl, rfl⟩)
      go_upto_region 4 with (go_at_call 11; refine (hsb _).mono ?_; rintro e w1' ⟨rfl, rfl⟩)
      go_upto_region 5 with (go_at_call 11; refine (hsr _).mono ?_; rintro e w1' ⟨rfl, rfl⟩)
      go_upto_region 6 with (go_at_call 12; refine (hfa _).mono ?_; rintro e w2 ⟨rfl, b2⟩)
      go_upto_region 7 with (go_at_call 12; refine (hfb _).mono ?_; rintro e w3 ⟨rfl, b3⟩)
      go_upto_region 8 with (go_at_call 14; refine (hop _).mono ?_; rintro e w4 ⟨rfl, b4⟩)
      go_upto_region 12 with (go_at_call 12; refine (hfx _).mono ?_; rintro e w5 ⟨rfl, b5⟩)
      go_wp2
      go_ret
      exact ⟨rfl, below_step (below_step (below_step (below_step b1 (Nat.le_refl _) b2) (Nat.le_refl _) b3) (Nat.le_refl _) b4) (Nat.le_refl _) b5⟩
  · have e1 := ne_list hab
    have e2 : (FA.toList == FB.toList) = false := ne_list (by rw [hFA, hFB]; exact fun e => hab (hinj e))
    simp only [← hFA] at hfa
    simp only [← hFB] at hfb
    clear hFA hFB hinj fA fB hab
    cases hob : openB R with
    | false =>
      simp only [hob] at hop
      clear hob
      go_enter Try.func7, Try.ntmps7
      go_upto_region 2 with (go_at_call 10; refine (awake_any _).mono ?_; rintro e w1 ⟨rfl, b1⟩)
      go_upto_region 3 with (go_at_call 11; refine (hsa _).mono ?_; rintro e w1' ⟨rfl, rfl⟩)
      go_upto_region 4 with (go_at_call 11; refine (hsb _).mono ?_; rintro e w1' ⟨rfl, rfl⟩)
      go_upto_region 5 with (go_at_call 11; refine (hsr _).mono ?_; rintro e w1' ⟨rfl, rfl⟩)
      go_upto_region 6 with (go_at_call 12; refine (hfa _).mono ?_; rintro e w2 ⟨rfl, b2⟩)
      go_upto_region 7 with (go_at_call 12; refine (hfb _).mono ?_; rintro e w3 ⟨rfl, b3⟩)
      go_upto_region 8 with (go_at_call 14; refine (hop _).mono ?_; rintro e w4 ⟨rfl, b4⟩)
      go_wp2
      go_ret
      exact ⟨rfl, below_step (below_step (below_step b1 (Nat.le_refl _) b2) (Nat.le_refl _) b3) (Nat.le_refl _) b4⟩
    | true =>
      obtain ⟨r1, r2, r3⟩ := open_size R hob
      simp only [hob] at hop
      have hfx := fun u => fill_any (openS R) u (by have := fits_of _ r2; omega)
      simp only [r2, r3] at hfx
      obtain ⟨OS, hOS⟩ : ∃ OS, OS = openS R := ⟨_, rfl⟩
      simp only [← hOS] at hop hfx
      have r1' : (R.size : Int) = 256 := by omega
      clear hOS hob r2 r3
      go_enter Try.func7, Try.ntmps7
      go_upto_region 2 with (go_at_call 10; refine (awake_any _).mono ?_; rintro e w1 ⟨rfl, b1⟩)
      go_upto_region 3 with (go_at_call 11; refine (hsa _).mono ?_; rintro e w1' ⟨rfl, rfl⟩)
      go_upto_region 4 with (go_at_call 11; refine (hsb _).mono ?_; rintro e w1' ⟨rfl, rfl⟩)
      go_upto_region 5 with (go_at_call 11; refine (hsr _).mono ?_; rintro e w1' ⟨rfl, rfl⟩)
      go_upto_region 6 with (go_at_call 12; refine (hfa _).mono ?_; rintro e w2 ⟨rfl, b2⟩)
      go_upto_region 7 with (go_at_call 12; refine (hfb _).mono ?_; rintro e w3 ⟨rfl, b3⟩)
      go_upto_region 8 with (go_at_call 14; refine (hop _).mono ?_; rintro e w4 ⟨rfl, b4⟩)
      go_upto_region 12 with (go_at_call 12; refine (hfx _).mono ?_; rintro e w5 ⟨rfl, b5⟩)
      go_wp2
      go_ret
      exact ⟨rfl, below_step (below_step (below_step (below_step b1 (Nat.le_refl _) b2) (Nat.le_refl _) b3) (Nat.le_refl _) b4) (Nat.le_refl _) b5⟩

set_option maxRecDepth 100000 in
theorem lifted (os : Os) (started : os.Started) (H : Type) (enc : TypeId × Value → H) :
    ReturnsInHanded {} Try.checked os 7 .any (Rows.sectorOneSpec.pre6 enc Try.prog Try.f7 Rows.sectorOneRow.domain false) (Rows.sectorOneSpec.post enc Try.prog Try.f7 false true false false) := by
  refine returnsInHanded_of_change (C := Try.checked) lawOwn started (by kernel_rfl) Try.func7
    (ChangeSpec.witness6 (enc := enc) (C := Try.checked) false ⟨#[], #[.string .empty, .string .empty, .string .empty], []⟩ 8 (by kernel_rfl) (by kernel_rfl) (by kernel_rfl) (by kernel_rfl)) ?_
  intro W base args ds gs before hval0 hW hcnd _
  have hval : ∀ (j : Nat) t v, Try.f7.params[j]? = some t → args[j]? = some v → Value.okWide Try.prog W .any base t v := hval0
  have hW' := hW
  obtain ⟨p, q, hA0, hV, rfl, hfz, hnd⟩ := hW
  have hA : DataW.TrodAll enc Try.prog W 0 (fun _ => true) true Try.f7.params.toList args.toList ds p := hA0
  rw [Try.params7] at hA hval
  obtain ⟨v0, vs0, d0, ds0, p0, q0, hargs, rfl, rfl, h0, r0⟩ := trodAll_cons hA
  obtain ⟨v1, vs1, d1, ds1, p1, q1, rfl, rfl, rfl, h1, r1⟩ := trodAll_cons r0
  obtain ⟨v2, vs2, d2, ds2, p2, q2, rfl, rfl, rfl, h2, r2⟩ := trodAll_cons r1
  obtain ⟨rfl, rfl, rfl⟩ := trodAll_nil r2
  obtain rfl : args = #[v0, v1, v2] := by cases args; simp_all
  obtain ⟨rfl, rfl⟩ := trodVars_none hV
  obtain ⟨s0, rfl, rfl, rfl, w0⟩ := Go.ChangeMaps.open_string Try.underlying9 (hval 0 9 v0 rfl rfl) h0
  obtain ⟨s1, rfl, rfl, rfl, w1⟩ := Go.ChangeMaps.open_string Try.underlying9 (hval 1 9 v1 rfl rfl) h1
  obtain ⟨s2, rfl, rfl, rfl, w2⟩ := Go.ChangeMaps.open_string Try.underlying9 (hval 2 9 v2 rfl rfl) h2
  clear hA0 hval0 hcnd
  refine (walk (w := W) s0 w0 s1 w1 s2 w2).mono fun e W' ⟨he, bel⟩ => ?_
  subst he
  exact ⟨_, rfl, law_post rfl rfl (by kernel_rfl) hW' rfl bel⟩

theorem holds : Rows.SectorOneSaid :=
  OpenClaim.holds_of_wide 7 Try.f7 rfl rfl rfl rfl rfl rfl rfl ⟨rfl, rfl, rfl, rfl, rfl⟩ rfl rfl rfl rfl rfl (by kernel_rfl) Try.func7 (by kernel_rfl)
    (of_decide_eq_true (by kernel_rfl)) (by unfold Func.isWrapper; first | (rw [if_pos (by decide +kernel)]; kernel_rfl) | (rw [if_neg (by decide +kernel)]; exact ⟨rfl, rfl⟩))
    (fun os started H enc _ => lifted os started H enc)
end Go.Proofs.Ytnieebkkpmdgmaa.sectorOne

theorem Go.Proofs.Ytnieebkkpmdgmaa.sectorOne_holds : Go.Proofs.Ytnieebkkpmdgmaa.Rows.SectorOneSaid := Go.Proofs.Ytnieebkkpmdgmaa.sectorOne.holds
#print axioms Go.Proofs.Ytnieebkkpmdgmaa.sectorOne_holds
