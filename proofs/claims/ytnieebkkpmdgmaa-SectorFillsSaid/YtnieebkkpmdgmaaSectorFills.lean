/-
  SectorFills: texts are made sectors, and any bytes opened, as the document's own Fill and Open say; what was made is opened again. For every text and every bytes (of longer ones the first 300 bytes), no condition.
-/
import Derived.Test.YtnieebkkpmdgmaaSecAwake
import Derived.Test.YtnieebkkpmdgmaaSecOpen
import Derived.Test.YtnieebkkpmdgmaaGenLaw
namespace Go.Proofs.Ytnieebkkpmdgmaa.sectorFills
open Go.ChangeShapes Go.WideShapes Go.ChangeAt Go.RowKit Dsk

set_option maxHeartbeats 3200000 in
set_option maxRecDepth 100000 in
theorem walk {w : World} (s : ByteArray) (_hs : s.size ≤ maxLen) (raw : ByteArray) (_hr : raw.size ≤ maxLen) :
    Calls Try.prog 3 #[.string s, .string raw] w fun e w' => e = .returned (.bool true) ∧ Below w.heap.size w w' := by
  have hsh := fun u => short_any s 300 u
  have hsr := fun u => short_any raw 300 u
  have hAs := shortB_size s 300
  have hRs := shortB_size raw 300
  obtain ⟨A, hA⟩ : ∃ A, A = shortB s 300 := ⟨_, rfl⟩
  obtain ⟨R, hR⟩ : ∃ R, R = shortB raw 300 := ⟨_, rfl⟩
  simp only [← hA] at hsh
  simp only [← hR] at hsr
  rw [← hA] at hAs
  rw [← hR] at hRs
  rw [show ((300 : Nat) : Int) = 300 from rfl] at hsh hsr
  clear hA hR
  have hfi := fun u => fill_any A u (by omega)
  have hrf := fun u => refFill_any A u (by omega)
  have hop := fun u => open_any R u (by omega)
  have hro := fun u => refOpen_any R u (by omega)
  have hFs : (fillS A).size ≤ 256 := by
    by_cases h : (textB A).size ≤ 256
    · rw [fillS_size A h]; omega
    · unfold fillS; rw [if_neg h]; decide
  have hot := fun u => open_any (fillS A) u (by omega)
  obtain ⟨OS, hOS⟩ : ∃ OS, OS = openS R := ⟨_, rfl⟩
  obtain ⟨OB, hOB⟩ : ∃ OB, OB = openB R := ⟨_, rfl⟩
  simp only [← hOS, ← hOB] at hop hro
  clear hOS hOB
  by_cases h : (textB A).size ≤ 256
  · have h1 := (open_fill A h).1
    have h2 := (open_fill A h).2
    have h3 : fillE A = 0 := if_pos h
    have h4 := fillS_size A h
    simp only [h1, h2] at hot
    simp only [h3] at hfi hrf
    obtain ⟨F, hF⟩ : ∃ F, F = fillS A := ⟨_, rfl⟩
    simp only [← hF] at hfi hrf hot
    rw [← hF] at h4 hFs
    have h4' : (F.size : Int) = 256 := by omega
    clear hF h1 h2 h3 h
    go_enter Try.func3, Try.ntmps3
    go_upto_region 2 with (go_at_call 10; refine (awake_any _).mono ?_; rintro e w1 ⟨rfl, b1⟩)
    go_upto_region 3 with (go_at_call 11; refine (hsh _).mono ?_; rintro e w1' ⟨rfl, rfl⟩)
    go_upto_region 4 with (go_at_call 11; refine (hsr _).mono ?_; rintro e w1' ⟨rfl, rfl⟩)
    go_upto_region 5 with (go_at_call 12; refine (hfi _).mono ?_; rintro e w2 ⟨rfl, b2⟩)
    go_upto_region 6 with (go_at_call 13; refine (hrf _).mono ?_; rintro e w3 ⟨rfl, b3⟩)
    go_upto_region 7 with (go_at_call 14; refine (hop _).mono ?_; rintro e w4 ⟨rfl, b4⟩)
    go_upto_region 8 with (go_at_call 15; refine (hro _).mono ?_; rintro e w5 ⟨rfl, b5⟩)
    go_upto_region 9 with (go_at_call 14; refine (hot _).mono ?_; rintro e w6 ⟨rfl, b6⟩)
    go_wp2
    go_ret
    exact ⟨rfl, below_step (below_step (below_step (below_step (below_step b1 (Nat.le_refl _) b2) (Nat.le_refl _) b3) (Nat.le_refl _) b4) (Nat.le_refl _) b5) (Nat.le_refl _) b6⟩
  · have h1 : fillS A = ⟨#[]⟩ := if_neg h
    have h3 : fillE A = 11 := if_neg h
    have h5 : openS ⟨#[]⟩ = ⟨#[]⟩ := by unfold openS; rw [open_none, if_neg Bool.false_ne_true]
    simp only [h1, open_none, h5] at hot
    simp only [h1, h3] at hfi hrf
    clear h1 h3 h5 h hFs
    go_enter Try.func3, Try.ntmps3
    go_upto_region 2 with (go_at_call 10; refine (awake_any _).mono ?_; rintro e w1 ⟨rfl, b1⟩)
    go_upto_region 3 with (go_at_call 11; refine (hsh _).mono ?_; rintro e w1' ⟨rfl, rfl⟩)
    go_upto_region 4 with (go_at_call 11; refine (hsr _).mono ?_; rintro e w1' ⟨rfl, rfl⟩)
    go_upto_region 5 with (go_at_call 12; refine (hfi _).mono ?_; rintro e w2 ⟨rfl, b2⟩)
    go_upto_region 6 with (go_at_call 13; refine (hrf _).mono ?_; rintro e w3 ⟨rfl, b3⟩)
    go_upto_region 7 with (go_at_call 14; refine (hop _).mono ?_; rintro e w4 ⟨rfl, b4⟩)
    go_upto_region 8 with (go_at_call 15; refine (hro _).mono ?_; rintro e w5 ⟨rfl, b5⟩)
    go_upto_region 9 with (go_at_call 14; refine (hot _).mono ?_; rintro e w6 ⟨rfl, b6⟩)
    go_wp2
    go_ret
    exact ⟨rfl, below_step (below_step (below_step (below_step (below_step b1 (Nat.le_refl _) b2) (Nat.le_refl _) b3) (Nat.le_refl _) b4) (Nat.le_refl _) b5) (Nat.le_refl _) b6⟩

set_option maxRecDepth 100000 in
theorem lifted (os : Os) (started : os.Started) (H : Type) (enc : TypeId × Value → H) :
    ReturnsInHanded {} Try.checked os 3 .any (Rows.sectorFillsSpec.pre6 enc Try.prog Try.f3 Rows.sectorFillsRow.domain false) (Rows.sectorFillsSpec.post enc Try.prog Try.f3 false true false false) := by
  refine returnsInHanded_of_change (C := Try.checked) lawOwn started (by kernel_rfl) Try.func3
    (ChangeSpec.witness6 (enc := enc) (C := Try.checked) false ⟨#[], #[.string .empty, .string .empty], []⟩ 8 (by kernel_rfl) (by kernel_rfl) (by kernel_rfl) (by kernel_rfl)) ?_
  intro W base args ds gs before hval0 hW hcnd _
  have hval : ∀ (j : Nat) t v, Try.f3.params[j]? = some t → args[j]? = some v → Value.okWide Try.prog W .any base t v := hval0
  have hW' := hW
  obtain ⟨p, q, hA0, hV, rfl, hfz, hnd⟩ := hW
  have hA : DataW.TrodAll enc Try.prog W 0 (fun _ => true) true Try.f3.params.toList args.toList ds p := hA0
  rw [Try.params3] at hA hval
  obtain ⟨v0, vs0, d0, ds0, p0, q0, hargs, rfl, rfl, h0, r0⟩ := trodAll_cons hA
  obtain ⟨v1, vs1, d1, ds1, p1, q1, rfl, rfl, rfl, h1, r1⟩ := trodAll_cons r0
  obtain ⟨rfl, rfl, rfl⟩ := trodAll_nil r1
  obtain rfl : args = #[v0, v1] := by cases args; simp_all
  obtain ⟨rfl, rfl⟩ := trodVars_none hV
  obtain ⟨s0, rfl, rfl, rfl, w0⟩ := Go.ChangeMaps.open_string Try.underlying9 (hval 0 9 v0 rfl rfl) h0
  obtain ⟨s1, rfl, rfl, rfl, w1⟩ := Go.ChangeMaps.open_string Try.underlying9 (hval 1 9 v1 rfl rfl) h1
  clear hA0 hval0 hcnd
  refine (walk (w := W) s0 w0 s1 w1).mono fun e W' ⟨he, bel⟩ => ?_
  subst he
  exact ⟨_, rfl, law_post rfl rfl (by kernel_rfl) hW' rfl bel⟩

theorem holds : Rows.SectorFillsSaid :=
  OpenClaim.holds_of_wide 3 Try.f3 rfl rfl rfl rfl rfl rfl rfl ⟨rfl, rfl, rfl, rfl, rfl⟩ rfl rfl rfl rfl rfl (by kernel_rfl) Try.func3 (by kernel_rfl)
    (of_decide_eq_true (by kernel_rfl)) (by unfold Func.isWrapper; first | (rw [if_pos (by decide +kernel)]; kernel_rfl) | (rw [if_neg (by decide +kernel)]; exact ⟨rfl, rfl⟩))
    (fun os started H enc _ => lifted os started H enc)
end Go.Proofs.Ytnieebkkpmdgmaa.sectorFills

theorem Go.Proofs.Ytnieebkkpmdgmaa.sectorFills_holds : Go.Proofs.Ytnieebkkpmdgmaa.Rows.SectorFillsSaid := Go.Proofs.Ytnieebkkpmdgmaa.sectorFills.holds
#print axioms Go.Proofs.Ytnieebkkpmdgmaa.sectorFills_holds
