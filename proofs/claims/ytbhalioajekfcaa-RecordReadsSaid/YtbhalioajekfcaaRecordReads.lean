/-
  RecordReads: any bytes are read as the record, or the row, that they are, or refused, as the document's own answers read them. For every text (of a longer one the first 2100 bytes) and every window, no condition.
-/
import Derived.Test.YtbhalioajekfcaaRecArg
import Derived.Test.YtbhalioajekfcaaRRecRows
namespace Go.Proofs.Ytbhalioajekfcaa.recordReads
open Go.ChangeShapes Go.WideShapes Go.ChangeAt Go.RowKit

set_option maxHeartbeats 6400000 in
set_option maxRecDepth 100000 in
theorem walk {w : World} (s : ByteArray) (_hs : s.size ≤ maxLen) (win : Int) (n1 : -9223372036854775808 ≤ win) (n2 : win ≤ 9223372036854775807) :
    Calls Try.prog 3 #[.string s, .int .i64 win] w fun e w' => e = .returned (.bool true) ∧ Below w.heap.size w w' := by
  obtain ⟨S, hS⟩ : ∃ S, S = shortB s 2100 := ⟨_, rfl⟩
  have hSz : S.size ≤ 2100 := by rw [hS]; exact shortB_size _ _
  have q0 := fun u => short15_any s 2100 2100 rfl u
  rw [← hS] at q0
  have q1 := fun u => recRead_any S u (by omega)
  have q2 := fun u => rRecRead_any S u (by omega)
  have q3 := fun u => rows_any win S u (by omega)
  have q4 := fun u => rrows_any win S u (by omega) n1 n2
  generalize readR S.data.toList = R at *
  generalize readZ S.data.toList = Z at *
  obtain ⟨a, b, c, d⟩ := R
  unfold recV at q1 q2
  simp only at q1 q2
  have hlen : ∀ l, rowsR win S.data.toList = some l → l.length ≤ 1000000 := fun l h => rowsR_length h
  have HLEN := Lib.hid hlen
  clear hS hlen
  go_enter Try.func3, Try.ntmps3
  go_upto_region 3 with (first
    | (go_at_call 8; ((with_reducible refine (awake15_any _).mono ?_); rintro e w1 ⟨rfl, b1⟩))
    | (go_at_call 9; ((with_reducible refine (q0 _).mono ?_); rintro e w2 ⟨rfl, rfl⟩)))
  go_upto_region 4 with (go_at_call 10; ((with_reducible refine (q1 _).mono ?_); rintro e w3 ⟨rfl, b3⟩))
  have hb := below_step b1 (Nat.le_refl _) b3
  clear b1 b3 q0 q1
  obtain ⟨p, hp⟩ : ∃ p, p = w3.heap.size := ⟨_, rfl⟩
  obtain ⟨W3, hW3⟩ : ∃ u, u = w3.alloc (.cells #[.int .i64 a, .int .i64 b, .int .i64 c, .string d] 25) := ⟨_, rfl⟩
  rw [← hW3, ← hp]
  have h3 : RecAt p a b c d W3 := by rw [hW3, hp]; exact RecAt.alloc _ _ _ _ _
  replace hb := below_step hb (Nat.le_refl _) (by rw [hW3]; exact below_box' w3 _ : Below w3.heap.size w3 W3)
  clear hW3 hp
  go_upto_region 5 with (go_at_call 11; ((with_reducible refine (q2 _).mono ?_); rintro e w4 ⟨rfl, b4⟩))
  replace hb := below_step hb (Nat.le_refl _) b4
  replace h3 := h3.old b4 h3.lt
  clear b4 q2
  obtain ⟨q, hq⟩ : ∃ q, q = w4.heap.size := ⟨_, rfl⟩
  obtain ⟨W4, hW4⟩ : ∃ u, u = w4.alloc (.cells #[.int .i64 a, .int .i64 b, .int .i64 c, .string d] 25) := ⟨_, rfl⟩
  rw [← hW4, ← hq]
  have h4 : RecAt q a b c d W4 := by rw [hW4, hq]; exact RecAt.alloc _ _ _ _ _
  have b4 : Below w4.heap.size w4 W4 := by rw [hW4]; exact below_box' w4 _
  replace hb := below_step hb (Nat.le_refl _) b4
  replace h3 := h3.old b4 h3.lt
  clear hW4 hq b4
  go_upto_region 6 with (go_at_call 12; ((with_reducible refine (q3 _).mono ?_); rintro e w5 ⟨⟨v5, z5, l5, rfl, o5, k5⟩, b5⟩))
  replace hb := below_step hb (Nat.le_refl _) b5
  replace h3 := h3.old b5 h3.lt
  replace h4 := h4.old b5 h4.lt
  have K5 := Lib.hid k5
  clear b5 q3 k5
  go_upto_region 7 with (go_at_call 13; ((with_reducible refine (q4 _).mono ?_); rintro e w6 ⟨⟨v6, z6, l6, rfl, o6, k6⟩, b6⟩))
  replace hb := below_step hb (Nat.le_refl _) b6
  replace h3 := h3.old b6 h3.lt
  replace h4 := h4.old b6 h4.lt
  have r5 := (o5.kept b6).row
  have r6 := o6.row
  obtain ⟨rfl, rfl, hl⟩ : l5 = l6 ∧ z5 = z6 ∧ l5.length ≤ 1000000 := by
    rcases K5.out with ⟨e, rfl⟩ | ⟨e, rfl, _, rfl⟩ <;> rcases k6 with ⟨e', rfl⟩ | ⟨e', rfl, _, rfl⟩
    · rw [e] at e'; exact ⟨Option.some.inj e', rfl, HLEN.out _ e⟩
    · rw [e] at e'; cases e'
    · rw [e] at e'; cases e'
    · exact ⟨rfl, rfl, by simp⟩
  clear b6 q4 K5 k6 o5 o6 HLEN
  go_upto_region 8 with (go_at_call 14; ((with_reducible refine (same15_any _ _ l5 _ r5 r6 hl).mono ?_); rintro e w7 ⟨rfl, b7⟩))
  replace hb := below_step hb (Nat.le_refl _) b7
  replace h3 := h3.old b7 h3.lt
  replace h4 := h4.old b7 h4.lt
  clear b7 r5 r6
  have c0 := h3.c0
  have c1 := h3.c1
  have c2 := h3.c2
  have c3 := h3.c3
  have d0 := h4.c0
  have d1 := h4.c1
  have d2 := h4.c2
  have d3 := h4.c3
  go_wp2
  go_ret
  exact ⟨by simp, hb⟩

set_option maxRecDepth 100000 in
theorem lifted (os : Os) (started : os.Started) (H : Type) (enc : TypeId × Value → H) :
    ReturnsInHanded {} Try.checked os 3 .any (Rows.recordReadsSpec.pre6 enc Try.prog Try.f3 Rows.recordReadsRow.domain false) (Rows.recordReadsSpec.post enc Try.prog Try.f3 false true false false) := by
  refine returnsInHanded_of_change (C := Try.checked) lawOwn started (by kernel_rfl) Try.func3
    (ChangeSpec.witness6 (enc := enc) (C := Try.checked) false ⟨#[], #[.string .empty, .int .i64 0], []⟩ 8 (by kernel_rfl) (by kernel_rfl) (by kernel_rfl) (by kernel_rfl)) ?_
  intro W base args ds gs before hval0 hW hcnd _
  have hval : ∀ (j : Nat) t v, Try.f3.params[j]? = some t → args[j]? = some v → Value.okWide Try.prog W .any base t v := hval0
  have hW' := hW
  obtain ⟨p, q, hA0, hV, rfl, hfz, hnd⟩ := hW
  have hA : DataW.TrodAll enc Try.prog W 0 (fun _ => true) true Try.f3.params.toList args.toList ds p := hA0
  rw [Try.params3] at hA hval
  obtain ⟨v0, vs0, d0, ds0, p0, q0, hargs, rfl, rfl, h0, r0⟩ := trodAll_cons hA
  obtain ⟨v1, vs1, d1, ds1, p1, q1, rfl, rfl, rfl, h1, r1⟩ := trodAll_cons r0
  obtain ⟨rfl, rfl, rfl⟩ := trodAll_nil r1
  obtain rfl : args = #[v0, v1] := by cases args; simp_all
  obtain ⟨rfl, rfl⟩ := trodVars_none hV
  obtain ⟨s0, rfl, rfl, rfl, w0⟩ := Go.ChangeMaps.open_string Try.underlying9 (hval 0 9 v0 rfl rfl) h0
  obtain ⟨a1, rfl, rfl, rfl, w1⟩ := open_int Try.underlying3 (hval 1 3 v1 rfl rfl) h1
  clear hA0 hval0 hcnd
  obtain ⟨l1, m1⟩ := i64_bounds w1
  refine (walk (w := W) s0 w0 a1 l1 m1).mono fun e W' ⟨he, bel⟩ => ?_
  subst he
  exact ⟨_, rfl, law_post rfl rfl (by kernel_rfl) hW' rfl bel⟩

theorem holds : Rows.RecordReadsSaid :=
  OpenClaim.holds_of_wide 3 Try.f3 rfl rfl rfl rfl rfl rfl rfl ⟨rfl, rfl, rfl, rfl, rfl⟩ rfl rfl rfl rfl rfl (by kernel_rfl) Try.func3 (by kernel_rfl)
    (of_decide_eq_true (by kernel_rfl)) (by unfold Func.isWrapper; first | (rw [if_pos (by decide +kernel)]; kernel_rfl) | (rw [if_neg (by decide +kernel)]; exact ⟨rfl, rfl⟩))
    (fun os started H enc _ => lifted os started H enc)
end Go.Proofs.Ytbhalioajekfcaa.recordReads

theorem Go.Proofs.Ytbhalioajekfcaa.recordReads_holds : Go.Proofs.Ytbhalioajekfcaa.Rows.RecordReadsSaid := Go.Proofs.Ytbhalioajekfcaa.recordReads.holds
#print axioms Go.Proofs.Ytbhalioajekfcaa.recordReads_holds
