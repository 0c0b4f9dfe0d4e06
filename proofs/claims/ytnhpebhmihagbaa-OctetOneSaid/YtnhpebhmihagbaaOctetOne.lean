/-
  OctetOne: of any two numbers the bytes of the one begin the other's just if they are one number; of any two lists (at most 12 texts, cut to 100 bytes) likewise. For every input, no condition.
-/
import Derived.Test.YtnhpebhmihagbaaOctPutRead
import Derived.Test.YtnhpebhmihagbaaOctArgs
import Derived.Lib.SmallJoins
namespace Go.Proofs.Ytnhpebhmihagbaa.octetOne
open Go.ChangeShapes Go.WideShapes Go.ChangeAt Go.RowKit

/-- One text begins the other, or it doesn't. -/
theorem begins (x y : List UInt8) : ((⟨y.toArray⟩ : ByteArray).extract 0 (⟨x.toArray⟩ : ByteArray).size).toList = y.take x.length := by
  rw [Lib.toList_data, Lib.extract_data, size_mk]
  simp

theorem begins_iff (x y : List UInt8) : y.take x.length = x ↔ ∃ r, y = x ++ r := by
  constructor
  · intro h; exact ⟨y.drop x.length, by conv => lhs; rw [← List.take_append_drop x.length y, h]⟩
  · rintro ⟨r, rfl⟩; simp

/-- THREE WAYS: they are one; the shorter one does not begin the other; the first one is longer. -/
def Three (x y : ByteArray) (P : Prop) : Prop :=
  (P ∧ x.size ≤ y.size ∧ ((y.extract 0 x.size).toList == x.toList) = true) ∨ (¬ P ∧ x.size ≤ y.size ∧ ((y.extract 0 x.size).toList == x.toList) = false) ∨ (¬ P ∧ ¬ x.size ≤ y.size)

theorem three_of (x y : List UInt8) (P : Prop) (h1 : P → x = y) (h2 : (∃ r, y = x ++ r) → P) : Three ⟨x.toArray⟩ ⟨y.toArray⟩ P := by
  unfold Three
  have hx : (⟨x.toArray⟩ : ByteArray).toList = x := by rw [Lib.toList_data]
  rw [begins, hx, size_mk, size_mk]
  by_cases hP : P
  · left
    obtain rfl := h1 hP
    exact ⟨hP, Nat.le_refl _, by simp⟩
  · right
    by_cases hl : x.length ≤ y.length
    · left
      refine ⟨hP, hl, ?_⟩
      rw [beq_eq_false_iff_ne]
      intro e
      exact hP (h2 ((begins_iff x y).1 e))
    · exact Or.inr ⟨hP, hl⟩

theorem three_put (a b : Nat) (ha : a < 18446744073709551616) (hb : b < 18446744073709551616) : Three (Oct.putB a) (Oct.putB b) (a = b) := by
  refine three_of _ _ _ (fun h => by rw [h]) ?_
  rintro ⟨r, h⟩
  have h1 := Oct.num_put a ha r
  have h2 := Oct.num_put b hb []
  rw [List.append_nil, h, h1] at h2
  simp only [Option.some.injEq, Prod.mk.injEq] at h2
  exact h2.1

theorem three_list (us vs : List ByteArray) (hu : us.length ≤ 12) (hv : vs.length ≤ 12) (su : ∀ t ∈ us, t.size ≤ 1000) (sv : ∀ t ∈ vs, t.size ≤ 1000) : Three ⟨(listL us).toArray⟩ ⟨(listL vs).toArray⟩ (us = vs) := by
  refine three_of _ _ _ (fun h => by rw [h]) ?_
  rintro ⟨r, h⟩
  have h1 := list_parts us r 12 (by omega) hu su
  have h2 := list_parts vs [] 12 (by omega) hv sv
  rw [List.append_nil, h, h1] at h2
  simp only [Prod.mk.injEq] at h2
  rw [← strs_data us, ← strs_data vs, h2.1]

set_option maxHeartbeats 3200000 in
theorem walk (a : Nat) (ha : a < 18446744073709551616) (b : Nat) (hb : b < 18446744073709551616) (v1 v2 : Value) (ts1 ts2 : List ByteArray) (w : World) (r1 : StrRow w v1 ts1) (r2 : StrRow w v2 ts2) :
    Calls Try.prog 6 #[.int .u64 a, .int .u64 b, .agg #[v1, v2]] w fun e w' => e = .returned (.bool true) ∧ Below w.heap.size w w' := by
  obtain ⟨us, hus⟩ : ∃ us, us = fewL ts1 := ⟨_, rfl⟩
  obtain ⟨vs, hvs⟩ : ∃ vs, vs = fewL ts2 := ⟨_, rfl⟩
  have hul : us.length ≤ 12 := by rw [hus]; exact fewL_length ts1
  have hvl : vs.length ≤ 12 := by rw [hvs]; exact fewL_length ts2
  have HU : Hid (∀ t ∈ us, t.size ≤ 1000) := by rw [hus]; exact few_small ts1
  have HV : Hid (∀ t ∈ vs, t.size ≤ 1000) := by rw [hvs]; exact few_small ts2
  have f1 := fun w h => few_any v1 ts1 w h
  have f2 := fun w h => few_any v2 ts2 w h
  rw [← hus] at f1
  rw [← hvs] at f2
  have F1 := Lib.hid f1
  have F2 := Lib.hid f2
  clear f1 f2 hus hvs
  have T1 := three_put a b ha hb
  have T2 := three_list us vs hul hvl HU.out HV.out
  have pa := fun w => put_any a w ha
  have pb := fun w => put_any b w hb
  have la := fun w v h => listPut_any v us w h hul HU.out
  have lb := fun w v h => listPut_any v vs w h hvl HV.out
  generalize Oct.putB a = x at T1 pa
  generalize Oct.putB b = y at T1 pb
  generalize (⟨(listL us).toArray⟩ : ByteArray) = X at T2 la
  generalize (⟨(listL vs).toArray⟩ : ByteArray) = Y at T2 lb
  have PA := Lib.hid pa
  have PB := Lib.hid pb
  have LA := Lib.hid la
  have LB := Lib.hid lb
  clear pa pb la lb
  have R1 : Hid (StrRow (w.alloc (.cells #[v1, v2] 49)) v1 ts1) := r1.old ((Below.refl _ _).alloc (Nat.le_refl _) _)
  have R2 : Hid (StrRow (w.alloc (.cells #[v1, v2] 49)) v2 ts2) := r2.old ((Below.refl _ _).alloc (Nat.le_refl _) _)
  have C0 : Hid ((w.alloc (.cells #[v1, v2] 49)).cell? ⟨w.heap.size, 0, none⟩ = some v1) := by
    show _ = _
    rw [World.cell?_alloc_at _ _ _ _ rfl]; rfl
  have C1 : Hid ((w.alloc (.cells #[v1, v2] 49)).cell? ⟨w.heap.size, 1, none⟩ = some v2) := by
    show _ = _
    rw [World.cell?_alloc_at _ _ _ _ rfl]; rfl
  go_enter Try.func6, Try.ntmps6
  go_wp2_with (first
    | (go_at_call 11; refine (awake_any _).mono ?_; rintro e w1 ⟨rfl, b1⟩)
    | (go_at_call 14; ((with_reducible refine (PA.out _).mono ?_); rintro e w2 ⟨rfl, b2⟩; replace b1 := below_step b1 (Nat.le_refl _) b2; clear b2))
    | (go_at_call 14; ((with_reducible refine (PB.out _).mono ?_); rintro e w2 ⟨rfl, b2⟩); replace b1 := below_step b1 (Nat.le_refl _) b2; clear b2; have c0 := (b1.cell (p := ⟨w.heap.size, 0, none⟩) (by simp)).trans C0.out)
    | (go_at_call 13; ((with_reducible refine (F1.out _ (R1.out.old b1)).mono ?_); rintro e w3 ⟨u1, rfl, q1, b3⟩; replace b1 := below_step b1 (Nat.le_refl _) b3; clear b3 c0; have c1 := (b1.cell (p := ⟨w.heap.size, 1, none⟩) (by simp)).trans C1.out))
    | (go_at_call 13; ((with_reducible refine (F2.out _ (R2.out.old b1)).mono ?_); rintro e w4 ⟨u2, rfl, q2, b4⟩; replace q1 := q1.old b4; replace b1 := below_step b1 (Nat.le_refl _) b4; clear b4 c1))
    | (go_at_call 19; ((with_reducible refine (LA.out _ _ q1).mono ?_); rintro e w5 ⟨rfl, b5⟩; replace q1 := q1.old b5; replace q2 := q2.old b5; replace b1 := below_step b1 (Nat.le_refl _) b5; clear b5))
    | (go_at_call 19; ((with_reducible refine (LB.out _ _ q2).mono ?_); rintro e w6 ⟨rfl, b6⟩; replace q1 := q1.old b6; replace q2 := q2.old b6; replace b1 := below_step b1 (Nat.le_refl _) b6; clear b6)))
  have B1 : Below w.heap.size w _ := ((Below.refl w.heap.size w).alloc (Nat.le_refl _) _).trans (b1.mono (by simp))
  clear b1
  rcases T1 with ⟨t1, t2, t3⟩ | ⟨t1, t2, t3⟩ | ⟨t1, t2⟩ <;> rcases T2 with ⟨s1, s2, s3⟩ | ⟨s1, s2, s3⟩ | ⟨s1, s2⟩
  all_goals
    (try have hne : ((a : Int) == (b : Int)) = false := by rw [beq_eq_false_iff_ne]; omega)
    go_wp2_with (go_at_call 28; refine (same_any _ _ _ _ _ q1 q2).mono ?_; rintro e w8 ⟨rfl, b8⟩; replace B1 := below_step B1 (Nat.le_refl _) b8; clear b8)
    go_ret
    exact ⟨rfl, B1⟩

theorem cells_row : Try.prog.cellsOf 23 = 1 := by kernel_rfl
theorem cells_two : Try.prog.cellsOf 49 = 2 := by kernel_rfl

/-- The argument of two lists, opened. -/
theorem two_rows {H : Type} {enc : TypeId × Value → H} {W : World} {r : Reach} {b0 : Nat} {v : Value} {d : DataW H} {ps : List MemPlace}
    (hv : Value.okWide Try.prog W r b0 49 v) (h : DataW.Trod enc Try.prog W 0 (fun _ => true) true 49 v d ps) :
    ∃ v1 v2 ts1 ts2, v = .agg #[v1, v2] ∧ StrRow W v1 ts1 ∧ StrRow W v2 ts2 := by
  obtain ⟨cs, rfl, hsz⟩ : ∃ cs, v = .agg cs ∧ cs.size = 2 := by
    simp only [Value.okWide, Try.underlying49] at hv
    obtain ⟨cs, h1, h2, _⟩ := hv
    exact ⟨cs, h1, h2.trans cells_two⟩
  obtain ⟨l⟩ := cs
  match l, hsz with
  | [c0, c1], _ =>
    obtain ⟨fuel, hf⟩ := h
    obtain ⟨xs, m, _, _, _, hl, hx⟩ := DataW.trod_array Try.underlying49 hf
    have h0 := hx 0 (by omega)
    have h1 := hx 1 (by omega)
    rw [cells_row] at h0 h1
    obtain ⟨y0, hy0⟩ : ∃ y, xs[0]? = some y := ⟨xs[0], List.getElem?_eq_getElem (by omega)⟩
    obtain ⟨y1, hy1⟩ : ∃ y, xs[1]? = some y := ⟨xs[1], List.getElem?_eq_getElem (by omega)⟩
    rw [hy0] at h0
    rw [hy1] at h1
    obtain ⟨ts1, r1⟩ := strRow_cell (c := c0) (by simpa [Value.cells] using h0)
    obtain ⟨ts2, r2⟩ := strRow_cell (c := c1) (by simpa [Value.cells] using h1)
    exact ⟨c0, c1, ts1, ts2, rfl, r1, r2⟩

set_option maxRecDepth 100000 in
theorem lifted (os : Os) (started : os.Started) (H : Type) (enc : TypeId × Value → H) :
    ReturnsInHanded {} Try.checked os 6 .any (Rows.octetOneSpec.pre6 enc Try.prog Try.f6 Rows.octetOneRow.domain false) (Rows.octetOneSpec.post enc Try.prog Try.f6 false true false false) := by
  refine returnsInHanded_of_change (C := Try.checked) lawOwn started (by kernel_rfl) Try.func6
    (ChangeSpec.witness6 (enc := enc) (C := Try.checked) false ⟨#[], #[.int .u64 0, .int .u64 0, .agg #[.slice none 0 0, .slice none 0 0]], []⟩ 8 (by kernel_rfl) (by kernel_rfl) (by kernel_rfl) (by kernel_rfl)) ?_
  intro W base args ds gs before hval0 hW hcnd _
  have hval : ∀ (j : Nat) t v, Try.f6.params[j]? = some t → args[j]? = some v → Value.okWide Try.prog W .any base t v := hval0
  have hW' := hW
  obtain ⟨p, q, hA0, hV, rfl, hfz, hnd⟩ := hW
  have hA : DataW.TrodAll enc Try.prog W 0 (fun _ => true) true Try.f6.params.toList args.toList ds p := hA0
  rw [Try.params6] at hA hval
  obtain ⟨v0, vs0, d0, ds0, p0, q0, hargs, rfl, rfl, h0, r0⟩ := trodAll_cons hA
  obtain ⟨v1, vs1, d1, ds1, p1, q1, rfl, rfl, rfl, h1, r1⟩ := trodAll_cons r0
  obtain ⟨v2, vs2, d2, ds2, p2, q2, rfl, rfl, rfl, h2, r2⟩ := trodAll_cons r1
  obtain ⟨rfl, rfl, rfl⟩ := trodAll_nil r2
  obtain rfl : args = #[v0, v1, v2] := by cases args; simp_all
  obtain ⟨rfl, rfl⟩ := trodVars_none hV
  obtain ⟨a0, rfl, rfl, rfl, w0⟩ := open_int Try.underlying22 (hval 0 22 v0 rfl rfl) h0
  obtain ⟨a1, rfl, rfl, rfl, w1⟩ := open_int Try.underlying22 (hval 1 22 v1 rfl rfl) h1
  obtain ⟨x2, y2, ts2, us2, rfl, r2a, r2b⟩ := two_rows (hval 2 49 v2 rfl rfl) h2
  clear hA0 hval0 hcnd
  obtain ⟨n0, rfl, l0⟩ := u64_nat w0
  obtain ⟨n1, rfl, l1⟩ := u64_nat w1
  refine (walk (w := W) n0 l0 n1 l1 _ _ _ _ r2a r2b).mono fun e W' ⟨he, bel⟩ => ?_
  subst he
  exact ⟨_, rfl, law_post rfl rfl (by kernel_rfl) hW' rfl bel⟩

theorem holds : Rows.OctetOneSaid :=
  OpenClaim.holds_of_wide 6 Try.f6 rfl rfl rfl rfl rfl rfl rfl ⟨rfl, rfl, rfl, rfl, rfl⟩ rfl rfl rfl rfl rfl (by kernel_rfl) Try.func6 (by kernel_rfl)
    (of_decide_eq_true (by kernel_rfl)) (by unfold Func.isWrapper; first | (rw [if_pos (by decide +kernel)]; kernel_rfl) | (rw [if_neg (by decide +kernel)]; exact ⟨rfl, rfl⟩))
    (fun os started H enc _ => lifted os started H enc)
end Go.Proofs.Ytnhpebhmihagbaa.octetOne

theorem Go.Proofs.Ytnhpebhmihagbaa.octetOne_holds : Go.Proofs.Ytnhpebhmihagbaa.Rows.OctetOneSaid := Go.Proofs.Ytnhpebhmihagbaa.octetOne.holds
#print axioms Go.Proofs.Ytnhpebhmihagbaa.octetOne_holds
