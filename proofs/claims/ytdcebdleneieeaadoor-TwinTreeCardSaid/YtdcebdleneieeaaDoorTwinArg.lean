/-
  Arguments of the statements of layer 13: two rows of hashes with a boolean, a hash with a row.
-/
import Derived.Test.YtdcebdleneieeaaDoorTwinAwake
import Derived.Test.YtdcebdleneieeaaDoorTwinTrs
import Derived.Test.YtdcebdleneieeaaDoorRTwinLvs
import Derived.Test.YtdcebdleneieeaaDoorRTwinTrs
import Derived.Test.YtdcebdleneieeaaDoorMProofR
namespace Go.Proofs.YtdcebdleneieeaaDoor
open Go.ChangeShapes Go.WideShapes Go.ChangeAt Go.RowKit

theorem open_rows13 {H : Type} {enc : TypeId × Value → H} {W : World} {r : Reach} {b0 : Nat} {v : Value} {d : DataW H} {ps : List MemPlace} (hv : Value.okWide Tryd.prog W r b0 28 v)
    (h : DataW.Trod enc Tryd.prog W 0 (fun _ => true) true 28 v d ps) : ∃ (u u' : Value) (l l' : Hs) (o : Bool), v = .agg #[u, u', .bool o] ∧ Sums W u l ∧ Sums W u' l' := by
  obtain ⟨cs, rfl, hsz⟩ := okWide_struct Tryd.underlying28 hv
  obtain ⟨fuel, hf⟩ := h
  obtain ⟨c⟩ := cs
  obtain ⟨xs, m, _, _, hl, hxl, hx⟩ := DataW.trod_struct Tryd.underlying28 hf
  have hl2 : c.length = 3 := hl.trans (by kernel_rfl)
  match c, hl2 with
  | [c0, c1, c2], _ =>
    have g : ∀ i, i < 3 → ∃ y, xs[i]? = some y := fun i hi => ⟨xs[i]'(by rw [hxl]; exact hi), List.getElem?_eq_getElem _⟩
    obtain ⟨y0, e0⟩ := g 0 (by decide)
    obtain ⟨y1, e1⟩ := g 1 (by decide)
    obtain ⟨y2, e2⟩ := g 2 (by decide)
    have k1 : Tryd.prog.cellsOf 26 = 1 := by kernel_rfl
    have k2 : Tryd.prog.cellsOf 4 = 1 := by kernel_rfl
    have h0 : DataW.trod enc Tryd.prog W 0 (fun _ => true) true m 26 ([c0, c1, c2].take (Tryd.prog.cellsOf 26)) = some y0 := by rw [← e0]; exact hx 0 _ rfl
    have h1 : DataW.trod enc Tryd.prog W 0 (fun _ => true) true m 26 ([c1, c2].take (Tryd.prog.cellsOf 26)) = some y1 := by rw [← e1]; exact hx 1 _ rfl
    have h2 : DataW.trod enc Tryd.prog W 0 (fun _ => true) true m 4 ([c2].take (Tryd.prog.cellsOf 4)) = some y2 := by rw [← e2]; exact hx 2 _ rfl
    rw [k1] at h0 h1
    rw [k2] at h2
    simp only [List.take_succ_cons, List.take_zero] at h0 h1 h2
    obtain ⟨u, l, q0, s0⟩ := slice_cellsP h0
    obtain ⟨u', l', q1, s1⟩ := slice_cellsP h1
    obtain ⟨o, q2, _⟩ := DataW.trod_bool Tryd.underlying4 h2
    injection q0 with q0 _
    injection q1 with q1 _
    injection q2 with q2 _
    subst q0 q1 q2
    exact ⟨_, _, l, l', o, rfl, s0, s1⟩
theorem open_claim {H : Type} {enc : TypeId × Value → H} {W : World} {r : Reach} {b0 : Nat} {v : Value} {d : DataW H} {ps : List MemPlace} (hv : Value.okWide Tryd.prog W r b0 47 v)
    (h : DataW.Trod enc Tryd.prog W 0 (fun _ => true) true 47 v d ps) : ∃ (x : List UInt8) (u : Value) (l : Hs), v = .agg (x.map u8V ++ [u]).toArray ∧ x.length = 32 ∧ Sums W u l := by
  obtain ⟨cs, rfl, hsz⟩ := okWide_struct Tryd.underlying47 hv
  obtain ⟨fuel, hf⟩ := h
  obtain ⟨c⟩ := cs
  obtain ⟨xs, m, _, _, hl, hxl, hx⟩ := DataW.trod_struct Tryd.underlying47 hf
  have hl2 : c.length = 33 := hl.trans (by kernel_rfl)
  have g : ∀ i, i < 2 → ∃ y, xs[i]? = some y := fun i hi => ⟨xs[i]'(by rw [hxl]; exact hi), List.getElem?_eq_getElem _⟩
  obtain ⟨y0, e0⟩ := g 0 (by decide)
  obtain ⟨y1, e1⟩ := g 1 (by decide)
  have k1 : Tryd.prog.cellsOf 24 = 32 := by kernel_rfl
  have k2 : Tryd.prog.cellsOf 26 = 1 := by kernel_rfl
  have h0 : DataW.trod enc Tryd.prog W 0 (fun _ => true) true m 24 (c.take (Tryd.prog.cellsOf 24)) = some y0 := by rw [← e0]; exact hx 0 _ rfl
  have h1 : DataW.trod enc Tryd.prog W 0 (fun _ => true) true m 26 ((c.drop 32).take (Tryd.prog.cellsOf 26)) = some y1 := by rw [← e1]; exact hx 1 _ rfl
  rw [k1] at h0
  rw [k2] at h1
  obtain ⟨x, q0, hx0⟩ := sum_cells h0
  obtain ⟨u, l, q1, s1⟩ := slice_cellsP h1
  refine ⟨x, u, l, ?_, hx0, s1⟩
  have hd : (c.drop 32).take 1 = c.drop 32 := List.take_of_length_le (by rw [List.length_drop]; omega)
  rw [hd] at q1
  rw [← q0, ← q1, List.take_append_drop]
section
variable {ops : Array Oper} {Q : Exit → Act → World → Prop} {a : Act} {w : World} {K : Act → World → Prop} {o : Oper}
/-- A guard that hangs on what was not carried out is off. -/
theorem rop_offU {j : Nat} {b : Bool} {d : Tmp} (hg : o.guard = some (j, b)) (hd : (ops[j]?).bind (·.dst) = some d) (hv : a.eval (.tmp d) = undef) (h : K (a.put o.dst undef) w) :
    if Region.wanted o (yielded ops a.tmps) = true then Oper.wp Tryd.prog o a w K Q else K (a.put o.dst undef) w := by
  have hw : ¬ Region.wanted o (yielded ops a.tmps) = true := by
    cases h : a.tmps[d]? with
    | none => simp [Region.wanted, hg, yielded, hd, h]
    | some x =>
      have hx : x = undef := by simpa [Act.eval, h] using hv
      simp [Region.wanted, hg, yielded, hd, h, hx, undef]
  rw [if_neg hw]
  exact h
end
theorem eql_tw_t (p : TT) (w : World) : (binOp .eql 32 (twV p) (twV p)).run Tryd.prog w = .ok (.bool true) w := by
  rw [eql_tw, decide_eq_true rfl]
theorem fld_rows (q k : Nat) (h : k < 3) (w : World) : (Instr.fieldAt 28 (.pointer (some ⟨q, 0, none⟩)) k).run Tryd.prog w = .ok (.pointer (some ⟨q, k, none⟩)) w := by
  have : k = 0 ∨ k = 1 ∨ k = 2 := by omega
  rcases this with rfl | rfl | rfl <;> go_simp
theorem fld_claim0 (q : Nat) (w : World) : (Instr.fieldAt 47 (.pointer (some ⟨q, 0, none⟩)) 0).run Tryd.prog w = .ok (.pointer (some ⟨q, 0, none⟩)) w := by
  go_simp
theorem fld_claim1 (q : Nat) (w : World) : (Instr.fieldAt 47 (.pointer (some ⟨q, 0, none⟩)) 1).run Tryd.prog w = .ok (.pointer (some ⟨q, 32, none⟩)) w := by
  go_simp
end Go.Proofs.YtdcebdleneieeaaDoor
