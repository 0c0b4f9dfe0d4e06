/-
  Arguments that are freezes, heads, stones, or two of each.
-/
import Derived.Test.YtlcljjapeigaeaaDoorSelMem
import Derived.Test.YtlcljjapeigaeaaDoorMLeafL
import Derived.Test.YtlcljjapeigaeaaDoorMArg
namespace Go.Proofs.YtlcljjapeigaeaaDoor
open Go.ChangeShapes Go.WideShapes Go.ChangeAt Go.RowKit

section
variable {H : Type} {enc : TypeId × Value → H} {W : World}
theorem cut_at (cs : List Value) (a b c : Nat) (h : c = a + b) : cs.drop a = (cs.drop a).take b ++ cs.drop c := by
  subst h
  rw [← List.drop_drop, List.take_append_drop]
theorem int_part {m : Nat} {cs : List Value} {y : DataW H × List MemPlace} (h : DataW.trod enc Tryd.prog W 0 (fun _ => true) true m 3 cs = some y) : ∃ z : Int, cs = [.int .i64 z] ∧ i64R z := by
  obtain ⟨z, q, _, w⟩ := DataW.trod_int Tryd.underlying3 h
  exact ⟨z, q, i64_bounds w⟩
theorem kcInt : Tryd.prog.cellsOf 3 = 1 := by kernel_rfl
theorem kcSum : Tryd.prog.cellsOf 23 = 32 := by kernel_rfl
theorem kcFz : Tryd.prog.cellsOf 25 = 34 := by kernel_rfl
theorem kcHd : Tryd.prog.cellsOf 27 = 66 := by kernel_rfl
theorem kcSt : Tryd.prog.cellsOf 29 = 67 := by kernel_rfl
set_option maxRecDepth 100000 in
theorem fz_cells {fuel : Nat} {cs : List Value} {x : DataW H × List MemPlace} (hf : DataW.trod enc Tryd.prog W 0 (fun _ => true) true fuel 25 cs = some x) : ∃ f : FzR, cs = fzCs f ∧ FzOk f := by
  obtain ⟨xs, m, _, _, hl, hxl, hx⟩ := DataW.trod_struct Tryd.underlying25 hf
  have hl2 : cs.length = 34 := hl.trans kcFz
  have g : ∀ i, i < 3 → ∃ y, xs[i]? = some y := fun i hi => ⟨xs[i]'(by rw [hxl]; exact hi), List.getElem?_eq_getElem _⟩
  obtain ⟨y0, e0⟩ := g 0 (by decide)
  obtain ⟨y1, e1⟩ := g 1 (by decide)
  obtain ⟨y2, e2⟩ := g 2 (by decide)
  have h0 : DataW.trod enc Tryd.prog W 0 (fun _ => true) true m 3 ((cs.drop 0).take (Tryd.prog.cellsOf 3)) = some y0 := by rw [← e0]; exact hx 0 _ rfl
  have h1 : DataW.trod enc Tryd.prog W 0 (fun _ => true) true m 3 ((cs.drop 1).take (Tryd.prog.cellsOf 3)) = some y1 := by rw [← e1]; exact hx 1 _ rfl
  have h2 : DataW.trod enc Tryd.prog W 0 (fun _ => true) true m 23 ((cs.drop 2).take (Tryd.prog.cellsOf 23)) = some y2 := by rw [← e2]; exact hx 2 _ rfl
  rw [kcInt] at h0 h1
  rw [kcSum] at h2
  obtain ⟨z0, q0, w0⟩ := int_part h0
  obtain ⟨z1, q1, w1⟩ := int_part h1
  obtain ⟨D, q2, w2⟩ := sum_cells h2
  refine ⟨⟨z0, z1, D⟩, ?_, w0, w1, w2⟩
  have c0 := cut_at cs 0 1 1 rfl
  have c1 := cut_at cs 1 1 2 rfl
  have c2 := cut_at cs 2 32 34 rfl
  rw [q0] at c0
  rw [q1] at c1
  rw [q2, show cs.drop 34 = [] from List.drop_eq_nil_of_le (by omega), List.append_nil] at c2
  rw [List.drop_zero] at c0
  rw [c0, c1, c2]
  rfl
set_option maxRecDepth 100000 in
theorem hd_cells {fuel : Nat} {cs : List Value} {x : DataW H × List MemPlace} (hf : DataW.trod enc Tryd.prog W 0 (fun _ => true) true fuel 27 cs = some x) : ∃ f : HdR, cs = hdCs f ∧ HdOk f := by
  obtain ⟨xs, m, _, _, hl, hxl, hx⟩ := DataW.trod_struct Tryd.underlying27 hf
  have hl2 : cs.length = 66 := hl.trans kcHd
  have g : ∀ i, i < 4 → ∃ y, xs[i]? = some y := fun i hi => ⟨xs[i]'(by rw [hxl]; exact hi), List.getElem?_eq_getElem _⟩
  obtain ⟨y0, e0⟩ := g 0 (by decide)
  obtain ⟨y1, e1⟩ := g 1 (by decide)
  obtain ⟨y2, e2⟩ := g 2 (by decide)
  obtain ⟨y3, e3⟩ := g 3 (by decide)
  have h0 : DataW.trod enc Tryd.prog W 0 (fun _ => true) true m 3 ((cs.drop 0).take (Tryd.prog.cellsOf 3)) = some y0 := by rw [← e0]; exact hx 0 _ rfl
  have h1 : DataW.trod enc Tryd.prog W 0 (fun _ => true) true m 23 ((cs.drop 1).take (Tryd.prog.cellsOf 23)) = some y1 := by rw [← e1]; exact hx 1 _ rfl
  have h2 : DataW.trod enc Tryd.prog W 0 (fun _ => true) true m 3 ((cs.drop 33).take (Tryd.prog.cellsOf 3)) = some y2 := by rw [← e2]; exact hx 2 _ rfl
  have h3 : DataW.trod enc Tryd.prog W 0 (fun _ => true) true m 23 ((cs.drop 34).take (Tryd.prog.cellsOf 23)) = some y3 := by rw [← e3]; exact hx 3 _ rfl
  rw [kcInt] at h0 h2
  rw [kcSum] at h1 h3
  obtain ⟨z0, q0, w0⟩ := int_part h0
  obtain ⟨D, q1, w1⟩ := sum_cells h1
  obtain ⟨z2, q2, w2⟩ := int_part h2
  obtain ⟨E, q3, w3⟩ := sum_cells h3
  refine ⟨⟨z0, D, z2, E⟩, ?_, w0, w1, w2, w3⟩
  have c0 := cut_at cs 0 1 1 rfl
  have c1 := cut_at cs 1 32 33 rfl
  have c2 := cut_at cs 33 1 34 rfl
  have c3 := cut_at cs 34 32 66 rfl
  rw [q0] at c0
  rw [q1] at c1
  rw [q2] at c2
  rw [q3, show cs.drop 66 = [] from List.drop_eq_nil_of_le (by omega), List.append_nil] at c3
  rw [List.drop_zero] at c0
  rw [c0, c1, c2, c3]
  rfl
set_option maxRecDepth 100000 in
theorem st_cells {fuel : Nat} {cs : List Value} {x : DataW H × List MemPlace} (hf : DataW.trod enc Tryd.prog W 0 (fun _ => true) true fuel 29 cs = some x) : ∃ f : StR, cs = stCs f ∧ StOk f := by
  obtain ⟨xs, m, _, _, hl, hxl, hx⟩ := DataW.trod_struct Tryd.underlying29 hf
  have hl2 : cs.length = 67 := hl.trans kcSt
  have g : ∀ i, i < 3 → ∃ y, xs[i]? = some y := fun i hi => ⟨xs[i]'(by rw [hxl]; exact hi), List.getElem?_eq_getElem _⟩
  obtain ⟨y0, e0⟩ := g 0 (by decide)
  obtain ⟨y1, e1⟩ := g 1 (by decide)
  obtain ⟨y2, e2⟩ := g 2 (by decide)
  have h0 : DataW.trod enc Tryd.prog W 0 (fun _ => true) true m 25 ((cs.drop 0).take (Tryd.prog.cellsOf 25)) = some y0 := by rw [← e0]; exact hx 0 _ rfl
  have h1 : DataW.trod enc Tryd.prog W 0 (fun _ => true) true m 3 ((cs.drop 34).take (Tryd.prog.cellsOf 3)) = some y1 := by rw [← e1]; exact hx 1 _ rfl
  have h2 : DataW.trod enc Tryd.prog W 0 (fun _ => true) true m 23 ((cs.drop 35).take (Tryd.prog.cellsOf 23)) = some y2 := by rw [← e2]; exact hx 2 _ rfl
  rw [kcInt] at h1
  rw [kcSum] at h2
  rw [kcFz] at h0
  obtain ⟨f0, q0, w0⟩ := fz_cells h0
  obtain ⟨z1, q1, w1⟩ := int_part h1
  obtain ⟨D, q2, w2⟩ := sum_cells h2
  refine ⟨⟨f0, z1, D⟩, ?_, w0, w1, w2⟩
  have c0 := cut_at cs 0 34 34 rfl
  have c1 := cut_at cs 34 1 35 rfl
  have c2 := cut_at cs 35 32 67 rfl
  rw [q0] at c0
  rw [q1] at c1
  rw [q2, show cs.drop 67 = [] from List.drop_eq_nil_of_le (by omega), List.append_nil] at c2
  rw [List.drop_zero] at c0
  rw [c0, c1, c2]
  rfl
variable {r : Reach} {b0 : Nat} {v : Value} {d : DataW H} {ps : List MemPlace}
set_option maxRecDepth 100000 in
theorem fz_arg (hv : Value.okWide Tryd.prog W r b0 25 v) (h : DataW.Trod enc Tryd.prog W 0 (fun _ => true) true 25 v d ps) : ∃ f : FzR, v = .agg (fzCs f).toArray ∧ FzOk f := by
  obtain ⟨cs, rfl, hsz⟩ := okWide_struct Tryd.underlying25 hv
  obtain ⟨fuel, hf⟩ := h
  obtain ⟨c⟩ := cs
  obtain ⟨f, hc, hok⟩ := fz_cells (cs := c) hf
  exact ⟨f, by rw [hc], hok⟩
set_option maxRecDepth 100000 in
theorem hd_arg (hv : Value.okWide Tryd.prog W r b0 27 v) (h : DataW.Trod enc Tryd.prog W 0 (fun _ => true) true 27 v d ps) : ∃ f : HdR, v = .agg (hdCs f).toArray ∧ HdOk f := by
  obtain ⟨cs, rfl, hsz⟩ := okWide_struct Tryd.underlying27 hv
  obtain ⟨fuel, hf⟩ := h
  obtain ⟨c⟩ := cs
  obtain ⟨f, hc, hok⟩ := hd_cells (cs := c) hf
  exact ⟨f, by rw [hc], hok⟩
set_option maxRecDepth 100000 in
theorem st_arg (hv : Value.okWide Tryd.prog W r b0 29 v) (h : DataW.Trod enc Tryd.prog W 0 (fun _ => true) true 29 v d ps) : ∃ f : StR, v = .agg (stCs f).toArray ∧ StOk f := by
  obtain ⟨cs, rfl, hsz⟩ := okWide_struct Tryd.underlying29 hv
  obtain ⟨fuel, hf⟩ := h
  obtain ⟨c⟩ := cs
  obtain ⟨f, hc, hok⟩ := st_cells (cs := c) hf
  exact ⟨f, by rw [hc], hok⟩
set_option maxRecDepth 100000 in
theorem both_arg (hv : Value.okWide Tryd.prog W r b0 52 v) (h : DataW.Trod enc Tryd.prog W 0 (fun _ => true) true 52 v d ps) : ∃ (f : HdR) (t : StR), v = .agg (hdCs f ++ stCs t).toArray ∧ HdOk f ∧ StOk t := by
  obtain ⟨cs, rfl, hsz⟩ := okWide_struct Tryd.underlying52 hv
  obtain ⟨fuel, hf⟩ := h
  obtain ⟨cs⟩ := cs
  obtain ⟨xs, m, _, _, hl, hxl, hx⟩ := DataW.trod_struct (cs := cs) Tryd.underlying52 hf
  have hl2 : cs.length = 133 := hl.trans (by kernel_rfl)
  have g : ∀ i, i < 2 → ∃ y, xs[i]? = some y := fun i hi => ⟨xs[i]'(by rw [hxl]; exact hi), List.getElem?_eq_getElem _⟩
  obtain ⟨y0, e0⟩ := g 0 (by decide)
  obtain ⟨y1, e1⟩ := g 1 (by decide)
  have h0 : DataW.trod enc Tryd.prog W 0 (fun _ => true) true m 27 ((cs.drop 0).take (Tryd.prog.cellsOf 27)) = some y0 := by rw [← e0]; exact hx 0 _ rfl
  have h1 : DataW.trod enc Tryd.prog W 0 (fun _ => true) true m 29 ((cs.drop 66).take (Tryd.prog.cellsOf 29)) = some y1 := by rw [← e1]; exact hx 1 _ rfl
  rw [kcHd] at h0
  rw [kcSt] at h1
  obtain ⟨f, q0, w0⟩ := hd_cells h0
  obtain ⟨t, q1, w1⟩ := st_cells h1
  have c0 := cut_at cs 0 66 66 rfl
  have c1 := cut_at cs 66 67 133 rfl
  rw [q0] at c0
  rw [q1, show cs.drop 133 = [] from List.drop_eq_nil_of_le (by omega), List.append_nil] at c1
  rw [List.drop_zero] at c0
  exact ⟨f, t, by rw [c0, c1], w0, w1⟩
set_option maxRecDepth 100000 in
/-- Two of a kind. -/
theorem two_arg {T : Type} {C : T → List Value} {Ok : T → Prop} {n : Nat} {e t : TypeId} (ht : Tryd.prog.underlying t = some (.array 2 e)) (hcs : Tryd.prog.cellsOf t = n + n) (hce : Tryd.prog.cellsOf e = n)
    (hc : ∀ {fuel : Nat} {cs : List Value} {x : DataW H × List MemPlace}, DataW.trod enc Tryd.prog W 0 (fun _ => true) true fuel e cs = some x → ∃ f : T, cs = C f ∧ Ok f)
    (hv : Value.okWide Tryd.prog W r b0 t v) (h : DataW.Trod enc Tryd.prog W 0 (fun _ => true) true t v d ps) : ∃ a b : T, v = .agg (C a ++ C b).toArray ∧ Ok a ∧ Ok b := by
  obtain ⟨cs, rfl, hsz⟩ : ∃ cs, v = .agg cs ∧ cs.size = n + n := by
    unfold Value.okWide at hv
    simp only [ht] at hv
    obtain ⟨cs, h1, h2, _⟩ := hv
    exact ⟨cs, h1, h2.trans hcs⟩
  obtain ⟨cs⟩ := cs
  have hcl : cs.length = n + n := by simpa using hsz
  obtain ⟨fuel, hf⟩ := h
  obtain ⟨xs, m, _, _, _, hl, hx⟩ := DataW.trod_array (cs := cs) ht hf
  obtain ⟨y0, e0⟩ : ∃ y, xs[0]? = some y := ⟨xs[0], List.getElem?_eq_getElem (by omega)⟩
  obtain ⟨y1, e1⟩ : ∃ y, xs[1]? = some y := ⟨xs[1], List.getElem?_eq_getElem (by omega)⟩
  have h0 := hx 0 (by decide)
  have h1 := hx 1 (by decide)
  rw [hce, e0, Nat.zero_mul] at h0
  rw [hce, e1, Nat.one_mul] at h1
  obtain ⟨a, q0, w0⟩ := hc h0
  obtain ⟨b, q1, w1⟩ := hc h1
  have c0 := cut_at cs 0 n n (by omega)
  have c1 := cut_at cs n n (n + n) rfl
  rw [q0] at c0
  rw [q1, show cs.drop (n + n) = [] from List.drop_eq_nil_of_le (by omega), List.append_nil] at c1
  rw [List.drop_zero] at c0
  exact ⟨a, b, by rw [c0, c1], w0, w1⟩
end
end Go.Proofs.YtlcljjapeigaeaaDoor
