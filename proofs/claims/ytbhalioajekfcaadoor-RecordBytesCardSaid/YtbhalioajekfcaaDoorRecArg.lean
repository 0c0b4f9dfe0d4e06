/-
  Arguments that are records, or slices of records.
-/
import Derived.Test.YtbhalioajekfcaaDoorRecAwake
import Derived.Test.YtbhalioajekfcaaDoorMArg
import Derived.ChangeSlices
import Derived.SliceStrings
import Derived.Lib.SmallJoins
namespace Go.Proofs.YtbhalioajekfcaaDoor
open Go.ChangeShapes Go.WideShapes Go.ChangeAt Go.RowKit

set_option maxRecDepth 100000 in
theorem rec_cells {H : Type} {enc : TypeId × Value → H} {W : World} {fuel : Nat} {cs : List Value} {x : DataW H × List MemPlace}
    (hf : DataW.trod enc Tryd.prog W 0 (fun _ => true) true fuel 23 cs = some x) : ∃ r : RecR, cs = recCs r ∧ RecOk r := by
  obtain ⟨xs, m, _, _, hl, hxl, hx⟩ := DataW.trod_struct Tryd.underlying23 hf
  have hl4 : cs.length = 4 := hl.trans (by kernel_rfl)
  match cs, hl4 with
  | [c0, c1, c2, c3], _ =>
    have g : ∀ i, i < 4 → ∃ y, xs[i]? = some y := fun i hi => ⟨xs[i]'(by rw [hxl]; exact hi), List.getElem?_eq_getElem _⟩
    obtain ⟨y0, e0⟩ := g 0 (by decide)
    obtain ⟨y1, e1⟩ := g 1 (by decide)
    obtain ⟨y2, e2⟩ := g 2 (by decide)
    obtain ⟨y3, e3⟩ := g 3 (by decide)
    have k0 : Tryd.prog.cellsOf 3 = 1 := by kernel_rfl
    have k3 : Tryd.prog.cellsOf 9 = 1 := by kernel_rfl
    have h0 : DataW.trod enc Tryd.prog W 0 (fun _ => true) true m 3 ([c0, c1, c2, c3].take (Tryd.prog.cellsOf 3)) = some y0 := by rw [← e0]; exact hx 0 _ rfl
    have h1 : DataW.trod enc Tryd.prog W 0 (fun _ => true) true m 3 ([c1, c2, c3].take (Tryd.prog.cellsOf 3)) = some y1 := by rw [← e1]; exact hx 1 _ rfl
    have h2 : DataW.trod enc Tryd.prog W 0 (fun _ => true) true m 3 ([c2, c3].take (Tryd.prog.cellsOf 3)) = some y2 := by rw [← e2]; exact hx 2 _ rfl
    have h3 : DataW.trod enc Tryd.prog W 0 (fun _ => true) true m 9 ([c3].take (Tryd.prog.cellsOf 9)) = some y3 := by rw [← e3]; exact hx 3 _ rfl
    rw [k0] at h0 h1 h2
    rw [k3] at h3
    simp only [List.take_succ_cons, List.take_zero] at h0 h1 h2 h3
    obtain ⟨z0, q0, _, w0⟩ := DataW.trod_int Tryd.underlying3 h0
    obtain ⟨z1, q1, _, w1⟩ := DataW.trod_int Tryd.underlying3 h1
    obtain ⟨z2, q2, _, w2⟩ := DataW.trod_int Tryd.underlying3 h2
    obtain ⟨z3, q3, _, w3⟩ := DataW.trod_string Tryd.underlying9 h3
    injection q0 with q0 _
    injection q1 with q1 _
    injection q2 with q2 _
    injection q3 with q3 _
    subst q0
    subst q1
    subst q2
    subst q3
    exact ⟨⟨z0, z1, z2, z3⟩, rfl, i64_bounds w0, i64_bounds w1, i64_bounds w2, w3⟩
/-- A record by value. -/
theorem rec_arg {H : Type} {enc : TypeId × Value → H} {W : World} {r : Reach} {b0 : Nat} {v : Value} {d : DataW H} {ps : List MemPlace} (hv : Value.okWide Tryd.prog W r b0 23 v)
    (h : DataW.Trod enc Tryd.prog W 0 (fun _ => true) true 23 v d ps) : ∃ (win idx tim : Int) (pay : ByteArray), v = .agg #[.int .i64 win, .int .i64 idx, .int .i64 tim, .string pay] ∧ RecOk ⟨win, idx, tim, pay⟩ := by
  obtain ⟨cs, rfl, hsz⟩ := okWide_struct Tryd.underlying23 hv
  obtain ⟨fuel, hf⟩ := h
  obtain ⟨c⟩ := cs
  obtain ⟨⟨win, idx, tim, pay⟩, hc, hok⟩ := rec_cells (cs := c) hf
  subst hc
  exact ⟨win, idx, tim, pay, rfl, hok⟩
theorem add_addR (a : Addr) (i j : Nat) (h : a.spot = none) : (a.add i).add j = ⟨a.block, a.off + (i + j), none⟩ := by
  obtain ⟨b, off, s⟩ := a
  subst h
  rw [Addr.add_mid, Addr.add_mid, Nat.add_assoc]
/-- A slice of records. -/
theorem recs_of {H : Type} {enc : TypeId × Value → H} {W : World} {a : Option Addr} {len cap : Nat} {d : DataW H} {ps : List MemPlace}
    (h : DataW.Trod enc Tryd.prog W 0 (fun _ => true) true 38 (.slice a len cap) d ps) : ∃ l, RowR W (.slice a len cap) l ∧ ∀ r ∈ l, RecOk r := by
  obtain ⟨fuel, hf⟩ := h
  have hf' : DataW.trod enc Tryd.prog W 0 (fun _ => true) true fuel 38 [.slice a len cap] = some (d, ps) := by simpa [Value.cells] using hf
  rcases DataW.trod_slice Tryd.underlying38 hf' with ⟨hcs, _⟩ | ⟨a', len', cap', elems, rest, n, _, hcs, _, _, hl, hm, hlen, hel, _, _⟩
  · simp at hcs
    obtain ⟨rfl, rfl, rfl⟩ := hcs
    exact ⟨[], RowR.nil _, fun r hr => by cases hr⟩
  · simp at hcs
    obtain ⟨rfl, rfl, rfl⟩ := hcs
    have k2 : Tryd.prog.cellsOf 23 = 4 := by kernel_rfl
    have each : ∀ i, i < len → ∃ cs, W.cells? 0 (a'.add (i * 4)) 4 = some cs ∧ ∃ y, DataW.trod enc Tryd.prog W 0 (fun _ => true) true n 23 cs = some y := by
      intro i hi
      have := hel i hi
      rw [k2, List.getElem?_eq_getElem (by omega)] at this
      obtain ⟨cs, h1, h2⟩ := Option.bind_eq_some_iff.1 this
      exact ⟨cs, h1, _, h2⟩
    have hplain : 0 < len → ∃ b off, a' = ⟨b, off, none⟩ ∧ b < W.heap.size := by
      intro hp
      obtain ⟨cs, h1, y, h2⟩ := each 0 hp
      have h3 := (World.cells?_some h1).2.2 0 (by decide)
      have hb := World.cells?_block h1 (by decide)
      have e0 : (a'.add (0 * 4)).add 0 = a' := by unfold Addr.add; simp
      rw [e0] at h3
      have e1 : (a'.add (0 * 4)).block = a'.block := by unfold Addr.add; simp
      rw [e1] at hb
      obtain ⟨b, off, spot⟩ := a'
      refine ⟨b, off, ?_, hb⟩
      cases spot with
      | none => rfl
      | some x =>
        obtain ⟨o, rfl, _⟩ := rec_cells h2
        unfold World.cell? at h3
        split at h3 <;> simp_all [recCs]
    have op : ∀ i, i < len → ∃ r : RecR, RecOk r ∧ ∃ b off, a' = ⟨b, off, none⟩ ∧ b < W.heap.size ∧ W.cell? ⟨b, off + i * 4, none⟩ = some (.int .i64 r.win) ∧ W.cell? ⟨b, off + i * 4 + 1, none⟩ = some (.int .i64 r.idx) ∧ W.cell? ⟨b, off + i * 4 + 2, none⟩ = some (.int .i64 r.tim) ∧ W.cell? ⟨b, off + i * 4 + 3, none⟩ = some (.string r.pay) := by
      intro i hi
      obtain ⟨cs, h1, y, h2⟩ := each i hi
      obtain ⟨b, off, rfl, hb⟩ := hplain (by omega)
      obtain ⟨r, rfl, hok⟩ := rec_cells h2
      have t0 := (World.cells?_some h1).2.2 0 (by decide)
      have t1 := (World.cells?_some h1).2.2 1 (by decide)
      have t2 := (World.cells?_some h1).2.2 2 (by decide)
      have t3 := (World.cells?_some h1).2.2 3 (by decide)
      rw [add_addR _ _ _ rfl] at t0 t1 t2 t3
      exact ⟨r, hok, b, off, rfl, hb, t0, t1, t2, t3⟩
    refine ⟨(List.range len).attach.map fun i => Classical.choose (op i.1 (List.mem_range.1 i.2)), ⟨some a', cap, by simp, by simp; unfold maxLen at hm; omega, fun j r hr => ?_⟩, fun r hr => ?_⟩
    · obtain ⟨hj, e⟩ := List.getElem?_eq_some_iff.1 hr
      have hj' : j < len := by simpa using hj
      obtain ⟨hok, b, off, ea, hb, hc⟩ := Classical.choose_spec (op j hj')
      simp only [List.getElem_map, List.getElem_attach, List.getElem_range] at e
      refine ⟨b, off, by rw [ea], hb, ?_⟩
      rw [← e]
      exact hc
    · obtain ⟨i, _, rfl⟩ := List.mem_map.1 hr
      exact (Classical.choose_spec (op i.1 (List.mem_range.1 i.2))).1
end Go.Proofs.YtbhalioajekfcaaDoor
