/-
  Arguments that are slices of numbers, and of the statements' calls (Op).
-/
import Derived.Test.YtkoojbbimjjndaaStrArg
import Derived.Test.YtkoojbbimjjndaaDiskSettle
import Derived.ChangeSlices
namespace Go.Proofs.Ytkoojbbimjjndaa
open Go.ChangeShapes Go.WideShapes Go.ChangeAt Go.RowKit

theorem cells_int : Try.prog.cellsOf 3 = 1 := by kernel_rfl
/-- A cell that reads as a slice of numbers. -/
theorem ints_cell {H : Type} {enc : TypeId × Value → H} {W : World} {fuel : Nat} {c : Value} {x : DataW H × List MemPlace} (hpos : 0 < W.heap.size)
    (hf : DataW.trod enc Try.prog W 0 (fun _ => true) true fuel 36 [c] = some x) : ∃ ps b, Ints W c ps b ∧ b < W.heap.size := by
  rcases open_ints Try.underlying36 Try.underlying3 cells_int hf with ⟨hcs, _⟩ | ⟨a, len, cap, zs, hcs, _, hl, hm, hz, _, hcell, hwz⟩
  · simp at hcs
    subst hcs
    exact ⟨[], 0, Ints.nil _ _, hpos⟩
  · simp at hcs
    subst hcs
    simp at hz
    have ht : (zs.take len).length = len := by rw [List.length_take]; omega
    by_cases hlen : len = 0
    · subst hlen
      exact ⟨[], 0, ⟨some a, cap, rfl, by unfold maxLen at hm; simp; omega, fun h => absurd rfl h⟩, hpos⟩
    · obtain ⟨b, off, rfl, hb, hc⟩ := addr_plain (n := zs.length) (by omega) hcell
      refine ⟨zs.take len, b, ⟨some ⟨b, off, none⟩, cap, by rw [ht], by rw [ht]; unfold maxLen at hm; omega, fun _ => ⟨off, rfl, hb, fun j hj => ?_⟩⟩, hb⟩
      rw [hc j (by omega)]
      congr 2
      rw [ht] at hj
      simp [hj]
theorem ints_of {H : Type} {enc : TypeId × Value → H} {W : World} {a : Option Addr} {len cap : Nat} {d : DataW H} {ps : List MemPlace}
    (h : DataW.Trod enc Try.prog W 0 (fun _ => true) true 36 (.slice a len cap) d ps) : ∃ zs b, Ints W (.slice a len cap) zs b ∧ (b < W.heap.size ∨ zs = []) := by
  obtain ⟨fuel, hf⟩ := h
  have hf' : DataW.trod enc Try.prog W 0 (fun _ => true) true fuel 36 [.slice a len cap] = some (d, ps) := by simpa [Value.cells] using hf
  by_cases hpos : 0 < W.heap.size
  · obtain ⟨zs, b, h1, h2⟩ := ints_cell hpos hf'
    exact ⟨zs, b, h1, .inl h2⟩
  · rcases open_ints Try.underlying36 Try.underlying3 cells_int hf' with ⟨hcs, _⟩ | ⟨a', len', cap', zs, hcs, _, hl, hm, hz, _, hcell, hwz⟩
    · simp at hcs
      obtain ⟨rfl, rfl, rfl⟩ := hcs
      exact ⟨[], 0, Ints.nil _ _, .inr rfl⟩
    · simp at hcs
      obtain ⟨rfl, rfl, rfl⟩ := hcs
      simp at hz
      by_cases hlen : len = 0
      · subst hlen
        exact ⟨[], 0, ⟨some a', cap, rfl, by unfold maxLen at hm; simp; omega, fun h => absurd rfl h⟩, .inr rfl⟩
      · obtain ⟨b, off, rfl, hb, hc⟩ := addr_plain (n := zs.length) (by omega) hcell
        exact absurd hb (by omega)

/-- A call of a script. -/
structure OpR where
  kind : Int
  at_ : Int
  n : Int
  byte : UInt8
  short : Bool
  pv : Value
  ps : List Int
  pb : Nat
def i64ok (z : Int) : Prop := -9223372036854775808 ≤ z ∧ z ≤ 9223372036854775807
/-- The cells of a call. -/
def opCs (o : OpR) : List Value := [.int .i64 o.kind, .int .i64 o.at_, .int .i64 o.n, .int .u8 (o.byte.toNat : Int), .bool o.short, o.pv]
structure OpOk (W : World) (o : OpR) : Prop where
  kind : i64ok o.kind
  at_ : i64ok o.at_
  n : i64ok o.n
  picks : Ints W o.pv o.ps o.pb
  pb : o.pb < W.heap.size

theorem u8_of {z : Int} (h : (Lit.int .u8 z).wf = true) : ∃ b : UInt8, z = (b.toNat : Int) := by
  have hz : 0 ≤ z ∧ z ≤ 255 := by simpa [Lit.wf, IntKind.min, IntKind.max, IntKind.signed, IntKind.bits] using h
  refine ⟨UInt8.ofNat z.toNat, ?_⟩
  rw [UInt8.toNat_ofNat']
  omega
theorem op_cells {H : Type} {enc : TypeId × Value → H} {W : World} {fuel : Nat} {cs : List Value} {x : DataW H × List MemPlace} (hpos : 0 < W.heap.size)
    (hf : DataW.trod enc Try.prog W 0 (fun _ => true) true fuel 38 cs = some x) : ∃ o : OpR, cs = opCs o ∧ OpOk W o := by
  obtain ⟨xs, m, _, _, hl, hxl, hx⟩ := DataW.trod_struct Try.underlying38 hf
  have hl6 : cs.length = 6 := hl.trans (by kernel_rfl)
  match cs, hl6 with
  | [c0, c1, c2, c3, c4, c5], _ =>
    have g : ∀ i, i < 6 → ∃ y, xs[i]? = some y := fun i hi => ⟨xs[i]'(by rw [hxl]; exact hi), List.getElem?_eq_getElem _⟩
    obtain ⟨y0, e0⟩ := g 0 (by decide)
    obtain ⟨y1, e1⟩ := g 1 (by decide)
    obtain ⟨y2, e2⟩ := g 2 (by decide)
    obtain ⟨y3, e3⟩ := g 3 (by decide)
    obtain ⟨y4, e4⟩ := g 4 (by decide)
    obtain ⟨y5, e5⟩ := g 5 (by decide)
    have k1 : Try.prog.cellsOf 3 = 1 := by kernel_rfl
    have k2 : Try.prog.cellsOf 5 = 1 := by kernel_rfl
    have k3 : Try.prog.cellsOf 4 = 1 := by kernel_rfl
    have k4 : Try.prog.cellsOf 36 = 1 := by kernel_rfl
    have h0 : DataW.trod enc Try.prog W 0 (fun _ => true) true m 3 ([c0, c1, c2, c3, c4, c5].take (Try.prog.cellsOf 3)) = some y0 := by rw [← e0]; exact hx 0 _ rfl
    rw [k1] at h0
    have h1 : DataW.trod enc Try.prog W 0 (fun _ => true) true m 3 ([c1, c2, c3, c4, c5].take (Try.prog.cellsOf 3)) = some y1 := by rw [← e1]; exact hx 1 _ rfl
    rw [k1] at h1
    have h2 : DataW.trod enc Try.prog W 0 (fun _ => true) true m 3 ([c2, c3, c4, c5].take (Try.prog.cellsOf 3)) = some y2 := by rw [← e2]; exact hx 2 _ rfl
    rw [k1] at h2
    have h3 : DataW.trod enc Try.prog W 0 (fun _ => true) true m 5 ([c3, c4, c5].take (Try.prog.cellsOf 5)) = some y3 := by rw [← e3]; exact hx 3 _ rfl
    rw [k2] at h3
    have h4 : DataW.trod enc Try.prog W 0 (fun _ => true) true m 4 ([c4, c5].take (Try.prog.cellsOf 4)) = some y4 := by rw [← e4]; exact hx 4 _ rfl
    rw [k3] at h4
    have h5 : DataW.trod enc Try.prog W 0 (fun _ => true) true m 36 ([c5].take (Try.prog.cellsOf 36)) = some y5 := by rw [← e5]; exact hx 5 _ rfl
    rw [k4] at h5
    simp only [List.take_succ_cons, List.take_zero] at h0 h1 h2 h3 h4 h5
    obtain ⟨z0, q0, _, w0⟩ := DataW.trod_int Try.underlying3 h0
    obtain ⟨z1, q1, _, w1⟩ := DataW.trod_int Try.underlying3 h1
    obtain ⟨z2, q2, _, w2⟩ := DataW.trod_int Try.underlying3 h2
    obtain ⟨z3, q3, _, w3⟩ := DataW.trod_int Try.underlying5 h3
    obtain ⟨b4, q4, _⟩ := DataW.trod_bool Try.underlying4 h4
    obtain ⟨ps, pb, hps, hpb⟩ := ints_cell hpos h5
    obtain ⟨b3, rfl⟩ := u8_of w3
    injection q0 with q0 _
    injection q1 with q1 _
    injection q2 with q2 _
    injection q3 with q3 _
    injection q4 with q4 _
    subst q0
    subst q1
    subst q2
    subst q3
    subst q4
    exact ⟨⟨z0, z1, z2, b3, b4, c5, ps, pb⟩, rfl, i64_bounds w0, i64_bounds w1, i64_bounds w2, hps, hpb⟩

/-- v is a slice that reads as the calls l. -/
def Ops (w : World) (v : Value) (l : List OpR) : Prop :=
  ∃ a cap, v = .slice a l.length cap ∧ l.length ≤ 9223372036854775807 ∧ (∀ j (hj : j < l.length), ∃ b off, a = some ⟨b, off, none⟩ ∧ b < w.heap.size ∧ OpOk w l[j] ∧ ∀ i v, (opCs l[j])[i]? = some v → w.cell? ⟨b, off + (j * 6 + i), none⟩ = some v)
theorem add_add (a : Addr) (i j : Nat) (h : a.spot = none) : (a.add i).add j = ⟨a.block, a.off + (i + j), none⟩ := by
  obtain ⟨b, off, s⟩ := a
  subst h
  rw [Addr.add_mid, Addr.add_mid, Nat.add_assoc]
theorem ops_of {H : Type} {enc : TypeId × Value → H} {W : World} {a : Option Addr} {len cap : Nat} {d : DataW H} {ps : List MemPlace}
    (h : DataW.Trod enc Try.prog W 0 (fun _ => true) true 30 (.slice a len cap) d ps) : ∃ l, Ops W (.slice a len cap) l := by
  obtain ⟨fuel, hf⟩ := h
  have hf' : DataW.trod enc Try.prog W 0 (fun _ => true) true fuel 30 [.slice a len cap] = some (d, ps) := by simpa [Value.cells] using hf
  rcases DataW.trod_slice Try.underlying30 hf' with ⟨hcs, _⟩ | ⟨a', len', cap', elems, rest, n, _, hcs, _, _, hl, hm, hlen, hel, _, _⟩
  · simp at hcs
    obtain ⟨rfl, rfl, rfl⟩ := hcs
    exact ⟨[], none, 0, rfl, by decide, fun j hj => by simp at hj⟩
  · simp at hcs
    obtain ⟨rfl, rfl, rfl⟩ := hcs
    have k6 : Try.prog.cellsOf 38 = 6 := by kernel_rfl
    have each : ∀ i, i < len → ∃ cs, W.cells? 0 (a'.add (i * 6)) 6 = some cs ∧ ∃ y, DataW.trod enc Try.prog W 0 (fun _ => true) true n 38 cs = some y := by
      intro i hi
      have := hel i hi
      rw [k6, List.getElem?_eq_getElem (by omega)] at this
      obtain ⟨cs, h1, h2⟩ := Option.bind_eq_some_iff.1 this
      exact ⟨cs, h1, _, h2⟩
    have hplain : 0 < len → ∃ b off, a' = ⟨b, off, none⟩ ∧ b < W.heap.size := by
      intro hp
      obtain ⟨cs, h1, y, h2⟩ := each 0 hp
      have h3 := (World.cells?_some h1).2.2 0 (by decide)
      have hb := World.cells?_block h1 (by decide)
      have e0 : (a'.add (0 * 6)).add 0 = a' := by unfold Addr.add; simp
      rw [e0] at h3
      have e1 : (a'.add (0 * 6)).block = a'.block := by unfold Addr.add; simp
      rw [e1] at hb
      obtain ⟨b, off, spot⟩ := a'
      refine ⟨b, off, ?_, hb⟩
      cases spot with
      | none => rfl
      | some x =>
        obtain ⟨o, rfl, _⟩ := op_cells (by omega) h2
        unfold World.cell? at h3
        split at h3 <;> simp_all [opCs]
    have op : ∀ i, i < len → ∃ o : OpR, OpOk W o ∧ ∃ b off, a' = ⟨b, off, none⟩ ∧ b < W.heap.size ∧ ∀ j v, (opCs o)[j]? = some v → W.cell? ⟨b, off + (i * 6 + j), none⟩ = some v := by
      intro i hi
      obtain ⟨cs, h1, y, h2⟩ := each i hi
      obtain ⟨b, off, rfl, hb⟩ := hplain (by omega)
      obtain ⟨o, rfl, hok⟩ := op_cells (by omega) h2
      refine ⟨o, hok, b, off, rfl, hb, fun j v hv => ?_⟩
      have hj : j < 6 := by have := (List.getElem?_eq_some_iff.1 hv).1; exact this
      have := (World.cells?_some h1).2.2 j hj
      rw [add_add _ _ _ rfl] at this
      rw [this]
      exact hv
    refine ⟨(List.range len).attach.map fun i => Classical.choose (op i.1 (List.mem_range.1 i.2)), some a', cap, by simp, by simp; unfold maxLen at hm; omega, fun j hj => ?_⟩
    have hj' : j < len := by simpa using hj
    obtain ⟨hok, b, off, e, hb, hc⟩ := Classical.choose_spec (op j hj')
    refine ⟨b, off, by rw [e], hb, ?_, ?_⟩
    · simp only [List.getElem_map, List.getElem_attach, List.getElem_range]
      exact hok
    · simp only [List.getElem_map, List.getElem_attach, List.getElem_range]
      exact hc
end Go.Proofs.Ytkoojbbimjjndaa
