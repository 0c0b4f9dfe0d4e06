/-
  Arguments that are slices of runs.
-/
import Derived.Test.YtlbnopfbfnobnaaExtAwake
import Derived.Test.YtlbnopfbfnobnaaGenLaw
import Derived.ChangeSlices
import Derived.Lib.SmallJoins
namespace Go.Proofs.Ytlbnopfbfnobnaa
open Go.ChangeShapes Go.WideShapes Go.ChangeAt Go.RowKit Ext

theorem run_cells {H : Type} {enc : TypeId × Value → H} {W : World} {fuel : Nat} {cs : List Value} {x : DataW H × List MemPlace}
    (hf : DataW.trod enc Try.prog W 0 (fun _ => true) true fuel 24 cs = some x) : ∃ r : Rn, cs = [.int .i64 r.1, .int .i64 r.2] ∧ okR r := by
  obtain ⟨xs, m, _, _, hl, hxl, hx⟩ := DataW.trod_struct Try.underlying24 hf
  have hl2 : cs.length = 2 := hl.trans (by kernel_rfl)
  match cs, hl2 with
  | [c0, c1], _ =>
    have g : ∀ i, i < 2 → ∃ y, xs[i]? = some y := fun i hi => ⟨xs[i]'(by rw [hxl]; exact hi), List.getElem?_eq_getElem _⟩
    obtain ⟨y0, e0⟩ := g 0 (by decide)
    obtain ⟨y1, e1⟩ := g 1 (by decide)
    have k1 : Try.prog.cellsOf 3 = 1 := by kernel_rfl
    have h0 : DataW.trod enc Try.prog W 0 (fun _ => true) true m 3 ([c0, c1].take (Try.prog.cellsOf 3)) = some y0 := by rw [← e0]; exact hx 0 _ rfl
    rw [k1] at h0
    have h1 : DataW.trod enc Try.prog W 0 (fun _ => true) true m 3 ([c1].take (Try.prog.cellsOf 3)) = some y1 := by rw [← e1]; exact hx 1 _ rfl
    rw [k1] at h1
    simp only [List.take_succ_cons, List.take_zero] at h0 h1
    obtain ⟨z0, q0, _, w0⟩ := DataW.trod_int Try.underlying3 h0
    obtain ⟨z1, q1, _, w1⟩ := DataW.trod_int Try.underlying3 h1
    injection q0 with q0 _
    injection q1 with q1 _
    subst q0
    subst q1
    exact ⟨(z0, z1), rfl, i64_bounds w0, i64_bounds w1⟩
theorem add_add (a : Addr) (i j : Nat) (h : a.spot = none) : (a.add i).add j = ⟨a.block, a.off + (i + j), none⟩ := by
  obtain ⟨b, off, s⟩ := a
  subst h
  rw [Addr.add_mid, Addr.add_mid, Nat.add_assoc]
theorem runs_of {H : Type} {enc : TypeId × Value → H} {W : World} {a : Option Addr} {len cap : Nat} {d : DataW H} {ps : List MemPlace}
    (h : DataW.Trod enc Try.prog W 0 (fun _ => true) true 22 (.slice a len cap) d ps) : ∃ l, Runs W (.slice a len cap) l := by
  obtain ⟨fuel, hf⟩ := h
  have hf' : DataW.trod enc Try.prog W 0 (fun _ => true) true fuel 22 [.slice a len cap] = some (d, ps) := by simpa [Value.cells] using hf
  rcases DataW.trod_slice Try.underlying22 hf' with ⟨hcs, _⟩ | ⟨a', len', cap', elems, rest, n, _, hcs, _, _, hl, hm, hlen, hel, _, _⟩
  · simp at hcs
    obtain ⟨rfl, rfl, rfl⟩ := hcs
    exact ⟨[], Runs.nil _⟩
  · simp at hcs
    obtain ⟨rfl, rfl, rfl⟩ := hcs
    have k2 : Try.prog.cellsOf 24 = 2 := by kernel_rfl
    have each : ∀ i, i < len → ∃ cs, W.cells? 0 (a'.add (i * 2)) 2 = some cs ∧ ∃ y, DataW.trod enc Try.prog W 0 (fun _ => true) true n 24 cs = some y := by
      intro i hi
      have := hel i hi
      rw [k2, List.getElem?_eq_getElem (by omega)] at this
      obtain ⟨cs, h1, h2⟩ := Option.bind_eq_some_iff.1 this
      exact ⟨cs, h1, _, h2⟩
    have hplain : 0 < len → ∃ b off, a' = ⟨b, off, none⟩ ∧ b < W.heap.size := by
      intro hp
      obtain ⟨cs, h1, y, h2⟩ := each 0 hp
      have h3 := (World.cells?_some h1).2.2 0 (by decide)
      have hb := World.cells?_block h1 (by decide)
      have e0 : (a'.add (0 * 2)).add 0 = a' := by unfold Addr.add; simp
      rw [e0] at h3
      have e1 : (a'.add (0 * 2)).block = a'.block := by unfold Addr.add; simp
      rw [e1] at hb
      obtain ⟨b, off, spot⟩ := a'
      refine ⟨b, off, ?_, hb⟩
      cases spot with
      | none => rfl
      | some x =>
        obtain ⟨o, rfl, _⟩ := run_cells h2
        unfold World.cell? at h3
        split at h3 <;> simp_all
    have op : ∀ i, i < len → ∃ r : Rn, okR r ∧ ∃ b off, a' = ⟨b, off, none⟩ ∧ W.cell? ⟨b, off + i * 2, none⟩ = some (.int .i64 r.1) ∧ W.cell? ⟨b, off + i * 2 + 1, none⟩ = some (.int .i64 r.2) := by
      intro i hi
      obtain ⟨cs, h1, y, h2⟩ := each i hi
      obtain ⟨b, off, rfl, hb⟩ := hplain (by omega)
      obtain ⟨r, rfl, hok⟩ := run_cells h2
      have t0 := (World.cells?_some h1).2.2 0 (by decide)
      have t1 := (World.cells?_some h1).2.2 1 (by decide)
      rw [add_add _ _ _ rfl] at t0 t1
      exact ⟨r, hok, b, off, rfl, t0, t1⟩
    refine ⟨(List.range len).attach.map fun i => Classical.choose (op i.1 (List.mem_range.1 i.2)), some a', cap, by simp, by simp; omega, by unfold maxLen at hm; omega, (fun h => by cases h), fun r hr => ?_, fun hp => ?_⟩
    · obtain ⟨i, _, rfl⟩ := List.mem_map.1 hr
      exact (Classical.choose_spec (op i.1 (List.mem_range.1 i.2))).1
    · obtain ⟨b, off, rfl, hb⟩ := hplain (by simpa using hp)
      refine ⟨b, off, rfl, hb, fun j hj => ?_⟩
      have hj' : j < len := by simpa using hj
      obtain ⟨hok, b', off', e, t0, t1⟩ := Classical.choose_spec (op j hj')
      injection e with e1 e2 _
      subst e1 e2
      simp only [List.getElem_map, List.getElem_attach, List.getElem_range]
      exact ⟨t0, t1⟩
/-- A run by value. -/
theorem run_arg {H : Type} {enc : TypeId × Value → H} {W : World} {r : Reach} {b0 : Nat} {v : Value} {d : DataW H} {ps : List MemPlace} (hv : Value.okWide Try.prog W r b0 24 v)
    (h : DataW.Trod enc Try.prog W 0 (fun _ => true) true 24 v d ps) : ∃ a n : Int, v = .agg #[.int .i64 a, .int .i64 n] ∧ okR (a, n) := by
  obtain ⟨cs, rfl, hsz⟩ := okWide_struct Try.underlying24 hv
  obtain ⟨fuel, hf⟩ := h
  obtain ⟨c⟩ := cs
  obtain ⟨⟨a, n⟩, hc, hok⟩ := run_cells (cs := c) hf
  subst hc
  exact ⟨a, n, rfl, hok⟩
/-- Two numbers by value. -/
theorem ints2_arg {H : Type} {enc : TypeId × Value → H} {W : World} {r : Reach} {b0 : Nat} {v : Value} {d : DataW H} {ps : List MemPlace} (hv : Value.okWide Try.prog W r b0 33 v)
    (h : DataW.Trod enc Try.prog W 0 (fun _ => true) true 33 v d ps) : ∃ a n : Int, v = .agg #[.int .i64 a, .int .i64 n] ∧ (-9223372036854775808 ≤ a ∧ a ≤ 9223372036854775807) ∧ (-9223372036854775808 ≤ n ∧ n ≤ 9223372036854775807) := by
  obtain ⟨l, rfl, hl, hw⟩ := int_array Try.underlying33 Try.underlying3 (by kernel_rfl) (by kernel_rfl) hv h
  match l, hl with
  | [a, n], _ => exact ⟨a, n, rfl, i64_bounds (hw a (by simp)), i64_bounds (hw n (by simp))⟩
theorem idx_num (b o n cap k : Nat) (h : k < n) (w : World) : (Instr.indexAt 34 (.slice (some ⟨b, o, none⟩) n cap) (.int .i64 (k : Int))).run Try.prog w = .ok (.pointer (some ⟨b, o + k, none⟩)) w := by
  go_simp
/-- What is left of a number by one more than A, without its sign. -/
theorem rem_abs (z : Int) (A : Nat) : ∃ t : Int, z.tmod ((A : Int) + 1) = t ∧ -(A : Int) ≤ t ∧ t ≤ A := by
  have h1 := Int.lt_tmod_of_pos z (show (0 : Int) < (A : Int) + 1 by omega)
  have h2 := Int.tmod_lt_of_pos z (show (0 : Int) < (A : Int) + 1 by omega)
  exact ⟨_, rfl, by omega, by omega⟩
theorem FileL.tot {m : List Rn} (h : FileL m) : 0 ≤ tot m ∧ tot m ≤ 384 := by
  refine ⟨(tot_nonneg h.file).1, ?_⟩
  have : ∀ l : List Rn, (∀ r ∈ l, r.1 ≤ 1023 ∧ r.2 ≤ 32) → Ext.tot l ≤ 32 * l.length := by
    intro l
    induction l with
    | nil => intro _; simp [Ext.tot]
    | cons r t ih =>
      intro hl
      have h1 := hl r List.mem_cons_self
      have h2 := ih fun x hx => hl x (List.mem_cons_of_mem _ hx)
      simp only [Ext.tot, List.length_cons]
      omega
  have h1 := this m h.low
  have h2 := h.len
  omega
end Go.Proofs.Ytlbnopfbfnobnaa
