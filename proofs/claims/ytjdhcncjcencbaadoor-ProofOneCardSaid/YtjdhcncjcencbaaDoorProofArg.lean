/-
  Arguments of the statements of layer 12: arrays of hashes, a number with a row of hashes, two rows of hashes.
-/
import Derived.Test.YtjdhcncjcencbaaDoorMLeafA
import Derived.Test.YtjdhcncjcencbaaDoorMArg
namespace Go.Proofs.YtjdhcncjcencbaaDoor
open Go.ChangeShapes Go.WideShapes Go.ChangeAt Go.RowKit

/-- Two numbers by value. -/
theorem ints2_argP {H : Type} {enc : TypeId × Value → H} {W : World} {r : Reach} {b0 : Nat} {v : Value} {d : DataW H} {ps : List MemPlace} (hv : Value.okWide Tryd.prog W r b0 24 v)
    (h : DataW.Trod enc Tryd.prog W 0 (fun _ => true) true 24 v d ps) : ∃ a n : Int, v = .agg #[.int .i64 a, .int .i64 n] ∧ (-9223372036854775808 ≤ a ∧ a ≤ 9223372036854775807) ∧ (-9223372036854775808 ≤ n ∧ n ≤ 9223372036854775807) := by
  obtain ⟨l, rfl, hl, hw⟩ := int_array Tryd.underlying24 Tryd.underlying3 (by kernel_rfl) (by kernel_rfl) hv h
  match l, hl with
  | [a, n], _ => exact ⟨a, n, rfl, i64_bounds (hw a (by simp)), i64_bounds (hw n (by simp))⟩
theorem chunks32 : ∀ (n : Nat) (c : List Value), c.length = n * 32 → (∀ i, i < n → ∃ x : List UInt8, (c.drop (i * 32)).take 32 = x.map u8V ∧ x.length = 32) → ∃ l : Hs, c = sc l ∧ l.length = n ∧ all32 l
  | 0, c, hc, _ => ⟨[], by
    have h0 : c = [] := List.eq_nil_of_length_eq_zero (by omega)
    rw [h0]; rfl, rfl, all32.nil⟩
  | n + 1, c, hc, h => by
    obtain ⟨x, hx, hxl⟩ := h 0 (by omega)
    rw [Nat.zero_mul, List.drop_zero] at hx
    obtain ⟨l, hl, hll, hlo⟩ := chunks32 n (c.drop 32) (by rw [List.length_drop]; omega) fun i hi => by
      obtain ⟨y, hy, hyl⟩ := h (i + 1) (by omega)
      refine ⟨y, ?_, hyl⟩
      rw [List.drop_drop, ← hy]
      congr 2
      omega
    refine ⟨x :: l, ?_, by simp [hll], fun y hy => (List.mem_cons.1 hy).elim (fun e => e ▸ hxl) (hlo y)⟩
    rw [sc_cons, ← hx, ← hl, List.take_append_drop]
set_option maxRecDepth 100000 in
theorem open_sumsN {H : Type} {enc : TypeId × Value → H} {W : World} {r : Reach} {b0 n : Nat} {t : TypeId} {v : Value} {d : DataW H} {ps : List MemPlace} (ht : Tryd.prog.underlying t = some (.array n 23)) (hcs : Tryd.prog.cellsOf t = n * 32)
    (hv : Value.okWide Tryd.prog W r b0 t v) (h : DataW.Trod enc Tryd.prog W 0 (fun _ => true) true t v d ps) : ∃ l : Hs, v = .agg (sc l).toArray ∧ l.length = n ∧ all32 l := by
  have k1 : Tryd.prog.cellsOf 23 = 32 := by kernel_rfl
  obtain ⟨cs, rfl, hsz⟩ : ∃ cs, v = .agg cs ∧ cs.size = n * 32 := by
    unfold Value.okWide at hv
    simp only [ht] at hv
    obtain ⟨cs, h1, h2, _⟩ := hv
    exact ⟨cs, h1, h2.trans hcs⟩
  obtain ⟨c⟩ := cs
  have hcl : c.length = n * 32 := by simpa using hsz
  obtain ⟨fuel, hf⟩ := h
  obtain ⟨xs, m, _, _, _, hl, hx⟩ := DataW.trod_array ht hf
  obtain ⟨l, hl, h1, h2⟩ := chunks32 n c hcl fun i hi => by
    have h0 := hx i hi
    rw [k1] at h0
    obtain ⟨y, hy⟩ : ∃ y, xs[i]? = some y := ⟨xs[i], List.getElem?_eq_getElem (by omega)⟩
    rw [hy] at h0
    exact sum_cells h0
  exact ⟨l, by rw [hl], h1, h2⟩
theorem slice_cellsP {H : Type} {enc : TypeId × Value → H} {W : World} {fuel : Nat} {cs : List Value} {x : DataW H × List MemPlace}
    (hf : DataW.trod enc Tryd.prog W 0 (fun _ => true) true fuel 25 cs = some x) : ∃ v l, cs = [v] ∧ Sums W v l := by
  have key : ∃ a len cap, cs = [.slice a len cap] := by
    rcases DataW.trod_slice Tryd.underlying25 hf with ⟨hcs, _⟩ | ⟨a', len', cap', elems, rest, n, _, hcs, _, _, hl, hm, hlen', hel, _, _⟩
    · exact ⟨_, _, _, hcs⟩
    · exact ⟨_, _, _, hcs⟩
  obtain ⟨a, len, cap, rfl⟩ := key
  obtain ⟨d, ps⟩ := x
  obtain ⟨l, hl⟩ := sums_of (enc := enc) (W := W) (a := a) (len := len) (cap := cap) (d := d) (ps := ps) ⟨fuel, by simpa [Value.cells] using hf⟩
  exact ⟨_, l, rfl, hl⟩
/-- Two rows of hashes by value. -/
theorem open_rows2 {H : Type} {enc : TypeId × Value → H} {W : World} {r : Reach} {b0 : Nat} {v : Value} {d : DataW H} {ps : List MemPlace} (hv : Value.okWide Tryd.prog W r b0 42 v)
    (h : DataW.Trod enc Tryd.prog W 0 (fun _ => true) true 42 v d ps) : ∃ u v' l m, v = .agg #[u, v'] ∧ Sums W u l ∧ Sums W v' m := by
  have k1 : Tryd.prog.cellsOf 25 = 1 := by kernel_rfl
  obtain ⟨cs, rfl, hsz⟩ : ∃ cs, v = .agg cs ∧ cs.size = 2 := by
    unfold Value.okWide at hv
    simp only [Tryd.underlying42] at hv
    obtain ⟨cs, h1, h2, _⟩ := hv
    exact ⟨cs, h1, h2.trans (by kernel_rfl)⟩
  obtain ⟨c⟩ := cs
  obtain ⟨fuel, hf⟩ := h
  obtain ⟨xs, m, _, _, _, hl, hx⟩ := DataW.trod_array Tryd.underlying42 hf
  match c, hsz with
  | [c0, c1], _ =>
    have g : ∀ i, i < 2 → ∃ y, xs[i]? = some y := fun i hi => ⟨xs[i]'(by omega), List.getElem?_eq_getElem _⟩
    obtain ⟨y0, e0⟩ := g 0 (by decide)
    obtain ⟨y1, e1⟩ := g 1 (by decide)
    have h0 := hx 0 (by decide)
    have h1 := hx 1 (by decide)
    rw [e0, k1] at h0
    rw [e1, k1] at h1
    have h0' : DataW.trod enc Tryd.prog W 0 (fun _ => true) true m 25 [c0] = some y0 := h0
    have h1' : DataW.trod enc Tryd.prog W 0 (fun _ => true) true m 25 [c1] = some y1 := h1
    obtain ⟨u, l, q0, s0⟩ := slice_cellsP h0'
    obtain ⟨v', l', q1, s1⟩ := slice_cellsP h1'
    injection q0 with q0 _
    injection q1 with q1 _
    subst q0 q1
    exact ⟨_, _, l, l', rfl, s0, s1⟩
/-- A number and a row of hashes by value. -/
theorem open_rest {H : Type} {enc : TypeId × Value → H} {W : World} {r : Reach} {b0 : Nat} {v : Value} {d : DataW H} {ps : List MemPlace} (hv : Value.okWide Tryd.prog W r b0 52 v)
    (h : DataW.Trod enc Tryd.prog W 0 (fun _ => true) true 52 v d ps) : ∃ (n : Int) (u : Value) (l : Hs), v = .agg #[.int .i64 n, u] ∧ (-9223372036854775808 ≤ n ∧ n ≤ 9223372036854775807) ∧ Sums W u l := by
  obtain ⟨cs, rfl, hsz⟩ := okWide_struct Tryd.underlying52 hv
  obtain ⟨fuel, hf⟩ := h
  obtain ⟨c⟩ := cs
  obtain ⟨xs, m, _, _, hl, hxl, hx⟩ := DataW.trod_struct Tryd.underlying52 hf
  have hl2 : c.length = 2 := hl.trans (by kernel_rfl)
  match c, hl2 with
  | [c0, c1], _ =>
    have g : ∀ i, i < 2 → ∃ y, xs[i]? = some y := fun i hi => ⟨xs[i]'(by rw [hxl]; exact hi), List.getElem?_eq_getElem _⟩
    obtain ⟨y0, e0⟩ := g 0 (by decide)
    obtain ⟨y1, e1⟩ := g 1 (by decide)
    have k1 : Tryd.prog.cellsOf 3 = 1 := by kernel_rfl
    have k2 : Tryd.prog.cellsOf 25 = 1 := by kernel_rfl
    have h0 : DataW.trod enc Tryd.prog W 0 (fun _ => true) true m 3 ([c0, c1].take (Tryd.prog.cellsOf 3)) = some y0 := by rw [← e0]; exact hx 0 _ rfl
    rw [k1] at h0
    have h1 : DataW.trod enc Tryd.prog W 0 (fun _ => true) true m 25 ([c1].take (Tryd.prog.cellsOf 25)) = some y1 := by rw [← e1]; exact hx 1 _ rfl
    rw [k2] at h1
    simp only [List.take_succ_cons, List.take_zero] at h0 h1
    obtain ⟨z0, q0, _, w0⟩ := DataW.trod_int Tryd.underlying3 h0
    obtain ⟨u, l, q1, s1⟩ := slice_cellsP h1
    injection q0 with q0 _
    injection q1 with q1 _
    subst q0 q1
    exact ⟨z0, _, l, rfl, i64_bounds w0, s1⟩
theorem eql_bool_sameP (x : Bool) (w : World) : (binOp .eql 4 (.bool x) (.bool x)).run Tryd.prog w = .ok (.bool true) w := by cases x <;> go_simp
theorem len2P {L : Hs} (h : L.length = 2) : ∃ a b, L = [a, b] := by
  match L, h with
  | [a, b], _ => exact ⟨a, b, rfl⟩
theorem len3P {L : Hs} (h : L.length = 3) : ∃ a b c, L = [a, b, c] := by
  match L, h with
  | [a, b, c], _ => exact ⟨a, b, c, rfl⟩
end Go.Proofs.YtjdhcncjcencbaaDoor
