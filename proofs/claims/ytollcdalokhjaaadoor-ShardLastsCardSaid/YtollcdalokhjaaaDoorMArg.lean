/-
  Several texts in one (GenLaw, StrArg).
-/
import Derived.Test.YtollcdalokhjaaaDoorRows
import Derived.Test.YtollcdalokhjaaaDoorMGen
import Derived.ProofKit
import Derived.OpenShut
import Derived.ShutString
import Derived.ChangeOld
import Derived.Carry
import Derived.LaidMore
import Derived.Stop.Joined
import Derived.MakeChecks
import Derived.SliceStrings
/-! ## The last step of every law: the call answered true and turned nothing that was there: so each argument reads as it did. Arguments that are arrays of numbers. -/
namespace Go.Proofs.YtollcdalokhjaaaDoor
open Go.ChangeShapes Go.WideShapes Go.ChangeAt Go.RowKit


theorem lawOwn : ownKnob Tryd.prog.godebug = none := by kernel_rfl
theorem lawLaid : laidOutB Tryd.prog = true := by kernel_rfl
/-- All arguments, one behind the other: below the heap's old size nothing has turned. -/
theorem trodAll_still {H : Type} {enc : TypeId × Value → H} {P : Program} (hl : laidOutB P = true) {W W' : World} (bel : Below W.heap.size W W') (ts : List TypeId) :
    ∀ (vs : List Value) (ds : List (DataW H)) (ps : List MemPlace), DataW.TrodAll enc P W 0 (fun _ => true) true ts vs ds ps →
      (ts.all fun t => P.readableRec t && decide (t < P.types.size)) = true → (∀ x ∈ ps, x.block < W.heap.size) →
      DataW.TrodAll enc P W' 0 (fun b => decide (b < W.heap.size)) true ts vs ds ps := by
  induction ts with
  | nil => intro vs ds ps h _ _; obtain ⟨rfl, rfl, rfl⟩ := trodAll_nil h; exact trodAll_mk0
  | cons t ts ih =>
    intro vs ds ps h hr hlt
    obtain ⟨v, vs, d, ds, p, q, rfl, rfl, rfl, h1, h2⟩ := trodAll_cons h
    simp only [List.all_cons, Bool.and_eq_true, decide_eq_true_eq] at hr
    exact trodAll_cons_mk (Below.trod hl hr.1.1 hr.1.2 h1 bel fun x hx => hlt x (by simp [hx])) (ih vs ds q h2 hr.2 fun x hx => hlt x (by simp [hx]))
theorem law_post {H : Type} {enc : TypeId × Value → H} {f : Func} {s : ChangeSpec} {W W' : World} {args : Array Value} {ds gs : List (DataW H)} {before : List MemPlace}
    (hv : s.vars = []) (hr : f.resultTypes = #[4]) (hp : (f.params.toList.all fun t => Tryd.prog.readableRec t && decide (t < Tryd.prog.types.size)) = true)
    (hW : DataW.Whole enc Tryd.prog f.params.toList s.vars false W args.toList ds gs before) (hs : s.fn H (ds ++ gs) = { results := [.lit (.bool true)], args := ds }) (bel : Below W.heap.size W W') :
    s.post enc Tryd.prog f false true false false W args (.bool true) W' := by
  have hlt := hW.lt
  have hW' := hW
  obtain ⟨p, q, hA, hV, rfl, _, _⟩ := hW
  rw [hv] at hV
  obtain ⟨rfl, rfl⟩ := trodVars_none hV
  refine ⟨ds, [], p ++ [], [], p, [], hW', ?_, ?_, ?_, bel.frame _, fun h => by cases h⟩
  · rw [hs, hr]; exact trodAll_mk1 (shut_bool Tryd.underlying4 true)
  · rw [hs]; exact trodAll_still lawLaid bel _ _ _ _ hA hp fun x hx => hlt x (by simp [hx])
  · rw [hs, hv]; rfl
/-- An argument of 64 bits without a sign is a number below 2^64. -/
theorem u64_nat {a : Int} (h : (Lit.int .u64 a).wf = true) : ∃ n : Nat, a = n ∧ n < 18446744073709551616 := by
  have hx : 0 ≤ a ∧ a ≤ 18446744073709551615 := by simpa [Lit.wf, IntKind.min, IntKind.max, IntKind.signed, IntKind.bits] using h
  exact ⟨a.toNat, by omega, by omega⟩
/-- An argument of 32 bits without a sign is a number below 2^32. -/
theorem u32_nat {a : Int} (h : (Lit.int .u32 a).wf = true) : ∃ n : Nat, a = n ∧ n < 4294967296 := by
  have hx : 0 ≤ a ∧ a ≤ 4294967295 := by simpa [Lit.wf, IntKind.min, IntKind.max, IntKind.signed, IntKind.bits] using h
  exact ⟨a.toNat, by omega, by omega⟩
/-- An argument of 64 bits with a sign. -/
theorem i64_bounds {a : Int} (h : (Lit.int .i64 a).wf = true) : -9223372036854775808 ≤ a ∧ a ≤ 9223372036854775807 := by
  simpa [Lit.wf, IntKind.min, IntKind.max, IntKind.signed, IntKind.bits] using h
theorem int_array {H : Type} {enc : TypeId × Value → H} {P : Program} {W : World} {r : Reach} {b0 n : Nat} {t e : TypeId} {k : IntKind} {v : Value} {d : DataW H} {ps : List MemPlace}
    (ht : P.underlying t = some (.array n e)) (he : P.underlying e = some (.int k)) (hce : P.cellsOf e = 1) (hct : P.cellsOf t = n)
    (hv : Value.okWide P W r b0 t v) (h : DataW.Trod enc P W 0 (fun _ => true) true t v d ps) : ∃ l : List Int, v = .agg (l.map (Value.int k)).toArray ∧ l.length = n ∧ ∀ z ∈ l, (Lit.int k z).wf = true := by
  obtain ⟨cs, rfl, hsz⟩ : ∃ cs, v = .agg cs ∧ cs.size = n := by
    simp only [Value.okWide, ht] at hv
    obtain ⟨cs, h1, h2, _⟩ := hv
    exact ⟨cs, h1, h2.trans hct⟩
  obtain ⟨c⟩ := cs
  obtain ⟨fuel, hf⟩ := h
  obtain ⟨xs, m, _, _, _, hl, hx⟩ := DataW.trod_array ht hf
  have key : ∀ i, i < n → ∃ z, c[i]? = some (.int k z) ∧ (Lit.int k z).wf = true := by
    intro i hi
    have h0 := hx i hi
    rw [hce] at h0
    obtain ⟨y, hy⟩ : ∃ y, xs[i]? = some y := ⟨xs[i], List.getElem?_eq_getElem (by omega)⟩
    rw [hy] at h0
    obtain ⟨z, hc, _, hw⟩ := DataW.trod_int he h0
    refine ⟨z, ?_, ?_⟩
    · have := congrArg (·[0]?) hc
      simpa [Value.cells, List.getElem?_take, List.getElem?_drop] using this
    · exact hw
  have hcl : c.length = n := by simpa using hsz
  refine ⟨c.map intOf, ?_, by simpa using hcl, ?_⟩
  · congr 2
    apply List.ext_getElem?
    intro i
    by_cases hi : i < n
    · obtain ⟨z, hz, _⟩ := key i hi
      simp [hz, intOf]
    · rw [List.getElem?_eq_none (by omega), List.getElem?_eq_none (by simp; omega)]
  · intro z hz
    obtain ⟨x, hx, rfl⟩ := List.mem_map.1 hz
    obtain ⟨i, hi, rfl⟩ := List.getElem_of_mem hx
    obtain ⟨z, hz, hw⟩ := key i (by omega)
    rw [List.getElem?_eq_getElem hi] at hz
    rw [Option.some.inj hz]
    exact hw
theorem u8_list : ∀ l : List Int, (∀ z ∈ l, (Lit.int .u8 z).wf = true) → ∃ bs : List UInt8, l.map (Value.int .u8) = bs.map u8V ∧ bs.length = l.length
  | [], _ => ⟨[], rfl, rfl⟩
  | z :: l, h => by
    obtain ⟨bs, h1, h2⟩ := u8_list l (fun z hz => h z (List.mem_cons_of_mem _ hz))
    have hz : 0 ≤ z ∧ z ≤ 255 := by simpa [Lit.wf, IntKind.min, IntKind.max, IntKind.signed, IntKind.bits] using h z List.mem_cons_self
    refine ⟨UInt8.ofNat z.toNat :: bs, ?_, by simp [h2]⟩
    rw [List.map_cons, List.map_cons, h1]
    congr 1
    unfold u8V
    rw [UInt8.toNat_ofNat']
    congr 1
    omega
theorem u32_list : ∀ l : List Int, (∀ z ∈ l, (Lit.int .u32 z).wf = true) → ∃ bs : List Nat, l.map (Value.int .u32) = bs.map u32V ∧ bs.length = l.length ∧ ∀ x ∈ bs, x < 4294967296
  | [], _ => ⟨[], rfl, rfl, fun x hx => by cases hx⟩
  | z :: l, h => by
    obtain ⟨bs, h1, h2, h3⟩ := u32_list l (fun z hz => h z (List.mem_cons_of_mem _ hz))
    have hz : 0 ≤ z ∧ z ≤ 4294967295 := by simpa [Lit.wf, IntKind.min, IntKind.max, IntKind.signed, IntKind.bits] using h z List.mem_cons_self
    refine ⟨z.toNat :: bs, ?_, by simp [h2], ?_⟩
    · rw [List.map_cons, List.map_cons, h1]
      congr 1
      unfold u32V
      congr 1
      omega
    · intro x hx
      rcases List.mem_cons.1 hx with rfl | hx
      · omega
      · exact h3 x hx
end Go.Proofs.YtollcdalokhjaaaDoor
/-! ## An argument that is a slice of texts. -/
namespace Go.Proofs.YtollcdalokhjaaaDoor
open Go.ChangeShapes Go.WideShapes Go.ChangeAt Go.RowKit

theorem cells_str : Tryd.prog.cellsOf 9 = 1 := by kernel_rfl

/-- An address at which a cell lies has no spot. -/
theorem addr_plain {w : World} {a : Addr} {n : Nat} {f : Nat → Value} (hn : 0 < n) (h : ∀ i, i < n → w.cell? (a.add i) = some (f i)) :
    ∃ b off, a = ⟨b, off, none⟩ ∧ b < w.heap.size ∧ ∀ i, i < n → w.cell? ⟨b, off + i, none⟩ = some (f i) := by
  obtain ⟨b, off, spot⟩ := a
  have h0 := h 0 hn
  have e0 : Addr.add ⟨b, off, spot⟩ 0 = ⟨b, off, spot⟩ := by unfold Addr.add; simp
  rw [e0] at h0
  have hs : spot = none := by
    cases spot with
    | none => rfl
    | some x => unfold World.cell? at h0; split at h0 <;> simp_all
  subst hs
  refine ⟨b, off, rfl, ?_, fun i hi => ?_⟩
  · unfold World.cell? at h0
    split at h0
    · rename_i heq; exact (Array.getElem?_eq_some_iff.1 heq).1
    · cases h0
  · have := h i hi
    unfold Addr.add at this
    split at this
    · rename_i e; have e' : i = 0 := by simpa using e
      subst e'; simpa using this
    · exact this

/-- A cell that reads as a slice of texts. -/
theorem strRow_cell {H : Type} {enc : TypeId × Value → H} {W : World} {fuel : Nat} {c : Value} {x : DataW H × List MemPlace}
    (hf : DataW.trod enc Tryd.prog W 0 (fun _ => true) true fuel 124 [c] = some x) : ∃ ts, StrRow W c ts := by
  rcases open_strings Tryd.underlying124 Tryd.underlying9 cells_str hf with ⟨hcs, _⟩ | ⟨a, len, cap, ss, hcs, _, hl, hm, hz, _, hcell, _⟩
  · simp at hcs
    subst hcs
    exact ⟨[], StrRow.nil _⟩
  · simp at hcs
    subst hcs
    simp at hz
    have ht : (ss.take len).length = len := by rw [List.length_take]; omega
    refine ⟨ss.take len, some a, cap, by rw [ht], by rw [ht]; unfold maxLen at hm; omega, fun hn => ?_⟩
    have hpos : 0 < len := by
      rw [← ht]; exact List.length_pos_iff.2 hn
    obtain ⟨b, off, rfl, hb, hc⟩ := addr_plain (n := ss.length) (by omega) hcell
    refine ⟨b, off, rfl, hb, fun j hj => ?_⟩
    rw [hc j (by omega)]
    congr 2
    rw [ht] at hj
    simp [hj]

theorem strRow_of {H : Type} {enc : TypeId × Value → H} {W : World} {a : Option Addr} {len cap : Nat} {d : DataW H} {ps : List MemPlace}
    (h : DataW.Trod enc Tryd.prog W 0 (fun _ => true) true 124 (.slice a len cap) d ps) : ∃ ts, StrRow W (.slice a len cap) ts := by
  obtain ⟨fuel, hf⟩ := h
  exact strRow_cell (fuel := fuel) (by simpa [Value.cells] using hf)


end Go.Proofs.YtollcdalokhjaaaDoor
