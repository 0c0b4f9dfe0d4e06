/-
  Several texts in one (GenLaw, StrArg, RowArg, CrcLaw).
-/
import Derived.Test.YtfcocbgdmmeikaaGreatDoorRows
import Derived.Test.YtfcocbgdmmeikaaGreatDoorMGen
import Derived.ProofKit
import Derived.OpenShut
import Derived.ShutString
import Derived.ChangeOld
import Derived.Carry
import Derived.LaidMore
import Derived.Stop.Joined
import Derived.MakeChecks
import Derived.SliceStrings
import Derived.Test.YtfcocbgdmmeikaaGreatDoorMDisk
import Derived.ChangeSlices
import Derived.Lib.LaidTab
import Derived.SevenTiedAt
import Derived.Test.YtfcocbgdmmeikaaGreatDoorTie
import Derived.Test.YtfcocbgdmmeikaaGreatDoorCards
import Derived.Test.YtfcocbgdmmeikaaGreatDoorMCrc
/-! ## The last step of every law: the call answered true and turned nothing that was there: so each argument reads as it did. Arguments that are arrays of numbers. -/
namespace Go.Proofs.YtfcocbgdmmeikaaGreatDoor
open Go.ChangeShapes Go.WideShapes Go.ChangeAt Go.RowKit


theorem lawOwn : ownKnob Tryz.prog.godebug = none := by kernel_rfl
theorem lawLaid : laidOutB Tryz.prog = true := by kernel_rfl
/-- All arguments, one behind the other: below the heap's old size nothing has turned. -/
theorem trodAll_still {H : Type} {enc : TypeId × Value → H} {P : Program} (hl : laidOutB P = true) {W W' : World} (bel : Below W.heap.size W W') (ts : List TypeId) :
    ∀ (vs : List Value) (ds : List (DataW H)) (ps : List MemPlace), DataW.TrodAll enc P W 0 (fun _ => true) true ts vs ds ps →
      (ts.all fun t => P.readableRec t && decide (t < P.types.size)) = true → (∀ x ∈ ps, x.block < W.heap.size) →
      DataW.TrodAll enc P W' 0 (fun b => decide (b < W.heap.size)) true ts vs ds ps := by
  induction ts with
  | nil => intro vs ds ps h _ _; obtain ⟨rfl, rfl, rfl⟩ := trodAll_nil h; exact trodAll_mk0
  | cons t ts ih =>
    intro vs ds ps h hr hlt
    obtain ⟨v, vs, d, ds, p, q, rfl, rfl, rfl, h1, h2⟩ := trodAll_cons h
    simp only [List.all_cons, Bool.and_eq_true, decide_eq_true_eq] at hr
    exact trodAll_cons_mk (Below.trod hl hr.1.1 hr.1.2 h1 bel fun x hx => hlt x (by simp [hx])) (ih vs ds q h2 hr.2 fun x hx => hlt x (by simp [hx]))
theorem law_post {H : Type} {enc : TypeId × Value → H} {f : Func} {s : ChangeSpec} {W W' : World} {args : Array Value} {ds gs : List (DataW H)} {before : List MemPlace}
    (hv : s.vars = []) (hr : f.resultTypes = #[4]) (hp : (f.params.toList.all fun t => Tryz.prog.readableRec t && decide (t < Tryz.prog.types.size)) = true)
    (hW : DataW.Whole enc Tryz.prog f.params.toList s.vars false W args.toList ds gs before) (hs : s.fn H (ds ++ gs) = { results := [.lit (.bool true)], args := ds }) (bel : Below W.heap.size W W') :
    s.post enc Tryz.prog f false true false false W args (.bool true) W' := by
  have hlt := hW.lt
  have hW' := hW
  obtain ⟨p, q, hA, hV, rfl, _, _⟩ := hW
  rw [hv] at hV
  obtain ⟨rfl, rfl⟩ := trodVars_none hV
  refine ⟨ds, [], p ++ [], [], p, [], hW', ?_, ?_, ?_, bel.frame _, fun h => by cases h⟩
  · rw [hs, hr]; exact trodAll_mk1 (shut_bool Tryz.underlying4 true)
  · rw [hs]; exact trodAll_still lawLaid bel _ _ _ _ hA hp fun x hx => hlt x (by simp [hx])
  · rw [hs, hv]; rfl
/-- An argument of 64 bits without a sign is a number below 2^64. -/
theorem u64_nat {a : Int} (h : (Lit.int .u64 a).wf = true) : ∃ n : Nat, a = n ∧ n < 18446744073709551616 := by
  have hx : 0 ≤ a ∧ a ≤ 18446744073709551615 := by simpa [Lit.wf, IntKind.min, IntKind.max, IntKind.signed, IntKind.bits] using h
  exact ⟨a.toNat, by omega, by omega⟩
/-- An argument of 32 bits without a sign is a number below 2^32. -/
theorem u32_nat {a : Int} (h : (Lit.int .u32 a).wf = true) : ∃ n : Nat, a = n ∧ n < 4294967296 := by
  have hx : 0 ≤ a ∧ a ≤ 4294967295 := by simpa [Lit.wf, IntKind.min, IntKind.max, IntKind.signed, IntKind.bits] using h
  exact ⟨a.toNat, by omega, by omega⟩
/-- An argument of 64 bits with a sign. -/
theorem i64_bounds {a : Int} (h : (Lit.int .i64 a).wf = true) : -9223372036854775808 ≤ a ∧ a ≤ 9223372036854775807 := by
  simpa [Lit.wf, IntKind.min, IntKind.max, IntKind.signed, IntKind.bits] using h
theorem int_array {H : Type} {enc : TypeId × Value → H} {P : Program} {W : World} {r : Reach} {b0 n : Nat} {t e : TypeId} {k : IntKind} {v : Value} {d : DataW H} {ps : List MemPlace}
    (ht : P.underlying t = some (.array n e)) (he : P.underlying e = some (.int k)) (hce : P.cellsOf e = 1) (hct : P.cellsOf t = n)
    (hv : Value.okWide P W r b0 t v) (h : DataW.Trod enc P W 0 (fun _ => true) true t v d ps) : ∃ l : List Int, v = .agg (l.map (Value.int k)).toArray ∧ l.length = n ∧ ∀ z ∈ l, (Lit.int k z).wf = true := by
  obtain ⟨cs, rfl, hsz⟩ : ∃ cs, v = .agg cs ∧ cs.size = n := by
    simp only [Value.okWide, ht] at hv
    obtain ⟨cs, h1, h2, _⟩ := hv
    exact ⟨cs, h1, h2.trans hct⟩
  obtain ⟨c⟩ := cs
  obtain ⟨fuel, hf⟩ := h
  obtain ⟨xs, m, _, _, _, hl, hx⟩ := DataW.trod_array ht hf
  have key : ∀ i, i < n → ∃ z, c[i]? = some (.int k z) ∧ (Lit.int k z).wf = true := by
    intro i hi
    have h0 := hx i hi
    rw [hce] at h0
    obtain ⟨y, hy⟩ : ∃ y, xs[i]? = some y := ⟨xs[i], List.getElem?_eq_getElem (by omega)⟩
    rw [hy] at h0
    obtain ⟨z, hc, _, hw⟩ := DataW.trod_int he h0
    refine ⟨z, ?_, ?_⟩
    · have := congrArg (·[0]?) hc
      simpa [Value.cells, List.getElem?_take, List.getElem?_drop] using this
    · exact hw
  have hcl : c.length = n := by simpa using hsz
  refine ⟨c.map intOf, ?_, by simpa using hcl, ?_⟩
  · congr 2
    apply List.ext_getElem?
    intro i
    by_cases hi : i < n
    · obtain ⟨z, hz, _⟩ := key i hi
      simp [hz, intOf]
    · rw [List.getElem?_eq_none (by omega), List.getElem?_eq_none (by simp; omega)]
  · intro z hz
    obtain ⟨x, hx, rfl⟩ := List.mem_map.1 hz
    obtain ⟨i, hi, rfl⟩ := List.getElem_of_mem hx
    obtain ⟨z, hz, hw⟩ := key i (by omega)
    rw [List.getElem?_eq_getElem hi] at hz
    rw [Option.some.inj hz]
    exact hw
theorem u8_list : ∀ l : List Int, (∀ z ∈ l, (Lit.int .u8 z).wf = true) → ∃ bs : List UInt8, l.map (Value.int .u8) = bs.map u8V ∧ bs.length = l.length
  | [], _ => ⟨[], rfl, rfl⟩
  | z :: l, h => by
    obtain ⟨bs, h1, h2⟩ := u8_list l (fun z hz => h z (List.mem_cons_of_mem _ hz))
    have hz : 0 ≤ z ∧ z ≤ 255 := by simpa [Lit.wf, IntKind.min, IntKind.max, IntKind.signed, IntKind.bits] using h z List.mem_cons_self
    refine ⟨UInt8.ofNat z.toNat :: bs, ?_, by simp [h2]⟩
    rw [List.map_cons, List.map_cons, h1]
    congr 1
    unfold u8V
    rw [UInt8.toNat_ofNat']
    congr 1
    omega
theorem u32_list : ∀ l : List Int, (∀ z ∈ l, (Lit.int .u32 z).wf = true) → ∃ bs : List Nat, l.map (Value.int .u32) = bs.map u32V ∧ bs.length = l.length ∧ ∀ x ∈ bs, x < 4294967296
  | [], _ => ⟨[], rfl, rfl, fun x hx => by cases hx⟩
  | z :: l, h => by
    obtain ⟨bs, h1, h2, h3⟩ := u32_list l (fun z hz => h z (List.mem_cons_of_mem _ hz))
    have hz : 0 ≤ z ∧ z ≤ 4294967295 := by simpa [Lit.wf, IntKind.min, IntKind.max, IntKind.signed, IntKind.bits] using h z List.mem_cons_self
    refine ⟨z.toNat :: bs, ?_, by simp [h2], ?_⟩
    · rw [List.map_cons, List.map_cons, h1]
      congr 1
      unfold u32V
      congr 1
      omega
    · intro x hx
      rcases List.mem_cons.1 hx with rfl | hx
      · omega
      · exact h3 x hx
end Go.Proofs.YtfcocbgdmmeikaaGreatDoor
/-! ## An argument that is a slice of texts. -/
namespace Go.Proofs.YtfcocbgdmmeikaaGreatDoor
open Go.ChangeShapes Go.WideShapes Go.ChangeAt Go.RowKit

theorem cells_str : Tryz.prog.cellsOf 9 = 1 := by kernel_rfl

/-- An address at which a cell lies has no spot. -/
theorem addr_plain {w : World} {a : Addr} {n : Nat} {f : Nat → Value} (hn : 0 < n) (h : ∀ i, i < n → w.cell? (a.add i) = some (f i)) :
    ∃ b off, a = ⟨b, off, none⟩ ∧ b < w.heap.size ∧ ∀ i, i < n → w.cell? ⟨b, off + i, none⟩ = some (f i) := by
  obtain ⟨b, off, spot⟩ := a
  have h0 := h 0 hn
  have e0 : Addr.add ⟨b, off, spot⟩ 0 = ⟨b, off, spot⟩ := by unfold Addr.add; simp
  rw [e0] at h0
  have hs : spot = none := by
    cases spot with
    | none => rfl
    | some x => unfold World.cell? at h0; split at h0 <;> simp_all
  subst hs
  refine ⟨b, off, rfl, ?_, fun i hi => ?_⟩
  · unfold World.cell? at h0
    split at h0
    · rename_i heq; exact (Array.getElem?_eq_some_iff.1 heq).1
    · cases h0
  · have := h i hi
    unfold Addr.add at this
    split at this
    · rename_i e; have e' : i = 0 := by simpa using e
      subst e'; simpa using this
    · exact this

/-- A cell that reads as a slice of texts. -/
theorem strRow_cell {H : Type} {enc : TypeId × Value → H} {W : World} {fuel : Nat} {c : Value} {x : DataW H × List MemPlace}
    (hf : DataW.trod enc Tryz.prog W 0 (fun _ => true) true fuel 30 [c] = some x) : ∃ ts, StrRow W c ts := by
  rcases open_strings Tryz.underlying30 Tryz.underlying9 cells_str hf with ⟨hcs, _⟩ | ⟨a, len, cap, ss, hcs, _, hl, hm, hz, _, hcell, _⟩
  · simp at hcs
    subst hcs
    exact ⟨[], StrRow.nil _⟩
  · simp at hcs
    subst hcs
    simp at hz
    have ht : (ss.take len).length = len := by rw [List.length_take]; omega
    refine ⟨ss.take len, some a, cap, by rw [ht], by rw [ht]; unfold maxLen at hm; omega, fun hn => ?_⟩
    have hpos : 0 < len := by
      rw [← ht]; exact List.length_pos_iff.2 hn
    obtain ⟨b, off, rfl, hb, hc⟩ := addr_plain (n := ss.length) (by omega) hcell
    refine ⟨b, off, rfl, hb, fun j hj => ?_⟩
    rw [hc j (by omega)]
    congr 2
    rw [ht] at hj
    simp [hj]

theorem strRow_of {H : Type} {enc : TypeId × Value → H} {W : World} {a : Option Addr} {len cap : Nat} {d : DataW H} {ps : List MemPlace}
    (h : DataW.Trod enc Tryz.prog W 0 (fun _ => true) true 30 (.slice a len cap) d ps) : ∃ ts, StrRow W (.slice a len cap) ts := by
  obtain ⟨fuel, hf⟩ := h
  exact strRow_cell (fuel := fuel) (by simpa [Value.cells] using hf)


end Go.Proofs.YtfcocbgdmmeikaaGreatDoor
/-! ## Arguments that are slices of structs, by one theorem for any struct of plain cells. -/
namespace Go.Proofs.YtfcocbgdmmeikaaGreatDoor
open Go.ChangeShapes Go.WideShapes Go.ChangeAt Go.RowKit

theorem cells_int : Tryz.prog.cellsOf 3 = 1 := by kernel_rfl
def i64ok (z : Int) : Prop := -9223372036854775808 ≤ z ∧ z ≤ 9223372036854775807
/-- A cell that reads as a slice of numbers. -/
theorem ints_cell {H : Type} {enc : TypeId × Value → H} {W : World} {fuel : Nat} {c : Value} {x : DataW H × List MemPlace} (hpos : 0 < W.heap.size)
    (hf : DataW.trod enc Tryz.prog W 0 (fun _ => true) true fuel 23 [c] = some x) : ∃ ps b, Ints W c ps b ∧ b < W.heap.size ∧ ∀ j, i64ok (ps.getD j 0) := by
  have nil0 : ∀ j, i64ok (([] : List Int).getD j 0) := fun j => by simp [i64ok]
  rcases open_ints Tryz.underlying23 Tryz.underlying3 cells_int hf with ⟨hcs, _⟩ | ⟨a, len, cap, zs, hcs, _, hl, hm, hz, _, hcell, hwz⟩
  · simp at hcs
    subst hcs
    exact ⟨[], 0, Ints.nil _ _, hpos, nil0⟩
  · simp at hcs
    subst hcs
    simp at hz
    have ht : (zs.take len).length = len := by rw [List.length_take]; omega
    by_cases hlen : len = 0
    · subst hlen
      exact ⟨[], 0, ⟨some a, cap, rfl, by unfold maxLen at hm; simp; omega, fun h => absurd rfl h⟩, hpos, nil0⟩
    · obtain ⟨b, off, rfl, hb, hc⟩ := addr_plain (n := zs.length) (by omega) hcell
      refine ⟨zs.take len, b, ⟨some ⟨b, off, none⟩, cap, by rw [ht], by rw [ht]; unfold maxLen at hm; omega, fun _ => ⟨off, rfl, hb, fun j hj => ?_⟩⟩, hb, fun j => ?_⟩
      · rw [hc j (by omega)]
        congr 2
        rw [ht] at hj
        simp [hj]
      · by_cases hj : j < (zs.take len).length
        · rw [List.getD_eq_getElem?_getD, List.getElem?_eq_getElem hj]
          simp only [Option.getD_some]
          exact i64_bounds (hwz _ (List.mem_of_mem_take (List.getElem_mem hj)))
        · rw [List.getD_eq_getElem?_getD, List.getElem?_eq_none (by omega)]
          simp [i64ok]
theorem ints_of {H : Type} {enc : TypeId × Value → H} {W : World} {a : Option Addr} {len cap : Nat} {d : DataW H} {ps : List MemPlace} (hpos : 0 < W.heap.size)
    (h : DataW.Trod enc Tryz.prog W 0 (fun _ => true) true 23 (.slice a len cap) d ps) : ∃ zs b, Ints W (.slice a len cap) zs b ∧ b < W.heap.size ∧ ∀ j, i64ok (zs.getD j 0) := by
  obtain ⟨fuel, hf⟩ := h
  have hf' : DataW.trod enc Tryz.prog W 0 (fun _ => true) true fuel 23 [.slice a len cap] = some (d, ps) := by simpa [Value.cells] using hf
  exact ints_cell hpos hf'
/-- v is a slice that reads as the structs l, each of k cells. -/
def RowOf {α : Type} (csf : α → List Value) (k : Nat) (w : World) (v : Value) (l : List α) : Prop :=
  ∃ a cap, v = .slice a l.length cap ∧ l.length ≤ 9223372036854775807 ∧ (∀ j (hj : j < l.length), ∃ b off, a = some ⟨b, off, none⟩ ∧ b < w.heap.size ∧ ∀ i v, (csf l[j])[i]? = some v → w.cell? ⟨b, off + (j * k + i), none⟩ = some v)
theorem add_add (a : Addr) (i j : Nat) (h : a.spot = none) : (a.add i).add j = ⟨a.block, a.off + (i + j), none⟩ := by
  obtain ⟨b, off, s⟩ := a
  subst h
  rw [Addr.add_mid, Addr.add_mid, Nat.add_assoc]
theorem rows_cell {H : Type} {enc : TypeId × Value → H} {W : World} {fuel : Nat} {c : Value} {x : DataW H × List MemPlace} {α : Type} (csf : α → List Value) (ok : α → Prop) (T ST : TypeId) (k : Nat) (hk0 : 0 < k)
    (hST : Tryz.prog.underlying ST = some (.slice T)) (k6 : Tryz.prog.cellsOf T = k) (hlen : ∀ o, (csf o).length = k) (hint : ∀ o, ∃ z, (csf o)[0]? = some (.int .i64 z))
    (hcells : ∀ n cs y, 0 < W.heap.size → DataW.trod enc Tryz.prog W 0 (fun _ => true) true n T cs = some y → ∃ o, cs = csf o ∧ ok o)
    (hf' : DataW.trod enc Tryz.prog W 0 (fun _ => true) true fuel ST [c] = some x) : ∃ l, RowOf csf k W c l ∧ ∀ o ∈ l, ok o := by
  rcases DataW.trod_slice hST hf' with ⟨hcs, _⟩ | ⟨a', len', cap', elems, rest, n, _, hcs, _, _, hl, hm, hlen', hel, _, _⟩
  · simp at hcs
    subst hcs
    exact ⟨[], ⟨none, 0, rfl, by simp, fun j hj => by simp at hj⟩, fun o ho => by cases ho⟩
  · simp at hcs
    subst hcs
    have each : ∀ i, i < len' → ∃ cs, W.cells? 0 (a'.add (i * k)) k = some cs ∧ ∃ y, DataW.trod enc Tryz.prog W 0 (fun _ => true) true n T cs = some y := by
      intro i hi
      have := hel i hi
      rw [k6, List.getElem?_eq_getElem (by omega)] at this
      obtain ⟨cs, h1, h2⟩ := Option.bind_eq_some_iff.1 this
      exact ⟨cs, h1, _, h2⟩
    have hplain : 0 < len' → ∃ b off, a' = ⟨b, off, none⟩ ∧ b < W.heap.size := by
      intro hp
      obtain ⟨cs, h1, y, h2⟩ := each 0 hp
      have h3 := (World.cells?_some h1).2.2 0 hk0
      have hb := World.cells?_block h1 hk0
      have e0 : (a'.add (0 * k)).add 0 = a' := by unfold Addr.add; simp
      rw [e0] at h3
      have e1 : (a'.add (0 * k)).block = a'.block := by unfold Addr.add; simp
      rw [e1] at hb
      obtain ⟨b, off, spot⟩ := a'
      refine ⟨b, off, ?_, hb⟩
      cases spot with
      | none => rfl
      | some x =>
        obtain ⟨o, rfl, _⟩ := hcells n cs y (by have : b < W.heap.size := hb; omega) h2
        obtain ⟨z, hz⟩ := hint o
        rw [hz] at h3
        unfold World.cell? at h3
        split at h3 <;> simp_all
    have op : ∀ i, i < len' → ∃ o : α, ok o ∧ ∃ b off, a' = ⟨b, off, none⟩ ∧ b < W.heap.size ∧ ∀ j v, (csf o)[j]? = some v → W.cell? ⟨b, off + (i * k + j), none⟩ = some v := by
      intro i hi
      obtain ⟨cs, h1, y, h2⟩ := each i hi
      obtain ⟨b, off, rfl, hb⟩ := hplain (by omega)
      obtain ⟨o, rfl, hok⟩ := hcells n cs y (by omega) h2
      refine ⟨o, hok, b, off, rfl, hb, fun j v hv => ?_⟩
      have hj : j < k := by have := (List.getElem?_eq_some_iff.1 hv).1; rw [hlen] at this; exact this
      have := (World.cells?_some h1).2.2 j hj
      rw [add_add _ _ _ rfl] at this
      rw [this]
      exact hv
    refine ⟨(List.range len').attach.map fun i => Classical.choose (op i.1 (List.mem_range.1 i.2)), ⟨some a', cap', by simp, by simp; unfold maxLen at hm; omega, fun j hj => ?_⟩, fun o ho => ?_⟩
    · have hj' : j < len' := by simpa using hj
      obtain ⟨hok, b, off, e, hb, hc⟩ := Classical.choose_spec (op j hj')
      refine ⟨b, off, by rw [e], hb, ?_⟩
      simp only [List.getElem_map, List.getElem_attach, List.getElem_range]
      exact hc
    · obtain ⟨i, _, rfl⟩ := List.mem_map.1 ho
      exact (Classical.choose_spec (op i.1 (List.mem_range.1 i.2))).1
theorem rows_of {H : Type} {enc : TypeId × Value → H} {W : World} {v : Value} {d : DataW H} {ps : List MemPlace} {α : Type} (csf : α → List Value) (ok : α → Prop) (T ST : TypeId) (k : Nat) (hk0 : 0 < k)
    (hST : Tryz.prog.underlying ST = some (.slice T)) (k6 : Tryz.prog.cellsOf T = k) (hlen : ∀ o, (csf o).length = k) (hint : ∀ o, ∃ z, (csf o)[0]? = some (.int .i64 z))
    (hcells : ∀ n cs y, 0 < W.heap.size → DataW.trod enc Tryz.prog W 0 (fun _ => true) true n T cs = some y → ∃ o, cs = csf o ∧ ok o)
    (a : Option Addr) (len cap : Nat) (hv : v = .slice a len cap) (h : DataW.Trod enc Tryz.prog W 0 (fun _ => true) true ST v d ps) : ∃ l, RowOf csf k W v l ∧ ∀ o ∈ l, ok o := by
  subst hv
  obtain ⟨fuel, hf⟩ := h
  have hf' : DataW.trod enc Tryz.prog W 0 (fun _ => true) true fuel ST [.slice a len cap] = some (d, ps) := by simpa [Value.cells] using hf
  exact rows_cell csf ok T ST k hk0 hST k6 hlen hint hcells hf'
theorem u8_of {z : Int} (h : (Lit.int .u8 z).wf = true) : ∃ b : UInt8, z = (b.toNat : Int) := by
  have hz : 0 ≤ z ∧ z ≤ 255 := by simpa [Lit.wf, IntKind.min, IntKind.max, IntKind.signed, IntKind.bits] using h
  refine ⟨UInt8.ofNat z.toNat, ?_⟩
  rw [UInt8.toNat_ofNat']
  omega
theorem RowOf.old {α : Type} {csf : α → List Value} {k : Nat} {w w' : World} {v : Value} {l : List α} (h : RowOf csf k w v l) (hb : Below w.heap.size w w') : RowOf csf k w' v l := by
  obtain ⟨a, cap, e, hl, hc⟩ := h
  refine ⟨a, cap, e, hl, fun j hj => ?_⟩
  obtain ⟨b, off, ea, hbl, hcs⟩ := hc j hj
  exact ⟨b, off, ea, by have := hb.size; omega, fun i v hv => (hb.cell (p := ⟨b, off + (j * k + i), none⟩) hbl).trans (hcs i v hv)⟩
/-! ### A write by plain numbers -/
structure SpecR where
  at_ : Int
  byte : UInt8
def specCs (o : SpecR) : List Value := [.int .i64 o.at_, .int .u8 (o.byte.toNat : Int)]
set_option maxRecDepth 100000 in
theorem spec_cells {H : Type} {enc : TypeId × Value → H} {W : World} {fuel : Nat} {cs : List Value} {x : DataW H × List MemPlace}
    (hf : DataW.trod enc Tryz.prog W 0 (fun _ => true) true fuel 104 cs = some x) : ∃ o : SpecR, cs = specCs o ∧ i64ok o.at_ := by
  obtain ⟨xs, m, _, _, hl, hxl, hx⟩ := DataW.trod_struct Tryz.underlying104 hf
  have hl2 : cs.length = 2 := hl.trans (by kernel_rfl)
  match cs, hl2 with
  | [c0, c1], _ =>
    have g : ∀ i, i < 2 → ∃ y, xs[i]? = some y := fun i hi => ⟨xs[i]'(by rw [hxl]; exact hi), List.getElem?_eq_getElem _⟩
    obtain ⟨y0, e0⟩ := g 0 (by decide)
    obtain ⟨y1, e1⟩ := g 1 (by decide)
    have k1 : Tryz.prog.cellsOf 3 = 1 := by kernel_rfl
    have k2 : Tryz.prog.cellsOf 5 = 1 := by kernel_rfl
    have h0 : DataW.trod enc Tryz.prog W 0 (fun _ => true) true m 3 ([c0, c1].take (Tryz.prog.cellsOf 3)) = some y0 := by rw [← e0]; exact hx 0 _ rfl
    rw [k1] at h0
    have h1 : DataW.trod enc Tryz.prog W 0 (fun _ => true) true m 5 ([c1].take (Tryz.prog.cellsOf 5)) = some y1 := by rw [← e1]; exact hx 1 _ rfl
    rw [k2] at h1
    simp only [List.take_succ_cons, List.take_zero] at h0 h1
    obtain ⟨z0, q0, _, w0⟩ := DataW.trod_int Tryz.underlying3 h0
    obtain ⟨z1, q1, _, w1⟩ := DataW.trod_int Tryz.underlying5 h1
    obtain ⟨b1, rfl⟩ := u8_of w1
    injection q0 with q0 _
    injection q1 with q1 _
    subst q0
    subst q1
    exact ⟨⟨z0, b1⟩, rfl, i64_bounds w0⟩
/-- v is a slice that reads as the writes l. -/
def Specs (w : World) (v : Value) (l : List SpecR) : Prop := RowOf specCs 2 w v l ∧ ∀ o ∈ l, i64ok o.at_
theorem specs_of {H : Type} {enc : TypeId × Value → H} {W : World} {a : Option Addr} {len cap : Nat} {d : DataW H} {ps : List MemPlace}
    (h : DataW.Trod enc Tryz.prog W 0 (fun _ => true) true 49 (.slice a len cap) d ps) : ∃ l, Specs W (.slice a len cap) l :=
  rows_of specCs (fun o => i64ok o.at_) 104 49 2 (by decide) Tryz.underlying49 (by kernel_rfl) (fun _ => rfl) (fun o => ⟨o.at_, rfl⟩) (fun _ _ _ _ hx => spec_cells hx) a len cap rfl h
/-! ### A slot of a region that a script makes -/
structure PartR where
  kind : Int
  off : Int
  many : Int
  at_ : Int
def partCs (o : PartR) : List Value := [.int .i64 o.kind, .int .i64 o.off, .int .i64 o.many, .int .i64 o.at_]
structure PartOk (o : PartR) : Prop where
  kind : i64ok o.kind
  off : i64ok o.off
  many : i64ok o.many
  at_ : i64ok o.at_
set_option maxRecDepth 100000 in
theorem part_cells {H : Type} {enc : TypeId × Value → H} {W : World} {fuel : Nat} {cs : List Value} {x : DataW H × List MemPlace}
    (hf : DataW.trod enc Tryz.prog W 0 (fun _ => true) true fuel 74 cs = some x) : ∃ o : PartR, cs = partCs o ∧ PartOk o := by
  obtain ⟨xs, m, _, _, hl, hxl, hx⟩ := DataW.trod_struct Tryz.underlying74 hf
  have hl4 : cs.length = 4 := hl.trans (by kernel_rfl)
  match cs, hl4 with
  | [c0, c1, c2, c3], _ =>
    have g : ∀ i, i < 4 → ∃ y, xs[i]? = some y := fun i hi => ⟨xs[i]'(by rw [hxl]; exact hi), List.getElem?_eq_getElem _⟩
    obtain ⟨y0, e0⟩ := g 0 (by decide)
    obtain ⟨y1, e1⟩ := g 1 (by decide)
    obtain ⟨y2, e2⟩ := g 2 (by decide)
    obtain ⟨y3, e3⟩ := g 3 (by decide)
    have k0 : Tryz.prog.cellsOf 3 = 1 := by kernel_rfl
    have h0 : DataW.trod enc Tryz.prog W 0 (fun _ => true) true m 3 ([c0, c1, c2, c3].take (Tryz.prog.cellsOf 3)) = some y0 := by rw [← e0]; exact hx 0 _ rfl
    rw [k0] at h0
    have k1 : Tryz.prog.cellsOf 3 = 1 := by kernel_rfl
    have h1 : DataW.trod enc Tryz.prog W 0 (fun _ => true) true m 3 ([c1, c2, c3].take (Tryz.prog.cellsOf 3)) = some y1 := by rw [← e1]; exact hx 1 _ rfl
    rw [k1] at h1
    have k2 : Tryz.prog.cellsOf 3 = 1 := by kernel_rfl
    have h2 : DataW.trod enc Tryz.prog W 0 (fun _ => true) true m 3 ([c2, c3].take (Tryz.prog.cellsOf 3)) = some y2 := by rw [← e2]; exact hx 2 _ rfl
    rw [k2] at h2
    have k3 : Tryz.prog.cellsOf 3 = 1 := by kernel_rfl
    have h3 : DataW.trod enc Tryz.prog W 0 (fun _ => true) true m 3 ([c3].take (Tryz.prog.cellsOf 3)) = some y3 := by rw [← e3]; exact hx 3 _ rfl
    rw [k3] at h3
    simp only [List.take_succ_cons, List.take_zero] at h0 h1 h2 h3
    obtain ⟨z0, q0, _, w0⟩ := DataW.trod_int Tryz.underlying3 h0
    obtain ⟨z1, q1, _, w1⟩ := DataW.trod_int Tryz.underlying3 h1
    obtain ⟨z2, q2, _, w2⟩ := DataW.trod_int Tryz.underlying3 h2
    obtain ⟨z3, q3, _, w3⟩ := DataW.trod_int Tryz.underlying3 h3
    injection q0 with q0 _
    injection q1 with q1 _
    injection q2 with q2 _
    injection q3 with q3 _
    subst q0
    subst q1
    subst q2
    subst q3
    exact ⟨⟨z0, z1, z2, z3⟩, rfl, i64_bounds w0, i64_bounds w1, i64_bounds w2, i64_bounds w3⟩
/-- v is a slice that reads as the parts l. -/
def Parts (w : World) (v : Value) (l : List PartR) : Prop := RowOf partCs 4 w v l ∧ ∀ o ∈ l, PartOk o
theorem parts_of {H : Type} {enc : TypeId × Value → H} {W : World} {a : Option Addr} {len cap : Nat} {d : DataW H} {ps : List MemPlace}
    (h : DataW.Trod enc Tryz.prog W 0 (fun _ => true) true 29 (.slice a len cap) d ps) : ∃ l, Parts W (.slice a len cap) l :=
  rows_of partCs PartOk 74 29 4 (by decide) Tryz.underlying29 (by kernel_rfl) (fun _ => rfl) (fun o => ⟨o.kind, rfl⟩) (fun _ _ _ _ hx => part_cells hx) a len cap rfl h
/-! ### A step of a play -/
structure Op7R where
  kind : Int
  n : Int
  sv : Value
  pv : Value
def op7Cs (o : Op7R) : List Value := [.int .i64 o.kind, .int .i64 o.n, o.sv, o.pv]
structure Op7Ok (W : World) (o : Op7R) : Prop where
  kind : i64ok o.kind
  n : i64ok o.n
  puts : ∃ l, Specs W o.sv l
  picks : ∃ ps b, Ints W o.pv ps b ∧ b < W.heap.size
set_option maxRecDepth 100000 in
theorem op7_cells {H : Type} {enc : TypeId × Value → H} {W : World} {fuel : Nat} {cs : List Value} {x : DataW H × List MemPlace} (hpos : 0 < W.heap.size)
    (hf : DataW.trod enc Tryz.prog W 0 (fun _ => true) true fuel 51 cs = some x) : ∃ o : Op7R, cs = op7Cs o ∧ Op7Ok W o := by
  obtain ⟨xs, m, _, _, hl, hxl, hx⟩ := DataW.trod_struct Tryz.underlying51 hf
  have hl4 : cs.length = 4 := hl.trans (by kernel_rfl)
  match cs, hl4 with
  | [c0, c1, c2, c3], _ =>
    have g : ∀ i, i < 4 → ∃ y, xs[i]? = some y := fun i hi => ⟨xs[i]'(by rw [hxl]; exact hi), List.getElem?_eq_getElem _⟩
    obtain ⟨y0, e0⟩ := g 0 (by decide)
    obtain ⟨y1, e1⟩ := g 1 (by decide)
    obtain ⟨y2, e2⟩ := g 2 (by decide)
    obtain ⟨y3, e3⟩ := g 3 (by decide)
    have k0 : Tryz.prog.cellsOf 3 = 1 := by kernel_rfl
    have h0 : DataW.trod enc Tryz.prog W 0 (fun _ => true) true m 3 ([c0, c1, c2, c3].take (Tryz.prog.cellsOf 3)) = some y0 := by rw [← e0]; exact hx 0 _ rfl
    rw [k0] at h0
    have k1 : Tryz.prog.cellsOf 3 = 1 := by kernel_rfl
    have h1 : DataW.trod enc Tryz.prog W 0 (fun _ => true) true m 3 ([c1, c2, c3].take (Tryz.prog.cellsOf 3)) = some y1 := by rw [← e1]; exact hx 1 _ rfl
    rw [k1] at h1
    have k2 : Tryz.prog.cellsOf 49 = 1 := by kernel_rfl
    have h2 : DataW.trod enc Tryz.prog W 0 (fun _ => true) true m 49 ([c2, c3].take (Tryz.prog.cellsOf 49)) = some y2 := by rw [← e2]; exact hx 2 _ rfl
    rw [k2] at h2
    have k3 : Tryz.prog.cellsOf 23 = 1 := by kernel_rfl
    have h3 : DataW.trod enc Tryz.prog W 0 (fun _ => true) true m 23 ([c3].take (Tryz.prog.cellsOf 23)) = some y3 := by rw [← e3]; exact hx 3 _ rfl
    rw [k3] at h3
    simp only [List.take_succ_cons, List.take_zero] at h0 h1 h2 h3
    obtain ⟨z0, q0, _, w0⟩ := DataW.trod_int Tryz.underlying3 h0
    obtain ⟨z1, q1, _, w1⟩ := DataW.trod_int Tryz.underlying3 h1
    obtain ⟨l2, r2, o2⟩ := rows_cell specCs (fun o => i64ok o.at_) 104 49 2 (by decide) Tryz.underlying49 (by kernel_rfl) (fun _ => rfl) (fun o => ⟨o.at_, rfl⟩) (fun _ _ _ _ hx => spec_cells hx) h2
    obtain ⟨ps, pb, hps, hpb, _⟩ := ints_cell hpos h3
    injection q0 with q0 _
    injection q1 with q1 _
    subst q0
    subst q1
    exact ⟨⟨z0, z1, c2, c3⟩, rfl, i64_bounds w0, i64_bounds w1, ⟨l2, r2, o2⟩, ⟨ps, pb, hps, hpb⟩⟩
/-- v is a slice that reads as the steps l. -/
def Ops7 (w : World) (v : Value) (l : List Op7R) : Prop := RowOf op7Cs 4 w v l ∧ ∀ o ∈ l, Op7Ok w o
theorem ops7_of {H : Type} {enc : TypeId × Value → H} {W : World} {a : Option Addr} {len cap : Nat} {d : DataW H} {ps : List MemPlace}
    (h : DataW.Trod enc Tryz.prog W 0 (fun _ => true) true 38 (.slice a len cap) d ps) : ∃ l, Ops7 W (.slice a len cap) l :=
  rows_of op7Cs (Op7Ok W) 51 38 4 (by decide) Tryz.underlying38 (by kernel_rfl) (fun _ => rfl) (fun o => ⟨o.kind, rfl⟩) (fun _ _ _ hp hx => op7_cells hp hx) a len cap rfl h
/-! ### Arrays of numbers -/
set_option maxRecDepth 100000 in
theorem ints2_arg {H : Type} {enc : TypeId × Value → H} {W : World} {r : Reach} {b0 : Nat} {v : Value} {d : DataW H} {ps : List MemPlace} (hv : Value.okWide Tryz.prog W r b0 22 v)
    (h : DataW.Trod enc Tryz.prog W 0 (fun _ => true) true 22 v d ps) : ∃ a n : Int, v = .agg #[.int .i64 a, .int .i64 n] ∧ i64ok a ∧ i64ok n := by
  obtain ⟨l, rfl, hl, hw⟩ := int_array Tryz.underlying22 Tryz.underlying3 (by kernel_rfl) (by kernel_rfl) hv h
  match l, hl with
  | [a, n], _ => exact ⟨a, n, rfl, i64_bounds (hw a (by simp)), i64_bounds (hw n (by simp))⟩
set_option maxRecDepth 100000 in
theorem ints5_arg {H : Type} {enc : TypeId × Value → H} {W : World} {r : Reach} {b0 : Nat} {v : Value} {d : DataW H} {ps : List MemPlace} (hv : Value.okWide Tryz.prog W r b0 28 v)
    (h : DataW.Trod enc Tryz.prog W 0 (fun _ => true) true 28 v d ps) : ∃ a b c e f : Int, v = .agg #[.int .i64 a, .int .i64 b, .int .i64 c, .int .i64 e, .int .i64 f] ∧ i64ok a ∧ i64ok b ∧ i64ok c ∧ i64ok e ∧ i64ok f := by
  obtain ⟨l, rfl, hl, hw⟩ := int_array Tryz.underlying28 Tryz.underlying3 (by kernel_rfl) (by kernel_rfl) hv h
  match l, hl with
  | [a, b, c, e, f], _ => exact ⟨a, b, c, e, f, rfl, i64_bounds (hw a (by simp)), i64_bounds (hw b (by simp)), i64_bounds (hw c (by simp)), i64_bounds (hw e (by simp)), i64_bounds (hw f (by simp))⟩
end Go.Proofs.YtfcocbgdmmeikaaGreatDoor
/-! ## The table of 16, out of the row's own condition; what a law's end needs. -/
namespace Go.Proofs.YtfcocbgdmmeikaaGreatDoor
open Go.ChangeShapes Go.WideShapes Go.ChangeAt Go.RowKit

theorem gT : Tryz.prog.globalNamed "scrinium/check.fourSteps" = some 0 := by kernel_rfl
theorem gTt : (Tryz.prog.globals[0]?).map (·.type) = some 154 := by kernel_rfl
theorem laid_eq : (Rows.laid_scrinium_check_fourSteps : DataW Unit) = Lib.tabData .u32 (((List.range 16).map (Crc.steps 4)).map Int.ofNat) := by kernel_rfl
theorem KT_of_laid {W : World} (h : laidMetH Tryz.prog [("scrinium/check.fourSteps", Rows.laid_scrinium_check_fourSteps)] W) : TW W := by
  rw [MakeChecks.laidMetH_plain _ _ _ (by kernel_rfl), laid_eq] at h
  have hT := Lib.tabIs_of_head gT gTt Tryz.underlying154 Tryz.underlying130 (by kernel_rfl) (by kernel_rfl) h
  intro i hi
  have := hT.cell gT i (by simpa using hi)
  rw [this]
  congr 2
  simp [hi]
theorem door_met (os : Os) (args : Array Value) : laidMetH Tryz.prog [("scrinium/check.fourSteps", Rows.laid_scrinium_check_fourSteps)] ((World.doorLaid Tryz.prog 400 os).forCall (fun _ _ => 0) ⟨#[], args, []⟩).memory :=
  laidMetH_of_parts3 (fuel := 8) (laidMet_of_run' 8 (by kernel_rfl) (by kernel_rfl)) (by kernel_rfl) (by kernel_rfl)
end Go.Proofs.YtfcocbgdmmeikaaGreatDoor
