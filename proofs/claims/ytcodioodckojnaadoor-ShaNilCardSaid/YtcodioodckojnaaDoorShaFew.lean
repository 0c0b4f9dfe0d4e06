/-
  Slices of texts that are read; the statements' own helper few.
-/
import Derived.Test.YtcodioodckojnaaDoorShaLaw
import Derived.Test.YtcodioodckojnaaDoorShaOneA
import Derived.SliceStrings
import Derived.Deep.OwnRows
import Derived.Maps.AppendAt
namespace Go.Proofs.YtcodioodckojnaaDoor
open Go.ChangeShapes Go.WideShapes Go.ChangeAt Go.RowKit

theorem StrRow.of_own {w : World} {base n : Nat} {v : Value} {ts : List ByteArray} (h : w.ownsRow base 9 1 v n (ts.map Value.string)) (hn : ts.length ≤ 9223372036854775807) : StrRow w v ts := by
  have h1 := h.1
  simp at h1
  obtain rfl := h1
  rcases h.2 with ⟨rfl, h0⟩ | ⟨g, cap, cur, rfl, hg, hh, r⟩
  · have : ts = [] := List.eq_nil_of_length_eq_zero h0
    subst this
    exact StrRow.nil w
  · refine ⟨_, cap, rfl, hn, fun _ => ⟨g, 0, rfl, (Array.getElem?_eq_some_iff.1 hh).1, fun j hj => ?_⟩⟩
    have := h.cells rfl j (.string (ts.getD j ByteArray.empty)) (by simp [hj])
    rw [← this, Nat.zero_add]
    congr 1
    unfold Addr.add
    split <;> simp_all


/-- The statements' few: at most 12 texts, of 150 bytes at most. -/
def fewL (ts : List ByteArray) : List ByteArray := (ts.take 12).map fun s => shortB s 150
theorem fewL_length (ts : List ByteArray) : (fewL ts).length ≤ 12 := by simp [fewL]; omega

theorem info_str : (Tryd.prog.info? 9).map (fun i => (i.zero, i.size, i.bytes)) = some (some (.string ⟨#[]⟩), 1, 16) := by kernel_rfl

/-- What few leaves: a slice that reads so; nothing that was there has turned. -/
def RowPost (w : World) (ts : List ByteArray) (e : Ending) (w' : World) : Prop := ∃ v, e = .returned v ∧ StrRow w' v ts ∧ Below w.heap.size w w'

theorem few_step (ts : List ByteArray) (k : Nat) (h : k < ts.length) (h12 : k < 12) : (fewL (ts.take (k + 1))).map Value.string = (fewL (ts.take k)).map Value.string ++ [.string (shortB (ts.getD k ByteArray.empty) 150)] := by
  unfold fewL
  rw [List.take_take, List.take_take, Nat.min_eq_right (by omega), Nat.min_eq_right (by omega), List.take_succ_eq_append_getElem h]
  have e : ts.getD k ByteArray.empty = ts[k] := by simp [h]
  rw [e]
  simp only [List.map_append, List.map_cons, List.map_nil]

theorem few_len (ts : List ByteArray) (k : Nat) (h : k ≤ ts.length) (h12 : k ≤ 12) : (fewL (ts.take k)).length = k := by
  simp [fewL]; omega

set_option maxHeartbeats 800000 in
theorem few_some (b off cap : Nat) (ts : List ByteArray) (w : World) (_hl : ts.length ≤ 9223372036854775807) (hb : b < w.heap.size)
    (hc : ∀ j, j < ts.length → w.cell? ⟨b, off + j, none⟩ = some (.string (ts.getD j ByteArray.empty))) :
    Calls Tryd.prog 22 #[.slice (some ⟨b, off, none⟩) ts.length cap] w (RowPost w (fewL ts)) := by
  obtain ⟨i0, hi, hz0, hz1, hz2⟩ := info_parts info_str
  have HC := Lib.hid hc
  clear hc
  go_enter Tryd.func22, Tryd.ntmps22
  go_wp2
  go_loopw [3, 4] (fun v i wr => ∃ k : Nat, k ≤ ts.length ∧ k ≤ 12 ∧ i = .int .i64 k ∧ wr.ownsRow w.heap.size 9 1 v k ((fewL (ts.take k)).map Value.string) ∧ Below w.heap.size w wr)
    (fun _ i _ => ts.length - (intOf i).toNat)
  case atStart => exact ⟨0, Nat.zero_le _, Nat.zero_le _, rfl, World.ownsRow_nil _ _ _ _, Below.refl _ _⟩
  case round =>
    obtain ⟨k, hk, hk12, rfl, hown, hbl⟩ := hrel
    by_cases hlt : k < ts.length ∧ k < 12
    · obtain ⟨hlt, h12⟩ := hlt
      obtain ⟨x, hx⟩ : ∃ x, x = ts.getD k ByteArray.empty := ⟨_, rfl⟩
      have hcx : wr.cell? ⟨b, off + k, none⟩ = some (.string x) := by rw [hx]; exact (hbl.cell (by exact hb)).trans (HC.out k hlt)
      have HX := Lib.hid hx
      clear hx
      go_wp2_with (first
        | (go_at_call 15; refine (short_any x 150 150 rfl _).mono ?_; rintro e w1 ⟨rfl, rfl⟩)
        | (at_builtin; refine wpList_append_own _ rfl _ _ 36 rfl w.heap.size 9 i0 (.string ⟨#[]⟩) 1 16 Tryd.underlying36 hi hz0 hz1 hz2 rfl (by decide) _ _ _ rfl (hown.alloc _) ⟨wr.heap.size, 0, none⟩ 1 1 [.string (shortB x 150)] rfl rfl (cell_one_new _ _ _) (by intro u hu; simp at hu; subst hu; rfl) (by unfold maxLen; omega) (by omega) (by have := hbl.size; simp; omega) ?_; intro v' w1 hown' hgrow _))
      rw [HX.out, ← few_step ts k hlt h12] at hown'
      go_roundw
      case rel => exact ⟨k + 1, by omega, by omega, by go_num, hown', (hbl.alloc hbl.size _).grown hgrow (by have := hbl.size; simp; omega) (fun g hg => (hown.lt g hg).1)⟩
      case measure => simp [intOf]; omega
    · have hf : fewL (ts.take k) = fewL ts := by
        unfold fewL
        by_cases h12 : k = 12
        · subst h12; rw [List.take_take]; rfl
        · rw [List.take_of_length_le (i := k) (by omega)]
      rw [hf] at hown
      have H := StrRow.of_own hown (by have := fewL_length ts; omega)
      clear hown hf
      by_cases hkl : k < ts.length
      all_goals
        go_wp2
        go_ret
        exact ⟨_, rfl, H, hbl⟩

theorem few_none (a : Option Addr) (cap : Nat) (w : World) :
    Calls Tryd.prog 22 #[.slice a 0 cap] w (RowPost w (fewL [])) := by
  go_enter Tryd.func22, Tryd.ntmps22
  go_wp2
  refine wp_loop_rounds 1 ?_
  rw [rounds_succ]
  go_wp2
  go_ret
  exact ⟨_, rfl, StrRow.nil _, Below.refl _ _⟩

theorem few_any (v : Value) (ts : List ByteArray) (w : World) (h : StrRow w v ts) : Calls Tryd.prog 22 #[v] w (RowPost w (fewL ts)) := by
  obtain ⟨a, cap, rfl, hl, hc⟩ := h
  by_cases hn : ts = []
  · subst hn; exact few_none a cap w
  · obtain ⟨b, off, rfl, hb, hj⟩ := hc hn
    exact few_some b off cap ts w hl hb hj
theorem cells_str : Tryd.prog.cellsOf 9 = 1 := by kernel_rfl

/-- An address at which a cell lies has no spot. -/
theorem addr_plain {w : World} {a : Addr} {n : Nat} {f : Nat → Value} (hn : 0 < n) (h : ∀ i, i < n → w.cell? (a.add i) = some (f i)) :
    ∃ b off, a = ⟨b, off, none⟩ ∧ b < w.heap.size ∧ ∀ i, i < n → w.cell? ⟨b, off + i, none⟩ = some (f i) := by
  obtain ⟨b, off, spot⟩ := a
  have h0 := h 0 hn
  have e0 : Addr.add ⟨b, off, spot⟩ 0 = ⟨b, off, spot⟩ := by unfold Addr.add; simp
  rw [e0] at h0
  have hs : spot = none := by
    cases spot with
    | none => rfl
    | some x => unfold World.cell? at h0; split at h0 <;> simp_all
  subst hs
  refine ⟨b, off, rfl, ?_, fun i hi => ?_⟩
  · unfold World.cell? at h0
    split at h0
    · rename_i heq; exact (Array.getElem?_eq_some_iff.1 heq).1
    · cases h0
  · have := h i hi
    unfold Addr.add at this
    split at this
    · rename_i e; have e' : i = 0 := by simpa using e
      subst e'; simpa using this
    · exact this

/-- A cell that reads as a slice of texts. -/
theorem strRow_cell {H : Type} {enc : TypeId × Value → H} {W : World} {fuel : Nat} {c : Value} {x : DataW H × List MemPlace}
    (hf : DataW.trod enc Tryd.prog W 0 (fun _ => true) true fuel 36 [c] = some x) : ∃ ts, StrRow W c ts := by
  rcases open_strings Tryd.underlying36 Tryd.underlying9 cells_str hf with ⟨hcs, _⟩ | ⟨a, len, cap, ss, hcs, _, hl, hm, hz, _, hcell, _⟩
  · simp at hcs
    subst hcs
    exact ⟨[], StrRow.nil _⟩
  · simp at hcs
    subst hcs
    simp at hz
    have ht : (ss.take len).length = len := by rw [List.length_take]; omega
    refine ⟨ss.take len, some a, cap, by rw [ht], by rw [ht]; unfold maxLen at hm; omega, fun hn => ?_⟩
    have hpos : 0 < len := by
      rw [← ht]; exact List.length_pos_iff.2 hn
    obtain ⟨b, off, rfl, hb, hc⟩ := addr_plain (n := ss.length) (by omega) hcell
    refine ⟨b, off, rfl, hb, fun j hj => ?_⟩
    rw [hc j (by omega)]
    congr 2
    rw [ht] at hj
    simp [hj]

theorem strRow_of {H : Type} {enc : TypeId × Value → H} {W : World} {a : Option Addr} {len cap : Nat} {d : DataW H} {ps : List MemPlace}
    (h : DataW.Trod enc Tryd.prog W 0 (fun _ => true) true 36 (.slice a len cap) d ps) : ∃ ts, StrRow W (.slice a len cap) ts := by
  obtain ⟨fuel, hf⟩ := h
  exact strRow_cell (fuel := fuel) (by simpa [Value.cells] using hf)

theorem flat_few (ts : List ByteArray) : (flat (fewL ts)).length ≤ 1800 := by
  have key : ∀ l : List ByteArray, (flat (l.map fun s => shortB s 150)).length ≤ 150 * l.length := by
    intro l
    induction l with
    | nil => simp [flat]
    | cons x l ih =>
      have hx := shortB_size x 150
      rw [Lib.size_eq] at hx
      simp only [flat, List.map_cons, List.flatMap_cons, List.length_append, List.length_cons] at ih ⊢
      omega
  have := key (ts.take 12)
  have h12 : (ts.take 12).length ≤ 12 := by rw [List.length_take]; omega
  unfold fewL
  omega
end Go.Proofs.YtcodioodckojnaaDoor
