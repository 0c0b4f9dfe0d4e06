/-
  Slices of texts that are read; the statements' own helpers short and few.
-/
import Derived.Test.YtnhpebhmihagbaaOctAwake
namespace Go.Proofs.Ytnhpebhmihagbaa
open Go.RowKit

/-- v is a slice that reads as the texts ts. -/
def StrRow (w : World) (v : Value) (ts : List ByteArray) : Prop :=
  ∃ a cap, v = .slice a ts.length cap ∧ ts.length ≤ 9223372036854775807 ∧ (ts ≠ [] → ∃ b off, a = some ⟨b, off, none⟩ ∧ b < w.heap.size ∧ ∀ j, j < ts.length → w.cell? ⟨b, off + j, none⟩ = some (.string (ts.getD j ByteArray.empty)))

theorem StrRow.old {w w' : World} {v : Value} {ts : List ByteArray} (h : StrRow w v ts) (k : Below w.heap.size w w') : StrRow w' v ts := by
  obtain ⟨a, cap, rfl, hl, hc⟩ := h
  refine ⟨a, cap, rfl, hl, fun hn => ?_⟩
  obtain ⟨b, off, rfl, hb, hj⟩ := hc hn
  exact ⟨b, off, rfl, Nat.lt_of_lt_of_le hb k.size, fun j h => (k.cell (by exact hb)).trans (hj j h)⟩

theorem StrRow.nil (w : World) : StrRow w (.slice none 0 0) [] := ⟨none, 0, rfl, by decide, fun h => absurd rfl h⟩

theorem StrRow.of_own {w : World} {base n : Nat} {v : Value} {ts : List ByteArray} (h : w.ownsRow base 9 1 v n (ts.map Value.string)) (hn : ts.length ≤ 9223372036854775807) : StrRow w v ts := by
  have h1 := h.1
  simp at h1
  obtain rfl := h1
  rcases h.2 with ⟨rfl, h0⟩ | ⟨g, cap, cur, rfl, hg, hh, r⟩
  · have : ts = [] := List.eq_nil_of_length_eq_zero h0
    subst this
    exact StrRow.nil w
  · refine ⟨_, cap, rfl, hn, fun _ => ⟨g, 0, rfl, (Array.getElem?_eq_some_iff.1 hh).1, fun j hj => ?_⟩⟩
    have := h.cells rfl j (.string (ts.getD j ByteArray.empty)) (by simp [hj])
    rw [← this, Nat.zero_add]
    congr 1
    unfold Addr.add
    split <;> simp_all

/-- The statements' short: a text of at most n bytes. -/
def shortB (s : ByteArray) (n : Nat) : ByteArray := if n < s.size then s.extract 0 n else s
/-- The statements' few: at most 12 texts, of 100 bytes at most. -/
def fewL (ts : List ByteArray) : List ByteArray := (ts.take 12).map fun s => shortB s 100

theorem shortB_size (s : ByteArray) (n : Nat) : (shortB s n).size ≤ n := by
  unfold shortB
  split
  · rw [ByteArray.size_extract]; omega
  · omega
theorem fewL_length (ts : List ByteArray) : (fewL ts).length ≤ 12 := by simp [fewL]; omega

theorem short_any (s : ByteArray) (n : Nat) (w : World) :
    Calls Try.prog 12 #[.string s, .int .i64 n] w fun e w' => e = .returned (.string (shortB s n)) ∧ w = w' := by
  unfold shortB
  by_cases h : n < s.size
  · rw [if_pos h]
    have h2 : n ≤ s.size := by omega
    go_enter Try.func12, Try.ntmps12
    go_wp2
    go_ret
    exact ⟨rfl, rfl⟩
  · rw [if_neg h]
    go_enter Try.func12, Try.ntmps12
    go_wp2
    go_ret
    exact ⟨rfl, rfl⟩

theorem short_100 (s : ByteArray) (w : World) :
    Calls Try.prog 12 #[.string s, .int .i64 100] w fun e w' => e = .returned (.string (shortB s 100)) ∧ w = w' := short_any s 100 w

theorem short_1000 (s : ByteArray) (w : World) :
    Calls Try.prog 12 #[.string s, .int .i64 1000] w fun e w' => e = .returned (.string (shortB s 1000)) ∧ w = w' := short_any s 1000 w

theorem info_str : (Try.prog.info? 9).map (fun i => (i.zero, i.size, i.bytes)) = some (some (.string ⟨#[]⟩), 1, 16) := by kernel_rfl

/-- What few leaves: a slice that reads so; nothing that was there has turned. -/
def RowPost (w : World) (ts : List ByteArray) (e : Ending) (w' : World) : Prop := ∃ v, e = .returned v ∧ StrRow w' v ts ∧ Below w.heap.size w w'

theorem few_step (ts : List ByteArray) (k : Nat) (h : k < ts.length) (h12 : k < 12) : (fewL (ts.take (k + 1))).map Value.string = (fewL (ts.take k)).map Value.string ++ [.string (shortB (ts.getD k ByteArray.empty) 100)] := by
  unfold fewL
  rw [List.take_take, List.take_take, Nat.min_eq_right (by omega), Nat.min_eq_right (by omega), List.take_succ_eq_append_getElem h]
  have e : ts.getD k ByteArray.empty = ts[k] := by simp [h]
  rw [e]
  simp only [List.map_append, List.map_cons, List.map_nil]

theorem few_len (ts : List ByteArray) (k : Nat) (h : k ≤ ts.length) (h12 : k ≤ 12) : (fewL (ts.take k)).length = k := by
  simp [fewL]; omega

set_option maxHeartbeats 800000 in
theorem few_some (b off cap : Nat) (ts : List ByteArray) (w : World) (_hl : ts.length ≤ 9223372036854775807) (hb : b < w.heap.size)
    (hc : ∀ j, j < ts.length → w.cell? ⟨b, off + j, none⟩ = some (.string (ts.getD j ByteArray.empty))) :
    Calls Try.prog 13 #[.slice (some ⟨b, off, none⟩) ts.length cap] w (RowPost w (fewL ts)) := by
  obtain ⟨i0, hi, hz0, hz1, hz2⟩ := info_parts info_str
  have HC := Lib.hid hc
  clear hc
  go_enter Try.func13, Try.ntmps13
  go_wp2
  go_loopw [3, 4] (fun v i wr => ∃ k : Nat, k ≤ ts.length ∧ k ≤ 12 ∧ i = .int .i64 k ∧ wr.ownsRow w.heap.size 9 1 v k ((fewL (ts.take k)).map Value.string) ∧ Below w.heap.size w wr)
    (fun _ i _ => ts.length - (intOf i).toNat)
  case atStart => exact ⟨0, Nat.zero_le _, Nat.zero_le _, rfl, World.ownsRow_nil _ _ _ _, Below.refl _ _⟩
  case round =>
    obtain ⟨k, hk, hk12, rfl, hown, hbl⟩ := hrel
    by_cases hlt : k < ts.length ∧ k < 12
    · obtain ⟨hlt, h12⟩ := hlt
      obtain ⟨x, hx⟩ : ∃ x, x = ts.getD k ByteArray.empty := ⟨_, rfl⟩
      have hcx : wr.cell? ⟨b, off + k, none⟩ = some (.string x) := by rw [hx]; exact (hbl.cell (by exact hb)).trans (HC.out k hlt)
      have HX := Lib.hid hx
      clear hx
      go_wp2_with (first
        | (go_at_call 12; refine (short_100 _ _).mono ?_; rintro e w1 ⟨rfl, rfl⟩)
        | (at_builtin; refine wpList_append_own _ rfl _ _ 23 rfl w.heap.size 9 i0 (.string ⟨#[]⟩) 1 16 Try.underlying23 hi hz0 hz1 hz2 rfl (by decide) _ _ _ rfl (hown.alloc _) ⟨wr.heap.size, 0, none⟩ 1 1 [.string (shortB x 100)] rfl rfl (cell_one_new _ _ _) (by intro u hu; simp at hu; subst hu; rfl) (by unfold maxLen; omega) (by omega) (by have := hbl.size; simp; omega) ?_; intro v' w1 hown' hgrow _))
      rw [HX.out, ← few_step ts k hlt h12] at hown'
      go_roundw
      case rel => exact ⟨k + 1, by omega, by omega, by go_num, hown', (hbl.alloc hbl.size _).grown hgrow (by have := hbl.size; simp; omega) (fun g hg => (hown.lt g hg).1)⟩
      case measure => simp [intOf]; omega
    · have hf : fewL (ts.take k) = fewL ts := by
        unfold fewL
        by_cases h12 : k = 12
        · subst h12; rw [List.take_take]; rfl
        · rw [List.take_of_length_le (i := k) (by omega)]
      rw [hf] at hown
      have H := StrRow.of_own hown (by have := fewL_length ts; omega)
      clear hown hf
      by_cases hkl : k < ts.length
      all_goals
        go_wp2
        go_ret
        exact ⟨_, rfl, H, hbl⟩

theorem few_none (a : Option Addr) (cap : Nat) (w : World) :
    Calls Try.prog 13 #[.slice a 0 cap] w (RowPost w (fewL [])) := by
  go_enter Try.func13, Try.ntmps13
  go_wp2
  refine wp_loop_rounds 1 ?_
  rw [rounds_succ]
  go_wp2
  go_ret
  exact ⟨_, rfl, StrRow.nil _, Below.refl _ _⟩

theorem few_any (v : Value) (ts : List ByteArray) (w : World) (h : StrRow w v ts) : Calls Try.prog 13 #[v] w (RowPost w (fewL ts)) := by
  obtain ⟨a, cap, rfl, hl, hc⟩ := h
  by_cases hn : ts = []
  · subst hn; exact few_none a cap w
  · obtain ⟨b, off, rfl, hb, hj⟩ := hc hn
    exact few_some b off cap ts w hl hb hj
end Go.Proofs.Ytnhpebhmihagbaa
