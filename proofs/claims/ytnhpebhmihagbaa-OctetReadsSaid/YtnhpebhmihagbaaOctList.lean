/-
  Lists: what octet.List and the document's own List tell of the same texts; the document's Same.
-/
import Derived.Test.YtnhpebhmihagbaaOctRef
import Derived.Test.YtnhpebhmihagbaaOctShelf
import Derived.Lib.OthersKept
namespace Go.Proofs.Ytnhpebhmihagbaa
open Go.RowKit

theorem builder_old {T e : TypeId} {B b : Nat} {bs : List Value} {w w' : World} (h : Lib.IsBuilderF T e B b bs w) (k : Below w.heap.size w w') : Lib.IsBuilderF T e B b bs w' := by
  have go : ∀ p, Lib.BuilderAtF T e B b p bs w → Lib.BuilderAtF T e B b p bs w' := by
    rintro p ⟨hB, v, hb, ⟨h1, h2⟩, hne⟩
    refine ⟨hB, v, (k.block b (Array.getElem?_eq_some_iff.1 hb).1).trans hb, ⟨h1, ?_⟩, hne⟩
    rcases h2 with h2 | ⟨g, cap, cur, fz, hv, hg, hh, r⟩
    · exact Or.inl h2
    · exact Or.inr ⟨g, cap, cur, fz, hv, hg, (k.block g (Array.getElem?_eq_some_iff.1 hh).1).trans hh, r⟩
  exact h.elim (fun x => .inl (go _ x)) (fun x => .inr (go _ x))

set_option maxHeartbeats 1600000 in
theorem listPut_some (b off cap : Nat) (ts : List ByteArray) (w : World) (hl : ts.length ≤ 12) (hb : b < w.heap.size) (hsm : ∀ t ∈ ts, t.size ≤ 1000)
    (hc : ∀ j, j < ts.length → w.cell? ⟨b, off + j, none⟩ = some (.string (ts.getD j ByteArray.empty))) :
    Calls Try.prog 19 #[.slice (some ⟨b, off, none⟩) ts.length cap] w fun e w' => e = .returned (.string ⟨(listL ts).toArray⟩) ∧ Below w.heap.size w w' := by
  have HC := Lib.hid hc
  have HS := Lib.hid hsm
  have hp := putL_len ts.length (by omega)
  have hI0 := Lib.IsBuilderF.of (Lib.fresh_isBuilder 60 5 w)
  have HI := Lib.hid hI0
  clear hc hsm hI0
  go_enter Try.func19, Try.ntmps19
  go_wp2_with (first
    | (go_at_call 14; refine (put_any _ _ (by omega)).mono ?_; rintro e w1 ⟨rfl, b1⟩)
    | (go_at_call 37; refine (writeString_any w.heap.size w.heap.size [] _ _ (builder_old HI.out b1) (by rw [Oct.putB_size, ← Oct.putL_length, List.length_nil]; omega) (by have := b1.size; simp at this; omega)).mono ?_; rintro e w2 ⟨rfl, h2, b2, _⟩))
  have B2 : Below w.heap.size w w2 := (((Below.refl _ _).alloc (Nat.le_refl _) _).trans (b1.mono (by simp))).trans b2
  have H2 : Hid (Lib.IsBuilderF 60 5 w.heap.size w.heap.size (Lib.byteCells (Oct.putL ts.length)) w2) := Or.inr h2
  clear b1 b2 h2 HI
  go_wp2
  go_loopw [13] (fun i wr => ∃ k : Nat, k ≤ ts.length ∧ i = .int .i64 k ∧ Lib.IsBuilderF 60 5 w.heap.size w.heap.size (Lib.byteCells (Oct.putL ts.length ++ txtsL (ts.take k))) wr ∧ Below w.heap.size w wr)
    (fun i _ => ts.length - (intOf i).toNat)
  case atStart => exact ⟨0, Nat.zero_le _, rfl, by simpa [txtsL] using H2.out, B2⟩
  case round =>
    obtain ⟨k, hk, rfl, hI, hbl⟩ := hrel
    clear H2 B2
    by_cases hlt : k < ts.length
    · obtain ⟨x, hx⟩ : ∃ x, x = ts.getD k ByteArray.empty := ⟨_, rfl⟩
      have hcx : wr.cell? ⟨b, off + k, none⟩ = some (.string x) := by rw [hx]; exact (hbl.cell (by exact hb)).trans (HC.out k hlt)
      have hxs : x.size ≤ 1000 := by rw [hx]; exact getD_le ts HS.out k
      have hxl := txtL_length x hxs
      have hts := txts_length (ts.take k) (fun t ht => HS.out t (List.mem_of_mem_take ht))
      rw [List.length_take, Nat.min_eq_left hk] at hts
      have HX := Lib.hid hx
      have HT := Lib.hid (txt_eq x)
      clear hx
      go_wp2_with (first
        | (go_at_call 17; refine (textPut_any _ _ (by omega)).mono ?_; rw [HT.out]; rintro e w3 ⟨rfl, b3⟩)
        | (go_at_call 37; refine (writeString_any w.heap.size w.heap.size _ _ _ (builder_old hI b3) (by rw [Lib.byteCells_length, List.length_append, ByteArray.size, List.size_toArray]; omega) (Nat.le_trans hbl.size b3.size)).mono ?_; rintro e w4 ⟨rfl, h4, b4, _⟩))
      go_roundw
      case rel =>
        refine ⟨k + 1, by omega, by go_num, ?_, (hbl.trans (b3.mono hbl.size)).trans b4⟩
        rw [txts_step ts k hlt, ← HX.out, ← List.append_assoc, Lib.byteCells_append]
        exact Or.inr h4
      case measure => simp [intOf]; omega
    · have e : ts.take k = ts := List.take_of_length_le (by omega)
      rw [e] at hI
      clear e
      go_wp2_with (go_at_call 38; refine (builderString_any w.heap.size w.heap.size _ _ hI hbl.size).mono ?_; rintro e w5 ⟨rfl, _, b5, _⟩)
      go_ret
      exact ⟨rfl, hbl.trans b5⟩

set_option maxHeartbeats 800000 in
theorem listPut_none (a : Option Addr) (cap : Nat) (w : World) :
    Calls Try.prog 19 #[.slice a 0 cap] w fun e w' => e = .returned (.string ⟨(listL []).toArray⟩) ∧ Below w.heap.size w w' := by
  have HI := Lib.hid (Lib.IsBuilderF.of (Lib.fresh_isBuilder 60 5 w))
  go_enter Try.func19, Try.ntmps19
  go_wp2_with (first
    | (go_at_call 14; refine (put_0 _).mono ?_; rintro e w1 ⟨rfl, b1⟩)
    | (go_at_call 37; refine (writeString_any w.heap.size w.heap.size [] _ _ (builder_old HI.out b1) (by decide) (by have := b1.size; simp at this; omega)).mono ?_; rintro e w2 ⟨rfl, h2, b2, _⟩))
  have B2 : Below w.heap.size w w2 := (((Below.refl _ _).alloc (Nat.le_refl _) _).trans (b1.mono (by simp))).trans b2
  have H2 : Hid (Lib.IsBuilderF 60 5 w.heap.size w.heap.size (Lib.byteCells (listL [])) w2) := Or.inr h2
  clear b1 b2 h2 HI
  refine wp_loop_rounds 1 ?_
  rw [rounds_succ]
  go_wp2_with (go_at_call 38; refine (builderString_any w.heap.size w.heap.size _ _ H2.out B2.size).mono ?_; rintro e w5 ⟨rfl, _, b5, _⟩)
  go_ret
  exact ⟨rfl, B2.trans b5⟩

theorem listPut_any (v : Value) (ts : List ByteArray) (w : World) (h : StrRow w v ts) (hl : ts.length ≤ 12) (hsm : ∀ t ∈ ts, t.size ≤ 1000) :
    Calls Try.prog 19 #[v] w fun e w' => e = .returned (.string ⟨(listL ts).toArray⟩) ∧ Below w.heap.size w w' := by
  obtain ⟨a, cap, rfl, _, hc⟩ := h
  by_cases hn : ts = []
  · subst hn; exact listPut_none a cap w
  · obtain ⟨b, off, rfl, hb, hj⟩ := hc hn
    exact listPut_some b off cap ts w hl hb hsm hj

end Go.Proofs.Ytnhpebhmihagbaa
