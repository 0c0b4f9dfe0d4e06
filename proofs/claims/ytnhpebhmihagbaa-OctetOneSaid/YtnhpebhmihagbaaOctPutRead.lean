/-
  Package octet: what was put is read again: Long, Text and List of a scanner that stands at it.
-/
import Derived.Test.YtnhpebhmihagbaaOctTexts
import Derived.Test.YtnhpebhmihagbaaOctRead
import Derived.Test.YtnhpebhmihagbaaOctSame
namespace Go.Proofs.Ytnhpebhmihagbaa
open Go.RowKit

theorem read_str (s : ByteArray) (w : World) (hs : s.size ≤ maxLen) :
    Calls Try.prog 21 #[.string s] w fun e w' => e = .returned (.pointer (some ⟨w.heap.size, 0, none⟩)) ∧ Scn w.heap.size (some s.data.toList) w' ∧ Below w.heap.size w w' := by
  have := read_any s.data.toList w (by rw [← Lib.size_eq]; exact hs)
  rw [Lib.mk_data] at this
  exact this

theorem long_put (b n : Nat) (r : List UInt8) (w : World) (hn : n < 18446744073709551616) (h : Scn b (some (Oct.putL n ++ r)) w) :
    Calls Try.prog 22 #[.pointer (some ⟨b, 0, none⟩)] w fun e w' => e = .returned (.int .u64 n) ∧ Scn b (some r) w' ∧ Only b w w' := by
  have := long_any b _ w h
  rw [longV_put n hn r, longS_put n hn r] at this
  exact this

theorem text_parts (t : ByteArray) (r : List UInt8) (most : Int) (h : (t.size : Int) ≤ most) (hs : t.size < 18446744073709551616) :
    textV (some (txtL t ++ r)) most = t.data.toList ∧ textS (some (txtL t ++ r)) most = some r := by
  have hm : ¬ (most < 0 ∨ most < t.size) := by omega
  have e : txtL t ++ r = Oct.putL t.size ++ (t.data.toList ++ r) := by rw [txtL, List.append_assoc]
  have e1 := numV_put t.size hs (t.data.toList ++ r) most hm
  have e2 := numS_put t.size hs (t.data.toList ++ r) most hm
  have hl : t.data.toList.length = t.size := (Lib.size_eq t).symm
  have hn : ¬ (t.data.toList ++ r).length < t.size := by rw [List.length_append, hl]; omega
  unfold textV textS
  rw [e, e1, e2, Option.getD_some, Option.bind_some, if_neg hn, if_neg hn, ← hl]
  simp

theorem text_put (b : Nat) (t : ByteArray) (r : List UInt8) (most : Int) (w : World) (hm : (t.size : Int) ≤ most) (m2 : most ≤ 9223372036854775807) (h : Scn b (some (txtL t ++ r)) w) :
    Calls Try.prog 26 #[.pointer (some ⟨b, 0, none⟩), .int .i64 most] w fun e w' => e = .returned (.string t) ∧ Scn b (some r) w' ∧ Only b w w' := by
  have := text_any b _ most w h (by omega) m2
  obtain ⟨e1, e2⟩ := text_parts t r most hm (by omega)
  rw [e1, e2, Lib.mk_data] at this
  exact this

theorem take_put (us : List ByteArray) (r : List UInt8) (hus : ∀ t ∈ us, t.size ≤ 1000) : ∀ acc, takeTexts us.length acc (some (txtsL us ++ r)) = (acc ++ us.map (·.data.toList), some r) := by
  induction us with
  | nil => intro acc; simp [takeTexts, txtsL]
  | cons t us ih =>
    intro acc
    have h1 := hus t (by simp)
    have e : txtsL (t :: us) ++ r = txtL t ++ (txtsL us ++ r) := by simp [txtsL]
    obtain ⟨e1, e2⟩ := text_parts t (txtsL us ++ r) 16777216 (by omega) (by omega)
    rw [e, List.length_cons, take_step _ _ _ _ e2, e1, ih (fun x hx => hus x (by simp [hx]))]
    simp

theorem list_parts (us : List ByteArray) (r : List UInt8) (most : Int) (hm : (us.length : Int) ≤ most) (hl : us.length ≤ 12) (hus : ∀ t ∈ us, t.size ≤ 1000) :
    listR (some (listL us ++ r)) most = (us.map (·.data.toList), some r) := by
  have e : listL us ++ r = Oct.putL us.length ++ (txtsL us ++ r) := by rw [listL, List.append_assoc]
  have hm' : ¬ (most < 0 ∨ most < us.length) := by omega
  unfold listR
  rw [e, numV_put us.length (by omega) _ most hm', numS_put us.length (by omega) _ most hm', take_put us r hus []]
  simp

theorem strs_data (us : List ByteArray) : strs (us.map (·.data.toList)) = us := by
  simp only [strs, List.map_map]
  conv => rhs; rw [← List.map_id us]
  exact List.map_congr_left fun t _ => Lib.mk_data t

/-- What List leaves of what was put. -/
def BackPost (b : Nat) (w : World) (us : List ByteArray) (r : List UInt8) (e : Ending) (w' : World) : Prop := ∃ v, e = .returned v ∧ StrRow w' v us ∧ Scn b (some r) w' ∧ Only b w w'

theorem list_put (b : Nat) (us : List ByteArray) (r : List UInt8) (most : Int) (w : World) (hm : (us.length : Int) ≤ most) (m2 : most ≤ 9223372036854775807) (hl : us.length ≤ 12) (hus : ∀ t ∈ us, t.size ≤ 1000) (hr : r.length ≤ 100000) (h : Scn b (some (listL us ++ r)) w) :
    Calls Try.prog 29 #[.pointer (some ⟨b, 0, none⟩), .int .i64 most] w (BackPost b w us r) := by
  have hp := putL_len us.length (by omega)
  have ht := txts_length us hus
  have := list_any b _ most w h (by omega) m2 (by rw [Option.getD_some, listL, List.length_append, List.length_append]; omega)
  rw [list_parts us r most hm hl hus] at this
  refine this.mono fun e w' ⟨v, he, h1, h2, h3⟩ => ⟨v, he, ?_, h2, h3⟩
  rw [strs_data] at h1
  exact h1.row

end Go.Proofs.Ytnhpebhmihagbaa
