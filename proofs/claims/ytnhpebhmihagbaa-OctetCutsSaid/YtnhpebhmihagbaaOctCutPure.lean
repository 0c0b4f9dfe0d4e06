/-
  Plain mathematics: of what was put, cut short anywhere, nothing is read whole.
-/
import Derived.Test.YtnhpebhmihagbaaOctPutRead
namespace Go.Proofs.Ytnhpebhmihagbaa

theorem num_cut (n j : Nat) (r : List UInt8) (h : n < 18446744073709551616) (hj : j < 1 + Oct.need n) : Oct.num? ((Oct.putL n ++ r).take j) = none := by
  rw [List.take_append_of_le_length (by rw [Oct.putL_length]; omega)]
  cases j with
  | zero => rfl
  | succ i =>
    have hb := Oct.need_byte n h
    rw [Oct.putL, List.take_succ_cons]
    simp only [Oct.num?]
    rw [if_pos]
    right; left
    rw [hb, List.length_take, Oct.be_length]
    omega

theorem take_put_more (n j : Nat) (r : List UInt8) (hj : 1 + Oct.need n ≤ j) : (Oct.putL n ++ r).take j = Oct.putL n ++ r.take (j - (1 + Oct.need n)) := by
  rw [List.take_append, Oct.putL_length, List.take_of_length_le (by rw [Oct.putL_length]; exact hj)]

theorem numS_of_none (l : List UInt8) (most : Int) (h : Oct.num? l = none) : numS (some l) most = none := by
  unfold numS
  split
  · rfl
  · simp [longS, h]

theorem text_cut (t : ByteArray) (j : Nat) (most : Int) (ht : t.size < 18446744073709551616) (hj : j < (txtL t).length) : textS (some ((txtL t).take j)) most = none := by
  have hl : t.data.toList.length = t.size := (Lib.size_eq t).symm
  have hlen : (txtL t).length = 1 + Oct.need t.size + t.size := by rw [txtL, List.length_append, Oct.putL_length, hl]
  by_cases h1 : j < 1 + Oct.need t.size
  · unfold textS
    rw [txtL, numS_of_none _ _ (num_cut t.size j _ ht h1)]
    rfl
  · unfold textS
    rw [txtL, take_put_more _ _ _ (by omega)]
    by_cases hm : most < 0 ∨ most < t.size
    · rw [(num_bad t.size ht _ most hm).2]; rfl
    · rw [numS_put t.size ht _ most hm, numV_put t.size ht _ most hm, Option.bind_some, if_pos]
      rw [List.length_take]; omega

theorem takes_cut (us : List ByteArray) (hus : ∀ t ∈ us, t.size ≤ 1000) : ∀ (acc : List (List UInt8)) (j : Nat), j < (txtsL us).length → takeTexts us.length acc (some ((txtsL us).take j)) = ([], none) := by
  induction us with
  | nil => intro acc j hj; simp [txtsL] at hj
  | cons t us ih =>
    intro acc j hj
    have h1 := hus t (by simp)
    have e : txtsL (t :: us) = txtL t ++ txtsL us := by simp [txtsL]
    rw [e] at hj ⊢
    rw [List.length_append] at hj
    rw [List.length_cons]
    by_cases hc : j < (txtL t).length
    · rw [List.take_append_of_le_length (by omega)]
      exact take_stop _ _ _ (text_cut t j _ (by omega) hc)
    · rw [List.take_append, List.take_of_length_le (by omega)]
      obtain ⟨e1, e2⟩ := text_parts t ((txtsL us).take (j - (txtL t).length)) 16777216 (by omega) (by omega)
      rw [take_step _ _ _ _ e2]
      exact ih (fun x hx => hus x (by simp [hx])) _ _ (by omega)

theorem list_cut (us : List ByteArray) (hl : us.length ≤ 12) (hus : ∀ t ∈ us, t.size ≤ 1000) (most : Int) (hm : 12 ≤ most) (j : Nat) (hj : j < (listL us).length) : listR (some ((listL us).take j)) most = ([], none) := by
  have hlen : (listL us).length = 1 + Oct.need us.length + (txtsL us).length := by rw [listL, List.length_append, Oct.putL_length]
  unfold listR
  by_cases h1 : j < 1 + Oct.need us.length
  · have e := numS_of_none _ most (num_cut us.length j (txtsL us) (by omega) h1)
    rw [listL, num_none_zero _ most e, e]; rfl
  · rw [listL, take_put_more _ _ _ (by omega)]
    have hm' : ¬ (most < 0 ∨ most < us.length) := by omega
    rw [numV_put us.length (by omega) _ most hm', numS_put us.length (by omega) _ most hm']
    exact takes_cut us hus [] _ (by omega)

theorem listL_pos (us : List ByteArray) : 0 < (listL us).length := by rw [listL, List.length_append, Oct.putL_length]; omega

end Go.Proofs.Ytnhpebhmihagbaa
