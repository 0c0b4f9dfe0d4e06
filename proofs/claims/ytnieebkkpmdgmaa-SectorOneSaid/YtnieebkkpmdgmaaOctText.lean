/-
  Package octet: what Text of a scanner does, for every scanner and every bound.
-/
import Derived.Test.YtnieebkkpmdgmaaOctLong
import Derived.Test.YtnieebkkpmdgmaaOctBack
namespace Go.Proofs.Ytnieebkkpmdgmaa
open Go.RowKit

theorem long_none_zero (st : Option (List UInt8)) (h : longS st = none) : longV st = 0 := by
  unfold longS at h
  unfold longV
  cases st with
  | none => rfl
  | some l =>
    cases hn : Oct.num? l with
    | none => simp [hn]
    | some x => simp [hn] at h

theorem num_none_zero (st : Option (List UInt8)) (most : Int) (h : numS st most = none) : numV st most = 0 := by
  unfold numS at h
  unfold numV
  split
  · rfl
  · rename_i hc
    rw [if_neg hc] at h
    exact long_none_zero st h

theorem numV_le (st : Option (List UInt8)) (most : Int) (hm : most ≤ 9223372036854775807) : (numV st most : Int) ≤ 9223372036854775807 := by
  unfold numV
  split
  · decide
  · omega

theorem numS_len (st : Option (List UInt8)) (most : Int) : ((numS st most).getD []).length ≤ (st.getD []).length := by
  unfold numS
  split
  · simp
  · exact longS_le st

set_option maxHeartbeats 800000 in
theorem text_spoilt (b : Nat) (st : Option (List UInt8)) (most : Int) (w : World) (h : Scn b st w) (m1 : -9223372036854775808 ≤ most) (m2 : most ≤ 9223372036854775807) (hs : numS st most = none) :
    Calls Try.prog 40 #[.pointer (some ⟨b, 0, none⟩), .int .i64 most] w fun e w' => e = .returned (.string ⟨#[]⟩) ∧ Scn b none w' ∧ Only b w w' := by
  have hN := num_any b st most w h m1 m2
  rw [hs, num_none_zero st most hs] at hN
  have HN := Lib.hid hN
  clear hN hs h
  go_enter Try.func40, Try.ntmps40
  go_wp2_with (first
    | (go_at_call 54; refine (HN.out).mono ?_; rintro e w1 ⟨rfl, h1, o1⟩)
    | (go_at_call 55; refine (left_any _ _ _ h1).mono ?_; rintro e w2 ⟨rfl, rfl⟩)
    | (go_at_call 57; refine (sound_any _ _ _ h1).mono ?_; rintro e w2 ⟨rfl, rfl⟩))
  go_ret
  exact ⟨rfl, h1, o1⟩

set_option maxHeartbeats 800000 in
theorem text_short (b : Nat) (st : Option (List UInt8)) (l : List UInt8) (n : Nat) (most : Int) (w : World) (h : Scn b st w) (m1 : -9223372036854775808 ≤ most) (m2 : most ≤ 9223372036854775807) (hs : numS st most = some l) (hv : numV st most = n) (hl : l.length < n) :
    Calls Try.prog 40 #[.pointer (some ⟨b, 0, none⟩), .int .i64 most] w fun e w' => e = .returned (.string ⟨#[]⟩) ∧ Scn b none w' ∧ Only b w w' := by
  have hN := num_any b st most w h m1 m2
  have hb := numV_le st most m2
  rw [hs, hv] at hN
  rw [hv] at hb
  have HN := Lib.hid hN
  clear hN hs h hv
  go_enter Try.func40, Try.ntmps40
  go_wp2_with (first
    | (go_at_call 54; refine (HN.out).mono ?_; rintro e w1 ⟨rfl, h1, o1⟩)
    | (go_at_call 55; refine (left_any _ _ _ h1).mono ?_; rintro e w2 ⟨rfl, rfl⟩)
    | (go_at_call 56; refine (spoil_any _ _ _ h1).mono ?_; rintro e w2 ⟨rfl, h2, o2⟩)
    | (go_at_call 57; refine (sound_any _ _ _ h2).mono ?_; rintro e w2 ⟨rfl, rfl⟩))
  go_ret
  exact ⟨rfl, h2, o1.trans o2⟩

set_option maxHeartbeats 800000 in
theorem text_ok (b : Nat) (st : Option (List UInt8)) (l : List UInt8) (n : Nat) (most : Int) (w : World) (h : Scn b st w) (m1 : -9223372036854775808 ≤ most) (m2 : most ≤ 9223372036854775807) (hs : numS st most = some l) (hv : numV st most = n) (hl : n ≤ l.length) :
    Calls Try.prog 40 #[.pointer (some ⟨b, 0, none⟩), .int .i64 most] w fun e w' => e = .returned (.string ⟨(l.take n).toArray⟩) ∧ Scn b (some (l.drop n)) w' ∧ Only b w w' := by
  have hN := num_any b st most w h m1 m2
  have hb := numV_le st most m2
  rw [hs, hv] at hN
  rw [hv] at hb
  have HN := Lib.hid hN
  have HT := Lib.hid (take_rest l n)
  have HD := Lib.hid (drop_rest l n)
  have hsz : n ≤ (restB (some l)).size := by rw [rest_size]; exact hl
  have hn0 : (0 : Int) ≤ (n : Int) := by omega
  have hge : ¬ l.length < n := by omega
  clear hN hs h hv
  go_enter Try.func40, Try.ntmps40
  go_wp2_with (first
    | (go_at_call 54; refine (HN.out).mono ?_; rintro e w1 ⟨rfl, h1, o1⟩; have c1 := h1.c0; have f1 := h1.fz 0)
    | (go_at_call 55; refine (left_any _ _ _ h1).mono ?_; rintro e w2 ⟨rfl, rfl⟩)
    | (go_at_call 57; refine (sound_any _ _ _ h1).mono ?_; rintro e w2 ⟨rfl, rfl⟩))
  go_ret
  refine ⟨?_, ?_, o1.setCell _ _⟩
  · rw [← HT.out]; rfl
  · rw [HD.out]; exact h1.set0 (by have := h1.1; simp at this ⊢; omega)

/-- WHAT Text DOES, of every scanner, with every bound. -/
theorem text_any (b : Nat) (st : Option (List UInt8)) (most : Int) (w : World) (h : Scn b st w) (m1 : -9223372036854775808 ≤ most) (m2 : most ≤ 9223372036854775807) :
    Calls Try.prog 40 #[.pointer (some ⟨b, 0, none⟩), .int .i64 most] w fun e w' => e = .returned (.string ⟨(textV st most).toArray⟩) ∧ Scn b (textS st most) w' ∧ Only b w w' := by
  cases hs : numS st most with
  | none =>
    have e1 : textV st most = [] := by unfold textV; rw [hs, num_none_zero st most hs]; rfl
    have e2 : textS st most = none := by unfold textS; rw [hs]; rfl
    rw [e1, e2]; exact text_spoilt b st most w h m1 m2 hs
  | some l =>
    by_cases hl : l.length < numV st most
    · have e1 : textV st most = [] := by unfold textV; rw [hs, Option.getD_some, if_pos hl]
      have e2 : textS st most = none := by unfold textS; rw [hs, Option.bind_some, if_pos hl]
      rw [e1, e2]; exact text_short b st l _ most w h m1 m2 hs rfl hl
    · have e1 : textV st most = l.take (numV st most) := by unfold textV; rw [hs, Option.getD_some, if_neg hl]
      have e2 : textS st most = some (l.drop (numV st most)) := by unfold textS; rw [hs, Option.bind_some, if_neg hl]
      rw [e1, e2]; exact text_ok b st l _ most w h m1 m2 hs rfl (by omega)

end Go.Proofs.Ytnieebkkpmdgmaa
