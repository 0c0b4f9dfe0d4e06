/-
  Package octet: what Long, Num and Text of a scanner do, for every scanner and every bound.
-/
import Derived.Test.YtnieebkkpmdgmaaOctScan
namespace Go.Proofs.Ytnieebkkpmdgmaa
open Go.RowKit

/-- What Long tells, and what it leaves. -/
def longV (st : Option (List UInt8)) : Nat := ((st.bind Oct.num?).map (·.1)).getD 0
def longS (st : Option (List UInt8)) : Option (List UInt8) := st.bind fun l => (Oct.num? l).map fun x => l.drop x.2
/-- What Num tells, and what it leaves. -/
def numV (st : Option (List UInt8)) (most : Int) : Nat := if most < 0 ∨ most < longV st then 0 else longV st
def numS (st : Option (List UInt8)) (most : Int) : Option (List UInt8) := if most < 0 ∨ most < longV st then none else longS st
/-- What Text tells, and what it leaves. -/
def textV (st : Option (List UInt8)) (most : Int) : List UInt8 := if ((numS st most).getD []).length < numV st most then [] else ((numS st most).getD []).take (numV st most)
def textS (st : Option (List UInt8)) (most : Int) : Option (List UInt8) := (numS st most).bind fun l => if l.length < numV st most then none else some (l.drop (numV st most))

theorem num_bounds {l : List UInt8} {n k : Nat} (h : Oct.num? l = some (n, k)) : n < 18446744073709551616 ∧ k ≤ l.length := by
  cases l with
  | nil => cases h
  | cons b r =>
    unfold Oct.num? at h
    simp only at h
    split at h
    · cases h
    · rename_i hc
      simp only [Option.some.injEq, Prod.mk.injEq] at h
      obtain ⟨rfl, rfl⟩ := h
      have h1 := Oct.val_lt b.toNat (r.take b.toNat) (by rw [List.length_take]; omega)
      have h2 : 256 ^ b.toNat ≤ 256 ^ 8 := Nat.pow_le_pow_right (by decide) (by omega)
      exact ⟨by omega, by simp only [List.length_cons]; omega⟩

theorem longV_lt (st : Option (List UInt8)) : longV st < 18446744073709551616 := by
  unfold longV
  cases st with
  | none => decide
  | some l =>
    cases h : Oct.num? l with
    | none => simp [h]
    | some x => simp [h]; exact (num_bounds (n := x.1) (k := x.2) h).1

theorem longS_le (st : Option (List UInt8)) : ((longS st).getD []).length ≤ (st.getD []).length := by
  unfold longS
  cases st with
  | none => simp
  | some l =>
    cases h : Oct.num? l with
    | none => simp [h]
    | some x => simp [h]

theorem drop_rest (l : List UInt8) (k : Nat) : (restB (some l)).extract k (restB (some l)).size = restB (some (l.drop k)) := by
  rw [Lib.extract_eq, rest_size]
  simp [restB]
  rw [List.take_of_length_le (by simp)]

theorem take_rest (l : List UInt8) (k : Nat) : (restB (some l)).extract 0 k = ⟨(l.take k).toArray⟩ := by
  rw [Lib.extract_eq]
  simp [restB]

theorem rest_data (l : List UInt8) : (restB (some l)).data.toList = l := by simp [restB]

set_option maxHeartbeats 800000 in
theorem long_some (b : Nat) (l : List UInt8) (n k : Nat) (w : World) (h : Scn b (some l) w) (hn : Oct.num? l = some (n, k)) :
    Calls Try.prog 66 #[.pointer (some ⟨b, 0, none⟩)] w fun e w' => e = .returned (.int .u64 n) ∧ Scn b (some (l.drop k)) w' ∧ Only b w w' := by
  have h0 := h.c0
  have f0 := h.fz 0
  have hb := num_bounds hn
  have hk1 : (0 : Int) ≤ (k : Int) := by omega
  have hk2 : k ≤ (restB (some l)).size := by rw [rest_size]; exact hb.2
  have hm : (restB (some l)).size ≤ maxLen := by rw [rest_size]; exact h.1
  have HN := Lib.hid hn
  have HD := Lib.hid (drop_rest l k)
  clear hn hb
  go_enter Try.func66, Try.ntmps66
  go_wp2_with (first
    | (go_at_call 57; refine (sound_any _ _ _ h).mono ?_; rintro e w' ⟨rfl, rfl⟩)
    | (go_at_call 74; refine (number_some _ _ hm n k (by rw [rest_data]; exact HN.out)).mono ?_; rintro e w' ⟨rfl, rfl⟩))
  go_ret
  refine ⟨rfl, ?_, (Only.refl _ _).setCell _ _⟩
  rw [HD.out]
  exact h.set0 (by have := h.1; simp at this ⊢; omega)

set_option maxHeartbeats 800000 in
theorem long_none (b : Nat) (l : List UInt8) (w : World) (h : Scn b (some l) w) (hn : Oct.num? l = none) :
    Calls Try.prog 66 #[.pointer (some ⟨b, 0, none⟩)] w fun e w' => e = .returned (.int .u64 0) ∧ Scn b none w' ∧ Only b w w' := by
  have h0 := h.c0
  have hm : (restB (some l)).size ≤ maxLen := by rw [rest_size]; exact h.1
  have HN := Lib.hid hn
  clear hn
  go_enter Try.func66, Try.ntmps66
  go_wp2_with (first
    | (go_at_call 57; refine (sound_any _ _ _ h).mono ?_; rintro e w' ⟨rfl, rfl⟩)
    | (go_at_call 56; refine (spoil_any _ _ _ h).mono ?_; rintro e w' ⟨rfl, hs, ho⟩)
    | (go_at_call 74; refine (number_none _ _ hm (by rw [rest_data]; exact HN.out)).mono ?_; rintro e w' ⟨rfl, rfl⟩))
  go_ret
  exact ⟨rfl, hs, ho⟩

theorem long_spoilt (b : Nat) (w : World) (h : Scn b none w) :
    Calls Try.prog 66 #[.pointer (some ⟨b, 0, none⟩)] w fun e w' => e = .returned (.int .u64 0) ∧ w = w' := by
  go_enter Try.func66, Try.ntmps66
  go_wp2_with (first
    | (go_at_call 57; refine (sound_any _ _ _ h).mono ?_; rintro e w' ⟨rfl, rfl⟩))
  go_ret
  exact ⟨rfl, rfl⟩

/-- WHAT Long DOES, of every scanner. -/
theorem long_any (b : Nat) (st : Option (List UInt8)) (w : World) (h : Scn b st w) :
    Calls Try.prog 66 #[.pointer (some ⟨b, 0, none⟩)] w fun e w' => e = .returned (.int .u64 (longV st)) ∧ Scn b (longS st) w' ∧ Only b w w' := by
  cases st with
  | none => exact (long_spoilt b w h).mono fun e w' ⟨he, hw⟩ => ⟨he, hw ▸ h, hw ▸ Only.refl _ _⟩
  | some l =>
    cases hn : Oct.num? l with
    | none =>
      refine (long_none b l w h hn).mono fun e w' ⟨he, hs, ho⟩ => ⟨?_, ?_, ho⟩
      · simp [longV, hn, he]
      · simpa [longS, hn] using hs
    | some x =>
      refine (long_some b l x.1 x.2 w h hn).mono fun e w' ⟨he, hs, ho⟩ => ⟨?_, ?_, ho⟩
      · simp [longV, hn, he]
      · simpa [longS, hn] using hs

set_option maxHeartbeats 800000 in
theorem num_any (b : Nat) (st : Option (List UInt8)) (most : Int) (w : World) (h : Scn b st w) (m1 : -9223372036854775808 ≤ most) (m2 : most ≤ 9223372036854775807) :
    Calls Try.prog 54 #[.pointer (some ⟨b, 0, none⟩), .int .i64 most] w fun e w' => e = .returned (.int .i64 (numV st most)) ∧ Scn b (numS st most) w' ∧ Only b w w' := by
  have hlt := longV_lt st
  by_cases hc : most < 0
  · have e1 : numV st most = 0 := if_pos (Or.inl hc)
    have e2 : numS st most = none := if_pos (Or.inl hc)
    rw [e1, e2]
    clear e1 e2
    go_enter Try.func54, Try.ntmps54
    go_wp2_with (first
      | (go_at_call 66; refine (long_any _ _ _ h).mono ?_; rintro e w1 ⟨rfl, h1, o1⟩)
      | (go_at_call 56; refine (spoil_any _ _ _ h1).mono ?_; rintro e w2 ⟨rfl, h2, o2⟩))
    go_ret
    exact ⟨rfl, h2, o1.trans o2⟩
  · by_cases hm : most < longV st
    · have e1 : numV st most = 0 := if_pos (Or.inr hm)
      have e2 : numS st most = none := if_pos (Or.inr hm)
      rw [e1, e2]
      clear e1 e2
      go_enter Try.func54, Try.ntmps54
      go_wp2_with (first
        | (go_at_call 66; refine (long_any _ _ _ h).mono ?_; rintro e w1 ⟨rfl, h1, o1⟩)
        | (go_at_call 56; refine (spoil_any _ _ _ h1).mono ?_; rintro e w2 ⟨rfl, h2, o2⟩))
      go_ret
      exact ⟨rfl, h2, o1.trans o2⟩
    · have e1 : numV st most = longV st := if_neg (by omega)
      have e2 : numS st most = longS st := if_neg (by omega)
      rw [e1, e2]
      clear e1 e2
      go_enter Try.func54, Try.ntmps54
      go_wp2_with (first
        | (go_at_call 66; refine (long_any _ _ _ h).mono ?_; rintro e w1 ⟨rfl, h1, o1⟩)
        | (go_at_call 56; refine (spoil_any _ _ _ h1).mono ?_; rintro e w2 ⟨rfl, h2, o2⟩))
      go_ret
      exact ⟨rfl, h1, o1⟩

end Go.Proofs.Ytnieebkkpmdgmaa
