/-
  The document's own scanner: what Text and List do.
-/
import Derived.Test.YtnieebkkpmdgmaaOctRText
namespace Go.Proofs.Ytnieebkkpmdgmaa
open Go.RowKit

theorem ret_str' {a b : ByteArray} (h : a = b) : Ending.returned (.string a) = .returned (.string b) := by rw [h]

set_option maxHeartbeats 1600000 in
theorem rtext_spoilt (b : Nat) (S : ByteArray) (st : Option (List UInt8)) (most : Int) (w : World) (hS : S.size ≤ 1099511627776) (h : RScn b S st w) (m1 : -9223372036854775808 ≤ most) (m2 : most ≤ 9223372036854775807) (hs : numS st most = none) :
    Calls Try.prog 41 #[.pointer (some ⟨b, 0, none⟩), .int .i64 most] w fun e w' => e = .returned (.string ⟨#[]⟩) ∧ RScn b S none w' ∧ Only b w w' := by
  have hN := rnum_any b S st most w hS h m1 m2
  rw [hs, num_none_zero st most hs] at hN
  have HN := Lib.hid hN
  clear hN hs h
  go_enter Try.func41, Try.ntmps41
  go_wp2_with (go_at_call 58; refine HN.out.mono ?_; rintro e w1 ⟨rfl, h1, o1⟩; obtain ⟨p, hp, hR⟩ := h1.isNone; have c2 := hR.c2; have f2 := hR.fz 2; have HR := Lib.hid hR; clear hR h1)
  go_quiet (fail)
  go_wp2
  go_ret
  exact ⟨rfl, (RAt.set2 (w := World.drewN _ _) HR.out).spoilt hp, (o1.drewN _).setCell _ _⟩

set_option maxHeartbeats 1600000 in
theorem rtext_short (b : Nat) (S : ByteArray) (st : Option (List UInt8)) (l : List UInt8) (n : Nat) (most : Int) (w : World) (hS : S.size ≤ 1099511627776) (h : RScn b S st w) (m1 : -9223372036854775808 ≤ most) (m2 : most ≤ 9223372036854775807) (hs : numS st most = some l) (hv : numV st most = n) (hl : l.length < n) :
    Calls Try.prog 41 #[.pointer (some ⟨b, 0, none⟩), .int .i64 most] w fun e w' => e = .returned (.string ⟨#[]⟩) ∧ RScn b S none w' ∧ Only b w w' := by
  have hN := rnum_any b S st most w hS h m1 m2
  rw [hs, hv] at hN
  have HN : Hid (Calls Try.prog 58 #[.pointer (some ⟨b, 0, none⟩), .int .i64 most] w fun e w' => e = .returned (.int .i64 n) ∧ (∃ p, p ≤ S.size ∧ l.length = S.size - p ∧ RAt b S p false w') ∧ Only b w w') :=
    hN.mono fun e w' ⟨he, h1, o1⟩ => ⟨he, by obtain ⟨p, hp, hl, hR⟩ := h1.isSome; exact ⟨p, hp, by rw [hl]; exact drop_len S p, hR⟩, o1⟩
  clear hN hs h hv
  go_enter Try.func41, Try.ntmps41
  go_wp2_with (go_at_call 58; refine HN.out.mono ?_; rintro e w1 ⟨rfl, ⟨p, hp, hlen, hR⟩, o1⟩; have c0 := hR.c0; have c1 := hR.c1; have c2 := hR.c2; have f2 := hR.fz 2; have k1 := IntWalk.i64_in ((S.size : Int) - (p : Int)) (by omega); have hd : decide ((S.size : Int) - (p : Int) < (n : Int)) = true := (by simp; omega); have HR := Lib.hid hR; have HL := Lib.hid hlen; clear hR hlen)
  go_quiet (fail)
  go_wp2
  go_ret
  exact ⟨rfl, (RAt.set2 (w := World.drewN _ _) HR.out).spoilt hp, (o1.drewN _).setCell _ _⟩

theorem take_drop_text (S : ByteArray) (p n : Nat) : S.extract p (p + n) = ⟨((S.data.toList.drop p).take n).toArray⟩ := by
  rw [Lib.extract_eq, show p + n - p = n by omega]

set_option maxHeartbeats 1600000 in
theorem rtext_ok (b : Nat) (S : ByteArray) (st : Option (List UInt8)) (l : List UInt8) (n : Nat) (most : Int) (w : World) (hS : S.size ≤ 1099511627776) (h : RScn b S st w) (m1 : -9223372036854775808 ≤ most) (m2 : most ≤ 9223372036854775807) (hs : numS st most = some l) (hv : numV st most = n) (hl : n ≤ l.length) :
    Calls Try.prog 41 #[.pointer (some ⟨b, 0, none⟩), .int .i64 most] w fun e w' => e = .returned (.string ⟨(l.take n).toArray⟩) ∧ RScn b S (some (l.drop n)) w' ∧ Only b w w' := by
  have hN := rnum_any b S st most w hS h m1 m2
  rw [hs, hv] at hN
  have HN : Hid (Calls Try.prog 58 #[.pointer (some ⟨b, 0, none⟩), .int .i64 most] w fun e w' => e = .returned (.int .i64 n) ∧ (∃ p, p ≤ S.size ∧ l = S.data.toList.drop p ∧ RAt b S p false w') ∧ Only b w w') :=
    hN.mono fun e w' ⟨he, h1, o1⟩ => ⟨he, h1.isSome, o1⟩
  clear hN hs h hv
  go_enter Try.func41, Try.ntmps41
  go_wp2_with (go_at_call 58; refine HN.out.mono ?_; rintro e w1 ⟨rfl, ⟨p, hp, hll, hR⟩, o1⟩; have hlen : l.length = S.size - p := (by rw [hll]; exact drop_len S p); have c0 := hR.c0; have c1 := hR.c1; have c2 := hR.c2; have f1 := hR.fz 1; have k1 := IntWalk.i64_in ((S.size : Int) - (p : Int)) (by omega); have hd : decide ((S.size : Int) - (p : Int) < (n : Int)) = false := (by simp; omega); have k2 := IntWalk.i64_in ((p : Int) + (n : Int)) (by omega); have k3 : (0 : Int) ≤ (p : Int) := (by omega); have k4 : (p : Int) ≤ (p : Int) + (n : Int) := (by omega); have k5 : (p : Int) + (n : Int) ≤ (S.size : Int) := (by omega); have k6 : ((p : Int) + (n : Int)).toNat = p + n := (by omega); have k7 : p + n ≤ S.size := (by omega); have HR := Lib.hid hR; have HL := Lib.hid hll; clear hR hlen hll)
  go_quiet (fail)
  go_wp2
  go_quiet (fail)
  go_wp2
  go_ret
  refine ⟨ret_str' (by rw [take_drop_text, ← HL.out]), ?_, (o1.drewN _).setCell _ _⟩
  have e : (p : Int) + (n : Int) = ((p + n : Nat) : Int) := by omega
  have e2 : l.drop n = S.data.toList.drop (p + n) := by rw [HL.out, List.drop_drop]
  rw [e, e2]
  exact (RAt.set1 (w := World.drewN _ _) HR.out (p + n)).sound k7

/-- WHAT THE DOCUMENT's Text DOES. -/
theorem rtext_any (b : Nat) (S : ByteArray) (st : Option (List UInt8)) (most : Int) (w : World) (hS : S.size ≤ 1099511627776) (h : RScn b S st w) (m1 : -9223372036854775808 ≤ most) (m2 : most ≤ 9223372036854775807) :
    Calls Try.prog 41 #[.pointer (some ⟨b, 0, none⟩), .int .i64 most] w fun e w' => e = .returned (.string ⟨(textV st most).toArray⟩) ∧ RScn b S (textS st most) w' ∧ Only b w w' := by
  cases hs : numS st most with
  | none =>
    have e1 : textV st most = [] := by unfold textV; rw [hs, num_none_zero st most hs]; rfl
    have e2 : textS st most = none := by unfold textS; rw [hs]; rfl
    rw [e1, e2]; exact rtext_spoilt b S st most w hS h m1 m2 hs
  | some l =>
    by_cases hl : l.length < numV st most
    · have e1 : textV st most = [] := by unfold textV; rw [hs, Option.getD_some, if_pos hl]
      have e2 : textS st most = none := by unfold textS; rw [hs, Option.bind_some, if_pos hl]
      rw [e1, e2]; exact rtext_short b S st l _ most w hS h m1 m2 hs rfl hl
    · have e1 : textV st most = l.take (numV st most) := by unfold textV; rw [hs, Option.getD_some, if_neg hl]
      have e2 : textS st most = some (l.drop (numV st most)) := by unfold textS; rw [hs, Option.bind_some, if_neg hl]
      rw [e1, e2]; exact rtext_ok b S st l _ most w hS h m1 m2 hs rfl (by omega)

end Go.Proofs.Ytnieebkkpmdgmaa
