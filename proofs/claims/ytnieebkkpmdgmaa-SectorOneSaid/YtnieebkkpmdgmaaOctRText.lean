/-
  The document's own scanner: what Num, Left, End and Text do.
-/
import Derived.Test.YtnieebkkpmdgmaaOctRLong
namespace Go.Proofs.Ytnieebkkpmdgmaa
open Go.RowKit

theorem RScn.isNone {b : Nat} {S : ByteArray} {w : World} (h : RScn b S none w) : ∃ p, p ≤ S.size ∧ RAt b S p true w := by
  obtain ⟨p, bad, hp, hR, hs⟩ := h
  cases bad with
  | true => exact ⟨p, hp, hR⟩
  | false => simp at hs
theorem RScn.isSome {b : Nat} {S : ByteArray} {l : List UInt8} {w : World} (h : RScn b S (some l) w) : ∃ p, p ≤ S.size ∧ l = S.data.toList.drop p ∧ RAt b S p false w := by
  obtain ⟨p, bad, hp, hR, hs⟩ := h
  cases bad with
  | true => simp at hs
  | false => simp at hs; exact ⟨p, hp, hs, hR⟩
theorem RAt.spoilt {b : Nat} {S : ByteArray} {p : Nat} {w : World} (h : RAt b S p true w) (hp : p ≤ S.size) : RScn b S none w := ⟨p, true, hp, h, rfl⟩
theorem RAt.sound {b : Nat} {S : ByteArray} {p : Nat} {w : World} (h : RAt b S p false w) (hp : p ≤ S.size) : RScn b S (some (S.data.toList.drop p)) w := ⟨p, false, hp, h, rfl⟩
/-- Whatever the state is: a place, and a mark. -/
theorem RScn.at {b : Nat} {S : ByteArray} {st : Option (List UInt8)} {w : World} (h : RScn b S st w) : ∃ p bad, p ≤ S.size ∧ RAt b S p bad w := by
  obtain ⟨p, bad, hp, hR, _⟩ := h
  exact ⟨p, bad, hp, hR⟩

set_option maxHeartbeats 800000 in
theorem rnum_bad (b : Nat) (S : ByteArray) (st : Option (List UInt8)) (most : Int) (w : World) (hS : S.size ≤ 1099511627776) (h : RScn b S st w) (m1 : -9223372036854775808 ≤ most) (m2 : most ≤ 9223372036854775807) (hm : most < 0 ∨ most < longV st) :
    Calls Try.prog 58 #[.pointer (some ⟨b, 0, none⟩), .int .i64 most] w fun e w' => e = .returned (.int .i64 0) ∧ RScn b S none w' ∧ Only b w w' := by
  have hlt := longV_lt st
  have HL := Lib.hid (rlong_any b S st w hS h)
  clear h
  by_cases h0 : most < 0
  · clear hm
    go_enter Try.func58, Try.ntmps58
    go_wp2_with (go_at_call 67; refine HL.out.mono ?_; rintro e w1 ⟨rfl, h1, o1⟩; obtain ⟨p, bad, hp, hR⟩ := h1.at; have c2 := hR.c2; have f2 := hR.fz 2; have HR := Lib.hid hR; clear hR h1)
    go_ret
    exact ⟨rfl, HR.out.set2.spoilt hp, o1.setCell _ _⟩
  · have hx : most < longV st := by omega
    clear hm
    go_enter Try.func58, Try.ntmps58
    go_wp2_with (go_at_call 67; refine HL.out.mono ?_; rintro e w1 ⟨rfl, h1, o1⟩; obtain ⟨p, bad, hp, hR⟩ := h1.at; have c2 := hR.c2; have f2 := hR.fz 2; have HR := Lib.hid hR; clear hR h1)
    go_ret
    exact ⟨rfl, HR.out.set2.spoilt hp, o1.setCell _ _⟩

set_option maxHeartbeats 800000 in
theorem rnum_none (b : Nat) (S : ByteArray) (st : Option (List UInt8)) (most : Int) (w : World) (hS : S.size ≤ 1099511627776) (h : RScn b S st w) (m2 : most ≤ 9223372036854775807) (hm : 0 ≤ most) (hs : longS st = none) :
    Calls Try.prog 58 #[.pointer (some ⟨b, 0, none⟩), .int .i64 most] w fun e w' => e = .returned (.int .i64 0) ∧ RScn b S none w' ∧ Only b w w' := by
  have hL := rlong_any b S st w hS h
  rw [hs, long_none_zero st hs] at hL
  have HL := Lib.hid hL
  clear h hL hs
  go_enter Try.func58, Try.ntmps58
  go_wp2_with (go_at_call 67; refine HL.out.mono ?_; rintro e w1 ⟨rfl, h1, o1⟩; obtain ⟨p, hp, hR⟩ := h1.isNone; have c2 := hR.c2; have HR := Lib.hid hR; clear hR h1)
  go_ret
  exact ⟨rfl, HR.out.spoilt hp, o1⟩

set_option maxHeartbeats 800000 in
theorem rnum_some (b : Nat) (S : ByteArray) (st : Option (List UInt8)) (l : List UInt8) (most : Int) (w : World) (hS : S.size ≤ 1099511627776) (h : RScn b S st w) (m2 : most ≤ 9223372036854775807) (hm : 0 ≤ most) (hx : (longV st : Int) ≤ most) (hs : longS st = some l) :
    Calls Try.prog 58 #[.pointer (some ⟨b, 0, none⟩), .int .i64 most] w fun e w' => e = .returned (.int .i64 (longV st)) ∧ RScn b S (some l) w' ∧ Only b w w' := by
  have hL := rlong_any b S st w hS h
  rw [hs] at hL
  have HL := Lib.hid hL
  clear h hL hs
  go_enter Try.func58, Try.ntmps58
  go_wp2_with (go_at_call 67; refine HL.out.mono ?_; rintro e w1 ⟨rfl, h1, o1⟩; obtain ⟨p, hp, hl, hR⟩ := h1.isSome; have c2 := hR.c2; have HR := Lib.hid h1; clear hl hR h1)
  go_ret
  exact ⟨rfl, HR.out, o1⟩

/-- WHAT THE DOCUMENT's Num DOES. -/
theorem rnum_any (b : Nat) (S : ByteArray) (st : Option (List UInt8)) (most : Int) (w : World) (hS : S.size ≤ 1099511627776) (h : RScn b S st w) (m1 : -9223372036854775808 ≤ most) (m2 : most ≤ 9223372036854775807) :
    Calls Try.prog 58 #[.pointer (some ⟨b, 0, none⟩), .int .i64 most] w fun e w' => e = .returned (.int .i64 (numV st most)) ∧ RScn b S (numS st most) w' ∧ Only b w w' := by
  by_cases hm : most < 0 ∨ most < longV st
  · have e1 : numV st most = 0 := if_pos hm
    have e2 : numS st most = none := if_pos hm
    rw [e1, e2]; exact rnum_bad b S st most w hS h m1 m2 hm
  · have e1 : numV st most = longV st := if_neg hm
    have e2 : numS st most = longS st := if_neg hm
    rw [e1, e2]
    cases hs : longS st with
    | none => rw [long_none_zero st hs]; exact rnum_none b S st most w hS h m2 (by omega) hs
    | some l => exact rnum_some b S st l most w hS h m2 (by omega) (by omega) hs



theorem RScn.c2 {b : Nat} {S : ByteArray} {st : Option (List UInt8)} {w : World} (h : RScn b S st w) : w.cell? ⟨b, 2, none⟩ = some (.bool st.isNone) := by
  obtain ⟨p, bad, _, hR, hs⟩ := h
  rw [hR.c2, hs]
  cases bad <;> rfl
theorem RScn.len {b : Nat} {S : ByteArray} {st : Option (List UInt8)} {w : World} (h : RScn b S st w) : (st.getD []).length ≤ S.size := by
  obtain ⟨p, bad, _, _, hs⟩ := h
  rw [hs]; cases bad <;> simp
theorem RScn.alloc (S : ByteArray) (w : World) : RScn w.heap.size S (some S.data.toList) (w.alloc (.cells #[.string S, .int .i64 0, .bool false] 69)) := by
  refine ⟨0, false, Nat.zero_le _, ?_, by simp⟩
  show (w.heap.push _)[w.heap.size]? = _
  simp

end Go.Proofs.Ytnieebkkpmdgmaa
