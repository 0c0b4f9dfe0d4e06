/-
  The document's own scanner (package scriniumref01): what it is in memory, and what Long, Num, Text, Left and End do: the same as package octet's.
-/
import Derived.Test.YtnieebkkpmdgmaaOctText
import Derived.Test.YtnieebkkpmdgmaaOctRef
import Derived.Deep.QuietTactic
import Derived.BigQuiet
namespace Go.Proofs.Ytnieebkkpmdgmaa
open Go.RowKit

/-- Block b is the document's scanner of the text S, at a place, spoilt or not. -/
def RAt (b : Nat) (S : ByteArray) (p : Nat) (bad : Bool) (w : World) : Prop :=
  w.heap[b]? = some (.cells #[.string S, .int .i64 p, .bool bad] 69 (0, 0))
/-- The same, told by what is left (none: spoilt). -/
def RScn (b : Nat) (S : ByteArray) (st : Option (List UInt8)) (w : World) : Prop :=
  ∃ p bad, p ≤ S.size ∧ RAt b S p bad w ∧ st = if bad then none else some (S.data.toList.drop p)

theorem RAt.c0 {b : Nat} {S : ByteArray} {p : Nat} {bad : Bool} {w : World} (h : RAt b S p bad w) : w.cell? ⟨b, 0, none⟩ = some (.string S) := by unfold World.cell?; rw [h]; rfl
theorem RAt.c1 {b : Nat} {S : ByteArray} {p : Nat} {bad : Bool} {w : World} (h : RAt b S p bad w) : w.cell? ⟨b, 1, none⟩ = some (.int .i64 p) := by unfold World.cell?; rw [h]; rfl
theorem RAt.c2 {b : Nat} {S : ByteArray} {p : Nat} {bad : Bool} {w : World} (h : RAt b S p bad w) : w.cell? ⟨b, 2, none⟩ = some (.bool bad) := by unfold World.cell?; rw [h]; rfl
theorem RAt.fz {b : Nat} {S : ByteArray} {p : Nat} {bad : Bool} {w : World} (h : RAt b S p bad w) (o : Nat) : w.frozen? ⟨b, o, none⟩ = false := by unfold World.frozen?; rw [h]; simp
theorem RAt.lt {b : Nat} {S : ByteArray} {p : Nat} {bad : Bool} {w : World} (h : RAt b S p bad w) : b < w.heap.size := (Array.getElem?_eq_some_iff.1 h).1
theorem RAt.set2 {b : Nat} {S : ByteArray} {p : Nat} {bad : Bool} {w : World} (h : RAt b S p bad w) : RAt b S p true (w.setCell ⟨b, 2, none⟩ (.bool true)) := by
  unfold RAt at *
  simp [World.setCell, Array.getElem?_modify, h]
theorem RAt.set1 {b : Nat} {S : ByteArray} {p : Nat} {bad : Bool} {w : World} (h : RAt b S p bad w) (q : Nat) : RAt b S q bad (w.setCell ⟨b, 1, none⟩ (.int .i64 q)) := by
  unfold RAt at *
  simp [World.setCell, Array.getElem?_modify, h]
theorem RScn.lt {b : Nat} {S : ByteArray} {st : Option (List UInt8)} {w : World} (h : RScn b S st w) : b < w.heap.size := by obtain ⟨p, bad, _, h, _⟩ := h; exact h.lt
theorem RScn.old {b B : Nat} {S : ByteArray} {st : Option (List UInt8)} {w w' : World} (h : RScn b S st w) (k : Below B w w') (hb : b < B) : RScn b S st w' := by
  obtain ⟨p, bad, hp, h, hs⟩ := h
  exact ⟨p, bad, hp, (k.block b hb).trans h, hs⟩
theorem RScn.kept {b b' : Nat} {S : ByteArray} {st : Option (List UInt8)} {w w' : World} (h : RScn b S st w) (k : Only b' w w') (hb : b ≠ b') : RScn b S st w' := by
  obtain ⟨p, bad, hp, h, hs⟩ := h
  exact ⟨p, bad, hp, (k.block b h.lt hb).trans h, hs⟩
theorem Only.drewN {b : Nat} {u w : World} (h : Only b u w) (n : Nat) : Only b u (w.drewN n) := h.trans ⟨rfl, rfl, rfl, Nat.le_refl _, fun _ _ _ => rfl⟩

/-- What stands at a place of a text. -/
theorem drop_at (S : ByteArray) (p : Nat) (h : p < S.size) : S.data.toList.drop p = S[p] :: S.data.toList.drop (p + 1) := by
  rw [List.drop_eq_getElem_cons (by rw [← Lib.size_eq]; exact h)]
  rfl
theorem drop_len (S : ByteArray) (p : Nat) : (S.data.toList.drop p).length = S.size - p := by rw [List.length_drop, ← Lib.size_eq]
theorem drop_head (S : ByteArray) (p : Nat) (h : p + 1 < S.size) : (S.data.toList.drop (p + 1)).headD 0 = S[p + 1] := by rw [drop_at S (p + 1) h]; rfl
theorem num_at (S : ByteArray) (p : Nat) (h : p < S.size) : Oct.num? (S.data.toList.drop p) =
    if 8 < S[p].toNat ∨ S.size - (p + 1) < S[p].toNat ∨ (0 < S[p].toNat ∧ (S.data.toList.drop (p + 1)).headD 0 = 0) then none else some (Oct.val ((S.data.toList.drop (p + 1)).take S[p].toNat), 1 + S[p].toNat) := by
  rw [drop_at S p h]
  simp only [Oct.num?]
  rw [drop_len]

theorem num_end (S : ByteArray) (p : Nat) (h : S.size ≤ p) : Oct.num? (S.data.toList.drop p) = none := by
  have : S.data.toList.drop p = [] := List.eq_nil_of_length_eq_zero (by rw [drop_len]; omega)
  rw [this]; rfl

set_option maxHeartbeats 1600000 in
theorem rlong_bad (b : Nat) (S : ByteArray) (p : Nat) (w : World) (h : RAt b S p true w) :
    Calls Try.prog 67 #[.pointer (some ⟨b, 0, none⟩)] w fun e w' => e = .returned (.int .u64 0) ∧ RAt b S p true w' ∧ Only b w w' := by
  have c2 := h.c2
  have f2 := h.fz 2
  have H := Lib.hid h
  clear h
  go_enter Try.func67, Try.ntmps67
  go_wp2
  go_quiet (fail)
  go_wp2
  go_ret
  exact ⟨rfl, RAt.set2 (w := w.drewN _) H.out, ((Only.refl b w).drewN _).setCell _ _⟩

set_option maxHeartbeats 1600000 in
theorem rlong_end (b : Nat) (S : ByteArray) (p : Nat) (w : World) (h : RAt b S p false w) (_hS : S.size ≤ 1099511627776) (hp : S.size ≤ p) (_hp2 : p ≤ 1099511627776) :
    Calls Try.prog 67 #[.pointer (some ⟨b, 0, none⟩)] w fun e w' => e = .returned (.int .u64 0) ∧ RAt b S p true w' ∧ Only b w w' := by
  have c0 := h.c0
  have c1 := h.c1
  have c2 := h.c2
  have f2 := h.fz 2
  have H := Lib.hid h
  have hd : decide (S.size ≤ p) = true := by simpa using hp
  clear h
  go_enter Try.func67, Try.ntmps67
  go_wp2
  go_quiet (fail)
  go_wp2
  go_ret
  exact ⟨rfl, RAt.set2 (w := w.drewN _) H.out, ((Only.refl b w).drewN _).setCell _ _⟩

set_option maxHeartbeats 1600000 in
theorem rlong_a (b : Nat) (S : ByteArray) (p : Nat) (w : World) (h : RAt b S p false w) (_hS : S.size ≤ 1099511627776) (hp : p < S.size) (h8 : (8 : Int) < S[p].toNat) :
    Calls Try.prog 67 #[.pointer (some ⟨b, 0, none⟩)] w fun e w' => e = .returned (.int .u64 0) ∧ RAt b S p true w' ∧ Only b w w' := by
  have c0 := h.c0
  have c1 := h.c1
  have c2 := h.c2
  have f2 := h.fz 2
  have H := Lib.hid h
  have hd : decide (S.size ≤ p) = false := by simpa using hp
  have hu : S[p].toNat < 256 := S[p].toNat_lt
  have hp0 : (0 : Int) ≤ (p : Int) := by omega
  have hp1 : (p : Int) < (S.size : Int) := by omega
  have k0 := IntWalk.i64_in (S[p].toNat : Int) (by omega)
  have h8' : decide ((8 : Int) < S[p].toNat) = true := by simpa using h8
  clear h
  go_enter Try.func67, Try.ntmps67
  go_wp2
  go_quiet (fail)
  go_wp2
  go_quiet (fail)
  go_wp2
  go_quiet (fail)
  go_wp2
  go_ret
  exact ⟨rfl, RAt.set2 (w := World.drewN _ _) H.out, ((Only.refl b w).drewN _).setCell _ _⟩

set_option maxHeartbeats 1600000 in
theorem rlong_b (b : Nat) (S : ByteArray) (p : Nat) (w : World) (h : RAt b S p false w) (hS : S.size ≤ 1099511627776) (hp : p < S.size) (h8 : (S[p].toNat : Int) ≤ 8) (hl : (S.size : Int) - p - 1 < S[p].toNat) :
    Calls Try.prog 67 #[.pointer (some ⟨b, 0, none⟩)] w fun e w' => e = .returned (.int .u64 0) ∧ RAt b S p true w' ∧ Only b w w' := by
  have c0 := h.c0
  have c1 := h.c1
  have c2 := h.c2
  have f2 := h.fz 2
  have H := Lib.hid h
  have hd : decide (S.size ≤ p) = false := by simpa using hp
  have hu : S[p].toNat < 256 := S[p].toNat_lt
  have hp0 : (0 : Int) ≤ (p : Int) := by omega
  have hp1 : (p : Int) < (S.size : Int) := by omega
  have k0 := IntWalk.i64_in (S[p].toNat : Int) (by omega)
  have k1 := IntWalk.i64_in ((S.size : Int) - (p : Int)) (by omega)
  have k2 := IntWalk.i64_in ((S.size : Int) - (p : Int) - 1) (by omega)
  have h8' : decide ((8 : Int) < S[p].toNat) = false := by simpa using h8
  have hl' : decide ((S.size : Int) - p - 1 < S[p].toNat) = true := by simpa using hl
  clear h
  go_enter Try.func67, Try.ntmps67
  go_wp2
  go_quiet (fail)
  go_wp2
  go_quiet (fail)
  go_wp2
  go_quiet (fail)
  go_wp2
  go_ret
  exact ⟨rfl, RAt.set2 (w := World.drewN _ _) H.out, ((Only.refl b w).drewN _).setCell _ _⟩

set_option maxHeartbeats 1600000 in
theorem rlong_c (b : Nat) (S : ByteArray) (p : Nat) (w : World) (h : RAt b S p false w) (hS : S.size ≤ 1099511627776) (hp : p < S.size) (h8 : (S[p].toNat : Int) ≤ 8) (hl : ¬ (S.size : Int) - p - 1 < S[p].toNat) (hk : (0 : Int) < S[p].toNat) (h1 : p + 1 < S.size) (hz : ((S[p + 1].toNat : Int) == 0) = true) :
    Calls Try.prog 67 #[.pointer (some ⟨b, 0, none⟩)] w fun e w' => e = .returned (.int .u64 0) ∧ RAt b S p true w' ∧ Only b w w' := by
  have c0 := h.c0
  have c1 := h.c1
  have c2 := h.c2
  have f2 := h.fz 2
  have H := Lib.hid h
  have hd : decide (S.size ≤ p) = false := by simpa using hp
  have hu : S[p].toNat < 256 := S[p].toNat_lt
  have hp0 : (0 : Int) ≤ (p : Int) := by omega
  have hp1 : (p : Int) < (S.size : Int) := by omega
  have k0 := IntWalk.i64_in (S[p].toNat : Int) (by omega)
  have k1 := IntWalk.i64_in ((S.size : Int) - (p : Int)) (by omega)
  have k2 := IntWalk.i64_in ((S.size : Int) - (p : Int) - 1) (by omega)
  have k3 := IntWalk.i64_in ((p : Int) + 1) (by omega)
  have k4 : (0 : Int) ≤ (p : Int) + 1 := by omega
  have k5 : ((p : Int) + 1).toNat = p + 1 := by omega
  have h8' : decide ((8 : Int) < S[p].toNat) = false := by simpa using h8
  have hl' : decide ((S.size : Int) - p - 1 < S[p].toNat) = false := by simpa using hl
  have hk' : decide ((0 : Int) < S[p].toNat) = true := by simpa using hk
  have hk2 : decide (0 < S[p].toNat) = true := by simpa using hk
  have h1' : (p : Int) + 1 < (S.size : Int) := by omega
  clear h
  go_enter Try.func67, Try.ntmps67
  go_wp2
  go_quiet (fail)
  go_wp2
  go_quiet (fail)
  go_wp2
  go_quiet (fail)
  go_wp2
  go_ret
  exact ⟨rfl, RAt.set2 (w := World.drewN _ _) H.out, ((Only.refl b w).drewN _).setCell _ _⟩

end Go.Proofs.Ytnieebkkpmdgmaa
