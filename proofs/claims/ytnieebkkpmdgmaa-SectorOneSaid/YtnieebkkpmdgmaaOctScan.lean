/-
  Package octet: what a scanner is in memory, and what its small calls do: Read, Sound, spoil, Left, End, Long, Num, Text.
-/
import Derived.Test.YtnieebkkpmdgmaaOctNum
import Derived.Lib.Hide
namespace Go.Proofs.Ytnieebkkpmdgmaa
open Go.RowKit

/-- The rest of a scanner, as a text. -/
def restB (st : Option (List UInt8)) : ByteArray := ⟨(st.getD []).toArray⟩
/-- Block b is a scanner: spoilt (none), or with the bytes l left (some l). -/
def Scn (b : Nat) (st : Option (List UInt8)) (w : World) : Prop :=
  (st.getD []).length ≤ maxLen ∧ w.heap[b]? = some (.cells #[.string (restB st), .bool st.isNone] 76 (0, 0))
theorem Scn.c0 {b : Nat} {st : Option (List UInt8)} {w : World} (h : Scn b st w) : w.cell? ⟨b, 0, none⟩ = some (.string (restB st)) := by
  unfold World.cell?; rw [h.2]; rfl
theorem Scn.c1 {b : Nat} {st : Option (List UInt8)} {w : World} (h : Scn b st w) : w.cell? ⟨b, 1, none⟩ = some (.bool st.isNone) := by
  unfold World.cell?; rw [h.2]; rfl
theorem Scn.fz {b : Nat} {st : Option (List UInt8)} {w : World} (h : Scn b st w) (o : Nat) : w.frozen? ⟨b, o, none⟩ = false := by
  unfold World.frozen?; rw [h.2]; simp
theorem Scn.lt {b : Nat} {st : Option (List UInt8)} {w : World} (h : Scn b st w) : b < w.heap.size := (Array.getElem?_eq_some_iff.1 h.2).1
theorem Scn.kept {b b' : Nat} {st : Option (List UInt8)} {w w' : World} (h : Scn b st w) (k : Only b' w w') (hb : b ≠ b') : Scn b st w' :=
  ⟨h.1, (k.block b h.lt hb).trans h.2⟩
theorem Scn.old {b B : Nat} {st : Option (List UInt8)} {w w' : World} (h : Scn b st w) (k : Below B w w') (hb : b < B) : Scn b st w' :=
  ⟨h.1, (k.block b hb).trans h.2⟩
theorem Scn.set0 {b : Nat} {l l' : List UInt8} {w : World} (h : Scn b (some l) w) (hl : l'.length ≤ maxLen) : Scn b (some l') (w.setCell ⟨b, 0, none⟩ (.string (restB (some l')))) := by
  refine ⟨hl, ?_⟩
  have := h.2
  simp [World.setCell, Array.getElem?_modify, this]
theorem Scn.set2 {b : Nat} {st : Option (List UInt8)} {w : World} (h : Scn b st w) : Scn b none ((w.setCell ⟨b, 0, none⟩ (.string ⟨#[]⟩)).setCell ⟨b, 1, none⟩ (.bool true)) := by
  refine ⟨by simp [maxLen], ?_⟩
  have := h.2
  simp [World.setCell, Array.getElem?_modify, this]
  rfl

theorem rest_size (st : Option (List UInt8)) : (restB st).size = (st.getD []).length := by simp [restB, ByteArray.size]

theorem sound_any (b : Nat) (st : Option (List UInt8)) (w : World) (h : Scn b st w) :
    Calls Try.prog 57 #[.pointer (some ⟨b, 0, none⟩)] w fun e w' => e = .returned (.bool st.isSome) ∧ w = w' := by
  have h1 := h.c1
  go_enter Try.func57, Try.ntmps57
  go_wp2
  go_ret
  exact ⟨rfl, rfl⟩

theorem spoil_any (b : Nat) (st : Option (List UInt8)) (w : World) (h : Scn b st w) :
    Calls Try.prog 56 #[.pointer (some ⟨b, 0, none⟩)] w fun e w' => e = .returned (.tuple #[]) ∧ Scn b none w' ∧ Only b w w' := by
  have h0 := h.c0
  have h1 := h.c1
  have f0 := h.fz 0
  have f1 := h.fz 1
  go_enter Try.func56, Try.ntmps56
  go_wp2
  go_end0
  exact ⟨rfl, h.set2, ((Only.refl _ _).setCell _ _).setCell _ _⟩

theorem Scn.alloc (l : List UInt8) (w : World) (hl : l.length ≤ maxLen) : Scn w.heap.size (some l) (w.alloc (.cells #[.string ⟨l.toArray⟩, .bool false] 76)) := by
  refine ⟨hl, ?_⟩
  show (w.heap.push _)[w.heap.size]? = _
  simp
  rfl

theorem read_any (l : List UInt8) (w : World) (hl : l.length ≤ maxLen) :
    Calls Try.prog 39 #[.string ⟨l.toArray⟩] w fun e w' => e = .returned (.pointer (some ⟨w.heap.size, 0, none⟩)) ∧ Scn w.heap.size (some l) w' ∧ Below w.heap.size w w' := by
  go_enter Try.func39, Try.ntmps39
  go_wp2
  go_ret
  exact ⟨rfl, Scn.alloc l w hl, (Below.refl _ _).alloc (Nat.le_refl _) _⟩

theorem left_any (b : Nat) (st : Option (List UInt8)) (w : World) (h : Scn b st w) :
    Calls Try.prog 55 #[.pointer (some ⟨b, 0, none⟩)] w fun e w' => e = .returned (.int .i64 (st.getD []).length) ∧ w = w' := by
  have h0 := h.c0
  have hs := rest_size st
  have HS := Lib.hid hs
  clear hs
  cases st with
  | none =>
    go_enter Try.func55, Try.ntmps55
    go_wp2_with (go_at_call 57; refine (sound_any _ _ _ h).mono ?_; rintro e w' ⟨rfl, rfl⟩)
    go_ret
    exact ⟨rfl, rfl⟩
  | some l =>
    go_enter Try.func55, Try.ntmps55
    go_wp2_with (go_at_call 57; refine (sound_any _ _ _ h).mono ?_; rintro e w' ⟨rfl, rfl⟩)
    go_ret
    exact ⟨ret_int (by rw [HS.out]), rfl⟩

/-- End tells 0 (OK), if the scanner is sound and nothing is left, else 10 (ErrForm). -/
def endV (st : Option (List UInt8)) : Int := if st = some [] then 0 else 10


end Go.Proofs.Ytnieebkkpmdgmaa
