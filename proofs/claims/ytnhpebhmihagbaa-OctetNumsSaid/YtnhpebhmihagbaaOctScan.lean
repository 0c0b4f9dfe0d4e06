/-
  Package octet: what a scanner is in memory, and what its small calls do: Read, Sound, spoil, Left, End, Long, Num, Text.
-/
import Derived.Test.YtnhpebhmihagbaaProg
import Derived.Test.YtnhpebhmihagbaaOctNum
import Derived.Lib.Hide
namespace Go.Proofs.Ytnhpebhmihagbaa
open Go.RowKit

/-- The rest of a scanner, as a text. -/
def restB (st : Option (List UInt8)) : ByteArray := ⟨(st.getD []).toArray⟩
/-- Block b is a scanner: spoilt (none), or with the bytes l left (some l). -/
def Scn (b : Nat) (st : Option (List UInt8)) (w : World) : Prop :=
  (st.getD []).length ≤ maxLen ∧ w.heap[b]? = some (.cells #[.string (restB st), .bool st.isNone] 54 (0, 0))
/-- No block that was there has turned, but b. -/
structure Only (b : Nat) (w w' : World) : Prop where
  os : w'.os = w.os
  tape : w'.tape = w.tape
  output : w'.output = w.output
  size : w.heap.size ≤ w'.heap.size
  block : ∀ k, k < w.heap.size → k ≠ b → w'.heap[k]? = w.heap[k]?

theorem Only.refl (b : Nat) (w : World) : Only b w w := ⟨rfl, rfl, rfl, Nat.le_refl _, fun _ _ _ => rfl⟩
theorem Only.trans {b : Nat} {u v w : World} (h : Only b u v) (k : Only b v w) : Only b u w :=
  ⟨k.os.trans h.os, k.tape.trans h.tape, k.output.trans h.output, Nat.le_trans h.size k.size, fun i hi hb => (k.block i (Nat.lt_of_lt_of_le hi h.size) hb).trans (h.block i hi hb)⟩
theorem Only.below {b B : Nat} {w w' : World} (h : Only b w w') (hb : B ≤ b) (hB : B ≤ w.heap.size) : Below B w w' :=
  ⟨h.os, h.tape, h.output, h.size, fun k hk => h.block k (by omega) (by omega)⟩
theorem Only.of_below {b : Nat} {w w' : World} (h : Below w.heap.size w w') : Only b w w' :=
  ⟨h.os, h.tape, h.output, h.size, fun k hk _ => h.block k hk⟩
theorem Only.setCell {b : Nat} {u w : World} (h : Only b u w) (o : Nat) (v : Value) : Only b u (w.setCell ⟨b, o, none⟩ v) :=
  h.trans ⟨rfl, rfl, rfl, by simp [World.setCell], fun k _ hb => Below.heap_setCell _ _ _ _ hb⟩

theorem Scn.c0 {b : Nat} {st : Option (List UInt8)} {w : World} (h : Scn b st w) : w.cell? ⟨b, 0, none⟩ = some (.string (restB st)) := by
  unfold World.cell?; rw [h.2]; rfl
theorem Scn.c1 {b : Nat} {st : Option (List UInt8)} {w : World} (h : Scn b st w) : w.cell? ⟨b, 1, none⟩ = some (.bool st.isNone) := by
  unfold World.cell?; rw [h.2]; rfl
theorem Scn.fz {b : Nat} {st : Option (List UInt8)} {w : World} (h : Scn b st w) (o : Nat) : w.frozen? ⟨b, o, none⟩ = false := by
  unfold World.frozen?; rw [h.2]; simp
theorem Scn.lt {b : Nat} {st : Option (List UInt8)} {w : World} (h : Scn b st w) : b < w.heap.size := (Array.getElem?_eq_some_iff.1 h.2).1
theorem Scn.kept {b b' : Nat} {st : Option (List UInt8)} {w w' : World} (h : Scn b st w) (k : Only b' w w') (hb : b ≠ b') : Scn b st w' :=
  ⟨h.1, (k.block b h.lt hb).trans h.2⟩
theorem Scn.old {b B : Nat} {st : Option (List UInt8)} {w w' : World} (h : Scn b st w) (k : Below B w w') (hb : b < B) : Scn b st w' :=
  ⟨h.1, (k.block b hb).trans h.2⟩
theorem Scn.set0 {b : Nat} {l l' : List UInt8} {w : World} (h : Scn b (some l) w) (hl : l'.length ≤ maxLen) : Scn b (some l') (w.setCell ⟨b, 0, none⟩ (.string (restB (some l')))) := by
  refine ⟨hl, ?_⟩
  have := h.2
  simp [World.setCell, Array.getElem?_modify, this]
theorem Scn.set2 {b : Nat} {st : Option (List UInt8)} {w : World} (h : Scn b st w) : Scn b none ((w.setCell ⟨b, 0, none⟩ (.string ⟨#[]⟩)).setCell ⟨b, 1, none⟩ (.bool true)) := by
  refine ⟨by simp [maxLen], ?_⟩
  have := h.2
  simp [World.setCell, Array.getElem?_modify, this]
  rfl

theorem rest_size (st : Option (List UInt8)) : (restB st).size = (st.getD []).length := by simp [restB, ByteArray.size]

theorem sound_any (b : Nat) (st : Option (List UInt8)) (w : World) (h : Scn b st w) :
    Calls Try.prog 33 #[.pointer (some ⟨b, 0, none⟩)] w fun e w' => e = .returned (.bool st.isSome) ∧ w = w' := by
  have h1 := h.c1
  go_enter Try.func33, Try.ntmps33
  go_wp2
  go_ret
  exact ⟨rfl, rfl⟩

theorem spoil_any (b : Nat) (st : Option (List UInt8)) (w : World) (h : Scn b st w) :
    Calls Try.prog 40 #[.pointer (some ⟨b, 0, none⟩)] w fun e w' => e = .returned (.tuple #[]) ∧ Scn b none w' ∧ Only b w w' := by
  have h0 := h.c0
  have h1 := h.c1
  have f0 := h.fz 0
  have f1 := h.fz 1
  go_enter Try.func40, Try.ntmps40
  go_wp2
  go_end0
  exact ⟨rfl, h.set2, ((Only.refl _ _).setCell _ _).setCell _ _⟩

theorem Scn.alloc (l : List UInt8) (w : World) (hl : l.length ≤ maxLen) : Scn w.heap.size (some l) (w.alloc (.cells #[.string ⟨l.toArray⟩, .bool false] 54)) := by
  refine ⟨hl, ?_⟩
  show (w.heap.push _)[w.heap.size]? = _
  simp
  rfl

theorem read_any (l : List UInt8) (w : World) (hl : l.length ≤ maxLen) :
    Calls Try.prog 21 #[.string ⟨l.toArray⟩] w fun e w' => e = .returned (.pointer (some ⟨w.heap.size, 0, none⟩)) ∧ Scn w.heap.size (some l) w' ∧ Below w.heap.size w w' := by
  go_enter Try.func21, Try.ntmps21
  go_wp2
  go_ret
  exact ⟨rfl, Scn.alloc l w hl, (Below.refl _ _).alloc (Nat.le_refl _) _⟩

theorem left_any (b : Nat) (st : Option (List UInt8)) (w : World) (h : Scn b st w) :
    Calls Try.prog 31 #[.pointer (some ⟨b, 0, none⟩)] w fun e w' => e = .returned (.int .i64 (st.getD []).length) ∧ w = w' := by
  have h0 := h.c0
  have hs := rest_size st
  have HS := Lib.hid hs
  clear hs
  cases st with
  | none =>
    go_enter Try.func31, Try.ntmps31
    go_wp2_with (go_at_call 33; refine (sound_any _ _ _ h).mono ?_; rintro e w' ⟨rfl, rfl⟩)
    go_ret
    exact ⟨rfl, rfl⟩
  | some l =>
    go_enter Try.func31, Try.ntmps31
    go_wp2_with (go_at_call 33; refine (sound_any _ _ _ h).mono ?_; rintro e w' ⟨rfl, rfl⟩)
    go_ret
    exact ⟨ret_int (by rw [HS.out]), rfl⟩

/-- End tells 0 (OK), if the scanner is sound and nothing is left, else 10 (ErrForm). -/
def endV (st : Option (List UInt8)) : Int := if st = some [] then 0 else 10

theorem end_any (b : Nat) (st : Option (List UInt8)) (w : World) (h : Scn b st w) :
    Calls Try.prog 34 #[.pointer (some ⟨b, 0, none⟩)] w fun e w' => e = .returned (.int .i64 (endV st)) ∧ w = w' := by
  have h0 := h.c0
  cases st with
  | none =>
    go_enter Try.func34, Try.ntmps34
    go_wp2_with (go_at_call 33; refine (sound_any _ _ _ h).mono ?_; rintro e w' ⟨rfl, rfl⟩)
    go_ret
    exact ⟨rfl, rfl⟩
  | some l =>
    have hs := rest_size (some l)
    by_cases hl : l = []
    · subst hl
      have ht : (restB (some [])).toList = [] := toList_nil hs
      clear hs
      go_enter Try.func34, Try.ntmps34
      go_wp2_with (go_at_call 33; refine (sound_any _ _ _ h).mono ?_; rintro e w' ⟨rfl, rfl⟩)
      go_ret
      exact ⟨rfl, rfl⟩
    · have hp : 0 < l.length := List.length_pos_iff.2 hl
      have ht := toList_ne (s := restB (some l)) (by rw [hs]; exact hp)
      obtain ⟨ht1, ht2⟩ := ht
      have hv : endV (some l) = 10 := if_neg (by simpa using hl)
      rw [hv]
      clear hs hp hl hv
      go_enter Try.func34, Try.ntmps34
      go_wp2_with (go_at_call 33; refine (sound_any _ _ _ h).mono ?_; rintro e w' ⟨rfl, rfl⟩)
      go_ret
      exact ⟨rfl, rfl⟩

end Go.Proofs.Ytnhpebhmihagbaa
