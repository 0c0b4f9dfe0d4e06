/-
  The zero disk: no sectors, no power.
-/
import Derived.Test.YtnieebkkpmdgmaaDiskIn
namespace Go.Proofs.Ytnieebkkpmdgmaa
open Go.RowKit Dsk

/-- Block p is a zero disk. -/
def ZeroAt (p : Nat) (w : World) : Prop := w.heap[p]? = some (.cells #[.slice none 0 0, .slice none 0 0, .bool false, .bool false, .int .i64 0, .int .i64 0] 58 (0, 0))
section
variable {p : Nat} {w w' : World}
theorem ZeroAt.old (h : ZeroAt p w) (hb : Below w.heap.size w w') : ZeroAt p w' := (hb.block p (Array.getElem?_eq_some_iff.1 h).1).trans h
theorem ZeroAt.c0 (h : ZeroAt p w) : w.cell? ⟨p, 0, none⟩ = some (.slice none 0 0) := cell_of h 0
theorem ZeroAt.c1 (h : ZeroAt p w) : w.cell? ⟨p, 1, none⟩ = some (.slice none 0 0) := cell_of h 1
theorem ZeroAt.c2 (h : ZeroAt p w) : w.cell? ⟨p, 2, none⟩ = some (.bool false) := cell_of h 2
theorem ZeroAt.c3 (h : ZeroAt p w) : w.cell? ⟨p, 3, none⟩ = some (.bool false) := cell_of h 3
theorem ZeroAt.fz (h : ZeroAt p w) (i : Nat) : w.frozen? ⟨p, i, none⟩ = false := fz_of h i
end
theorem sectors_z (p : Nat) (w : World) (h : ZeroAt p w) :
    Calls Try.prog 18 #[.pointer (some ⟨p, 0, none⟩)] w fun e w' => e = .returned (.int .i64 0) ∧ w = w' := by
  have h0 := h.c0
  go_enter Try.func18, Try.ntmps18
  go_wp2
  go_ret
  exact ⟨rfl, rfl⟩
theorem has_z (p : Nat) (at_ : Int) (w : World) (h : ZeroAt p w) :
    Calls Try.prog 48 #[.pointer (some ⟨p, 0, none⟩), .int .i64 at_] w fun e w' => e = .returned (.bool false) ∧ w = w' := by
  by_cases h0 : 0 ≤ at_
  · go_enter Try.func48, Try.ntmps48
    go_wp2_with (go_at_call 18; refine (sectors_z _ _ h).mono ?_; rintro e w' ⟨rfl, rfl⟩)
    go_ret
    exact ⟨by show Ending.returned (.bool (decide (at_ < 0))) = _; rw [decide_eq_false (by omega)], rfl⟩
  · go_enter Try.func48, Try.ntmps48
    go_wp2
    go_ret
    exact ⟨rfl, rfl⟩
theorem on_z (p : Nat) (w : World) (h : ZeroAt p w) :
    Calls Try.prog 29 #[.pointer (some ⟨p, 0, none⟩)] w fun e w' => e = .returned (.bool false) ∧ w = w' := by
  have h0 := h.c2
  go_enter Try.func29, Try.ntmps29
  go_wp2
  go_ret
  exact ⟨rfl, rfl⟩
theorem peek_nil (at_ : Int) (w : World) :
    Calls Try.prog 34 #[.pointer none, .int .i64 at_] w fun e w' => e = .returned (.string ⟨#[]⟩) ∧ w = w' := by
  go_enter Try.func34, Try.ntmps34
  go_wp2_with (go_at_call 48; refine (has_nil _ _).mono ?_; rintro e w' ⟨rfl, rfl⟩)
  go_ret
  exact ⟨rfl, rfl⟩
theorem peek_z (p : Nat) (at_ : Int) (w : World) (h : ZeroAt p w) :
    Calls Try.prog 34 #[.pointer (some ⟨p, 0, none⟩), .int .i64 at_] w fun e w' => e = .returned (.string ⟨#[]⟩) ∧ w = w' := by
  go_enter Try.func34, Try.ntmps34
  go_wp2_with (go_at_call 48; refine (has_z _ _ _ h).mono ?_; rintro e w' ⟨rfl, rfl⟩)
  go_ret
  exact ⟨rfl, rfl⟩
theorem read_z (p : Nat) (at_ : Int) (w : World) (h : ZeroAt p w) :
    Calls Try.prog 32 #[.pointer (some ⟨p, 0, none⟩), .int .i64 at_] w fun e w' => e = .returned (.tuple #[.string ⟨#[]⟩, .int .i64 1]) ∧ w = w' := by
  go_enter Try.func32, Try.ntmps32
  go_wp2_with (go_at_call 48; refine (has_z _ _ _ h).mono ?_; rintro e w' ⟨rfl, rfl⟩)
  go_ret2
  exact ⟨rfl, rfl⟩
theorem write_z (p : Nat) (at_ : Int) (s : ByteArray) (w : World) (h : ZeroAt p w) :
    Calls Try.prog 27 #[.pointer (some ⟨p, 0, none⟩), .int .i64 at_, .string s] w fun e w' => e = .returned (.int .i64 1) ∧ w = w' := by
  go_enter Try.func27, Try.ntmps27
  go_wp2_with (go_at_call 48; refine (has_z _ _ _ h).mono ?_; rintro e w' ⟨rfl, rfl⟩)
  go_ret
  exact ⟨rfl, rfl⟩
set_option maxRecDepth 100000 in
theorem settle_z (p bx : Nat) (w : World) (h : ZeroAt p w) :
    Calls Try.prog 44 #[.pointer (some ⟨p, 0, none⟩), .func (.func 47) #[] #[.pointer (some ⟨bx, 0, none⟩)]] w fun e w' => e = .returned (.tuple #[]) ∧ ZeroAt p w' ∧ Only p w w' := by
  have c1 := h.c1
  have f1 := h.fz 1
  go_enter Try.func44, Try.ntmps44
  go_wp2
  go_loopw [11] (fun i wr => i = .int .i64 0 ∧ w = wr) (fun _ _ => 0)
  case atStart => exact ⟨rfl, rfl⟩
  case round =>
    obtain ⟨rfl, rfl⟩ := hrel
    go_wp2
    go_end0
    exact ⟨rfl, heap_set h _, (Only.refl _ _).setCell _ _⟩
theorem crash_z (p : Nat) (a : Option Addr) (len cap : Nat) (w : World) (h : ZeroAt p w) :
    Calls Try.prog 23 #[.pointer (some ⟨p, 0, none⟩), .slice a len cap] w fun e w' => e = .returned (.tuple #[]) ∧ ZeroAt p w' ∧ Only p w w' := by
  have hB : Below w.heap.size w (w.alloc (.cells #[.slice a len cap] 36)) := (Below.refl _ _).alloc (Nat.le_refl _) _
  have hset := settle_z p w.heap.size _ (h.old hB)
  go_enter Try.func23, Try.ntmps23
  go_upto_region 3 with (go_at_call 44; refine hset.mono ?_; rintro e w2 ⟨rfl, h2, hf⟩)
  have c2 := h2.c2
  have c3 := h2.c3
  have f2 := h2.fz 2
  have f3 := h2.fz 3
  go_wp2_with (go_at_call 18; refine (sectors_z _ _ h2).mono ?_; rintro e w' ⟨rfl, rfl⟩)
  go_end0
  exact ⟨rfl, heap_set (heap_set h2 _) _, (((Only.of_below hB).trans hf).setCell _ _).setCell _ _⟩
end Go.Proofs.Ytnieebkkpmdgmaa
