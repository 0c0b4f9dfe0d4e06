/-
  Package sha: Of of one text and of two; the statements' own helper awake answers true.
-/
import Derived.Test.YtcecncbhfcoilaaDoorShaOf
namespace Go.Proofs.YtcecncbhfcoilaaDoor
open Go.RowKit

theorem StrRow.one (w : World) (s : ByteArray) : StrRow (w.alloc (.cells #[.string s] 9)) (.slice (some ⟨w.heap.size, 0, none⟩) 1 1) [s] := by
  refine ⟨_, 1, rfl, by simp, fun _ => ⟨w.heap.size, 0, rfl, by simp, fun j hj => ?_⟩⟩
  rw [cell_of (heap_alloc_last w _)]
  have : j = 0 := by simpa using hj
  subst this; rfl
theorem StrRow.two (w : World) (s t : ByteArray) : StrRow (w.alloc (.cells #[.string s, .string t] 9)) (.slice (some ⟨w.heap.size, 0, none⟩) 2 2) [s, t] := by
  refine ⟨_, 2, rfl, by simp, fun _ => ⟨w.heap.size, 0, rfl, by simp, fun j hj => ?_⟩⟩
  rw [cell_of (heap_alloc_last w _)]
  have : j = 0 ∨ j = 1 := by simp at hj; omega
  rcases this with rfl | rfl <;> rfl
theorem KT.alloc {w : World} (h : KT w) (o : Obj) : KT (w.alloc o) := h.old ((Below.refl _ _).alloc (Nat.le_refl _) _)

theorem flat_one (s : ByteArray) : flat [s] = s.data.toList := by simp [flat]
theorem flat_two (s t : ByteArray) : flat [s, t] = s.data.toList ++ t.data.toList := by simp [flat]
/-- Of of one text, as it is called. -/
theorem of_one (s : ByteArray) (l : List UInt8) (hs : s.data.toList = l) (w : World) (hK : KT w) (hl : l.length < 576460752303423488) :
    Calls Tryd.prog 18 #[.slice (some ⟨w.heap.size, 0, none⟩) 1 1] (w.alloc (.cells #[.string s] 9)) fun e w' => e = .returned (sumV (Sha.digest l)) ∧ Below w.heap.size w w' := by
  subst hs
  rw [← flat_one] at hl ⊢
  exact (of_any _ [s] _ (StrRow.one w s) (hK.alloc _) hl).mono fun e w' ⟨he, hb⟩ => ⟨he, ((Below.refl _ _).alloc (Nat.le_refl _) _).trans (hb.mono (by simp))⟩
theorem of_two (s t : ByteArray) (l : List UInt8) (hs : s.data.toList ++ t.data.toList = l) (w : World) (hK : KT w) (hl : l.length < 576460752303423488) :
    Calls Tryd.prog 18 #[.slice (some ⟨w.heap.size, 0, none⟩) 2 2] (w.alloc (.cells #[.string s, .string t] 9)) fun e w' => e = .returned (sumV (Sha.digest l)) ∧ Below w.heap.size w w' := by
  subst hs
  rw [← flat_two] at hl ⊢
  exact (of_any _ [s, t] _ (StrRow.two w s t) (hK.alloc _) hl).mono fun e w' ⟨he, hb⟩ => ⟨he, ((Below.refl _ _).alloc (Nat.le_refl _) _).trans (hb.mono (by simp))⟩

theorem hex_0 (w : World) : Calls Tryd.prog 20 #[sumV (Sha.digest [])] w fun e w' => e = .returned (.string ⟨#[101, 51, 98, 48, 99, 52, 52, 50, 57, 56, 102, 99, 49, 99, 49, 52, 57, 97, 102, 98, 102, 52, 99, 56, 57, 57, 54, 102, 98, 57, 50, 52, 50, 55, 97, 101, 52, 49, 101, 52, 54, 52, 57, 98, 57, 51, 52, 99, 97, 52, 57, 53, 57, 57, 49, 98, 55, 56, 53, 50, 98, 56, 53, 53]⟩) ∧ Below w.heap.size w w' := by
  refine (hex_any (Sha.digest []) w (Sha.digest_length _)).mono fun e w' ⟨he, hb⟩ => ⟨?_, hb⟩
  rw [he, Sha.hex_nothing]
theorem hex_3 (w : World) : Calls Tryd.prog 20 #[sumV (Sha.digest [97, 98, 99])] w fun e w' => e = .returned (.string ⟨#[98, 97, 55, 56, 49, 54, 98, 102, 56, 102, 48, 49, 99, 102, 101, 97, 52, 49, 52, 49, 52, 48, 100, 101, 53, 100, 97, 101, 50, 50, 50, 51, 98, 48, 48, 51, 54, 49, 97, 51, 57, 54, 49, 55, 55, 97, 57, 99, 98, 52, 49, 48, 102, 102, 54, 49, 102, 50, 48, 48, 49, 53, 97, 100]⟩) ∧ Below w.heap.size w w' := by
  refine (hex_any (Sha.digest [97, 98, 99]) w (Sha.digest_length _)).mono fun e w' ⟨he, hb⟩ => ⟨?_, hb⟩
  rw [he, Sha.hex_abc]

set_option maxHeartbeats 1000000 in
set_option maxRecDepth 100000 in
theorem awake_any (w : World) (hK : KT w) : Calls Tryd.prog 12 #[] w fun e w' => e = .returned (.bool true) ∧ Below w.heap.size w w' := by
  go_enter Tryd.func12, Tryd.ntmps12
  go_wp2_with (first
    | (go_at_call 18; ((with_reducible refine (of_nothing _ hK).mono ?_); rintro e w1 ⟨rfl, b1⟩))
    | (go_at_call 18; refine (of_two ⟨#[97]⟩ ⟨#[98, 99]⟩ [97, 98, 99] rfl w2 ((hK.old b1).old b2) (by decide)).mono ?_; rintro e w3 ⟨rfl, b3⟩)
    | (go_at_call 20; ((with_reducible refine (hex_0 _).mono ?_); rintro e w2 ⟨rfl, b2⟩))
    | (go_at_call 20; ((with_reducible refine (hex_3 _).mono ?_); rintro e w4 ⟨rfl, b4⟩)))
  go_ret
  exact ⟨rfl, below_step (below_step (below_step b1 (Nat.le_refl _) b2) (Nat.le_refl _) b3) (Nat.le_refl _) b4⟩
end Go.Proofs.YtcecncbhfcoilaaDoor
