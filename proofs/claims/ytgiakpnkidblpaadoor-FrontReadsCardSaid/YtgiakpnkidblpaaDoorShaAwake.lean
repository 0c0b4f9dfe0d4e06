/-
  Package sha: Of of one text and of two; the statements' own helper awake answers true.
-/
import Derived.Test.YtgiakpnkidblpaaDoorShaOf
namespace Go.Proofs.YtgiakpnkidblpaaDoor
open Go.RowKit
theorem KT.alloc {w : World} (h : KT w) (o : Obj) : KT (w.alloc o) := h.old ((Below.refl _ _).alloc (Nat.le_refl _) _)

/-- Of of one text, as it is called. -/
theorem of_one (s : ByteArray) (l : List UInt8) (hs : s.data.toList = l) (w : World) (hK : KT w) (hl : l.length < 576460752303423488) :
    Calls Tryd.prog 50 #[.slice (some ⟨w.heap.size, 0, none⟩) 1 1] (w.alloc (.cells #[.string s] 9)) fun e w' => e = .returned (sumV (Sha.digest l)) ∧ Below w.heap.size w w' := by
  subst hs
  rw [← flat_one] at hl ⊢
  exact (of_any _ [s] _ (StrRow.one w s) (hK.alloc _) hl).mono fun e w' ⟨he, hb⟩ => ⟨he, ((Below.refl _ _).alloc (Nat.le_refl _) _).trans (hb.mono (by simp))⟩
theorem of_two (s t : ByteArray) (l : List UInt8) (hs : s.data.toList ++ t.data.toList = l) (w : World) (hK : KT w) (hl : l.length < 576460752303423488) :
    Calls Tryd.prog 50 #[.slice (some ⟨w.heap.size, 0, none⟩) 2 2] (w.alloc (.cells #[.string s, .string t] 9)) fun e w' => e = .returned (sumV (Sha.digest l)) ∧ Below w.heap.size w w' := by
  subst hs
  rw [← flat_two] at hl ⊢
  exact (of_any _ [s, t] _ (StrRow.two w s t) (hK.alloc _) hl).mono fun e w' ⟨he, hb⟩ => ⟨he, ((Below.refl _ _).alloc (Nat.le_refl _) _).trans (hb.mono (by simp))⟩

end Go.Proofs.YtgiakpnkidblpaaDoor
