/-
  What the laws of layer 12 want besides: arrays in variables.
-/
import Derived.Test.YtjdhcncjcencbaaDoorProofAwake
import Derived.Test.YtjdhcncjcencbaaDoorMPathB
import Derived.Test.YtjdhcncjcencbaaDoorProofArg
namespace Go.Proofs.YtjdhcncjcencbaaDoor
open Go.RowKit

theorem heap_oldP {w w' : World} {q : Nat} {o : Obj} (h : w.heap[q]? = some o) (hb : Below w.heap.size w w') : w'.heap[q]? = some o := (hb.block q (Array.getElem?_eq_some_iff.1 h).1).trans h
theorem load_intP {b o : Nat} {x : Int} {w : World} (h0 : w.cell? ⟨b, o, none⟩ = some (.int .i64 x)) : (Instr.loadAt 3 (.pointer (some ⟨b, o, none⟩))).run Tryd.prog w = .ok (.int .i64 x) w := by
  go_simp
theorem idx2i (q k : Nat) (K : Int) (hK : K = (k : Int)) (h : k < 2) (w : World) : (Instr.indexAt 24 (.pointer (some ⟨q, 0, none⟩)) (.int .i64 K)).run Tryd.prog w = .ok (.pointer (some ⟨q, k, none⟩)) w := by
  subst hK
  have : k = 0 ∨ k = 1 := by omega
  rcases this with rfl | rfl <;> go_simp
theorem idx2S (q k : Nat) (K : Int) (hK : K = (k : Int)) (h : k < 2) (w : World) : (Instr.indexAt 41 (.pointer (some ⟨q, 0, none⟩)) (.int .i64 K)).run Tryd.prog w = .ok (.pointer (some ⟨q, k * 32, none⟩)) w := by
  subst hK
  have : k = 0 ∨ k = 1 := by omega
  rcases this with rfl | rfl <;> go_simp
theorem idx3S (q k : Nat) (K : Int) (hK : K = (k : Int)) (h : k < 3) (w : World) : (Instr.indexAt 33 (.pointer (some ⟨q, 0, none⟩)) (.int .i64 K)).run Tryd.prog w = .ok (.pointer (some ⟨q, k * 32, none⟩)) w := by
  subst hK
  have : k = 0 ∨ k = 1 ∨ k = 2 := by omega
  rcases this with rfl | rfl | rfl <;> go_simp
theorem idx2R (q k : Nat) (K : Int) (hK : K = (k : Int)) (h : k < 2) (w : World) : (Instr.indexAt 42 (.pointer (some ⟨q, 0, none⟩)) (.int .i64 K)).run Tryd.prog w = .ok (.pointer (some ⟨q, k, none⟩)) w := by
  subst hK
  have : k = 0 ∨ k = 1 := by omega
  rcases this with rfl | rfl <;> go_simp
theorem sc_rangeAt {w : World} {q : Nat} {L : Hs} {T : TypeId} (h : w.heap[q]? = some (.cells (sc L).toArray T (0, 0))) (ho : all32 L) (k : Nat) (x : List UInt8) (hk : L[k]? = some x) : w.rangeAt q (k * 32) (x.map u8V) := fun j v hv => by
  obtain ⟨h1, rfl⟩ := List.getElem?_eq_some_iff.1 hk
  rw [cell_of h]
  simpa using sc_get L ho k h1 j v hv
theorem rightF {r x : List UInt8} {m n : Int} {P : Hs} (h : foldLen m n P = false) : ((foldZ x m n P).2 && decide ((foldZ x m n P).1 = r)) = false := by
  unfold foldZ
  rw [h]
  rfl
theorem goesF {a b : List UInt8} {m n : Int} {P : Hs} (h : bothLen m n P = false) : goesZ a m b n P = false := by
  unfold goesZ bothZ
  rw [h]
  rfl
end Go.Proofs.YtjdhcncjcencbaaDoor
