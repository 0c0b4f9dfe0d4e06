/-
  Package leaf: the closure of Levels, which makes the row above.
-/
import Derived.Test.YtgiakpnkidblpaaDoorLeafRoot
import Derived.Test.YtgiakpnkidblpaaDoorSumBuild
namespace Go.Proofs.YtgiakpnkidblpaaDoor
open Go.RowKit

/-- Ahead of pair j. -/
def AbRel (B : Nat) (w : World) (l : Hs) (s3 s4 : Value) (wr : World) : Prop :=
  ∃ j : Nat, 2 * j ≤ l.length ∧ OwnS B wr s3 (Tree.up (l.take (2 * j))) ∧ SumsB B wr s4 (l.drop (2 * j)) ∧ Below B w wr
theorem up_step2 (l : Hs) (j : Nat) (h : 2 * j + 2 ≤ l.length) : Tree.up (l.take (2 * (j + 1))) = Tree.up (l.take (2 * j)) ++ [Tree.node (l[2 * j]'(by omega)) (l[2 * j + 1]'(by omega))] := by
  rw [show 2 * (j + 1) = 2 * j + 1 + 1 by omega, List.take_succ_eq_append_getElem (by omega), List.take_succ_eq_append_getElem (by omega), List.append_assoc, Tree.up_append j _ _ (by rw [List.length_take]; omega)]
  rfl
theorem up_step1 (l : Hs) (j : Nat) (h : l.length = 2 * j + 1) : Tree.up l = Tree.up (l.take (2 * j)) ++ [l[2 * j]'(by omega)] := by
  have e : l = l.take (2 * j) ++ [l[2 * j]'(by omega)] := by
    have := List.take_succ_eq_append_getElem (l := l) (i := 2 * j) (by omega)
    rw [List.take_of_length_le (by omega)] at this
    exact this
  conv => lhs; rw [e]
  rw [Tree.up_append j _ _ (by rw [List.length_take]; omega)]
  rfl
theorem fold_zero (x : List UInt8) (h : x.length = 32) : List.foldl (fun (cs : Array Value) (x : Value × Nat) => cs.setIfInBounds x.snd x.fst) #[.int .u8 0, .int .u8 0, .int .u8 0, .int .u8 0, .int .u8 0, .int .u8 0, .int .u8 0, .int .u8 0, .int .u8 0, .int .u8 0, .int .u8 0, .int .u8 0, .int .u8 0, .int .u8 0, .int .u8 0, .int .u8 0, .int .u8 0, .int .u8 0, .int .u8 0, .int .u8 0, .int .u8 0, .int .u8 0, .int .u8 0, .int .u8 0, .int .u8 0, .int .u8 0, .int .u8 0, .int .u8 0, .int .u8 0, .int .u8 0, .int .u8 0, .int .u8 0] (x.map u8V).zipIdx = (x.map u8V).toArray := by
  have := fold_put (x.map u8V) 0 0 [] [.int .u8 0, .int .u8 0, .int .u8 0, .int .u8 0, .int .u8 0, .int .u8 0, .int .u8 0, .int .u8 0, .int .u8 0, .int .u8 0, .int .u8 0, .int .u8 0, .int .u8 0, .int .u8 0, .int .u8 0, .int .u8 0, .int .u8 0, .int .u8 0, .int .u8 0, .int .u8 0, .int .u8 0, .int .u8 0, .int .u8 0, .int .u8 0, .int .u8 0, .int .u8 0, .int .u8 0, .int .u8 0, .int .u8 0, .int .u8 0, .int .u8 0, .int .u8 0] [] rfl (by rw [List.length_map, h]; rfl)
  simpa using this
end Go.Proofs.YtgiakpnkidblpaaDoor
