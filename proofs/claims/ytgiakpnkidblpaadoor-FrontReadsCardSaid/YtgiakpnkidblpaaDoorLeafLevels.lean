/-
  Package leaf: Levels.
-/
import Derived.Test.YtgiakpnkidblpaaDoorLeafAbove
import Derived.Test.YtgiakpnkidblpaaDoorLeafRows
namespace Go.Proofs.YtgiakpnkidblpaaDoor
open Go.RowKit

/-- Ahead of a row that is to be made. -/
def LvRel (B : Nat) (w : World) (l : Hs) (s4 s5 : Value) (wr : World) : Prop :=
  ∃ (vs : List Value) (ls : List Hs) (cur : Hs), RowsAt B wr s5 (vs ++ [s4]) (ls ++ [cur]) ∧ Tree.levels l = ls ++ Tree.levels cur ∧ ls.length + cur.length ≤ 1000 ∧ Below B w wr
theorem RowsAt.last {B : Nat} {w : World} {v x : Value} {vs : List Value} {ls : List Hs} {l : Hs} (h : RowsAt B w v (vs ++ [x]) (ls ++ [l])) : OwnS B w x l := by
  have := h.len
  simp at this
  exact h.row vs.length x l (by simp) (by rw [this]; simp)
end Go.Proofs.YtgiakpnkidblpaaDoor
