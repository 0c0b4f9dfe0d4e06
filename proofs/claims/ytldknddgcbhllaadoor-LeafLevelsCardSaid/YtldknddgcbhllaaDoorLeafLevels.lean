/-
  Package leaf: Levels.
-/
import Derived.Test.YtldknddgcbhllaaDoorLeafAbove
import Derived.Test.YtldknddgcbhllaaDoorLeafRows
namespace Go.Proofs.YtldknddgcbhllaaDoor
open Go.RowKit

/-- Ahead of a row that is to be made. -/
def LvRel (B : Nat) (w : World) (l : Hs) (s4 s5 : Value) (wr : World) : Prop :=
  ∃ (vs : List Value) (ls : List Hs) (cur : Hs), RowsAt B wr s5 (vs ++ [s4]) (ls ++ [cur]) ∧ Tree.levels l = ls ++ Tree.levels cur ∧ ls.length + cur.length ≤ 1000 ∧ Below B w wr
theorem RowsAt.last {B : Nat} {w : World} {v x : Value} {vs : List Value} {ls : List Hs} {l : Hs} (h : RowsAt B w v (vs ++ [x]) (ls ++ [l])) : OwnS B w x l := by
  have := h.len
  simp at this
  exact h.row vs.length x l (by simp) (by rw [this]; simp)
set_option maxHeartbeats 3200000 in
set_option maxRecDepth 100000 in
theorem levels_any (v : Value) (l : Hs) (w : World) (hv : Sums w v l) (hK : KT w) (hn : l.length ≤ 1000) :
    Calls Tryd.prog 22 #[v] w fun e w' => ∃ v' vs, e = .returned v' ∧ RowsAt w.heap.size w' v' vs (Tree.levels l) ∧ Below w.heap.size w w' := by
  obtain ⟨B, hBw⟩ : ∃ B, B = w.heap.size := ⟨_, rfl⟩
  have hcl := sclone_any v l w hv (by omega)
  rw [← hBw] at hcl ⊢
  have HBw := Lib.hid hBw
  have HC := Lib.hid hcl
  clear hcl hBw
  go_enter Tryd.func22, Tryd.ntmps22
  go_wp2_with (go_at_call 32; ((with_reducible refine HC.out.mono ?_); rintro e w1 ⟨v1, rfl, ho1, b1⟩; obtain ⟨a1, c1, rfl, _, _⟩ := ho1.sums.slice))
  have hBW := HBw.out ▸ b1.size
  have hone := RowsAt.one ho1 hBW
  have bb := b1.trans (((Below.refl w1.heap.size w1).alloc (Nat.le_refl _) (.cells #[.slice a1 l.length c1] 29)).mono hBW)
  have HO := Lib.hid hone
  go_loopw [4, 5] (LvRel B w l) (fun s4 _ _ => lenV s4)
  case atStart => exact ⟨[], [], l, HO.out, rfl, by simpa using hn, bb⟩
  case round =>
    obtain ⟨vs, ls, cur, hR, hlv, hlen, hbel⟩ := hrel
    have hbw := HBw.out ▸ hbel.size
    have hs := hR.last.sums
    obtain ⟨a, cap, rfl, _, _⟩ := hs.slice
    have hvl := hR.len
    simp at hvl
    by_cases h1 : cur.length ≤ 1
    · have hd : Tree.levels l = ls ++ [cur] := by rw [hlv, Tree.levels_small h1]
      rw [← hd] at hR
      have HR := Lib.hid hR
      have h1' : ¬ 1 < (cur.length : Int) := by omega
      clear hd hlv hR hs hvl hone ho1
      go_wp2
      go_ret
      first | exact ⟨_, _, rfl, HR.out, hbel⟩ | exact ⟨_, rfl, ⟨_, HR.out⟩, hbel⟩
    · have h1' : 1 < (cur.length : Int) := by omega
      have hd : Tree.levels l = (ls ++ [cur]) ++ Tree.levels (Tree.up cur) := by rw [hlv, Tree.levels_go (by omega)]; simp
      have hul := Tree.up_length cur
      have hab := above_any _ cur wr hs (hK.old (HBw.out ▸ hbel)) (by omega)
      have HA := Lib.hid hab
      have HR := Lib.hid hR
      have Hd := Lib.hid hd
      have Hul := Lib.hid hul
      have Hvl := Lib.hid hvl
      clear hd hlv hR hs hvl hul hab hone ho1 h1
      go_wp2_with (first
        | (go_at_call 31; refine HA.out.mono ?_; rintro e w5 ⟨v5, rfl, ho5, b5⟩; obtain ⟨v6, w6, hr6, hR6, b6⟩ := HR.out.add 34 b5 ho5 hbw (by have := Hvl.out; simp; omega); have HR6 := Lib.hid hr6; have HO6 := Lib.hid hR6; have HO5 := Lib.hid ho5; obtain ⟨a5, c5, rfl, _, _⟩ := ho5.sums.slice; clear hr6 hR6 ho5)
        | (at_builtin; refine Lib.wpList_append_run _ rfl _ _ _ _ rfl _ _ rfl rfl _ _ HR6.out ?_))
      refine ⟨⟨vs ++ [_], ls ++ [cur], Tree.up cur, HO6.out, Hd.out, ?_, hbel.trans b6⟩, ?_⟩
      · have := Hul.out; simp; omega
      · have := Hul.out; simp [lenV]; omega
end Go.Proofs.YtldknddgcbhllaaDoor
