/-
  Slices of booleans: of a call's own, read; slices.Reverse of such a one.
-/
import Derived.Test.YtagocdcclghdaaaDoorPathPure
import Derived.Test.YtagocdcclghdaaaDoorSumRow
import Derived.Test.YtagocdcclghdaaaDoorLeafSplit
import Derived.Deep.DeepCutAuto
namespace Go.Proofs.YtagocdcclghdaaaDoor
open Go.RowKit

theorem info_bool : (Tryd.prog.info? 4).map (fun i => (i.zero, i.size, i.bytes)) = some (some (.bool false), 1, 1) := by kernel_rfl
def bvs (l : List Bool) : List Value := l.map Value.bool
theorem bvs_get {l : List Bool} {j : Nat} {b : Bool} (h : l[j]? = some b) : (bvs l)[j]? = some (.bool b) := by simp [bvs, h]
/-- v is a slice that reads as l. -/
def Bools (w : World) (v : Value) (l : List Bool) : Prop :=
  ∃ a cap, v = .slice a l.length cap ∧ l.length ≤ cap ∧ cap ≤ 9223372036854775807 ∧ (0 < l.length → ∃ b off, a = some ⟨b, off, none⟩ ∧ b < w.heap.size ∧ ∀ (j : Nat) (x : Bool), l[j]? = some x → w.cell? ⟨b, off + j, none⟩ = some (.bool x))
theorem Bools.old {w w' : World} {v : Value} {l : List Bool} (h : Bools w v l) (k : Below w.heap.size w w') : Bools w' v l := by
  obtain ⟨a, cap, rfl, h1, h2, h3⟩ := h
  refine ⟨a, cap, rfl, h1, h2, fun hn => ?_⟩
  obtain ⟨b, off, rfl, hb, hj⟩ := h3 hn
  exact ⟨b, off, rfl, Nat.lt_of_lt_of_le hb k.size, fun j x hx => (k.cell (p := ⟨b, off + j, none⟩) hb).trans (hj j x hx)⟩
theorem Bools.slice {w : World} {v : Value} {l : List Bool} (h : Bools w v l) : ∃ a cap, v = .slice a l.length cap ∧ l.length ≤ cap ∧ cap ≤ 9223372036854775807 := by
  obtain ⟨a, cap, rfl, h1, h2, _⟩ := h
  exact ⟨a, cap, rfl, h1, h2⟩
theorem Bools.at {w : World} {a : Option Addr} {n cap : Nat} {l : List Bool} (h : Bools w (.slice a n cap) l) {k : Nat} {x : Bool} (hx : l[k]? = some x) : ∃ b off, a = some ⟨b, off, none⟩ ∧ b < w.heap.size ∧ n = l.length ∧ w.cell? ⟨b, off + k, none⟩ = some (.bool x) := by
  obtain ⟨a', cap', e, h1, h2, h3⟩ := h
  injection e with e1 e2 e3
  subst e1 e2 e3
  obtain ⟨b, off, rfl, hb, hj⟩ := h3 (by have := (List.getElem?_eq_some_iff.1 hx).1; omega)
  exact ⟨b, off, rfl, hb, rfl, hj k x hx⟩
/-- A slice of the call's own. -/
def OwnB (B : Nat) (w : World) (v : Value) (l : List Bool) : Prop := w.ownsRow B 4 1 v l.length (bvs l)
theorem OwnB.nil (B : Nat) (w : World) : OwnB B w (.slice none 0 0) [] := World.ownsRow_nil _ _ _ _
theorem OwnB.bools {B : Nat} {w : World} {v : Value} {l : List Bool} (h : OwnB B w v l) : Bools w v l := by
  have h' := h
  obtain ⟨_, h | ⟨g, cap, cur, rfl, hbg, hg, hnc, hcm, hcs, htake⟩⟩ := h
  · obtain ⟨rfl, h0⟩ := h
    have := List.eq_nil_of_length_eq_zero h0
    subst this
    exact ⟨none, 0, rfl, by simp, by decide, fun h => absurd h (by simp)⟩
  · refine ⟨_, cap, rfl, hnc, by unfold maxLen at hcm; omega, fun _ => ⟨g, 0, rfl, (Array.getElem?_eq_some_iff.1 hg).1, fun j x hx => ?_⟩⟩
    have := World.ownsRow.cells h' (g := g) rfl _ _ (bvs_get hx)
    rw [Addr.add_mid] at this
    exact this
theorem OwnB.kept {B : Nat} {w w' : World} {v : Value} {l : List Bool} (h : OwnB B w v l) (k : Below w.heap.size w w') : OwnB B w' v l := by
  obtain ⟨h1, h2⟩ := h
  refine ⟨h1, ?_⟩
  rcases h2 with e | ⟨g, cap, cur, e1, e2, hg, r⟩
  · exact .inl e
  · exact .inr ⟨g, cap, cur, e1, e2, (k.block g (Array.getElem?_eq_some_iff.1 hg).1).trans hg, r⟩
theorem OwnB.lower {B B' : Nat} {w : World} {v : Value} {l : List Bool} (h : OwnB B w v l) (hB : B' ≤ B) : OwnB B' w v l := by
  obtain ⟨h1, h2⟩ := h
  refine ⟨h1, ?_⟩
  rcases h2 with e | ⟨g, cap, cur, e1, e2, r⟩
  · exact .inl e
  · exact .inr ⟨g, cap, cur, e1, by omega, r⟩
/-- One more. -/
theorem bappend_own {B : Nat} {w : World} {v : Value} {l : List Bool} (ty : TypeId) (b : Bool) (h : OwnB B w v l) (hB : B ≤ w.heap.size) (hl : l.length ≤ 1000000) :
    ∃ v' w', (Builtin.append_ #[29, 29] ty #[v, .slice (some ⟨w.heap.size, 0, none⟩) 1 1]).run Tryd.prog (w.alloc (.cells #[.bool b] 4)) = .ok v' w' ∧ OwnB B w' v' (l ++ [b]) ∧ Below B w w' := by
  obtain ⟨i0, hi, hz0, hz1, hz2⟩ := info_parts info_bool
  have b2 : Below w.heap.size w (w.alloc (.cells #[.bool b] 4)) := (Below.refl _ _).alloc (Nat.le_refl _) _
  have h2 := h.kept b2
  obtain ⟨v', w', h1, h2, h3, _⟩ := run_append_own_at (P := Tryd.prog) (w.alloc (.cells #[.bool b] 4)) B _ ty _ i0 _ 1 1 Tryd.underlying29 hi hz0 hz1 hz2 rfl (by decide) v l.length (bvs l) h2 ⟨w.heap.size, 0, none⟩ 1 1 [.bool b] rfl
    (fun j u hu => by
      have hj : j < 1 := (List.getElem?_eq_some_iff.1 hu).1
      obtain rfl : j = 0 := by omega
      simp at hu
      subst hu
      rw [Addr.add_mid]
      exact cell_of (heap_alloc_last w _) 0) (fun u hu => by simp at hu; subst hu; rfl) (by unfold maxLen; omega) (by omega) (by simp; omega)
  refine ⟨v', w', h1, ?_, ?_⟩
  · unfold OwnB
    rw [List.length_append]
    simpa [bvs] using h2
  · exact (b2.mono hB).trans (sgrown_below h3 (by simp; omega) fun g e => (World.ownsRow.lt h g e).1)
theorem OwnB.set {B g n cap : Nat} {w : World} {l : List Bool} (h : OwnB B w (.slice (some ⟨g, 0, none⟩) n cap) l) (hn : n = l.length) (j : Nat) (b : Bool) : OwnB B (w.setCell ⟨g, j, none⟩ (.bool b)) (.slice (some ⟨g, 0, none⟩) n cap) (l.set j b) := by
  subst hn
  unfold OwnB at h ⊢
  have := (h.stored j (.bool b)).1
  rw [List.length_set]
  simpa [bvs, List.map_set] using this

/-! ### Reverse -/
/-- Turned round from both ends, i of each. -/
def revK (l : List Bool) (i : Nat) : List Bool := (List.range l.length).map fun x => if x < i ∨ l.length ≤ x + i then l.getD (l.length - 1 - x) false else l.getD x false
theorem revK_length (l : List Bool) (i : Nat) : (revK l i).length = l.length := by simp [revK]
theorem revK_get (l : List Bool) (i x : Nat) (h : x < l.length) : (revK l i)[x]? = some (if x < i ∨ l.length ≤ x + i then l.getD (l.length - 1 - x) false else l.getD x false) := by simp [revK, h]
theorem revK_none (l : List Bool) (i x : Nat) (h : ¬ x < l.length) : (revK l i)[x]? = none := List.getElem?_eq_none (by rw [revK_length]; omega)
theorem revK_zero (l : List Bool) : revK l 0 = l := by
  apply List.ext_getElem?
  intro x
  by_cases h : x < l.length
  · rw [revK_get l 0 x h, if_neg (by omega)]
    simp [h]
  · rw [revK_none l 0 x h, List.getElem?_eq_none (by omega)]
theorem revK_full (l : List Bool) (i : Nat) (h1 : 2 * i ≤ l.length) (h2 : l.length ≤ 2 * i + 1) : revK l i = l.reverse := by
  apply List.ext_getElem?
  intro x
  by_cases h : x < l.length
  · rw [revK_get l i x h, List.getElem?_reverse h]
    have hg : ∀ y, y < l.length → l[y]? = some (l.getD y false) := fun y hy => by simp [hy]
    by_cases hx : x < i ∨ l.length ≤ x + i
    · rw [if_pos hx, hg _ (by omega)]
    · rw [if_neg hx, hg _ (by omega)]
      congr 2
      omega
  · rw [revK_none l i x h, List.getElem?_eq_none (by rw [List.length_reverse]; omega)]
theorem revK_step (l : List Bool) (i j : Nat) (hj : j + i + 1 = l.length) (h : i < j) : ((revK l i).set i (l.getD j false)).set j (l.getD i false) = revK l (i + 1) := by
  apply List.ext_getElem?
  intro x
  rw [List.getElem?_set, List.getElem?_set]
  by_cases hx : x < l.length
  · rw [revK_get l (i + 1) x hx]
    by_cases e1 : j = x
    · subst e1
      rw [if_pos rfl, if_pos (by simp [revK_length]; omega), if_pos (by omega), show l.length - 1 - j = i by omega]
    · rw [if_neg e1]
      by_cases e2 : i = x
      · subst e2
        rw [if_pos rfl, if_pos (by rw [revK_length]; omega), if_pos (by omega), show l.length - 1 - i = j by omega]
      · rw [if_neg e2, revK_get l i x hx]
        by_cases hc : x < i ∨ l.length ≤ x + i
        · rw [if_pos hc, if_pos (by omega)]
        · rw [if_neg hc, if_neg (by omega)]
  · rw [revK_none l (i + 1) x hx, revK_none l i x hx, if_neg (by omega), if_neg (by omega)]
theorem revK_step' (l : List Bool) (i j : Nat) (hj : j + i + 1 = l.length) (h : i < j) : ((revK l i).set j (l.getD i false)).set i (l.getD j false) = revK l (i + 1) := by
  rw [List.set_comm _ _ (by omega)]
  exact revK_step l i j hj h
/-- Ahead of the pair from i on. -/
def RevRel (B : Nat) (w : World) (v : Value) (l : List Bool) (s2 s3 : Value) (wr : World) : Prop :=
  ∃ i : Nat, s2 = .int .i64 (i : Int) ∧ s3 = .int .i64 ((l.length : Int) - 1 - (i : Int)) ∧ 2 * i ≤ l.length ∧ OwnB B wr v (revK l i) ∧ Below B w wr
theorem index_bools (g o n cap k : Nat) (K : Int) (hK : K = (k : Int)) (h : k < n) (w : World) : (Instr.indexAt 29 (.slice (some ⟨g, o, none⟩) n cap) (.int .i64 K)).run Tryd.prog w = .ok (.pointer (some ⟨g, o + k, none⟩)) w := by
  subst hK
  go_simp
set_option maxHeartbeats 1000000 in
set_option maxRecDepth 100000 in
theorem reverse_any (B : Nat) (v : Value) (l : List Bool) (w : World) (h : OwnB B w v l) (_hB : B ≤ w.heap.size) (hl : l.length ≤ 1000000) :
    Calls Tryd.prog 34 #[v] w fun e w' => e = .returned (.tuple #[]) ∧ OwnB B w' v l.reverse ∧ Below B w w' := by
  obtain ⟨va, cap, rfl, hlc, hcap⟩ := h.bools.slice
  have H := Lib.hid h
  have hw0 := IntWalk.i64_in ((l.length : Int) - 1) (by omega)
  obtain ⟨n, hn⟩ : ∃ n, n = l.length := ⟨_, rfl⟩
  have Hn := Lib.hid hn
  rw [← hn] at hw0 ⊢
  clear h hn
  go_enter Tryd.func34, Tryd.ntmps34
  go_wp2
  go_loopw [2, 3] (RevRel B w (.slice va n cap) l) (fun s2 _ _ => n - (intOf s2).toNat)
  case atStart => exact ⟨0, rfl, by rw [← Hn.out]; simp, by omega, by rw [revK_zero, Hn.out]; exact H.out, Below.refl _ _⟩
  case round =>
    obtain ⟨i, rfl, rfl, hi, ho, hb⟩ := hrel
    rw [← Hn.out] at hi ⊢
    have hn := Hn.out
    by_cases hlt : 2 * i + 1 < n
    · have hlt' : (i : Int) < (n : Int) - 1 - (i : Int) := by omega
      obtain ⟨j, hj⟩ : ∃ j, j = n - 1 - i := ⟨_, rfl⟩
      have hjz : (n : Int) - 1 - (i : Int) = (j : Int) := by omega
      rw [hjz] at hlt' ⊢
      have hgi := revK_get l i i (by omega)
      have hgj := revK_get l i j (by omega)
      rw [if_neg (by omega)] at hgi
      rw [if_neg (by omega)] at hgj
      obtain ⟨xi, hxi⟩ : ∃ x, x = l.getD i false := ⟨_, rfl⟩
      obtain ⟨xj, hxj⟩ : ∃ x, x = l.getD j false := ⟨_, rfl⟩
      have hs1 := revK_step l i j (by omega) (by omega)
      have hs2 := revK_step' l i j (by omega) (by omega)
      rw [← hxi, ← hxj] at hs1 hs2
      rw [← hxi] at hgi
      rw [← hxj] at hgj
      have hva : ∃ g, va = some ⟨g, 0, none⟩ ∧ g < wr.heap.size ∧ B ≤ g := by
        rcases ho.2 with ⟨e, e0⟩ | ⟨g, c, cur, e, e1, e2, _⟩
        · rw [revK_length] at e0; omega
        · injection e with e _ _
          exact ⟨g, e, (Array.getElem?_eq_some_iff.1 e2).1, e1⟩
      obtain ⟨g, rfl, hgl, hgB⟩ := hva
      have ho' : wr.ownsRow B 4 1 (.slice (some ⟨g, 0, none⟩) n cap) n (bvs (revK l i)) := by
        have := ho
        unfold OwnB at this
        rwa [revK_length, ← Hn.out] at this
      have hci : wr.drew.cell? ⟨g, i, none⟩ = some (.bool xi) := (ho'.cellAt i (by omega)).trans (bvs_get hgi)
      have hcj : wr.drew.cell? ⟨g, j, none⟩ = some (.bool xj) := (ho'.cellAt j (by omega)).trans (bvs_get hgj)
      have hfi : wr.drew.frozen? ⟨g, i, none⟩ = false := ho'.frozenAt i
      have hfj : wr.drew.frozen? ⟨g, j, none⟩ = false := ho'.frozenAt j
      have hij : i ≠ j := by omega
      have hcj2 : (wr.setCell ⟨g, i, none⟩ (.bool xj)).drew.cell? ⟨g, j, none⟩ = some (.bool xj) := (World.cell?_setCell_other _ _ _ _ (fun e => hij (by injection e))).trans hcj
      have hci2 : (wr.setCell ⟨g, j, none⟩ (.bool xi)).drew.cell? ⟨g, i, none⟩ = some (.bool xi) := (World.cell?_setCell_other _ _ _ _ (fun e => hij (by injection e with _ e _; exact e.symm))).trans hci
      have hfj2 : (wr.setCell ⟨g, i, none⟩ (.bool xj)).drew.frozen? ⟨g, j, none⟩ = false := by simpa using hfj
      have hfi2 : (wr.setCell ⟨g, j, none⟩ (.bool xi)).drew.frozen? ⟨g, i, none⟩ = false := by simpa using hfi
      have hxw := IntWalk.i64_in ((i : Int) + 1) (by omega)
      have hyw := IntWalk.i64_in ((j : Int) - 1) (by omega)
      have k1 : OwnB B ((wr.drew.setCell ⟨g, i, none⟩ (.bool xj)).setCell ⟨g, j, none⟩ (.bool xi)) (.slice (some ⟨g, 0, none⟩) n cap) (revK l (i + 1)) := by
        have hl1 : n = (revK l i).length := by rw [revK_length, Hn.out]
        have := (OwnB.set (w := wr.drew) ho hl1 i xj).set (by rw [List.length_set]; exact hl1) j xi
        rwa [hs1] at this
      have k2 : OwnB B ((wr.drew.setCell ⟨g, j, none⟩ (.bool xi)).setCell ⟨g, i, none⟩ (.bool xj)) (.slice (some ⟨g, 0, none⟩) n cap) (revK l (i + 1)) := by
        have hl1 : n = (revK l i).length := by rw [revK_length, Hn.out]
        have := (OwnB.set (w := wr.drew) ho hl1 j xi).set (by rw [List.length_set]; exact hl1) i xj
        rwa [hs2] at this
      have c1 : Below B w ((wr.drew.setCell ⟨g, i, none⟩ (.bool xj)).setCell ⟨g, j, none⟩ (.bool xi)) := ((below_drew hb).setCell (by exact hgB) _).setCell (by exact hgB) _
      have c2 : Below B w ((wr.drew.setCell ⟨g, j, none⟩ (.bool xi)).setCell ⟨g, i, none⟩ (.bool xj)) := ((below_drew hb).setCell (by exact hgB) _).setCell (by exact hgB) _
      have K1 := Lib.hid k1
      have K2 := Lib.hid k2
      have C1 := Lib.hid c1
      have C2 := Lib.hid c2
      have hx1 := fun u => index_bools g 0 n cap i (i : Int) rfl (by omega) u
      have hx2 := fun u => index_bools g 0 n cap j (j : Int) rfl (by omega) u
      have hdj : (j : Int) - 1 = (l.length : Int) - 1 - ((i + 1 : Nat) : Int) := by rw [← Hn.out]; omega
      have HDJ := Lib.hid hdj
      have HLT := Lib.hid hlt
      clear hs1 hs2 hgi hgj hxi hxj ho ho' k1 k2 c1 c2 hdj hj hjz hlt hn
      go_wp2
      go_region
      go_wp2
      have hlt := HLT.out
      have hn := Hn.out
      refine ⟨⟨i + 1, by simp, by rw [HDJ.out], by omega, ?_, ?_⟩, by simp [intOf]; omega⟩
      · first | exact K1.out | exact K2.out
      · first | exact C1.out | exact C2.out
    · have hlt' : ¬ (i : Int) < (n : Int) - 1 - (i : Int) := by omega
      rw [revK_full l i (by omega) (by omega), Hn.out] at ho
      have HO := Lib.hid ho
      clear ho hn
      go_wp2
      go_end0
      exact ⟨rfl, by have := HO.out; rwa [← Hn.out] at this, hb⟩
end Go.Proofs.YtagocdcclghdaaaDoor
