/-
  Rows of records that a statement makes: a record that is built, rows that are put together.
-/
import Derived.Test.YtbhalioajekfcaaRecArg
import Derived.Test.YtbhalioajekfcaaRecRows
namespace Go.Proofs.Ytbhalioajekfcaa
open Go.RowKit

section
variable {ops : Array Oper} {Q : Exit → Act → World → Prop} {a : Act} {w w' : World} {K : Act → World → Prop} {o : Oper}
theorem rop_buildR (t : TypeId) (parts : Array (Nat × Operand)) (hop : o.op = .build t parts) (L : List (Nat × Value)) (hL : (parts.map fun (i, x) => (i, a.eval x)).toList = L) {cells : Array Value} (hb : Try.prog.built t L = some cells) (hw : Region.wanted o (yielded ops a.tmps) = true) (h : K (a.put o.dst (.agg cells)) w) :
    if Region.wanted o (yielded ops a.tmps) = true then Oper.wp Try.prog o a w K Q else K (a.put o.dst undef) w :=
  rop_v hw (by
    have hr := run_build (P := Try.prog) w t (parts.map fun (i, x) => (i, a.eval x)) cells (by rw [hL]; exact hb)
    simp [execOp, hop, hr]) h
end
theorem built_rec2 (tim : Int) (pay : ByteArray) : Try.prog.built 25 [(2, .int .i64 tim), (3, .string pay)] = some #[.int .i64 0, .int .i64 0, .int .i64 tim, .string pay] := by rfl
theorem built_rec4 (win idx tim : Int) (pay : ByteArray) : Try.prog.built 25 [(0, .int .i64 win), (1, .int .i64 idx), (2, .int .i64 tim), (3, .string pay)] = some #[.int .i64 win, .int .i64 idx, .int .i64 tim, .string pay] := by rfl
theorem build_rec1 (win idx tim : Int) (pay : ByteArray) (w : World) : (Instr.buildSlice 29 1 #[(0, .agg #[.int .i64 win, .int .i64 idx, .int .i64 tim, .string pay])]).run Try.prog w = .ok (.slice (some ⟨w.heap.size, 0, none⟩) 1 1) (w.alloc (.cells #[.int .i64 win, .int .i64 idx, .int .i64 tim, .string pay] 25)) := by
  go_simp
theorem OwnR.one (w : World) (r : RecR) : OwnR 0 (w.alloc (.cells #[.int .i64 r.win, .int .i64 r.idx, .int .i64 r.tim, .string r.pay] 25)) (.slice (some ⟨w.heap.size, 0, none⟩) 1 1) [r] :=
  ⟨rfl, .inr ⟨w.heap.size, 1, _, rfl, Nat.zero_le _, heap_alloc_last w _, Nat.le_refl 1, by decide, rfl, rfl⟩⟩
/-- A row put behind one of the call's own. -/
theorem rappend_row {B C : Nat} {w : World} {v x : Value} {l m : List RecR} (ty : TypeId) (h : OwnR B w v l) (hx : OwnR C w x m) (hB : B ≤ w.heap.size) (hl : l.length + m.length ≤ 1000000) :
    ∃ v' w', (Builtin.append_ #[29, 29] ty #[v, x]).run Try.prog w = .ok v' w' ∧ OwnR B w' v' (l ++ m) ∧ Below B w w' ∧ w.grownBy w' v.ownBlock := by
  obtain ⟨i0, hi, hz0, hz1, hz2⟩ := info_parts info_rec
  have hx' := hx
  obtain ⟨_, hn | ⟨g, cap, cur, rfl, hbg, hg, hnc, hcm, hcs, htake⟩⟩ := hx
  · obtain ⟨rfl, h0⟩ := hn
    obtain rfl : m = [] := List.eq_nil_of_length_eq_zero h0
    exact ⟨v, w, run_append_owned_none w B _ ty _ i0 4 Try.underlying29 hi v _ _ h, by rw [List.append_nil]; exact h, Below.refl _ _, World.grownBy.refl _ _⟩
  · obtain ⟨v', w', h1, h2, h3, _⟩ := run_append_own_at (P := Try.prog) w B _ ty _ i0 _ 4 40 Try.underlying29 hi hz0 hz1 hz2 rfl (by decide) v l.length (recsC l) h ⟨g, 0, none⟩ m.length cap (recsC m) (recsC_length m) (World.ownsRow.cells hx' (g := g) rfl) (recsC_one m) (by unfold maxLen; omega) (by omega) hB
    exact ⟨v', w', h1, by unfold OwnR; rw [List.length_append, recsC_append]; exact h2, rgrown_below h3 hB fun g e => (World.ownsRow.lt h g e).1, h3⟩
theorem pick_some15 {R : Option (List RecR)} {l0 : List RecR} (hR : R = some l0) {l : List RecR} {v : Value} {z : Int} (k : (R = some l ∧ z = 0) ∨ (R = none ∧ l = [] ∧ v = .slice none 0 0 ∧ z = 10)) : l = l0 ∧ z = 0 := by
  rcases k with ⟨e, h⟩ | ⟨e, _, _, _⟩
  · rw [hR] at e; exact ⟨(Option.some.inj e).symm, h⟩
  · rw [hR] at e; cases e
theorem OwnR.zero {B : Nat} {w : World} {v : Value} {l : List RecR} (h : OwnR B w v l) : OwnR 0 w v l := h.lower (Nat.zero_le _)
end Go.Proofs.Ytbhalioajekfcaa
