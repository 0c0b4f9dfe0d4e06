/-
  Slices of hashes that are built, made, put together.
-/
import Derived.Test.YtgiakpnkidblpaaDoorSumRow
import Derived.Test.YtgiakpnkidblpaaDoorMGen
import Derived.Great.BuildSlice
import Derived.Lib.Hide
import Derived.Lib.AppendZeros
import Derived.Lib.SliceRun
namespace Go.Proofs.YtgiakpnkidblpaaDoor
open Go.RowKit

theorem fold_put : ∀ (vs : List Value) (k off : Nat) (p o q : List Value), p.length = off + k → o.length = vs.length →
    (vs.zipIdx k).foldl (fun cs (c, j) => cs.setIfInBounds (off + j) c) (p ++ (o ++ q)).toArray = (p ++ (vs ++ q)).toArray
  | [], k, off, p, o, q, h1, h2 => by
    obtain rfl : o = [] := List.eq_nil_of_length_eq_zero h2
    rfl
  | v :: vs, k, off, p, o, q, h1, h2 => by
    match o, h2 with
    | x :: o, h2 =>
      have := fold_put vs (k + 1) off (p ++ [v]) o q (by simp; omega) (by simpa using h2)
      simp only [List.zipIdx_cons, List.foldl_cons]
      rw [List.setIfInBounds_toArray, List.set_append_right _ _ (by omega), ← h1, Nat.sub_self]
      simpa using this
theorem fill_sums (n : Nat) : ∀ (xs p : Hs) (q : List Value), all32 xs → all32 p → q.length = xs.length * 32 → n = p.length →
    Instr.fill (fun i => some (i * 32, 32)) (sc p ++ q).toArray ((List.range' n xs.length).zipWith (fun i x => (i, sumV x)) xs) = some (sc (p ++ xs)).toArray := by
  intro xs
  induction xs generalizing n with
  | nil =>
    intro p q _ _ hq _
    obtain rfl : q = [] := List.eq_nil_of_length_eq_zero (by simpa using hq)
    simp [Instr.fill]
  | cons x xs ih =>
    intro p q hx hp hq hn
    have hx32 : x.length = 32 := hx x (by simp)
    have hpl := sc_length p hp
    rw [List.length_cons, List.range'_succ, List.zipWith_cons_cons, Instr.fill]
    have hs : (sumV x).cells.size = 32 := by simp [sumV, Value.cells, hx32]
    rw [hs]
    simp only [List.size_toArray, List.length_append]
    rw [if_neg (by simp; simp at hq; omega)]
    have hf : ((sumV x).cells.zipIdx.foldl (fun cs (c, j) => cs.setIfInBounds (n * 32 + j) c) (sc p ++ q).toArray) = (sc (p ++ [x]) ++ q.drop 32).toArray := by
      have e : (sumV x).cells = (x.map u8V).toArray := rfl
      have hq' : q = q.take 32 ++ q.drop 32 := (List.take_append_drop 32 q).symm
      have := fold_put (x.map u8V) 0 (n * 32) (sc p) (q.take 32) (q.drop 32) (by omega) (by rw [List.length_take, List.length_map]; simp at hq; omega)
      rw [← hq'] at this
      rw [e, sc_append, sc_one', List.append_assoc, ← this, ← Array.foldl_toList]
      congr 1
      simp
    have := ih (n + 1) (p ++ [x]) (q.drop 32) (fun y hy => hx y (by simp [hy])) (hp.append (all32.one hx32)) (by rw [List.length_drop, hq, List.length_cons]; omega) (by simp; omega)
    rw [hf, this, List.append_assoc, List.singleton_append]
theorem range_cells (n : Nat) (z : Array Value) : (((Array.range n).map (z[· % z.size]!)) : Array Value).toList.length = n := by simp
set_option maxRecDepth 100000 in
theorem build_sums (n : Nat) (xs : Hs) (hx : all32 xs) (hn : xs.length = n) (h0 : 0 < n) (h9 : n ≤ 1000) (w : World) :
    (Instr.buildSlice 22 n ((List.range n).zipWith (fun i x => (i, sumV x)) xs).toArray).run Tryd.prog w = .ok (.slice (some ⟨w.heap.size, 0, none⟩) n n) (w.alloc (.cells (sc xs).toArray 31)) := by
  obtain ⟨i0, hi, hz0, hz1, hz2⟩ := info_parts info_sumR
  refine run_buildSlice w _ _ n _ _ i0 _ Tryd.underlying22 hi hz0 (by rw [hz1]; omega) (by rw [hz1]; omega) ?_
  rw [hz1]
  obtain ⟨q, hq, hql⟩ : ∃ q : List Value, ((Array.range (n * 32)).map ((Value.agg ((List.replicate 32 (0 : UInt8)).map u8V).toArray).cells[· % (Value.agg ((List.replicate 32 (0 : UInt8)).map u8V).toArray).cells.size]!)) = q.toArray ∧ q.length = n * 32 := ⟨_, (Array.toArray_toList).symm, by simp⟩
  rw [hq]
  have := fill_sums 0 xs [] q hx all32.nil (by omega) rfl
  rw [hn] at this
  simpa [sc, List.range_eq_range'] using this
theorem build_sum1 (x : List UInt8) (hx : x.length = 32) (w : World) : (Instr.buildSlice 22 1 #[(0, sumV x)]).run Tryd.prog w = .ok (.slice (some ⟨w.heap.size, 0, none⟩) 1 1) (w.alloc (.cells (x.map u8V).toArray 31)) := by
  have := build_sums 1 [x] (all32.one hx) rfl (by decide) (by decide) w
  rw [sc_one'] at this
  exact this
theorem wpList_bslS {ops : Array Oper} {rest : List Oper} {o : Oper} {a : Act} {w w' : World} {Q : Exit → Act → World → Prop} (hg : o.guard = none) (t : TypeId) (n : Nat) (parts : Array (Nat × Operand)) (hop : o.op = .buildSlice t n parts) {L : Array (Nat × Value)} {r : Value} (hL : (parts.map fun (i, x) => (i, a.eval x)) = L)
    (hr : (Instr.buildSlice t n L).run Tryd.prog w = .ok r w') (h : wpList Tryd.prog ops Q rest (a.put o.dst r) w') : wpList Tryd.prog ops Q (o :: rest) a w := by
  refine wpList_plain hg fun K hK => ?_
  unfold Oper.wp
  simp [execOp, hop, hL, hr]
  exact hK _ _ h
def RT.sums (l : Hs) : RT := ⟨fun v w => Sums w v l, fun _ _ _ h k => h.old k⟩
theorem Sums.build (w : World) (xs : Hs) (hx : all32 xs) (n : Nat) (hn : n = xs.length) (hm : n ≤ 1000000) : Sums (w.alloc (.cells (sc xs).toArray 31)) (.slice (some ⟨w.heap.size, 0, none⟩) n n) xs := by
  subst hn
  refine Sums.mk (Nat.le_refl _) (by omega) hx (by simp) fun j hj i v hv => ?_
  rw [cell_of (heap_alloc_last w _), Nat.zero_add]
  have := sc_get xs hx j hj i v hv
  simpa using this
def lenV : Value → Nat
  | .slice _ n _ => n
  | _ => 0
theorem OwnS.empty (B : Nat) (w : World) (hB : B ≤ w.heap.size) : OwnS B (w.alloc (.cells #[] 31)) (.slice (some ⟨w.heap.size, 0, none⟩) 0 0) [] :=
  ⟨World.ownsRow_made w #[] 0 hB (by decide) (by simp), all32.nil⟩
set_option maxHeartbeats 1600000 in
theorem sclone_any (v : Value) (l : Hs) (w : World) (hl : Sums w v l) (hn : l.length ≤ 1000000) :
    Calls Tryd.prog 27 #[v] w fun e w' => ∃ v', e = .returned v' ∧ OwnS w.heap.size w' v' l ∧ Below w.heap.size w w' := by
  obtain ⟨va, cap, rfl, hlc, hcap⟩ := hl.slice
  have q22 : ∀ (w : World) (a : Option Addr) (n c n' c' : Nat), (binOp .eql 22 (.slice a n c) (.slice none n' c')).run Tryd.prog w = .ok (.bool a.isNone) w := fun w a n c n' c' => Lib.run_eql_slice_nil w _ _ a n c n' c' Tryd.underlying22
  cases va with
  | none =>
    go_enter Tryd.func27, Tryd.ntmps27
    go_wp2
    go_ret
    rcases hl.news with ⟨_, rfl⟩ | ⟨a, c, e, _⟩
    · exact ⟨_, rfl, OwnS.nil _ _, Below.refl _ _⟩
    · injection e with e _ _; cases e
  | some va =>
    have bx : Below w.heap.size w (w.alloc (.cells #[] 31)) := (Below.refl _ _).alloc (Nat.le_refl _) _
    obtain ⟨v', w', hr, ho, hb⟩ := sappend_own (B := w.heap.size) 22 (OwnS.empty w.heap.size w (Nat.le_refl _)) (hl.old bx) (by simp) (by simp; omega)
    rw [List.nil_append] at ho
    have HO := Lib.hid ho
    have HR := Lib.hid hr
    clear ho hr
    go_enter Tryd.func27, Tryd.ntmps27
    go_wp2_with (at_builtin; refine Lib.wpList_append_run _ rfl _ _ _ _ rfl _ _ rfl rfl _ _ HR.out ?_)
    go_ret
    exact ⟨_, rfl, HO.out, bx.trans hb⟩
end Go.Proofs.YtgiakpnkidblpaaDoor
