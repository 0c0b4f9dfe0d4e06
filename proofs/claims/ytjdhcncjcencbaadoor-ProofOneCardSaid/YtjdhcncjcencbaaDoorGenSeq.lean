/-
  Ranges over functions: laws that they share.
-/
import Derived.Test.YtjdhcncjcencbaaDoorMGen
import Derived.RangeFuncNested
import Derived.RangeFuncBound
import Derived.RangeFuncCalls
import Derived.RangeFuncLeaves
import Derived.Shelf.Abstract
import Derived.Shelf.RegionOpen
import Derived.WalkKit
import Derived.OwnWalkIn
import Derived.TacticsInMore
import Derived.LoopNIn
import Derived.LoopIn
namespace Go.Proofs.YtjdhcncjcencbaaDoor
open Go.RowKit Go.Shelf

attribute [local go_sem] Oper.semAt_some

section
variable {F : Fence} {n : Nat} {P : Program} {ops : Array Oper} {rest : List Oper} {o : Oper} {a : Act} {w w' : World} {Q : Exit → Act → World → Prop}
theorem wpListIn_ld (hg : o.guard = none) (t : TypeId) (x : Operand) (hop : o.op = .load t x) {u r : Value} (hx : a.eval x = u) (hr : (Instr.loadAt t u).run P w = .ok r w) (h : wpListIn F n P ops Q rest (a.put o.dst r) w) : wpListIn F n P ops Q (o :: rest) a w := by
  refine wpListIn_plain hg fun K hK' => ?_
  unfold Oper.wpIn
  refine ⟨?_, ?_⟩
  · simp [Oper.about, hop]
  · rw [Oper.semAt_plain F _ _ (by rw [hop]; intro c hc'; cases hc')]
    simp [execOp, hop, hx, hr, Result.andThen]
    exact hK' _ _ h
theorem wpListIn_st (hg : o.guard = none) (t : TypeId) (x y : Operand) (hop : o.op = .store t x y) {u v : Value} (hx : a.eval x = u) (hy : a.eval y = v) (hr : (Instr.storeAt t u v).run P w = .ok () w') (h : wpListIn F n P ops Q rest (a.put o.dst undef) w') : wpListIn F n P ops Q (o :: rest) a w := by
  refine wpListIn_plain hg fun K hK' => ?_
  unfold Oper.wpIn
  refine ⟨?_, ?_⟩
  · simp [Oper.about, hop]
  · rw [Oper.semAt_plain F _ _ (by rw [hop]; intro c hc'; cases hc')]
    simp [execOp, hop, hx, hy, hr, Result.andThen]
    exact hK' _ _ h
theorem wpListIn_sl (hg : o.guard = none) (t : TypeId) (x : Operand) (lo hi mx : Option Operand) (hop : o.op = .slice t x lo hi mx) {u r : Value} {lo' hi' mx' : Option Value} (hx : a.eval x = u) (h1 : lo.map a.eval = lo') (h2 : hi.map a.eval = hi') (h3 : mx.map a.eval = mx') (hr : (Instr.sliceAt t u lo' hi' mx').run P w = .ok r w) (h : wpListIn F n P ops Q rest (a.put o.dst r) w) : wpListIn F n P ops Q (o :: rest) a w := by
  refine wpListIn_plain hg fun K hK' => ?_
  unfold Oper.wpIn
  refine ⟨?_, ?_⟩
  · simp [Oper.about, hop]
  · rw [Oper.semAt_plain F _ _ (by rw [hop]; intro c hc'; cases hc')]
    simp [execOp, hop, hx, h1, h2, h3, hr, Result.andThen]
    exact hK' _ _ h
end
/-- Below n₀ nothing but the blocks of S turns. -/
def KeepS (S : Nat → Prop) (n₀ : Nat) (A B : World) : Prop := A.heap.size ≤ B.heap.size ∧ ∀ i, i < n₀ → ¬ S i → B.heap[i]? = A.heap[i]?
theorem KeepS.refl (S : Nat → Prop) (n₀ : Nat) (A : World) : KeepS S n₀ A A := ⟨Nat.le_refl _, fun _ _ _ => rfl⟩
theorem KeepS.trans {S : Nat → Prop} {n₀ : Nat} {A B C : World} (h : KeepS S n₀ A B) (k : KeepS S n₀ B C) : KeepS S n₀ A C := ⟨Nat.le_trans h.1 k.1, fun i hi hr => (k.2 i hi hr).trans (h.2 i hi hr)⟩
theorem KeepS.cell {S : Nat → Prop} {n₀ : Nat} {A B : World} (h : KeepS S n₀ A B) {i : Nat} (hi : i < n₀) (hr : ¬ S i) (o : Nat) : B.cell? ⟨i, o, none⟩ = A.cell? ⟨i, o, none⟩ := World.cell?_of_block (w := A) (h.2 i hi hr)
theorem KeepS.range {S : Nat → Prop} {n₀ : Nat} {A B : World} (h : KeepS S n₀ A B) {i o : Nat} (hi : i < n₀) (hr : ¬ S i) {cs : List Value} (r : A.rangeAt i o cs) : B.rangeAt i o cs := fun j v hv => (h.cell hi hr (o + j)).trans (r j v hv)
theorem KeepS.below {S : Nat → Prop} {n₀ : Nat} {A B : World} (h : Below n₀ A B) : KeepS S n₀ A B := ⟨h.size, fun i hi _ => h.block i hi⟩
theorem KeepS.put {S : Nat → Prop} {n₀ : Nat} {w : World} (hn : n₀ ≤ w.heap.size) (W : World) (l : Nat) (o o' : Obj) (hl : w.heap.size ≤ l) (h : W.heap[l]? = some o) (h1 : o.isCells = false) (h2 : o.isWalk = false) : KeepS S n₀ W (W.putObj l o') := KeepS.below (belowK_b hn W l o o' hl h h1 h2)
theorem cells_ownF {β : Type} (B b : Nat) (C : Array Value) (T : TypeId) (fr : Nat × Nat) : OwnFrom B (fun (_ : β) W => W.heap[b]? = some (.cells C T fr)) := by
  intro s W W' row hs hg hr
  refine (hg.block b (Array.getElem?_eq_some_iff.1 hs).1 fun e => ?_).trans hs
  obtain ⟨_, o, ho, hc⟩ := hr b e.symm
  rw [hs] at ho
  cases ho
  cases hc
theorem keeps_below {B : Nat} {W W' : World} (h : Below W.heap.size W W') : KeepsFrom B W W' := ⟨h.size, fun k _o _hk h0 _ho => (h.block k (Array.getElem?_eq_some_iff.1 h0).1).trans h0⟩
theorem keeps_only {B q : Nat} {W W' : World} (h : Only q W W') (hq : q < B) : KeepsFrom B W W' := ⟨h.size, fun k o hk h0 ho => (h.block k (Array.getElem?_eq_some_iff.1 h0).1 (by omega)).trans h0⟩
theorem cast_tmps {c : Code} {F : Fence} {n : Nat} {P : Program} {Q : Exit → Act → World → Prop} {T T' : Array Value} {D : List Deferred} {W : World} (h : T' = T) (g : c.wpIn F n P Q { tmps := T, defers := D } W) : c.wpIn F n P Q { tmps := T', defers := D } W := h ▸ g
theorem ownFrom_pureF {β : Type} {B : Nat} (p : β → Prop) : OwnFrom B (fun s (_ : World) => p s) := fun _ _ _ _ hs _ _ => hs
/-- No block that was there has turned, but those of S. -/
structure OnlyS (S : Nat → Prop) (w w' : World) : Prop where
  os : w'.os = w.os
  tape : w'.tape = w.tape
  output : w'.output = w.output
  size : w.heap.size ≤ w'.heap.size
  block : ∀ k, k < w.heap.size → ¬ S k → w'.heap[k]? = w.heap[k]?
theorem OnlyS.refl (S : Nat → Prop) (w : World) : OnlyS S w w := ⟨rfl, rfl, rfl, Nat.le_refl _, fun _ _ _ => rfl⟩
theorem OnlyS.trans {S : Nat → Prop} {u v w : World} (h : OnlyS S u v) (k : OnlyS S v w) : OnlyS S u w :=
  ⟨k.os.trans h.os, k.tape.trans h.tape, k.output.trans h.output, Nat.le_trans h.size k.size, fun i hi hb => (k.block i (Nat.lt_of_lt_of_le hi h.size) hb).trans (h.block i hi hb)⟩
theorem OnlyS.of_below {S : Nat → Prop} {w w' : World} (h : Below w.heap.size w w') : OnlyS S w w' := ⟨h.os, h.tape, h.output, h.size, fun k hk _ => h.block k hk⟩
theorem OnlyS.of_only {S : Nat → Prop} {b : Nat} {w w' : World} (h : Only b w w') (hb : S b) : OnlyS S w w' := ⟨h.os, h.tape, h.output, h.size, fun k hk hs => h.block k hk (fun e => hs (e ▸ hb))⟩
theorem OnlyS.below {S : Nat → Prop} {B : Nat} {w w' : World} (h : OnlyS S w w') (hS : ∀ i, S i → B ≤ i) (hB : B ≤ w.heap.size) : Below B w w' :=
  ⟨h.os, h.tape, h.output, h.size, fun k hk => h.block k (by omega) (fun hs => by have := hS k hs; omega)⟩
theorem keeps_onlyS {S : Nat → Prop} {B : Nat} {W W' : World} (h : OnlyS S W W') (hq : ∀ i, S i → i < B) : KeepsFrom B W W' := ⟨h.size, fun k _o hk h0 _ho => (h.block k (Array.getElem?_eq_some_iff.1 h0).1 (fun hs => by have := hq k hs; omega)).trans h0⟩
theorem OnlyS.keep {S : Nat → Prop} {n₀ : Nat} {A B : World} (h : OnlyS S A B) (hn : n₀ ≤ A.heap.size) : KeepS S n₀ A B := ⟨h.size, fun i hi hs => h.block i (by omega) hs⟩
end Go.Proofs.YtjdhcncjcencbaaDoor
