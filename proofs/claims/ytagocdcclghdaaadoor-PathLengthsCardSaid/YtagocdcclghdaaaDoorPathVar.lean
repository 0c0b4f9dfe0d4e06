/-
  A variable that holds a row of hashes, and one that holds the closure that puts to it: what lies in memory, what an append does.
-/
import Derived.Test.YtagocdcclghdaaaDoorPathCut
import Derived.Test.YtagocdcclghdaaaDoorLeafRoot
namespace Go.Proofs.YtagocdcclghdaaaDoor
open Go.RowKit

theorem KT.oldB {B : Nat} {w w' : World} (hK : KT w) (h : Below B w w') (hB : 0 < B) : KT w' := fun i hi => (h.cell (by exact hB)).trans (hK i hi)
/-- Block cp is a variable that has the row P, which is the call's own; block ci is one that has the closure f. -/
structure IC (B cp ci : Nat) (T : TypeId) (f : Value) (P : Hs) (w : World) : Prop where
  row : ∃ v, w.heap[cp]? = some (.cells #[v] 22 (0, 0)) ∧ OwnS B w v P
  fn : w.heap[ci]? = some (.cells #[f] T (0, 0))
  lc : B ≤ cp
  li : B ≤ ci
  ne : cp ≠ ci
theorem IC.lt {B cp ci : Nat} {T : TypeId} {f : Value} {P : Hs} {w : World} (h : IC B cp ci T f P w) : cp < w.heap.size ∧ ci < w.heap.size := by
  obtain ⟨v, h1, _⟩ := h.row
  exact ⟨(Array.getElem?_eq_some_iff.1 h1).1, (Array.getElem?_eq_some_iff.1 h.fn).1⟩
theorem IC.size {B cp ci : Nat} {T : TypeId} {f : Value} {P : Hs} {w : World} (h : IC B cp ci T f P w) : B ≤ w.heap.size := by have := h.lt; have := h.lc; omega
theorem IC.old {B cp ci : Nat} {T : TypeId} {f : Value} {P : Hs} {w w' : World} (h : IC B cp ci T f P w) (hb : Below w.heap.size w w') : IC B cp ci T f P w' := by
  obtain ⟨v, h1, h2⟩ := h.row
  have hl := h.lt
  exact ⟨⟨v, (hb.block _ hl.1).trans h1, h2.kept hb⟩, (hb.block _ hl.2).trans h.fn, h.lc, h.li, h.ne⟩
theorem OwnS.typed {B : Nat} {w : World} {v : Value} {l : Hs} (h : OwnS B w v l) {g : Nat} (hg : v.ownBlock = some g) : ∃ cur, w.heap[g]? = some (.cells cur 35 (0, 0)) := by
  rcases h.1.2 with ⟨rfl, _⟩ | ⟨g', cap, cur, rfl, _, hh, _⟩
  · cases hg
  · injection hg with hg
    subst hg
    exact ⟨cur, hh⟩
theorem OwnS.not {B : Nat} {w : World} {v : Value} {l : Hs} (h : OwnS B w v l) {c : Nat} {x : Array Value} {T : TypeId} (hc : w.heap[c]? = some (.cells x T (0, 0))) (hT : T ≠ 35) : v.ownBlock ≠ some c := by
  intro e
  obtain ⟨cur, hh⟩ := h.typed e
  rw [hc] at hh
  injection hh with hh
  injection hh with _ hh _
  exact hT hh
theorem ne_sums : 22 ≠ 35 := by decide
/-- The append: the variables stay as they are. -/
theorem IC.app {B cp ci : Nat} {T : TypeId} {f : Value} {P : Hs} {w : World} (h : IC B cp ci T f P w) (hT : T ≠ 35) {v0 : Value} (hv : w.heap[cp]? = some (.cells #[v0] 22 (0, 0))) {w1 : World} (hb : Below w.heap.size w w1) {x : Value} {D : List UInt8} (hx : Sums w1 x [D]) (hl : P.length ≤ 1000000) (ty : TypeId) :
    ∃ v6 w6, (Builtin.append_ #[22, 22] ty #[v0, x]).run Tryd.prog w1 = .ok v6 w6 ∧ OwnS B w6 v6 (P ++ [D]) ∧ Below B w w6 ∧ w6.heap[cp]? = some (.cells #[v0] 22 (0, 0)) ∧ w6.heap[ci]? = some (.cells #[f] T (0, 0)) := by
  obtain ⟨v, h1, h2⟩ := h.row
  rw [hv] at h1
  injection h1 with h1
  injection h1 with h1 _ _
  obtain rfl : v0 = v := by simpa using h1
  have hl' := h.lt
  have hs := hb.size
  have hlc := h.lc
  have ho1 := h2.kept hb
  obtain ⟨v6, w6, hr, ho, bb, hg, _⟩ := sappend_own' (B := B) ty ho1 hx (by omega) (by simp; omega)
  have c1 := (hb.block _ hl'.1).trans hv
  have c2 := (hb.block _ hl'.2).trans h.fn
  exact ⟨v6, w6, hr, ho, (hb.mono (by omega)).trans bb, (hg.block _ (by omega) (fun e => ho1.not c1 ne_sums e.symm)).trans c1, (hg.block _ (by omega) (fun e => ho1.not c2 hT e.symm)).trans c2⟩
/-- The store. -/
theorem IC.put {B cp ci : Nat} {T : TypeId} {f : Value} {Q : Hs} {w : World} {v v0 : Value} (ho : OwnS B w v Q) (hc : w.heap[cp]? = some (.cells #[v0] 22 (0, 0))) (hf : w.heap[ci]? = some (.cells #[f] T (0, 0))) (lc : B ≤ cp) (li : B ≤ ci) (ne : cp ≠ ci) : IC B cp ci T f Q (w.setCell ⟨cp, 0, none⟩ v) := by
  refine ⟨⟨v, ?_, ho.kept' fun g e => heap_far (fun e' => ho.not hc ne_sums (by rw [e, e'])) v⟩, (heap_far (Ne.symm ne) v).trans hf, lc, li, ne⟩
  have := heap_set (i := 0) hc v
  simpa using this
theorem store_sumsl {b o : Nat} {x : Option Addr} {n c : Nat} {u : Value} {w : World} (h0 : w.cell? ⟨b, o, none⟩ = some u) (h1 : w.frozen? ⟨b, o, none⟩ = false) : (Instr.storeAt 22 (.pointer (some ⟨b, o, none⟩)) (.slice x n c)).run Tryd.prog w = .ok () (w.setCell ⟨b, o, none⟩ (.slice x n c)) := by
  go_simp
theorem load_sumslP {b o : Nat} {x : Option Addr} {n c : Nat} {w : World} (h0 : w.cell? ⟨b, o, none⟩ = some (.slice x n c)) : (Instr.loadAt 22 (.pointer (some ⟨b, o, none⟩))).run Tryd.prog w = .ok (.slice x n c) w := by
  go_simp
/-- How the world goes on, where from effect N on blocks of the call's own may turn. -/
def GLy (N : Nat) (k k' : Nat) (w w' : World) : Prop := (k = k' ∧ w = w') ∨ (k' = k + 1 ∧ (k' < N → Below w.heap.size w w'))
theorem GLy.same {N k : Nat} {w : World} : GLy N k k w w := .inl ⟨rfl, rfl⟩
theorem GLy.old {N k : Nat} {w w' : World} (hb : Below w.heap.size w w') : GLy N k (k + 1) w w' := .inr ⟨rfl, fun _ => hb⟩
theorem GLy.own {N k : Nat} {w w' : World} (h : N ≤ k + 1) : GLy N k (k + 1) w w' := .inr ⟨rfl, fun h' => absurd h' (by omega)⟩
/-- What lasts till blocks of the call's own turn. -/
def RXP.tillY {N : Nat} (p : Value → World → Prop) (hp : ∀ v w w', p v w → Below w.heap.size w w' → p v w') : RXP (GLy N) := ⟨fun k v w => k < N → p v w, fun v w w' k k' h hx hk => by
  rcases hx with ⟨rfl, rfl⟩ | ⟨rfl, hb⟩
  · exact h hk
  · exact hp v w w' (h (by omega)) (hb hk)⟩
/-- What is so right behind effect N. -/
def RXP.atY {N : Nat} (p : Value → World → Prop) : RXP (GLy N) := ⟨fun k v w => N ≤ k ∧ (k = N → p v w), fun v w w' k k' h hx => by
  rcases hx with ⟨rfl, rfl⟩ | ⟨rfl, hb⟩
  · exact h
  · exact ⟨by omega, fun e => by omega⟩⟩
end Go.Proofs.YtagocdcclghdaaaDoor
