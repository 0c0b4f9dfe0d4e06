/-
  Several texts in one (ProofBoth, ProofGoes, ProofRight).
-/
import Derived.Test.YtollcdalokhjaaaDoorMProofA
import Derived.Test.YtollcdalokhjaaaDoorMSeq
import Derived.Test.YtollcdalokhjaaaDoorMGen
import Derived.Deep.RegionHeld3
import Derived.Deep.DeepCutAuto
import Derived.Deep.MidRow
import Derived.Test.YtollcdalokhjaaaDoorMLeafL
/-! ## Package proof: Both. -/
namespace Go.Proofs.YtollcdalokhjaaaDoor
open Go.RowKit Go.Shelf

attribute [local go_sem] Oper.semAt_some

/-- Have the links as many hashes as they should? -/
def bothLen (m n : Int) (P : Hs) : Bool := decide ((P.length : Int) = if okL m n then ((Tree.llong m.toNat n.toNat true : Nat) : Int) else -1)
/-- What Both tells. -/
def bothZ (a : List UInt8) (m n : Int) (P : Hs) : (List UInt8 × List UInt8) × Bool := if bothLen m n P then (Tree.boths a m.toNat n.toNat true P, true) else ((List.replicate 32 0, List.replicate 32 0), false)
theorem bothLen_t {m n : Int} {P : Hs} (h : bothLen m n P = true) : okL m n = true ∧ P.length = Tree.llong m.toNat n.toNat true := by
  unfold bothLen at h
  rw [decide_eq_true_eq] at h
  cases e : okL m n with
  | true => rw [e, if_pos rfl] at h; exact ⟨rfl, by omega⟩
  | false => rw [e, if_neg (by decide)] at h; omega
theorem lead_ne {m n : Nat} {P : Hs} (h1 : 1 ≤ m) (hm : m ≤ n) (h : P.length = Tree.llong m n true) (hl : Tree.lead m n true = true) : P ≠ [] := by
  rw [Tree.llong_inw _ m n true h1 hm (Nat.le_refl _), hl] at h
  intro e
  rw [e] at h
  simp at h
theorem bothZ_length (a : List UInt8) (m n : Int) (P : Hs) (ha : a.length = 32) (hP : all32 P) : (bothZ a m n P).1.1.length = 32 ∧ (bothZ a m n P).1.2.length = 32 := by
  unfold bothZ
  split
  · rename_i h
    obtain ⟨h1, h2⟩ := bothLen_t h
    have := okL_t h1
    exact Tree.boths_length _ _ _ _ _ ha hP (lead_ne (by omega) (by omega) h2)
  · simp
/-- Two new variables, of one value. -/
def TwoNew (W : World) (cs : List Value) (s13 s14 : Value) (wx : World) : Prop :=
  ∃ e b, s13 = .pointer (some ⟨e, 0, none⟩) ∧ s14 = .pointer (some ⟨b, 0, none⟩) ∧ e ≠ b ∧ W.heap.size ≤ e ∧ W.heap.size ≤ b ∧ wx.heap[e]? = some (.cells cs.toArray 33 (0, 0)) ∧ wx.heap[b]? = some (.cells cs.toArray 33 (0, 0)) ∧ Below W.heap.size W wx
/-- Block e holds the hash x. -/
def IsH (x : List UInt8) (w : World) (e : Nat) : Prop := w.heap[e]? = some (.cells (x.map u8V).toArray 33 (0, 0))
def ZeroH (w : World) (e : Nat) : Prop := w.heap[e]? = some (.cells ((List.replicate 32 (0 : UInt8)).map u8V).toArray 33 (0, 0))
def Le4 (W : World) (x : List UInt8) (w w' : World) : Prop := Below W.heap.size w w' ∧ ∀ e, (IsH x w e → IsH x w' e) ∧ (ZeroH w e ∨ IsH x w e → ZeroH w' e ∨ IsH x w' e)
theorem Le4.refl (W : World) (x : List UInt8) (w : World) : Le4 W x w w := ⟨Below.refl _ _, fun _ => ⟨id, id⟩⟩
theorem Le4.trans {W : World} {x : List UInt8} {u v w : World} (h : Le4 W x u v) (k : Le4 W x v w) : Le4 W x u w := ⟨h.1.trans k.1, fun e => ⟨fun y => (k.2 e).1 ((h.2 e).1 y), fun y => (k.2 e).2 ((h.2 e).2 y)⟩⟩
theorem Le4.alloc (W : World) (x : List UInt8) {w : World} (hw : W.heap.size ≤ w.heap.size) (o : Obj) : Le4 W x w (w.alloc o) := by
  have hb : ∀ (e : Nat) (c : Obj), w.heap[e]? = some c → (w.alloc o).heap[e]? = some c := fun e c h => (((Below.refl w.heap.size w).alloc (Nat.le_refl _) o).block e (Array.getElem?_eq_some_iff.1 h).1).trans h
  exact ⟨(Below.refl _ _).alloc hw _, fun e => ⟨fun h => hb e _ h, fun h => h.elim (fun h => .inl (hb e _ h)) (fun h => .inr (hb e _ h))⟩⟩
theorem Le4.store (W : World) (x : List UInt8) (hx : x.length = 32) {w : World} {q : Nat} (hq : W.heap.size ≤ q) (h : ZeroH w q ∨ IsH x w q) : IsH x (w.setCells q 0 (x.map u8V)) q ∧ Le4 W x w (w.setCells q 0 (x.map u8V)) := by
  have hs : IsH x (w.setCells q 0 (x.map u8V)) q := h.elim (fun h => set_sumP w q _ x (by simp) hx h) (fun h => set_sumP w q x x hx hx h)
  refine ⟨hs, below_setCells hq _ _ _ (Below.refl _ _), fun e => ?_⟩
  by_cases he : e = q
  · subst he
    exact ⟨fun _ => hs, fun _ => .inr hs⟩
  · have hb : ∀ (c : Obj), w.heap[e]? = some c → (w.setCells q 0 (x.map u8V)).heap[e]? = some c := fun c h => ((only_setCells (b := q) (x.map u8V) 0 w (Only.refl _ _)).block e (Array.getElem?_eq_some_iff.1 h).1 he).trans h
    exact ⟨fun h => hb _ h, fun h => h.elim (fun h => .inl (hb _ h)) (fun h => .inr (hb _ h))⟩
def T4 (W : World) (x : List UInt8) (i : Nat) (v : Value) (w : World) : Prop := (i < 2 → v = .agg (x.map u8V).toArray) ∧ (i = 2 ∨ i = 3 → ∃ e, v = .pointer (some ⟨e, 0, none⟩) ∧ W.heap.size ≤ e ∧ e < w.heap.size ∧ (ZeroH w e ∨ IsH x w e))
def U4 (x : List UInt8) (i j : Nat) (v u : Value) (w : World) : Prop :=
  (i = 2 ∧ j = 3 → ∀ e b, v = .pointer (some ⟨e, 0, none⟩) → u = .pointer (some ⟨b, 0, none⟩) → e ≠ b) ∧ (i = 2 ∧ j = 4 → ∀ e, v = .pointer (some ⟨e, 0, none⟩) → IsH x w e) ∧ (i = 3 ∧ j = 5 → ∀ e, v = .pointer (some ⟨e, 0, none⟩) → IsH x w e)
theorem T4.st (W : World) (x : List UInt8) (i : Nat) (v : Value) (w w' : World) (h : T4 W x i v w) (k : Le4 W x w w') : T4 W x i v w' :=
  ⟨h.1, fun hi => by obtain ⟨e, e1, e2, e3, e4⟩ := h.2 hi; exact ⟨e, e1, e2, Nat.lt_of_lt_of_le e3 k.1.size, (k.2 e).2 e4⟩⟩
theorem U4.st (W : World) (x : List UInt8) (i j : Nat) (v u : Value) (w w' : World) (h : U4 x i j v u w) (k : Le4 W x w w') : U4 x i j v u w' :=
  ⟨h.1, fun hi e he => (k.2 e).1 (h.2.1 hi e he), fun hi e he => (k.2 e).1 (h.2.2 hi e he)⟩
theorem alloc_sumP (u : World) : (Instr.alloc 33 true (.tuple #[])).run Tryd.prog u = .ok (.pointer (some ⟨u.heap.size, 0, none⟩)) (u.alloc zSum) := by go_simp; rfl
section
variable {ops : Array Oper} {Q : Exit → Act → World → Prop} {a : Act} {w w' : World} {K : Act → World → Prop} {o : Oper}
theorem rop_allocP (t : TypeId) (hop : o.op = .alloc t) {v : Value} (hr : (Instr.alloc t true (.tuple #[])).run Tryd.prog w = .ok v w') (hw : Region.wanted o (yielded ops a.tmps) = true) (h : K (a.put o.dst v) w') :
    if Region.wanted o (yielded ops a.tmps) = true then Oper.wp Tryd.prog o a w K Q else K (a.put o.dst undef) w :=
  rop_v hw (by simp [execOp, hop, hr]) h
end
/-- Two new variables, one behind the other; the first one set. -/
theorem two_new (w : World) (x : List UInt8) (hx : x.length = 32) : ZeroH ((w.alloc zSum).alloc zSum) w.heap.size ∧ ZeroH (((w.alloc zSum).alloc zSum).setCells w.heap.size 0 (x.map u8V)) (w.heap.size + 1) ∧ IsH x (((w.alloc zSum).alloc zSum).setCells w.heap.size 0 (x.map u8V)) w.heap.size := by
  have h1 : ZeroH ((w.alloc zSum).alloc zSum) w.heap.size := (Below.heap_alloc _ _ _ (by simp)).trans (heap_alloc_last w zSum)
  have h2 : ZeroH ((w.alloc zSum).alloc zSum) (w.heap.size + 1) := by
    have := heap_alloc_last (w.alloc zSum) zSum
    rwa [World.size_alloc] at this
  exact ⟨h1, ((only_setCells (b := w.heap.size) (x.map u8V) 0 _ (Only.refl _ _)).block _ (Array.getElem?_eq_some_iff.1 h2).1 (by omega)).trans h2, set_sumP _ _ _ x (by simp) hx h1⟩
/-- Ahead of the parts: both hashes are S0; the links that are left are L0. -/
def LeadRel (e b p12 : Nat) (S0 : List UInt8) (w : World) (i0 : Nat) (L0 : Hs) (V wx : World) : Prop :=
  IsH S0 wx e ∧ IsH S0 wx b ∧ (∃ vL cL, wx.heap[p12]? = some (.cells #[.slice vL i0 cL] 27 (0, 0)) ∧ SumsB w.heap.size w (.slice vL i0 cL) L0) ∧ OnlyS (fun i => i = p12 ∨ i = e ∨ i = b) V wx
theorem OwnB.kept' {B : Nat} {w w' : World} {v : Value} {l : List Bool} (h : OwnB B w v l) (k : ∀ g, v.ownBlock = some g → w'.heap[g]? = w.heap[g]?) : OwnB B w' v l := by
  obtain ⟨h1, h2⟩ := h
  refine ⟨h1, ?_⟩
  rcases h2 with e | ⟨g, cap, cur, e1, e2, hg, r⟩
  · exact .inl e
  · exact .inr ⟨g, cap, cur, e1, e2, (k g (by rw [e1]; rfl)).trans hg, r⟩
/-- Behind so many of the three stores. -/
def BoPh (w V : World) (e b p12 : Nat) (a S0 : List UInt8) (v v' : Value) (ph : Nat) (u : World) : Prop :=
  Below w.heap.size w u ∧ OnlyS (fun i => i = p12 ∨ i = e ∨ i = b) V u ∧ IsH (if ph = 0 then a else S0) u e ∧ IsH (if ph < 2 then a else S0) u b ∧ u.heap[p12]? = some (.cells #[if ph < 3 then v else v'] 27 (0, 0))
theorem IsH.far {x : List UInt8} {u : World} {k q : Nat} {cs : List Value} (h : IsH x u k) (hk : k ≠ q) : IsH x (u.setCells q 0 cs) k := ((only_setCells (b := q) cs 0 u (Only.refl _ _)).block k (Array.getElem?_eq_some_iff.1 h).1 hk).trans h
theorem BoPh.s1 {w V : World} {e b p12 : Nat} {a S0 : List UInt8} {v v' : Value} {u : World} (h : BoPh w V e b p12 a S0 v v' 0 u) (ha : a.length = 32) (hS : S0.length = 32) (hne : e ≠ b) (h1 : p12 < e) (hw : w.heap.size ≤ p12) : BoPh w V e b p12 a S0 v v' 1 (u.setCells e 0 (S0.map u8V)) :=
  ⟨below_setCells (by omega) _ _ _ h.1, h.2.1.trans (OnlyS.of_only (only_setCells (b := e) _ 0 _ (Only.refl _ _)) (.inr (.inl rfl))), set_sumP u e a S0 ha hS h.2.2.1, h.2.2.2.1.far (Ne.symm hne), ((only_setCells (b := e) _ 0 u (Only.refl _ _)).block p12 (Array.getElem?_eq_some_iff.1 h.2.2.2.2).1 (by omega)).trans h.2.2.2.2⟩
theorem BoPh.s2 {w V : World} {e b p12 : Nat} {a S0 : List UInt8} {v v' : Value} {u : World} (h : BoPh w V e b p12 a S0 v v' 1 u) (ha : a.length = 32) (hS : S0.length = 32) (hne : e ≠ b) (h1 : p12 < b) (hw : w.heap.size ≤ p12) : BoPh w V e b p12 a S0 v v' 2 (u.setCells b 0 (S0.map u8V)) :=
  ⟨below_setCells (by omega) _ _ _ h.1, h.2.1.trans (OnlyS.of_only (only_setCells (b := b) _ 0 _ (Only.refl _ _)) (.inr (.inr rfl))), h.2.2.1.far hne, set_sumP u b a S0 ha hS h.2.2.2.1, ((only_setCells (b := b) _ 0 u (Only.refl _ _)).block p12 (Array.getElem?_eq_some_iff.1 h.2.2.2.2).1 (by omega)).trans h.2.2.2.2⟩
theorem BoPh.s3 {w V : World} {e b p12 : Nat} {a S0 : List UInt8} {v v' : Value} {u : World} (h : BoPh w V e b p12 a S0 v v' 2 u) (h1 : p12 < e) (h2 : p12 < b) (hw : w.heap.size ≤ p12) : BoPh w V e b p12 a S0 v v' 3 (u.setCell ⟨p12, 0, none⟩ v') :=
  ⟨h.1.setCell (p := ⟨p12, 0, none⟩) hw _, h.2.1.trans (OnlyS.of_only ((Only.refl p12 u).setCell 0 _) (.inl rfl)), (Below.heap_setCell _ _ _ _ (by simp; omega)).trans h.2.2.1, (Below.heap_setCell _ _ _ _ (by simp; omega)).trans h.2.2.2.1, heap_set h.2.2.2.2 _⟩
/-- At the end, behind so many of the two stores. -/
def EndPh (w : World) (e b : Nat) (X Y : List UInt8) (Dd ph : Nat) (u : World) : Prop :=
  Below w.heap.size w u ∧ (IsH X u e ∧ IsH Y u b) ∧ IsH (if ph = 0 then List.replicate 32 0 else X) u (w.heap.size + 1) ∧ IsH (if ph < 2 then List.replicate 32 0 else Y) u (w.heap.size + 1 + 1) ∧ u.heap[Dd]? = some (.deferred (some []))
theorem defer_far {u : World} {Dd q : Nat} {cs vs : List Value} {T : TypeId} (h : u.heap[Dd]? = some (.deferred (some []))) (hq : u.heap[q]? = some (.cells cs.toArray T (0, 0))) : (u.setCells q 0 vs).heap[Dd]? = some (.deferred (some [])) := by
  refine ((only_setCells (b := q) vs 0 u (Only.refl _ _)).block Dd (Array.getElem?_eq_some_iff.1 h).1 (fun e => ?_)).trans h
  subst e
  rw [h] at hq
  cases hq
theorem EndPh.s1 {w : World} {e b : Nat} {X Y : List UInt8} {Dd : Nat} {u : World} (h : EndPh w e b X Y Dd 0 u) (hX : X.length = 32) (h1 : w.heap.size + 1 < e) (h2 : w.heap.size + 1 < b) : EndPh w e b X Y Dd 1 (u.setCells (w.heap.size + 1) 0 (X.map u8V)) :=
  ⟨below_setCells (Nat.le_succ _) _ _ _ h.1, ⟨h.2.1.1.far (by omega), h.2.1.2.far (by omega)⟩, set_sumP u _ _ X (by simp) hX h.2.2.1, h.2.2.2.1.far (by omega), defer_far h.2.2.2.2 h.2.2.1⟩
theorem EndPh.s2 {w : World} {e b : Nat} {X Y : List UInt8} {Dd : Nat} {u : World} (h : EndPh w e b X Y Dd 1 u) (hY : Y.length = 32) (h1 : w.heap.size + 1 + 1 < e) (h2 : w.heap.size + 1 + 1 < b) : EndPh w e b X Y Dd 2 (u.setCells (w.heap.size + 1 + 1) 0 (Y.map u8V)) :=
  ⟨below_setCells (by omega) _ _ _ h.1, ⟨h.2.1.1.far (by omega), h.2.1.2.far (by omega)⟩, h.2.2.1.far (by omega), set_sumP u _ _ Y (by simp) hY h.2.2.2.1, defer_far h.2.2.2.2 h.2.2.2.1⟩
end Go.Proofs.YtollcdalokhjaaaDoor
/-! ## Package proof: Goes. -/
namespace Go.Proofs.YtollcdalokhjaaaDoor
open Go.RowKit

theorem eql_sum_ff (a b : List UInt8) (ha : a.length = 32) (hb : b.length = 32) (h : ¬ a = b) (w : World) : (binOp .eql 33 (sumV a) (sumV b)).run Tryd.prog w = .ok (.bool false) w := by
  have := eql_sum a b ha hb w
  rwa [decide_eq_false h] at this
/-- What Goes tells. -/
def goesZ (a : List UInt8) (m : Int) (b : List UInt8) (n : Int) (P : Hs) : Bool := (bothZ a m n P).2 && (decide ((bothZ a m n P).1.1 = a) && decide ((bothZ a m n P).1.2 = b))
end Go.Proofs.YtollcdalokhjaaaDoor
/-! ## Package proof: Right. -/
namespace Go.Proofs.YtollcdalokhjaaaDoor
open Go.RowKit

end Go.Proofs.YtollcdalokhjaaaDoor
