/-
  Several texts in one (ProofBoth, ProofGoes, ProofRight).
-/
import Derived.Test.YtdcebdleneieeaaDoorMProofA
import Derived.Test.YtdcebdleneieeaaDoorMSeq
import Derived.Test.YtdcebdleneieeaaDoorMGen
import Derived.Deep.RegionHeld3
import Derived.Deep.DeepCutAuto
import Derived.Deep.MidRow
import Derived.Test.YtdcebdleneieeaaDoorMLeafL
/-! ## Package proof: Both. -/
namespace Go.Proofs.YtdcebdleneieeaaDoor
open Go.RowKit Go.Shelf

attribute [local go_sem] Oper.semAt_some

/-- Have the links as many hashes as they should? -/
def bothLen (m n : Int) (P : Hs) : Bool := decide ((P.length : Int) = if okL m n then ((Tree.llong m.toNat n.toNat true : Nat) : Int) else -1)
/-- What Both tells. -/
def bothZ (a : List UInt8) (m n : Int) (P : Hs) : (List UInt8 × List UInt8) × Bool := if bothLen m n P then (Tree.boths a m.toNat n.toNat true P, true) else ((List.replicate 32 0, List.replicate 32 0), false)
theorem bothLen_t {m n : Int} {P : Hs} (h : bothLen m n P = true) : okL m n = true ∧ P.length = Tree.llong m.toNat n.toNat true := by
  unfold bothLen at h
  rw [decide_eq_true_eq] at h
  cases e : okL m n with
  | true => rw [e, if_pos rfl] at h; exact ⟨rfl, by omega⟩
  | false => rw [e, if_neg (by decide)] at h; omega
theorem lead_ne {m n : Nat} {P : Hs} (h1 : 1 ≤ m) (hm : m ≤ n) (h : P.length = Tree.llong m n true) (hl : Tree.lead m n true = true) : P ≠ [] := by
  rw [Tree.llong_inw _ m n true h1 hm (Nat.le_refl _), hl] at h
  intro e
  rw [e] at h
  simp at h
theorem bothZ_length (a : List UInt8) (m n : Int) (P : Hs) (ha : a.length = 32) (hP : all32 P) : (bothZ a m n P).1.1.length = 32 ∧ (bothZ a m n P).1.2.length = 32 := by
  unfold bothZ
  split
  · rename_i h
    obtain ⟨h1, h2⟩ := bothLen_t h
    have := okL_t h1
    exact Tree.boths_length _ _ _ _ _ ha hP (lead_ne (by omega) (by omega) h2)
  · simp
/-- Two new variables, of one value. -/
def TwoNew (W : World) (cs : List Value) (s13 s14 : Value) (wx : World) : Prop :=
  ∃ e b, s13 = .pointer (some ⟨e, 0, none⟩) ∧ s14 = .pointer (some ⟨b, 0, none⟩) ∧ e ≠ b ∧ W.heap.size ≤ e ∧ W.heap.size ≤ b ∧ wx.heap[e]? = some (.cells cs.toArray 24 (0, 0)) ∧ wx.heap[b]? = some (.cells cs.toArray 24 (0, 0)) ∧ Below W.heap.size W wx
/-- Block e holds the hash x. -/
def IsH (x : List UInt8) (w : World) (e : Nat) : Prop := w.heap[e]? = some (.cells (x.map u8V).toArray 24 (0, 0))
def ZeroH (w : World) (e : Nat) : Prop := w.heap[e]? = some (.cells ((List.replicate 32 (0 : UInt8)).map u8V).toArray 24 (0, 0))
def Le4 (W : World) (x : List UInt8) (w w' : World) : Prop := Below W.heap.size w w' ∧ ∀ e, (IsH x w e → IsH x w' e) ∧ (ZeroH w e ∨ IsH x w e → ZeroH w' e ∨ IsH x w' e)
theorem Le4.refl (W : World) (x : List UInt8) (w : World) : Le4 W x w w := ⟨Below.refl _ _, fun _ => ⟨id, id⟩⟩
theorem Le4.trans {W : World} {x : List UInt8} {u v w : World} (h : Le4 W x u v) (k : Le4 W x v w) : Le4 W x u w := ⟨h.1.trans k.1, fun e => ⟨fun y => (k.2 e).1 ((h.2 e).1 y), fun y => (k.2 e).2 ((h.2 e).2 y)⟩⟩
theorem Le4.alloc (W : World) (x : List UInt8) {w : World} (hw : W.heap.size ≤ w.heap.size) (o : Obj) : Le4 W x w (w.alloc o) := by
  have hb : ∀ (e : Nat) (c : Obj), w.heap[e]? = some c → (w.alloc o).heap[e]? = some c := fun e c h => (((Below.refl w.heap.size w).alloc (Nat.le_refl _) o).block e (Array.getElem?_eq_some_iff.1 h).1).trans h
  exact ⟨(Below.refl _ _).alloc hw _, fun e => ⟨fun h => hb e _ h, fun h => h.elim (fun h => .inl (hb e _ h)) (fun h => .inr (hb e _ h))⟩⟩
theorem Le4.store (W : World) (x : List UInt8) (hx : x.length = 32) {w : World} {q : Nat} (hq : W.heap.size ≤ q) (h : ZeroH w q ∨ IsH x w q) : IsH x (w.setCells q 0 (x.map u8V)) q ∧ Le4 W x w (w.setCells q 0 (x.map u8V)) := by
  have hs : IsH x (w.setCells q 0 (x.map u8V)) q := h.elim (fun h => set_sumP w q _ x (by simp) hx h) (fun h => set_sumP w q x x hx hx h)
  refine ⟨hs, below_setCells hq _ _ _ (Below.refl _ _), fun e => ?_⟩
  by_cases he : e = q
  · subst he
    exact ⟨fun _ => hs, fun _ => .inr hs⟩
  · have hb : ∀ (c : Obj), w.heap[e]? = some c → (w.setCells q 0 (x.map u8V)).heap[e]? = some c := fun c h => ((only_setCells (b := q) (x.map u8V) 0 w (Only.refl _ _)).block e (Array.getElem?_eq_some_iff.1 h).1 he).trans h
    exact ⟨fun h => hb _ h, fun h => h.elim (fun h => .inl (hb _ h)) (fun h => .inr (hb _ h))⟩
def T4 (W : World) (x : List UInt8) (i : Nat) (v : Value) (w : World) : Prop := (i < 2 → v = .agg (x.map u8V).toArray) ∧ (i = 2 ∨ i = 3 → ∃ e, v = .pointer (some ⟨e, 0, none⟩) ∧ W.heap.size ≤ e ∧ e < w.heap.size ∧ (ZeroH w e ∨ IsH x w e))
def U4 (x : List UInt8) (i j : Nat) (v u : Value) (w : World) : Prop :=
  (i = 2 ∧ j = 3 → ∀ e b, v = .pointer (some ⟨e, 0, none⟩) → u = .pointer (some ⟨b, 0, none⟩) → e ≠ b) ∧ (i = 2 ∧ j = 4 → ∀ e, v = .pointer (some ⟨e, 0, none⟩) → IsH x w e) ∧ (i = 3 ∧ j = 5 → ∀ e, v = .pointer (some ⟨e, 0, none⟩) → IsH x w e)
theorem T4.st (W : World) (x : List UInt8) (i : Nat) (v : Value) (w w' : World) (h : T4 W x i v w) (k : Le4 W x w w') : T4 W x i v w' :=
  ⟨h.1, fun hi => by obtain ⟨e, e1, e2, e3, e4⟩ := h.2 hi; exact ⟨e, e1, e2, Nat.lt_of_lt_of_le e3 k.1.size, (k.2 e).2 e4⟩⟩
theorem U4.st (W : World) (x : List UInt8) (i j : Nat) (v u : Value) (w w' : World) (h : U4 x i j v u w) (k : Le4 W x w w') : U4 x i j v u w' :=
  ⟨h.1, fun hi e he => (k.2 e).1 (h.2.1 hi e he), fun hi e he => (k.2 e).1 (h.2.2 hi e he)⟩
theorem alloc_sumP (u : World) : (Instr.alloc 24 true (.tuple #[])).run Tryd.prog u = .ok (.pointer (some ⟨u.heap.size, 0, none⟩)) (u.alloc zSum) := by go_simp; rfl
section
variable {ops : Array Oper} {Q : Exit → Act → World → Prop} {a : Act} {w w' : World} {K : Act → World → Prop} {o : Oper}
theorem rop_allocP (t : TypeId) (hop : o.op = .alloc t) {v : Value} (hr : (Instr.alloc t true (.tuple #[])).run Tryd.prog w = .ok v w') (hw : Region.wanted o (yielded ops a.tmps) = true) (h : K (a.put o.dst v) w') :
    if Region.wanted o (yielded ops a.tmps) = true then Oper.wp Tryd.prog o a w K Q else K (a.put o.dst undef) w :=
  rop_v hw (by simp [execOp, hop, hr]) h
end
/-- Two new variables, one behind the other; the first one set. -/
theorem two_new (w : World) (x : List UInt8) (hx : x.length = 32) : ZeroH ((w.alloc zSum).alloc zSum) w.heap.size ∧ ZeroH (((w.alloc zSum).alloc zSum).setCells w.heap.size 0 (x.map u8V)) (w.heap.size + 1) ∧ IsH x (((w.alloc zSum).alloc zSum).setCells w.heap.size 0 (x.map u8V)) w.heap.size := by
  have h1 : ZeroH ((w.alloc zSum).alloc zSum) w.heap.size := (Below.heap_alloc _ _ _ (by simp)).trans (heap_alloc_last w zSum)
  have h2 : ZeroH ((w.alloc zSum).alloc zSum) (w.heap.size + 1) := by
    have := heap_alloc_last (w.alloc zSum) zSum
    rwa [World.size_alloc] at this
  exact ⟨h1, ((only_setCells (b := w.heap.size) (x.map u8V) 0 _ (Only.refl _ _)).block _ (Array.getElem?_eq_some_iff.1 h2).1 (by omega)).trans h2, set_sumP _ _ _ x (by simp) hx h1⟩
/-- Ahead of the parts: both hashes are S0; the links that are left are L0. -/
def LeadRel (e b p12 : Nat) (S0 : List UInt8) (w : World) (i0 : Nat) (L0 : Hs) (V wx : World) : Prop :=
  IsH S0 wx e ∧ IsH S0 wx b ∧ (∃ vL cL, wx.heap[p12]? = some (.cells #[.slice vL i0 cL] 26 (0, 0)) ∧ SumsB w.heap.size w (.slice vL i0 cL) L0) ∧ OnlyS (fun i => i = p12 ∨ i = e ∨ i = b) V wx
theorem OwnB.kept' {B : Nat} {w w' : World} {v : Value} {l : List Bool} (h : OwnB B w v l) (k : ∀ g, v.ownBlock = some g → w'.heap[g]? = w.heap[g]?) : OwnB B w' v l := by
  obtain ⟨h1, h2⟩ := h
  refine ⟨h1, ?_⟩
  rcases h2 with e | ⟨g, cap, cur, e1, e2, hg, r⟩
  · exact .inl e
  · exact .inr ⟨g, cap, cur, e1, e2, (k g (by rw [e1]; rfl)).trans hg, r⟩
/-- Behind so many of the three stores. -/
def BoPh (w V : World) (e b p12 : Nat) (a S0 : List UInt8) (v v' : Value) (ph : Nat) (u : World) : Prop :=
  Below w.heap.size w u ∧ OnlyS (fun i => i = p12 ∨ i = e ∨ i = b) V u ∧ IsH (if ph = 0 then a else S0) u e ∧ IsH (if ph < 2 then a else S0) u b ∧ u.heap[p12]? = some (.cells #[if ph < 3 then v else v'] 26 (0, 0))
theorem IsH.far {x : List UInt8} {u : World} {k q : Nat} {cs : List Value} (h : IsH x u k) (hk : k ≠ q) : IsH x (u.setCells q 0 cs) k := ((only_setCells (b := q) cs 0 u (Only.refl _ _)).block k (Array.getElem?_eq_some_iff.1 h).1 hk).trans h
theorem BoPh.s1 {w V : World} {e b p12 : Nat} {a S0 : List UInt8} {v v' : Value} {u : World} (h : BoPh w V e b p12 a S0 v v' 0 u) (ha : a.length = 32) (hS : S0.length = 32) (hne : e ≠ b) (h1 : p12 < e) (hw : w.heap.size ≤ p12) : BoPh w V e b p12 a S0 v v' 1 (u.setCells e 0 (S0.map u8V)) :=
  ⟨below_setCells (by omega) _ _ _ h.1, h.2.1.trans (OnlyS.of_only (only_setCells (b := e) _ 0 _ (Only.refl _ _)) (.inr (.inl rfl))), set_sumP u e a S0 ha hS h.2.2.1, h.2.2.2.1.far (Ne.symm hne), ((only_setCells (b := e) _ 0 u (Only.refl _ _)).block p12 (Array.getElem?_eq_some_iff.1 h.2.2.2.2).1 (by omega)).trans h.2.2.2.2⟩
theorem BoPh.s2 {w V : World} {e b p12 : Nat} {a S0 : List UInt8} {v v' : Value} {u : World} (h : BoPh w V e b p12 a S0 v v' 1 u) (ha : a.length = 32) (hS : S0.length = 32) (hne : e ≠ b) (h1 : p12 < b) (hw : w.heap.size ≤ p12) : BoPh w V e b p12 a S0 v v' 2 (u.setCells b 0 (S0.map u8V)) :=
  ⟨below_setCells (by omega) _ _ _ h.1, h.2.1.trans (OnlyS.of_only (only_setCells (b := b) _ 0 _ (Only.refl _ _)) (.inr (.inr rfl))), h.2.2.1.far hne, set_sumP u b a S0 ha hS h.2.2.2.1, ((only_setCells (b := b) _ 0 u (Only.refl _ _)).block p12 (Array.getElem?_eq_some_iff.1 h.2.2.2.2).1 (by omega)).trans h.2.2.2.2⟩
theorem BoPh.s3 {w V : World} {e b p12 : Nat} {a S0 : List UInt8} {v v' : Value} {u : World} (h : BoPh w V e b p12 a S0 v v' 2 u) (h1 : p12 < e) (h2 : p12 < b) (hw : w.heap.size ≤ p12) : BoPh w V e b p12 a S0 v v' 3 (u.setCell ⟨p12, 0, none⟩ v') :=
  ⟨h.1.setCell (p := ⟨p12, 0, none⟩) hw _, h.2.1.trans (OnlyS.of_only ((Only.refl p12 u).setCell 0 _) (.inl rfl)), (Below.heap_setCell _ _ _ _ (by simp; omega)).trans h.2.2.1, (Below.heap_setCell _ _ _ _ (by simp; omega)).trans h.2.2.2.1, heap_set h.2.2.2.2 _⟩
/-- At the end, behind so many of the two stores. -/
def EndPh (w : World) (e b : Nat) (X Y : List UInt8) (Dd ph : Nat) (u : World) : Prop :=
  Below w.heap.size w u ∧ (IsH X u e ∧ IsH Y u b) ∧ IsH (if ph = 0 then List.replicate 32 0 else X) u (w.heap.size + 1) ∧ IsH (if ph < 2 then List.replicate 32 0 else Y) u (w.heap.size + 1 + 1) ∧ u.heap[Dd]? = some (.deferred (some []))
theorem defer_far {u : World} {Dd q : Nat} {cs vs : List Value} {T : TypeId} (h : u.heap[Dd]? = some (.deferred (some []))) (hq : u.heap[q]? = some (.cells cs.toArray T (0, 0))) : (u.setCells q 0 vs).heap[Dd]? = some (.deferred (some [])) := by
  refine ((only_setCells (b := q) vs 0 u (Only.refl _ _)).block Dd (Array.getElem?_eq_some_iff.1 h).1 (fun e => ?_)).trans h
  subst e
  rw [h] at hq
  cases hq
theorem EndPh.s1 {w : World} {e b : Nat} {X Y : List UInt8} {Dd : Nat} {u : World} (h : EndPh w e b X Y Dd 0 u) (hX : X.length = 32) (h1 : w.heap.size + 1 < e) (h2 : w.heap.size + 1 < b) : EndPh w e b X Y Dd 1 (u.setCells (w.heap.size + 1) 0 (X.map u8V)) :=
  ⟨below_setCells (Nat.le_succ _) _ _ _ h.1, ⟨h.2.1.1.far (by omega), h.2.1.2.far (by omega)⟩, set_sumP u _ _ X (by simp) hX h.2.2.1, h.2.2.2.1.far (by omega), defer_far h.2.2.2.2 h.2.2.1⟩
theorem EndPh.s2 {w : World} {e b : Nat} {X Y : List UInt8} {Dd : Nat} {u : World} (h : EndPh w e b X Y Dd 1 u) (hY : Y.length = 32) (h1 : w.heap.size + 1 + 1 < e) (h2 : w.heap.size + 1 + 1 < b) : EndPh w e b X Y Dd 2 (u.setCells (w.heap.size + 1 + 1) 0 (Y.map u8V)) :=
  ⟨below_setCells (by omega) _ _ _ h.1, ⟨h.2.1.1.far (by omega), h.2.1.2.far (by omega)⟩, h.2.2.1.far (by omega), set_sumP u _ _ Y (by simp) hY h.2.2.2.1, defer_far h.2.2.2.2 h.2.2.2.1⟩
set_option maxHeartbeats 8000000 in
set_option maxRecDepth 100000 in
theorem both_any (a : List UInt8) (ha : a.length = 32) (m n : Int) (l1 : m ≤ 9223372036854775807) (l2 : n ≤ 9223372036854775807) (v : Value) (P : Hs) (w : World) (hv : Sums w v P) (hP : P.length ≤ 1000) (hK : KT w) :
    Calls Tryd.prog 34 #[sumV a, .int .i64 m, .int .i64 n, v] w fun e w' => e = .returned (.tuple #[sumV (bothZ a m n P).1.1, sumV (bothZ a m n P).1.2, .bool (bothZ a m n P).2]) ∧ Below w.heap.size w w' := by
  obtain ⟨va, cap, rfl, hlc, hcap⟩ := hv.slice
  obtain ⟨k, hk⟩ : ∃ k, k = P.length := ⟨_, rfl⟩
  obtain ⟨w0, hw0⟩ : ∃ w0, w0 = ((w.alloc (.cells (a.map u8V).toArray 24)).alloc zSum).alloc zSum := ⟨_, rfl⟩
  have b0 : Below w.heap.size w w0 := by rw [hw0]; exact (((Below.refl _ _).alloc (Nat.le_refl _) _).alloc (by simp) _).alloc (by simp; omega) _
  have h1 : w0.heap[w.heap.size]? = some (.cells (a.map u8V).toArray 24 (0, 0)) := by
    rw [hw0]
    exact ((((Below.refl (w.alloc (.cells (a.map u8V).toArray 24)).heap.size _).alloc (Nat.le_refl _) _).alloc (by simp) _).block w.heap.size (by simp)).trans (heap_alloc_last w _)
  have h2 : w0.heap[w.heap.size + 1]? = some (.cells ((List.replicate 32 (0 : UInt8)).map u8V).toArray 24 (0, 0)) := by
    rw [hw0]
    refine (Below.heap_alloc _ _ _ (by simp)).trans ?_
    have := heap_alloc_last (w.alloc (.cells (a.map u8V).toArray 24)) zSum
    rwa [World.size_alloc] at this
  have h3 : w0.heap[w.heap.size + 1 + 1]? = some (.cells ((List.replicate 32 (0 : UInt8)).map u8V).toArray 24 (0, 0)) := by
    have := heap_alloc_last ((w.alloc (.cells (a.map u8V).toArray 24)).alloc zSum) zSum
    rwa [World.size_alloc, World.size_alloc, ← hw0] at this
  have hsz : w0.heap.size = w.heap.size + 3 := by rw [hw0]; simp
  obtain ⟨z, hz⟩ : ∃ z, z = (if okL m n then ((Tree.llong m.toNat n.toNat true : Nat) : Int) else -1) := ⟨_, rfl⟩
  have HLO : Hid (∀ u, Calls Tryd.prog 52 #[.int .i64 m, .int .i64 n] u fun e w' => e = .returned (.int .i64 z) ∧ u = w') := Lib.hid fun u => by rw [hz]; exact linksLong_any m n u l1 l2
  have hfl : bothLen m n P = decide ((k : Int) = z) := by unfold bothLen; rw [hz, hk]
  have hfz : bothZ a m n P = if decide ((k : Int) = z) then (Tree.boths a m.toNat n.toNat true P, true) else ((List.replicate 32 0, List.replicate 32 0), false) := by unfold bothZ; rw [hfl]
  have HV := Lib.hid hv
  have HB := Lib.hid b0
  have HA := Lib.hid ha
  have H1 := Lib.hid h1
  have H2 := Lib.hid h2
  have H3 := Lib.hid h3
  have HKW := Lib.hid hK
  rw [← hk] at HV ⊢
  by_cases hkz : (k : Int) = z
  · obtain ⟨hok, hkl⟩ := bothLen_t (by rw [hfl]; exact decide_eq_true hkz)
    rw [hfz, if_pos (decide_eq_true hkz)]
    have hok' := okL_t hok
    obtain ⟨M, rfl⟩ := Int.eq_ofNat_of_zero_le (show 0 ≤ m by omega)
    obtain ⟨N, rfl⟩ := Int.eq_ofNat_of_zero_le (show 0 ≤ n by omega)
    simp only [Int.toNat_natCast] at hkl ⊢
    obtain ⟨I, hI⟩ : ∃ I, I = Tree.inw M N := ⟨_, rfl⟩
    have hIl : I.length ≤ 40 := by rw [hI]; exact inw_40 M N (by omega) (by omega) (by omega)
    obtain ⟨ld, hld⟩ : ∃ ld, ld = I.contains true := ⟨_, rfl⟩
    have hld2 : Tree.lead M N true = ld := by rw [hld, hI]; rfl
    have hki : k = I.length + (if ld then 1 else 0) := by rw [hk, hkl, Tree.llong_inw _ M N true (by omega) (by omega) (Nat.le_refl _), hld2, hI]
    have hbo : Tree.boths a M N true P = if ld then Tree.up2 (P.headD [], P.headD []) (P.drop 1) I.reverse else Tree.up2 (a, a) P I.reverse := by rw [hI, ← hld2]; rfl
    obtain ⟨D1, hD1⟩ : ∃ D1, D1 = (Tree.boths a M N true P).1 := ⟨_, rfl⟩
    obtain ⟨D2, hD2⟩ : ∃ D2, D2 = (Tree.boths a M N true P).2 := ⟨_, rfl⟩
    rw [← hD1, ← hD2]
    have hDD : (D1, D2) = if ld then Tree.up2 (P.headD [], P.headD []) (P.drop 1) I.reverse else Tree.up2 (a, a) P I.reverse := by rw [← hbo, hD1, hD2]
    have HPA : Hid (∀ u, Calls Tryd.prog 53 #[.int .i64 (M : Int), .int .i64 (N : Int)] u fun e w' => ∃ b c, e = .returned (.slice b I.length c) ∧ OwnB u.heap.size w' (.slice b I.length c) I ∧ Below u.heap.size u w') := Lib.hid fun u => by
      have := parts_any M N u (by omega) (by omega) (by omega)
      rw [← hI] at this
      refine this.mono fun e w' ⟨v', he, ho, hb⟩ => ?_
      obtain ⟨b, c, rfl, -, -⟩ := ho.bools.slice
      exact ⟨b, c, he, ho, hb⟩
    have HDD := Lib.hid hDD
    have Hki := Lib.hid hki
    have Hk := Lib.hid hk
    have Hld := Lib.hid hld
    have HPok := Lib.hid hv.ok
    obtain ⟨i0, hi0⟩ : ∃ i0, i0 = I.length := ⟨_, rfl⟩
    rw [← hi0] at HPA Hki hIl
    have Hi0 := Lib.hid hi0
    obtain rfl : z = (k : Int) := hkz.symm
    clear hfz hfl hz hok hkl hkz hk b0 h1 h2 h3 ha hv hK l1 l2 hcap hlc hDD hki hld hD1 hD2 hbo hld2 hI hok' hi0
    unfold sumV
    refine (callsIn_wide (n := 3)).1 ?_
    refine callsIn_of_wp_marks Tryd.func34 rfl trivial ?_ rfl
    simp only [Tryd.ntmps34, List.size_toArray, List.length_cons, List.length_nil, Nat.reduceAdd, Nat.reduceSub, Array.replicate_succ, Array.replicate_zero, List.push_toArray, List.append_toArray, List.nil_append, List.cons_append]
    refine wpIn_wide.2 ?_
    go_upto_region 1 with (fail)
    change Code.wp _ _ _ _ (((w.alloc (.cells (a.map u8V).toArray 24)).alloc zSum).alloc zSum)
    rw [← hw0]
    clear hw0
    go_step3
    go_upto_region 4 with (first
      | (go_at_call 52; ((with_reducible refine (HLO.out _).mono ?_); rintro e w1 ⟨rfl, rfl⟩))
      | (go_at_call 53; ((with_reducible refine (HPA.out _).mono ?_); rintro e w3 ⟨aI, cI, rfl, hst, b3⟩; have HST := Lib.hid hst; clear hst)))
    obtain ⟨p12, hp12⟩ : ∃ p12, p12 = w3.heap.size := ⟨_, rfl⟩
    obtain ⟨W, hW⟩ : ∃ W, W = w3.alloc (.cells #[.slice va k cap] 26) := ⟨_, rfl⟩
    have bW : Below w3.heap.size w3 W := by rw [hW]; exact (Below.refl _ _).alloc (Nat.le_refl _) _
    have c12 : W.heap[p12]? = some (.cells #[.slice va k cap] 26 (0, 0)) := by rw [hW, hp12]; exact heap_alloc_last _ _
    have hWs : W.heap.size = p12 + 1 := by rw [hW, hp12]; simp
    have h03 : w.heap.size + 3 ≤ p12 := by rw [hp12, ← hsz]; exact b3.size
    have z4 := (bW.block _ (show w.heap.size < w3.heap.size by omega)).trans ((b3.block _ (by omega)).trans H1.out)
    have z8 := (bW.block _ (show w.heap.size + 1 < w3.heap.size by omega)).trans ((b3.block _ (by omega)).trans H2.out)
    have z9 := (bW.block _ (show w.heap.size + 1 + 1 < w3.heap.size by omega)).trans ((b3.block _ (by omega)).trans H3.out)
    have bwW : Below w.heap.size w W := below_step (below_step HB.out (Nat.le_refl _) b3) (Nat.le_refl _) bW
    have hIW := HST.out.kept bW
    have hIg : ∀ g, (Value.slice aI i0 cI).ownBlock = some g → g < p12 := fun g hg => by
      have := World.ownsRow.lt HST.out g hg
      omega
    rw [← hW, ← hp12]
    have HZ4 := Lib.hid z4
    have HZ8 := Lib.hid z8
    have HZ9 := Lib.hid z9
    have HC12 := Lib.hid c12
    have HBW := Lib.hid bwW
    have HI := Lib.hid hIW
    have HIG := Lib.hid hIg
    have ho0 : w0.heap.size ≤ p12 := by omega
    obtain ⟨o0, ho0'⟩ : ∃ o0, o0 = w0.heap.size := ⟨_, rfl⟩
    rw [← ho0'] at HI ho0 hsz
    clear z4 z8 z9 c12 hW hp12 bW bwW hIW hIg b3 HST ho0'
    have hrd : W.drew.rangeAt w.heap.size 0 (a.map u8V) := range_var (w := W.drew) HZ4.out
    have hu := Tryd.underlying24
    have hi := sum_info' HA.out
    have hn32 : (a.map u8V).length = 32 := by rw [List.length_map, HA.out]
    have hone : ∀ v ∈ a.map u8V, v.oneCell' = true := fun v hv => by obtain ⟨_, _, rfl⟩ := List.mem_map.1 hv; rfl
    go_cut [13, 14] from 30 to 31 (TwoNew W (a.map u8V))
    case first =>
      have hp4 : w.heap.size < W.heap.size := by omega
      have HRD := Lib.hid hrd
      have Hi := Lib.hid hi
      clear hrd hi hu hn32 hone
      try simp only [Act.put]
      refine wp_region_pair (T4 W a) (U4 a) (Le4 W a) (by kernel_rfl) (by kernel_rfl) (by kernel_rfl) (by kernel_rfl) (Le4.refl _ _ _) (fun _ _ _ h k => h.trans k) (T4.st W a) (U4.st W a) ?_ ?_
      · intro i o ho
        rcases i with _ | _ | _ | _ | _ | _ | i
        · obtain rfl := Option.some.inj ho
          intro ac w' hF hL hP hU K hK
          have e4 : ac.eval (.tmp 4) = .pointer (some ⟨w.heap.size, 0, none⟩) := hF.at 4 (by kernel_rfl)
          exact rop_ld _ _ rfl e4 (run_loadAt_mid _ _ _ _ _ _ (below_range' hL.1 hp4 HRD.out) Tryd.underlying24 rfl Hi.out) (wanted_none rfl) (hK _ _ (Le4.refl _ _ _) ⟨fun _ => rfl, fun h => absurd h (by omega)⟩ (fun j hj hw hT => by split <;> exact ⟨fun h => absurd h (by omega), fun h => absurd h (by omega), fun h => absurd h (by omega)⟩))
        · obtain rfl := Option.some.inj ho
          intro ac w' hF hL hP hU K hK
          have e4 : ac.eval (.tmp 4) = .pointer (some ⟨w.heap.size, 0, none⟩) := hF.at 4 (by kernel_rfl)
          exact rop_ld _ _ rfl e4 (run_loadAt_mid _ _ _ _ _ _ (below_range' hL.1 hp4 HRD.out) Tryd.underlying24 rfl Hi.out) (wanted_none rfl) (hK _ _ (Le4.refl _ _ _) ⟨fun _ => rfl, fun h => absurd h (by omega)⟩ (fun j hj hw hT => by split <;> exact ⟨fun h => absurd h (by omega), fun h => absurd h (by omega), fun h => absurd h (by omega)⟩))
        · obtain rfl := Option.some.inj ho
          intro ac w' hF hL hP hU K hK
          have hsz : W.heap.size ≤ w'.heap.size := hL.1.size
          refine rop_allocP _ rfl (alloc_sumP w') (wanted_none rfl) (hK _ _ (Le4.alloc W a hsz _) ⟨fun h => absurd h (by omega), fun _ => ⟨w'.heap.size, rfl, hsz, by simp, .inl (heap_alloc_last w' _)⟩⟩ (fun j hj hw hT => ?_))
          split
          · refine ⟨fun h e b he hb => ?_, fun h => ?_, fun h => absurd h (by omega)⟩
            · obtain ⟨b', hb', -, hlt, -⟩ := hT.2 (.inr h.2)
              rw [hb] at hb'
              injection hb' with hb'; injection hb' with hb'; injection hb' with hb' _ _
              injection he with he; injection he with he; injection he with he _ _
              omega
            · rw [h.2] at hw
              exact absurd hw (by decide +kernel)
          · exact ⟨fun h => absurd h (by omega), fun h => absurd h (by omega), fun h => absurd h (by omega)⟩
        · obtain rfl := Option.some.inj ho
          intro ac w' hF hL hP hU K hK
          have hsz : W.heap.size ≤ w'.heap.size := hL.1.size
          refine rop_allocP _ rfl (alloc_sumP w') (wanted_none rfl) (hK _ _ (Le4.alloc W a hsz _) ⟨fun h => absurd h (by omega), fun _ => ⟨w'.heap.size, rfl, hsz, by simp, .inl (heap_alloc_last w' _)⟩⟩ (fun j hj hw hT => ?_))
          split
          · refine ⟨fun h => absurd h (by omega), fun h => absurd h (by omega), fun h => ?_⟩
            rw [h.2] at hw
            exact absurd hw (by decide +kernel)
          · refine ⟨fun h e b he hb => ?_, fun h => absurd h (by omega), fun h => absurd h (by omega)⟩
            obtain ⟨b', hb', -, hlt, -⟩ := hT.2 (.inl h.1)
            rw [he] at hb'
            injection hb' with hb'; injection hb' with hb'; injection hb' with hb' _ _
            injection hb with hb; injection hb with hb; injection hb with hb _ _
            omega
        · obtain rfl := Option.some.inj ho
          intro ac w' hF hL hP hU K hK
          have e30 : ac.eval (.tmp 30) = .agg (a.map u8V).toArray := (hP 0 (by kernel_rfl)).1 (by decide)
          obtain ⟨e, he, hge, hlt, hz⟩ := (hP 2 (by kernel_rfl)).2 (.inl rfl)
          have e13 : ac.eval (.tmp 13) = .pointer (some ⟨e, 0, none⟩) := he
          obtain ⟨hs, hle⟩ := Le4.store W a HA.out hge hz
          refine rop_storeG _ _ _ rfl e13 e30 (run_storeAt_mid w' e 0 _ _ (hz.elim (fun h => sum_there h HA.out) (fun h => sum_thereP h HA.out HA.out)) (sum_info HA.out) (sum_one a)) (wanted_none rfl) (hK undef _ hle ⟨fun h => absurd h (by omega), fun h => absurd h (by omega)⟩ (fun j hj hw hT => ?_))
          split
          · exact ⟨fun h => absurd h (by omega), fun h => absurd h (by omega), fun h => absurd h (by omega)⟩
          · refine ⟨fun h => absurd h (by omega), fun h e2 he2 => ?_, fun h => absurd h (by omega)⟩
            obtain rfl : j = 2 := h.1
            have he3 : Value.pointer (some ⟨e, 0, none⟩) = .pointer (some ⟨e2, 0, none⟩) := he.symm.trans he2
            injection he3 with he3; injection he3 with he3; injection he3 with he3 _ _
            rw [← he3]
            exact hs
        · obtain rfl := Option.some.inj ho
          intro ac w' hF hL hP hU K hK
          have e31 : ac.eval (.tmp 31) = .agg (a.map u8V).toArray := (hP 1 (by kernel_rfl)).1 (by decide)
          obtain ⟨e, he, hge, hlt, hz⟩ := (hP 3 (by kernel_rfl)).2 (.inr rfl)
          have e14 : ac.eval (.tmp 14) = .pointer (some ⟨e, 0, none⟩) := he
          obtain ⟨hs, hle⟩ := Le4.store W a HA.out hge hz
          refine rop_storeG _ _ _ rfl e14 e31 (run_storeAt_mid w' e 0 _ _ (hz.elim (fun h => sum_there h HA.out) (fun h => sum_thereP h HA.out HA.out)) (sum_info HA.out) (sum_one a)) (wanted_none rfl) (hK undef _ hle ⟨fun h => absurd h (by omega), fun h => absurd h (by omega)⟩ (fun j hj hw hT => ?_))
          split
          · exact ⟨fun h => absurd h (by omega), fun h => absurd h (by omega), fun h => absurd h (by omega)⟩
          · refine ⟨fun h => absurd h (by omega), fun h => absurd h (by omega), fun h e2 he2 => ?_⟩
            obtain rfl : j = 3 := h.1
            have he3 : Value.pointer (some ⟨e, 0, none⟩) = .pointer (some ⟨e2, 0, none⟩) := he.symm.trans he2
            injection he3 with he3; injection he3 with he3; injection he3 with he3 _ _
            rw [← he3]
            exact hs
        · cases ho
      · intro ac w' hF hL hT hU
        obtain ⟨e, he, hge, -, -⟩ := (hT 2 (by decide)).2 (.inl rfl)
        obtain ⟨b, hb, hgb, -, -⟩ := (hT 3 (by decide)).2 (.inr rfl)
        have hne := (hU 2 3 (by decide) (by decide)).1 ⟨rfl, rfl⟩ e b he hb
        have h1 := (hU 2 4 (by decide) (by decide)).2.1 ⟨rfl, rfl⟩ e he
        have h2 := (hU 3 5 (by decide) (by decide)).2.2 ⟨rfl, rfl⟩ b hb
        have e13 : ac.eval (.tmp 13) = .pointer (some ⟨e, 0, none⟩) := he
        have e14 : ac.eval (.tmp 14) = .pointer (some ⟨b, 0, none⟩) := hb
        have hbw : Below W.heap.size W w' := below_undrew hL.1
        have HT4 : Hid (TwoNew W (a.map u8V) (.pointer (some ⟨e, 0, none⟩)) (.pointer (some ⟨b, 0, none⟩)) w') := Lib.hid ⟨e, b, rfl, rfl, hne, hge, hgb, h1, h2, hbw⟩
        rw [hF.setsG [30, 31, 13, 14] (by kernel_rfl)]
        simp only [List.foldl_cons, List.foldl_nil, List.setIfInBounds_toArray, List.set_cons_succ, List.set_cons_zero, e13, e14]
        generalize ac.eval (.tmp 30) = u30
        generalize ac.eval (.tmp 31) = u31
        clear e13 e14 hT hF hU hL he hb hge hgb hne h1 h2 hbw ac
        go_wp2_with fail
        go_meet
        exact HT4.out
    case rest =>
      obtain ⟨e, b, rfl, rfl, hne, hge, hgb, h13, h14, hbV⟩ := hcut
      obtain ⟨V, hV⟩ : ∃ V, V = wc := ⟨_, rfl⟩
      subst hV
      have z12 : V.heap[p12]? = some (.cells #[.slice va k cap] 26 (0, 0)) := (hbV.block _ (by omega)).trans HC12.out
      have z8 : ZeroH V (w.heap.size + 1) := (hbV.block _ (by omega)).trans HZ8.out
      have z9 : ZeroH V (w.heap.size + 1 + 1) := (hbV.block _ (by omega)).trans HZ9.out
      have hIV := HI.out.kept hbV
      have bwV : Below w.heap.size w V := below_step HBW.out (Nat.le_refl _) hbV
      have hCO := contains_any (.slice aI i0 cI) I V hIV.bools (by have := Hi0.out; omega)
      rw [← Hld.out] at hCO
      have hsB : SumsB w.heap.size w (.slice va k cap) P := HV.out.below
      obtain ⟨S0, hS0⟩ : ∃ S0, S0 = if ld then P.headD [] else a := ⟨_, rfl⟩
      obtain ⟨L0, hL0⟩ : ∃ L0, L0 = if ld then P.drop 1 else P := ⟨_, rfl⟩
      have hS0l : S0.length = 32 := by
        rw [hS0]
        cases hl : ld with
        | true =>
          have h0 := Hki.out
          have h1 := Hk.out
          rw [hl, if_pos rfl] at h0
          match P, HPok.out, h1 with
          | x :: P, hx, _ => exact hx x (by simp)
          | [], _, h1 => simp at h1; omega
        | false => exact HA.out
      have hL0l : L0.length = i0 := by
        rw [hL0]
        have h0 := Hki.out
        have h1 := Hk.out
        cases hl : ld with
        | true => rw [hl, if_pos rfl] at h0; rw [if_pos rfl, List.length_drop]; omega
        | false => rw [hl, if_neg (by decide)] at h0; rw [if_neg (by decide)]; omega
      have hL0ok : all32 L0 := by
        rw [hL0]
        split
        · exact HPok.out.drop 1
        · exact HPok.out
      have hDD : (D1, D2) = Tree.up2 (S0, S0) L0 I.reverse := by
        have := HDD.out
        rw [hS0, hL0]
        cases ld with
        | true => rw [if_pos rfl] at this ⊢; rw [if_pos rfl]; exact this
        | false => rw [if_neg (by decide)] at this ⊢; rw [if_neg (by decide)]; exact this
      have HCO := Lib.hid hCO
      have HZ12 := Lib.hid z12
      have HY8 := Lib.hid z8
      have HY9 := Lib.hid z9
      have HIV := Lib.hid hIV
      have HBV := Lib.hid bwV
      have H13 := Lib.hid h13
      have H14 := Lib.hid h14
      have HSB := Lib.hid hsB
      have HS0 := Lib.hid hS0
      have HL0 := Lib.hid hL0
      have HS0l := Lib.hid hS0l
      have HL0l := Lib.hid hL0l
      have HL0ok := Lib.hid hL0ok
      have HDE := Lib.hid hDD
      have hge' : p12 < e := by omega
      have hgb' : p12 < b := by omega
      clear z12 z8 z9 hIV bwV hCO h13 h14 hsB hS0 hL0 hS0l hL0l hL0ok hDD hrd hi hu hn32 hone hge hgb hbV HC12 HZ8 HZ9 HZ4 HBW HI HDD
      go_upto_if 33 with (go_at_call 54; (refine HCO.out.mono ?_); rintro e w1 ⟨rfl, rfl⟩)
      go_cut [] from 34 to 41 (LeadRel e b p12 S0 w i0 L0 V)
      case first =>
        cases ld with
        | false =>
          have hS0 := HS0.out
          have hL0 := HL0.out
          have hki := Hki.out
          rw [if_neg (by decide)] at hS0 hL0 hki
          have HFI : Hid (LeadRel e b p12 S0 w i0 L0 V V) := Lib.hid ⟨by rw [hS0]; exact H13.out, by rw [hS0]; exact H14.out, ⟨va, cap, by rw [show i0 = k by omega]; exact HZ12.out, by rw [show i0 = k by omega, hL0]; exact HSB.out⟩, OnlyS.refl _ _⟩
          clear hS0 hL0 hki
          go_wp2_with fail
          go_meet
          exact HFI.out
        | true =>
          have hki := Hki.out
          rw [if_pos rfl] at hki
          obtain ⟨p0, hp0⟩ : ∃ p0, P[0]? = some p0 := ⟨_, List.getElem?_eq_getElem (by rw [← Hk.out]; omega)⟩
          obtain ⟨bp, op, rfl, hbp, -, hrp⟩ := HV.out.at0 hp0
          have hp0S : S0 = p0 := by
            rw [HS0.out, if_pos rfl]
            cases P with
            | nil => simp at hp0
            | cons x P => simpa using hp0
          have hL0 := HL0.out
          rw [if_pos rfl] at hL0
          have HRP : Hid (w.rangeAt bp (op + 0 * 32) (S0.map u8V)) := Lib.hid (by rw [hp0S]; exact hrp)
          have hst : SumsB w.heap.size w (.slice (cutS (some ⟨bp, op, none⟩) 1 cap) (k - 1) (cap - 1)) L0 := by
            rw [hL0]
            have := HSB.out.1.tail 1 (by rw [← Hk.out]; omega)
            rw [← Hk.out] at this
            exact this.below
          have HST1 := Lib.hid hst
          have hk1 : k - 1 = i0 := by omega
          have hkk : 0 < k := by omega
          have h1k : 1 ≤ k := hkk
          clear hki hp0 hp0S hrp hL0 hst
          go_upto_region 6 with (fail)
          try simp only [Act.put]
          refine wp_region_ph (Lx := fun _ _ _ _ => True) [RXP.is (.slice (some ⟨bp, op, none⟩) k cap), RXP.is (.pointer (some ⟨bp, op + 0 * 32, none⟩)), RXP.is (sumV S0), RXP.is (.slice (some ⟨bp, op, none⟩) k cap), RXP.is (.pointer (some ⟨bp, op + 0 * 32, none⟩)), RXP.is (sumV S0), RXP.is (.slice (some ⟨bp, op, none⟩) k cap), RXP.is (.slice (cutS (some ⟨bp, op, none⟩) 1 cap) (k - 1) (cap - 1)), RXP.any, RXP.any, RXP.any] [8, 9, 10] (BoPh w V e b p12 a S0 (.slice (some ⟨bp, op, none⟩) k cap) (.slice (cutS (some ⟨bp, op, none⟩) 1 cap) (k - 1) (cap - 1))) (by kernel_rfl) (by kernel_rfl) (by kernel_rfl) (by kernel_rfl) (by kernel_rfl) (⟨below_drew HBV.out, OnlyS.of_below (below_drew (Below.refl _ _)), H13.out, H14.out, HZ12.out⟩) ⟨?_, ?_, ?_, ?_, ?_, ?_, ?_, ?_, ?_, ?_, ?_, trivial⟩ ?_
          · intro ac w' ph hF hPh hlt hP hU K hK0
            have e3 : ac.eval (.tmp 3) = .slice (some ⟨bp, op, none⟩) k cap := hF.at 3 (by kernel_rfl)
            exact rop_move _ rfl e3 (wanted_none rfl) (hK0 _ _ trivial hPh rfl)
          · intro ac w' ph hF hPh hlt hP hU K hK0
            have e34 : ac.eval (.tmp 34) = .slice (some ⟨bp, op, none⟩) k cap := hP 0 (by kernel_rfl)
            exact rop_idx _ _ _ rfl e34 rfl (index_sums bp op k cap 0 hkk w') (wanted_none rfl) (hK0 _ _ trivial hPh rfl)
          · intro ac w' ph hF hPh hlt hP hU K hK0
            have e35 : ac.eval (.tmp 35) = .pointer (some ⟨bp, op + 0 * 32, none⟩) := hP 1 (by kernel_rfl)
            exact rop_ld _ _ rfl e35 (load_sumP HS0l.out (below_range' hPh.1 hbp HRP.out)) (wanted_none rfl) (hK0 _ _ trivial hPh rfl)
          · intro ac w' ph hF hPh hlt hP hU K hK0
            have e3 : ac.eval (.tmp 3) = .slice (some ⟨bp, op, none⟩) k cap := hF.at 3 (by kernel_rfl)
            exact rop_move _ rfl e3 (wanted_none rfl) (hK0 _ _ trivial hPh rfl)
          · intro ac w' ph hF hPh hlt hP hU K hK0
            have e37 : ac.eval (.tmp 37) = .slice (some ⟨bp, op, none⟩) k cap := hP 3 (by kernel_rfl)
            exact rop_idx _ _ _ rfl e37 rfl (index_sums bp op k cap 0 hkk w') (wanted_none rfl) (hK0 _ _ trivial hPh rfl)
          · intro ac w' ph hF hPh hlt hP hU K hK0
            have e38 : ac.eval (.tmp 38) = .pointer (some ⟨bp, op + 0 * 32, none⟩) := hP 4 (by kernel_rfl)
            exact rop_ld _ _ rfl e38 (load_sumP HS0l.out (below_range' hPh.1 hbp HRP.out)) (wanted_none rfl) (hK0 _ _ trivial hPh rfl)
          · intro ac w' ph hF hPh hlt hP hU K hK0
            have e3 : ac.eval (.tmp 3) = .slice (some ⟨bp, op, none⟩) k cap := hF.at 3 (by kernel_rfl)
            exact rop_move _ rfl e3 (wanted_none rfl) (hK0 _ _ trivial hPh rfl)
          · intro ac w' ph hF hPh hlt hP hU K hK0
            have e40 : ac.eval (.tmp 40) = .slice (some ⟨bp, op, none⟩) k cap := hP 6 (by kernel_rfl)
            exact rop_sliceG _ _ _ _ _ rfl e40 rfl rfl rfl (scut_l (some ⟨bp, op, none⟩) k cap 1 h1k w') (wanted_none rfl) (hK0 _ _ trivial hPh rfl)
          · intro ac w' ph hF hPh hlt hP hU K hK0
            obtain rfl : ph = 0 := (hlt 0 8 rfl).1 rfl
            have e13 : ac.eval (.tmp 13) = .pointer (some ⟨e, 0, none⟩) := hF.at 13 (by kernel_rfl)
            have e36 : ac.eval (.tmp 36) = sumV S0 := hP 2 (by kernel_rfl)
            have hz : IsH a w' e := hPh.2.2.1
            exact rop_storeG _ _ _ rfl e13 e36 (run_storeAt_mid w' e 0 _ _ (sum_thereP hz HA.out HS0l.out) (sum_info HS0l.out) (sum_one S0)) (wanted_none rfl) (hK0 undef _ trivial (BoPh.s1 hPh HA.out HS0l.out hne (by omega) (by omega)) trivial)
          · intro ac w' ph hF hPh hlt hP hU K hK0
            obtain rfl : ph = 1 := (hlt 1 9 rfl).1 rfl
            have e14 : ac.eval (.tmp 14) = .pointer (some ⟨b, 0, none⟩) := hF.at 14 (by kernel_rfl)
            have e39 : ac.eval (.tmp 39) = sumV S0 := hP 5 (by kernel_rfl)
            have hz : IsH a w' b := hPh.2.2.2.1
            exact rop_storeG _ _ _ rfl e14 e39 (run_storeAt_mid w' b 0 _ _ (sum_thereP hz HA.out HS0l.out) (sum_info HS0l.out) (sum_one S0)) (wanted_none rfl) (hK0 undef _ trivial (BoPh.s2 hPh HA.out HS0l.out hne (by omega) (by omega)) trivial)
          · intro ac w' ph hF hPh hlt hP hU K hK0
            obtain rfl : ph = 2 := (hlt 2 10 rfl).1 rfl
            have e12 : ac.eval (.tmp 12) = .pointer (some ⟨p12, 0, none⟩) := hF.at 12 (by kernel_rfl)
            have e41 : ac.eval (.tmp 41) = .slice (cutS (some ⟨bp, op, none⟩) 1 cap) (k - 1) (cap - 1) := hP 7 (by kernel_rfl)
            have hz : w'.heap[p12]? = some (.cells #[.slice (some ⟨bp, op, none⟩) k cap] 26 (0, 0)) := hPh.2.2.2.2
            exact rop_storeG _ _ _ rfl e12 e41 (store_sumsl ((cell_of hz 0).trans rfl) (fz_of hz 0)) (wanted_none rfl) (hK0 undef _ trivial (BoPh.s3 hPh (by omega) (by omega) (by omega)) trivial)
          · intro ac w' hF hPh hT
            rw [hF.setsG [34, 35, 36, 37, 38, 39, 40, 41] (by kernel_rfl)]
            simp only [List.foldl_cons, List.foldl_nil, List.setIfInBounds_toArray, List.set_cons_succ, List.set_cons_zero]
            generalize ac.eval (.tmp 34) = u34
            generalize ac.eval (.tmp 35) = u35
            generalize ac.eval (.tmp 36) = u36
            generalize ac.eval (.tmp 37) = u37
            generalize ac.eval (.tmp 38) = u38
            generalize ac.eval (.tmp 39) = u39
            generalize ac.eval (.tmp 40) = u40
            generalize ac.eval (.tmp 41) = u41
            clear  hT hF ac
            obtain ⟨hQ1, hQ2, hQ3, hQ4, hQ5⟩ := hPh
            have HFI : Hid (LeadRel e b p12 S0 w i0 L0 V w') := Lib.hid ⟨hQ3, hQ4, ⟨_, _, by rw [← hk1]; exact hQ5, by rw [← hk1]; exact HST1.out⟩, hQ2⟩
            clear hQ1 hQ2 hQ3 hQ4 hQ5
            go_wp2_with fail
            go_meet
            exact HFI.out
      case rest =>
        obtain ⟨hE, hN, ⟨vL, cL, h12, hsL⟩, hOS⟩ := hcut
        have hS8 : ¬ (fun i => i = p12 ∨ i = e ∨ i = b) (w.heap.size + 1) := by simp only; omega
        have hS9 : ¬ (fun i => i = p12 ∨ i = e ∨ i = b) (w.heap.size + 1 + 1) := by simp only; omega
        have z8 : ZeroH wc (w.heap.size + 1) := (hOS.block _ (Array.getElem?_eq_some_iff.1 HY8.out).1 hS8).trans HY8.out
        have z9 : ZeroH wc (w.heap.size + 1 + 1) := (hOS.block _ (Array.getElem?_eq_some_iff.1 HY9.out).1 hS9).trans HY9.out
        have hIV : OwnB o0 wc (.slice aI i0 cI) I := HIV.out.kept' fun g hg => hOS.block g (World.ownsRow.lt HIV.out g hg).2 (by have := HIG.out g hg; omega)
        have bwc : Below w.heap.size w wc := HBV.out.trans (hOS.below (fun i hi => by rcases hi with rfl | rfl | rfl <;> omega) HBV.out.size)
        have hec : e < wc.heap.size := (Array.getElem?_eq_some_iff.1 hE).1
        have hbc : b < wc.heap.size := (Array.getElem?_eq_some_iff.1 hN).1
        have hpc : p12 < wc.heap.size := (Array.getElem?_eq_some_iff.1 h12).1
        have HE := Lib.hid hE
        have HN := Lib.hid hN
        have H12 := Lib.hid h12
        have HSL := Lib.hid hsL
        have HX8 := Lib.hid z8
        have HX9 := Lib.hid z9
        have HIC := Lib.hid hIV
        have HBC := Lib.hid bwc
        have HNS8 := Lib.hid hS8
        clear hE hN h12 hsL z8 z9 hIV bwc hOS hS8 hS9 HY8 HY9 HIV HBV H13 H14 HCO HZ12
        go_wp2
        go_step3
        go_wp2_with (go_at_call 55; refine ((callsIn_wide (n := 3)).1 (bback_in Fence.wide 3 trivial rfl _ _ _ _)).mono ?_; rintro e w' ⟨rfl, rfl⟩)
        obtain ⟨Bs, hBs⟩ : ∃ Bs, Bs = wc.heap.size := ⟨_, rfl⟩
        obtain ⟨W0, hW0⟩ : ∃ W0, W0 = wc.alloc (.cells #[.slice aI i0 cI] 67) := ⟨_, rfl⟩
        have b7 : Below wc.heap.size wc W0 := by rw [hW0]; exact (Below.refl _ _).alloc (Nat.le_refl _) _
        have sz : W0.heap.size = Bs + 1 := by rw [hW0, hBs]; simp
        have cB : W0.cell? ⟨Bs, 0, none⟩ = some (.slice aI i0 cI) := by rw [hW0, hBs]; exact cell_of (heap_alloc_last _ _) 0
        have hIW0 := HIC.out.kept b7
        have BW0 : Below w.heap.size w W0 := below_step HBC.out (Nat.le_refl _) b7
        have zE : IsH S0 W0 e := (b7.block e hec).trans HE.out
        have zN : IsH S0 W0 b := (b7.block b hbc).trans HN.out
        have z12 : W0.heap[p12]? = some (.cells #[.slice vL i0 cL] 26 (0, 0)) := (b7.block p12 hpc).trans H12.out
        have z8 : ZeroH W0 (w.heap.size + 1) := (b7.block _ (by omega)).trans HX8.out
        have z9 : ZeroH W0 (w.heap.size + 1 + 1) := (b7.block _ (by omega)).trans HX9.out
        have hSB : ∀ i, (i = p12 ∨ i = e ∨ i = b) → i < W0.heap.size := fun i hi => by rcases hi with rfl | rfl | rfl <;> omega
        have hSw : ∀ i, (i = p12 ∨ i = e ∨ i = b) → w.heap.size ≤ i := fun i hi => by rcases hi with rfl | rfl | rfl <;> omega
        rw [← hW0, ← hBs]
        rw [← hBs] at hec hbc hpc
        have szl : Bs < W0.heap.size := by omega
        clear hW0 b7 hBs sz
        refine (wpIn_wide (n := 3)).1 ?_
        refine wpIn_rangeFunc_ownH rfl (by omega) (gf := 72) (lb := #[.pointer (some ⟨Bs, 0, none⟩)]) rfl trivial (enters_of Tryd.func72 (by kernel_rfl) rfl)
          (bback_stops Fence.wide 2 trivial rfl (by omega) Bs W0.heap.size (fun i => i = p12 ∨ i = e ∨ i = b) _ I (by rw [← Hi0.out]; omega) W0 (by omega) (Nat.le_refl _) cB o0 hIW0 (by omega) (fun g h1 h2 h3 => ⟨h2, by have := HIG.out g h3; omega⟩)) (fun h k => h.trans k) (KeepS.put (Nat.le_refl _)) (Below.refl _ _) (fun _ => rfl)
          (fun pre W => ((∃ (X Y : List UInt8) (vl : Option Addr) (cl : Nat), X.length = 32 ∧ Y.length = 32 ∧ (X, Y) = Tree.up2 (S0, S0) L0 (pre.map (·.2)) ∧ SumsB w.heap.size w (.slice vl (i0 - pre.length) cl) (L0.drop pre.length) ∧ IsH X W e ∧ IsH Y W b ∧ W.heap[p12]? = some (.cells #[.slice vl (i0 - pre.length) cl] 26 (0, 0))) ∧ ZeroH W (w.heap.size + 1) ∧ ZeroH W (w.heap.size + 1 + 1)) ∧ Below w.heap.size w W ∧ W0.heap.size ≤ W.heap.size)
          (fun _ _ _ => False)
          (OwnFrom.and (OwnFrom.and (fun s A B row hs hg hr => by obtain ⟨X, Y, vl, cl, e1, e2, e3, e4, e5, e6, e7⟩ := hs; exact ⟨X, Y, vl, cl, e1, e2, e3, e4, cells_ownF (β := Unit) _ _ _ _ _ () A B row e5 hg hr, cells_ownF (β := Unit) _ _ _ _ _ () A B row e6 hg hr, cells_ownF (β := Unit) _ _ _ _ _ () A B row e7 hg hr⟩) (fun s A B row hs hg hr => ⟨cells_ownF (β := Unit) _ _ _ _ _ () A B row hs.1 hg hr, cells_ownF (β := Unit) _ _ _ _ _ () A B row hs.2 hg hr⟩)) (OwnFrom.and (ownFrom_below (Nat.le_refl _) BW0.size) (fun s A B row hs hg hr => Nat.le_trans hs hg.size)))
          (fun c => fun s A B row hs hg hr => hs.elim)
          ⟨⟨⟨S0, S0, vL, cL, HS0l.out, HS0l.out, (Tree.up2_nil _ _).symm, HSL.out, zE, zN, z12⟩, z8, z9⟩, BW0, Nat.le_refl _⟩
          (fun x a' W => a' = { tmps := #[.agg (a.map u8V).toArray, .int .i64 (M : Int), .int .i64 (N : Int), .slice va k cap, .pointer (some ⟨w.heap.size, 0, none⟩), undef, undef, undef, .pointer (some ⟨w.heap.size + 1, 0, none⟩), .pointer (some ⟨w.heap.size + 1 + 1, 0, none⟩), .bool false, .slice aI i0 cI, .pointer (some ⟨p12, 0, none⟩), .pointer (some ⟨e, 0, none⟩), .pointer (some ⟨b, 0, none⟩), undef, .bool x.2, undef, .slice va k cap, .int .i64 (k : Int), .int .i64 (M : Int), .int .i64 (N : Int), .int .i64 (k : Int), .bool false, undef, undef, .int .i64 (M : Int), .int .i64 (N : Int), .slice aI i0 cI, .slice va k cap, u30, u31, .slice aI i0 cI, .bool ld, u34, u35, u36, u37, u38, u39, u40, u41, .slice aI i0 cI, .func (.func 72) #[] #[.pointer (some ⟨Bs, 0, none⟩)], .int .i64 (x.1 : Int), .bool x.2, undef, undef, undef, undef, undef, undef, undef, undef, undef, undef, undef, undef, undef, undef, undef, undef, undef], defers := [] })
          (fun x a' s A B row hs hg hr => hs) ?assign ?body ?done ?stop
        case assign =>
          rintro l pre x W K hI hK
          have HKK := Lib.hid (fun a' h => hK a' W (KeepsFrom.refl _ _) (KeepS.refl _ _ _) hI h)
          clear hK hI
          refine cast_tmps (T := #[.agg (a.map u8V).toArray, .int .i64 (M : Int), .int .i64 (N : Int), .slice va k cap, .pointer (some ⟨w.heap.size, 0, none⟩), undef, undef, undef, .pointer (some ⟨w.heap.size + 1, 0, none⟩), .pointer (some ⟨w.heap.size + 1 + 1, 0, none⟩), .bool false, .slice aI i0 cI, .pointer (some ⟨p12, 0, none⟩), .pointer (some ⟨e, 0, none⟩), .pointer (some ⟨b, 0, none⟩), undef, undef, undef, .slice va k cap, .int .i64 (k : Int), .int .i64 (M : Int), .int .i64 (N : Int), .int .i64 (k : Int), .bool false, undef, undef, .int .i64 (M : Int), .int .i64 (N : Int), .slice aI i0 cI, .slice va k cap, u30, u31, .slice aI i0 cI, .bool ld, u34, u35, u36, u37, u38, u39, u40, u41, .slice aI i0 cI, .func (.func 72) #[] #[.pointer (some ⟨Bs, 0, none⟩)], .int .i64 (x.1 : Int), .bool x.2, undef, undef, undef, undef, undef, undef, undef, undef, undef, undef, undef, undef, undef, undef, undef, undef, undef]) (by simp) ?_
          gi_wp2
          exact HKK.out _ rfl
        case body =>
          rintro l pre x a' W hl ⟨r, hr⟩ ⟨⟨⟨X, Y, vl, cl, hXl, hYl, hXY, hsl, hX, hY, h12⟩, z8, z9⟩, hB, hS⟩ rfl hlt
          obtain ⟨xi, tb⟩ := x
          obtain ⟨j, hj⟩ : ∃ j, j = pre.length := ⟨_, rfl⟩
          rw [← hj] at hsl h12 hlt
          rw [← Hi0.out] at hlt
          obtain ⟨p, hp⟩ : ∃ p, L0[j]? = some p := ⟨_, List.getElem?_eq_getElem (by rw [HL0l.out]; exact hlt)⟩
          have hpl : p.length = 32 := HL0ok.out p (List.mem_of_getElem? hp)
          have hp0 : (L0.drop j)[0]? = some p := by rw [List.getElem?_drop]; exact hp
          have hcut := hsl.1.tail 1 (by rw [List.length_drop, HL0l.out]; omega)
          rw [List.drop_drop, List.length_drop, HL0l.out] at hcut
          have hcutB := hcut.below
          obtain ⟨bq, oq, rfl, hbq, -, hrp⟩ := hsl.1.at0 hp0
          have hrW : W.rangeAt bq (oq + 0 * 32) (p.map u8V) := below_range' hB hbq hrp
          have hidx := fun u => index_sumsI bq oq (i0 - j) cl 0 (0 : Int) rfl (by omega) u
          have hscut := fun u => scut_l (some ⟨bq, oq, none⟩) (i0 - j) cl 1 (by omega) u
          have c12 : W.cell? ⟨p12, 0, none⟩ = some (.slice (some ⟨bq, oq, none⟩) (i0 - j) cl) := cell_of h12 0
          have HBS : Hid (CallsIn Fence.wide 0 Tryd.prog 49 #[sumV p, .bool tb] W fun e w' => ∃ ca cx, e = .returned (upV ca cx) ∧ UpAt w' ca cx p tb ∧ W.heap.size ≤ ca ∧ W.heap.size ≤ cx ∧ Below W.heap.size W w') := Lib.hid ((callsIn_wide (n := 0)).2 (beside_any p tb W))
          have heW : e < W.heap.size := (Array.getElem?_eq_some_iff.1 hX).1
          have hbW : b < W.heap.size := (Array.getElem?_eq_some_iff.1 hY).1
          have hpW : p12 < W.heap.size := (Array.getElem?_eq_some_iff.1 h12).1
          have h8W : w.heap.size + 1 < W.heap.size := by omega
          have h9W : w.heap.size + 1 + 1 < W.heap.size := by omega
          have HXl := Lib.hid hXl
          have HYl := Lib.hid hYl
          have HXY := Lib.hid hXY
          have HX := Lib.hid hX
          have HY := Lib.hid hY
          have H12 := Lib.hid h12
          have HZ8 := Lib.hid z8
          have HZ9 := Lib.hid z9
          have HRW := Lib.hid hrW
          have HPl := Lib.hid hpl
          have HP := Lib.hid hp
          have HCB := Lib.hid hcutB
          have HBW := Lib.hid hB
          have HSC := Lib.hid hscut
          have Hj := Lib.hid hj
          clear hXl hYl hXY hX hY h12 z8 z9 hrW hpl hp hp0 hcut hcutB hsl hrp hB hscut hj
          gi_wp2_with (first
            | refine wpListIn_ld rfl 24 (.tmp 47) rfl rfl (load_sumP HPl.out HRW.out) ?_)
          refine ⟨trivial, ?_⟩
          refine (CallsIn.inRound l HBS.out).mono ?_
          rintro e9 w9 ⟨ca, cx, rfl, hU, hca, hcx, b9⟩
          have h12' : w9.heap[p12]? = some (.cells #[.slice (some ⟨bq, oq, none⟩) (i0 - j) cl] 26 (0, 0)) := (b9.block _ hpW).trans H12.out
          have c12' : w9.cell? ⟨p12, 0, none⟩ = some (.slice (some ⟨bq, oq, none⟩) (i0 - j) cl) := cell_of h12' 0
          have f12' : w9.frozen? ⟨p12, 0, none⟩ = false := fz_of h12' 0
          have hX9 : IsH X w9 e := (b9.block _ heW).trans HX.out
          have hY9 : IsH Y w9 b := (b9.block _ hbW).trans HY.out
          obtain ⟨rl, hrl⟩ : ∃ rl, rl = Value.slice (cutS (some ⟨bq, oq, none⟩) 1 cl) (i0 - j - 1) (cl - 1) := ⟨_, rfl⟩
          obtain ⟨w10, hw10⟩ : ∃ w10, w10 = w9.setCell ⟨p12, 0, none⟩ rl := ⟨_, rfl⟩
          have hX10 : IsH X w10 e := by rw [hw10]; exact (Below.heap_setCell _ _ _ _ (by simp; omega)).trans hX9
          have hY10 : IsH Y w10 b := by rw [hw10]; exact (Below.heap_setCell _ _ _ _ (by simp; omega)).trans hY9
          have hP10 : w10.heap[p12]? = some (.cells #[rl] 26 (0, 0)) := by rw [hw10]; exact heap_set h12' _
          have o10 : OnlyS (fun i => i = p12 ∨ i = e ∨ i = b) W w10 := by
            rw [hw10]
            exact (OnlyS.of_below b9).trans (OnlyS.of_only ((Only.refl p12 w9).setCell 0 _) (.inl rfl))
          have hca0 : p12 < ca ∧ e < ca ∧ b < ca := by omega
          have hcx0 : p12 < cx ∧ e < cx ∧ b < cx := by omega
          have hU10 : UpAt w10 ca cx p tb := by rw [hw10]; exact hU.only ((Only.refl p12 w9).setCell 0 _) (by omega) (by omega)
          have hK10 : KT w10 := HKW.out.oldB ((HBW.out.trans (o10.below hSw HBW.out.size))) HKW.out.pos
          obtain ⟨Y2, hY2⟩ : ∃ Y2, Y2 = Tree.step Y p tb := ⟨_, rfl⟩
          have hY2l : Y2.length = 32 := by rw [hY2]; exact Tree.step_length _ _ _
          have HUP : Hid (CallsIn Fence.wide 0 Tryd.prog 67 #[sumV Y, .pointer (some ⟨ca, 0, none⟩), .pointer (some ⟨cx, 0, none⟩)] w10 fun e w' => e = .returned (sumV Y2) ∧ Below w10.heap.size w10 w') := Lib.hid ((callsIn_wide (n := 0)).2 (by
            rw [hY2]
            exact up_any Y p tb HYl.out HPl.out ca cx w10 hU10 hK10))
          have HRL := Lib.hid hrl
          have HX10 := Lib.hid hX10
          have HY10 := Lib.hid hY10
          have HP10 := Lib.hid hP10
          have HO10 := Lib.hid o10
          have HU10 := Lib.hid hU10
          have HK10 := Lib.hid hK10
          have HY2 := Lib.hid hY2
          have HY2l := Lib.hid hY2l
          have HW10 := Lib.hid hw10
          have hscl : ∀ u, (Instr.sliceAt 26 (.slice (some ⟨bq, oq, none⟩) (i0 - j) cl) (some (.int .i64 1)) none none).run Tryd.prog u = .ok rl u := fun u => by rw [HRL.out]; exact HSC.out u
          have HSL1 := Lib.hid hscl
          clear hX9 hY9 hX10 hY10 hP10 o10 hU10 hK10 hY2 hY2l hU h12' c12 hrl hw10 hscl
          have hrls : ∃ ra rn rc, rl = .slice ra rn rc := ⟨_, _, _, HRL.out⟩
          obtain ⟨ra, rn, rc, rfl⟩ := hrls
          gi_wp2_with (first
            | refine wpListIn_sl rfl 26 (.tmp 51) (some (.const (.int .i64 1))) none none rfl rfl rfl rfl rfl (HSL1.out _) ?_
            | (rw [← HW10.out]; refine wpListIn_ld rfl 24 (.tmp 14) rfl rfl (load_sumP HYl.out (range_var HY10.out)) ?_))
          refine ⟨trivial, ?_⟩
          refine (CallsIn.inRound l HUP.out).mono ?_
          rintro e11 w11 ⟨rfl, b11⟩
          have hY11 : IsH Y w11 b := (b11.block _ (Array.getElem?_eq_some_iff.1 HY10.out).1).trans HY10.out
          have hX11 : IsH X w11 e := (b11.block _ (Array.getElem?_eq_some_iff.1 HX10.out).1).trans HX10.out
          have hP11 : w11.heap[p12]? = some (.cells #[.slice ra rn rc] 26 (0, 0)) := (b11.block _ (Array.getElem?_eq_some_iff.1 HP10.out).1).trans HP10.out
          obtain ⟨w12, hw12⟩ : ∃ w12, w12 = w11.setCells b 0 (Y2.map u8V) := ⟨_, rfl⟩
          have hY12 : IsH Y2 w12 b := by rw [hw12]; exact set_sumP w11 b Y Y2 HYl.out HY2l.out hY11
          have hX12 : IsH X w12 e := by rw [hw12]; exact hX11.far hne
          have o112 : Only b w11 w12 := by rw [hw12]; exact only_setCells (b := b) (Y2.map u8V) 0 _ (Only.refl _ _)
          have hP12 : w12.heap[p12]? = some (.cells #[.slice ra rn rc] 26 (0, 0)) := (o112.block p12 (Array.getElem?_eq_some_iff.1 hP11).1 (by omega)).trans hP11
          have o12 : OnlyS (fun i => i = p12 ∨ i = e ∨ i = b) W w12 := (HO10.out.trans (OnlyS.of_below b11)).trans (OnlyS.of_only o112 (.inr (.inr rfl)))
          have hU12 : UpAt w12 ca cx p tb := (HU10.out.old b11).only o112 (by omega) (by omega)
          have hXY2 : (if tb then Tree.node p X else X, Y2) = Tree.up2 (S0, S0) L0 ((pre ++ [(xi, tb)]).map (·.2)) := by
            rw [List.map_append, List.map_cons, List.map_nil, Tree.up2_snoc _ _ _ _ p (by rw [List.length_map, ← Hj.out]; exact HP.out), ← HXY.out, HY2.out]
          have hln : (pre ++ [(xi, tb)]).length = j + 1 := by rw [List.length_append, ← Hj.out]; rfl
          have hrl3 := HRL.out
          injection hrl3 with q1 q2 q3
          have hrn : rn = i0 - (j + 1) := by omega
          have hsl2 : SumsB w.heap.size w (.slice ra (i0 - (j + 1)) rc) (L0.drop (j + 1)) := by
            rw [q1, show i0 - (j + 1) = i0 - j - 1 by omega, q3]
            exact HCB.out
          rw [hrn] at hP12
          have HFI : Hid (∀ (X' : List UInt8) (u : World), X'.length = 32 → X' = (if tb then Tree.node p X else X) → IsH X' u e → IsH Y2 u b → u.heap[p12]? = some (.cells #[.slice ra (i0 - (j + 1)) rc] 26 (0, 0)) → OnlyS (fun i => i = p12 ∨ i = e ∨ i = b) W u →
              KeepsFrom W0.heap.size W u ∧ KeepS (fun i => i = p12 ∨ i = e ∨ i = b) W0.heap.size W u ∧ ((∃ (X Y : List UInt8) (vl : Option Addr) (cl : Nat), X.length = 32 ∧ Y.length = 32 ∧ (X, Y) = Tree.up2 (S0, S0) L0 ((pre ++ [(xi, tb)]).map (·.2)) ∧ SumsB w.heap.size w (.slice vl (i0 - (pre ++ [(xi, tb)]).length) cl) (L0.drop (pre ++ [(xi, tb)]).length) ∧ IsH X u e ∧ IsH Y u b ∧ u.heap[p12]? = some (.cells #[.slice vl (i0 - (pre ++ [(xi, tb)]).length) cl] 26 (0, 0))) ∧ ZeroH u (w.heap.size + 1) ∧ ZeroH u (w.heap.size + 1 + 1)) ∧ Below w.heap.size w u ∧ W0.heap.size ≤ u.heap.size) := Lib.hid fun X' u k1 k2 k3 k4 k5 k6 => by
            rw [hln]
            refine ⟨keeps_onlyS k6 hSB, k6.keep hS, ⟨⟨X', Y2, ra, rc, k1, HY2l.out, by rw [k2]; exact hXY2, hsl2, k3, k4, k5⟩, (k6.block _ h8W (by omega)).trans HZ8.out, (k6.block _ h9W (by omega)).trans HZ9.out⟩, HBW.out.trans (k6.below hSw HBW.out.size), Nat.le_trans hS k6.size⟩
          have hK12 : KT w12 := HKW.out.oldB ((HBW.out.trans (o12.below hSw HBW.out.size))) HKW.out.pos
          have HX12 := Lib.hid hX12
          have HY12 := Lib.hid hY12
          have HP12 := Lib.hid hP12
          have HO12 := Lib.hid o12
          have HU12 := Lib.hid hU12
          have HK12 := Lib.hid hK12
          have HY11 := Lib.hid hY11
          have HW12 := Lib.hid hw12
          clear hX12 hY12 hP12 o12 hU12 hK12 hY11 hX11 hP11 hw12 o112 hXY2 hln q1 q2 q3 hrn hsl2
          cases tb with
          | false =>
            gi_wp2_with (refine wpListIn_st rfl 24 (.tmp 14) (.tmp 55) rfl rfl rfl (run_storeAt_mid w11 b 0 _ _ (sum_thereP HY11.out HYl.out HY2l.out) (sum_info HY2l.out) (sum_one Y2)) ?_)
            have hfin := HFI.out X w12 HXl.out rfl HX12.out HY12.out HP12.out HO12.out
            rw [HW12.out] at hfin
            exact hfin
          | true =>
            obtain ⟨X2, hX2⟩ : ∃ X2, X2 = Tree.step X p true := ⟨_, rfl⟩
            have hX2l : X2.length = 32 := by rw [hX2]; exact Tree.step_length _ _ _
            have HUQ : Hid (CallsIn Fence.wide 0 Tryd.prog 67 #[sumV X, .pointer (some ⟨ca, 0, none⟩), .pointer (some ⟨cx, 0, none⟩)] w12 fun e w' => e = .returned (sumV X2) ∧ Below w12.heap.size w12 w') := Lib.hid ((callsIn_wide (n := 0)).2 (by
              rw [hX2]
              exact up_any X p true HXl.out HPl.out ca cx w12 HU12.out HK12.out))
            have HX2l := Lib.hid hX2l
            have HX2 := Lib.hid hX2
            clear hX2 hX2l
            gi_wp2_with (first
              | (refine wpListIn_st rfl 24 (.tmp 14) (.tmp 55) rfl rfl rfl (run_storeAt_mid w11 b 0 _ _ (sum_thereP HY11.out HYl.out HY2l.out) (sum_info HY2l.out) (sum_one Y2)) ?_)
              | (refine wpListIn_ld rfl 24 (.tmp 13) rfl rfl (load_sumP HXl.out (range_var (by have h := HX12.out; rw [HW12.out] at h; exact h))) ?_))
            refine ⟨trivial, ?_⟩
            have hUQ := HUQ.out
            rw [HW12.out] at hUQ
            refine (CallsIn.inRound l hUQ).mono ?_
            clear hUQ
            rintro e13 w13 ⟨rfl, b13⟩
            have b13' := b13
            change Below (w11.setCells b 0 (Y2.map u8V)).heap.size (w11.setCells b 0 (Y2.map u8V)) w13 at b13'
            rw [← HW12.out] at b13'
            have hX13 : IsH X w13 e := (b13'.block _ (Array.getElem?_eq_some_iff.1 HX12.out).1).trans HX12.out
            have hY13 : IsH Y2 w13 b := (b13'.block _ (Array.getElem?_eq_some_iff.1 HY12.out).1).trans HY12.out
            have hP13 := (b13'.block _ (Array.getElem?_eq_some_iff.1 HP12.out).1).trans HP12.out
            have o1314 : Only e w13 (w13.setCells e 0 (X2.map u8V)) := only_setCells (b := e) (X2.map u8V) 0 _ (Only.refl _ _)
            have HFJ := Lib.hid (HFI.out X2 (w13.setCells e 0 (X2.map u8V)) HX2l.out HX2.out (set_sumP w13 e X X2 HXl.out HX2l.out hX13) (hY13.far (Ne.symm hne)) ((o1314.block p12 (Array.getElem?_eq_some_iff.1 hP13).1 (by omega)).trans hP13) ((HO12.out.trans (OnlyS.of_below b13')).trans (OnlyS.of_only o1314 (.inr (.inl rfl)))))
            have HX13 := Lib.hid hX13
            clear hX13 hY13 hP13 o1314 b13 b13'
            gi_wp2_with (refine wpListIn_st rfl 24 (.tmp 13) (.tmp 60) rfl rfl rfl (run_storeAt_mid w13 e 0 _ _ (sum_thereP HX13.out HXl.out HX2l.out) (sum_info HX2l.out) (sum_one X2)) ?_)
            exact HFJ.out
        case done =>
          rintro Dd xs W hDd rfl ⟨⟨⟨X, Y, vl, cl, hXl, hYl, hXY, hsl, hX, hY, h12⟩, z8, z9⟩, hB, hS⟩ hK
          have hDX : (D1, D2) = (X, Y) := by
            rw [hXY, dnB_rev I I.length (Nat.le_refl _), List.take_of_length_le (by simp), HDE.out]
          injection hDX with hD1 hD2
          subst hD1 hD2
          have HXl := Lib.hid hXl
          have HYl := Lib.hid hYl
          have HX := Lib.hid hX
          have HY := Lib.hid hY
          have HZ8 := Lib.hid z8
          have HZ9 := Lib.hid z9
          have HBW := Lib.hid hB
          have HKD := Lib.hid hK
          clear hXl hYl hXY hsl hX hY h12 z8 z9 hB hK
          have heW : e < W.heap.size := (Array.getElem?_eq_some_iff.1 HX.out).1
          have hbW : b < W.heap.size := (Array.getElem?_eq_some_iff.1 HY.out).1
          gi_wp2
          go_upto_region 14 with (fail)
          try simp only [Act.put]
          refine wp_region_ph (Lx := fun _ _ _ _ => True) [RXP.is (sumV D1), RXP.is (sumV D2), RXP.any, RXP.any, RXP.is (.bool true)] [2, 3] (EndPh w e b D1 D2 Dd) (by kernel_rfl) (by kernel_rfl) (by kernel_rfl) (by kernel_rfl) (by kernel_rfl) (⟨below_drew HBW.out, ⟨HX.out, HY.out⟩, HZ8.out, HZ9.out, HKD.out⟩) ⟨?_, ?_, ?_, ?_, ?_, trivial⟩ ?_
          · intro ac w' ph hF hPh hlt hP hU K hK0
            have e13 : ac.eval (.tmp 13) = .pointer (some ⟨e, 0, none⟩) := hF.at 13 (by kernel_rfl)
            exact rop_ld _ _ rfl e13 (load_sumP HXl.out (range_var hPh.2.1.1)) (wanted_none rfl) (hK0 _ _ trivial hPh rfl)
          · intro ac w' ph hF hPh hlt hP hU K hK0
            have e14 : ac.eval (.tmp 14) = .pointer (some ⟨b, 0, none⟩) := hF.at 14 (by kernel_rfl)
            exact rop_ld _ _ rfl e14 (load_sumP HYl.out (range_var hPh.2.1.2)) (wanted_none rfl) (hK0 _ _ trivial hPh rfl)
          · intro ac w' ph hF hPh hlt hP hU K hK0
            obtain rfl : ph = 0 := (hlt 0 2 rfl).1 rfl
            have e8 : ac.eval (.tmp 8) = .pointer (some ⟨w.heap.size + 1, 0, none⟩) := hF.at 8 (by kernel_rfl)
            have e61 : ac.eval (.tmp 61) = sumV D1 := hP 0 (by kernel_rfl)
            have hz : ZeroH w' (w.heap.size + 1) := hPh.2.2.1
            exact rop_storeG _ _ _ rfl e8 e61 (run_storeAt_mid w' (w.heap.size + 1) 0 _ _ (sum_there hz HXl.out) (sum_info HXl.out) (sum_one D1)) (wanted_none rfl) (hK0 undef _ trivial (EndPh.s1 hPh HXl.out (by omega) (by omega)) trivial)
          · intro ac w' ph hF hPh hlt hP hU K hK0
            obtain rfl : ph = 1 := (hlt 1 3 rfl).1 rfl
            have e9 : ac.eval (.tmp 9) = .pointer (some ⟨w.heap.size + 1 + 1, 0, none⟩) := hF.at 9 (by kernel_rfl)
            have e62 : ac.eval (.tmp 62) = sumV D2 := hP 1 (by kernel_rfl)
            have hz : ZeroH w' (w.heap.size + 1 + 1) := hPh.2.2.2.1
            exact rop_storeG _ _ _ rfl e9 e62 (run_storeAt_mid w' (w.heap.size + 1 + 1) 0 _ _ (sum_there hz HYl.out) (sum_info HYl.out) (sum_one D2)) (wanted_none rfl) (hK0 undef _ trivial (EndPh.s2 hPh HYl.out (by omega) (by omega)) trivial)
          · intro ac w' ph hF hPh hlt hP hU K hK0
            exact rop_assign _ rfl rfl (wanted_none rfl) (hK0 _ _ trivial hPh rfl)
          · intro ac w' hF hPh hT
            have e10 : ac.eval (.tmp 10) = .bool true := hT 4 (by decide)
            rw [hF.setsG [61, 62, 10] (by kernel_rfl)]
            simp only [List.foldl_cons, List.foldl_nil, List.setIfInBounds_toArray, List.set_cons_succ, List.set_cons_zero, e10]
            generalize ac.eval (.tmp 61) = u61
            generalize ac.eval (.tmp 62) = u62
            clear e10 hT hF ac
            obtain ⟨hQ1, hQ2, hQ3, hQ4, hQ5⟩ := hPh
            have hQ3' : IsH D1 w' (w.heap.size + 1) := hQ3
            have hQ4' : IsH D2 w' (w.heap.size + 1 + 1) := hQ4
            have HQ1 := Lib.hid hQ1
            have HQ3 := Lib.hid hQ3'
            have HQ4 := Lib.hid hQ4'
            have HQ5 := Lib.hid hQ5
            clear hQ1 hQ2 hQ3 hQ4 hQ5 hQ3' hQ4'
            go_wp2
            rw [Exit.noGoto_ret]
            have hput := belowK_b (n₀ := W0.heap.size) (w := W0) (Nat.le_refl _) w' Dd _ (.deferred none) hDd HQ5.out rfl rfl
            refine ⟨by simp, .inl ⟨_, _, rfl, run_takeDeferred HQ5.out, ?_⟩⟩
            exact ⟨_, results_cct (t := 8) (t' := 9) (u := 10) (ty := 24) (b := w.heap.size + 1) (b' := w.heap.size + 1 + 1) (cs := D1.map u8V) (cs' := D2.map u8V) rfl _ _ _ rfl rfl (below_range' hput (by omega) (range_var HQ3.out)) (below_range' hput (by omega) (range_var HQ4.out)) Tryd.underlying24 rfl (sum_info' HXl.out) (sum_info' HYl.out), rfl, HQ1.out.trans (hput.mono BW0.size)⟩
        case stop => rintro D c pre W hD - h hK; exact h.elim
  · rw [hfz, if_neg (by simpa using hkz)]
    obtain ⟨Z, hZ⟩ : ∃ Z, Z = List.replicate 32 (0 : UInt8) := ⟨_, rfl⟩
    have HZB : Hid (Tryd.prog.built 24 [] = some (Z.map u8V).toArray) := Lib.hid (by rw [hZ]; exact built_zeroP)
    have HZl : Hid (Z.length = 32) := Lib.hid (by rw [hZ]; simp)
    have HZZ : Hid (Z = List.replicate 32 (0 : UInt8)) := Lib.hid hZ
    rw [← hZ]
    have h23 : Hid (((w0.setCells (w.heap.size + 1) 0 (Z.map u8V))).heap[w.heap.size + 1 + 1]? = some (.cells ((List.replicate 32 (0 : UInt8)).map u8V).toArray 24 (0, 0))) := Lib.hid (((only_setCells (b := w.heap.size + 1) (Z.map u8V) 0 w0 (Only.refl _ _)).block _ (Array.getElem?_eq_some_iff.1 h3).1 (by omega)).trans h3)
    clear hZ hfz hfl hz b0 h1 h2 h3 ha hv hK l1 l2 hsz hcap hlc hk
    unfold sumV
    refine (callsIn_wide (n := 3)).1 ?_
    refine callsIn_of_wp_marks Tryd.func34 rfl trivial ?_ rfl
    simp only [Tryd.ntmps34, List.size_toArray, List.length_cons, List.length_nil, Nat.reduceAdd, Nat.reduceSub, Array.replicate_succ, Array.replicate_zero, List.push_toArray, List.append_toArray, List.nil_append, List.cons_append]
    refine wpIn_wide.2 ?_
    go_upto_region 1 with (fail)
    change Code.wp _ _ _ _ (((w.alloc (.cells (a.map u8V).toArray 24)).alloc zSum).alloc zSum)
    rw [← hw0]
    clear hw0
    go_step3
    go_wp2_with (first
      | (go_at_call 52; ((with_reducible refine (HLO.out _).mono ?_); rintro e w1 ⟨rfl, rfl⟩))
      | refine wpList_build_at rfl 24 #[] rfl (Z.map u8V).toArray [] (by simp) HZB.out ?_
      | refine wpList_store_mid rfl 24 (.tmp 8) (.tmp 24) rfl (w.heap.size + 1) 0 (Z.map u8V).toArray rfl rfl (sum_there H2.out HZl.out) (sum_info HZl.out) (sum_one _) ?_
      | refine wpList_store_mid rfl 24 (.tmp 9) (.tmp 25) rfl (w.heap.size + 1 + 1) 0 (Z.map u8V).toArray rfl rfl (sum_there h23.out HZl.out) (sum_info HZl.out) (sum_one _) ?_)
    rw [Exit.noGoto_ret]
    exact ⟨_, results_cct (t := 8) (t' := 9) (u := 10) (ty := 24) (b := w.heap.size + 1) (b' := w.heap.size + 1 + 1) (cs := Z.map u8V) (cs' := Z.map u8V) rfl _ _ _ rfl rfl (World.rangeAt_setCells_apart (sum_range H2.out HZl.out) _ _ _ (.inl (by omega))) (sum_range h23.out HZl.out) Tryd.underlying24 rfl (sum_info' HZl.out) (sum_info' HZl.out), rfl, below_setCells (by omega) _ _ _ (below_setCells (Nat.le_succ _) _ _ _ HB.out)⟩
end Go.Proofs.YtdcebdleneieeaaDoor
/-! ## Package proof: Goes. -/
namespace Go.Proofs.YtdcebdleneieeaaDoor
open Go.RowKit

theorem eql_sum_ff (a b : List UInt8) (ha : a.length = 32) (hb : b.length = 32) (h : ¬ a = b) (w : World) : (binOp .eql 24 (sumV a) (sumV b)).run Tryd.prog w = .ok (.bool false) w := by
  have := eql_sum a b ha hb w
  rwa [decide_eq_false h] at this
/-- What Goes tells. -/
def goesZ (a : List UInt8) (m : Int) (b : List UInt8) (n : Int) (P : Hs) : Bool := (bothZ a m n P).2 && (decide ((bothZ a m n P).1.1 = a) && decide ((bothZ a m n P).1.2 = b))
end Go.Proofs.YtdcebdleneieeaaDoor
/-! ## Package proof: Right. -/
namespace Go.Proofs.YtdcebdleneieeaaDoor
open Go.RowKit

set_option maxHeartbeats 4000000 in
set_option maxRecDepth 100000 in
theorem right_any (r x : List UInt8) (hr : r.length = 32) (hx : x.length = 32) (m n : Int) (l1 : m ≤ 9223372036854775807) (l2 : n ≤ 9223372036854775807) (v : Value) (P : Hs) (w : World) (hv : Sums w v P) (hP : P.length ≤ 1000) (hK : KT w) :
    Calls Tryd.prog 30 #[sumV r, sumV x, .int .i64 m, .int .i64 n, v] w fun e w' => e = .returned (.bool ((foldZ x m n P).2 && decide ((foldZ x m n P).1 = r))) ∧ Below w.heap.size w w' := by
  have hfz := fun u hu hk => fold_any x hx m n l1 l2 v P u hu hP hk
  have hDl := foldZ_length x m n P hx
  obtain ⟨D, hD⟩ : ∃ D, D = (foldZ x m n P).1 := ⟨_, rfl⟩
  obtain ⟨ok, hok⟩ : ∃ ok, ok = (foldZ x m n P).2 := ⟨_, rfl⟩
  rw [← hD] at hDl hfz ⊢
  rw [← hok] at hfz ⊢
  obtain ⟨va, cap, rfl, hlc, hcap⟩ := hv.slice
  obtain ⟨k, hk⟩ : ∃ k, k = P.length := ⟨_, rfl⟩
  rw [← hk] at hfz hv ⊢
  obtain ⟨w0, hw0⟩ : ∃ w0, w0 = (w.alloc (.cells (r.map u8V).toArray 24)).alloc (.cells (x.map u8V).toArray 24) := ⟨_, rfl⟩
  have b0 : Below w.heap.size w w0 := by rw [hw0]; exact ((Below.refl _ _).alloc (Nat.le_refl _) _).alloc (by simp) _
  have h1 : w0.heap[w.heap.size]? = some (.cells (r.map u8V).toArray 24 (0, 0)) := by
    rw [hw0]
    exact (((Below.refl (w.alloc (.cells (r.map u8V).toArray 24)).heap.size _).alloc (Nat.le_refl _) _).block w.heap.size (by simp)).trans (heap_alloc_last w _)
  have h2 : w0.heap[w.heap.size + 1]? = some (.cells (x.map u8V).toArray 24 (0, 0)) := by
    have := heap_alloc_last (w.alloc (.cells (r.map u8V).toArray 24)) (.cells (x.map u8V).toArray 24)
    rwa [World.size_alloc, ← hw0] at this
  have l0 : w.heap.size < w0.heap.size := (Array.getElem?_eq_some_iff.1 h1).1
  have HFO := Lib.hid (hfz w0 (hv.old b0) (hK.old b0))
  have HB := Lib.hid b0
  have HDl := Lib.hid hDl
  have HRl := Lib.hid hr
  have HX := Lib.hid hx
  have H1 := Lib.hid h1
  have H2 := Lib.hid h2
  clear hfz hDl hD hok hk hr hx h1 h2 b0 hv hK l1 l2 hP hlc hcap
  unfold sumV
  go_enter Tryd.func30, Tryd.ntmps30
  go_upto_region 1 with (fail)
  rw [← hw0]
  clear hw0
  go_upto_region 2 with (first
    | refine wpList_load_mid rfl 24 (.tmp 6) rfl (w.heap.size + 1) 0 rfl (x.map u8V) _ (range_var H2.out) Tryd.underlying24 rfl (sum_info' HX.out) ?_
    | (go_at_call 29; (refine HFO.out.mono ?_); rintro e w2 ⟨rfl, b2⟩; have z1 := Lib.hid ((b2.block _ l0).trans H1.out); have hz0 := heap_alloc_last w2 zSum)
    | refine wpList_store_mid rfl 24 (.tmp 11) (.tmp 19) rfl w2.heap.size 0 (D.map u8V).toArray rfl rfl (sum_there hz0 HDl.out) (sum_info HDl.out) (sum_one D) ?_)
  change Code.wp _ _ _ _ ((w2.alloc zSum).setCells w2.heap.size 0 (D.map u8V))
  obtain ⟨z6, k6⟩ := var_sum w2 D HDl.out
  obtain ⟨W, hW⟩ : ∃ u, u = (w2.alloc zSum).setCells w2.heap.size 0 (D.map u8V) := ⟨_, rfl⟩
  have lp : w.heap.size < w2.heap.size := Nat.lt_of_lt_of_le l0 b2.size
  have z7 := (k6.block _ lp).trans z1.out
  have b7 := below_step (below_step HB.out (Nat.le_refl _) b2) (Nat.le_refl _) k6
  rw [← hW] at z6 z7 b7 ⊢
  obtain ⟨q, hq⟩ : ∃ q, q = w2.heap.size := ⟨_, rfl⟩
  obtain ⟨p, hp⟩ : ∃ p, p = w.heap.size := ⟨_, rfl⟩
  rw [← hq] at z6 ⊢
  rw [← hp] at z7 ⊢
  have hqW := (Array.getElem?_eq_some_iff.1 z6).1
  have hpW := (Array.getElem?_eq_some_iff.1 z7).1
  have HZQ := Lib.hid z6
  have HZP := Lib.hid z7
  have HB7 := Lib.hid b7
  clear hq hp z6 z7 b7 k6 hW hz0 lp b2 l0 z1 H1 H2 HFO HB
  cases ok with
  | true =>
    try simp only [Act.put]
    refine wp_region_tab0 [RT.is (.bool true), RT.is (.bool true), RT.is (sumV D), RT.is (sumV r), RT.is (.bool (decide (D = r))), RT.is (.bool (decide (D = r))), RT.is (.bool (decide (D = r)))] (by kernel_rfl) (by kernel_rfl) (by kernel_rfl) ⟨?_, ?_, ?_, ?_, ?_, ?_, ?_, trivial⟩ ?_
    · intro ac w' hF hL hP hU K hK
      have hB : Below _ _ _ := hL
      have e12 : ac.eval (.tmp 12) = .bool true := hF.at 12 (by kernel_rfl)
      exact rop_move _ rfl e12 (wanted_none rfl) (hK _ _ (le8_refl _) rfl)
    · intro ac w' hF hL hP hU K hK
      have hB : Below _ _ _ := hL
      have e21 : ac.eval (.tmp 21) = .bool true := hP 0 (by kernel_rfl)
      exact rop_move _ rfl e21 (wanted_none rfl) (hK _ _ (le8_refl _) rfl)
    · intro ac w' hF hL hP hU K hK
      have hB : Below _ _ _ := hL
      have e11 : ac.eval (.tmp 11) = .pointer (some ⟨q, 0, none⟩) := hF.at 11 (by kernel_rfl)
      have e22 : ac.eval (.tmp 22) = .bool true := hP 1 (by kernel_rfl)
      exact rop_ld _ _ rfl e11 (load_sumP HDl.out (below_range hB hqW (range_var HZQ.out))) (wanted_of (j := 1) (b := true) rfl rfl e22) (hK _ _ (le8_refl _) rfl)
    · intro ac w' hF hL hP hU K hK
      have hB : Below _ _ _ := hL
      have e5 : ac.eval (.tmp 5) = .pointer (some ⟨p, 0, none⟩) := hF.at 5 (by kernel_rfl)
      have e22 : ac.eval (.tmp 22) = .bool true := hP 1 (by kernel_rfl)
      exact rop_ld _ _ rfl e5 (load_sumP HRl.out (below_range hB hpW (range_var HZP.out))) (wanted_of (j := 1) (b := true) rfl rfl e22) (hK _ _ (le8_refl _) rfl)
    · intro ac w' hF hL hP hU K hK
      have hB : Below _ _ _ := hL
      have e23 : ac.eval (.tmp 23) = sumV D := hP 2 (by kernel_rfl)
      have e24 : ac.eval (.tmp 24) = sumV r := hP 3 (by kernel_rfl)
      have e22 : ac.eval (.tmp 22) = .bool true := hP 1 (by kernel_rfl)
      exact rop_bin _ _ _ _ _ rfl e23 e24 (guard_run _ _ _ _ _ w') (eql_sum D r HDl.out HRl.out w') (wanted_of (j := 1) (b := true) rfl rfl e22) (hK _ _ (le8_refl _) rfl)
    · intro ac w' hF hL hP hU K hK
      have hB : Below _ _ _ := hL
      have e22 : ac.eval (.tmp 22) = .bool true := hP 1 (by kernel_rfl)
      have e25 : ac.eval (.tmp 25) = .bool (decide (D = r)) := hP 4 (by kernel_rfl)
      exact rop_pick _ _ _ rfl true e22 (by simpa using e25) (wanted_none rfl) (hK _ _ (le8_refl _) rfl)
    · intro ac w' hF hL hP hU K hK
      have hB : Below _ _ _ := hL
      have e26 : ac.eval (.tmp 26) = .bool (decide (D = r)) := hP 5 (by kernel_rfl)
      exact rop_assign _ rfl e26 (wanted_none rfl) (hK _ _ (le8_refl _) rfl)
    · intro ac w' hF hB hT
      have e26 : ac.eval (.tmp 26) = .bool (decide (D = r)) := hT 5 (by decide)
      have e10 : ac.eval (.tmp 10) = .bool (decide (D = r)) := hT 6 (by decide)
      rw [hF.setsG [21, 22, 23, 24, 25, 26, 10] (by kernel_rfl)]
      simp only [List.foldl_cons, List.foldl_nil, List.setIfInBounds_toArray, List.set_cons_succ, List.set_cons_zero, e26, e10]
      generalize ac.eval (.tmp 21) = u21
      generalize ac.eval (.tmp 22) = u22
      generalize ac.eval (.tmp 23) = u23
      generalize ac.eval (.tmp 24) = u24
      generalize ac.eval (.tmp 25) = u25
      clear e26 e10 hT hF ac
      have HF := Lib.hid (below_step HB7.out (Nat.le_refl _) hB)
      clear hB
      go_wp2
      go_ret
      exact ⟨by first | (rw [Bool.true_and]; rfl) | (rw [Bool.false_and]; rfl), HF.out⟩
  | false =>
    try simp only [Act.put]
    refine wp_region_tab0 [RT.is (.bool false), RT.is (.bool false), RT.any, RT.any, RT.any, RT.is (.bool false), RT.is (.bool false)] (by kernel_rfl) (by kernel_rfl) (by kernel_rfl) ⟨?_, ?_, ?_, ?_, ?_, ?_, ?_, trivial⟩ ?_
    · intro ac w' hF hL hP hU K hK
      have hB : Below _ _ _ := hL
      have e12 : ac.eval (.tmp 12) = .bool false := hF.at 12 (by kernel_rfl)
      exact rop_move _ rfl e12 (wanted_none rfl) (hK _ _ (le8_refl _) rfl)
    · intro ac w' hF hL hP hU K hK
      have hB : Below _ _ _ := hL
      have e21 : ac.eval (.tmp 21) = .bool false := hP 0 (by kernel_rfl)
      exact rop_move _ rfl e21 (wanted_none rfl) (hK _ _ (le8_refl _) rfl)
    · intro ac w' hF hL hP hU K hK
      have hB : Below _ _ _ := hL
      have e22 : ac.eval (.tmp 22) = .bool false := hP 1 (by kernel_rfl)
      exact rop_offG (j := 1) (b := true) rfl rfl e22 (by decide) (hK _ _ (le8_refl _) trivial)
    · intro ac w' hF hL hP hU K hK
      have hB : Below _ _ _ := hL
      have e22 : ac.eval (.tmp 22) = .bool false := hP 1 (by kernel_rfl)
      exact rop_offG (j := 1) (b := true) rfl rfl e22 (by decide) (hK _ _ (le8_refl _) trivial)
    · intro ac w' hF hL hP hU K hK
      have hB : Below _ _ _ := hL
      have e22 : ac.eval (.tmp 22) = .bool false := hP 1 (by kernel_rfl)
      exact rop_offG (j := 1) (b := true) rfl rfl e22 (by decide) (hK _ _ (le8_refl _) trivial)
    · intro ac w' hF hL hP hU K hK
      have hB : Below _ _ _ := hL
      have e22 : ac.eval (.tmp 22) = .bool false := hP 1 (by kernel_rfl)
      exact rop_pick _ _ _ rfl false e22 (by rfl) (wanted_none rfl) (hK _ _ (le8_refl _) rfl)
    · intro ac w' hF hL hP hU K hK
      have hB : Below _ _ _ := hL
      have e26 : ac.eval (.tmp 26) = .bool false := hP 5 (by kernel_rfl)
      exact rop_assign _ rfl e26 (wanted_none rfl) (hK _ _ (le8_refl _) rfl)
    · intro ac w' hF hB hT
      have e26 : ac.eval (.tmp 26) = .bool false := hT 5 (by decide)
      have e10 : ac.eval (.tmp 10) = .bool false := hT 6 (by decide)
      rw [hF.setsG [21, 22, 23, 24, 25, 26, 10] (by kernel_rfl)]
      simp only [List.foldl_cons, List.foldl_nil, List.setIfInBounds_toArray, List.set_cons_succ, List.set_cons_zero, e26, e10]
      generalize ac.eval (.tmp 21) = u21
      generalize ac.eval (.tmp 22) = u22
      generalize ac.eval (.tmp 23) = u23
      generalize ac.eval (.tmp 24) = u24
      generalize ac.eval (.tmp 25) = u25
      clear e26 e10 hT hF ac
      have HF := Lib.hid (below_step HB7.out (Nat.le_refl _) hB)
      clear hB
      go_wp2
      go_ret
      exact ⟨by first | (rw [Bool.true_and]; rfl) | (rw [Bool.false_and]; rfl), HF.out⟩
end Go.Proofs.YtdcebdleneieeaaDoor
