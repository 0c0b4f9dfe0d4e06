/-
  Several texts in one (RegPair, GenSeq).
-/
import Derived.Test.YtollcdalokhjaaaDoorMGen
import Derived.RangeFuncNested
import Derived.RangeFuncBound
import Derived.RangeFuncCalls
import Derived.RangeFuncLeaves
import Derived.Shelf.Abstract
import Derived.Shelf.RegionOpen
import Derived.WalkKit
import Derived.OwnWalkIn
import Derived.TacticsInMore
import Derived.LoopNIn
import Derived.LoopIn
/-! ## As RegInv, where something is known of each two operations' values, too: two new variables that do not lie in one place, for one. -/
namespace Go.Proofs.YtollcdalokhjaaaDoor
open Go

section
variable {P : Program} {ops : Array Oper} {Q : Exit → Act → World → Prop} {a0 : Act} {w0 : World} {T : Nat → Value → World → Prop} {U : Nat → Nat → Value → Value → World → Prop} {Le : World → World → Prop}
/-- What an operation must do, whenever it comes up. -/
def ROpU (P : Program) (ops : Array Oper) (Q : Exit → Act → World → Prop) (a0 : Act) (w0 : World) (T : Nat → Value → World → Prop) (U : Nat → Nat → Value → Value → World → Prop) (Le : World → World → Prop) (i : Nat) (o : Oper) : Prop :=
  ∀ a w, RFrame ops a0 a → Le w0 w → (∀ j, rwaits ops i j = true → T j (rgot ops a j) w) → (∀ (j : Nat) (d : Tmp), rwaits ops j i = true → (ops[j]?).bind (·.dst) = some d → a.tmps[d]? = a0.tmps[d]?) →
    ∀ K : Act → World → Prop, (∀ v w', Le w w' → T i (rval o v) w' → (∀ j, j ≠ i → rwaits ops j i = false → T j (rgot ops a j) w → if i < j then U i j (rval o v) (rgot ops a j) w' else U j i (rgot ops a j) (rval o v) w') → K (a.put o.dst v) w') → if Region.wanted o (yielded ops a.tmps) = true then Oper.wp P o a w K Q else K (a.put o.dst undef) w

structure RInvU (ops : Array Oper) (a0 : Act) (w0 : World) (T : Nat → Value → World → Prop) (U : Nat → Nat → Value → Value → World → Prop) (Le : World → World → Prop) (fuel : Nat) (listed : Array Bool) (a : Act) (w : World) : Prop where
  size : listed.size = ops.size
  count : listed.toList.count false = fuel
  closed : ∀ (j : Nat) (o : Oper), ops[j]? = some o → listed[j]? = some true → ∀ e ∈ o.after, Region.binds .any e = true → listed[e.on]? = some true
  frame : RFrame ops a0 a
  le : Le w0 w
  known : ∀ j : Nat, listed[j]? = some true → T j (rgot ops a j) w
  pairs : ∀ i j : Nat, i < j → listed[i]? = some true → listed[j]? = some true → U i j (rgot ops a i) (rgot ops a j) w
  old : ∀ (j : Nat) (d : Tmp), listed[j]? = some false → (ops[j]?).bind (·.dst) = some d → a.tmps[d]? = a0.tmps[d]?

theorem rinvU_any (hback : rback ops = true) (hap : rapart ops = true) (hlt : ∀ d ∈ rdsts ops, d < a0.tmps.size)
    (htr : ∀ u v w, Le u v → Le v w → Le u w) (hst : ∀ i v w w', T i v w → Le w w' → T i v w') (hsu : ∀ i j v u w w', U i j v u w → Le w w' → U i j v u w')
    (hop : ∀ (i : Nat) (o : Oper), ops[i]? = some o → ROpU P ops Q a0 w0 T U Le i o)
    (hfin : ∀ a w, RFrame ops a0 a → Le w0 w → (∀ j, j < ops.size → T j (rgot ops a j) w) → (∀ i j, i < j → j < ops.size → U i j (rgot ops a i) (rgot ops a j) w) → Q .normal a w) :
    ∀ fuel listed a w, RInvU ops a0 w0 T U Le fuel listed a w → wpAny P .any ops Q fuel listed a w := by
  intro fuel
  induction fuel with
  | zero =>
    intro listed a w I
    have hall : ∀ j, j < ops.size → listed[j]? = some true := by
      intro j hj
      have hjl : j < listed.size := by rw [I.size]; exact hj
      have h0 := I.count
      cases hb : listed[j] with
      | true => rw [Array.getElem?_eq_getElem hjl, hb]
      | false =>
        have hm : false ∈ listed.toList := by rw [← hb]; simp
        have := List.count_pos_iff.2 hm
        omega
    refine ⟨?_, hfin a w I.frame I.le (fun j hj => I.known j (hall j hj)) fun i j hij hj => I.pairs i j hij (hall i (by omega)) (hall j hj)⟩
    rw [List.eq_nil_iff_forall_not_mem]
    intro j hj
    obtain ⟨h1, o, ho, _⟩ := mem_ready.1 hj
    have := hall j (Array.getElem?_eq_some_iff.1 ho).1
    simp [this] at h1
  | succ fuel ih =>
    intro listed a w I
    refine ⟨fun h0 => ?_, fun i hi => ?_⟩
    · exfalso
      obtain ⟨i, h1, h2⟩ := least_false listed.toList (by rw [I.count]; omega)
      have h1' : listed[i]? = some false := by simpa using h1
      have hil : i < ops.size := by rw [← I.size]; exact (Array.getElem?_eq_some_iff.1 h1').1
      have : i ∈ Region.ready .any ops listed := by
        refine mem_ready.2 ⟨by simp [h1'], ops[i], Array.getElem?_eq_getElem hil, fun e he hb => ?_⟩
        have hlt' := rback_spec hback (Array.getElem?_eq_getElem hil) he hb
        have := h2 e.on hlt'
        have : listed[e.on]? = some true := by simpa using this
        simp [this]
      rw [h0] at this
      cases this
    · obtain ⟨h1, o, ho, hall⟩ := mem_ready.1 hi
      have hil : i < listed.size := by rw [I.size]; exact (Array.getElem?_eq_some_iff.1 ho).1
      have h1' : listed[i]? = some false := by
        rw [Array.getElem?_eq_getElem hil]
        simpa [hil] using h1
      have hpre : ∀ e ∈ o.after, Region.binds .any e = true → listed[e.on]? = some true := fun e he hb => by
        have := hall e he hb
        cases hx : listed[e.on]? with
        | none => simp [hx] at this
        | some b => simp [hx] at this; rw [this]
      refine wpOp_step ho fun K hK => hop i o ho a w I.frame I.le (fun j hj => ?_) (fun j d hj hd => ?_) K (fun v w' hle hT hU2 => hK _ _ (ih _ _ _ ?_))
      · unfold rwaits at hj
        simp only [ho] at hj
        obtain ⟨e, he, hb⟩ := Array.any_eq_true'.1 hj
        simp only [Bool.and_eq_true, beq_iff_eq] at hb
        rw [← hb.2]
        exact I.known _ (hpre e he hb.1)
      · unfold rwaits at hj
        cases hoj : ops[j]? with
        | none => simp [hoj] at hj
        | some oj =>
          simp only [hoj] at hj
          obtain ⟨e, he, hb⟩ := Array.any_eq_true'.1 hj
          simp only [Bool.and_eq_true, beq_iff_eq] at hb
          have hjl : j < listed.size := by rw [I.size]; exact (Array.getElem?_eq_some_iff.1 hoj).1
          refine I.old j d ?_ (by rw [hoj] at hd; rw [hoj]; exact hd)
          cases hx : listed[j] with
          | false => rw [Array.getElem?_eq_getElem hjl, hx]
          | true =>
            have := I.closed j oj hoj (by rw [Array.getElem?_eq_getElem hjl, hx]) e he hb.1
            rw [hb.2, h1'] at this
            cases this
      · have hnw : ∀ q, listed[q]? = some true → rwaits ops q i = false := fun q hq => by
          cases hr : rwaits ops q i with
          | false => rfl
          | true =>
            unfold rwaits at hr
            cases hoq : ops[q]? with
            | none => simp [hoq] at hr
            | some oq =>
              simp only [hoq] at hr
              obtain ⟨e, he, hb⟩ := Array.any_eq_true'.1 hr
              simp only [Bool.and_eq_true, beq_iff_eq] at hb
              have := I.closed q oq hoq hq e he hb.1
              rw [hb.2, h1'] at this
              cases this
        have hlto : ∀ d, o.dst = some d → d < a.tmps.size := fun d hd => by rw [I.frame.size]; exact hlt d (mem_rdsts ho hd)
        refine ⟨by simpa using I.size, ?_, ?_, ⟨?_, ?_, ?_⟩, htr _ _ _ I.le hle, ?_, ?_, ?_⟩
        · have := count_set_true listed.toList i (by simpa using h1')
          have h0 := I.count
          rw [Array.toList_setIfInBounds]
          omega
        · intro j oj hoj hl e he hb
          by_cases hji : j = i
          · subst hji
            rw [ho] at hoj
            obtain rfl := Option.some.inj hoj
            have hon := hpre e he hb
            by_cases hei : e.on = j
            · rw [hei] at hon; rw [h1'] at hon; cases hon
            · rw [Array.getElem?_setIfInBounds_ne (Ne.symm hei)]; exact hon
          · rw [Array.getElem?_setIfInBounds_ne (Ne.symm hji)] at hl
            have hon := I.closed j oj hoj hl e he hb
            by_cases hei : e.on = i
            · rw [hei, h1'] at hon; cases hon
            · rw [Array.getElem?_setIfInBounds_ne (Ne.symm hei)]; exact hon
        · cases hd : o.dst <;> simp [Act.put, I.frame.size]
        · cases hd : o.dst <;> simp [Act.put, I.frame.defers]
        · intro t ht
          cases hd : o.dst with
          | none => exact I.frame.out t ht
          | some d =>
            have : d ≠ t := fun e => ht (e ▸ mem_rdsts ho hd)
            simp only [Act.put]
            rw [Array.getElem?_setIfInBounds_ne this]
            exact I.frame.out t ht
        · intro j hl
          by_cases hji : j = i
          · subst hji; rw [rgot_put_self ho a v hlto]; exact hT
          · rw [Array.getElem?_setIfInBounds_ne (Ne.symm hji)] at hl
            rw [rgot_put_other hap ho hji]
            exact hst _ _ _ _ (I.known j hl) hle
        · intro p q hpq hp hq
          by_cases hpi : p = i
          · subst hpi
            rw [Array.getElem?_setIfInBounds_ne (by omega)] at hq
            have := hU2 q (by omega) (hnw q hq) (I.known q hq)
            rw [if_pos hpq] at this
            rw [rgot_put_self ho a v hlto, rgot_put_other hap ho (by omega)]
            exact this
          · rw [Array.getElem?_setIfInBounds_ne (Ne.symm hpi)] at hp
            by_cases hqi : q = i
            · subst hqi
              have := hU2 p hpi (hnw p hp) (I.known p hp)
              rw [if_neg (by omega)] at this
              rw [rgot_put_self ho a v hlto, rgot_put_other hap ho hpi]
              exact this
            · rw [Array.getElem?_setIfInBounds_ne (Ne.symm hqi)] at hq
              rw [rgot_put_other hap ho hpi, rgot_put_other hap ho hqi]
              exact hsu _ _ _ _ _ _ (I.pairs p q hpq hp hq) hle
        · intro j d hl hd
          by_cases hji : j = i
          · subst hji
            rw [Array.getElem?_setIfInBounds_self_of_lt hil] at hl
            cases hl
          · rw [Array.getElem?_setIfInBounds_ne (Ne.symm hji)] at hl
            obtain ⟨oj, hoj, hdj⟩ := Option.bind_eq_some_iff.1 hd
            cases hdo : o.dst with
            | none => exact I.old j d hl hd
            | some e =>
              have := rapart_spec hap hoj ho hji hdj hdo
              simp only [Act.put]
              rw [Array.getElem?_setIfInBounds_ne (Ne.symm this)]
              exact I.old j d hl hd

/-- **A REGION THAT DRAWS ITS ORDER, BY WHAT EACH OPERATION DOES WHENEVER IT COMES UP.** -/
theorem wp_region_pair {id : Nat} {w : World} (T : Nat → Value → World → Prop) (U : Nat → Nat → Value → Value → World → Prop) (Le : World → World → Prop) (hm : P.follows .mixedOrders = true) (hback : rback ops = true) (hap : rapart ops = true) (hlt : (rdsts ops).all (fun d => decide (d < a0.tmps.size)) = true)
    (hrf : Le w.drew w.drew) (htr : ∀ u v w, Le u v → Le v w → Le u w) (hst : ∀ i v w w', T i v w → Le w w' → T i v w') (hsu : ∀ i j v u w w', U i j v u w → Le w w' → U i j v u w')
    (hop : ∀ (i : Nat) (o : Oper), ops[i]? = some o → ROpU P ops Q a0 w.drew T U Le i o)
    (hfin : ∀ a w', RFrame ops a0 a → Le w.drew w' → (∀ j, j < ops.size → T j (rgot ops a j) w') → (∀ i j, i < j → j < ops.size → U i j (rgot ops a i) (rgot ops a j) w') → Q .normal a w') : (Code.region id ops true).wp P Q a0 w := by
  refine wp_region_any hm (rinvU_any (w0 := w.drew) hback hap (fun d hd => of_decide_eq_true (List.all_eq_true.1 hlt d hd)) htr hst hsu hop hfin _ _ _ _ ?_)
  refine ⟨by simp, by simp, fun j o _ h => ?_, ⟨rfl, rfl, fun _ _ => rfl⟩, hrf, fun j h => ?_, fun i j _ h _ => ?_, fun _ _ _ _ => rfl⟩
  · rw [Array.getElem?_replicate] at h; split at h <;> simp at h
  · rw [Array.getElem?_replicate] at h; split at h <;> simp at h
  · rw [Array.getElem?_replicate] at h; split at h <;> simp at h
end
end Go.Proofs.YtollcdalokhjaaaDoor
/-! ## Ranges over functions: laws that they share. -/
namespace Go.Proofs.YtollcdalokhjaaaDoor
open Go.RowKit Go.Shelf

attribute [local go_sem] Oper.semAt_some

section
variable {F : Fence} {n : Nat} {P : Program} {ops : Array Oper} {rest : List Oper} {o : Oper} {a : Act} {w w' : World} {Q : Exit → Act → World → Prop}
theorem wpListIn_ld (hg : o.guard = none) (t : TypeId) (x : Operand) (hop : o.op = .load t x) {u r : Value} (hx : a.eval x = u) (hr : (Instr.loadAt t u).run P w = .ok r w) (h : wpListIn F n P ops Q rest (a.put o.dst r) w) : wpListIn F n P ops Q (o :: rest) a w := by
  refine wpListIn_plain hg fun K hK' => ?_
  unfold Oper.wpIn
  refine ⟨?_, ?_⟩
  · simp [Oper.about, hop]
  · rw [Oper.semAt_plain F _ _ (by rw [hop]; intro c hc'; cases hc')]
    simp [execOp, hop, hx, hr, Result.andThen]
    exact hK' _ _ h
theorem wpListIn_st (hg : o.guard = none) (t : TypeId) (x y : Operand) (hop : o.op = .store t x y) {u v : Value} (hx : a.eval x = u) (hy : a.eval y = v) (hr : (Instr.storeAt t u v).run P w = .ok () w') (h : wpListIn F n P ops Q rest (a.put o.dst undef) w') : wpListIn F n P ops Q (o :: rest) a w := by
  refine wpListIn_plain hg fun K hK' => ?_
  unfold Oper.wpIn
  refine ⟨?_, ?_⟩
  · simp [Oper.about, hop]
  · rw [Oper.semAt_plain F _ _ (by rw [hop]; intro c hc'; cases hc')]
    simp [execOp, hop, hx, hy, hr, Result.andThen]
    exact hK' _ _ h
theorem wpListIn_sl (hg : o.guard = none) (t : TypeId) (x : Operand) (lo hi mx : Option Operand) (hop : o.op = .slice t x lo hi mx) {u r : Value} {lo' hi' mx' : Option Value} (hx : a.eval x = u) (h1 : lo.map a.eval = lo') (h2 : hi.map a.eval = hi') (h3 : mx.map a.eval = mx') (hr : (Instr.sliceAt t u lo' hi' mx').run P w = .ok r w) (h : wpListIn F n P ops Q rest (a.put o.dst r) w) : wpListIn F n P ops Q (o :: rest) a w := by
  refine wpListIn_plain hg fun K hK' => ?_
  unfold Oper.wpIn
  refine ⟨?_, ?_⟩
  · simp [Oper.about, hop]
  · rw [Oper.semAt_plain F _ _ (by rw [hop]; intro c hc'; cases hc')]
    simp [execOp, hop, hx, h1, h2, h3, hr, Result.andThen]
    exact hK' _ _ h
end
/-- Below n₀ nothing but the blocks of S turns. -/
def KeepS (S : Nat → Prop) (n₀ : Nat) (A B : World) : Prop := A.heap.size ≤ B.heap.size ∧ ∀ i, i < n₀ → ¬ S i → B.heap[i]? = A.heap[i]?
theorem KeepS.refl (S : Nat → Prop) (n₀ : Nat) (A : World) : KeepS S n₀ A A := ⟨Nat.le_refl _, fun _ _ _ => rfl⟩
theorem KeepS.trans {S : Nat → Prop} {n₀ : Nat} {A B C : World} (h : KeepS S n₀ A B) (k : KeepS S n₀ B C) : KeepS S n₀ A C := ⟨Nat.le_trans h.1 k.1, fun i hi hr => (k.2 i hi hr).trans (h.2 i hi hr)⟩
theorem KeepS.cell {S : Nat → Prop} {n₀ : Nat} {A B : World} (h : KeepS S n₀ A B) {i : Nat} (hi : i < n₀) (hr : ¬ S i) (o : Nat) : B.cell? ⟨i, o, none⟩ = A.cell? ⟨i, o, none⟩ := World.cell?_of_block (w := A) (h.2 i hi hr)
theorem KeepS.range {S : Nat → Prop} {n₀ : Nat} {A B : World} (h : KeepS S n₀ A B) {i o : Nat} (hi : i < n₀) (hr : ¬ S i) {cs : List Value} (r : A.rangeAt i o cs) : B.rangeAt i o cs := fun j v hv => (h.cell hi hr (o + j)).trans (r j v hv)
theorem KeepS.below {S : Nat → Prop} {n₀ : Nat} {A B : World} (h : Below n₀ A B) : KeepS S n₀ A B := ⟨h.size, fun i hi _ => h.block i hi⟩
theorem KeepS.put {S : Nat → Prop} {n₀ : Nat} {w : World} (hn : n₀ ≤ w.heap.size) (W : World) (l : Nat) (o o' : Obj) (hl : w.heap.size ≤ l) (h : W.heap[l]? = some o) (h1 : o.isCells = false) (h2 : o.isWalk = false) : KeepS S n₀ W (W.putObj l o') := KeepS.below (belowK_b hn W l o o' hl h h1 h2)
theorem cells_ownF {β : Type} (B b : Nat) (C : Array Value) (T : TypeId) (fr : Nat × Nat) : OwnFrom B (fun (_ : β) W => W.heap[b]? = some (.cells C T fr)) := by
  intro s W W' row hs hg hr
  refine (hg.block b (Array.getElem?_eq_some_iff.1 hs).1 fun e => ?_).trans hs
  obtain ⟨_, o, ho, hc⟩ := hr b e.symm
  rw [hs] at ho
  cases ho
  cases hc
theorem keeps_below {B : Nat} {W W' : World} (h : Below W.heap.size W W') : KeepsFrom B W W' := ⟨h.size, fun k _o _hk h0 _ho => (h.block k (Array.getElem?_eq_some_iff.1 h0).1).trans h0⟩
theorem keeps_only {B q : Nat} {W W' : World} (h : Only q W W') (hq : q < B) : KeepsFrom B W W' := ⟨h.size, fun k o hk h0 ho => (h.block k (Array.getElem?_eq_some_iff.1 h0).1 (by omega)).trans h0⟩
theorem cast_tmps {c : Code} {F : Fence} {n : Nat} {P : Program} {Q : Exit → Act → World → Prop} {T T' : Array Value} {D : List Deferred} {W : World} (h : T' = T) (g : c.wpIn F n P Q { tmps := T, defers := D } W) : c.wpIn F n P Q { tmps := T', defers := D } W := h ▸ g
theorem ownFrom_pureF {β : Type} {B : Nat} (p : β → Prop) : OwnFrom B (fun s (_ : World) => p s) := fun _ _ _ _ hs _ _ => hs
/-- No block that was there has turned, but those of S. -/
structure OnlyS (S : Nat → Prop) (w w' : World) : Prop where
  os : w'.os = w.os
  tape : w'.tape = w.tape
  output : w'.output = w.output
  size : w.heap.size ≤ w'.heap.size
  block : ∀ k, k < w.heap.size → ¬ S k → w'.heap[k]? = w.heap[k]?
theorem OnlyS.refl (S : Nat → Prop) (w : World) : OnlyS S w w := ⟨rfl, rfl, rfl, Nat.le_refl _, fun _ _ _ => rfl⟩
theorem OnlyS.trans {S : Nat → Prop} {u v w : World} (h : OnlyS S u v) (k : OnlyS S v w) : OnlyS S u w :=
  ⟨k.os.trans h.os, k.tape.trans h.tape, k.output.trans h.output, Nat.le_trans h.size k.size, fun i hi hb => (k.block i (Nat.lt_of_lt_of_le hi h.size) hb).trans (h.block i hi hb)⟩
theorem OnlyS.of_below {S : Nat → Prop} {w w' : World} (h : Below w.heap.size w w') : OnlyS S w w' := ⟨h.os, h.tape, h.output, h.size, fun k hk _ => h.block k hk⟩
theorem OnlyS.of_only {S : Nat → Prop} {b : Nat} {w w' : World} (h : Only b w w') (hb : S b) : OnlyS S w w' := ⟨h.os, h.tape, h.output, h.size, fun k hk hs => h.block k hk (fun e => hs (e ▸ hb))⟩
theorem OnlyS.below {S : Nat → Prop} {B : Nat} {w w' : World} (h : OnlyS S w w') (hS : ∀ i, S i → B ≤ i) (hB : B ≤ w.heap.size) : Below B w w' :=
  ⟨h.os, h.tape, h.output, h.size, fun k hk => h.block k (by omega) (fun hs => by have := hS k hs; omega)⟩
theorem keeps_onlyS {S : Nat → Prop} {B : Nat} {W W' : World} (h : OnlyS S W W') (hq : ∀ i, S i → i < B) : KeepsFrom B W W' := ⟨h.size, fun k _o hk h0 _ho => (h.block k (Array.getElem?_eq_some_iff.1 h0).1 (fun hs => by have := hq k hs; omega)).trans h0⟩
theorem OnlyS.keep {S : Nat → Prop} {n₀ : Nat} {A B : World} (h : OnlyS S A B) (hn : n₀ ≤ A.heap.size) : KeepS S n₀ A B := ⟨h.size, fun i hi hs => h.block i (by omega) hs⟩
end Go.Proofs.YtollcdalokhjaaaDoor
