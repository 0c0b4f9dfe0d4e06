/-
  As RegPh, where what a phase says may speak of the slots, too (an alloc that floats beside an effect: the slot that holds its pointer).
-/
import Derived.Test.YtlcljjapeigaeaaDoorMGen
namespace Go.Proofs.YtlcljjapeigaeaaDoor
open Go

section
variable {P : Program} {ops : Array Oper} {Q : Exit → Act → World → Prop} {a0 : Act} {T : Nat → Nat → Value → World → Prop} {Lx : Nat → Nat → World → World → Prop} {E : List Nat} {Ph : Nat → Act → World → Prop}

/-- What an operation must do, whenever it comes up: d: how many effects it is (0 or 1). -/
def ROA (P : Program) (ops : Array Oper) (Q : Exit → Act → World → Prop) (a0 : Act) (T : Nat → Nat → Value → World → Prop) (Lx : Nat → Nat → World → World → Prop) (E : List Nat) (Ph : Nat → Act → World → Prop) (i : Nat) (o : Oper) : Prop :=
  ∀ a w k, RFrame ops a0 a → Ph k a w → (∀ j m, E[j]? = some m → (m = i → k = j) ∧ (rwaits ops m i = true → k ≤ j)) → (∀ j, rwaits ops i j = true → T j k (rgot ops a j) w) → (∀ (j : Nat) (d : Tmp), rwaits ops j i = true → (ops[j]?).bind (·.dst) = some d → a.tmps[d]? = a0.tmps[d]?) →
    ∀ K : Act → World → Prop, (∀ v w', Lx k (k + if E.contains i then 1 else 0) w w' → Ph (k + if E.contains i then 1 else 0) (a.put o.dst v) w' → T i (k + if E.contains i then 1 else 0) (rval o v) w' → K (a.put o.dst v) w') → if Region.wanted o (yielded ops a.tmps) = true then Oper.wp P o a w K Q else K (a.put o.dst undef) w

structure RInvA (ops : Array Oper) (a0 : Act) (T : Nat → Nat → Value → World → Prop) (E : List Nat) (Ph : Nat → Act → World → Prop) (fuel : Nat) (listed : Array Bool) (a : Act) (w : World) (k : Nat) : Prop where
  size : listed.size = ops.size
  count : listed.toList.count false = fuel
  closed : ∀ (j : Nat) (o : Oper), ops[j]? = some o → listed[j]? = some true → ∀ e ∈ o.after, Region.binds .any e = true → listed[e.on]? = some true
  frame : RFrame ops a0 a
  ph : Ph k a w
  at_ : ∀ (j m : Nat), E[j]? = some m → (listed[m]? = some true ↔ j < k)
  le : k ≤ E.length
  known : ∀ j : Nat, listed[j]? = some true → T j k (rgot ops a j) w
  old : ∀ (j : Nat) (d : Tmp), listed[j]? = some false → (ops[j]?).bind (·.dst) = some d → a.tmps[d]? = a0.tmps[d]?

theorem rinvA_any (hback : rback ops = true) (hap : rapart ops = true) (hlt : ∀ d ∈ rdsts ops, d < a0.tmps.size) (hch : rchainP ops E = true)
    (hst : ∀ i v w w' k k', T i k v w → Lx k k' w w' → T i k' v w')
    (hop : ∀ (i : Nat) (o : Oper), ops[i]? = some o → ROA P ops Q a0 T Lx E Ph i o)
    (hfin : ∀ a w, RFrame ops a0 a → Ph E.length a w → (∀ j, j < ops.size → T j E.length (rgot ops a j) w) → Q .normal a w) :
    ∀ fuel listed a w k, RInvA ops a0 T E Ph fuel listed a w k → wpAny P .any ops Q fuel listed a w := by
  simp only [rchainP, Bool.and_eq_true, decide_eq_true_eq, List.all_eq_true] at hch
  obtain ⟨⟨hEs, hEn⟩, hEc⟩ := hch
  have hchain : ∀ (j m m' : Nat), E[j]? = some m → E[j + 1]? = some m' → rwaits ops m' m = true := by
    intro j m m' h1 h2
    have := hEc j (List.mem_range.2 (List.getElem?_eq_some_iff.1 h1).1)
    rw [h1, h2] at this
    exact this
  have hinj : ∀ (j j' m : Nat), E[j]? = some m → E[j']? = some m → j = j' := by
    intro j j' m h1 h2
    obtain ⟨l1, e1⟩ := List.getElem?_eq_some_iff.1 h1
    obtain ⟨l2, e2⟩ := List.getElem?_eq_some_iff.1 h2
    exact (List.getElem_inj hEn).1 (e1.trans e2.symm)
  intro fuel
  induction fuel with
  | zero =>
    intro listed a w k I
    have hall : ∀ j, j < ops.size → listed[j]? = some true := by
      intro j hj
      have hjl : j < listed.size := by rw [I.size]; exact hj
      have h0 := I.count
      cases hb : listed[j] with
      | true => rw [Array.getElem?_eq_getElem hjl, hb]
      | false =>
        have hm : false ∈ listed.toList := by rw [← hb]; simp
        have := List.count_pos_iff.2 hm
        omega
    have hk : k = E.length := by
      apply Nat.le_antisymm I.le
      apply Nat.le_of_not_lt
      intro hlt'
      have hm := List.getElem?_eq_getElem hlt'
      have hml := hEs _ (List.getElem_mem hlt')
      have := (I.at_ k _ hm).1 (hall _ hml)
      omega
    refine ⟨?_, hfin a w I.frame (hk ▸ I.ph) fun j hj => hk ▸ I.known j (hall j hj)⟩
    rw [List.eq_nil_iff_forall_not_mem]
    intro j hj
    obtain ⟨h1, o, ho, _⟩ := mem_ready.1 hj
    have := hall j (Array.getElem?_eq_some_iff.1 ho).1
    simp [this] at h1
  | succ fuel ih =>
    intro listed a w k I
    refine ⟨fun h0 => ?_, fun i hi => ?_⟩
    · exfalso
      obtain ⟨i, h1, h2⟩ := least_false listed.toList (by rw [I.count]; omega)
      have h1' : listed[i]? = some false := by simpa using h1
      have hil : i < ops.size := by rw [← I.size]; exact (Array.getElem?_eq_some_iff.1 h1').1
      have : i ∈ Region.ready .any ops listed := by
        refine mem_ready.2 ⟨by simp [h1'], ops[i], Array.getElem?_eq_getElem hil, fun e he hb => ?_⟩
        have hlt' := rback_spec hback (Array.getElem?_eq_getElem hil) he hb
        have := h2 e.on hlt'
        have : listed[e.on]? = some true := by simpa using this
        simp [this]
      rw [h0] at this
      cases this
    · obtain ⟨h1, o, ho, hall⟩ := mem_ready.1 hi
      have hil : i < listed.size := by rw [I.size]; exact (Array.getElem?_eq_some_iff.1 ho).1
      have h1' : listed[i]? = some false := by
        rw [Array.getElem?_eq_getElem hil]
        simpa [hil] using h1
      have hpre : ∀ e ∈ o.after, Region.binds .any e = true → listed[e.on]? = some true := fun e he hb => by
        have := hall e he hb
        cases hx : listed[e.on]? with
        | none => simp [hx] at this
        | some b => simp [hx] at this; rw [this]
      have hprew : ∀ m, rwaits ops i m = true → listed[m]? = some true := by
        intro m hm
        unfold rwaits at hm
        simp only [ho] at hm
        obtain ⟨e, he, hb⟩ := Array.any_eq_true'.1 hm
        simp only [Bool.and_eq_true, beq_iff_eq] at hb
        rw [← hb.2]
        exact hpre e he hb.1
      have hpost : ∀ m, rwaits ops m i = true → listed[m]? ≠ some true := by
        intro m hm hl
        unfold rwaits at hm
        cases hom : ops[m]? with
        | none => simp [hom] at hm
        | some om =>
          simp only [hom] at hm
          obtain ⟨e, he, hb⟩ := Array.any_eq_true'.1 hm
          simp only [Bool.and_eq_true, beq_iff_eq] at hb
          have := I.closed m om hom hl e he hb.1
          rw [hb.2, h1'] at this
          cases this
      have hbound : ∀ j m, E[j]? = some m → (m = i → k = j) ∧ (rwaits ops m i = true → k ≤ j) := by
        intro j m hm
        refine ⟨fun e => ?_, fun hw => ?_⟩
        · subst e
          have hnk : ¬ j < k := fun h => by have := (I.at_ j m hm).2 h; rw [h1'] at this; cases this
          cases j with
          | zero => omega
          | succ j =>
            have hlj : j < E.length := by have := (List.getElem?_eq_some_iff.1 hm).1; omega
            have hw := hchain j _ m (List.getElem?_eq_getElem hlj) hm
            have := (I.at_ j _ (List.getElem?_eq_getElem hlj)).1 (hprew _ hw)
            omega
        · have : ¬ j < k := fun h => hpost m hw ((I.at_ j m hm).2 h)
          omega
      refine wpOp_step ho fun K hK => hop i o ho a w k I.frame I.ph hbound (fun j hj => I.known _ (hprew j hj)) (fun j d hj hd => ?_) K (fun v w' hle hph hT => hK _ _ (ih _ _ _ (k + if E.contains i then 1 else 0) ?_))
      · have hne := hpost j hj
        have hoj : j < ops.size := by
          obtain ⟨oj, hoj, _⟩ := Option.bind_eq_some_iff.1 hd
          exact (Array.getElem?_eq_some_iff.1 hoj).1
        have hjl : j < listed.size := by rw [I.size]; exact hoj
        refine I.old j d ?_ hd
        cases hx : listed[j] with
        | false => rw [Array.getElem?_eq_getElem hjl, hx]
        | true => exact absurd (by rw [Array.getElem?_eq_getElem hjl, hx]) hne
      · have hlto : ∀ d, o.dst = some d → d < a.tmps.size := fun d hd => by rw [I.frame.size]; exact hlt d (mem_rdsts ho hd)
        refine ⟨by simpa using I.size, ?_, ?_, ⟨?_, ?_, ?_⟩, hph, ?_, ?_, ?_, ?_⟩
        · have := count_set_true listed.toList i (by simpa using h1')
          have h0 := I.count
          rw [Array.toList_setIfInBounds]
          omega
        · intro j oj hoj hl e he hb
          by_cases hji : j = i
          · subst hji
            rw [ho] at hoj
            obtain rfl := Option.some.inj hoj
            have hon := hpre e he hb
            by_cases hei : e.on = j
            · rw [hei] at hon; rw [h1'] at hon; cases hon
            · rw [Array.getElem?_setIfInBounds_ne (Ne.symm hei)]; exact hon
          · rw [Array.getElem?_setIfInBounds_ne (Ne.symm hji)] at hl
            have hon := I.closed j oj hoj hl e he hb
            by_cases hei : e.on = i
            · rw [hei, h1'] at hon; cases hon
            · rw [Array.getElem?_setIfInBounds_ne (Ne.symm hei)]; exact hon
        · cases hd : o.dst <;> simp [Act.put, I.frame.size]
        · cases hd : o.dst <;> simp [Act.put, I.frame.defers]
        · intro t ht
          cases hd : o.dst with
          | none => exact I.frame.out t ht
          | some d =>
            have : d ≠ t := fun e => ht (e ▸ mem_rdsts ho hd)
            simp only [Act.put]
            rw [Array.getElem?_setIfInBounds_ne this]
            exact I.frame.out t ht
        · intro j m hm
          by_cases hmi : m = i
          · subst hmi
            rw [Array.getElem?_setIfInBounds_self_of_lt hil]
            have hkj := (hbound j m hm).1 rfl
            have hc : E.contains m = true := by simpa using List.mem_of_getElem? hm
            rw [if_pos hc]
            simp; omega
          · rw [Array.getElem?_setIfInBounds_ne (Ne.symm hmi), I.at_ j m hm]
            by_cases hc : E.contains i = true
            · rw [if_pos hc]
              obtain ⟨j', hj'⟩ := List.getElem?_of_mem (List.contains_iff_mem.1 hc)
              have hk' := (hbound j' i hj').1 rfl
              have : j ≠ j' := fun e => hmi (by subst e; rw [hm] at hj'; exact Option.some.inj hj')
              omega
            · rw [if_neg hc]
              exact Iff.rfl
        · by_cases hc : E.contains i = true
          · rw [if_pos hc]
            obtain ⟨j', hj'⟩ := List.getElem?_of_mem (List.contains_iff_mem.1 hc)
            have hk' := (hbound j' i hj').1 rfl
            have := (List.getElem?_eq_some_iff.1 hj').1
            omega
          · rw [if_neg hc]
            exact I.le
        · intro j hl
          by_cases hji : j = i
          · subst hji; rw [rgot_put_self ho a v hlto]; exact hT
          · rw [Array.getElem?_setIfInBounds_ne (Ne.symm hji)] at hl
            rw [rgot_put_other hap ho hji]
            exact hst _ _ _ _ _ _ (I.known j hl) hle
        · intro j d hl hd
          by_cases hji : j = i
          · subst hji
            rw [Array.getElem?_setIfInBounds_self_of_lt hil] at hl
            cases hl
          · rw [Array.getElem?_setIfInBounds_ne (Ne.symm hji)] at hl
            obtain ⟨oj, hoj, hdj⟩ := Option.bind_eq_some_iff.1 hd
            cases hdo : o.dst with
            | none => exact I.old j d hl hd
            | some e =>
              have := rapart_spec hap hoj ho hji hdj hdo
              simp only [Act.put]
              rw [Array.getElem?_setIfInBounds_ne (Ne.symm this)]
              exact I.old j d hl hd
end

/-- The obligations, one behind the other. -/
def RAllA (P : Program) (ops : Array Oper) (Q : Exit → Act → World → Prop) (a0 : Act) (T : Nat → Nat → Value → World → Prop) (Lx : Nat → Nat → World → World → Prop) (E : List Nat) (Ph : Nat → Act → World → Prop) : Nat → List Oper → Prop
  | _, [] => True
  | i, o :: l => ROA P ops Q a0 T Lx E Ph i o ∧ RAllA P ops Q a0 T Lx E Ph (i + 1) l
theorem ralla_at {P : Program} {ops : Array Oper} {Q : Exit → Act → World → Prop} {a0 : Act} {T : Nat → Nat → Value → World → Prop} {Lx : Nat → Nat → World → World → Prop} {E : List Nat} {Ph : Nat → Act → World → Prop} :
    ∀ (l : List Oper) (k : Nat), RAllA P ops Q a0 T Lx E Ph k l → ∀ (i : Nat) (o : Oper), l[i]? = some o → ROA P ops Q a0 T Lx E Ph (k + i) o
  | [], _, _, i, o, h => by simp at h
  | x :: l, k, ⟨h0, h1⟩, i, o, h => by
    cases i with
    | zero => simp at h; subst h; exact h0
    | succ i =>
      have := ralla_at l (k + 1) h1 i o (by simpa using h)
      rwa [show k + (i + 1) = k + 1 + i by omega]
/-- **A REGION THAT DRAWS ITS ORDER AND HOLDS EFFECTS.** E: the effects' places; Ph k: the world where k of them are over. -/
theorem wp_region_pha {P : Program} {Q : Exit → Act → World → Prop} {a0 : Act} {id : Nat} {w : World} {l : List Oper} {Lx : Nat → Nat → World → World → Prop} (Ts : List (RXP Lx)) (E : List Nat) (Ph : Nat → Act → World → Prop) (hm : P.follows .mixedOrders = true) (hback : rback l.toArray = true) (hap : rapart l.toArray = true) (hlt : (rdsts l.toArray).all (fun d => decide (d < a0.tmps.size)) = true) (hch : rchainP l.toArray E = true)
    (h0 : Ph 0 a0 w.drew)
    (hop : RAllA P l.toArray Q a0 (tabXP Ts) Lx E Ph 0 l)
    (hfin : ∀ a w', RFrame l.toArray a0 a → Ph E.length a w' → (∀ j, j < l.toArray.size → tabXP Ts j E.length (rgot l.toArray a j) w') → Q .normal a w') : (Code.region id l.toArray true).wp P Q a0 w := by
  refine wp_region_any hm (rinvA_any (T := tabXP Ts) (Lx := Lx) (E := E) (Ph := Ph) hback hap (fun d hd => of_decide_eq_true (List.all_eq_true.1 hlt d hd)) hch (fun i v w w' k k' h hx => (Ts.getD i RXP.any).st v w w' k k' h hx) (fun i o ho => ?_) hfin _ _ _ _ 0 ?_)
  · have := ralla_at l 0 hop i o (by simpa using ho)
    rwa [Nat.zero_add] at this
  · have hEs : ∀ m ∈ E, m < l.toArray.size := by
      simp only [rchainP, Bool.and_eq_true, decide_eq_true_eq, List.all_eq_true] at hch
      exact fun m hm => hch.1.1 m hm
    refine ⟨by simp, by simp, fun j o _ h => ?_, ⟨rfl, rfl, fun _ _ => rfl⟩, h0, fun j m hm => ⟨fun h => ?_, fun h => absurd h (by omega)⟩, Nat.zero_le _, fun j h => ?_, fun _ _ _ _ => rfl⟩
    · rw [Array.getElem?_replicate] at h; split at h <;> simp at h
    · rw [Array.getElem?_replicate] at h; split at h <;> simp at h
    · rw [Array.getElem?_replicate] at h; split at h <;> simp at h
end Go.Proofs.YtlcljjapeigaeaaDoor
