/-
  A region that draws its order of evaluation: ONE obligation for each of its operations, whatever the order. What is known of an operation's value (T) lasts as the world goes on (Le).
-/
import Derived.RegionTactic
import Derived.WalkKit
namespace Go.Proofs.Ytkoojbbimjjndaa
open Go

/-- The slots that a region writes. -/
def rdsts (ops : Array Oper) : List Tmp := ops.toList.filterMap (·.dst)
/-- What operation j has left in its slot. -/
def rgot (ops : Array Oper) (a : Act) (j : Nat) : Value := match (ops[j]?).bind (·.dst) with
  | some d => a.tmps.getD d undef
  | none => undef
/-- Does j wait for i? -/
def rwaits (ops : Array Oper) (j i : Nat) : Bool := match ops[j]? with
  | some o => o.after.any fun e => Region.binds .any e && e.on == i
  | none => false
/-- No operation waits for one behind it. -/
def rback (ops : Array Oper) : Bool := (List.range ops.size).all fun i => match ops[i]? with
  | some o => o.after.all fun e => !Region.binds .any e || decide (e.on < i)
  | none => true
/-- No two operations write one slot. -/
def rapart (ops : Array Oper) : Bool := (List.range ops.size).all fun i => (List.range ops.size).all fun j => i == j || match (ops[i]?).bind (·.dst), (ops[j]?).bind (·.dst) with
  | some d, some e => d != e
  | _, _ => true
def rval (o : Oper) (v : Value) : Value := match o.dst with
  | some _ => v
  | none => undef

structure RFrame (ops : Array Oper) (a0 a : Act) : Prop where
  size : a.tmps.size = a0.tmps.size
  defers : a.defers = a0.defers
  out : ∀ t, t ∉ rdsts ops → a.tmps[t]? = a0.tmps[t]?

theorem rback_spec {ops : Array Oper} (h : rback ops = true) {i : Nat} {o : Oper} (ho : ops[i]? = some o) {e : Edge} (he : e ∈ o.after) (hb : Region.binds .any e = true) : e.on < i := by
  unfold rback at h
  have h1 := List.all_eq_true.1 h i (List.mem_range.2 (Array.getElem?_eq_some_iff.1 ho).1)
  simp only [ho] at h1
  have h2 := Array.all_eq_true_iff_forall_mem.1 h1 e he
  simpa [hb] using h2
theorem rapart_spec {ops : Array Oper} (h : rapart ops = true) {i j : Nat} {oi oj : Oper} (hi : ops[i]? = some oi) (hj : ops[j]? = some oj) (hne : i ≠ j) {d e : Tmp} (hd : oi.dst = some d) (he : oj.dst = some e) : d ≠ e := by
  unfold rapart at h
  have h1 := List.all_eq_true.1 h i (List.mem_range.2 (Array.getElem?_eq_some_iff.1 hi).1)
  have h2 := List.all_eq_true.1 h1 j (List.mem_range.2 (Array.getElem?_eq_some_iff.1 hj).1)
  simpa [hi, hj, hd, he, hne] using h2
theorem mem_rdsts {ops : Array Oper} {i : Nat} {o : Oper} (ho : ops[i]? = some o) {d : Tmp} (hd : o.dst = some d) : d ∈ rdsts ops := by
  unfold rdsts
  exact List.mem_filterMap.2 ⟨o, by simpa using Array.mem_of_getElem? ho, hd⟩
theorem count_set_true (l : List Bool) (i : Nat) (h : l[i]? = some false) : (l.set i true).count false + 1 = l.count false := by
  induction l generalizing i with
  | nil => simp at h
  | cons x l ih =>
    cases i with
    | zero => simp at h; subst h; simp
    | succ i =>
      simp only [List.getElem?_cons_succ] at h
      have := ih i h
      simp only [List.set_cons_succ, List.count_cons]
      omega
theorem least_false (l : List Bool) (h : 0 < l.count false) : ∃ i : Nat, l[i]? = some false ∧ ∀ j : Nat, j < i → l[j]? = some true := by
  induction l with
  | nil => simp at h
  | cons x l ih =>
    cases x with
    | false => exact ⟨0, rfl, fun j hj => absurd hj (by omega)⟩
    | true =>
      obtain ⟨i, h1, h2⟩ := ih (by simpa using h)
      refine ⟨i + 1, h1, fun j hj => ?_⟩
      cases j with
      | zero => rfl
      | succ j => exact h2 j (by omega)

section
variable {P : Program} {ops : Array Oper} {Q : Exit → Act → World → Prop} {a0 : Act} {w0 : World} {T : Nat → Value → World → Prop} {Le : World → World → Prop}

/-- What an operation must do, whenever it comes up. -/
def ROp (P : Program) (ops : Array Oper) (Q : Exit → Act → World → Prop) (a0 : Act) (w0 : World) (T : Nat → Value → World → Prop) (Le : World → World → Prop) (i : Nat) (o : Oper) : Prop :=
  ∀ a w, RFrame ops a0 a → Le w0 w → (∀ j, rwaits ops i j = true → T j (rgot ops a j) w) → (∀ (j : Nat) (d : Tmp), rwaits ops j i = true → (ops[j]?).bind (·.dst) = some d → a.tmps[d]? = a0.tmps[d]?) →
    ∀ K : Act → World → Prop, (∀ v w', Le w w' → T i (rval o v) w' → K (a.put o.dst v) w') → if Region.wanted o (yielded ops a.tmps) = true then Oper.wp P o a w K Q else K (a.put o.dst undef) w

structure RInv (ops : Array Oper) (a0 : Act) (w0 : World) (T : Nat → Value → World → Prop) (Le : World → World → Prop) (fuel : Nat) (listed : Array Bool) (a : Act) (w : World) : Prop where
  size : listed.size = ops.size
  count : listed.toList.count false = fuel
  closed : ∀ (j : Nat) (o : Oper), ops[j]? = some o → listed[j]? = some true → ∀ e ∈ o.after, Region.binds .any e = true → listed[e.on]? = some true
  frame : RFrame ops a0 a
  le : Le w0 w
  known : ∀ j : Nat, listed[j]? = some true → T j (rgot ops a j) w
  old : ∀ (j : Nat) (d : Tmp), listed[j]? = some false → (ops[j]?).bind (·.dst) = some d → a.tmps[d]? = a0.tmps[d]?

theorem rgot_put_other (hap : rapart ops = true) {i j : Nat} {o : Oper} (ho : ops[i]? = some o) (hne : j ≠ i) (a : Act) (v : Value) : rgot ops (a.put o.dst v) j = rgot ops a j := by
  unfold rgot
  cases hj : (ops[j]?).bind (·.dst) with
  | none => rfl
  | some d =>
    obtain ⟨oj, hoj, hd⟩ := Option.bind_eq_some_iff.1 hj
    cases hdo : o.dst with
    | none => rfl
    | some e =>
      have := rapart_spec hap hoj ho hne hd hdo
      simp [Act.put, Array.getElem?_setIfInBounds_ne (Ne.symm this)]
theorem rgot_put_self {i : Nat} {o : Oper} (ho : ops[i]? = some o) (a : Act) (v : Value) (hlt : ∀ d, o.dst = some d → d < a.tmps.size) : rgot ops (a.put o.dst v) i = rval o v := by
  unfold rgot rval
  simp only [ho, Option.bind_some]
  cases hd : o.dst with
  | none => rfl
  | some d => simp [Act.put, hlt d hd]

theorem rinv_any (hback : rback ops = true) (hap : rapart ops = true) (hlt : ∀ d ∈ rdsts ops, d < a0.tmps.size)
    (htr : ∀ u v w, Le u v → Le v w → Le u w) (hst : ∀ i v w w', T i v w → Le w w' → T i v w')
    (hop : ∀ (i : Nat) (o : Oper), ops[i]? = some o → ROp P ops Q a0 w0 T Le i o)
    (hfin : ∀ a w, RFrame ops a0 a → Le w0 w → (∀ j, j < ops.size → T j (rgot ops a j) w) → Q .normal a w) :
    ∀ fuel listed a w, RInv ops a0 w0 T Le fuel listed a w → wpAny P .any ops Q fuel listed a w := by
  intro fuel
  induction fuel with
  | zero =>
    intro listed a w I
    have hall : ∀ j, j < ops.size → listed[j]? = some true := by
      intro j hj
      have hjl : j < listed.size := by rw [I.size]; exact hj
      have h0 := I.count
      cases hb : listed[j] with
      | true => rw [Array.getElem?_eq_getElem hjl, hb]
      | false =>
        have hm : false ∈ listed.toList := by rw [← hb]; simp
        have := List.count_pos_iff.2 hm
        omega
    refine ⟨?_, hfin a w I.frame I.le fun j hj => I.known j (hall j hj)⟩
    rw [List.eq_nil_iff_forall_not_mem]
    intro j hj
    obtain ⟨h1, o, ho, _⟩ := mem_ready.1 hj
    have := hall j (Array.getElem?_eq_some_iff.1 ho).1
    simp [this] at h1
  | succ fuel ih =>
    intro listed a w I
    refine ⟨fun h0 => ?_, fun i hi => ?_⟩
    · exfalso
      obtain ⟨i, h1, h2⟩ := least_false listed.toList (by rw [I.count]; omega)
      have h1' : listed[i]? = some false := by simpa using h1
      have hil : i < ops.size := by rw [← I.size]; exact (Array.getElem?_eq_some_iff.1 h1').1
      have : i ∈ Region.ready .any ops listed := by
        refine mem_ready.2 ⟨by simp [h1'], ops[i], Array.getElem?_eq_getElem hil, fun e he hb => ?_⟩
        have hlt' := rback_spec hback (Array.getElem?_eq_getElem hil) he hb
        have := h2 e.on hlt'
        have : listed[e.on]? = some true := by simpa using this
        simp [this]
      rw [h0] at this
      cases this
    · obtain ⟨h1, o, ho, hall⟩ := mem_ready.1 hi
      have hil : i < listed.size := by rw [I.size]; exact (Array.getElem?_eq_some_iff.1 ho).1
      have h1' : listed[i]? = some false := by
        rw [Array.getElem?_eq_getElem hil]
        simpa [hil] using h1
      have hpre : ∀ e ∈ o.after, Region.binds .any e = true → listed[e.on]? = some true := fun e he hb => by
        have := hall e he hb
        cases hx : listed[e.on]? with
        | none => simp [hx] at this
        | some b => simp [hx] at this; rw [this]
      refine wpOp_step ho fun K hK => hop i o ho a w I.frame I.le (fun j hj => ?_) (fun j d hj hd => ?_) K (fun v w' hle hT => hK _ _ (ih _ _ _ ?_))
      · unfold rwaits at hj
        simp only [ho] at hj
        obtain ⟨e, he, hb⟩ := Array.any_eq_true'.1 hj
        simp only [Bool.and_eq_true, beq_iff_eq] at hb
        rw [← hb.2]
        exact I.known _ (hpre e he hb.1)
      · unfold rwaits at hj
        cases hoj : ops[j]? with
        | none => simp [hoj] at hj
        | some oj =>
          simp only [hoj] at hj
          obtain ⟨e, he, hb⟩ := Array.any_eq_true'.1 hj
          simp only [Bool.and_eq_true, beq_iff_eq] at hb
          have hjl : j < listed.size := by rw [I.size]; exact (Array.getElem?_eq_some_iff.1 hoj).1
          refine I.old j d ?_ (by rw [hoj] at hd; rw [hoj]; exact hd)
          cases hx : listed[j] with
          | false => rw [Array.getElem?_eq_getElem hjl, hx]
          | true =>
            have := I.closed j oj hoj (by rw [Array.getElem?_eq_getElem hjl, hx]) e he hb.1
            rw [hb.2, h1'] at this
            cases this
      · have hlto : ∀ d, o.dst = some d → d < a.tmps.size := fun d hd => by rw [I.frame.size]; exact hlt d (mem_rdsts ho hd)
        refine ⟨by simpa using I.size, ?_, ?_, ⟨?_, ?_, ?_⟩, htr _ _ _ I.le hle, ?_, ?_⟩
        · have := count_set_true listed.toList i (by simpa using h1')
          have h0 := I.count
          rw [Array.toList_setIfInBounds]
          omega
        · intro j oj hoj hl e he hb
          by_cases hji : j = i
          · subst hji
            rw [ho] at hoj
            obtain rfl := Option.some.inj hoj
            have hon := hpre e he hb
            by_cases hei : e.on = j
            · rw [hei] at hon; rw [h1'] at hon; cases hon
            · rw [Array.getElem?_setIfInBounds_ne (Ne.symm hei)]; exact hon
          · rw [Array.getElem?_setIfInBounds_ne (Ne.symm hji)] at hl
            have hon := I.closed j oj hoj hl e he hb
            by_cases hei : e.on = i
            · rw [hei, h1'] at hon; cases hon
            · rw [Array.getElem?_setIfInBounds_ne (Ne.symm hei)]; exact hon
        · cases hd : o.dst <;> simp [Act.put, I.frame.size]
        · cases hd : o.dst <;> simp [Act.put, I.frame.defers]
        · intro t ht
          cases hd : o.dst with
          | none => exact I.frame.out t ht
          | some d =>
            have : d ≠ t := fun e => ht (e ▸ mem_rdsts ho hd)
            simp only [Act.put]
            rw [Array.getElem?_setIfInBounds_ne this]
            exact I.frame.out t ht
        · intro j hl
          by_cases hji : j = i
          · subst hji; rw [rgot_put_self ho a v hlto]; exact hT
          · rw [Array.getElem?_setIfInBounds_ne (Ne.symm hji)] at hl
            rw [rgot_put_other hap ho hji]
            exact hst _ _ _ _ (I.known j hl) hle
        · intro j d hl hd
          by_cases hji : j = i
          · subst hji
            rw [Array.getElem?_setIfInBounds_self_of_lt hil] at hl
            cases hl
          · rw [Array.getElem?_setIfInBounds_ne (Ne.symm hji)] at hl
            obtain ⟨oj, hoj, hdj⟩ := Option.bind_eq_some_iff.1 hd
            cases hdo : o.dst with
            | none => exact I.old j d hl hd
            | some e =>
              have := rapart_spec hap hoj ho hji hdj hdo
              simp only [Act.put]
              rw [Array.getElem?_setIfInBounds_ne (Ne.symm this)]
              exact I.old j d hl hd

/-- **A REGION THAT DRAWS ITS ORDER, BY WHAT EACH OPERATION DOES WHENEVER IT COMES UP.** -/
theorem wp_region_inv {id : Nat} {w : World} (T : Nat → Value → World → Prop) (Le : World → World → Prop) (hm : P.follows .mixedOrders = true) (hback : rback ops = true) (hap : rapart ops = true) (hlt : (rdsts ops).all (fun d => decide (d < a0.tmps.size)) = true)
    (hrf : Le w.drew w.drew) (htr : ∀ u v w, Le u v → Le v w → Le u w) (hst : ∀ i v w w', T i v w → Le w w' → T i v w')
    (hop : ∀ (i : Nat) (o : Oper), ops[i]? = some o → ROp P ops Q a0 w.drew T Le i o)
    (hfin : ∀ a w', RFrame ops a0 a → Le w.drew w' → (∀ j, j < ops.size → T j (rgot ops a j) w') → Q .normal a w') : (Code.region id ops true).wp P Q a0 w := by
  refine wp_region_any hm (rinv_any (w0 := w.drew) hback hap (fun d hd => of_decide_eq_true (List.all_eq_true.1 hlt d hd)) htr hst hop hfin _ _ _ _ ?_)
  refine ⟨by simp, by simp, fun j o _ h => ?_, ⟨rfl, rfl, fun _ _ => rfl⟩, hrf, fun j h => ?_, fun _ _ _ _ => rfl⟩
  · rw [Array.getElem?_replicate] at h; split at h <;> simp at h
  · rw [Array.getElem?_replicate] at h; split at h <;> simp at h
/-- The same of a region that goes in its own order. -/
theorem rlist_any (hback : rback ops = true) (hap : rapart ops = true) (hlt : ∀ d ∈ rdsts ops, d < a0.tmps.size)
    (htr : ∀ u v w, Le u v → Le v w → Le u w) (hst : ∀ i v w w', T i v w → Le w w' → T i v w')
    (hop : ∀ (i : Nat) (o : Oper), ops[i]? = some o → ROp P ops Q a0 w0 T Le i o)
    (hfin : ∀ a w, RFrame ops a0 a → Le w0 w → (∀ j, j < ops.size → T j (rgot ops a j) w) → Q .normal a w) :
    ∀ (rest : List Oper) (k : Nat) (a : Act) (w : World), (∀ j : Nat, rest[j]? = ops[k + j]?) → RFrame ops a0 a → Le w0 w → (∀ j, j < k → T j (rgot ops a j) w) →
      (∀ (j : Nat) (d : Tmp), k ≤ j → (ops[j]?).bind (·.dst) = some d → a.tmps[d]? = a0.tmps[d]?) → wpList P ops Q rest a w := by
  intro rest
  induction rest with
  | nil =>
    intro k a w hr hF hL hT _
    have hk : ops.size ≤ k := by
      have := hr 0
      simp only [List.getElem?_nil, Nat.add_zero] at this
      exact Array.getElem?_eq_none_iff.1 this.symm
    exact hfin a w hF hL fun j hj => hT j (by omega)
  | cons o rest ih =>
    intro k a w hr hF hL hT hU
    have ho : ops[k]? = some o := by simpa using (hr 0).symm
    have hlto : ∀ d, o.dst = some d → d < a.tmps.size := fun d hd => by rw [hF.size]; exact hlt d (mem_rdsts ho hd)
    have key := hop k o ho a w hF hL (fun j hj => ?_) (fun j d hj hd => ?_) (wpList P ops Q rest) (fun v w' hle hTv => ih (k + 1) _ _ (fun j => ?_) ⟨?_, ?_, ?_⟩ (htr _ _ _ hL hle) (fun j hj => ?_) (fun j d hj hd => ?_))
    · unfold wpList
      by_cases hw : Region.wanted o (yielded ops a.tmps) = true
      · rw [if_pos hw] at key ⊢
        exact .inl key
      · rw [if_neg hw] at key ⊢
        exact key
    · unfold rwaits at hj
      simp only [ho] at hj
      obtain ⟨e, he, hb⟩ := Array.any_eq_true'.1 hj
      simp only [Bool.and_eq_true, beq_iff_eq] at hb
      rw [← hb.2]
      exact hT _ (rback_spec hback ho he hb.1)
    · unfold rwaits at hj
      cases hoj : ops[j]? with
      | none => simp [hoj] at hj
      | some oj =>
        simp only [hoj] at hj
        obtain ⟨e, he, hb⟩ := Array.any_eq_true'.1 hj
        simp only [Bool.and_eq_true, beq_iff_eq] at hb
        have := rback_spec hback hoj he hb.1
        exact hU j d (by omega) hd
    · have := hr (j + 1)
      rw [show k + 1 + j = k + (j + 1) by omega, ← this]
      simp
    · cases hd : o.dst <;> simp [Act.put, hF.size]
    · cases hd : o.dst <;> simp [Act.put, hF.defers]
    · intro t ht
      cases hd : o.dst with
      | none => exact hF.out t ht
      | some d =>
        have : d ≠ t := fun e => ht (e ▸ mem_rdsts ho hd)
        simp only [Act.put]
        rw [Array.getElem?_setIfInBounds_ne this]
        exact hF.out t ht
    · by_cases hji : j = k
      · subst hji; rw [rgot_put_self ho a v hlto]; exact hTv
      · rw [rgot_put_other hap ho hji]
        exact hst _ _ _ _ (hT j (by omega)) hle
    · obtain ⟨oj, hoj, hdj⟩ := Option.bind_eq_some_iff.1 hd
      cases hdo : o.dst with
      | none => exact hU j d (by omega) hd
      | some e =>
        have := rapart_spec hap hoj ho (by omega) hdj hdo
        simp only [Act.put]
        rw [Array.getElem?_setIfInBounds_ne (Ne.symm this)]
        exact hU j d (by omega) hd
theorem wp_region_inv0 {id : Nat} {w : World} (T : Nat → Value → World → Prop) (Le : World → World → Prop) (hback : rback ops = true) (hap : rapart ops = true) (hlt : (rdsts ops).all (fun d => decide (d < a0.tmps.size)) = true)
    (hrf : Le w w) (htr : ∀ u v w, Le u v → Le v w → Le u w) (hst : ∀ i v w w', T i v w → Le w w' → T i v w')
    (hop : ∀ (i : Nat) (o : Oper), ops[i]? = some o → ROp P ops Q a0 w T Le i o)
    (hfin : ∀ a w', RFrame ops a0 a → Le w w' → (∀ j, j < ops.size → T j (rgot ops a j) w') → Q .normal a w') : (Code.region id ops false).wp P Q a0 w :=
  wp_region_list (rlist_any (w0 := w) hback hap (fun d hd => of_decide_eq_true (List.all_eq_true.1 hlt d hd)) htr hst hop hfin ops.toList 0 a0 w (fun j => by simp) ⟨rfl, rfl, fun _ _ => rfl⟩ hrf (fun j hj => absurd hj (by omega)) (fun _ _ _ _ => rfl))
end
end Go.Proofs.Ytkoojbbimjjndaa
