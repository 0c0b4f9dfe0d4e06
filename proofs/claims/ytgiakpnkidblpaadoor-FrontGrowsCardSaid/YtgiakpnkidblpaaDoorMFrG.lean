/-
  Several texts in one (RegPh0, RFrontPeaks).
-/
import Derived.Test.YtgiakpnkidblpaaDoorMGen
import Derived.Test.YtgiakpnkidblpaaDoorFrontPure
import Derived.Test.YtgiakpnkidblpaaDoorLeafAbove
/-! ## A region that goes in its own order and holds effects, by phases: as RegPh, but nothing is drawn. -/
namespace Go.Proofs.YtgiakpnkidblpaaDoor
open Go

section
variable {P : Program} {ops : Array Oper} {Q : Exit → Act → World → Prop} {a0 : Act} {T : Nat → Nat → Value → World → Prop} {Lx : Nat → Nat → World → World → Prop} {E : List Nat} {Ph : Nat → World → Prop}

/-- How many of the effects lie ahead of place k. -/
def rcount (E : List Nat) (k : Nat) : Nat := (E.filter (fun m => decide (m < k))).length
theorem rcount_cons (e : Nat) (E : List Nat) (k : Nat) : rcount (e :: E) k = (if e < k then 1 else 0) + rcount E k := by
  unfold rcount
  by_cases h : e < k
  · rw [List.filter_cons_of_pos (by simpa using h), if_pos h, List.length_cons, Nat.add_comm]
  · rw [List.filter_cons_of_neg (by simpa using h), if_neg h, Nat.zero_add]
theorem rcount_low : ∀ (E : List Nat) (k : Nat), (∀ m ∈ E, k ≤ m) → rcount E k = 0
  | [], _, _ => rfl
  | e :: E, k, h => by
    rw [rcount_cons, rcount_low E k fun m hm => h m (List.mem_cons_of_mem _ hm), if_neg (by have := h e (by simp); omega)]
theorem rcount_at : ∀ (E : List Nat) (k j m : Nat), E.Pairwise (· < ·) → E[j]? = some m → (m < k ↔ j < rcount E k)
  | [], _, _, _, _, h => by simp at h
  | e :: E, k, j, m, hs, h => by
    obtain ⟨he, hs'⟩ := List.pairwise_cons.1 hs
    rw [rcount_cons]
    by_cases hk : e < k
    · rw [if_pos hk]
      cases j with
      | zero => simp at h; subst h; omega
      | succ j =>
        have := rcount_at E k j m hs' (by simpa using h)
        omega
    · rw [if_neg hk, rcount_low E k fun m hm => by have := he m hm; omega]
      cases j with
      | zero => simp at h; subst h; omega
      | succ j =>
        have := he m (List.mem_of_getElem? (by simpa using h))
        omega
theorem rcount_succ : ∀ (E : List Nat) (k : Nat), E.Pairwise (· < ·) → rcount E (k + 1) = rcount E k + if E.contains k then 1 else 0
  | [], _, _ => rfl
  | e :: E, k, hs => by
    obtain ⟨he, hs'⟩ := List.pairwise_cons.1 hs
    rw [rcount_cons, rcount_cons]
    by_cases hk : e = k
    · subst hk
      rw [rcount_low E (e + 1) fun m hm => he m hm, rcount_low E e fun m hm => Nat.le_of_lt (he m hm)]
      simp
    · rw [rcount_succ E k hs', List.contains_cons]
      have hb : (k == e) = false := by simp; omega
      rw [hb, Bool.false_or]
      by_cases h2 : e < k
      · rw [if_pos h2, if_pos (by omega), Nat.add_assoc]
      · rw [if_neg h2, if_neg (by omega), Nat.add_assoc]
theorem rcount_all (E : List Nat) (k : Nat) (h : ∀ m ∈ E, m < k) : rcount E k = E.length := by
  unfold rcount
  rw [List.filter_eq_self.2 (fun m hm => by simpa using h m hm)]

theorem rlistP_any (hback : rback ops = true) (hap : rapart ops = true) (hlt : ∀ d ∈ rdsts ops, d < a0.tmps.size) (hEs : ∀ m ∈ E, m < ops.size) (hEo : E.Pairwise (· < ·))
    (hst : ∀ i v w w' k k', T i k v w → Lx k k' w w' → T i k' v w')
    (hop : ∀ (i : Nat) (o : Oper), ops[i]? = some o → ROP P ops Q a0 T Lx E Ph i o)
    (hfin : ∀ a w, RFrame ops a0 a → Ph E.length w → (∀ j, j < ops.size → T j E.length (rgot ops a j) w) → Q .normal a w) :
    ∀ (rest : List Oper) (k : Nat) (a : Act) (w : World), (∀ j : Nat, rest[j]? = ops[k + j]?) → RFrame ops a0 a → Ph (rcount E k) w → (∀ j, j < k → T j (rcount E k) (rgot ops a j) w) →
      (∀ (j : Nat) (d : Tmp), k ≤ j → (ops[j]?).bind (·.dst) = some d → a.tmps[d]? = a0.tmps[d]?) → wpList P ops Q rest a w := by
  intro rest
  induction rest with
  | nil =>
    intro k a w hr hF hL hT _
    have hk : ops.size ≤ k := by
      have := hr 0
      simp only [List.getElem?_nil, Nat.add_zero] at this
      exact Array.getElem?_eq_none_iff.1 this.symm
    rw [rcount_all E k fun m hm => Nat.lt_of_lt_of_le (hEs m hm) hk] at hL hT
    exact hfin a w hF hL fun j hj => hT j (by omega)
  | cons o rest ih =>
    intro k a w hr hF hL hT hU
    have ho : ops[k]? = some o := by simpa using (hr 0).symm
    have hlto : ∀ d, o.dst = some d → d < a.tmps.size := fun d hd => by rw [hF.size]; exact hlt d (mem_rdsts ho hd)
    have hbound : ∀ j m, E[j]? = some m → (m = k → rcount E k = j) ∧ (rwaits ops m k = true → rcount E k ≤ j) := by
      intro j m hm
      have h1 := rcount_at E k j m hEo hm
      have h2 := rcount_at E (k + 1) j m hEo hm
      have h3 := rcount_succ E k hEo
      refine ⟨fun e => ?_, fun hw => ?_⟩
      · subst e
        have hc : E.contains m = true := by simpa using List.mem_of_getElem? hm
        rw [if_pos hc] at h3
        omega
      · have : ¬ m < k := fun h => by
          unfold rwaits at hw
          cases hom : ops[m]? with
          | none => simp [hom] at hw
          | some om =>
            simp only [hom] at hw
            obtain ⟨e, he, hb⟩ := Array.any_eq_true'.1 hw
            simp only [Bool.and_eq_true, beq_iff_eq] at hb
            have := rback_spec hback hom he hb.1
            omega
        omega
    have key := hop k o ho a w (rcount E k) hF hL hbound (fun j hj => ?_) (fun j d hj hd => ?_) (wpList P ops Q rest) (fun v w' hle hph hTv => ih (k + 1) _ _ (fun j => ?_) ⟨?_, ?_, ?_⟩ (by rw [rcount_succ E k hEo]; exact hph) (fun j hj => ?_) (fun j d hj hd => ?_))
    · unfold wpList
      by_cases hw : Region.wanted o (yielded ops a.tmps) = true
      · rw [if_pos hw] at key ⊢
        exact .inl key
      · rw [if_neg hw] at key ⊢
        exact key
    · unfold rwaits at hj
      simp only [ho] at hj
      obtain ⟨e, he, hb⟩ := Array.any_eq_true'.1 hj
      simp only [Bool.and_eq_true, beq_iff_eq] at hb
      rw [← hb.2]
      exact hT _ (rback_spec hback ho he hb.1)
    · unfold rwaits at hj
      cases hoj : ops[j]? with
      | none => simp [hoj] at hj
      | some oj =>
        simp only [hoj] at hj
        obtain ⟨e, he, hb⟩ := Array.any_eq_true'.1 hj
        simp only [Bool.and_eq_true, beq_iff_eq] at hb
        have := rback_spec hback hoj he hb.1
        exact hU j d (by omega) hd
    · have := hr (j + 1)
      rw [show k + 1 + j = k + (j + 1) by omega, ← this]
      simp
    · cases hd : o.dst <;> simp [Act.put, hF.size]
    · cases hd : o.dst <;> simp [Act.put, hF.defers]
    · intro t ht
      cases hd : o.dst with
      | none => exact hF.out t ht
      | some d =>
        have : d ≠ t := fun e => ht (e ▸ mem_rdsts ho hd)
        simp only [Act.put]
        rw [Array.getElem?_setIfInBounds_ne this]
        exact hF.out t ht
    · rw [rcount_succ E k hEo]
      by_cases hji : j = k
      · subst hji; rw [rgot_put_self ho a v hlto]; exact hTv
      · rw [rgot_put_other hap ho hji]
        exact hst _ _ _ _ _ _ (hT j (by omega)) hle
    · obtain ⟨oj, hoj, hdj⟩ := Option.bind_eq_some_iff.1 hd
      cases hdo : o.dst with
      | none => exact hU j d (by omega) hd
      | some e =>
        have := rapart_spec hap hoj ho (by omega) hdj hdo
        simp only [Act.put]
        rw [Array.getElem?_setIfInBounds_ne (Ne.symm this)]
        exact hU j d (by omega) hd
end
/-- **A REGION THAT GOES IN ITS OWN ORDER AND HOLDS EFFECTS.** E: the effects' places, rising; Ph k: the world where k of them are over. -/
theorem wp_region_ph0 {P : Program} {Q : Exit → Act → World → Prop} {a0 : Act} {id : Nat} {w : World} {l : List Oper} {Lx : Nat → Nat → World → World → Prop} (Ts : List (RXP Lx)) (E : List Nat) (Ph : Nat → World → Prop) (hback : rback l.toArray = true) (hap : rapart l.toArray = true) (hlt : (rdsts l.toArray).all (fun d => decide (d < a0.tmps.size)) = true) (hEs : (E.all fun m => decide (m < l.toArray.size)) = true) (hEo : decide (E.Pairwise (· < ·)) = true)
    (h0 : Ph 0 w)
    (hop : RAllP P l.toArray Q a0 (tabXP Ts) Lx E Ph 0 l)
    (hfin : ∀ a w', RFrame l.toArray a0 a → Ph E.length w' → (∀ j, j < l.toArray.size → tabXP Ts j E.length (rgot l.toArray a j) w') → Q .normal a w') : (Code.region id l.toArray false).wp P Q a0 w := by
  refine wp_region_list (rlistP_any (T := tabXP Ts) (Lx := Lx) (E := E) (Ph := Ph) hback hap (fun d hd => of_decide_eq_true (List.all_eq_true.1 hlt d hd)) (fun m hm => of_decide_eq_true (List.all_eq_true.1 hEs m hm)) (of_decide_eq_true hEo) (fun i v w w' k k' h hx => (Ts.getD i RXP.any).st v w w' k k' h hx) (fun i o ho => ?_) hfin l 0 a0 w (fun j => by simp) ⟨rfl, rfl, fun _ _ => rfl⟩ ?_ (fun j hj => absurd hj (by omega)) (fun _ _ _ _ => rfl))
  · have := rallp_at l 0 hop i o (by simpa using ho)
    rwa [Nat.zero_add] at this
  · rw [rcount_low E 0 fun m _ => Nat.zero_le m]
    exact h0
end Go.Proofs.YtgiakpnkidblpaaDoor
/-! ## The document's own Peaks (scriniumref11). -/
namespace Go.Proofs.YtgiakpnkidblpaaDoor
open Go.RowKit

/-- Ahead of leaf i: the roots of the parts ahead of it. -/
def PRel (l : Hs) (B : Nat) (w : World) (s3 s4 : Value) (wr : World) : Prop :=
  ∃ (i : Nat) (L : Hs), s4 = .int .i64 (i : Int) ∧ i ≤ l.length ∧ OwnS B wr s3 L ∧ L ++ Tree.peaks (l.drop i) = Tree.peaks l ∧ Below B w wr
theorem peaks_le (l : Hs) : (Tree.peaks l).length ≤ l.length := by
  suffices h : ∀ n (l : Hs), l.length ≤ n → (Tree.peaks l).length ≤ l.length from h _ l (Nat.le_refl _)
  intro n
  induction n with
  | zero =>
    intro l h
    obtain rfl : l = [] := List.eq_nil_of_length_eq_zero (by omega)
    exact Nat.le_refl _
  | succ n ih =>
    intro l h
    by_cases h0 : l.length = 0
    · obtain rfl : l = [] := List.eq_nil_of_length_eq_zero h0
      exact Nat.le_refl _
    · have hp := Tree.top_pos l.length
      have hd : (l.drop (Tree.top l.length)).length = l.length - Tree.top l.length := List.length_drop
      have := ih (l.drop (Tree.top l.length)) (by omega)
      rw [Tree.peaks_go l h0, List.length_cons]
      omega
set_option maxHeartbeats 4000000 in
set_option maxRecDepth 100000 in
theorem rpeaks11_any (v : Value) (l : Hs) (w : World) (hv : Sums w v l) (hl : l.length ≤ 1000) :
    Calls Tryd.prog 12 #[v] w fun e w' => ∃ v', e = .returned v' ∧ OwnS w.heap.size w' v' (Tree.peaks l) ∧ Below w.heap.size w w' := by
  obtain ⟨va, vc, rfl, hlc, -⟩ := hv.slice
  obtain ⟨n, hn⟩ : ∃ n, n = l.length := ⟨_, rfl⟩
  have hok := hv.ok
  rw [← hn] at hv hlc ⊢
  have hn1000 : n ≤ 1000 := by omega
  obtain ⟨B, hB⟩ : ∃ B, B = w.heap.size := ⟨_, rfl⟩
  rw [← hB]
  have HV := Lib.hid hv
  have Hn := Lib.hid hn
  have HB := Lib.hid hB
  have HOK := Lib.hid hok
  clear hv hn hB hok hl
  go_enter Tryd.func12, Tryd.ntmps12
  go_wp2
  go_loopw [3, 4] (PRel l B w) (fun _ s4 _ => n - (intOf s4).toNat)
  case atStart => exact ⟨0, [], rfl, Nat.zero_le _, OwnS.nil _ _, rfl, Below.refl _ _⟩
  case round =>
    obtain ⟨i, L, rfl, hi, ho, hpk, hbel⟩ := hrel
    have hBw : B ≤ wr.heap.size := by have := hbel.size; rw [HB.out]; exact this
    rw [← Hn.out] at hi
    by_cases hlt : i < n
    · have hlt' : (i : Int) < (n : Int) := by omega
      have hsub := IntWalk.i64_in ((n : Int) - (i : Int)) (by omega)
      have HO := Lib.hid ho
      have HPK := Lib.hid hpk
      have HBE := Lib.hid hbel
      clear ho hpk hbel
      go_wp2
      go_loopw [5] (fun s5 wx => ∃ j : Nat, s5 = .int .i64 ((2 ^ j : Nat) : Int) ∧ 2 ^ j ≤ n - i ∧ wx = wr) (fun s5 _ => n - (intOf s5).toNat)
      case atStart => exact ⟨0, rfl, by simp; omega, rfl⟩
      case round =>
        obtain ⟨j, rfl, hj, rfl⟩ := hrel
        obtain ⟨k, hk⟩ : ∃ k, k = 2 ^ j := ⟨_, rfl⟩
        rw [← hk] at hj ⊢
        have hkp : 0 < k := by rw [hk]; exact Nat.two_pow_pos j
        have hdw := IntWalk.i64_in (2 * (k : Int)) (by omega)
        have Hk := Lib.hid hk
        clear hk
        by_cases h2 : 2 * k ≤ n - i
        · have h2' : 2 * (k : Int) ≤ (n : Int) - (i : Int) := by omega
          go_wp2
          refine ⟨⟨j + 1, by rw [Nat.pow_succ, Nat.mul_comm, ← Hk.out]; rfl, by rw [Nat.pow_succ, Nat.mul_comm, ← Hk.out]; exact h2, trivial⟩, by simp [intOf]; omega⟩
        · have h2' : ¬ 2 * (k : Int) ≤ (n : Int) - (i : Int) := by omega
          have hadw := IntWalk.i64_in ((i : Int) + (k : Int)) (by omega)
          have hik : i + k ≤ n := by omega
          have hlen : (l.drop i).length = n - i := by rw [List.length_drop, ← Hn.out]
          have htop : Tree.top (l.drop i).length = k := by
            rw [hlen, Hk.out]
            exact Tree.top_of (by rw [← Hk.out]; omega) (by rw [← Hk.out]; omega)
          have hgo := Tree.peaks_go (l.drop i) (by rw [hlen]; omega)
          rw [htop, List.drop_drop] at hgo
          obtain ⟨D, hD⟩ : ∃ D, D = Tree.root ((l.drop i).take k) := ⟨_, rfl⟩
          rw [← hD] at hgo
          have hDl : D.length = 32 := by rw [hD]; exact Tree.root_length _ ((HOK.out.drop i).take k)
          have hpk2 : (L ++ [D]) ++ Tree.peaks (l.drop (i + k)) = Tree.peaks l := by
            rw [← HPK.out, hgo, List.append_assoc]
            rfl
          have hLn : L.length ≤ 1000 := by
            have h1 := congrArg List.length HPK.out
            rw [List.length_append] at h1
            have h3 := peaks_le l
            have h4 := Hn.out
            omega
          have hcut := fun u => scut_lh va n vc i (i + k) (by omega) (by omega) u
          rw [show i + k - i = k by omega, show ((i + k : Nat) : Int) = (i : Int) + (k : Int) by omega] at hcut
          have hs1 := ((HV.out.head (i + k) (by rw [← Hn.out]; exact hik)).tail i (by rw [List.length_take, ← Hn.out]; omega))
          rw [List.length_take, ← Hn.out, Nat.min_eq_left hik, show i + k - i = k by omega, List.drop_take, show i + k - i = k by omega] at hs1
          have hRT : Hid (∀ u, Below B w u → Calls Tryd.prog 17 #[.slice (cutS va i vc) k (vc - i)] u fun e w' => e = .returned (sumV D) ∧ Below u.heap.size u w') := Lib.hid fun u hu => by
            rw [hD]
            exact rleafRoot_any _ _ _ u rfl (by rw [List.length_take, hlen]; omega) (hs1.old (hu.mono (by rw [HB.out]; exact Nat.le_refl _)))
          have hfold := fold_zero D hDl
          have HDl := Lib.hid hDl
          have HP2 := Lib.hid hpk2
          unfold sumV at hRT
          have hd32 : ¬ 32 < D.length := by omega
          clear hlen htop hgo hD hpk2 hs1
          go_wp2_with (first
            | (with_reducible refine wpList_slice_runS rfl 22 (.tmp 20) (some (.tmp 21)) (some (.tmp 24)) none rfl rfl rfl rfl rfl (hcut _) ?_)
            | (go_at_call 17; ((with_reducible refine (hRT.out _ HBE.out).mono ?_); rintro e w5 ⟨rfl, b5⟩; obtain ⟨v6, w6, hr6, ho6, b6⟩ := sappend_own (B := B) 22 ((HO.out.kept b5).kept ((Below.refl w5.heap.size w5).alloc (Nat.le_refl _) (.cells (D.map u8V).toArray 31))) (Sums.one w5 D HDl.out) (Nat.le_trans (Nat.le_trans hBw b5.size) (by simp)) (by simp; omega); have HR6 := Lib.hid hr6; have HBS : Hid ((Instr.buildSlice 22 1 #[(0, .agg (D.map u8V).toArray)]).run Tryd.prog w5 = .ok (.slice (some ⟨w5.heap.size, 0, none⟩) 1 1) (w5.alloc (.cells (D.map u8V).toArray 31))) := Lib.hid (build_sum1 D HDl.out w5); have HO6 := Lib.hid ho6; clear hr6 ho6))
            | (refine wpList_bslS rfl 22 1 #[(0, .tmp 26)] rfl (L := #[(0, .agg (D.map u8V).toArray)]) rfl HBS.out ?_)
            | (at_builtin; refine Lib.wpList_append_run _ rfl _ _ _ _ rfl _ _ rfl rfl _ _ HR6.out ?_))
          exact ⟨⟨i + k, L ++ [D], by congr 1, by rw [← Hn.out]; exact hik, HO6.out, HP2.out, HBE.out.trans (((b5.mono hBw).trans (((Below.refl w5.heap.size w5).alloc (Nat.le_refl _) _).mono (Nat.le_trans hBw b5.size))).trans b6)⟩, by simp [intOf]; omega⟩
    · have hi' : i = n := by omega
      have hfin : OwnS B wr u3 (Tree.peaks l) := by
        have e : l.drop i = [] := List.drop_eq_nil_of_le (by rw [← Hn.out]; omega)
        rw [e, Tree.peaks_nil, List.append_nil] at hpk
        rw [← hpk]
        exact ho
      have HF := Lib.hid hfin
      have hlt' : ¬ (i : Int) < (n : Int) := by omega
      clear ho hpk hfin hi'
      go_wp2
      go_ret
      exact ⟨_, rfl, HF.out, hbel⟩
end Go.Proofs.YtgiakpnkidblpaaDoor
