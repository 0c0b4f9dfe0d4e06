/-
  Package twin: first: the first twins of two lists.
-/
import Derived.Test.YtdcebdleneieeaaDoorTwinSeq
import Derived.Test.YtdcebdleneieeaaDoorTwinAre
namespace Go.Proofs.YtdcebdleneieeaaDoor
open Go.RowKit Go.Shelf

attribute [local go_sem] Oper.semAt_some

/-- The first twins, or two empty texts. -/
def firstZ (A B : Ts) : List UInt8 × List UInt8 := (Tree.firstT A B).getD ([], [])
theorem first_none {A B : Ts} (h : ∀ i ∈ List.range (places A B), Tree.areT (tAt A i) (tAt B i) = false) : Tree.firstT A B = none := by
  rw [Tree.firstT_drop A B (places A B) fun j s t hj h1 h2 => by
    have := h j (List.mem_range.2 hj)
    unfold tAt at this
    rw [List.getD_eq_getElem?_getD, List.getD_eq_getElem?_getD, h1, h2] at this
    exact this]
  unfold places
  rcases Nat.le_total A.length B.length with h | h
  · rw [Nat.min_eq_left h, List.drop_eq_nil_of_le (Nat.le_refl _)]
    rfl
  · rw [Nat.min_eq_right h, show B.drop B.length = [] from List.drop_eq_nil_of_le (Nat.le_refl _)]
    cases A.drop B.length <;> rfl
theorem first_some {A B : Ts} {k : Nat} (hk : k ≤ places A B) {ini : List Nat} {last : Nat} (e : List.range k = ini ++ [last]) (h : ∀ i ∈ ini, Tree.areT (tAt A i) (tAt B i) = false) (hl : Tree.areT (tAt A last) (tAt B last) = true) : Tree.firstT A B = some (tAt A last, tAt B last) := by
  cases k with
  | zero => simp at e
  | succ j =>
    rw [List.range_succ] at e
    obtain ⟨rfl, e2⟩ := List.append_inj' e rfl
    obtain rfl : j = last := by simpa using e2
    have h1 : j < A.length := by unfold places at hk; omega
    have h2 : j < B.length := by unfold places at hk; omega
    rw [Tree.firstT_drop A B j fun i s t hi h1 h2 => by
      have := h i (List.mem_range.2 hi)
      unfold tAt at this
      rw [List.getD_eq_getElem?_getD, List.getD_eq_getElem?_getD, h1, h2] at this
      exact this]
    have e1 := tAt_get h1
    have e2 := tAt_get h2
    obtain ⟨i1, i2⟩ := List.getElem?_eq_some_iff.1 e1
    obtain ⟨i3, i4⟩ := List.getElem?_eq_some_iff.1 e2
    rw [List.drop_eq_getElem_cons h1, List.drop_eq_getElem_cons h2, i2, i4, Tree.firstT_cons, if_pos hl]
theorem tAt_le {A : Ts} {m : Nat} (h : ∀ t ∈ A, t.length ≤ m) (i : Nat) : (tAt A i).length ≤ m := by
  by_cases hi : i < A.length
  · exact h _ (List.mem_of_getElem? (tAt_get hi))
  · unfold tAt
    rw [List.getD_eq_getElem?_getD, List.getElem?_eq_none (by omega)]
    exact Nat.zero_le _

set_option maxRecDepth 100000 in
set_option maxHeartbeats 4000000 in
theorem first_any (va vb : Value) (A B : Ts) (w : World) (hA : Texts w va A) (hB : Texts w vb B) (hlA : A.length ≤ 1000000) (hlB : B.length ≤ 1000000) (hsA : ∀ t ∈ A, t.length ≤ 1000000) (hsB : ∀ t ∈ B, t.length ≤ 1000000) (hK : KT w) :
    Calls Tryd.prog 31 #[va, vb] w fun e w' => e = .returned (.tuple #[twV (firstZ A B), .bool (Tree.firstT A B).isSome]) ∧ Below w.heap.size w w' := by
  obtain ⟨aa, ac, rfl⟩ := hA.slice
  obtain ⟨ba, bc, rfl⟩ := hB.slice
  obtain ⟨nA, hnA⟩ : ∃ k, k = A.length := ⟨_, rfl⟩
  obtain ⟨nB, hnB⟩ : ∃ k, k = B.length := ⟨_, rfl⟩
  rw [← hnA] at hA ⊢
  rw [← hnB] at hB ⊢
  obtain ⟨w0, hw0⟩ : ∃ w0, w0 = (w.alloc (.cells #[tV [], tV []] 32)).alloc (.cells #[tV [], tV []] 32) := ⟨_, rfl⟩
  have b0 : Below w.heap.size w w0 := by rw [hw0]; exact ((Below.refl _ _).alloc (Nat.le_refl _) _).alloc (by simp) _
  have h1 : IsTw ([], []) w0 w.heap.size := by
    rw [hw0]
    exact (((Below.refl (w.alloc (.cells #[tV [], tV []] 32)).heap.size _).alloc (Nat.le_refl _) _).block w.heap.size (by simp)).trans (heap_alloc_last w _)
  have h2 : IsTw ([], []) w0 (w.heap.size + 1) := by
    have := heap_alloc_last (w.alloc (.cells #[tV [], tV []] 32)) (.cells #[tV [], tV []] 32)
    rwa [World.size_alloc, ← hw0] at this
  have hsz0 : w0.heap.size = w.heap.size + 2 := by rw [hw0]; simp
  have HA := Lib.hid hA
  have HB := Lib.hid hB
  have HKW := Lib.hid hK
  have H1 := Lib.hid h1
  have H2 := Lib.hid h2
  have HBW := Lib.hid b0
  have HSA := Lib.hid hsA
  have HSB := Lib.hid hsB
  have HnA := Lib.hid hnA
  have HnB := Lib.hid hnB
  have hlA' : nA ≤ 1000000 := by omega
  have hlB' : nB ≤ 1000000 := by omega
  clear hA hB hK h1 h2 b0 hsA hsB hnA hnB hlA hlB
  refine (callsIn_wide (n := 3)).1 ?_
  refine callsIn_of_wp_marks Tryd.func31 rfl trivial ?_ rfl
  simp only [Tryd.ntmps31, List.size_toArray, List.length_cons, List.length_nil, Nat.reduceAdd, Nat.reduceSub, Array.replicate_succ, Array.replicate_zero, List.push_toArray, List.append_toArray, List.nil_append, List.cons_append]
  refine wpIn_wide.2 ?_
  go_wp2
  go_step3
  go_wp2
  change Code.wp _ _ _ _ ((w.alloc (.cells #[tV [], tV []] 32)).alloc (.cells #[tV [], tV []] 32))
  rw [← hw0]
  clear hw0
  go_step3
  go_wp2_with (go_at_call 50; refine ((callsIn_wide (n := 3)).1 (side_in Fence.wide 3 trivial rfl _ _ _ _ _ _ _)).mono ?_; rintro e w' ⟨rfl, rfl⟩)
  obtain ⟨W0, hW0⟩ : ∃ W0, W0 = (w0.alloc (.cells #[.slice aa nA ac] 52)).alloc (.cells #[.slice ba nB bc] 52) := ⟨_, rfl⟩
  have hszW : W0.heap.size = w.heap.size + 4 := by rw [hW0]; simp; omega
  have bW0 : Below w0.heap.size w0 W0 := by rw [hW0]; exact ((Below.refl _ _).alloc (Nat.le_refl _) _).alloc (by simp) _
  have hB0 : Below w.heap.size w W0 := below_step HBW.out (Nat.le_refl _) bW0
  have i4 : IsTw ([], []) W0 w.heap.size := H1.out.old bW0
  have i6 : IsTw ([], []) W0 (w.heap.size + 1) := H2.out.old bW0
  have cpa : W0.heap[w.heap.size + 2]? = some (.cells #[.slice aa nA ac] 52 (0, 0)) := by
    rw [hW0, ← hsz0]
    exact (((Below.refl (w0.alloc (.cells #[.slice aa nA ac] 52)).heap.size _).alloc (Nat.le_refl _) _).block w0.heap.size (by simp)).trans (heap_alloc_last w0 _)
  have cpb : W0.heap[w.heap.size + 2 + 1]? = some (.cells #[.slice ba nB bc] 52 (0, 0)) := by
    have := heap_alloc_last (w0.alloc (.cells #[.slice aa nA ac] 52)) (.cells #[.slice ba nB bc] 52)
    rwa [World.size_alloc, ← hW0, hsz0] at this
  have hta : Texts W0 (.slice aa nA ac) A := HA.out.old hB0
  have htb : Texts W0 (.slice ba nB bc) B := HB.out.old hB0
  have hga : 0 < A.length → ∀ b off n c, Value.slice aa nA ac = .slice (some ⟨b, off, none⟩) n c → b < W0.heap.size := fun h0 b off n c e => by
    obtain ⟨b', off', e', hb', -⟩ := HA.out.at (tAt_get h0)
    injection e with e1
    rw [e'] at e1
    injection e1 with e1
    injection e1 with e1
    omega
  have hgb : 0 < B.length → ∀ b off n c, Value.slice ba nB bc = .slice (some ⟨b, off, none⟩) n c → b < W0.heap.size := fun h0 b off n c e => by
    obtain ⟨b', off', e', hb', -⟩ := HB.out.at (tAt_get h0)
    injection e with e1
    rw [e'] at e1
    injection e1 with e1
    injection e1 with e1
    omega
  rw [← hW0]
  clear hW0 bW0
  have HKK : Hid (∀ u, Below w.heap.size w u → KT u) := Lib.hid fun u hu => HKW.out.old hu
  refine (wpIn_wide (n := 3)).1 ?_
  refine wpIn_rangeFunc_ownH rfl (by omega) (gf := 69) (lb := #[.pointer (some ⟨w.heap.size + 2, 0, none⟩), .pointer (some ⟨w.heap.size + 2 + 1, 0, none⟩)]) rfl trivial (enters_of Tryd.func69 (by kernel_rfl) rfl)
    (side_stops 2 (by omega) (w.heap.size + 2) (w.heap.size + 2 + 1) W0.heap.size _ _ A B (by rw [← HnA.out]; exact hlA') (by rw [← HnB.out]; exact hlB') (by omega) (by omega) W0 (Nat.le_refl _) hta htb hga hgb (cell_of cpa 0) (cell_of cpb 0)) belowK_t (belowK_b (Nat.le_refl _)) (Below.refl _ _) (fun _ => rfl)
    (fun pre W => ((∀ i ∈ pre, Tree.areT (tAt A i) (tAt B i) = false) ∧ IsTw ([], []) W w.heap.size ∧ IsTw ([], []) W (w.heap.size + 1)) ∧ Below w.heap.size w W ∧ W0.heap.size ≤ W.heap.size)
    (fun c pre W => (c = .exit 0 ∧ (∃ ini last, pre = ini ++ [last] ∧ (∀ i ∈ ini, Tree.areT (tAt A i) (tAt B i) = false) ∧ Tree.areT (tAt A last) (tAt B last) = true ∧ IsTw ([], []) W w.heap.size ∧ IsTw (tAt A last, tAt B last) W (w.heap.size + 1))) ∧ Below w.heap.size w W ∧ W0.heap.size ≤ W.heap.size)
    (OwnFrom.and (OwnFrom.and (ownFrom_pureF _) (OwnFrom.and (cells_ownF _ _ _ _ _) (cells_ownF _ _ _ _ _))) (OwnFrom.and (ownFrom_below (Nat.le_refl _) (by omega)) (fun s A B row hs hg hr => Nat.le_trans hs hg.size)))
    (fun c => OwnFrom.and (fun s X Y row hs hg hr => by obtain ⟨hc, ini, last, e1, e2, e3, e4, e5⟩ := hs; exact ⟨hc, ini, last, e1, e2, e3, cells_ownF (β := Unit) _ _ _ _ _ () X Y row e4 hg hr, cells_ownF (β := Unit) _ _ _ _ _ () X Y row e5 hg hr⟩) (OwnFrom.and (ownFrom_below (Nat.le_refl _) (by omega)) (fun s A B row hs hg hr => Nat.le_trans hs hg.size)))
    ⟨⟨by simp, i4, i6⟩, hB0, Nat.le_refl _⟩
    (fun x a' W => a' = { tmps := #[.slice aa nA ac, .slice ba nB bc, undef, undef, .pointer (some ⟨w.heap.size, 0, none⟩), .bool false, .pointer (some ⟨w.heap.size + 1, 0, none⟩), .string (tS (tAt A x)), .string (tS (tAt B x)), undef, .slice aa nA ac, .slice ba nB bc, .func (.func 69) #[] #[.pointer (some ⟨w.heap.size + 2, 0, none⟩), .pointer (some ⟨w.heap.size + 2 + 1, 0, none⟩)], .string (tS (tAt A x)), .string (tS (tAt B x)), undef, undef, undef, undef, undef, undef, undef, undef, undef, undef], defers := [] })
    (fun x a' s A B row hs hg hr => hs) ?assign ?body ?done ?stop
  case assign =>
    rintro l pre x W K hI hK
    have HKI := Lib.hid (fun a' h => hK a' W (KeepsFrom.refl _ _) (Below.refl _ _) hI h)
    clear hK hI
    gi_wp2
    exact HKI.out _ rfl
  case body =>
    rintro l pre x a' W hl ⟨r, hr⟩ ⟨⟨hp, h4, h6⟩, hB, hS⟩ rfl hlt
    obtain ⟨SA, hSA⟩ : ∃ S, S = tS (tAt A x) := ⟨_, rfl⟩
    obtain ⟨SB, hSB⟩ : ∃ S, S = tS (tAt B x) := ⟨_, rfl⟩
    rw [← hSA, ← hSB]
    have HSA2 := Lib.hid hSA
    have HSB2 := Lib.hid hSB
    have HP := Lib.hid hp
    have HI4 := Lib.hid h4
    have HI6 := Lib.hid h6
    have HBV := Lib.hid hB
    have HAR : Hid (Calls Tryd.prog 18 #[.agg #[.string SA, .string SB]] (W.alloc (.cells #[.string SA, .string SB] 32)) fun e w' => e = .returned (.bool (Tree.areT (tAt A x) (tAt B x))) ∧ Below (W.alloc (.cells #[.string SA, .string SB] 32)).heap.size (W.alloc (.cells #[.string SA, .string SB] 32)) w') := Lib.hid (by
      rw [hSA, hSB]
      exact are_any (tAt A x) (tAt B x) _ (tAt_le HSA.out x) (tAt_le HSB.out x) (HKK.out _ (hB.alloc hB.size _)))
    obtain ⟨ab, hab⟩ : ∃ ab, ab = Tree.areT (tAt A x) (tAt B x) := ⟨_, rfl⟩
    rw [← hab] at HAR
    have HAB := Lib.hid hab
    have h9 : IsTw (tAt A x, tAt B x) (W.alloc (.cells #[.string SA, .string SB] 32)) W.heap.size := by
      rw [hSA, hSB]
      exact heap_alloc_last W _
    have H9 := Lib.hid h9
    have hsB : W.heap.size < (W.alloc (.cells #[.string SA, .string SB] 32)).heap.size := by simp
    clear hSA hSB hp h4 h6 hB hab h9
    gi_wp2
    refine ⟨trivial, ?_⟩
    refine (CallsIn.inRound l ((callsIn_wide (n := 0)).2 HAR.out)).mono ?_
    rintro e w9 ⟨rfl, b9⟩
    obtain ⟨q6, hq6⟩ : ∃ q, q = w.heap.size + 1 := ⟨_, rfl⟩
    have hbW : Below W.heap.size W w9 := below_step ((Below.refl _ _).alloc (Nat.le_refl _) _) (Nat.le_refl _) b9
    have k4 : IsTw ([], []) w9 w.heap.size := HI4.out.old hbW
    have k6 : IsTw ([], []) w9 (w.heap.size + 1) := HI6.out.old hbW
    have hsz9 : W.heap.size < w9.heap.size := Nat.lt_of_lt_of_le hsB b9.size
    have HH4 := Lib.hid k4
    have HH6 := Lib.hid k6
    have HBW9 := Lib.hid hbW
    cases ab with
    | false =>
      clear b9 hbW k4 k6
      gi_wp2
      refine ⟨keeps_below HBW9.out, HBW9.out.mono hS, ⟨⟨fun i hi => (List.mem_append.1 hi).elim (HP.out i) (fun e => ?_), HH4.out, HH6.out⟩, HBV.out.trans (HBW9.out.mono HBV.out.size), (by have := HBW9.out.size; omega)⟩⟩
      obtain rfl : i = x := by simpa using e
      exact HAB.out.symm
    | true =>
      have c90 : w9.cell? ⟨W.heap.size, 0, none⟩ = some (.string SA) := (b9.cell (p := ⟨W.heap.size, 0, none⟩) hsB).trans (cell_of (heap_alloc_last W _) 0)
      have c91 : w9.cell? ⟨W.heap.size, 1, none⟩ = some (.string SB) := (b9.cell (p := ⟨W.heap.size, 1, none⟩) hsB).trans (cell_of (heap_alloc_last W _) 1)
      have c60 : w9.cell? ⟨w.heap.size + 1, 0, none⟩ = some (tV []) := k6.c0
      have c61 : w9.cell? ⟨w.heap.size + 1, 1, none⟩ = some (tV []) := k6.c1
      have f60 : w9.frozen? ⟨w.heap.size + 1, 0, none⟩ = false := fz_of k6 0
      have f61 : w9.frozen? ⟨w.heap.size + 1, 1, none⟩ = false := fz_of k6 1
      clear b9 hbW k4 k6
      gi_wp2
      have o9 : OnlyS (fun i => i = w.heap.size + 1) W ((w9.setCell ⟨w.heap.size + 1, 0, none⟩ (.string SA)).setCell ⟨w.heap.size + 1, 1, none⟩ (.string SB)) := (OnlyS.of_below HBW9.out).trans (OnlyS.of_only (((Only.refl (w.heap.size + 1) w9).setCell 0 _).setCell 1 _) rfl)
      have n6 : IsTw (tAt A x, tAt B x) ((w9.setCell ⟨w.heap.size + 1, 0, none⟩ (.string SA)).setCell ⟨w.heap.size + 1, 1, none⟩ (.string SB)) (w.heap.size + 1) := by
        rw [HSA2.out, HSB2.out]
        exact heap_set (heap_set HH6.out _) _
      have n4 : IsTw ([], []) ((w9.setCell ⟨w.heap.size + 1, 0, none⟩ (.string SA)).setCell ⟨w.heap.size + 1, 1, none⟩ (.string SB)) w.heap.size := (heap_far (by omega) _).trans ((heap_far (by omega) _).trans HH4.out)
      refine ⟨keeps_onlyS o9 (fun i hi => by omega), ⟨rfl, pre, x, rfl, HP.out, HAB.out.symm, n4, n6⟩, HBV.out.trans (o9.below (fun i hi => by omega) HBV.out.size), Nat.le_trans hS o9.size⟩
  case done =>
    rintro D ys W hD rfl ⟨⟨hne, h4, h6⟩, hB, hS⟩ hK
    gi_wp2
    go_upto_region 8 with (fail)
    obtain ⟨p, hp⟩ : ∃ p, p = firstZ A B := ⟨_, rfl⟩
    have hpe : (p : List UInt8 × List UInt8) = ([], []) := by
      rw [hp]
      unfold firstZ
      rw [first_none hne]
      rfl
    have his : (Tree.firstT A B).isSome = decide (p ≠ ([], [])) := by
      rw [first_none hne, hpe]; simp
    have hI6 : IsTw p W (w.heap.size + 1) := by rw [hpe]; exact h6
    have H6' := Lib.hid hI6
    have H4' := Lib.hid h4
    have HD := Lib.hid hK
    have HBV := Lib.hid hB
    have HPZ := Lib.hid hp
    have HIS := Lib.hid his
    clear h4 h6 hI6 hpe hK hB hp his hne
    obtain ⟨q6, hq6⟩ : ∃ q, q = w.heap.size + 1 := ⟨_, rfl⟩
    obtain ⟨q4, hq4⟩ : ∃ q, q = w.heap.size := ⟨_, rfl⟩
    have hne46 : q6 ≠ q4 := by omega
    rw [← hq6] at H6' ⊢
    rw [← hq4] at H4' ⊢
    replace H6 := H6'
    replace H4 := H4'
    have Hq4 := Lib.hid hq4
    clear hq4 hq6 H6' H4'
    try simp only [Act.put]
    refine wp_region_ph (Lx := GLx 1) [RXP.is (twV p), RXP.is (twV p), RXP.is (.agg #[tV [], tV []]), RXP.is (.bool (decide (p ≠ ([], [])))), RXP.any, RXP.is (.bool (decide (p ≠ ([], []))))] [4] (fun k w' => IsTw p w' q6 ∧ IsTw (if k = 0 then ([], []) else p) w' q4 ∧ Below q4 W w' ∧ w'.heap[D]? = some (.deferred (some []))) (by kernel_rfl) (by kernel_rfl) (by kernel_rfl) (by kernel_rfl) (by kernel_rfl) (⟨H6.out, H4.out, below_drew (Below.refl _ _), HD.out⟩) ⟨?_, ?_, ?_, ?_, ?_, ?_, trivial⟩ ?_
    · intro ac w' ph hF hPh hlt hP hU K hK0
      have e6 : ac.eval (.tmp 6) = .pointer (some ⟨q6, 0, none⟩) := hF.at 6 (by kernel_rfl)
      exact rop_ld _ _ rfl e6 (load_tw hPh.1) (wanted_none rfl) (hK0 _ _ GLx.same hPh rfl)
    · intro ac w' ph hF hPh hlt hP hU K hK0
      have e6 : ac.eval (.tmp 6) = .pointer (some ⟨q6, 0, none⟩) := hF.at 6 (by kernel_rfl)
      exact rop_ld _ _ rfl e6 (load_tw hPh.1) (wanted_none rfl) (hK0 _ _ GLx.same hPh rfl)
    · intro ac w' ph hF hPh hlt hP hU K hK0
      exact rop_buildT _ _ rfl _ (by simp []) (built_tw0) (wanted_none rfl) (hK0 _ _ GLx.same hPh rfl)
    · intro ac w' ph hF hPh hlt hP hU K hK0
      have e22 : ac.eval (.tmp 22) = twV p := hP 1 (by kernel_rfl)
      have e23 : ac.eval (.tmp 23) = .agg #[tV [], tV []] := hP 2 (by kernel_rfl)
      exact rop_bin _ _ _ _ _ rfl e22 e23 (guard_tw _ _ _ p ([], []) w') (neq_tw p ([], []) w') (wanted_none rfl) (hK0 _ _ GLx.same hPh rfl)
    · intro ac w' ph hF hPh hlt hP hU K hK0
      obtain rfl : ph = 0 := (hlt 0 4 rfl).1 rfl
      have e4 : ac.eval (.tmp 4) = .pointer (some ⟨q4, 0, none⟩) := hF.at 4 (by kernel_rfl)
      have e21 : ac.eval (.tmp 21) = twV p := hP 0 (by kernel_rfl)
      have h4 : IsTw ([], []) w' q4 := hPh.2.1
      exact rop_storeG _ _ _ rfl e4 e21 (store_tw h4) (wanted_none rfl) (hK0 _ _ (GLx.last rfl) ⟨hPh.1.far hne46, h4.set, below_setCells (Nat.le_refl _) _ _ _ hPh.2.2.1, defer_far hPh.2.2.2 h4⟩ trivial)
    · intro ac w' ph hF hPh hlt hP hU K hK0
      have e24 : ac.eval (.tmp 24) = .bool (decide (p ≠ ([], []))) := hP 3 (by kernel_rfl)
      exact rop_assign _ rfl e24 (wanted_none rfl) (hK0 _ _ GLx.same hPh rfl)
    · intro ac w' hF hPh hT
      have e5 : ac.eval (.tmp 5) = .bool (decide (p ≠ ([], []))) := hT 5 (by decide)
      rw [hF.setsG [21, 22, 23, 24, 5] (by kernel_rfl)]
      simp only [List.foldl_cons, List.foldl_nil, List.setIfInBounds_toArray, List.set_cons_succ, List.set_cons_zero, e5]
      generalize ac.eval (.tmp 21) = u21
      generalize ac.eval (.tmp 22) = u22
      generalize ac.eval (.tmp 23) = u23
      generalize ac.eval (.tmp 24) = u24
      clear e5 hT hF ac
      obtain ⟨hQ1, hQ2, hQ3, hQ4⟩ := hPh
      have hQ2' : IsTw p w' q4 := hQ2
      have HQ2 := Lib.hid hQ2'
      have HQ3 := Lib.hid hQ3
      have HQ4 := Lib.hid hQ4
      clear hQ1 hQ2 hQ2' hQ3 hQ4
      go_wp2
      rw [Exit.noGoto_ret]
      have hput := belowK_b (n₀ := W0.heap.size) (w := W0) (Nat.le_refl _) w' D _ (.deferred none) hD HQ4.out rfl rfl
      refine ⟨by simp, .inl ⟨_, _, rfl, run_takeDeferred HQ4.out, ?_⟩⟩
      refine ⟨_, results_ct (t := 4) (u := 5) (ty := 32) (b := q4) (cs := [tV p.1, tV p.2]) rfl _ _ _ rfl (below_range' hput (by have := Hq4.out; omega) HQ2.out.range) Tryd.underlying32 rfl tw_info, ?_, ?_⟩
      · rw [← HPZ.out, HIS.out]; rfl
      · exact (HBV.out.trans (by rw [← Hq4.out]; exact HQ3.out)).trans (hput.mono hB0.size)
  case stop =>
    rintro D c pre W hD ⟨k, hk, rfl⟩ ⟨⟨rfl, ini, last, e1, e2, e3, h4, h6⟩, hB, hS⟩ hK
    gi_wp2
    go_upto_region 8 with (fail)
    obtain ⟨p, hp⟩ : ∃ p, p = firstZ A B := ⟨_, rfl⟩
    have hpe : (p : List UInt8 × List UInt8) = (tAt A last, tAt B last) := by
      rw [hp]
      unfold firstZ
      rw [first_some hk e1 e2 e3]
      rfl
    have his : (Tree.firstT A B).isSome = decide (p ≠ ([], [])) := by
      rw [first_some hk e1 e2 e3, hpe]
      have hu := (Tree.areT_t e3).1
      symm
      simp only [Option.isSome_some, decide_eq_true_eq]
      intro e
      injection e with i1 i2
      exact hu (i1.trans i2.symm)
    have hI6 : IsTw p W (w.heap.size + 1) := by rw [hpe]; exact h6
    have H6' := Lib.hid hI6
    have H4' := Lib.hid h4
    have HD := Lib.hid hK
    have HBV := Lib.hid hB
    have HPZ := Lib.hid hp
    have HIS := Lib.hid his
    clear h4 h6 hI6 hpe hK hB hp his e1 e2 e3 hk
    obtain ⟨q6, hq6⟩ : ∃ q, q = w.heap.size + 1 := ⟨_, rfl⟩
    obtain ⟨q4, hq4⟩ : ∃ q, q = w.heap.size := ⟨_, rfl⟩
    have hne46 : q6 ≠ q4 := by omega
    rw [← hq6] at H6' ⊢
    rw [← hq4] at H4' ⊢
    replace H6 := H6'
    replace H4 := H4'
    have Hq4 := Lib.hid hq4
    clear hq4 hq6 H6' H4'
    try simp only [Act.put]
    refine wp_region_ph (Lx := GLx 1) [RXP.is (twV p), RXP.is (twV p), RXP.is (.agg #[tV [], tV []]), RXP.is (.bool (decide (p ≠ ([], [])))), RXP.any, RXP.is (.bool (decide (p ≠ ([], []))))] [4] (fun k w' => IsTw p w' q6 ∧ IsTw (if k = 0 then ([], []) else p) w' q4 ∧ Below q4 W w' ∧ w'.heap[D]? = some (.deferred (some []))) (by kernel_rfl) (by kernel_rfl) (by kernel_rfl) (by kernel_rfl) (by kernel_rfl) (⟨H6.out, H4.out, below_drew (Below.refl _ _), HD.out⟩) ⟨?_, ?_, ?_, ?_, ?_, ?_, trivial⟩ ?_
    · intro ac w' ph hF hPh hlt hP hU K hK0
      have e6 : ac.eval (.tmp 6) = .pointer (some ⟨q6, 0, none⟩) := hF.at 6 (by kernel_rfl)
      exact rop_ld _ _ rfl e6 (load_tw hPh.1) (wanted_none rfl) (hK0 _ _ GLx.same hPh rfl)
    · intro ac w' ph hF hPh hlt hP hU K hK0
      have e6 : ac.eval (.tmp 6) = .pointer (some ⟨q6, 0, none⟩) := hF.at 6 (by kernel_rfl)
      exact rop_ld _ _ rfl e6 (load_tw hPh.1) (wanted_none rfl) (hK0 _ _ GLx.same hPh rfl)
    · intro ac w' ph hF hPh hlt hP hU K hK0
      exact rop_buildT _ _ rfl _ (by simp []) (built_tw0) (wanted_none rfl) (hK0 _ _ GLx.same hPh rfl)
    · intro ac w' ph hF hPh hlt hP hU K hK0
      have e22 : ac.eval (.tmp 22) = twV p := hP 1 (by kernel_rfl)
      have e23 : ac.eval (.tmp 23) = .agg #[tV [], tV []] := hP 2 (by kernel_rfl)
      exact rop_bin _ _ _ _ _ rfl e22 e23 (guard_tw _ _ _ p ([], []) w') (neq_tw p ([], []) w') (wanted_none rfl) (hK0 _ _ GLx.same hPh rfl)
    · intro ac w' ph hF hPh hlt hP hU K hK0
      obtain rfl : ph = 0 := (hlt 0 4 rfl).1 rfl
      have e4 : ac.eval (.tmp 4) = .pointer (some ⟨q4, 0, none⟩) := hF.at 4 (by kernel_rfl)
      have e21 : ac.eval (.tmp 21) = twV p := hP 0 (by kernel_rfl)
      have h4 : IsTw ([], []) w' q4 := hPh.2.1
      exact rop_storeG _ _ _ rfl e4 e21 (store_tw h4) (wanted_none rfl) (hK0 _ _ (GLx.last rfl) ⟨hPh.1.far hne46, h4.set, below_setCells (Nat.le_refl _) _ _ _ hPh.2.2.1, defer_far hPh.2.2.2 h4⟩ trivial)
    · intro ac w' ph hF hPh hlt hP hU K hK0
      have e24 : ac.eval (.tmp 24) = .bool (decide (p ≠ ([], []))) := hP 3 (by kernel_rfl)
      exact rop_assign _ rfl e24 (wanted_none rfl) (hK0 _ _ GLx.same hPh rfl)
    · intro ac w' hF hPh hT
      have e5 : ac.eval (.tmp 5) = .bool (decide (p ≠ ([], []))) := hT 5 (by decide)
      rw [hF.setsG [21, 22, 23, 24, 5] (by kernel_rfl)]
      simp only [List.foldl_cons, List.foldl_nil, List.setIfInBounds_toArray, List.set_cons_succ, List.set_cons_zero, e5]
      generalize ac.eval (.tmp 21) = u21
      generalize ac.eval (.tmp 22) = u22
      generalize ac.eval (.tmp 23) = u23
      generalize ac.eval (.tmp 24) = u24
      clear e5 hT hF ac
      obtain ⟨hQ1, hQ2, hQ3, hQ4⟩ := hPh
      have hQ2' : IsTw p w' q4 := hQ2
      have HQ2 := Lib.hid hQ2'
      have HQ3 := Lib.hid hQ3
      have HQ4 := Lib.hid hQ4
      clear hQ1 hQ2 hQ2' hQ3 hQ4
      go_wp2
      rw [Exit.noGoto_ret]
      have hput := belowK_b (n₀ := W0.heap.size) (w := W0) (Nat.le_refl _) w' D _ (.deferred none) hD HQ4.out rfl rfl
      refine ⟨by simp, .inl ⟨_, _, rfl, run_takeDeferred HQ4.out, ?_⟩⟩
      refine ⟨_, results_ct (t := 4) (u := 5) (ty := 32) (b := q4) (cs := [tV p.1, tV p.2]) rfl _ _ _ rfl (below_range' hput (by have := Hq4.out; omega) HQ2.out.range) Tryd.underlying32 rfl tw_info, ?_, ?_⟩
      · rw [← HPZ.out, HIS.out]; rfl
      · exact (HBV.out.trans (by rw [← Hq4.out]; exact HQ3.out)).trans (hput.mono hB0.size)
end Go.Proofs.YtdcebdleneieeaaDoor
