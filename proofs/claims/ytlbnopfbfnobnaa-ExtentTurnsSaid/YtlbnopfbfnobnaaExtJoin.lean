/-
  The library's Concat of two lists of runs, package extent's Join.
-/
import Derived.Test.YtlbnopfbfnobnaaExtCut
import Derived.Test.YtlbnopfbfnobnaaRegPh
namespace Go.Proofs.Ytlbnopfbfnobnaa
open Go.RowKit Ext

set_option maxHeartbeats 3200000 in
set_option maxRecDepth 100000 in
theorem concat_any (p : Nat) (va vb : Value) (a b : List Rn) (w : World) (ha : Runs w va a) (hb : Runs w vb b) (hc0 : w.cell? ⟨p, 0, none⟩ = some va) (hc1 : w.cell? ⟨p, 1, none⟩ = some vb) (hp : p < w.heap.size) (hla : a.length ≤ 1000) (hlb : b.length ≤ 1000) :
    Calls Try.prog 40 #[.slice (some ⟨p, 0, none⟩) 2 2] w fun e w' => ∃ v', e = .returned v' ∧ Runs w' v' (a ++ b) ∧ Below w.heap.size w w' := by
  obtain ⟨xa, ca, rfl, _, _⟩ := ha.slice
  obtain ⟨xb, cb, rfl, _, _⟩ := hb.slice
  go_enter Try.func40, Try.ntmps40
  go_wp2
  go_loop [3, 11] (fun s3 s11 => (s11 = .int .i64 0 ∧ s3 = .int .i64 0) ∨ (s11 = .int .i64 1 ∧ s3 = .int .i64 a.length) ∨ (s11 = .int .i64 2 ∧ s3 = .int .i64 (a.length + b.length : Nat))) (fun _ s11 => 2 - (intOf s11).toNat)
  case atStart => exact .inl ⟨rfl, rfl⟩
  case round =>
    rcases hrel with ⟨rfl, rfl⟩ | ⟨rfl, rfl⟩ | ⟨rfl, rfl⟩
    · go_wp2
      go_round
      case rel => exact .inr (.inl ⟨rfl, by simp⟩)
      case measure => simp [intOf]
    · go_wp2
      go_round
      case rel => exact .inr (.inr ⟨rfl, by simp⟩)
      case measure => simp [intOf]
    · have hgr := grow_any (a.length + b.length) w (by omega)
      go_wp2_with (go_at_call 45; refine hgr.mono ?_; rintro e w1 ⟨v1, rfl, ho1, b1⟩)
      go_loopw [6, 27] (fun s6 s27 wr => Below w.heap.size w wr ∧ ((s27 = .int .i64 0 ∧ Own w.heap.size wr s6 []) ∨ (s27 = .int .i64 1 ∧ Own w.heap.size wr s6 a) ∨ (s27 = .int .i64 2 ∧ Own w.heap.size wr s6 (a ++ b)))) (fun _ s27 _ => 2 - (intOf s27).toNat)
      case atStart => exact ⟨b1, .inl ⟨rfl, ho1⟩⟩
      case round =>
        clear ho1 b1
        obtain ⟨bb, hrel⟩ := hrel
        have k0 := (bb.cell (p := ⟨p, 0, none⟩) hp).trans hc0
        have k1 := (bb.cell (p := ⟨p, 1, none⟩) hp).trans hc1
        rcases hrel with ⟨rfl, ho⟩ | ⟨rfl, ho⟩ | ⟨rfl, ho⟩
        · obtain ⟨v', w', hr, ho', b'⟩ := append_own (B := w.heap.size) 22 ho (ha.old bb) bb.size (by simp; omega)
          rw [List.nil_append] at ho'
          have HR := Lib.hid hr
          clear hr ho
          go_wp2_with (at_builtin; refine Lib.wpList_append_run _ rfl _ _ _ _ rfl _ _ rfl rfl _ _ HR.out ?_)
          go_roundw
          case rel => exact ⟨bb.trans b', .inr (.inl ⟨rfl, ho'⟩)⟩
          case measure => simp [intOf]
        · obtain ⟨v', w', hr, ho', b'⟩ := append_own (B := w.heap.size) 22 ho (hb.old bb) bb.size (by omega)
          have HR := Lib.hid hr
          clear hr ho
          go_wp2_with (at_builtin; refine Lib.wpList_append_run _ rfl _ _ _ _ rfl _ _ rfl rfl _ _ HR.out ?_)
          go_roundw
          case rel => exact ⟨bb.trans b', .inr (.inr ⟨rfl, ho'⟩)⟩
          case measure => simp [intOf]
        · go_wp2
          go_ret
          exact ⟨_, rfl, ho.runs, bb⟩
/-- How the world goes on while Join puts its lists together. -/
def JLx (k k' : Nat) (w w' : World) : Prop := (k = k' ∧ w = w') ∨ (k' = k + 1 ∧ k' ≤ 2 ∧ Below w.heap.size w w') ∨ (k = 2 ∧ k' = 3)
def RXP.own (B : Nat) (l : List Rn) : RXP JLx := ⟨fun k v w => k ≤ 2 → Own B w v l, fun v w w' k k' h hx hk => by
  rcases hx with ⟨rfl, rfl⟩ | ⟨rfl, h2, hb⟩ | ⟨rfl, rfl⟩
  · exact h hk
  · exact (h (by omega)).kept hb
  · omega⟩
def RXP.fin (B : Nat) (l : List Rn) : RXP JLx := ⟨fun k v w => k = 3 ∧ Own B w v l, fun v w w' k k' h hx => by
  obtain ⟨rfl, h⟩ := h
  rcases hx with ⟨rfl, rfl⟩ | ⟨rfl, h2, hb⟩ | ⟨h2, rfl⟩
  · exact ⟨rfl, h⟩
  · omega
  · omega⟩
theorem jn_last {a b : List Rn} (ha : 0 < a.length) (hb : 0 < b.length) : jn a b = a.take (a.length - 1) ++ if a[a.length - 1].1 + a[a.length - 1].2 = b[0].1 then (a[a.length - 1].1, a[a.length - 1].2 + b[0].2) :: b.drop 1 else a[a.length - 1] :: b := by
  have e1 : a = a.take (a.length - 1) ++ [a[a.length - 1]] := by
    have := List.take_succ_eq_append_getElem (l := a) (i := a.length - 1) (by omega)
    rw [show a.length - 1 + 1 = a.length by omega, List.take_of_length_le (Nat.le_refl _)] at this
    exact this
  have e2 : b = b[0] :: b.drop 1 := by
    have := List.drop_eq_getElem_cons (l := b) (i := 0) hb
    simpa using this
  obtain ⟨x, hx⟩ : ∃ x, x = a[a.length - 1] := ⟨_, rfl⟩
  obtain ⟨y, hy⟩ : ∃ y, y = b[0] := ⟨_, rfl⟩
  rw [← hx] at e1 ⊢
  rw [← hy] at e2 ⊢
  obtain ⟨P, hP⟩ : ∃ P, P = a.take (a.length - 1) := ⟨_, rfl⟩
  obtain ⟨Q, hQ⟩ : ∃ Q, Q = b.drop 1 := ⟨_, rfl⟩
  rw [← hP] at e1 ⊢
  rw [← hQ] at e2 ⊢
  rw [e1, e2, jn_snoc]
set_option maxHeartbeats 6400000 in
set_option maxRecDepth 100000 in
theorem join_any (va vb : Value) (a b : List Rn) (w : World) (ha : Runs w va a) (hb : Runs w vb b) (hfa : fileB a = true) (hfb : fileB b = true) (hla : a.length ≤ 1000) (hlb : b.length ≤ 1000) :
    Calls Try.prog 22 #[va, vb] w fun e w' => ∃ v', e = .returned v' ∧ Runs w' v' (jn a b) ∧ Below w.heap.size w w' := by
  obtain ⟨xa, capa, rfl, hca, hca'⟩ := ha.slice
  obtain ⟨xb, capb, rfl, hcb, hcb'⟩ := hb.slice
  have hi1 := isfile_any _ a w ha
  rw [hfa] at hi1
  have hi2 := fun u (hu : Runs u (.slice xb b.length capb) b) => isfile_any _ b u hu
  rw [hfb] at hi2
  go_enter Try.func22, Try.ntmps22
  go_upto_region 4 with (first
    | (go_at_call 38; with_reducible refine hi1.mono ?_; rintro e w1 ⟨rfl, b1⟩; replace ha := ha.old b1; replace hb := hb.old b1)
    | (go_at_call 38; with_reducible refine (hi2 _ hb).mono ?_; rintro e w2 ⟨rfl, b2⟩; replace ha := ha.old b2; replace hb := hb.old b2))
  have bw := below_step b1 (Nat.le_refl _) b2
  clear b1 b2 hi1 hi2
  have hcon : ∀ u, Below w2.heap.size w2 u → Calls Try.prog 40 #[.slice (some ⟨u.heap.size, 0, none⟩) 2 2] (u.alloc (.cells #[.slice xa a.length capa, .slice xb b.length capb] 22)) fun e w' => ∃ v', e = .returned v' ∧ Runs w' v' (a ++ b) ∧ Below w2.heap.size w2 w' := fun u hu => by
    refine (concat_any u.heap.size _ _ a b (u.alloc (.cells #[.slice xa a.length capa, .slice xb b.length capb] 22)) ((ha.old hu).old (below_box _ _)) ((hb.old hu).old (below_box _ _)) (cell_of (heap_alloc_last u _) 0) (cell_of (heap_alloc_last u _) 1) (by simp) hla hlb).mono fun e w' ⟨v', h1, h2, h3⟩ => ⟨v', h1, h2, below_step (below_step hu (Nat.le_refl _) (below_box _ _)) (Nat.le_refl _) h3⟩
  by_cases hA : a.length = 0
  · obtain rfl := List.eq_nil_of_length_eq_zero hA
    clear hA
    try simp only [Act.put]
    refine wp_region_tab [RT.is (.int .i64 ((([] : List Rn).length : Int) - 1)), RT.is (.bool true), RT.is (.bool true), RT.any, RT.any, RT.any, RT.is (.bool true), RT.is (.bool true), RT.any, RT.any, RT.any, RT.any, RT.any, RT.any, RT.any, RT.any, RT.any, RT.any, RT.is (.bool true)] (by kernel_rfl) (by kernel_rfl) (by kernel_rfl) (by kernel_rfl) ⟨?_, ?_, ?_, ?_, ?_, ?_, ?_, ?_, ?_, ?_, ?_, ?_, ?_, ?_, ?_, ?_, ?_, ?_, ?_, trivial⟩ ?_
    · intro ac w' hF hL hP hU K hK
      have hB := below_undrew hL
      have e5 : ac.eval (.tmp 5) = .int .i64 ((([] : List Rn).length : Int) - 1) := hF.at 5 (by kernel_rfl)
      exact rop_move _ rfl e5 (wanted_none rfl) (hK _ _ (le8_refl _) rfl)
    · intro ac w' hF hL hP hU K hK
      have hB := below_undrew hL
      have e17 : ac.eval (.tmp 17) = .int .i64 ((([] : List Rn).length : Int) - 1) := hP 0 (by kernel_rfl)
      exact rop_bin _ _ _ _ _ rfl e17 rfl (guard_int _ _ _ _ _ _ _ w') (lss_i _ _ _ (by decide) w') (wanted_none rfl) (hK _ _ (le8_refl _) rfl)
    · intro ac w' hF hL hP hU K hK
      have hB := below_undrew hL
      have e18 : ac.eval (.tmp 18) = .bool true := hP 1 (by kernel_rfl)
      exact rop_move _ rfl e18 (wanted_none rfl) (hK _ _ (le8_refl _) rfl)
    · intro ac w' hF hL hP hU K hK
      have hB := below_undrew hL
      have e19 : ac.eval (.tmp 19) = .bool true := hP 2 (by kernel_rfl)
      exact rop_off (j := 2) (b := false) rfl rfl e19 (by decide) (hK _ _ (le8_refl _) trivial)
    · intro ac w' hF hL hP hU K hK
      have hB := below_undrew hL
      have e19 : ac.eval (.tmp 19) = .bool true := hP 2 (by kernel_rfl)
      exact rop_off (j := 2) (b := false) rfl rfl e19 (by decide) (hK _ _ (le8_refl _) trivial)
    · intro ac w' hF hL hP hU K hK
      have hB := below_undrew hL
      have e19 : ac.eval (.tmp 19) = .bool true := hP 2 (by kernel_rfl)
      exact rop_off (j := 2) (b := false) rfl rfl e19 (by decide) (hK _ _ (le8_refl _) trivial)
    · intro ac w' hF hL hP hU K hK
      have hB := below_undrew hL
      have e19 : ac.eval (.tmp 19) = .bool true := hP 2 (by kernel_rfl)
      exact rop_pick _ _ _ rfl true e19 (by rfl) (wanted_none rfl) (hK _ _ (le8_refl _) rfl)
    · intro ac w' hF hL hP hU K hK
      have hB := below_undrew hL
      have e23 : ac.eval (.tmp 23) = .bool true := hP 6 (by kernel_rfl)
      exact rop_move _ rfl e23 (wanted_none rfl) (hK _ _ (le8_refl _) rfl)
    · intro ac w' hF hL hP hU K hK
      have hB := below_undrew hL
      have e24 : ac.eval (.tmp 24) = .bool true := hP 7 (by kernel_rfl)
      exact rop_off (j := 7) (b := false) rfl rfl e24 (by decide) (hK _ _ (le8_refl _) trivial)
    · intro ac w' hF hL hP hU K hK
      have hB := below_undrew hL
      have e24 : ac.eval (.tmp 24) = .bool true := hP 7 (by kernel_rfl)
      exact rop_off (j := 7) (b := false) rfl rfl e24 (by decide) (hK _ _ (le8_refl _) trivial)
    · intro ac w' hF hL hP hU K hK
      have hB := below_undrew hL
      have e24 : ac.eval (.tmp 24) = .bool true := hP 7 (by kernel_rfl)
      exact rop_off (j := 7) (b := false) rfl rfl e24 (by decide) (hK _ _ (le8_refl _) trivial)
    · intro ac w' hF hL hP hU K hK
      have hB := below_undrew hL
      have e24 : ac.eval (.tmp 24) = .bool true := hP 7 (by kernel_rfl)
      exact rop_off (j := 7) (b := false) rfl rfl e24 (by decide) (hK _ _ (le8_refl _) trivial)
    · intro ac w' hF hL hP hU K hK
      have hB := below_undrew hL
      have e24 : ac.eval (.tmp 24) = .bool true := hP 7 (by kernel_rfl)
      exact rop_off (j := 7) (b := false) rfl rfl e24 (by decide) (hK _ _ (le8_refl _) trivial)
    · intro ac w' hF hL hP hU K hK
      have hB := below_undrew hL
      have e24 : ac.eval (.tmp 24) = .bool true := hP 7 (by kernel_rfl)
      exact rop_off (j := 7) (b := false) rfl rfl e24 (by decide) (hK _ _ (le8_refl _) trivial)
    · intro ac w' hF hL hP hU K hK
      have hB := below_undrew hL
      have e24 : ac.eval (.tmp 24) = .bool true := hP 7 (by kernel_rfl)
      exact rop_off (j := 7) (b := false) rfl rfl e24 (by decide) (hK _ _ (le8_refl _) trivial)
    · intro ac w' hF hL hP hU K hK
      have hB := below_undrew hL
      have e24 : ac.eval (.tmp 24) = .bool true := hP 7 (by kernel_rfl)
      exact rop_off (j := 7) (b := false) rfl rfl e24 (by decide) (hK _ _ (le8_refl _) trivial)
    · intro ac w' hF hL hP hU K hK
      have hB := below_undrew hL
      have e24 : ac.eval (.tmp 24) = .bool true := hP 7 (by kernel_rfl)
      exact rop_off (j := 7) (b := false) rfl rfl e24 (by decide) (hK _ _ (le8_refl _) trivial)
    · intro ac w' hF hL hP hU K hK
      have hB := below_undrew hL
      have e24 : ac.eval (.tmp 24) = .bool true := hP 7 (by kernel_rfl)
      exact rop_off (j := 7) (b := false) rfl rfl e24 (by decide) (hK _ _ (le8_refl _) trivial)
    · intro ac w' hF hL hP hU K hK
      have hB := below_undrew hL
      have e24 : ac.eval (.tmp 24) = .bool true := hP 7 (by kernel_rfl)
      exact rop_pick _ _ _ rfl true e24 (by rfl) (wanted_none rfl) (hK _ _ (le8_refl _) rfl)
    · intro ac w' hF hB hT
      have e35 : ac.eval (.tmp 35) = .bool true := hT 18 (by decide)
      rw [hF.lit 56 rfl]
      simp only [List.range, List.range.loop, List.map_cons, List.map_nil, e35, hF.at 0 (by kernel_rfl), hF.at 1 (by kernel_rfl), hF.at 2 (by kernel_rfl), hF.at 3 (by kernel_rfl), hF.at 4 (by kernel_rfl), hF.at 5 (by kernel_rfl), hF.at 6 (by kernel_rfl), hF.at 7 (by kernel_rfl), hF.at 8 (by kernel_rfl), hF.at 9 (by kernel_rfl), hF.at 10 (by kernel_rfl), hF.at 11 (by kernel_rfl), hF.at 12 (by kernel_rfl), hF.at 13 (by kernel_rfl), hF.at 14 (by kernel_rfl), hF.at 15 (by kernel_rfl), hF.at 16 (by kernel_rfl), hF.at 36 (by kernel_rfl), hF.at 37 (by kernel_rfl), hF.at 38 (by kernel_rfl), hF.at 39 (by kernel_rfl), hF.at 40 (by kernel_rfl), hF.at 41 (by kernel_rfl), hF.at 42 (by kernel_rfl), hF.at 43 (by kernel_rfl), hF.at 44 (by kernel_rfl), hF.at 45 (by kernel_rfl), hF.at 46 (by kernel_rfl), hF.at 47 (by kernel_rfl), hF.at 48 (by kernel_rfl), hF.at 49 (by kernel_rfl), hF.at 50 (by kernel_rfl), hF.at 51 (by kernel_rfl), hF.at 52 (by kernel_rfl), hF.at 53 (by kernel_rfl), hF.at 54 (by kernel_rfl), hF.at 55 (by kernel_rfl)]
      generalize ac.eval (.tmp 17) = u17
      generalize ac.eval (.tmp 18) = u18
      generalize ac.eval (.tmp 19) = u19
      generalize ac.eval (.tmp 20) = u20
      generalize ac.eval (.tmp 21) = u21
      generalize ac.eval (.tmp 22) = u22
      generalize ac.eval (.tmp 23) = u23
      generalize ac.eval (.tmp 24) = u24
      generalize ac.eval (.tmp 25) = u25
      generalize ac.eval (.tmp 26) = u26
      generalize ac.eval (.tmp 27) = u27
      generalize ac.eval (.tmp 28) = u28
      generalize ac.eval (.tmp 29) = u29
      generalize ac.eval (.tmp 30) = u30
      generalize ac.eval (.tmp 31) = u31
      generalize ac.eval (.tmp 32) = u32
      generalize ac.eval (.tmp 33) = u33
      generalize ac.eval (.tmp 34) = u34
      simp only [Act.eval, Array.getD_eq_getD_getElem?, List.getElem?_toArray, List.getElem?_cons_succ, List.getElem?_cons_zero, Option.getD_some]
      clear e35 hT hF ac
      have hc := hcon w' hB
      go_wp2_with (go_at_call 40; refine hc.mono ?_; rintro e w4 ⟨v4, rfl, h4, b4⟩)
      go_ret
      exact ⟨v4, rfl, h4, below_step bw (Nat.le_refl _) b4⟩
  · by_cases hBe : b.length = 0
    · have hBe' : b = [] := List.eq_nil_of_length_eq_zero hBe
      try simp only [Act.put]
      refine wp_region_tab [RT.is (.int .i64 ((a.length : Int) - 1)), RT.is (.bool false), RT.is (.bool false), RT.is (.slice xb b.length capb), RT.is (.int .i64 (b.length : Int)), RT.is (.bool true), RT.is (.bool true), RT.is (.bool true), RT.any, RT.any, RT.any, RT.any, RT.any, RT.any, RT.any, RT.any, RT.any, RT.any, RT.is (.bool true)] (by kernel_rfl) (by kernel_rfl) (by kernel_rfl) (by kernel_rfl) ⟨?_, ?_, ?_, ?_, ?_, ?_, ?_, ?_, ?_, ?_, ?_, ?_, ?_, ?_, ?_, ?_, ?_, ?_, ?_, trivial⟩ ?_
      · intro ac w' hF hL hP hU K hK
        have hB := below_undrew hL
        have e5 : ac.eval (.tmp 5) = .int .i64 ((a.length : Int) - 1) := hF.at 5 (by kernel_rfl)
        exact rop_move _ rfl e5 (wanted_none rfl) (hK _ _ (le8_refl _) rfl)
      · intro ac w' hF hL hP hU K hK
        have hB := below_undrew hL
        have e17 : ac.eval (.tmp 17) = .int .i64 ((a.length : Int) - 1) := hP 0 (by kernel_rfl)
        exact rop_bin _ _ _ _ _ rfl e17 rfl (guard_int _ _ _ _ _ _ _ w') (lss_i _ _ _ (by rw [decide_eq_false_iff_not]; omega) w') (wanted_none rfl) (hK _ _ (le8_refl _) rfl)
      · intro ac w' hF hL hP hU K hK
        have hB := below_undrew hL
        have e18 : ac.eval (.tmp 18) = .bool false := hP 1 (by kernel_rfl)
        exact rop_move _ rfl e18 (wanted_none rfl) (hK _ _ (le8_refl _) rfl)
      · intro ac w' hF hL hP hU K hK
        have hB := below_undrew hL
        have e1 : ac.eval (.tmp 1) = .slice xb b.length capb := hF.at 1 (by kernel_rfl)
        have e19 : ac.eval (.tmp 19) = .bool false := hP 2 (by kernel_rfl)
        exact rop_move _ rfl e1 (wanted_of (j := 2) (b := false) rfl rfl e19) (hK _ _ (le8_refl _) rfl)
      · intro ac w' hF hL hP hU K hK
        have hB := below_undrew hL
        have e20 : ac.eval (.tmp 20) = .slice xb b.length capb := hP 3 (by kernel_rfl)
        have e19 : ac.eval (.tmp 19) = .bool false := hP 2 (by kernel_rfl)
        exact rop_len_sl _ rfl e20 (wanted_of (j := 2) (b := false) rfl rfl e19) (hK _ _ (le8_refl _) rfl)
      · intro ac w' hF hL hP hU K hK
        have hB := below_undrew hL
        have e21 : ac.eval (.tmp 21) = .int .i64 (b.length : Int) := hP 4 (by kernel_rfl)
        have e19 : ac.eval (.tmp 19) = .bool false := hP 2 (by kernel_rfl)
        exact rop_bin _ _ _ _ _ rfl e21 rfl (guard_int _ _ _ _ _ _ _ w') (eql_i _ _ _ (by rw [decide_eq_true_iff]; omega) w') (wanted_of (j := 2) (b := false) rfl rfl e19) (hK _ _ (le8_refl _) rfl)
      · intro ac w' hF hL hP hU K hK
        have hB := below_undrew hL
        have e19 : ac.eval (.tmp 19) = .bool false := hP 2 (by kernel_rfl)
        have e22 : ac.eval (.tmp 22) = .bool true := hP 5 (by kernel_rfl)
        exact rop_pick _ _ _ rfl false e19 (by simpa using e22) (wanted_none rfl) (hK _ _ (le8_refl _) rfl)
      · intro ac w' hF hL hP hU K hK
        have hB := below_undrew hL
        have e23 : ac.eval (.tmp 23) = .bool true := hP 6 (by kernel_rfl)
        exact rop_move _ rfl e23 (wanted_none rfl) (hK _ _ (le8_refl _) rfl)
      · intro ac w' hF hL hP hU K hK
        have hB := below_undrew hL
        have e24 : ac.eval (.tmp 24) = .bool true := hP 7 (by kernel_rfl)
        exact rop_off (j := 7) (b := false) rfl rfl e24 (by decide) (hK _ _ (le8_refl _) trivial)
      · intro ac w' hF hL hP hU K hK
        have hB := below_undrew hL
        have e24 : ac.eval (.tmp 24) = .bool true := hP 7 (by kernel_rfl)
        exact rop_off (j := 7) (b := false) rfl rfl e24 (by decide) (hK _ _ (le8_refl _) trivial)
      · intro ac w' hF hL hP hU K hK
        have hB := below_undrew hL
        have e24 : ac.eval (.tmp 24) = .bool true := hP 7 (by kernel_rfl)
        exact rop_off (j := 7) (b := false) rfl rfl e24 (by decide) (hK _ _ (le8_refl _) trivial)
      · intro ac w' hF hL hP hU K hK
        have hB := below_undrew hL
        have e24 : ac.eval (.tmp 24) = .bool true := hP 7 (by kernel_rfl)
        exact rop_off (j := 7) (b := false) rfl rfl e24 (by decide) (hK _ _ (le8_refl _) trivial)
      · intro ac w' hF hL hP hU K hK
        have hB := below_undrew hL
        have e24 : ac.eval (.tmp 24) = .bool true := hP 7 (by kernel_rfl)
        exact rop_off (j := 7) (b := false) rfl rfl e24 (by decide) (hK _ _ (le8_refl _) trivial)
      · intro ac w' hF hL hP hU K hK
        have hB := below_undrew hL
        have e24 : ac.eval (.tmp 24) = .bool true := hP 7 (by kernel_rfl)
        exact rop_off (j := 7) (b := false) rfl rfl e24 (by decide) (hK _ _ (le8_refl _) trivial)
      · intro ac w' hF hL hP hU K hK
        have hB := below_undrew hL
        have e24 : ac.eval (.tmp 24) = .bool true := hP 7 (by kernel_rfl)
        exact rop_off (j := 7) (b := false) rfl rfl e24 (by decide) (hK _ _ (le8_refl _) trivial)
      · intro ac w' hF hL hP hU K hK
        have hB := below_undrew hL
        have e24 : ac.eval (.tmp 24) = .bool true := hP 7 (by kernel_rfl)
        exact rop_off (j := 7) (b := false) rfl rfl e24 (by decide) (hK _ _ (le8_refl _) trivial)
      · intro ac w' hF hL hP hU K hK
        have hB := below_undrew hL
        have e24 : ac.eval (.tmp 24) = .bool true := hP 7 (by kernel_rfl)
        exact rop_off (j := 7) (b := false) rfl rfl e24 (by decide) (hK _ _ (le8_refl _) trivial)
      · intro ac w' hF hL hP hU K hK
        have hB := below_undrew hL
        have e24 : ac.eval (.tmp 24) = .bool true := hP 7 (by kernel_rfl)
        exact rop_off (j := 7) (b := false) rfl rfl e24 (by decide) (hK _ _ (le8_refl _) trivial)
      · intro ac w' hF hL hP hU K hK
        have hB := below_undrew hL
        have e24 : ac.eval (.tmp 24) = .bool true := hP 7 (by kernel_rfl)
        exact rop_pick _ _ _ rfl true e24 (by rfl) (wanted_none rfl) (hK _ _ (le8_refl _) rfl)
      · intro ac w' hF hB hT
        have e35 : ac.eval (.tmp 35) = .bool true := hT 18 (by decide)
        rw [hF.lit 56 rfl]
        simp only [List.range, List.range.loop, List.map_cons, List.map_nil, e35, hF.at 0 (by kernel_rfl), hF.at 1 (by kernel_rfl), hF.at 2 (by kernel_rfl), hF.at 3 (by kernel_rfl), hF.at 4 (by kernel_rfl), hF.at 5 (by kernel_rfl), hF.at 6 (by kernel_rfl), hF.at 7 (by kernel_rfl), hF.at 8 (by kernel_rfl), hF.at 9 (by kernel_rfl), hF.at 10 (by kernel_rfl), hF.at 11 (by kernel_rfl), hF.at 12 (by kernel_rfl), hF.at 13 (by kernel_rfl), hF.at 14 (by kernel_rfl), hF.at 15 (by kernel_rfl), hF.at 16 (by kernel_rfl), hF.at 36 (by kernel_rfl), hF.at 37 (by kernel_rfl), hF.at 38 (by kernel_rfl), hF.at 39 (by kernel_rfl), hF.at 40 (by kernel_rfl), hF.at 41 (by kernel_rfl), hF.at 42 (by kernel_rfl), hF.at 43 (by kernel_rfl), hF.at 44 (by kernel_rfl), hF.at 45 (by kernel_rfl), hF.at 46 (by kernel_rfl), hF.at 47 (by kernel_rfl), hF.at 48 (by kernel_rfl), hF.at 49 (by kernel_rfl), hF.at 50 (by kernel_rfl), hF.at 51 (by kernel_rfl), hF.at 52 (by kernel_rfl), hF.at 53 (by kernel_rfl), hF.at 54 (by kernel_rfl), hF.at 55 (by kernel_rfl)]
        generalize ac.eval (.tmp 17) = u17
        generalize ac.eval (.tmp 18) = u18
        generalize ac.eval (.tmp 19) = u19
        generalize ac.eval (.tmp 20) = u20
        generalize ac.eval (.tmp 21) = u21
        generalize ac.eval (.tmp 22) = u22
        generalize ac.eval (.tmp 23) = u23
        generalize ac.eval (.tmp 24) = u24
        generalize ac.eval (.tmp 25) = u25
        generalize ac.eval (.tmp 26) = u26
        generalize ac.eval (.tmp 27) = u27
        generalize ac.eval (.tmp 28) = u28
        generalize ac.eval (.tmp 29) = u29
        generalize ac.eval (.tmp 30) = u30
        generalize ac.eval (.tmp 31) = u31
        generalize ac.eval (.tmp 32) = u32
        generalize ac.eval (.tmp 33) = u33
        generalize ac.eval (.tmp 34) = u34
        simp only [Act.eval, Array.getD_eq_getD_getElem?, List.getElem?_toArray, List.getElem?_cons_succ, List.getElem?_cons_zero, Option.getD_some]
        clear e35 hT hF ac
        have HBE := Lib.hid hBe'
        clear hBe hBe'
        have hc := hcon w' hB
        go_wp2_with (go_at_call 40; refine hc.mono ?_; rintro e w4 ⟨v4, rfl, h4, b4⟩)
        go_ret
        refine ⟨v4, rfl, ?_, below_step bw (Nat.le_refl _) b4⟩
        have hBe' := HBE.out
        subst hBe'
        rw [jn_nil]
        simpa using h4
    · obtain ⟨kk, hK⟩ : ∃ kk, kk = a.length - 1 := ⟨_, rfl⟩
      have hKl : kk < a.length := by omega
      obtain ⟨p, o, rfl, hp, -, c0, c1⟩ := ha.at kk hKl
      obtain ⟨q, r, rfl, hq, -, d0, d1⟩ := hb.at 0 (by omega)
      have hsa := fileB_get hfa kk hKl
      have hsb := fileB_get hfb 0 (by omega)
      have hjn := jn_last (a := a) (b := b) (by omega) (by omega)
      have hlast : a.take kk ++ [a[kk]] = a := by
        have := List.take_succ_eq_append_getElem hKl
        rw [show kk + 1 = a.length by omega, List.take_of_length_le (Nat.le_refl _)] at this
        exact this.symm
      have hKc : ((kk : Nat) : Int) = (a.length : Int) - 1 := by omega
      simp only [← hK] at hjn
      obtain ⟨xx, hx⟩ : ∃ xx, xx = a[kk] := ⟨_, rfl⟩
      obtain ⟨yy, hy⟩ : ∃ yy, yy = b[0] := ⟨_, rfl⟩
      rw [← hx] at c0 c1 hsa hjn hlast
      rw [← hy] at d0 d1 hsb hjn
      obtain ⟨x, m⟩ := xx
      obtain ⟨y, n⟩ := yy
      simp only at c0 c1 d0 d1 hsa hsb hjn
      obtain ⟨s1, s2, s3⟩ := hsa
      obtain ⟨t1, t2, t3⟩ := hsb
      have hix : ∀ u, (Instr.indexAt 22 (.slice (some ⟨p, o, none⟩) a.length capa) (.int .i64 ((a.length : Int) - 1))).run Try.prog u = .ok (.pointer (some ⟨p, o + kk * 2, none⟩)) u := fun u => by
        rw [← hKc]; exact idx_run p o a.length capa kk hKl u
      have hiy : ∀ u, (Instr.indexAt 22 (.slice (some ⟨q, r, none⟩) b.length capb) (.int .i64 0)).run Try.prog u = .ok (.pointer (some ⟨q, r + 0 * 2, none⟩)) u := fun u => idx_run q r b.length capb 0 (by omega) u
      have HJ := Lib.hid hjn
      have HL := Lib.hid hlast
      have HKC := Lib.hid hKc
      have HK := Lib.hid hK
      clear hjn hlast hx hy hKc hK
      by_cases hne : x + m = y
      ·
        try simp only [Act.put]
        refine wp_region_tab [RT.is (.int .i64 ((a.length : Int) - 1)), RT.is (.bool false), RT.is (.bool false), RT.is (.slice (some ⟨q, r, none⟩) b.length capb), RT.is (.int .i64 (b.length : Int)), RT.is (.bool false), RT.is (.bool false), RT.is (.bool false), RT.is (.slice (some ⟨p, o, none⟩) a.length capa), RT.is (.int .i64 ((a.length : Int) - 1)), RT.is (.pointer (some ⟨p, o + kk * 2, none⟩)), RT.is (.agg #[.int .i64 x, .int .i64 m]), RT.is (.int .i64 (x + m)), RT.is (.slice (some ⟨q, r, none⟩) b.length capb), RT.is (.pointer (some ⟨q, r + 0 * 2, none⟩)), RT.is (.pointer (some ⟨q, r + 0 * 2, none⟩)), RT.is (.int .i64 y), RT.is (.bool false), RT.is (.bool false)] (by kernel_rfl) (by kernel_rfl) (by kernel_rfl) (by kernel_rfl) ⟨?_, ?_, ?_, ?_, ?_, ?_, ?_, ?_, ?_, ?_, ?_, ?_, ?_, ?_, ?_, ?_, ?_, ?_, ?_, trivial⟩ ?_
        · intro ac w' hF hL hP hU K hK
          have hB := below_undrew hL
          have e5 : ac.eval (.tmp 5) = .int .i64 ((a.length : Int) - 1) := hF.at 5 (by kernel_rfl)
          exact rop_move _ rfl e5 (wanted_none rfl) (hK _ _ (le8_refl _) rfl)
        · intro ac w' hF hL hP hU K hK
          have hB := below_undrew hL
          have e17 : ac.eval (.tmp 17) = .int .i64 ((a.length : Int) - 1) := hP 0 (by kernel_rfl)
          exact rop_bin _ _ _ _ _ rfl e17 rfl (guard_int _ _ _ _ _ _ _ w') (lss_i _ _ _ (by rw [decide_eq_false_iff_not]; omega) w') (wanted_none rfl) (hK _ _ (le8_refl _) rfl)
        · intro ac w' hF hL hP hU K hK
          have hB := below_undrew hL
          have e18 : ac.eval (.tmp 18) = .bool false := hP 1 (by kernel_rfl)
          exact rop_move _ rfl e18 (wanted_none rfl) (hK _ _ (le8_refl _) rfl)
        · intro ac w' hF hL hP hU K hK
          have hB := below_undrew hL
          have e1 : ac.eval (.tmp 1) = .slice (some ⟨q, r, none⟩) b.length capb := hF.at 1 (by kernel_rfl)
          have e19 : ac.eval (.tmp 19) = .bool false := hP 2 (by kernel_rfl)
          exact rop_move _ rfl e1 (wanted_of (j := 2) (b := false) rfl rfl e19) (hK _ _ (le8_refl _) rfl)
        · intro ac w' hF hL hP hU K hK
          have hB := below_undrew hL
          have e20 : ac.eval (.tmp 20) = .slice (some ⟨q, r, none⟩) b.length capb := hP 3 (by kernel_rfl)
          have e19 : ac.eval (.tmp 19) = .bool false := hP 2 (by kernel_rfl)
          exact rop_len_sl _ rfl e20 (wanted_of (j := 2) (b := false) rfl rfl e19) (hK _ _ (le8_refl _) rfl)
        · intro ac w' hF hL hP hU K hK
          have hB := below_undrew hL
          have e21 : ac.eval (.tmp 21) = .int .i64 (b.length : Int) := hP 4 (by kernel_rfl)
          have e19 : ac.eval (.tmp 19) = .bool false := hP 2 (by kernel_rfl)
          exact rop_bin _ _ _ _ _ rfl e21 rfl (guard_int _ _ _ _ _ _ _ w') (eql_i _ _ _ (by rw [decide_eq_false_iff_not]; omega) w') (wanted_of (j := 2) (b := false) rfl rfl e19) (hK _ _ (le8_refl _) rfl)
        · intro ac w' hF hL hP hU K hK
          have hB := below_undrew hL
          have e19 : ac.eval (.tmp 19) = .bool false := hP 2 (by kernel_rfl)
          have e22 : ac.eval (.tmp 22) = .bool false := hP 5 (by kernel_rfl)
          exact rop_pick _ _ _ rfl false e19 (by simpa using e22) (wanted_none rfl) (hK _ _ (le8_refl _) rfl)
        · intro ac w' hF hL hP hU K hK
          have hB := below_undrew hL
          have e23 : ac.eval (.tmp 23) = .bool false := hP 6 (by kernel_rfl)
          exact rop_move _ rfl e23 (wanted_none rfl) (hK _ _ (le8_refl _) rfl)
        · intro ac w' hF hL hP hU K hK
          have hB := below_undrew hL
          have e0 : ac.eval (.tmp 0) = .slice (some ⟨p, o, none⟩) a.length capa := hF.at 0 (by kernel_rfl)
          have e24 : ac.eval (.tmp 24) = .bool false := hP 7 (by kernel_rfl)
          exact rop_move _ rfl e0 (wanted_of (j := 7) (b := false) rfl rfl e24) (hK _ _ (le8_refl _) rfl)
        · intro ac w' hF hL hP hU K hK
          have hB := below_undrew hL
          have e5 : ac.eval (.tmp 5) = .int .i64 ((a.length : Int) - 1) := hF.at 5 (by kernel_rfl)
          have e24 : ac.eval (.tmp 24) = .bool false := hP 7 (by kernel_rfl)
          exact rop_move _ rfl e5 (wanted_of (j := 7) (b := false) rfl rfl e24) (hK _ _ (le8_refl _) rfl)
        · intro ac w' hF hL hP hU K hK
          have hB := below_undrew hL
          have e25 : ac.eval (.tmp 25) = .slice (some ⟨p, o, none⟩) a.length capa := hP 8 (by kernel_rfl)
          have e26 : ac.eval (.tmp 26) = .int .i64 ((a.length : Int) - 1) := hP 9 (by kernel_rfl)
          have e24 : ac.eval (.tmp 24) = .bool false := hP 7 (by kernel_rfl)
          exact rop_idx _ _ _ rfl e25 e26 (hix _) (wanted_of (j := 7) (b := false) rfl rfl e24) (hK _ _ (le8_refl _) rfl)
        · intro ac w' hF hL hP hU K hK
          have hB := below_undrew hL
          have e27 : ac.eval (.tmp 27) = .pointer (some ⟨p, o + kk * 2, none⟩) := hP 10 (by kernel_rfl)
          have e24 : ac.eval (.tmp 24) = .bool false := hP 7 (by kernel_rfl)
          exact rop_ld _ _ rfl e27 (load_run ((hB.cell (p := ⟨p, _, none⟩) hp).trans c0) ((hB.cell (p := ⟨p, _, none⟩) hp).trans c1)) (wanted_of (j := 7) (b := false) rfl rfl e24) (hK _ _ (le8_refl _) rfl)
        · intro ac w' hF hL hP hU K hK
          have hB := below_undrew hL
          have e28 : ac.eval (.tmp 28) = .agg #[.int .i64 x, .int .i64 m] := hP 11 (by kernel_rfl)
          have e24 : ac.eval (.tmp 24) = .bool false := hP 7 (by kernel_rfl)
          refine rop_call 39 _ _ rfl #[.agg #[.int .i64 x, .int .i64 m]] (by simp [e28]) (by kernel_rfl) (wanted_of (j := 7) (b := false) rfl rfl e24) ?_
          refine (behind_any x m w' s1 s2 s3).mono ?_
          rintro e w2 ⟨rfl, hb⟩
          exact ⟨_, rfl, hK _ _ hb rfl⟩
        · intro ac w' hF hL hP hU K hK
          have hB := below_undrew hL
          have e1 : ac.eval (.tmp 1) = .slice (some ⟨q, r, none⟩) b.length capb := hF.at 1 (by kernel_rfl)
          have e24 : ac.eval (.tmp 24) = .bool false := hP 7 (by kernel_rfl)
          exact rop_move _ rfl e1 (wanted_of (j := 7) (b := false) rfl rfl e24) (hK _ _ (le8_refl _) rfl)
        · intro ac w' hF hL hP hU K hK
          have hB := below_undrew hL
          have e30 : ac.eval (.tmp 30) = .slice (some ⟨q, r, none⟩) b.length capb := hP 13 (by kernel_rfl)
          have e24 : ac.eval (.tmp 24) = .bool false := hP 7 (by kernel_rfl)
          exact rop_idx _ _ _ rfl e30 rfl (hiy _) (wanted_of (j := 7) (b := false) rfl rfl e24) (hK _ _ (le8_refl _) rfl)
        · intro ac w' hF hL hP hU K hK
          have hB := below_undrew hL
          have e31 : ac.eval (.tmp 31) = .pointer (some ⟨q, r + 0 * 2, none⟩) := hP 14 (by kernel_rfl)
          have e24 : ac.eval (.tmp 24) = .bool false := hP 7 (by kernel_rfl)
          exact rop_fld _ _ _ rfl e31 (fld_run0 _ _ _) (wanted_of (j := 7) (b := false) rfl rfl e24) (hK _ _ (le8_refl _) rfl)
        · intro ac w' hF hL hP hU K hK
          have hB := below_undrew hL
          have e32 : ac.eval (.tmp 32) = .pointer (some ⟨q, r + 0 * 2, none⟩) := hP 15 (by kernel_rfl)
          have e24 : ac.eval (.tmp 24) = .bool false := hP 7 (by kernel_rfl)
          exact rop_ld _ _ rfl e32 (load_int ((hB.cell (p := ⟨q, _, none⟩) hq).trans d0)) (wanted_of (j := 7) (b := false) rfl rfl e24) (hK _ _ (le8_refl _) rfl)
        · intro ac w' hF hL hP hU K hK
          have hB := below_undrew hL
          have e29 : ac.eval (.tmp 29) = .int .i64 (x + m) := hP 12 (by kernel_rfl)
          have e33 : ac.eval (.tmp 33) = .int .i64 y := hP 16 (by kernel_rfl)
          have e24 : ac.eval (.tmp 24) = .bool false := hP 7 (by kernel_rfl)
          exact rop_bin _ _ _ _ _ rfl e29 e33 (guard_int _ _ _ _ _ _ _ w') (neq_i _ _ _ (by rw [decide_eq_false_iff_not]; omega) w') (wanted_of (j := 7) (b := false) rfl rfl e24) (hK _ _ (le8_refl _) rfl)
        · intro ac w' hF hL hP hU K hK
          have hB := below_undrew hL
          have e24 : ac.eval (.tmp 24) = .bool false := hP 7 (by kernel_rfl)
          have e34 : ac.eval (.tmp 34) = .bool false := hP 17 (by kernel_rfl)
          exact rop_pick _ _ _ rfl false e24 (by simpa using e34) (wanted_none rfl) (hK _ _ (le8_refl _) rfl)
        · intro ac w' hF hB hT
          have e35 : ac.eval (.tmp 35) = .bool false := hT 18 (by decide)
          rw [hF.lit 56 rfl]
          simp only [List.range, List.range.loop, List.map_cons, List.map_nil, e35, hF.at 0 (by kernel_rfl), hF.at 1 (by kernel_rfl), hF.at 2 (by kernel_rfl), hF.at 3 (by kernel_rfl), hF.at 4 (by kernel_rfl), hF.at 5 (by kernel_rfl), hF.at 6 (by kernel_rfl), hF.at 7 (by kernel_rfl), hF.at 8 (by kernel_rfl), hF.at 9 (by kernel_rfl), hF.at 10 (by kernel_rfl), hF.at 11 (by kernel_rfl), hF.at 12 (by kernel_rfl), hF.at 13 (by kernel_rfl), hF.at 14 (by kernel_rfl), hF.at 15 (by kernel_rfl), hF.at 16 (by kernel_rfl), hF.at 36 (by kernel_rfl), hF.at 37 (by kernel_rfl), hF.at 38 (by kernel_rfl), hF.at 39 (by kernel_rfl), hF.at 40 (by kernel_rfl), hF.at 41 (by kernel_rfl), hF.at 42 (by kernel_rfl), hF.at 43 (by kernel_rfl), hF.at 44 (by kernel_rfl), hF.at 45 (by kernel_rfl), hF.at 46 (by kernel_rfl), hF.at 47 (by kernel_rfl), hF.at 48 (by kernel_rfl), hF.at 49 (by kernel_rfl), hF.at 50 (by kernel_rfl), hF.at 51 (by kernel_rfl), hF.at 52 (by kernel_rfl), hF.at 53 (by kernel_rfl), hF.at 54 (by kernel_rfl), hF.at 55 (by kernel_rfl)]
          generalize ac.eval (.tmp 17) = u17
          generalize ac.eval (.tmp 18) = u18
          generalize ac.eval (.tmp 19) = u19
          generalize ac.eval (.tmp 20) = u20
          generalize ac.eval (.tmp 21) = u21
          generalize ac.eval (.tmp 22) = u22
          generalize ac.eval (.tmp 23) = u23
          generalize ac.eval (.tmp 24) = u24
          generalize ac.eval (.tmp 25) = u25
          generalize ac.eval (.tmp 26) = u26
          generalize ac.eval (.tmp 27) = u27
          generalize ac.eval (.tmp 28) = u28
          generalize ac.eval (.tmp 29) = u29
          generalize ac.eval (.tmp 30) = u30
          generalize ac.eval (.tmp 31) = u31
          generalize ac.eval (.tmp 32) = u32
          generalize ac.eval (.tmp 33) = u33
          generalize ac.eval (.tmp 34) = u34
          simp only [Act.eval, Array.getD_eq_getD_getElem?, List.getElem?_toArray, List.getElem?_cons_succ, List.getElem?_cons_zero, Option.getD_some]
          clear e35 hT hF ac
          have q2 := slice_l (some ⟨q, r, none⟩) b.length capb 1 (by omega)
          replace ha := ha.old hB
          replace hb := hb.old hB
          replace c0 := (hB.cell (p := ⟨p, _, none⟩) hp).trans c0
          replace c1 := (hB.cell (p := ⟨p, _, none⟩) hp).trans c1
          replace d0 := (hB.cell (p := ⟨q, _, none⟩) hq).trans d0
          replace d1 := (hB.cell (p := ⟨q, _, none⟩) hq).trans d1
          replace hp := Nat.lt_of_lt_of_le hp hB.size
          replace hq := Nat.lt_of_lt_of_le hq hB.size
          replace bw := below_step bw (Nat.le_refl _) hB
          clear hB hcon
          obtain ⟨W, hW⟩ : ∃ W, W = w' := ⟨_, rfl⟩
          subst hW
          obtain ⟨L5, hL⟩ : ∃ L5, L5 = a.take kk ++ (x, m + n) :: a.drop a.length := ⟨_, rfl⟩
          have hL5 : L5.length ≤ 1002 := by rw [hL]; simp; omega
          have hjo : ∀ u, Calls Try.prog 35 #[.agg #[.int .i64 x, .int .i64 m], .agg #[.int .i64 y, .int .i64 n]] u fun e w' => e = .returned (.agg #[.int .i64 x, .int .i64 (m + n)]) ∧ Below u.heap.size u w' := fun u => by
            have := joined_any x m y n u s1 s2 (by omega) t1 t2 (by omega)
            rw [Int.min_eq_left (by omega)] at this
            exact this
          have hpu : ∀ u, Below W.heap.size W u → Calls Try.prog 36 #[.slice (some ⟨p, o, none⟩) a.length capa, .int .i64 ((a.length : Int) - 1), .int .i64 (a.length : Int), .agg #[.int .i64 x, .int .i64 (m + n)]] u fun e w' => ∃ v', e = .returned v' ∧ Own W.heap.size w' v' L5 ∧ Below u.heap.size u w' := fun u hu => by
            have := put_any _ a kk a.length x (m + n) u (ha.old hu) (by omega) (Nat.le_refl _) (by omega) (by unfold okR; simp only; omega)
            rw [HKC.out, ← hL] at this
            exact this.mono fun e w' ⟨v', h1, h2, h3⟩ => ⟨v', h1, h2.lower hu.size, h3⟩
          have htb : ∀ u, Below W.heap.size W u → Runs u (.slice (cutA (some ⟨q, r, none⟩) 1 capb) (b.length - 1) (capb - 1)) (b.drop 1) := fun u hu => (hb.old hu).tail 1 (by omega)
          have HL5 := Lib.hid hL
          clear hL
          go_wp2
          try simp only [Act.put]
          refine wp_region_ph (Lx := JLx) [RXP.is (.slice (some ⟨p, o, none⟩) a.length capa), RXP.is (.int .i64 ((a.length : Int) - 1)), RXP.is (.slice (some ⟨p, o, none⟩) a.length capa), RXP.is (.int .i64 (a.length : Int)), RXP.is (.slice (some ⟨p, o, none⟩) a.length capa), RXP.is (.int .i64 ((a.length : Int) - 1)), RXP.is (.pointer (some ⟨p, o + kk * 2, none⟩)), RXP.is (.agg #[.int .i64 x, .int .i64 m]), RXP.is (.slice (some ⟨q, r, none⟩) b.length capb), RXP.is (.pointer (some ⟨q, r + 0 * 2, none⟩)), RXP.is (.agg #[.int .i64 y, .int .i64 n]), RXP.is (.agg #[.int .i64 x, .int .i64 (m + n)]), RXP.own W.heap.size L5, RXP.is (.slice (some ⟨q, r, none⟩) b.length capb), RXP.is (.slice (cutA (some ⟨q, r, none⟩) 1 capb) (b.length - 1) (capb - 1)), RXP.fin W.heap.size (L5 ++ b.drop 1), RXP.fin W.heap.size (L5 ++ b.drop 1)] [11, 12, 15] (fun _ w' => Below W.heap.size W w') (by kernel_rfl) (by kernel_rfl) (by kernel_rfl) (by kernel_rfl) (by kernel_rfl) (below_drew (Below.refl _ _)) ⟨?_, ?_, ?_, ?_, ?_, ?_, ?_, ?_, ?_, ?_, ?_, ?_, ?_, ?_, ?_, ?_, ?_, trivial⟩ ?_
          · intro ac w' ph hF hPh hlt hP hU K hK0
            have hB : Below W.heap.size W w' := hPh
            have e0 : ac.eval (.tmp 0) = .slice (some ⟨p, o, none⟩) a.length capa := hF.at 0 (by kernel_rfl)
            exact rop_move _ rfl e0 (wanted_none rfl) (hK0 _ _ (.inl ⟨rfl, rfl⟩) hPh rfl)
          · intro ac w' ph hF hPh hlt hP hU K hK0
            have hB : Below W.heap.size W w' := hPh
            have e5 : ac.eval (.tmp 5) = .int .i64 ((a.length : Int) - 1) := hF.at 5 (by kernel_rfl)
            exact rop_move _ rfl e5 (wanted_none rfl) (hK0 _ _ (.inl ⟨rfl, rfl⟩) hPh rfl)
          · intro ac w' ph hF hPh hlt hP hU K hK0
            have hB : Below W.heap.size W w' := hPh
            have e0 : ac.eval (.tmp 0) = .slice (some ⟨p, o, none⟩) a.length capa := hF.at 0 (by kernel_rfl)
            exact rop_move _ rfl e0 (wanted_none rfl) (hK0 _ _ (.inl ⟨rfl, rfl⟩) hPh rfl)
          · intro ac w' ph hF hPh hlt hP hU K hK0
            have hB : Below W.heap.size W w' := hPh
            have e42 : ac.eval (.tmp 42) = .slice (some ⟨p, o, none⟩) a.length capa := hP 2 (by kernel_rfl)
            exact rop_len_sl _ rfl e42 (wanted_none rfl) (hK0 _ _ (.inl ⟨rfl, rfl⟩) hPh rfl)
          · intro ac w' ph hF hPh hlt hP hU K hK0
            have hB : Below W.heap.size W w' := hPh
            have e0 : ac.eval (.tmp 0) = .slice (some ⟨p, o, none⟩) a.length capa := hF.at 0 (by kernel_rfl)
            exact rop_move _ rfl e0 (wanted_none rfl) (hK0 _ _ (.inl ⟨rfl, rfl⟩) hPh rfl)
          · intro ac w' ph hF hPh hlt hP hU K hK0
            have hB : Below W.heap.size W w' := hPh
            have e5 : ac.eval (.tmp 5) = .int .i64 ((a.length : Int) - 1) := hF.at 5 (by kernel_rfl)
            exact rop_move _ rfl e5 (wanted_none rfl) (hK0 _ _ (.inl ⟨rfl, rfl⟩) hPh rfl)
          · intro ac w' ph hF hPh hlt hP hU K hK0
            have hB : Below W.heap.size W w' := hPh
            have e44 : ac.eval (.tmp 44) = .slice (some ⟨p, o, none⟩) a.length capa := hP 4 (by kernel_rfl)
            have e45 : ac.eval (.tmp 45) = .int .i64 ((a.length : Int) - 1) := hP 5 (by kernel_rfl)
            exact rop_idx _ _ _ rfl e44 e45 (hix _) (wanted_none rfl) (hK0 _ _ (.inl ⟨rfl, rfl⟩) hPh rfl)
          · intro ac w' ph hF hPh hlt hP hU K hK0
            have hB : Below W.heap.size W w' := hPh
            have e46 : ac.eval (.tmp 46) = .pointer (some ⟨p, o + kk * 2, none⟩) := hP 6 (by kernel_rfl)
            exact rop_ld _ _ rfl e46 (load_run ((hB.cell (p := ⟨p, _, none⟩) hp).trans c0) ((hB.cell (p := ⟨p, _, none⟩) hp).trans c1)) (wanted_none rfl) (hK0 _ _ (.inl ⟨rfl, rfl⟩) hPh rfl)
          · intro ac w' ph hF hPh hlt hP hU K hK0
            have hB : Below W.heap.size W w' := hPh
            have e1 : ac.eval (.tmp 1) = .slice (some ⟨q, r, none⟩) b.length capb := hF.at 1 (by kernel_rfl)
            exact rop_move _ rfl e1 (wanted_none rfl) (hK0 _ _ (.inl ⟨rfl, rfl⟩) hPh rfl)
          · intro ac w' ph hF hPh hlt hP hU K hK0
            have hB : Below W.heap.size W w' := hPh
            have e48 : ac.eval (.tmp 48) = .slice (some ⟨q, r, none⟩) b.length capb := hP 8 (by kernel_rfl)
            exact rop_idx _ _ _ rfl e48 rfl (hiy _) (wanted_none rfl) (hK0 _ _ (.inl ⟨rfl, rfl⟩) hPh rfl)
          · intro ac w' ph hF hPh hlt hP hU K hK0
            have hB : Below W.heap.size W w' := hPh
            have e49 : ac.eval (.tmp 49) = .pointer (some ⟨q, r + 0 * 2, none⟩) := hP 9 (by kernel_rfl)
            exact rop_ld _ _ rfl e49 (load_run ((hB.cell (p := ⟨q, _, none⟩) hq).trans d0) ((hB.cell (p := ⟨q, _, none⟩) hq).trans d1)) (wanted_none rfl) (hK0 _ _ (.inl ⟨rfl, rfl⟩) hPh rfl)
          · intro ac w' ph hF hPh hlt hP hU K hK0
            obtain rfl : ph = 0 := (hlt 0 11 rfl).1 rfl
            have hB : Below W.heap.size W w' := hPh
            have e47 : ac.eval (.tmp 47) = .agg #[.int .i64 x, .int .i64 m] := hP 7 (by kernel_rfl)
            have e50 : ac.eval (.tmp 50) = .agg #[.int .i64 y, .int .i64 n] := hP 10 (by kernel_rfl)
            refine rop_call 35 _ _ rfl #[.agg #[.int .i64 x, .int .i64 m], .agg #[.int .i64 y, .int .i64 n]] (by simp [e47, e50]) (by kernel_rfl) (wanted_none rfl) ?_
            refine (hjo w').mono ?_
            rintro e w2 ⟨rfl, hb⟩
            exact ⟨_, rfl, hK0 _ _ (.inr (.inl ⟨rfl, by decide, hb⟩)) (below_step hB (Nat.le_refl _) hb) rfl⟩
          · intro ac w' ph hF hPh hlt hP hU K hK0
            obtain rfl : ph = 1 := (hlt 1 12 rfl).1 rfl
            have hB : Below W.heap.size W w' := hPh
            have e40 : ac.eval (.tmp 40) = .slice (some ⟨p, o, none⟩) a.length capa := hP 0 (by kernel_rfl)
            have e41 : ac.eval (.tmp 41) = .int .i64 ((a.length : Int) - 1) := hP 1 (by kernel_rfl)
            have e43 : ac.eval (.tmp 43) = .int .i64 (a.length : Int) := hP 3 (by kernel_rfl)
            have e51 : ac.eval (.tmp 51) = .agg #[.int .i64 x, .int .i64 (m + n)] := hP 11 (by kernel_rfl)
            refine rop_call 36 _ _ rfl #[.slice (some ⟨p, o, none⟩) a.length capa, .int .i64 ((a.length : Int) - 1), .int .i64 (a.length : Int), .agg #[.int .i64 x, .int .i64 (m + n)]] (by simp [e40, e41, e43, e51]) (by kernel_rfl) (wanted_none rfl) ?_
            refine (hpu w' hB).mono ?_
            rintro e w2 ⟨v2, rfl, ho2, hb⟩
            exact ⟨_, rfl, hK0 _ _ (.inr (.inl ⟨rfl, by decide, hb⟩)) (below_step hB (Nat.le_refl _) hb) (fun _ => ho2)⟩
          · intro ac w' ph hF hPh hlt hP hU K hK0
            have hB : Below W.heap.size W w' := hPh
            have e1 : ac.eval (.tmp 1) = .slice (some ⟨q, r, none⟩) b.length capb := hF.at 1 (by kernel_rfl)
            exact rop_move _ rfl e1 (wanted_none rfl) (hK0 _ _ (.inl ⟨rfl, rfl⟩) hPh rfl)
          · intro ac w' ph hF hPh hlt hP hU K hK0
            have hB : Below W.heap.size W w' := hPh
            have e53 : ac.eval (.tmp 53) = .slice (some ⟨q, r, none⟩) b.length capb := hP 13 (by kernel_rfl)
            exact rop_slice _ _ _ _ _ rfl e53 rfl rfl rfl ((sliceAt_run _ _ _ _ _).trans (q2 _)) (wanted_none rfl) (hK0 _ _ (.inl ⟨rfl, rfl⟩) hPh rfl)
          · intro ac w' ph hF hPh hlt hP hU K hK0
            obtain rfl : ph = 2 := (hlt 2 15 rfl).1 rfl
            have hB : Below W.heap.size W w' := hPh
            have e52 : 2 ≤ 2 → Own W.heap.size w' (ac.eval (.tmp 52)) L5 := hP 12 (by kernel_rfl)
            have e54 : ac.eval (.tmp 54) = .slice (cutA (some ⟨q, r, none⟩) 1 capb) (b.length - 1) (capb - 1) := hP 14 (by kernel_rfl)
            have ho := e52 (Nat.le_refl _)
            obtain ⟨v6, w6, hr6, ho6, b6⟩ := append_own (B := W.heap.size) 22 ho (htb w' hB) hB.size (by have := hL5; simp; omega)
            exact rop_append _ _ _ rfl rfl e54 hr6 (wanted_none rfl) (hK0 _ _ (.inr (.inr ⟨rfl, rfl⟩)) (hB.trans b6) ⟨rfl, ho6⟩)
          · intro ac w' ph hF hPh hlt hP hU K hK0
            have hB : Below W.heap.size W w' := hPh
            have e55 : ph = 3 ∧ Own W.heap.size w' (ac.eval (.tmp 55)) (L5 ++ b.drop 1) := hP 15 (by kernel_rfl)
            exact rop_assign _ rfl rfl (wanted_none rfl) (hK0 _ _ (.inl ⟨rfl, rfl⟩) hPh e55)
          · intro ac w' hF hPh hT
            have e4 : 3 = 3 ∧ Own W.heap.size w' (ac.eval (.tmp 4)) (L5 ++ b.drop 1) := hT 16 (by decide)
            replace e4 := e4.2
            rw [hF.lit 56 rfl]
            simp only [List.range, List.range.loop, List.map_cons, List.map_nil, hF.at 0 (by kernel_rfl), hF.at 1 (by kernel_rfl), hF.at 2 (by kernel_rfl), hF.at 3 (by kernel_rfl), hF.at 5 (by kernel_rfl), hF.at 6 (by kernel_rfl), hF.at 7 (by kernel_rfl), hF.at 8 (by kernel_rfl), hF.at 9 (by kernel_rfl), hF.at 10 (by kernel_rfl), hF.at 11 (by kernel_rfl), hF.at 12 (by kernel_rfl), hF.at 13 (by kernel_rfl), hF.at 14 (by kernel_rfl), hF.at 15 (by kernel_rfl), hF.at 16 (by kernel_rfl), hF.at 17 (by kernel_rfl), hF.at 18 (by kernel_rfl), hF.at 19 (by kernel_rfl), hF.at 20 (by kernel_rfl), hF.at 21 (by kernel_rfl), hF.at 22 (by kernel_rfl), hF.at 23 (by kernel_rfl), hF.at 24 (by kernel_rfl), hF.at 25 (by kernel_rfl), hF.at 26 (by kernel_rfl), hF.at 27 (by kernel_rfl), hF.at 28 (by kernel_rfl), hF.at 29 (by kernel_rfl), hF.at 30 (by kernel_rfl), hF.at 31 (by kernel_rfl), hF.at 32 (by kernel_rfl), hF.at 33 (by kernel_rfl), hF.at 34 (by kernel_rfl), hF.at 35 (by kernel_rfl), hF.at 36 (by kernel_rfl), hF.at 37 (by kernel_rfl), hF.at 38 (by kernel_rfl), hF.at 39 (by kernel_rfl)]
            generalize ac.eval (.tmp 40) = u40
            generalize ac.eval (.tmp 41) = u41
            generalize ac.eval (.tmp 42) = u42
            generalize ac.eval (.tmp 43) = u43
            generalize ac.eval (.tmp 44) = u44
            generalize ac.eval (.tmp 45) = u45
            generalize ac.eval (.tmp 46) = u46
            generalize ac.eval (.tmp 47) = u47
            generalize ac.eval (.tmp 48) = u48
            generalize ac.eval (.tmp 49) = u49
            generalize ac.eval (.tmp 50) = u50
            generalize ac.eval (.tmp 51) = u51
            generalize ac.eval (.tmp 52) = u52
            generalize ac.eval (.tmp 53) = u53
            generalize ac.eval (.tmp 54) = u54
            generalize ac.eval (.tmp 55) = u55
            generalize ac.eval (.tmp 4) = v4 at e4 ⊢
            simp only [Act.eval, Array.getD_eq_getD_getElem?, List.getElem?_toArray, List.getElem?_cons_succ, List.getElem?_cons_zero, Option.getD_some]
            clear hT hF ac
            have hfin : Below W.heap.size W w' := hPh
            go_wp2
            go_ret
            refine ⟨v4, rfl, ?_, below_step bw (Nat.le_refl _) hfin⟩
            have := e4.runs
            rw [HL5.out, List.drop_eq_nil_of_le (Nat.le_refl _)] at this
            rw [HJ.out, if_pos hne]
            simpa using this
      ·
        try simp only [Act.put]
        refine wp_region_tab [RT.is (.int .i64 ((a.length : Int) - 1)), RT.is (.bool false), RT.is (.bool false), RT.is (.slice (some ⟨q, r, none⟩) b.length capb), RT.is (.int .i64 (b.length : Int)), RT.is (.bool false), RT.is (.bool false), RT.is (.bool false), RT.is (.slice (some ⟨p, o, none⟩) a.length capa), RT.is (.int .i64 ((a.length : Int) - 1)), RT.is (.pointer (some ⟨p, o + kk * 2, none⟩)), RT.is (.agg #[.int .i64 x, .int .i64 m]), RT.is (.int .i64 (x + m)), RT.is (.slice (some ⟨q, r, none⟩) b.length capb), RT.is (.pointer (some ⟨q, r + 0 * 2, none⟩)), RT.is (.pointer (some ⟨q, r + 0 * 2, none⟩)), RT.is (.int .i64 y), RT.is (.bool true), RT.is (.bool true)] (by kernel_rfl) (by kernel_rfl) (by kernel_rfl) (by kernel_rfl) ⟨?_, ?_, ?_, ?_, ?_, ?_, ?_, ?_, ?_, ?_, ?_, ?_, ?_, ?_, ?_, ?_, ?_, ?_, ?_, trivial⟩ ?_
        · intro ac w' hF hL hP hU K hK
          have hB := below_undrew hL
          have e5 : ac.eval (.tmp 5) = .int .i64 ((a.length : Int) - 1) := hF.at 5 (by kernel_rfl)
          exact rop_move _ rfl e5 (wanted_none rfl) (hK _ _ (le8_refl _) rfl)
        · intro ac w' hF hL hP hU K hK
          have hB := below_undrew hL
          have e17 : ac.eval (.tmp 17) = .int .i64 ((a.length : Int) - 1) := hP 0 (by kernel_rfl)
          exact rop_bin _ _ _ _ _ rfl e17 rfl (guard_int _ _ _ _ _ _ _ w') (lss_i _ _ _ (by rw [decide_eq_false_iff_not]; omega) w') (wanted_none rfl) (hK _ _ (le8_refl _) rfl)
        · intro ac w' hF hL hP hU K hK
          have hB := below_undrew hL
          have e18 : ac.eval (.tmp 18) = .bool false := hP 1 (by kernel_rfl)
          exact rop_move _ rfl e18 (wanted_none rfl) (hK _ _ (le8_refl _) rfl)
        · intro ac w' hF hL hP hU K hK
          have hB := below_undrew hL
          have e1 : ac.eval (.tmp 1) = .slice (some ⟨q, r, none⟩) b.length capb := hF.at 1 (by kernel_rfl)
          have e19 : ac.eval (.tmp 19) = .bool false := hP 2 (by kernel_rfl)
          exact rop_move _ rfl e1 (wanted_of (j := 2) (b := false) rfl rfl e19) (hK _ _ (le8_refl _) rfl)
        · intro ac w' hF hL hP hU K hK
          have hB := below_undrew hL
          have e20 : ac.eval (.tmp 20) = .slice (some ⟨q, r, none⟩) b.length capb := hP 3 (by kernel_rfl)
          have e19 : ac.eval (.tmp 19) = .bool false := hP 2 (by kernel_rfl)
          exact rop_len_sl _ rfl e20 (wanted_of (j := 2) (b := false) rfl rfl e19) (hK _ _ (le8_refl _) rfl)
        · intro ac w' hF hL hP hU K hK
          have hB := below_undrew hL
          have e21 : ac.eval (.tmp 21) = .int .i64 (b.length : Int) := hP 4 (by kernel_rfl)
          have e19 : ac.eval (.tmp 19) = .bool false := hP 2 (by kernel_rfl)
          exact rop_bin _ _ _ _ _ rfl e21 rfl (guard_int _ _ _ _ _ _ _ w') (eql_i _ _ _ (by rw [decide_eq_false_iff_not]; omega) w') (wanted_of (j := 2) (b := false) rfl rfl e19) (hK _ _ (le8_refl _) rfl)
        · intro ac w' hF hL hP hU K hK
          have hB := below_undrew hL
          have e19 : ac.eval (.tmp 19) = .bool false := hP 2 (by kernel_rfl)
          have e22 : ac.eval (.tmp 22) = .bool false := hP 5 (by kernel_rfl)
          exact rop_pick _ _ _ rfl false e19 (by simpa using e22) (wanted_none rfl) (hK _ _ (le8_refl _) rfl)
        · intro ac w' hF hL hP hU K hK
          have hB := below_undrew hL
          have e23 : ac.eval (.tmp 23) = .bool false := hP 6 (by kernel_rfl)
          exact rop_move _ rfl e23 (wanted_none rfl) (hK _ _ (le8_refl _) rfl)
        · intro ac w' hF hL hP hU K hK
          have hB := below_undrew hL
          have e0 : ac.eval (.tmp 0) = .slice (some ⟨p, o, none⟩) a.length capa := hF.at 0 (by kernel_rfl)
          have e24 : ac.eval (.tmp 24) = .bool false := hP 7 (by kernel_rfl)
          exact rop_move _ rfl e0 (wanted_of (j := 7) (b := false) rfl rfl e24) (hK _ _ (le8_refl _) rfl)
        · intro ac w' hF hL hP hU K hK
          have hB := below_undrew hL
          have e5 : ac.eval (.tmp 5) = .int .i64 ((a.length : Int) - 1) := hF.at 5 (by kernel_rfl)
          have e24 : ac.eval (.tmp 24) = .bool false := hP 7 (by kernel_rfl)
          exact rop_move _ rfl e5 (wanted_of (j := 7) (b := false) rfl rfl e24) (hK _ _ (le8_refl _) rfl)
        · intro ac w' hF hL hP hU K hK
          have hB := below_undrew hL
          have e25 : ac.eval (.tmp 25) = .slice (some ⟨p, o, none⟩) a.length capa := hP 8 (by kernel_rfl)
          have e26 : ac.eval (.tmp 26) = .int .i64 ((a.length : Int) - 1) := hP 9 (by kernel_rfl)
          have e24 : ac.eval (.tmp 24) = .bool false := hP 7 (by kernel_rfl)
          exact rop_idx _ _ _ rfl e25 e26 (hix _) (wanted_of (j := 7) (b := false) rfl rfl e24) (hK _ _ (le8_refl _) rfl)
        · intro ac w' hF hL hP hU K hK
          have hB := below_undrew hL
          have e27 : ac.eval (.tmp 27) = .pointer (some ⟨p, o + kk * 2, none⟩) := hP 10 (by kernel_rfl)
          have e24 : ac.eval (.tmp 24) = .bool false := hP 7 (by kernel_rfl)
          exact rop_ld _ _ rfl e27 (load_run ((hB.cell (p := ⟨p, _, none⟩) hp).trans c0) ((hB.cell (p := ⟨p, _, none⟩) hp).trans c1)) (wanted_of (j := 7) (b := false) rfl rfl e24) (hK _ _ (le8_refl _) rfl)
        · intro ac w' hF hL hP hU K hK
          have hB := below_undrew hL
          have e28 : ac.eval (.tmp 28) = .agg #[.int .i64 x, .int .i64 m] := hP 11 (by kernel_rfl)
          have e24 : ac.eval (.tmp 24) = .bool false := hP 7 (by kernel_rfl)
          refine rop_call 39 _ _ rfl #[.agg #[.int .i64 x, .int .i64 m]] (by simp [e28]) (by kernel_rfl) (wanted_of (j := 7) (b := false) rfl rfl e24) ?_
          refine (behind_any x m w' s1 s2 s3).mono ?_
          rintro e w2 ⟨rfl, hb⟩
          exact ⟨_, rfl, hK _ _ hb rfl⟩
        · intro ac w' hF hL hP hU K hK
          have hB := below_undrew hL
          have e1 : ac.eval (.tmp 1) = .slice (some ⟨q, r, none⟩) b.length capb := hF.at 1 (by kernel_rfl)
          have e24 : ac.eval (.tmp 24) = .bool false := hP 7 (by kernel_rfl)
          exact rop_move _ rfl e1 (wanted_of (j := 7) (b := false) rfl rfl e24) (hK _ _ (le8_refl _) rfl)
        · intro ac w' hF hL hP hU K hK
          have hB := below_undrew hL
          have e30 : ac.eval (.tmp 30) = .slice (some ⟨q, r, none⟩) b.length capb := hP 13 (by kernel_rfl)
          have e24 : ac.eval (.tmp 24) = .bool false := hP 7 (by kernel_rfl)
          exact rop_idx _ _ _ rfl e30 rfl (hiy _) (wanted_of (j := 7) (b := false) rfl rfl e24) (hK _ _ (le8_refl _) rfl)
        · intro ac w' hF hL hP hU K hK
          have hB := below_undrew hL
          have e31 : ac.eval (.tmp 31) = .pointer (some ⟨q, r + 0 * 2, none⟩) := hP 14 (by kernel_rfl)
          have e24 : ac.eval (.tmp 24) = .bool false := hP 7 (by kernel_rfl)
          exact rop_fld _ _ _ rfl e31 (fld_run0 _ _ _) (wanted_of (j := 7) (b := false) rfl rfl e24) (hK _ _ (le8_refl _) rfl)
        · intro ac w' hF hL hP hU K hK
          have hB := below_undrew hL
          have e32 : ac.eval (.tmp 32) = .pointer (some ⟨q, r + 0 * 2, none⟩) := hP 15 (by kernel_rfl)
          have e24 : ac.eval (.tmp 24) = .bool false := hP 7 (by kernel_rfl)
          exact rop_ld _ _ rfl e32 (load_int ((hB.cell (p := ⟨q, _, none⟩) hq).trans d0)) (wanted_of (j := 7) (b := false) rfl rfl e24) (hK _ _ (le8_refl _) rfl)
        · intro ac w' hF hL hP hU K hK
          have hB := below_undrew hL
          have e29 : ac.eval (.tmp 29) = .int .i64 (x + m) := hP 12 (by kernel_rfl)
          have e33 : ac.eval (.tmp 33) = .int .i64 y := hP 16 (by kernel_rfl)
          have e24 : ac.eval (.tmp 24) = .bool false := hP 7 (by kernel_rfl)
          exact rop_bin _ _ _ _ _ rfl e29 e33 (guard_int _ _ _ _ _ _ _ w') (neq_i _ _ _ (by rw [decide_eq_true_iff]; omega) w') (wanted_of (j := 7) (b := false) rfl rfl e24) (hK _ _ (le8_refl _) rfl)
        · intro ac w' hF hL hP hU K hK
          have hB := below_undrew hL
          have e24 : ac.eval (.tmp 24) = .bool false := hP 7 (by kernel_rfl)
          have e34 : ac.eval (.tmp 34) = .bool true := hP 17 (by kernel_rfl)
          exact rop_pick _ _ _ rfl false e24 (by simpa using e34) (wanted_none rfl) (hK _ _ (le8_refl _) rfl)
        · intro ac w' hF hB hT
          have e35 : ac.eval (.tmp 35) = .bool true := hT 18 (by decide)
          rw [hF.lit 56 rfl]
          simp only [List.range, List.range.loop, List.map_cons, List.map_nil, e35, hF.at 0 (by kernel_rfl), hF.at 1 (by kernel_rfl), hF.at 2 (by kernel_rfl), hF.at 3 (by kernel_rfl), hF.at 4 (by kernel_rfl), hF.at 5 (by kernel_rfl), hF.at 6 (by kernel_rfl), hF.at 7 (by kernel_rfl), hF.at 8 (by kernel_rfl), hF.at 9 (by kernel_rfl), hF.at 10 (by kernel_rfl), hF.at 11 (by kernel_rfl), hF.at 12 (by kernel_rfl), hF.at 13 (by kernel_rfl), hF.at 14 (by kernel_rfl), hF.at 15 (by kernel_rfl), hF.at 16 (by kernel_rfl), hF.at 36 (by kernel_rfl), hF.at 37 (by kernel_rfl), hF.at 38 (by kernel_rfl), hF.at 39 (by kernel_rfl), hF.at 40 (by kernel_rfl), hF.at 41 (by kernel_rfl), hF.at 42 (by kernel_rfl), hF.at 43 (by kernel_rfl), hF.at 44 (by kernel_rfl), hF.at 45 (by kernel_rfl), hF.at 46 (by kernel_rfl), hF.at 47 (by kernel_rfl), hF.at 48 (by kernel_rfl), hF.at 49 (by kernel_rfl), hF.at 50 (by kernel_rfl), hF.at 51 (by kernel_rfl), hF.at 52 (by kernel_rfl), hF.at 53 (by kernel_rfl), hF.at 54 (by kernel_rfl), hF.at 55 (by kernel_rfl)]
          generalize ac.eval (.tmp 17) = u17
          generalize ac.eval (.tmp 18) = u18
          generalize ac.eval (.tmp 19) = u19
          generalize ac.eval (.tmp 20) = u20
          generalize ac.eval (.tmp 21) = u21
          generalize ac.eval (.tmp 22) = u22
          generalize ac.eval (.tmp 23) = u23
          generalize ac.eval (.tmp 24) = u24
          generalize ac.eval (.tmp 25) = u25
          generalize ac.eval (.tmp 26) = u26
          generalize ac.eval (.tmp 27) = u27
          generalize ac.eval (.tmp 28) = u28
          generalize ac.eval (.tmp 29) = u29
          generalize ac.eval (.tmp 30) = u30
          generalize ac.eval (.tmp 31) = u31
          generalize ac.eval (.tmp 32) = u32
          generalize ac.eval (.tmp 33) = u33
          generalize ac.eval (.tmp 34) = u34
          simp only [Act.eval, Array.getD_eq_getD_getElem?, List.getElem?_toArray, List.getElem?_cons_succ, List.getElem?_cons_zero, Option.getD_some]
          clear e35 hT hF ac
          have hc := hcon w' hB
          go_wp2_with (go_at_call 40; refine hc.mono ?_; rintro e w4 ⟨v4, rfl, h4, b4⟩)
          go_ret
          refine ⟨v4, rfl, ?_, below_step bw (Nat.le_refl _) b4⟩
          rw [HJ.out, if_neg hne]
          have hbb : a.take kk ++ (x, m) :: b = a ++ b := by
            have := congrArg (· ++ b) HL.out
            simpa using this
          rw [hbb]
          exact h4
end Go.Proofs.Ytlbnopfbfnobnaa
