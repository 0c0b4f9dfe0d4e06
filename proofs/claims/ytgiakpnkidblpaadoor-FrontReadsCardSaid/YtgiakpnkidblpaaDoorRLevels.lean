/-
  The document's own Levels and Same (scriniumref09).
-/
import Derived.Test.YtgiakpnkidblpaaDoorLeafLevels
import Derived.Test.YtgiakpnkidblpaaDoorShaEq
namespace Go.Proofs.YtgiakpnkidblpaaDoor
open Go.RowKit

theorem index_sumsI (b o n cap k : Nat) (K : Int) (hK : K = (k : Int)) (h : k < n) (w : World) : (Instr.indexAt 22 (.slice (some ⟨b, o, none⟩) n cap) (.int .i64 K)).run Tryd.prog w = .ok (.pointer (some ⟨b, o + k * 32, none⟩)) w := by
  subst hK
  exact index_sums b o n cap k h w
/-- Ahead of the pair at i. -/
def RUpRel (B : Nat) (w : World) (cur : Hs) (s5 s6 : Value) (wr : World) : Prop :=
  ∃ j i : Nat, i = 2 * j ∧ s6 = .int .i64 (i : Int) ∧ i ≤ cur.length + 1 ∧ OwnS B wr s5 (Tree.up (cur.take i)) ∧ Below B w wr
/-- Ahead of a row that is to be made. -/
def RLvRel (B : Nat) (w : World) (l : Hs) (s3 s4 : Value) (wr : World) : Prop :=
  ∃ (vs : List Value) (ls : List Hs) (cur : Hs), RowsAt B wr s4 (vs ++ [s3]) (ls ++ [cur]) ∧ Tree.levels l = ls ++ Tree.levels cur ∧ ls.length + cur.length ≤ 1000 ∧ Below B w wr
/-- Ahead of element i. -/
def SameRel (l r : Hs) (s5 : Value) : Prop := ∃ i : Nat, s5 = .int .i64 (i : Int) ∧ i ≤ l.length ∧ l.take i = r.take i
set_option maxHeartbeats 3200000 in
set_option maxRecDepth 100000 in
theorem same_any (va vb : Value) (l r : Hs) (w : World) (ha : Sums w va l) (hb : Sums w vb r) (hn : l.length ≤ 1000) :
    Calls Tryd.prog 13 #[va, vb] w fun e w' => e = .returned (.bool (decide (l = r))) ∧ Below w.heap.size w w' := by
  obtain ⟨aa, ca, rfl, _, _⟩ := ha.slice
  obtain ⟨ab, cb, rfl, _, hcb⟩ := hb.slice
  by_cases hl : l.length = r.length
  · obtain ⟨m, hm⟩ : ∃ m, m = l.length := ⟨_, rfl⟩
    rw [← hl]
    rw [← hl] at hb
    rw [← hm] at ha hb ⊢
    have Hm := Lib.hid hm
    have Hl := Lib.hid hl
    have HA := Lib.hid ha
    have HBb := Lib.hid hb
    have hm9 : m ≤ 1000 := by omega
    clear hl hm ha hb hn
    go_enter Tryd.func13, Tryd.ntmps13
    go_wp2
    go_loopw [5] (fun s5 wr => SameRel l r s5 ∧ Below w.heap.size w wr) (fun s5 _ => m - (intOf s5).toNat)
    case atStart => exact ⟨⟨0, rfl, by omega, by simp⟩, Below.refl _ _⟩
    case round =>
      obtain ⟨⟨i, rfl, hi, hpre⟩, hbel⟩ := hrel
      have Hpre := Lib.hid hpre
      clear hpre
      by_cases hlt : i < m
      · have hlt' : (i : Int) < (m : Int) := by omega
        have hw1 := IntWalk.i64_in ((i : Int) + 1) (by omega)
        have hli : i < l.length := by rw [← Hm.out]; exact hlt
        have hri : i < r.length := by rw [← Hl.out]; exact hli
        obtain ⟨b, off, rfl, hb1, -, rx⟩ := (HA.out.old hbel).at i hli
        obtain ⟨b2, off2, rfl, hb2, -, ry⟩ := (HBb.out.old hbel).at i hri
        obtain ⟨x, hx⟩ : ∃ x, x = l[i] := ⟨_, rfl⟩
        obtain ⟨y, hy⟩ : ∃ y, y = r[i] := ⟨_, rfl⟩
        have hxl : x.length = 32 := by rw [hx]; exact HA.out.ok _ (List.getElem_mem _)
        have hyl : y.length = 32 := by rw [hy]; exact HBb.out.ok _ (List.getElem_mem _)
        rw [← hx] at rx
        rw [← hy] at ry
        have HX := Lib.hid hxl
        have HY := Lib.hid hyl
        have hne : x ≠ y → l ≠ r := fun h e => h (by rw [hx, hy]; subst e; rfl)
        have hnx : x = y → l.take (i + 1) = r.take (i + 1) := fun h => by
          rw [List.take_succ_eq_append_getElem hli, List.take_succ_eq_append_getElem hri, ← hx, ← hy, h, Hpre.out]
        have HNe := Lib.hid hne
        have HNx := Lib.hid hnx
        clear hx hy hxl hyl hne hnx
        go_wp2
        try simp only [Act.put]
        refine wp_region_tab [RT.is (.slice (some ⟨b, off, none⟩) m ca), RT.is (.int .i64 (i : Int)), RT.is (.pointer (some ⟨b, off + i * 32, none⟩)), RT.is (sumV x), RT.is (.slice (some ⟨b2, off2, none⟩) m cb), RT.is (.int .i64 (i : Int)), RT.is (.pointer (some ⟨b2, off2 + i * 32, none⟩)), RT.is (sumV y), RT.is (.bool (!decide (x = y)))] (by kernel_rfl) (by kernel_rfl) (by kernel_rfl) (by kernel_rfl) ⟨?_, ?_, ?_, ?_, ?_, ?_, ?_, ?_, ?_, trivial⟩ ?_
        · intro ac w' hF hL hP hU K hK
          have hB := below_undrew hL
          have e0 : ac.eval (.tmp 0) = .slice (some ⟨b, off, none⟩) m ca := hF.at 0 (by kernel_rfl)
          exact rop_move _ rfl e0 (wanted_none rfl) (hK _ _ (le8_refl _) rfl)
        · intro ac w' hF hL hP hU K hK
          have hB := below_undrew hL
          have e5 : ac.eval (.tmp 5) = .int .i64 (i : Int) := hF.at 5 (by kernel_rfl)
          exact rop_move _ rfl e5 (wanted_none rfl) (hK _ _ (le8_refl _) rfl)
        · intro ac w' hF hL hP hU K hK
          have hB := below_undrew hL
          have e17 : ac.eval (.tmp 17) = .slice (some ⟨b, off, none⟩) m ca := hP 0 (by kernel_rfl)
          have e18 : ac.eval (.tmp 18) = .int .i64 (i : Int) := hP 1 (by kernel_rfl)
          exact rop_idx _ _ _ rfl e17 e18 (index_sumsI b off m ca i _ rfl (by omega) w') (wanted_none rfl) (hK _ _ (le8_refl _) rfl)
        · intro ac w' hF hL hP hU K hK
          have hB := below_undrew hL
          have e19 : ac.eval (.tmp 19) = .pointer (some ⟨b, off + i * 32, none⟩) := hP 2 (by kernel_rfl)
          exact rop_ld _ _ rfl e19 (run_loadAt_mid _ _ _ _ _ _ (below_range hB hb1 rx) Tryd.underlying31 rfl (sum_info' HX.out)) (wanted_none rfl) (hK _ _ (le8_refl _) rfl)
        · intro ac w' hF hL hP hU K hK
          have hB := below_undrew hL
          have e1 : ac.eval (.tmp 1) = .slice (some ⟨b2, off2, none⟩) m cb := hF.at 1 (by kernel_rfl)
          exact rop_move _ rfl e1 (wanted_none rfl) (hK _ _ (le8_refl _) rfl)
        · intro ac w' hF hL hP hU K hK
          have hB := below_undrew hL
          have e5 : ac.eval (.tmp 5) = .int .i64 (i : Int) := hF.at 5 (by kernel_rfl)
          exact rop_move _ rfl e5 (wanted_none rfl) (hK _ _ (le8_refl _) rfl)
        · intro ac w' hF hL hP hU K hK
          have hB := below_undrew hL
          have e21 : ac.eval (.tmp 21) = .slice (some ⟨b2, off2, none⟩) m cb := hP 4 (by kernel_rfl)
          have e22 : ac.eval (.tmp 22) = .int .i64 (i : Int) := hP 5 (by kernel_rfl)
          exact rop_idx _ _ _ rfl e21 e22 (index_sumsI b2 off2 m cb i _ rfl (by omega) w') (wanted_none rfl) (hK _ _ (le8_refl _) rfl)
        · intro ac w' hF hL hP hU K hK
          have hB := below_undrew hL
          have e23 : ac.eval (.tmp 23) = .pointer (some ⟨b2, off2 + i * 32, none⟩) := hP 6 (by kernel_rfl)
          exact rop_ld _ _ rfl e23 (run_loadAt_mid _ _ _ _ _ _ (below_range hB hb2 ry) Tryd.underlying31 rfl (sum_info' HY.out)) (wanted_none rfl) (hK _ _ (le8_refl _) rfl)
        · intro ac w' hF hL hP hU K hK
          have hB := below_undrew hL
          have e20 : ac.eval (.tmp 20) = sumV x := hP 3 (by kernel_rfl)
          have e24 : ac.eval (.tmp 24) = sumV y := hP 7 (by kernel_rfl)
          exact rop_bin _ _ _ _ _ rfl e20 e24 (guard_run _ _ _ _ _ _) (neq_sum x y HX.out HY.out w') (wanted_none rfl) (hK _ _ (le8_refl _) rfl)
        · intro ac w' hF hB hT
          have e25 : ac.eval (.tmp 25) = .bool (!decide (x = y)) := hT 8 (by decide)
          rw [hF.setsG [17, 18, 19, 20, 21, 22, 23, 24, 25] (by kernel_rfl)]
          simp only [List.foldl_cons, List.foldl_nil, List.setIfInBounds_toArray, List.set_cons_succ, List.set_cons_zero, e25]
          generalize ac.eval (.tmp 17) = u17
          generalize ac.eval (.tmp 18) = u18
          generalize ac.eval (.tmp 19) = u19
          generalize ac.eval (.tmp 20) = u20
          generalize ac.eval (.tmp 21) = u21
          generalize ac.eval (.tmp 22) = u22
          generalize ac.eval (.tmp 23) = u23
          generalize ac.eval (.tmp 24) = u24
          clear e25 hT hF ac
          have hB2 := hB
          have hbw : Below w.heap.size w w' := below_step hbel (Nat.le_refl _) hB2
          clear hB
          by_cases hxy : x = y
          · have hd : decide (x = y) = true := decide_eq_true hxy
            have HXY := Lib.hid hxy
            rw [hd]
            clear hxy hd
            go_wp2
            exact ⟨⟨⟨i + 1, by simp, by omega, HNx.out HXY.out⟩, hbw⟩, by simp [intOf]; omega⟩
          · have hd : decide (x = y) = false := decide_eq_false hxy
            have hlr : decide (l = r) = false := decide_eq_false (HNe.out hxy)
            rw [hd]
            have HLR := Lib.hid hlr
            clear hxy hd hlr
            go_wp2
            go_ret
            exact ⟨by rw [HLR.out]; rfl, hbw⟩
      · have hlt' : ¬ (i : Int) < (m : Int) := by omega
        have hlr : decide (l = r) = true := decide_eq_true (by
          have := Hpre.out
          rwa [List.take_of_length_le (by rw [← Hm.out]; omega), List.take_of_length_le (by rw [← Hl.out, ← Hm.out]; omega)] at this)
        have HLR := Lib.hid hlr
        clear hlr
        go_wp2
        go_ret
        exact ⟨by rw [HLR.out]; rfl, hbel⟩
  · have hlr : decide (l = r) = false := decide_eq_false fun e => hl (by rw [e])
    have HLR := Lib.hid hlr
    have hl' : ¬ (l.length : Int) = (r.length : Int) := by omega
    clear hlr ha hb
    go_enter Tryd.func13, Tryd.ntmps13
    go_wp2
    go_ret
    exact ⟨by rw [HLR.out]; rfl, Below.refl _ _⟩
end Go.Proofs.YtgiakpnkidblpaaDoor
