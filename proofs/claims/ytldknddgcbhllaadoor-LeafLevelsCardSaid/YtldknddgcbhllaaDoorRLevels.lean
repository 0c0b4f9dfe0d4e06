/-
  The document's own Levels and Same (scriniumref09).
-/
import Derived.Test.YtldknddgcbhllaaDoorLeafLevels
import Derived.Test.YtldknddgcbhllaaDoorShaEq
namespace Go.Proofs.YtldknddgcbhllaaDoor
open Go.RowKit

theorem index_sumsI (b o n cap k : Nat) (K : Int) (hK : K = (k : Int)) (h : k < n) (w : World) : (Instr.indexAt 29 (.slice (some ⟨b, o, none⟩) n cap) (.int .i64 K)).run Tryd.prog w = .ok (.pointer (some ⟨b, o + k * 32, none⟩)) w := by
  subst hK
  exact index_sums b o n cap k h w
/-- Ahead of the pair at i. -/
def RUpRel (B : Nat) (w : World) (cur : Hs) (s5 s6 : Value) (wr : World) : Prop :=
  ∃ j i : Nat, i = 2 * j ∧ s6 = .int .i64 (i : Int) ∧ i ≤ cur.length + 1 ∧ OwnS B wr s5 (Tree.up (cur.take i)) ∧ Below B w wr
/-- Ahead of a row that is to be made. -/
def RLvRel (B : Nat) (w : World) (l : Hs) (s3 s4 : Value) (wr : World) : Prop :=
  ∃ (vs : List Value) (ls : List Hs) (cur : Hs), RowsAt B wr s4 (vs ++ [s3]) (ls ++ [cur]) ∧ Tree.levels l = ls ++ Tree.levels cur ∧ ls.length + cur.length ≤ 1000 ∧ Below B w wr
set_option maxHeartbeats 6400000 in
set_option maxRecDepth 100000 in
theorem rlevels_any (v : Value) (l : Hs) (w : World) (hv : Sums w v l) (hn : l.length ≤ 1000) :
    Calls Tryd.prog 23 #[v] w fun e w' => ∃ v' vs, e = .returned v' ∧ RowsAt w.heap.size w' v' vs (Tree.levels l) ∧ Below w.heap.size w w' := by
  obtain ⟨a0, c0, rfl, _, _⟩ := hv.slice
  obtain ⟨B0, hBw⟩ : ∃ B, B = w.heap.size := ⟨_, rfl⟩
  obtain ⟨v1, w1, hr1, ho1, b1⟩ := sappend_own (B := w.heap.size) 29 (OwnS.nil w.heap.size w) hv (Nat.le_refl _) (by simp; omega)
  rw [List.nil_append] at ho1
  rw [← hBw] at ho1 b1 ⊢
  have HBw := Lib.hid hBw
  have HR1 := Lib.hid hr1
  have hBW0 := HBw.out ▸ b1.size
  obtain ⟨a1, c1, rfl, _, _⟩ := ho1.sums.slice
  have hone := RowsAt.one ho1 hBW0
  have bb := b1.trans (((Below.refl w1.heap.size w1).alloc (Nat.le_refl _) (.cells #[.slice a1 l.length c1] 29)).mono hBW0)
  have HO := Lib.hid hone
  clear hr1 ho1 hone hBw
  go_enter Tryd.func23, Tryd.ntmps23
  go_wp2_with (at_builtin; refine Lib.wpList_append_run _ rfl _ _ _ _ rfl _ _ rfl rfl _ _ HR1.out ?_)
  go_loopw [3, 4] (RLvRel B0 w l) (fun s3 _ _ => lenV s3)
  case atStart => exact ⟨[], [], l, HO.out, rfl, by simpa using hn, bb⟩
  case round =>
    obtain ⟨wo, hwo⟩ : ∃ wo, wo = wr := ⟨_, rfl⟩
    subst hwo
    obtain ⟨vs, ls, cur, hR, hlv, hlen, hbel⟩ := hrel
    have hbw := HBw.out ▸ hbel.size
    have hs := hR.last.sums
    obtain ⟨m, hm⟩ : ∃ m, m = cur.length := ⟨_, rfl⟩
    obtain ⟨a, cap, rfl, _, _⟩ := hs.slice
    have hvl := hR.len
    simp at hvl
    rw [← hm] at hR hs ⊢
    have Hm := Lib.hid hm
    by_cases h1 : m ≤ 1
    · have hd : Tree.levels l = ls ++ [cur] := by rw [hlv, Tree.levels_small (by omega)]
      rw [← hd] at hR
      have HR := Lib.hid hR
      have h1' : ¬ 1 < (m : Int) := by omega
      clear hd hlv hR hs hvl hm
      go_wp2
      go_ret
      first | exact ⟨_, _, rfl, HR.out, hbel⟩ | exact ⟨_, rfl, ⟨_, HR.out⟩, hbel⟩
    · have h1' : 1 < (m : Int) := by omega
      have hm9 : m ≤ 1000 := by omega
      have hd : Tree.levels l = (ls ++ [cur]) ++ Tree.levels (Tree.up cur) := by rw [hlv, Tree.levels_go (by omega)]; simp
      have hul := Tree.up_length cur
      obtain ⟨b, off, rfl, hb, -, -⟩ := hs.at 0 (by omega)
      have HR := Lib.hid hR
      have Hd := Lib.hid hd
      have Hul := Lib.hid hul
      have Hvl := Lib.hid hvl
      have HS := Lib.hid hs
      obtain ⟨B, hB⟩ : ∃ B, B = wo.heap.size := ⟨_, rfl⟩
      have HB := Lib.hid hB
      have Hlen := Lib.hid hlen
      have Hbel := Lib.hid hbel
      clear hd hlv hR hs hvl hul h1 hm hB hlen hbel
      go_wp2
      go_loopw [5, 6] (RUpRel B wo cur) (fun _ s6 _ => m + 1 - (intOf s6).toNat)
      case atStart => exact ⟨0, 0, rfl, rfl, by omega, OwnS.nil _ _, Below.refl _ _⟩
      case round =>
        obtain ⟨j, i, hij, rfl, hi, ho, hbi⟩ := hrel
        have hBI := HB.out ▸ hbi.size
        by_cases hlt : i < m
        · have hlt' : (i : Int) < (m : Int) := by omega
          have hw1 := IntWalk.i64_in ((i : Int) + 1) (by omega)
          have hw2 := IntWalk.i64_in ((i : Int) + 2) (by omega)
          obtain ⟨_, _, hbe, -, -, rx⟩ := HS.out.at i (by rw [← Hm.out]; exact hlt)
          injection hbe with hbe
          injection hbe with e1 e2 _
          subst e1 e2
          obtain ⟨x, hx⟩ : ∃ x, x = cur[i]'(by rw [← Hm.out]; exact hlt) := ⟨_, rfl⟩
          have hxl : x.length = 32 := by rw [hx]; exact HS.out.ok _ (List.getElem_mem _)
          rw [← hx] at rx
          replace rx := below_range' hbi (by rw [HB.out]; exact hb) rx
          have hbb : b < wr.heap.size := Nat.lt_of_lt_of_le (by rw [HB.out]; exact hb) hBI
          have HX := Lib.hid hxl
          by_cases h2 : i + 1 < m
          · have h2' : (i : Int) + 1 < (m : Int) := by omega
            obtain ⟨_, _, hbe, -, -, ry⟩ := HS.out.at (i + 1) (by rw [← Hm.out]; exact h2)
            injection hbe with hbe
            injection hbe with e1 e2 _
            subst e1 e2
            obtain ⟨y, hy⟩ : ∃ y, y = cur[i + 1]'(by rw [← Hm.out]; exact h2) := ⟨_, rfl⟩
            have hyl : y.length = 32 := by rw [hy]; exact HS.out.ok _ (List.getElem_mem _)
            rw [← hy] at ry
            replace ry := below_range' hbi (by rw [HB.out]; exact hb) ry
            have HY := Lib.hid hyl
            obtain ⟨D, hD⟩ : ∃ D, D = Tree.node x y := ⟨_, rfl⟩
            have hDl : D.length = 32 := by rw [hD]; exact Tree.node_length _ _
            have HDl := Lib.hid hDl
            have hup : Tree.up (cur.take (i + 2)) = Tree.up (cur.take i) ++ [D] := by
              have := up_step2 cur j (by rw [← Hm.out]; omega)
              rw [show 2 * (j + 1) = i + 2 by omega] at this
              rw [this, hD, hx, hy]
              subst hij
              rfl
            have Hup := Lib.hid hup
            have HN : Hid (∀ u : World, Calls Tryd.prog 14 #[sumV x, sumV y] u fun e w' => e = .returned (sumV D) ∧ Below u.heap.size u w') := Lib.hid fun u => by
              rw [hD]
              exact rleafNode_any x y hxl hyl u
            obtain ⟨L, hL⟩ : ∃ L, L = Tree.up (cur.take i) := ⟨_, rfl⟩
            rw [← hL] at ho
            have HL := Lib.hid hL
            have HLl : Hid (L.length ≤ 1000) := Lib.hid (by rw [hL, Tree.up_length, List.length_take]; omega)
            have HO := Lib.hid ho
            have Hij := Lib.hid hij
            obtain ⟨W, hW⟩ : ∃ W, W = wr := ⟨_, rfl⟩
            subst hW
            have hBW : B ≤ W.heap.size := hBI
            clear ho hup hx hxl hy hyl hD hDl hL hij
            go_wp2
            try simp only [Act.put]
            refine wp_region_ph (Lx := GLx 3) [RXP.is (u5), RXP.is (.slice (some ⟨b, off, none⟩) m cap), RXP.is (.int .i64 (i : Int)), RXP.is (.pointer (some ⟨b, off + i * 32, none⟩)), RXP.is (sumV x), RXP.is (.slice (some ⟨b, off, none⟩) m cap), RXP.is (.int .i64 (i : Int)), RXP.is (.int .i64 ((i : Int) + 1)), RXP.is (.pointer (some ⟨b, off + (i + 1) * 32, none⟩)), RXP.is (sumV y), RXP.is (sumV D), RXP.till (fun v w => Sums w v [D]) (fun _ _ _ h k => h.old k), RXP.behind (fun v w => OwnS B w v (L ++ [D])), RXP.behind (fun v w => OwnS B w v (L ++ [D]))] [10, 11, 12] (fun k w' => Below B W w' ∧ (k < 3 → Below W.heap.size W w')) (by kernel_rfl) (by kernel_rfl) (by kernel_rfl) (by kernel_rfl) (by kernel_rfl) (⟨below_drew (Below.refl _ _), fun _ => below_drew (Below.refl _ _)⟩) ⟨?_, ?_, ?_, ?_, ?_, ?_, ?_, ?_, ?_, ?_, ?_, ?_, ?_, ?_, trivial⟩ ?_
            · intro ac w' ph hF hPh hlt hP hU K hK0
              have e5 : ac.eval (.tmp 5) = u5 := by
                have hu := hU 13 5 (by kernel_rfl) rfl
                simp [Act.eval, hu]
              exact rop_move _ rfl e5 (wanted_none rfl) (hK0 _ _ GLx.same hPh rfl)
            · intro ac w' ph hF hPh hlt hP hU K hK0
              have e3 : ac.eval (.tmp 3) = .slice (some ⟨b, off, none⟩) m cap := hF.at 3 (by kernel_rfl)
              exact rop_move _ rfl e3 (wanted_none rfl) (hK0 _ _ GLx.same hPh rfl)
            · intro ac w' ph hF hPh hlt hP hU K hK0
              have e6 : ac.eval (.tmp 6) = .int .i64 (i : Int) := hF.at 6 (by kernel_rfl)
              exact rop_move _ rfl e6 (wanted_none rfl) (hK0 _ _ GLx.same hPh rfl)
            · intro ac w' ph hF hPh hlt hP hU K hK0
              have e27 : ac.eval (.tmp 27) = .slice (some ⟨b, off, none⟩) m cap := hP 1 (by kernel_rfl)
              have e28 : ac.eval (.tmp 28) = .int .i64 (i : Int) := hP 2 (by kernel_rfl)
              exact rop_idx _ _ _ rfl e27 e28 (index_sumsI b off m cap i _ rfl (by omega) w') (wanted_none rfl) (hK0 _ _ GLx.same hPh rfl)
            · intro ac w' ph hF hPh hlt hP hU K hK0
              have hph : ph ≤ 0 := (hlt 0 10 rfl).2 (by kernel_rfl)
              have e29 : ac.eval (.tmp 29) = .pointer (some ⟨b, off + i * 32, none⟩) := hP 3 (by kernel_rfl)
              have hB : Below W.heap.size W w' := hPh.2 (by omega)
              exact rop_ld _ _ rfl e29 (run_loadAt_mid _ _ _ _ _ _ (below_range hB hbb rx) Tryd.underlying23 rfl (sum_info' HX.out)) (wanted_none rfl) (hK0 _ _ GLx.same hPh rfl)
            · intro ac w' ph hF hPh hlt hP hU K hK0
              have e3 : ac.eval (.tmp 3) = .slice (some ⟨b, off, none⟩) m cap := hF.at 3 (by kernel_rfl)
              exact rop_move _ rfl e3 (wanted_none rfl) (hK0 _ _ GLx.same hPh rfl)
            · intro ac w' ph hF hPh hlt hP hU K hK0
              have e6 : ac.eval (.tmp 6) = .int .i64 (i : Int) := hF.at 6 (by kernel_rfl)
              exact rop_move _ rfl e6 (wanted_none rfl) (hK0 _ _ GLx.same hPh rfl)
            · intro ac w' ph hF hPh hlt hP hU K hK0
              have e32 : ac.eval (.tmp 32) = .int .i64 (i : Int) := hP 6 (by kernel_rfl)
              exact rop_bin _ _ _ _ _ rfl e32 rfl (guard_int _ _ _ _ _ _ _ w') (add_int _ _ _ (rfl) (by omega) w') (wanted_none rfl) (hK0 _ _ GLx.same hPh rfl)
            · intro ac w' ph hF hPh hlt hP hU K hK0
              have e31 : ac.eval (.tmp 31) = .slice (some ⟨b, off, none⟩) m cap := hP 5 (by kernel_rfl)
              have e33 : ac.eval (.tmp 33) = .int .i64 ((i : Int) + 1) := hP 7 (by kernel_rfl)
              exact rop_idx _ _ _ rfl e31 e33 (index_sumsI b off m cap (i + 1) _ (by simp) (by omega) w') (wanted_none rfl) (hK0 _ _ GLx.same hPh rfl)
            · intro ac w' ph hF hPh hlt hP hU K hK0
              have hph : ph ≤ 0 := (hlt 0 10 rfl).2 (by kernel_rfl)
              have e34 : ac.eval (.tmp 34) = .pointer (some ⟨b, off + (i + 1) * 32, none⟩) := hP 8 (by kernel_rfl)
              have hB : Below W.heap.size W w' := hPh.2 (by omega)
              exact rop_ld _ _ rfl e34 (run_loadAt_mid _ _ _ _ _ _ (below_range hB hbb ry) Tryd.underlying23 rfl (sum_info' HY.out)) (wanted_none rfl) (hK0 _ _ GLx.same hPh rfl)
            · intro ac w' ph hF hPh hlt hP hU K hK0
              obtain rfl : ph = 0 := (hlt 0 10 rfl).1 rfl
              have e30 : ac.eval (.tmp 30) = sumV x := hP 4 (by kernel_rfl)
              have e35 : ac.eval (.tmp 35) = sumV y := hP 9 (by kernel_rfl)
              have hB : Below W.heap.size W w' := hPh.2 (by omega)
              refine rop_call 14 _ _ rfl #[sumV x, sumV y] (by simp [e30, e35]) (by kernel_rfl) (wanted_none rfl) ?_
              refine (HN.out w').mono ?_
              rintro e w2 ⟨rfl, hb⟩
              have hb2 := below_step hB (Nat.le_refl _) hb
              exact ⟨_, rfl, hK0 _ _ (GLx.old (by decide) hb) ⟨hb2.mono hBW, fun _ => hb2⟩ rfl⟩
            · intro ac w' ph hF hPh hlt hP hU K hK0
              obtain rfl : ph = 1 := (hlt 1 11 rfl).1 rfl
              have e36 : ac.eval (.tmp 36) = sumV D := hP 10 (by kernel_rfl)
              have hB : Below W.heap.size W w' := hPh.2 (by omega)
              have hb2 := below_step hB (Nat.le_refl _) ((Below.refl w'.heap.size w').alloc (Nat.le_refl _) (.cells (D.map u8V).toArray 23))
              exact rop_bslG _ _ _ rfl #[(0, sumV D)] (by simp [e36]) (build_sum1 D HDl.out w') (wanted_none rfl) (hK0 _ _ (GLx.old (by decide) ((Below.refl _ _).alloc (Nat.le_refl _) _)) ⟨hb2.mono hBW, fun _ => hb2⟩ (fun _ => Sums.one w' D HDl.out))
            · intro ac w' ph hF hPh hlt hP hU K hK0
              obtain rfl : ph = 2 := (hlt 2 12 rfl).1 rfl
              have e26 : ac.eval (.tmp 26) = u5 := hP 0 (by kernel_rfl)
              have e37 : 2 < 3 → Sums w' (ac.eval (.tmp 37)) [D] := hP 11 (by kernel_rfl)
              have hB : Below W.heap.size W w' := hPh.2 (by omega)
              obtain ⟨v6, w6, hr6, ho6, b6, _, _⟩ := sappend_own' (B := B) 29 (HO.out.kept hB) (e37 (by decide)) (Nat.le_trans hBW hB.size) (by have := HLl.out; simp; omega)
              exact rop_appendG _ _ _ rfl e26 rfl hr6 (wanted_none rfl) (hK0 _ _ (GLx.last rfl) ⟨(hB.mono hBW).trans b6, fun h => absurd h (by decide)⟩ ⟨rfl, ho6⟩)
            · intro ac w' ph hF hPh hlt hP hU K hK0
              have e38 : ph = 3 ∧ OwnS B w' (ac.eval (.tmp 38)) (L ++ [D]) := hP 12 (by kernel_rfl)
              exact rop_assign _ rfl rfl (wanted_none rfl) (hK0 _ _ GLx.same hPh e38)
            · intro ac w' hF hPh hT
              have e5 : 3 = 3 ∧ OwnS B w' (ac.eval (.tmp 5)) (L ++ [D]) := hT 13 (by decide)
              rw [hF.setsG [26, 27, 28, 29, 30, 31, 32, 33, 34, 35, 36, 37, 38, 5] (by kernel_rfl)]
              simp only [List.foldl_cons, List.foldl_nil, List.setIfInBounds_toArray, List.set_cons_succ, List.set_cons_zero]
              generalize ac.eval (.tmp 26) = u26
              generalize ac.eval (.tmp 27) = u27
              generalize ac.eval (.tmp 28) = u28
              generalize ac.eval (.tmp 29) = u29
              generalize ac.eval (.tmp 30) = u30
              generalize ac.eval (.tmp 31) = u31
              generalize ac.eval (.tmp 32) = u32
              generalize ac.eval (.tmp 33) = u33
              generalize ac.eval (.tmp 34) = u34
              generalize ac.eval (.tmp 35) = u35
              generalize ac.eval (.tmp 36) = u36
              generalize ac.eval (.tmp 37) = u37
              generalize ac.eval (.tmp 38) = u38
              generalize ac.eval (.tmp 5) = v5 at e5 ⊢
              clear  hT hF ac
              obtain ⟨bW, -⟩ := hPh
              replace e5 := e5.2
              go_wp2
              refine ⟨⟨j + 1, i + 2, by have := Hij.out; omega, by simp, by have := Hm.out; omega, by rw [Hup.out, ← HL.out]; exact e5, hbi.trans bW⟩, ?_⟩
              simp [intOf]
              omega
          · have h2' : ¬ (i : Int) + 1 < (m : Int) := by omega
            have hup : Tree.up cur = Tree.up (cur.take i) ++ [x] := by
              have := up_step1 cur j (by rw [← Hm.out]; omega)
              rw [this, hx]
              subst hij
              rfl
            obtain ⟨v', w', hr, ho', hb'⟩ := sappend_own (B := B) 29 (ho.kept ((Below.refl wr.heap.size wr).alloc (Nat.le_refl _) (.cells (x.map u8V).toArray 23))) (Sums.one wr x hxl) (Nat.le_trans hBI (by simp)) (by have := Tree.up_length (cur.take i); simp at this ⊢; omega)
            rw [← hup] at ho'
            have hfin : OwnS B w' v' (Tree.up (cur.take (i + 2))) ∧ Below B wo w' := ⟨by rw [List.take_of_length_le (by rw [← Hm.out]; omega)]; exact ho', (hbi.trans (((Below.refl wr.heap.size wr).alloc (Nat.le_refl _) _).mono hBI)).trans hb'⟩
            have HF := Lib.hid hfin
            have HRr := Lib.hid hr
            have hbs := build_sum1 x hxl wr
            unfold sumV at hbs
            have HBS := Lib.hid hbs
            have hfold := fold_zero x hxl
            have hix := index_sumsI b off m cap i (i : Int) rfl hlt wr
            have Hij := Lib.hid hij
            clear ho hup hfin hr ho' hb' hbs hx hij
            go_wp2_with (first
              | refine wpList_load_mid rfl 23 (.tmp 42) rfl b (off + i * 32) rfl (x.map u8V) _ rx Tryd.underlying23 rfl (sum_info' HX.out) ?_
              | (refine wpList_bslS rfl 29 1 #[(0, .tmp 43)] rfl (L := #[(0, .agg (x.map u8V).toArray)]) rfl HBS.out ?_)
              | (at_builtin; refine Lib.wpList_append_run _ rfl _ _ _ _ rfl _ _ rfl rfl _ _ HRr.out ?_))
            refine ⟨⟨j + 1, i + 2, by have := Hij.out; omega, by simp, by have := Hm.out; omega, HF.out.1, HF.out.2⟩, ?_⟩
            simp [intOf]
            omega
        · have hlt' : ¬ (i : Int) < (m : Int) := by omega
          have hup : Tree.up (cur.take i) = Tree.up cur := by rw [List.take_of_length_le (by rw [← Hm.out]; omega)]
          rw [hup] at ho
          rw [HB.out] at ho hbi
          obtain ⟨a5, c5, rfl, _, _⟩ := ho.sums.slice
          obtain ⟨v6, w6, hr6, hR6, b6⟩ := HR.out.add 34 hbi ho hbw (by have := Hvl.out; have := Hlen.out; simp; omega)
          have HR6 := Lib.hid hr6
          have HO6 := Lib.hid hR6
          clear hr6 hR6 ho hup hij
          go_wp2_with (at_builtin; refine Lib.wpList_append_run _ rfl _ _ _ _ rfl _ _ rfl rfl _ _ HR6.out ?_)
          refine ⟨⟨vs ++ [_], ls ++ [cur], Tree.up cur, HO6.out, Hd.out, ?_, Hbel.out.trans b6⟩, ?_⟩
          · have := Hul.out; have := Hlen.out; have := Hm.out; simp; omega
          · have := Hul.out; have := Hm.out; simp [lenV]; omega

/-- Ahead of element i. -/
def SameRel (l r : Hs) (s5 : Value) : Prop := ∃ i : Nat, s5 = .int .i64 (i : Int) ∧ i ≤ l.length ∧ l.take i = r.take i
set_option maxHeartbeats 3200000 in
set_option maxRecDepth 100000 in
theorem same_any (va vb : Value) (l r : Hs) (w : World) (ha : Sums w va l) (hb : Sums w vb r) (hn : l.length ≤ 1000) :
    Calls Tryd.prog 24 #[va, vb] w fun e w' => e = .returned (.bool (decide (l = r))) ∧ Below w.heap.size w w' := by
  obtain ⟨aa, ca, rfl, _, _⟩ := ha.slice
  obtain ⟨ab, cb, rfl, _, hcb⟩ := hb.slice
  by_cases hl : l.length = r.length
  · obtain ⟨m, hm⟩ : ∃ m, m = l.length := ⟨_, rfl⟩
    rw [← hl]
    rw [← hl] at hb
    rw [← hm] at ha hb ⊢
    have Hm := Lib.hid hm
    have Hl := Lib.hid hl
    have HA := Lib.hid ha
    have HBb := Lib.hid hb
    have hm9 : m ≤ 1000 := by omega
    clear hl hm ha hb hn
    go_enter Tryd.func24, Tryd.ntmps24
    go_wp2
    go_loopw [5] (fun s5 wr => SameRel l r s5 ∧ Below w.heap.size w wr) (fun s5 _ => m - (intOf s5).toNat)
    case atStart => exact ⟨⟨0, rfl, by omega, by simp⟩, Below.refl _ _⟩
    case round =>
      obtain ⟨⟨i, rfl, hi, hpre⟩, hbel⟩ := hrel
      have Hpre := Lib.hid hpre
      clear hpre
      by_cases hlt : i < m
      · have hlt' : (i : Int) < (m : Int) := by omega
        have hw1 := IntWalk.i64_in ((i : Int) + 1) (by omega)
        have hli : i < l.length := by rw [← Hm.out]; exact hlt
        have hri : i < r.length := by rw [← Hl.out]; exact hli
        obtain ⟨b, off, rfl, hb1, -, rx⟩ := (HA.out.old hbel).at i hli
        obtain ⟨b2, off2, rfl, hb2, -, ry⟩ := (HBb.out.old hbel).at i hri
        obtain ⟨x, hx⟩ : ∃ x, x = l[i] := ⟨_, rfl⟩
        obtain ⟨y, hy⟩ : ∃ y, y = r[i] := ⟨_, rfl⟩
        have hxl : x.length = 32 := by rw [hx]; exact HA.out.ok _ (List.getElem_mem _)
        have hyl : y.length = 32 := by rw [hy]; exact HBb.out.ok _ (List.getElem_mem _)
        rw [← hx] at rx
        rw [← hy] at ry
        have HX := Lib.hid hxl
        have HY := Lib.hid hyl
        have hne : x ≠ y → l ≠ r := fun h e => h (by rw [hx, hy]; subst e; rfl)
        have hnx : x = y → l.take (i + 1) = r.take (i + 1) := fun h => by
          rw [List.take_succ_eq_append_getElem hli, List.take_succ_eq_append_getElem hri, ← hx, ← hy, h, Hpre.out]
        have HNe := Lib.hid hne
        have HNx := Lib.hid hnx
        clear hx hy hxl hyl hne hnx
        go_wp2
        try simp only [Act.put]
        refine wp_region_tab [RT.is (.slice (some ⟨b, off, none⟩) m ca), RT.is (.int .i64 (i : Int)), RT.is (.pointer (some ⟨b, off + i * 32, none⟩)), RT.is (sumV x), RT.is (.slice (some ⟨b2, off2, none⟩) m cb), RT.is (.int .i64 (i : Int)), RT.is (.pointer (some ⟨b2, off2 + i * 32, none⟩)), RT.is (sumV y), RT.is (.bool (!decide (x = y)))] (by kernel_rfl) (by kernel_rfl) (by kernel_rfl) (by kernel_rfl) ⟨?_, ?_, ?_, ?_, ?_, ?_, ?_, ?_, ?_, trivial⟩ ?_
        · intro ac w' hF hL hP hU K hK
          have hB := below_undrew hL
          have e0 : ac.eval (.tmp 0) = .slice (some ⟨b, off, none⟩) m ca := hF.at 0 (by kernel_rfl)
          exact rop_move _ rfl e0 (wanted_none rfl) (hK _ _ (le8_refl _) rfl)
        · intro ac w' hF hL hP hU K hK
          have hB := below_undrew hL
          have e5 : ac.eval (.tmp 5) = .int .i64 (i : Int) := hF.at 5 (by kernel_rfl)
          exact rop_move _ rfl e5 (wanted_none rfl) (hK _ _ (le8_refl _) rfl)
        · intro ac w' hF hL hP hU K hK
          have hB := below_undrew hL
          have e17 : ac.eval (.tmp 17) = .slice (some ⟨b, off, none⟩) m ca := hP 0 (by kernel_rfl)
          have e18 : ac.eval (.tmp 18) = .int .i64 (i : Int) := hP 1 (by kernel_rfl)
          exact rop_idx _ _ _ rfl e17 e18 (index_sumsI b off m ca i _ rfl (by omega) w') (wanted_none rfl) (hK _ _ (le8_refl _) rfl)
        · intro ac w' hF hL hP hU K hK
          have hB := below_undrew hL
          have e19 : ac.eval (.tmp 19) = .pointer (some ⟨b, off + i * 32, none⟩) := hP 2 (by kernel_rfl)
          exact rop_ld _ _ rfl e19 (run_loadAt_mid _ _ _ _ _ _ (below_range hB hb1 rx) Tryd.underlying23 rfl (sum_info' HX.out)) (wanted_none rfl) (hK _ _ (le8_refl _) rfl)
        · intro ac w' hF hL hP hU K hK
          have hB := below_undrew hL
          have e1 : ac.eval (.tmp 1) = .slice (some ⟨b2, off2, none⟩) m cb := hF.at 1 (by kernel_rfl)
          exact rop_move _ rfl e1 (wanted_none rfl) (hK _ _ (le8_refl _) rfl)
        · intro ac w' hF hL hP hU K hK
          have hB := below_undrew hL
          have e5 : ac.eval (.tmp 5) = .int .i64 (i : Int) := hF.at 5 (by kernel_rfl)
          exact rop_move _ rfl e5 (wanted_none rfl) (hK _ _ (le8_refl _) rfl)
        · intro ac w' hF hL hP hU K hK
          have hB := below_undrew hL
          have e21 : ac.eval (.tmp 21) = .slice (some ⟨b2, off2, none⟩) m cb := hP 4 (by kernel_rfl)
          have e22 : ac.eval (.tmp 22) = .int .i64 (i : Int) := hP 5 (by kernel_rfl)
          exact rop_idx _ _ _ rfl e21 e22 (index_sumsI b2 off2 m cb i _ rfl (by omega) w') (wanted_none rfl) (hK _ _ (le8_refl _) rfl)
        · intro ac w' hF hL hP hU K hK
          have hB := below_undrew hL
          have e23 : ac.eval (.tmp 23) = .pointer (some ⟨b2, off2 + i * 32, none⟩) := hP 6 (by kernel_rfl)
          exact rop_ld _ _ rfl e23 (run_loadAt_mid _ _ _ _ _ _ (below_range hB hb2 ry) Tryd.underlying23 rfl (sum_info' HY.out)) (wanted_none rfl) (hK _ _ (le8_refl _) rfl)
        · intro ac w' hF hL hP hU K hK
          have hB := below_undrew hL
          have e20 : ac.eval (.tmp 20) = sumV x := hP 3 (by kernel_rfl)
          have e24 : ac.eval (.tmp 24) = sumV y := hP 7 (by kernel_rfl)
          exact rop_bin _ _ _ _ _ rfl e20 e24 (guard_run _ _ _ _ _ _) (neq_sum x y HX.out HY.out w') (wanted_none rfl) (hK _ _ (le8_refl _) rfl)
        · intro ac w' hF hB hT
          have e25 : ac.eval (.tmp 25) = .bool (!decide (x = y)) := hT 8 (by decide)
          rw [hF.setsG [17, 18, 19, 20, 21, 22, 23, 24, 25] (by kernel_rfl)]
          simp only [List.foldl_cons, List.foldl_nil, List.setIfInBounds_toArray, List.set_cons_succ, List.set_cons_zero, e25]
          generalize ac.eval (.tmp 17) = u17
          generalize ac.eval (.tmp 18) = u18
          generalize ac.eval (.tmp 19) = u19
          generalize ac.eval (.tmp 20) = u20
          generalize ac.eval (.tmp 21) = u21
          generalize ac.eval (.tmp 22) = u22
          generalize ac.eval (.tmp 23) = u23
          generalize ac.eval (.tmp 24) = u24
          clear e25 hT hF ac
          have hB2 := hB
          have hbw : Below w.heap.size w w' := below_step hbel (Nat.le_refl _) hB2
          clear hB
          by_cases hxy : x = y
          · have hd : decide (x = y) = true := decide_eq_true hxy
            have HXY := Lib.hid hxy
            rw [hd]
            clear hxy hd
            go_wp2
            exact ⟨⟨⟨i + 1, by simp, by omega, HNx.out HXY.out⟩, hbw⟩, by simp [intOf]; omega⟩
          · have hd : decide (x = y) = false := decide_eq_false hxy
            have hlr : decide (l = r) = false := decide_eq_false (HNe.out hxy)
            rw [hd]
            have HLR := Lib.hid hlr
            clear hxy hd hlr
            go_wp2
            go_ret
            exact ⟨by rw [HLR.out]; rfl, hbw⟩
      · have hlt' : ¬ (i : Int) < (m : Int) := by omega
        have hlr : decide (l = r) = true := decide_eq_true (by
          have := Hpre.out
          rwa [List.take_of_length_le (by rw [← Hm.out]; omega), List.take_of_length_le (by rw [← Hl.out, ← Hm.out]; omega)] at this)
        have HLR := Lib.hid hlr
        clear hlr
        go_wp2
        go_ret
        exact ⟨by rw [HLR.out]; rfl, hbel⟩
  · have hlr : decide (l = r) = false := decide_eq_false fun e => hl (by rw [e])
    have HLR := Lib.hid hlr
    have hl' : ¬ (l.length : Int) = (r.length : Int) := by omega
    clear hlr ha hb
    go_enter Tryd.func24, Tryd.ntmps24
    go_wp2
    go_ret
    exact ⟨by rw [HLR.out]; rfl, Below.refl _ _⟩
end Go.Proofs.YtldknddgcbhllaaDoor
