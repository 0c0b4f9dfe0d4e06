/-
  Package leaf: the closure of Levels, which makes the row above.
-/
import Derived.Test.YtldknddgcbhllaaDoorLeafRoot
import Derived.Test.YtldknddgcbhllaaDoorSumBuild
namespace Go.Proofs.YtldknddgcbhllaaDoor
open Go.RowKit

/-- Ahead of pair j. -/
def AbRel (B : Nat) (w : World) (l : Hs) (s3 s4 : Value) (wr : World) : Prop :=
  ∃ j : Nat, 2 * j ≤ l.length ∧ OwnS B wr s3 (Tree.up (l.take (2 * j))) ∧ SumsB B wr s4 (l.drop (2 * j)) ∧ Below B w wr
theorem up_step2 (l : Hs) (j : Nat) (h : 2 * j + 2 ≤ l.length) : Tree.up (l.take (2 * (j + 1))) = Tree.up (l.take (2 * j)) ++ [Tree.node (l[2 * j]'(by omega)) (l[2 * j + 1]'(by omega))] := by
  rw [show 2 * (j + 1) = 2 * j + 1 + 1 by omega, List.take_succ_eq_append_getElem (by omega), List.take_succ_eq_append_getElem (by omega), List.append_assoc, Tree.up_append j _ _ (by rw [List.length_take]; omega)]
  rfl
theorem up_step1 (l : Hs) (j : Nat) (h : l.length = 2 * j + 1) : Tree.up l = Tree.up (l.take (2 * j)) ++ [l[2 * j]'(by omega)] := by
  have e : l = l.take (2 * j) ++ [l[2 * j]'(by omega)] := by
    have := List.take_succ_eq_append_getElem (l := l) (i := 2 * j) (by omega)
    rw [List.take_of_length_le (by omega)] at this
    exact this
  conv => lhs; rw [e]
  rw [Tree.up_append j _ _ (by rw [List.length_take]; omega)]
  rfl
theorem fold_zero (x : List UInt8) (h : x.length = 32) : List.foldl (fun (cs : Array Value) (x : Value × Nat) => cs.setIfInBounds x.snd x.fst) #[.int .u8 0, .int .u8 0, .int .u8 0, .int .u8 0, .int .u8 0, .int .u8 0, .int .u8 0, .int .u8 0, .int .u8 0, .int .u8 0, .int .u8 0, .int .u8 0, .int .u8 0, .int .u8 0, .int .u8 0, .int .u8 0, .int .u8 0, .int .u8 0, .int .u8 0, .int .u8 0, .int .u8 0, .int .u8 0, .int .u8 0, .int .u8 0, .int .u8 0, .int .u8 0, .int .u8 0, .int .u8 0, .int .u8 0, .int .u8 0, .int .u8 0, .int .u8 0] (x.map u8V).zipIdx = (x.map u8V).toArray := by
  have := fold_put (x.map u8V) 0 0 [] [.int .u8 0, .int .u8 0, .int .u8 0, .int .u8 0, .int .u8 0, .int .u8 0, .int .u8 0, .int .u8 0, .int .u8 0, .int .u8 0, .int .u8 0, .int .u8 0, .int .u8 0, .int .u8 0, .int .u8 0, .int .u8 0, .int .u8 0, .int .u8 0, .int .u8 0, .int .u8 0, .int .u8 0, .int .u8 0, .int .u8 0, .int .u8 0, .int .u8 0, .int .u8 0, .int .u8 0, .int .u8 0, .int .u8 0, .int .u8 0, .int .u8 0, .int .u8 0] [] rfl (by rw [List.length_map, h]; rfl)
  simpa using this
set_option maxHeartbeats 3200000 in
set_option maxRecDepth 100000 in
theorem above_any (v : Value) (l : Hs) (w : World) (hv : Sums w v l) (hK : KT w) (hn : l.length ≤ 1000) :
    Calls Tryd.prog 31 #[v] w fun e w' => ∃ v', e = .returned v' ∧ OwnS w.heap.size w' v' (Tree.up l) ∧ Below w.heap.size w w' := by
  obtain ⟨a0, c0, rfl, _, _⟩ := hv.slice
  obtain ⟨i0, hi, hz0, hz1, hz2⟩ := info_parts info_sumR
  obtain ⟨B, hBw⟩ : ∃ B, B = w.heap.size := ⟨_, rfl⟩
  have hvB := hv.below
  rw [← hBw] at hvB ⊢
  have HV := Lib.hid hvB
  have HBw := Lib.hid hBw
  have hq : ((l.length : Int) + 1).tdiv 2 = (((l.length + 1) / 2 : Nat) : Int) := by rw [Int.tdiv_eq_ediv_of_nonneg (by omega)]; omega
  have hw1 := IntWalk.i64_in ((l.length : Int) + 1) (by omega)
  clear hv hvB hBw
  go_enter Tryd.func31, Tryd.ntmps31
  go_wp2
  go_step3
  go_wp2_with (at_make; refine wpList_make_own _ rfl _ _ 29 rfl B 23 i0 _ 32 Tryd.underlying29 hi hz0 hz1 .i64 .i64 _ ((l.length + 1) / 2) rfl rfl (by first | exact hq | omega) (by rw [hz2]; omega) (by unfold maxLen; omega) (by rw [HBw.out]; exact Nat.le_refl _) ?_; intro w0 hown0 hgrow0)
  go_step3
  go_wp2
  have hgb := sgrown_below hgrow0 (Nat.le_refl w.heap.size) (fun g e => by cases e)
  rw [← HBw.out] at hgb
  go_loopw [3, 4] (AbRel B w l) (fun _ s4 _ => lenV s4)
  case atStart => exact ⟨0, by omega, ⟨hown0, all32.nil⟩, HV.out.keep hgb, hgb⟩
  case round =>
    obtain ⟨j, hj, ho, hs, hbel⟩ := hrel
    have hBW := HBw.out ▸ hbel.size
    obtain ⟨va, cap, rfl, hlc, hcap⟩ := hs.1.slice
    obtain ⟨m, hm⟩ : ∃ m, m = (l.drop (2 * j)).length := ⟨_, rfl⟩
    have hml : m = l.length - 2 * j := by rw [hm, List.length_drop]
    have Hm := Lib.hid hm
    have Hml := Lib.hid hml
    rw [← hm] at hs hlc ⊢
    by_cases h0 : m = 0
    · have hup : Tree.up (l.take (2 * j)) = Tree.up l := by rw [List.take_of_length_le (by omega)]
      rw [hup] at ho
      have hfin : ∃ v', u3 = v' ∧ OwnS B wr v' (Tree.up l) ∧ Below B w wr := ⟨_, rfl, ho, hbel⟩
      have HF := Lib.hid hfin
      have h0' : (m : Int) = 0 := by omega
      clear ho hs hm hml hlc hup hfin h0 hj
      go_wp2
      try rw [Exit.noGoto_ret]
      go_ret
      obtain ⟨v', rfl, h1, h2⟩ := HF.out
      exact ⟨_, rfl, h1, h2⟩
    have h0' : ¬ (m : Int) = 0 := by omega
    obtain ⟨b, off, rfl, hb, -, rx⟩ := hs.1.at 0 (by rw [← hm]; omega)
    have hbB : b < B := hs.2 b off _ _ rfl (by rw [← hm]; omega)
    obtain ⟨x, hx⟩ : ∃ x, x = (l.drop (2 * j))[0]'(by rw [← hm]; omega) := ⟨_, rfl⟩
    have hxl : x.length = 32 := by rw [hx]; exact hs.1.ok _ (List.getElem_mem _)
    have hxe : x = l[2 * j]'(by omega) := by rw [hx, List.getElem_drop]; rfl
    rw [← hx] at rx
    have HX := Lib.hid hxl
    by_cases h1 : m = 1
    · have h1' : (m : Int) = 1 := by omega
      have hup := up_step1 l j (by omega)
      rw [← hxe] at hup
      obtain ⟨v', w', hr, ho', hb'⟩ := sappend_own (B := B) 29 (ho.kept ((Below.refl wr.heap.size wr).alloc (Nat.le_refl _) (.cells (x.map u8V).toArray 23))) (Sums.one wr x hxl) (Nat.le_trans hBW (by simp)) (by have := Tree.up_length (l.take (2 * j)); simp at this ⊢; omega)
      rw [← hup] at ho'
      have hfin : OwnS B w' v' (Tree.up l) ∧ Below B w w' := ⟨ho', (hbel.trans (((Below.refl wr.heap.size wr).alloc (Nat.le_refl _) _).mono hBW)).trans hb'⟩
      have HF := Lib.hid hfin
      have HR := Lib.hid hr
      have hbs := build_sum1 x hxl wr
      unfold sumV at hbs
      have HBS := Lib.hid hbs
      have hfold := fold_zero x hxl
      have rx0 : wr.rangeAt b off (x.map u8V) := by simpa using rx
      obtain rfl : m = 1 := h1
      clear ho hs hm hml hlc hup hfin hr ho' hb' hbs rx hx hxe h0 h0' h1' hj
      go_wp2_with (first
        | refine wpList_load_mid rfl 23 (.tmp 21) rfl b off rfl (x.map u8V) _ rx0 Tryd.underlying23 rfl (sum_info' HX.out) ?_
        | (refine wpList_bslS rfl 29 1 #[(0, .tmp 22)] rfl (L := #[(0, .agg (x.map u8V).toArray)]) rfl HBS.out ?_)
        | (at_builtin; refine Lib.wpList_append_run _ rfl _ _ _ _ rfl _ _ rfl rfl _ _ HR.out ?_))
      try rw [Exit.noGoto_ret]
      go_ret
      exact ⟨_, rfl, HF.out.1, HF.out.2⟩
    have h1' : ¬ (m : Int) = 1 := by omega
    obtain ⟨b', off', hbe, -, -, ry⟩ := hs.1.at 1 (by rw [← hm]; omega)
    injection hbe with hbe
    injection hbe with hb1 hb2 _
    subst hb1 hb2
    obtain ⟨y, hy⟩ : ∃ y, y = (l.drop (2 * j))[1]'(by rw [← hm]; omega) := ⟨_, rfl⟩
    have hyl : y.length = 32 := by rw [hy]; exact hs.1.ok _ (List.getElem_mem _)
    have hye : y = l[2 * j + 1]'(by omega) := by rw [hy, List.getElem_drop]
    rw [← hy] at ry
    have HY := Lib.hid hyl
    have hup := up_step2 l j (by omega)
    rw [← hxe, ← hye] at hup
    obtain ⟨D, hD⟩ : ∃ D, D = Tree.node x y := ⟨_, rfl⟩
    have hDl : D.length = 32 := by rw [hD]; exact Tree.node_length _ _
    have HDl := Lib.hid hDl
    have hnode : ∀ u, Below wr.heap.size wr u → Calls Tryd.prog 13 #[sumV x, sumV y] u fun e w' => e = .returned (sumV D) ∧ Below u.heap.size u w' := fun u hu => by
      rw [hD]
      exact leafNode_any x y hxl hyl u ((hK.old (HBw.out ▸ hbel)).old hu)
    have HN := Lib.hid hnode
    rw [← hD] at hup
    have Hup := Lib.hid hup
    obtain ⟨L, hL⟩ : ∃ L, L = Tree.up (l.take (2 * j)) := ⟨_, rfl⟩
    rw [← hL] at ho hup
    have HL := Lib.hid hL
    have HLl : Hid (L.length ≤ 1000) := Lib.hid (by rw [hL, Tree.up_length, List.length_take]; omega)
    have HO := Lib.hid ho
    have htl := hs.1.tail 2 (by rw [← hm]; omega)
    rw [← hm, List.drop_drop] at htl
    have hcs : cutS (some ⟨b, off, none⟩) 2 cap = if cap = 2 then some ⟨b, off, none⟩ else some ⟨b, off + 64, none⟩ := by
      unfold cutS
      split
      · rfl
      · rw [Option.map_some, Addr.add_mid]
    have htlB : SumsB B wr (.slice (if cap = 2 then some ⟨b, off, none⟩ else some ⟨b, off + 64, none⟩) (m - 2) (cap - 2)) (l.drop (2 * (j + 1))) := by
      rw [← hcs, show 2 * (j + 1) = 2 * j + 2 by omega]
      refine ⟨htl, fun b' off' n' c' e _ => ?_⟩
      rw [hcs] at e
      split at e <;> (injection e with e _ _; injection e with e; injection e with e _ _; omega)
    have HTL := Lib.hid htlB
    have hcut := fun u => scut_l (some ⟨b, off, none⟩) m cap 2 (by omega) u
    clear ho hs hm hml hlc hup hx hxe hxl hy hye hyl hD hDl hnode hL h0 h1 hcs htl htlB
    obtain ⟨W, hW⟩ : ∃ W, W = wr := ⟨_, rfl⟩
    subst hW
    go_wp2

    try simp only [Act.put]
    refine wp_region_ph (Lx := GLx 3) [RXP.is (u3), RXP.is (.slice (some ⟨b, off, none⟩) m cap), RXP.is (.pointer (some ⟨b, off + 0 * 32, none⟩)), RXP.is (sumV x), RXP.is (.slice (some ⟨b, off, none⟩) m cap), RXP.is (.pointer (some ⟨b, off + 1 * 32, none⟩)), RXP.is (sumV y), RXP.is (sumV D), RXP.till (fun v w => Sums w v [D]) (fun _ _ _ h k => h.old k), RXP.behind (fun v w => OwnS B w v (L ++ [D])), RXP.behind (fun v w => OwnS B w v (L ++ [D]))] [7, 8, 9] (fun k w' => Below B W w' ∧ (k < 3 → Below W.heap.size W w')) (by kernel_rfl) (by kernel_rfl) (by kernel_rfl) (by kernel_rfl) (by kernel_rfl) (⟨below_drew (Below.refl _ _), fun _ => below_drew (Below.refl _ _)⟩) ⟨?_, ?_, ?_, ?_, ?_, ?_, ?_, ?_, ?_, ?_, ?_, trivial⟩ ?_
    · intro ac w' ph hF hPh hlt hP hU K hK0
      have e3 : ac.eval (.tmp 3) = u3 := by
        have hu := hU 10 3 (by kernel_rfl) rfl
        simp [Act.eval, hu]
      exact rop_move _ rfl e3 (wanted_none rfl) (hK0 _ _ GLx.same hPh rfl)
    · intro ac w' ph hF hPh hlt hP hU K hK0
      have e4 : ac.eval (.tmp 4) = .slice (some ⟨b, off, none⟩) m cap := hF.at 4 (by kernel_rfl)
      exact rop_move _ rfl e4 (wanted_none rfl) (hK0 _ _ GLx.same hPh rfl)
    · intro ac w' ph hF hPh hlt hP hU K hK0
      have e26 : ac.eval (.tmp 26) = .slice (some ⟨b, off, none⟩) m cap := hP 1 (by kernel_rfl)
      exact rop_idx _ _ _ rfl e26 rfl (index_sums b off m cap 0 (by omega) w') (wanted_none rfl) (hK0 _ _ GLx.same hPh rfl)
    · intro ac w' ph hF hPh hlt hP hU K hK0
      have hph : ph ≤ 0 := (hlt 0 7 rfl).2 (by kernel_rfl)
      have e27 : ac.eval (.tmp 27) = .pointer (some ⟨b, off + 0 * 32, none⟩) := hP 2 (by kernel_rfl)
      have hB : Below W.heap.size W w' := hPh.2 (by omega)
      exact rop_ld _ _ rfl e27 (run_loadAt_mid _ _ _ _ _ _ (below_range hB hb rx) Tryd.underlying23 rfl (sum_info' HX.out)) (wanted_none rfl) (hK0 _ _ GLx.same hPh rfl)
    · intro ac w' ph hF hPh hlt hP hU K hK0
      have e4 : ac.eval (.tmp 4) = .slice (some ⟨b, off, none⟩) m cap := hF.at 4 (by kernel_rfl)
      exact rop_move _ rfl e4 (wanted_none rfl) (hK0 _ _ GLx.same hPh rfl)
    · intro ac w' ph hF hPh hlt hP hU K hK0
      have e29 : ac.eval (.tmp 29) = .slice (some ⟨b, off, none⟩) m cap := hP 4 (by kernel_rfl)
      exact rop_idx _ _ _ rfl e29 rfl (index_sums b off m cap 1 (by omega) w') (wanted_none rfl) (hK0 _ _ GLx.same hPh rfl)
    · intro ac w' ph hF hPh hlt hP hU K hK0
      have hph : ph ≤ 0 := (hlt 0 7 rfl).2 (by kernel_rfl)
      have e30 : ac.eval (.tmp 30) = .pointer (some ⟨b, off + 1 * 32, none⟩) := hP 5 (by kernel_rfl)
      have hB : Below W.heap.size W w' := hPh.2 (by omega)
      exact rop_ld _ _ rfl e30 (run_loadAt_mid _ _ _ _ _ _ (below_range hB hb ry) Tryd.underlying23 rfl (sum_info' HY.out)) (wanted_none rfl) (hK0 _ _ GLx.same hPh rfl)
    · intro ac w' ph hF hPh hlt hP hU K hK0
      obtain rfl : ph = 0 := (hlt 0 7 rfl).1 rfl
      have e28 : ac.eval (.tmp 28) = sumV x := hP 3 (by kernel_rfl)
      have e31 : ac.eval (.tmp 31) = sumV y := hP 6 (by kernel_rfl)
      have hB : Below W.heap.size W w' := hPh.2 (by omega)
      refine rop_call 13 _ _ rfl #[sumV x, sumV y] (by simp [e28, e31]) (by kernel_rfl) (wanted_none rfl) ?_
      refine (HN.out w' hB).mono ?_
      rintro e w2 ⟨rfl, hb⟩
      have hb2 := below_step hB (Nat.le_refl _) hb
      exact ⟨_, rfl, hK0 _ _ (GLx.old (by decide) hb) ⟨hb2.mono hBW, fun _ => hb2⟩ rfl⟩
    · intro ac w' ph hF hPh hlt hP hU K hK0
      obtain rfl : ph = 1 := (hlt 1 8 rfl).1 rfl
      have e32 : ac.eval (.tmp 32) = sumV D := hP 7 (by kernel_rfl)
      have hB : Below W.heap.size W w' := hPh.2 (by omega)
      have hb2 := below_step hB (Nat.le_refl _) ((Below.refl w'.heap.size w').alloc (Nat.le_refl _) (.cells (D.map u8V).toArray 23))
      exact rop_bslG _ _ _ rfl #[(0, sumV D)] (by simp [e32]) (build_sum1 D HDl.out w') (wanted_none rfl) (hK0 _ _ (GLx.old (by decide) ((Below.refl _ _).alloc (Nat.le_refl _) _)) ⟨hb2.mono hBW, fun _ => hb2⟩ (fun _ => Sums.one w' D HDl.out))
    · intro ac w' ph hF hPh hlt hP hU K hK0
      obtain rfl : ph = 2 := (hlt 2 9 rfl).1 rfl
      have e25 : ac.eval (.tmp 25) = u3 := hP 0 (by kernel_rfl)
      have e33 : 2 < 3 → Sums w' (ac.eval (.tmp 33)) [D] := hP 8 (by kernel_rfl)
      have hB : Below W.heap.size W w' := hPh.2 (by omega)
      obtain ⟨v6, w6, hr6, ho6, b6, _, _⟩ := sappend_own' (B := B) 29 (HO.out.kept hB) (e33 (by decide)) (Nat.le_trans hBW hB.size) (by have := HLl.out; simp; omega)
      exact rop_appendG _ _ _ rfl e25 rfl hr6 (wanted_none rfl) (hK0 _ _ (GLx.last rfl) ⟨(hB.mono hBW).trans b6, fun h => absurd h (by decide)⟩ ⟨rfl, ho6⟩)
    · intro ac w' ph hF hPh hlt hP hU K hK0
      have e34 : ph = 3 ∧ OwnS B w' (ac.eval (.tmp 34)) (L ++ [D]) := hP 9 (by kernel_rfl)
      exact rop_assign _ rfl rfl (wanted_none rfl) (hK0 _ _ GLx.same hPh e34)
    · intro ac w' hF hPh hT
      have e3 : 3 = 3 ∧ OwnS B w' (ac.eval (.tmp 3)) (L ++ [D]) := hT 10 (by decide)
      rw [hF.setsG [25, 26, 27, 28, 29, 30, 31, 32, 33, 34, 3] (by kernel_rfl)]
      simp only [List.foldl_cons, List.foldl_nil, List.setIfInBounds_toArray, List.set_cons_succ, List.set_cons_zero]
      generalize ac.eval (.tmp 25) = u25
      generalize ac.eval (.tmp 26) = u26
      generalize ac.eval (.tmp 27) = u27
      generalize ac.eval (.tmp 28) = u28
      generalize ac.eval (.tmp 29) = u29
      generalize ac.eval (.tmp 30) = u30
      generalize ac.eval (.tmp 31) = u31
      generalize ac.eval (.tmp 32) = u32
      generalize ac.eval (.tmp 33) = u33
      generalize ac.eval (.tmp 34) = u34
      generalize ac.eval (.tmp 3) = v3 at e3 ⊢
      clear  hT hF ac
      obtain ⟨bW, -⟩ := hPh
      replace e3 := e3.2
      go_wp2_with (with_reducible refine wpList_slice_runS rfl 29 (.tmp 11) (some (.const (.int .i64 2))) none none rfl rfl rfl rfl rfl (hcut _) ?_)
      refine ⟨⟨j + 1, by have := Hml.out; omega, ?_, HTL.out.keep bW, hbel.trans bW⟩, ?_⟩
      · rw [Hup.out, ← HL.out]; exact e3
      · simp [lenV]; omega
end Go.Proofs.YtldknddgcbhllaaDoor
