/-
  The document's own Check, Row, Same (scriniumref15).
-/
import Derived.Test.YtbhalioajekfcaaRecRow
namespace Go.Proofs.Ytbhalioajekfcaa
open Go.RowKit

set_option maxHeartbeats 3200000 in
theorem rcheck_any (win idx tim : Int) (pay : ByteArray) (w : World) (hs : pay.size ≤ 9223372036854775807) :
    Calls Try.prog 15 #[.agg #[.int .i64 win, .int .i64 idx, .int .i64 tim, .string pay]] w fun e w' => e = .returned (.int .i64 (chkZ win idx tim pay)) ∧ Below w.heap.size w w' := by
  obtain ⟨p, hp⟩ : ∃ p, p = w.heap.size := ⟨_, rfl⟩
  obtain ⟨W, hW⟩ : ∃ W, W = w.alloc (.cells #[.int .i64 win, .int .i64 idx, .int .i64 tim, .string pay] 25) := ⟨_, rfl⟩
  have hb1 : Below w.heap.size w W := by rw [hW]; exact (Below.refl _ _).alloc (Nat.le_refl _) _
  have hr : RecAt p win idx tim pay W := by rw [hW, hp]; exact RecAt.alloc _ _ _ _ _
  have c0 := hr.c0
  have c1 := hr.c1
  have c2 := hr.c2
  have c3 := hr.c3
  have HW1 := Lib.hid hW
  have HP := Lib.hid hp
  clear hW hp hr
  by_cases t0 : win < 0
  · have e : chkZ win idx tim pay = 1 := by unfold chkZ; rw [if_neg (by simp only [chkB, mayB, Bool.and_eq_true, decide_eq_true_eq]; omega)]
    rw [e]
    clear e
    go_enter Try.func15, Try.ntmps15
    go_upto_region 1 with fail
    rw [← HW1.out, ← HP.out]
    clear HW1
    go_wp2
    go_ret
    exact ⟨rfl, hb1⟩
  by_cases t1 : 1125899906842624 < win
  · have e : chkZ win idx tim pay = 1 := by unfold chkZ; rw [if_neg (by simp only [chkB, mayB, Bool.and_eq_true, decide_eq_true_eq]; omega)]
    rw [e]
    clear e
    go_enter Try.func15, Try.ntmps15
    go_upto_region 1 with fail
    rw [← HW1.out, ← HP.out]
    clear HW1
    go_wp2
    go_ret
    exact ⟨rfl, hb1⟩
  by_cases t2 : tim < 0
  · have e : chkZ win idx tim pay = 1 := by unfold chkZ; rw [if_neg (by simp only [chkB, mayB, Bool.and_eq_true, decide_eq_true_eq]; omega)]
    rw [e]
    clear e
    go_enter Try.func15, Try.ntmps15
    go_upto_region 1 with fail
    rw [← HW1.out, ← HP.out]
    clear HW1
    go_wp2
    go_ret
    exact ⟨rfl, hb1⟩
  by_cases t3 : 1125899906842624 < tim
  · have e : chkZ win idx tim pay = 1 := by unfold chkZ; rw [if_neg (by simp only [chkB, mayB, Bool.and_eq_true, decide_eq_true_eq]; omega)]
    rw [e]
    clear e
    go_enter Try.func15, Try.ntmps15
    go_upto_region 1 with fail
    rw [← HW1.out, ← HP.out]
    clear HW1
    go_wp2
    go_ret
    exact ⟨rfl, hb1⟩
  by_cases t4 : idx < 0
  · have e : chkZ win idx tim pay = 1 := by unfold chkZ; rw [if_neg (by simp only [chkB, mayB, Bool.and_eq_true, decide_eq_true_eq]; omega)]
    rw [e]
    clear e
    go_enter Try.func15, Try.ntmps15
    go_upto_region 1 with fail
    rw [← HW1.out, ← HP.out]
    clear HW1
    go_wp2
    go_ret
    exact ⟨rfl, hb1⟩
  by_cases t5 : 3999 < idx
  · have e : chkZ win idx tim pay = 1 := by unfold chkZ; rw [if_neg (by simp only [chkB, mayB, Bool.and_eq_true, decide_eq_true_eq]; omega)]
    rw [e]
    clear e
    go_enter Try.func15, Try.ntmps15
    go_upto_region 1 with fail
    rw [← HW1.out, ← HP.out]
    clear HW1
    go_wp2
    go_ret
    exact ⟨rfl, hb1⟩
  have hc : chkB win idx tim = true := by simp only [chkB, mayB, Bool.and_eq_true, decide_eq_true_eq]; omega
  unfold chkZ
  rw [if_pos hc]
  clear hc
  by_cases hz : 2000 < pay.size
  · rw [if_pos hz]
    go_enter Try.func15, Try.ntmps15
    go_upto_region 1 with fail
    rw [← HW1.out, ← HP.out]
    clear HW1
    go_wp2
    go_ret
    exact ⟨rfl, hb1⟩
  · rw [if_neg hz]
    go_enter Try.func15, Try.ntmps15
    go_upto_region 1 with fail
    rw [← HW1.out, ← HP.out]
    clear HW1
    go_wp2
    go_ret
    exact ⟨rfl, hb1⟩
set_option maxHeartbeats 3200000 in
set_option maxRecDepth 100000 in
theorem rrow_any (v : Value) (l : List RecR) (w : World) (h : RowR w v l) (hl : l.length ≤ 1000) (hsm : ∀ r ∈ l, r.pay.size ≤ 1000) :
    Calls Try.prog 18 #[v] w fun e w' => e = .returned (.string ⟨(rowsL l).toArray⟩) ∧ Below w.heap.size w w' := by
  obtain ⟨a, cap, rfl⟩ := h.slice
  obtain ⟨n, hn⟩ : ∃ n, n = l.length := ⟨_, rfl⟩
  rw [← hn] at h hl ⊢
  have HH := Lib.hid h
  have HN := Lib.hid hn
  have HSM := Lib.hid hsm
  clear h hn hsm
  go_enter Try.func18, Try.ntmps18
  go_wp2
  go_loopw [3, 4] (fun s i wr => ∃ k : Nat, k ≤ n ∧ i = .int .i64 k ∧ s = .string ⟨(rowsL (l.take k)).toArray⟩ ∧ Below w.heap.size w wr)
    (fun _ i _ => n - (intOf i).toNat)
  case atStart => exact ⟨0, Nat.zero_le _, rfl, by simp [rowsL], Below.refl _ _⟩
  case round =>
    obtain ⟨k, hk, rfl, rfl, hbl⟩ := hrel
    by_cases hlt : k < n
    · obtain ⟨r, hr⟩ : ∃ r, l[k]? = some r := ⟨l[k]'(by rw [← HN.out]; exact hlt), List.getElem?_eq_getElem _⟩
      obtain ⟨b, off, rfl, hb, c0, c1, c2, c3⟩ := (HH.out.old hbl).at k r hr
      have hpz : r.pay.size ≤ 1000 := HSM.out r (List.mem_of_getElem? hr)
      have hst := rowsL_take l k r hr
      have htl := rowsL_length (l.take k) (fun t ht => HSM.out t (List.mem_of_mem_take ht))
      rw [List.length_take, Nat.min_eq_left (by rw [← HN.out]; exact hk)] at htl
      have hrb := rowB_eq r
      obtain ⟨win, idx, tim, pay⟩ := r
      simp only at c0 c1 c2 c3 hrb hpz
      obtain ⟨S0, hS0⟩ : ∃ S : ByteArray, S = ⟨(rowsL (l.take k)).toArray⟩ := ⟨_, rfl⟩
      have hS0z : S0.size ≤ 1018 * k := by rw [hS0, ByteArray.size, List.size_toArray]; exact htl
      have hS1 : S0 ++ Oct.putB (u64N tim) ++ (Oct.putB pay.size ++ pay) = ⟨(rowsL (l.take (k + 1))).toArray⟩ := by
        rw [hst, ← app_list, ← hrb, hS0, rowB, ByteArray.append_assoc]
      rw [← hS0]
      have l1 := putB_le (u64N tim) (u64N_lt tim)
      have l2 := putB_le pay.size (by omega)
      have hw1 := IntWalk.i64_in ((k : Int) + 1) (by omega)
      have hlt' : (k : Int) < (n : Int) := by omega
      have HS1 := Lib.hid hS1
      clear hr hst htl hrb hS0 hS1
      go_upto_region 5 with fail
      try simp only [Act.put]
      refine wp_region_tab [RT.is (.string S0), RT.is (.slice (some ⟨b, off, none⟩) n cap), RT.is (.int .i64 (k : Int)), RT.is (.pointer (some ⟨b, off + k * 4, none⟩)), RT.is (.pointer (some ⟨b, off + k * 4 + 2, none⟩)), RT.is (.int .i64 tim), RT.is (.int .u64 (u64N tim : Int)), RT.is (.string (Oct.putB (u64N tim))), RT.is (.string (S0 ++ Oct.putB (u64N tim))), RT.is (.slice (some ⟨b, off, none⟩) n cap), RT.is (.int .i64 (k : Int)), RT.is (.pointer (some ⟨b, off + k * 4, none⟩)), RT.is (.pointer (some ⟨b, off + k * 4 + 3, none⟩)), RT.is (.string pay), RT.is (.string (Oct.putB pay.size ++ pay)), RT.is (.string (S0 ++ Oct.putB (u64N tim) ++ (Oct.putB pay.size ++ pay))), RT.is (.string (S0 ++ Oct.putB (u64N tim) ++ (Oct.putB pay.size ++ pay)))] (by kernel_rfl) (by kernel_rfl) (by kernel_rfl) (by kernel_rfl) ⟨?_, ?_, ?_, ?_, ?_, ?_, ?_, ?_, ?_, ?_, ?_, ?_, ?_, ?_, ?_, ?_, ?_, trivial⟩ ?_
      · intro ac w' hF hL hP hU K hK
        have hB := below_undrew hL
        have e3 : ac.eval (.tmp 3) = .string S0 := by
          have hu := hU 16 3 (by kernel_rfl) rfl
          simp [Act.eval, hu]
        exact rop_move _ rfl e3 (wanted_none rfl) (hK _ _ (le8_refl _) rfl)
      · intro ac w' hF hL hP hU K hK
        have hB := below_undrew hL
        have e0 : ac.eval (.tmp 0) = .slice (some ⟨b, off, none⟩) n cap := hF.at 0 (by kernel_rfl)
        exact rop_move _ rfl e0 (wanted_none rfl) (hK _ _ (le8_refl _) rfl)
      · intro ac w' hF hL hP hU K hK
        have hB := below_undrew hL
        have e4 : ac.eval (.tmp 4) = .int .i64 (k : Int) := hF.at 4 (by kernel_rfl)
        exact rop_move _ rfl e4 (wanted_none rfl) (hK _ _ (le8_refl _) rfl)
      · intro ac w' hF hL hP hU K hK
        have hB := below_undrew hL
        have e12 : ac.eval (.tmp 12) = .slice (some ⟨b, off, none⟩) n cap := hP 1 (by kernel_rfl)
        have e13 : ac.eval (.tmp 13) = .int .i64 (k : Int) := hP 2 (by kernel_rfl)
        exact rop_idx _ _ _ rfl e12 e13 (index_rec b off n cap k hlt w') (wanted_none rfl) (hK _ _ (le8_refl _) rfl)
      · intro ac w' hF hL hP hU K hK
        have hB := below_undrew hL
        have e14 : ac.eval (.tmp 14) = .pointer (some ⟨b, off + k * 4, none⟩) := hP 3 (by kernel_rfl)
        exact rop_fld _ _ _ rfl e14 ((recFld b (off + k * 4) _).2.2.1) (wanted_none rfl) (hK _ _ (le8_refl _) rfl)
      · intro ac w' hF hL hP hU K hK
        have hB := below_undrew hL
        have e15 : ac.eval (.tmp 15) = .pointer (some ⟨b, off + k * 4 + 2, none⟩) := hP 4 (by kernel_rfl)
        exact rop_ld _ _ rfl e15 (load_intR ((hB.cell (p := ⟨b, _, none⟩) hb).trans c2)) (wanted_none rfl) (hK _ _ (le8_refl _) rfl)
      · intro ac w' hF hL hP hU K hK
        have hB := below_undrew hL
        have e16 : ac.eval (.tmp 16) = .int .i64 tim := hP 5 (by kernel_rfl)
        exact rop_convR _ _ _ rfl e16 (conv_u64 tim w') (wanted_none rfl) (hK _ _ (le8_refl _) rfl)
      · intro ac w' hF hL hP hU K hK
        have hB := below_undrew hL
        have e17 : ac.eval (.tmp 17) = .int .u64 (u64N tim : Int) := hP 6 (by kernel_rfl)
        refine rop_call 35 _ _ rfl #[.int .u64 (u64N tim : Int)] (by simp [e17]) (by kernel_rfl) (wanted_none rfl) ?_
        refine (refPut_any (u64N tim) w' (u64N_lt tim)).mono ?_
        rintro e w2 ⟨rfl, hb⟩
        exact ⟨_, rfl, hK _ _ hb rfl⟩
      · intro ac w' hF hL hP hU K hK
        have hB := below_undrew hL
        have e11 : ac.eval (.tmp 11) = .string S0 := hP 0 (by kernel_rfl)
        have e18 : ac.eval (.tmp 18) = .string (Oct.putB (u64N tim)) := hP 7 (by kernel_rfl)
        exact rop_bin _ _ _ _ _ rfl e11 e18 (guard_str _ _ _ _ _ _ w') (add_str _ _ (by omega) w') (wanted_none rfl) (hK _ _ (le8_refl _) rfl)
      · intro ac w' hF hL hP hU K hK
        have hB := below_undrew hL
        have e0 : ac.eval (.tmp 0) = .slice (some ⟨b, off, none⟩) n cap := hF.at 0 (by kernel_rfl)
        exact rop_move _ rfl e0 (wanted_none rfl) (hK _ _ (le8_refl _) rfl)
      · intro ac w' hF hL hP hU K hK
        have hB := below_undrew hL
        have e4 : ac.eval (.tmp 4) = .int .i64 (k : Int) := hF.at 4 (by kernel_rfl)
        exact rop_move _ rfl e4 (wanted_none rfl) (hK _ _ (le8_refl _) rfl)
      · intro ac w' hF hL hP hU K hK
        have hB := below_undrew hL
        have e20 : ac.eval (.tmp 20) = .slice (some ⟨b, off, none⟩) n cap := hP 9 (by kernel_rfl)
        have e21 : ac.eval (.tmp 21) = .int .i64 (k : Int) := hP 10 (by kernel_rfl)
        exact rop_idx _ _ _ rfl e20 e21 (index_rec b off n cap k hlt w') (wanted_none rfl) (hK _ _ (le8_refl _) rfl)
      · intro ac w' hF hL hP hU K hK
        have hB := below_undrew hL
        have e22 : ac.eval (.tmp 22) = .pointer (some ⟨b, off + k * 4, none⟩) := hP 11 (by kernel_rfl)
        exact rop_fld _ _ _ rfl e22 ((recFld b (off + k * 4) _).2.2.2) (wanted_none rfl) (hK _ _ (le8_refl _) rfl)
      · intro ac w' hF hL hP hU K hK
        have hB := below_undrew hL
        have e23 : ac.eval (.tmp 23) = .pointer (some ⟨b, off + k * 4 + 3, none⟩) := hP 12 (by kernel_rfl)
        exact rop_ld _ _ rfl e23 (load_strR ((hB.cell (p := ⟨b, _, none⟩) hb).trans c3)) (wanted_none rfl) (hK _ _ (le8_refl _) rfl)
      · intro ac w' hF hL hP hU K hK
        have hB := below_undrew hL
        have e24 : ac.eval (.tmp 24) = .string pay := hP 13 (by kernel_rfl)
        refine rop_call 36 _ _ rfl #[.string pay] (by simp [e24]) (by kernel_rfl) (wanted_none rfl) ?_
        refine (refText_any pay w' (by omega)).mono ?_
        rintro e w2 ⟨rfl, hb⟩
        exact ⟨_, rfl, hK _ _ hb rfl⟩
      · intro ac w' hF hL hP hU K hK
        have hB := below_undrew hL
        have e19 : ac.eval (.tmp 19) = .string (S0 ++ Oct.putB (u64N tim)) := hP 8 (by kernel_rfl)
        have e25 : ac.eval (.tmp 25) = .string (Oct.putB pay.size ++ pay) := hP 14 (by kernel_rfl)
        exact rop_bin _ _ _ _ _ rfl e19 e25 (guard_str _ _ _ _ _ _ w') (add_str _ _ (by simp only [ByteArray.size_append]; omega) w') (wanted_none rfl) (hK _ _ (le8_refl _) rfl)
      · intro ac w' hF hL hP hU K hK
        have hB := below_undrew hL
        have e26 : ac.eval (.tmp 26) = .string (S0 ++ Oct.putB (u64N tim) ++ (Oct.putB pay.size ++ pay)) := hP 15 (by kernel_rfl)
        exact rop_assign _ rfl e26 (wanted_none rfl) (hK _ _ (le8_refl _) rfl)
      · intro ac w' hF hB hT
        have e3 : ac.eval (.tmp 3) = .string (S0 ++ Oct.putB (u64N tim) ++ (Oct.putB pay.size ++ pay)) := hT 16 (by decide)
        rw [hF.setsG [11, 12, 13, 14, 15, 16, 17, 18, 19, 20, 21, 22, 23, 24, 25, 26, 3] (by kernel_rfl)]
        simp only [List.foldl_cons, List.foldl_nil, List.setIfInBounds_toArray, List.set_cons_succ, List.set_cons_zero, e3]
        generalize ac.eval (.tmp 11) = u11
        generalize ac.eval (.tmp 12) = u12
        generalize ac.eval (.tmp 13) = u13
        generalize ac.eval (.tmp 14) = u14
        generalize ac.eval (.tmp 15) = u15
        generalize ac.eval (.tmp 16) = u16
        generalize ac.eval (.tmp 17) = u17
        generalize ac.eval (.tmp 18) = u18
        generalize ac.eval (.tmp 19) = u19
        generalize ac.eval (.tmp 20) = u20
        generalize ac.eval (.tmp 21) = u21
        generalize ac.eval (.tmp 22) = u22
        generalize ac.eval (.tmp 23) = u23
        generalize ac.eval (.tmp 24) = u24
        generalize ac.eval (.tmp 25) = u25
        generalize ac.eval (.tmp 26) = u26
        clear e3 hT hF ac
        have hbw := below_step hbl (Nat.le_refl _) hB
        clear hB c0 c1 c2 c3
        rw [HS1.out]
        go_wp2
        go_roundw
        case rel => exact ⟨k + 1, by omega, by go_num, rfl, hbw⟩
        case measure => simp [intOf]; omega
    · have e : l.take k = l := List.take_of_length_le (by rw [← HN.out]; omega)
      rw [e]
      clear e
      go_wp2
      go_ret
      exact ⟨rfl, hbl⟩
theorem neq_rec_f (win idx tim : Int) (pay : ByteArray) (w : World) : (binOp .neq 25 (.agg #[.int .i64 win, .int .i64 idx, .int .i64 tim, .string pay]) (.agg #[.int .i64 win, .int .i64 idx, .int .i64 tim, .string pay])).run Try.prog w = .ok (.bool false) w := by
  go_simp
theorem guard_rec (op : BinOp) (x y : Operand) (u v : Array Value) (w : World) : (eqGuard op 25 x y (.agg u) (.agg v)).run Try.prog w = .ok () w := run_eqGuard_agg w op 25 x y _ _ (by kernel_rfl)
set_option maxHeartbeats 3200000 in
set_option maxRecDepth 100000 in
theorem same15_any (va vb : Value) (l : List RecR) (w : World) (ha : RowR w va l) (hb : RowR w vb l) (hn : l.length ≤ 1000000) :
    Calls Try.prog 14 #[va, vb] w fun e w' => e = .returned (.bool true) ∧ Below w.heap.size w w' := by
  obtain ⟨aa, ca, rfl⟩ := ha.slice
  obtain ⟨ab, cb, rfl⟩ := hb.slice
  obtain ⟨n, hnn⟩ : ∃ n, n = l.length := ⟨_, rfl⟩
  rw [← hnn] at ha hb hn ⊢
  have Hn := Lib.hid hnn
  have HA := Lib.hid ha
  have HBb := Lib.hid hb
  clear hnn ha hb
  go_enter Try.func14, Try.ntmps14
  go_wp2
  go_loopw [5] (fun s5 wr => (∃ i : Nat, s5 = .int .i64 (i : Int) ∧ i ≤ n) ∧ Below w.heap.size w wr) (fun s5 _ => n - (intOf s5).toNat)
  case atStart => exact ⟨⟨0, rfl, by omega⟩, Below.refl _ _⟩
  case round =>
    obtain ⟨⟨i, rfl, hi⟩, hbel⟩ := hrel
    by_cases hin : i < n
    · have hlt' : (i : Int) < (n : Int) := by omega
      have hw1 := IntWalk.i64_in ((i : Int) + 1) (by omega)
      obtain ⟨r, hr⟩ : ∃ r, l[i]? = some r := ⟨l[i]'(by rw [← Hn.out]; exact hin), List.getElem?_eq_getElem _⟩
      obtain ⟨g, o1, rfl, hg, c0, c1, c2, c3⟩ := (HA.out.old hbel).at i r hr
      obtain ⟨h, o2, rfl, hh, d0, d1, d2, d3⟩ := (HBb.out.old hbel).at i r hr
      obtain ⟨win, idx, tim, pay⟩ := r
      simp only at c0 c1 c2 c3 d0 d1 d2 d3
      clear hr
      go_upto_region 6 with (fail)
      try simp only [Act.put]
      refine wp_region_tab [RT.is (.slice (some ⟨g, o1, none⟩) n ca), RT.is (.int .i64 (i : Int)), RT.is (.pointer (some ⟨g, o1 + i * 4, none⟩)), RT.is (.agg #[.int .i64 win, .int .i64 idx, .int .i64 tim, .string pay]), RT.is (.slice (some ⟨h, o2, none⟩) n cb), RT.is (.int .i64 (i : Int)), RT.is (.pointer (some ⟨h, o2 + i * 4, none⟩)), RT.is (.agg #[.int .i64 win, .int .i64 idx, .int .i64 tim, .string pay]), RT.is (.bool false)] (by kernel_rfl) (by kernel_rfl) (by kernel_rfl) (by kernel_rfl) ⟨?_, ?_, ?_, ?_, ?_, ?_, ?_, ?_, ?_, trivial⟩ ?_
      · intro ac w' hF hL hP hU K hK
        have hB := below_undrew hL
        have e0 : ac.eval (.tmp 0) = .slice (some ⟨g, o1, none⟩) n ca := hF.at 0 (by kernel_rfl)
        exact rop_move _ rfl e0 (wanted_none rfl) (hK _ _ (le8_refl _) rfl)
      · intro ac w' hF hL hP hU K hK
        have hB := below_undrew hL
        have e5 : ac.eval (.tmp 5) = .int .i64 (i : Int) := hF.at 5 (by kernel_rfl)
        exact rop_move _ rfl e5 (wanted_none rfl) (hK _ _ (le8_refl _) rfl)
      · intro ac w' hF hL hP hU K hK
        have hB := below_undrew hL
        have e17 : ac.eval (.tmp 17) = .slice (some ⟨g, o1, none⟩) n ca := hP 0 (by kernel_rfl)
        have e18 : ac.eval (.tmp 18) = .int .i64 (i : Int) := hP 1 (by kernel_rfl)
        exact rop_idx _ _ _ rfl e17 e18 (index_rec g o1 n ca i hin w') (wanted_none rfl) (hK _ _ (le8_refl _) rfl)
      · intro ac w' hF hL hP hU K hK
        have hB := below_undrew hL
        have e19 : ac.eval (.tmp 19) = .pointer (some ⟨g, o1 + i * 4, none⟩) := hP 2 (by kernel_rfl)
        exact rop_ld _ _ rfl e19 (load_recR ((hB.cell (p := ⟨g, _, none⟩) hg).trans c0) ((hB.cell (p := ⟨g, _, none⟩) hg).trans c1) ((hB.cell (p := ⟨g, _, none⟩) hg).trans c2) ((hB.cell (p := ⟨g, _, none⟩) hg).trans c3)) (wanted_none rfl) (hK _ _ (le8_refl _) rfl)
      · intro ac w' hF hL hP hU K hK
        have hB := below_undrew hL
        have e1 : ac.eval (.tmp 1) = .slice (some ⟨h, o2, none⟩) n cb := hF.at 1 (by kernel_rfl)
        exact rop_move _ rfl e1 (wanted_none rfl) (hK _ _ (le8_refl _) rfl)
      · intro ac w' hF hL hP hU K hK
        have hB := below_undrew hL
        have e5 : ac.eval (.tmp 5) = .int .i64 (i : Int) := hF.at 5 (by kernel_rfl)
        exact rop_move _ rfl e5 (wanted_none rfl) (hK _ _ (le8_refl _) rfl)
      · intro ac w' hF hL hP hU K hK
        have hB := below_undrew hL
        have e21 : ac.eval (.tmp 21) = .slice (some ⟨h, o2, none⟩) n cb := hP 4 (by kernel_rfl)
        have e22 : ac.eval (.tmp 22) = .int .i64 (i : Int) := hP 5 (by kernel_rfl)
        exact rop_idx _ _ _ rfl e21 e22 (index_rec h o2 n cb i hin w') (wanted_none rfl) (hK _ _ (le8_refl _) rfl)
      · intro ac w' hF hL hP hU K hK
        have hB := below_undrew hL
        have e23 : ac.eval (.tmp 23) = .pointer (some ⟨h, o2 + i * 4, none⟩) := hP 6 (by kernel_rfl)
        exact rop_ld _ _ rfl e23 (load_recR ((hB.cell (p := ⟨h, _, none⟩) hh).trans d0) ((hB.cell (p := ⟨h, _, none⟩) hh).trans d1) ((hB.cell (p := ⟨h, _, none⟩) hh).trans d2) ((hB.cell (p := ⟨h, _, none⟩) hh).trans d3)) (wanted_none rfl) (hK _ _ (le8_refl _) rfl)
      · intro ac w' hF hL hP hU K hK
        have hB := below_undrew hL
        have e20 : ac.eval (.tmp 20) = .agg #[.int .i64 win, .int .i64 idx, .int .i64 tim, .string pay] := hP 3 (by kernel_rfl)
        have e24 : ac.eval (.tmp 24) = .agg #[.int .i64 win, .int .i64 idx, .int .i64 tim, .string pay] := hP 7 (by kernel_rfl)
        exact rop_bin _ _ _ _ _ rfl e20 e24 (guard_rec _ _ _ _ _ w') (neq_rec_f _ _ _ _ w') (wanted_none rfl) (hK _ _ (le8_refl _) rfl)
      · intro ac w' hF hB hT
        have e25 : ac.eval (.tmp 25) = .bool false := hT 8 (by decide)
        rw [hF.setsG [17, 18, 19, 20, 21, 22, 23, 24, 25] (by kernel_rfl)]
        simp only [List.foldl_cons, List.foldl_nil, List.setIfInBounds_toArray, List.set_cons_succ, List.set_cons_zero, e25]
        generalize ac.eval (.tmp 17) = u17
        generalize ac.eval (.tmp 18) = u18
        generalize ac.eval (.tmp 19) = u19
        generalize ac.eval (.tmp 20) = u20
        generalize ac.eval (.tmp 21) = u21
        generalize ac.eval (.tmp 22) = u22
        generalize ac.eval (.tmp 23) = u23
        generalize ac.eval (.tmp 24) = u24
        clear e25 hT hF ac
        have hbw : Below w.heap.size w w' := below_step hbel (Nat.le_refl _) hB
        clear hB c0 c1 c2 c3 d0 d1 d2 d3
        go_wp2
        exact ⟨⟨⟨i + 1, by simp, by omega⟩, hbw⟩, by simp [intOf]; omega⟩
    · have hlt' : ¬ (i : Int) < (n : Int) := by omega
      go_wp2
      go_ret
      exact ⟨rfl, hbel⟩
end Go.Proofs.Ytbhalioajekfcaa
