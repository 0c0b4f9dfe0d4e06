/-
  Package record: Leaf; the document's own Bytes and Leaf (scriniumref15).
-/
import Derived.Test.YtbhalioajekfcaaDoorRecArg
import Derived.Test.YtbhalioajekfcaaDoorMLeafB
namespace Go.Proofs.YtbhalioajekfcaaDoor
open Go.RowKit

set_option maxHeartbeats 3200000 in
set_option maxRecDepth 100000 in
theorem rRecBytes_any (win idx tim : Int) (pay : ByteArray) (w : World) (hs : pay.size ≤ 1000000000) :
    Calls Tryd.prog 7 #[.agg #[.int .i64 win, .int .i64 idx, .int .i64 tim, .string pay]] w fun e w' => e = .returned (.tuple #[.string (bytV win idx tim pay), .int .i64 (chkZ win idx tim pay)]) ∧ Below w.heap.size w w' := by
  have l1 := putB_le (u64N win) (u64N_lt win)
  have l2 := putB_le (u64N idx) (u64N_lt idx)
  have l3 := putB_le (u64N tim) (u64N_lt tim)
  have l4 := putB_le pay.size (by omega)
  obtain ⟨p, hp⟩ : ∃ p, p = w.heap.size := ⟨_, rfl⟩
  obtain ⟨W, hW⟩ : ∃ W, W = w.alloc (.cells #[.int .i64 win, .int .i64 idx, .int .i64 tim, .string pay] 23) := ⟨_, rfl⟩
  have hb1 : Below w.heap.size w W := by rw [hW]; exact (Below.refl _ _).alloc (Nat.le_refl _) _
  have hr : RecAt p win idx tim pay W := by rw [hW, hp]; exact RecAt.alloc _ _ _ _ _
  have hp1 : p < W.heap.size := hr.lt
  have c0 := hr.c0
  have c1 := hr.c1
  have c2 := hr.c2
  have c3 := hr.c3
  have HW1 := Lib.hid hW
  have HP := Lib.hid hp
  have HR := Lib.hid hr
  clear hW hp hr
  have qc := rcheck_any win idx tim pay W (by omega)
  by_cases hc : chkZ win idx tim pay = 0
  · rw [show bytV win idx tim pay = bytB win idx tim pay from if_pos hc]
    have hbb : Oct.putB (u64N win) ++ Oct.putB (u64N idx) ++ Oct.putB (u64N tim) ++ (Oct.putB pay.size ++ pay) = bytB win idx tim pay := by rw [bytB, rowB, ByteArray.append_assoc]
    have HBB := Lib.hid hbb
    rw [hc] at qc ⊢
    clear hbb
    go_enter Tryd.func7, Tryd.ntmps7
    go_upto_region 1 with fail
    rw [← HW1.out, ← HP.out]
    clear HW1
    go_upto_region 4 with (go_at_call 9; ((with_reducible refine qc.mono ?_); rintro e w5 ⟨rfl, b5⟩))
    replace hb1 := below_step hb1 (Nat.le_refl _) b5
    have HR2 := Lib.hid (HR.out.old b5 hp1)
    have hp5 : p < w5.heap.size := HR2.out.lt
    clear HR c0 c1 c2 c3 b5 hc hp1
    have HR := HR2
    have hp1 := hp5
    have c0 := HR.out.c0
    have c1 := HR.out.c1
    have c2 := HR.out.c2
    have c3 := HR.out.c3
    clear hp5 HR2
    try simp only [Act.put]
    refine wp_region_tab [RT.is (.pointer (some ⟨p, 0, none⟩)), RT.is (.int .i64 win), RT.is (.int .u64 (u64N win : Int)), RT.is (.string (Oct.putB (u64N win))), RT.is (.pointer (some ⟨p, 1, none⟩)), RT.is (.int .i64 idx), RT.is (.int .u64 (u64N idx : Int)), RT.is (.string (Oct.putB (u64N idx))), RT.is (.string (Oct.putB (u64N win) ++ Oct.putB (u64N idx))), RT.is (.pointer (some ⟨p, 2, none⟩)), RT.is (.int .i64 tim), RT.is (.int .u64 (u64N tim : Int)), RT.is (.string (Oct.putB (u64N tim))), RT.is (.string (Oct.putB (u64N win) ++ Oct.putB (u64N idx) ++ Oct.putB (u64N tim))), RT.is (.pointer (some ⟨p, 3, none⟩)), RT.is (.string pay), RT.is (.string (Oct.putB pay.size ++ pay)), RT.is (.string (Oct.putB (u64N win) ++ Oct.putB (u64N idx) ++ Oct.putB (u64N tim) ++ (Oct.putB pay.size ++ pay))), RT.is (.string (Oct.putB (u64N win) ++ Oct.putB (u64N idx) ++ Oct.putB (u64N tim) ++ (Oct.putB pay.size ++ pay))), RT.is (.int .i64 0)] (by kernel_rfl) (by kernel_rfl) (by kernel_rfl) (by kernel_rfl) ⟨?_, ?_, ?_, ?_, ?_, ?_, ?_, ?_, ?_, ?_, ?_, ?_, ?_, ?_, ?_, ?_, ?_, ?_, ?_, ?_, trivial⟩ ?_
    · intro ac w' hF hL hP hU K hK
      have hB := below_undrew hL
      have e1 : ac.eval (.tmp 1) = .pointer (some ⟨p, 0, none⟩) := hF.at 1 (by kernel_rfl)
      exact rop_fld _ _ _ rfl e1 ((recFld0 p _).1) (wanted_none rfl) (hK _ _ (le8_refl _) rfl)
    · intro ac w' hF hL hP hU K hK
      have hB := below_undrew hL
      have e10 : ac.eval (.tmp 10) = .pointer (some ⟨p, 0, none⟩) := hP 0 (by kernel_rfl)
      exact rop_ld _ _ rfl e10 (load_intR ((hB.cell (p := ⟨p, _, none⟩) hp1).trans c0)) (wanted_none rfl) (hK _ _ (le8_refl _) rfl)
    · intro ac w' hF hL hP hU K hK
      have hB := below_undrew hL
      have e11 : ac.eval (.tmp 11) = .int .i64 win := hP 1 (by kernel_rfl)
      exact rop_convR _ _ _ rfl e11 (conv_u64 win w') (wanted_none rfl) (hK _ _ (le8_refl _) rfl)
    · intro ac w' hF hL hP hU K hK
      have hB := below_undrew hL
      have e12 : ac.eval (.tmp 12) = .int .u64 (u64N win : Int) := hP 2 (by kernel_rfl)
      refine rop_call 18 _ _ rfl #[.int .u64 (u64N win : Int)] (by simp [e12]) (by kernel_rfl) (wanted_none rfl) ?_
      refine (refPut_any (u64N win) w' (u64N_lt win)).mono ?_
      rintro e w2 ⟨rfl, hb⟩
      exact ⟨_, rfl, hK _ _ hb rfl⟩
    · intro ac w' hF hL hP hU K hK
      have hB := below_undrew hL
      have e1 : ac.eval (.tmp 1) = .pointer (some ⟨p, 0, none⟩) := hF.at 1 (by kernel_rfl)
      exact rop_fld _ _ _ rfl e1 ((recFld0 p _).2.1) (wanted_none rfl) (hK _ _ (le8_refl _) rfl)
    · intro ac w' hF hL hP hU K hK
      have hB := below_undrew hL
      have e14 : ac.eval (.tmp 14) = .pointer (some ⟨p, 1, none⟩) := hP 4 (by kernel_rfl)
      exact rop_ld _ _ rfl e14 (load_intR ((hB.cell (p := ⟨p, _, none⟩) hp1).trans c1)) (wanted_none rfl) (hK _ _ (le8_refl _) rfl)
    · intro ac w' hF hL hP hU K hK
      have hB := below_undrew hL
      have e15 : ac.eval (.tmp 15) = .int .i64 idx := hP 5 (by kernel_rfl)
      exact rop_convR _ _ _ rfl e15 (conv_u64 idx w') (wanted_none rfl) (hK _ _ (le8_refl _) rfl)
    · intro ac w' hF hL hP hU K hK
      have hB := below_undrew hL
      have e16 : ac.eval (.tmp 16) = .int .u64 (u64N idx : Int) := hP 6 (by kernel_rfl)
      refine rop_call 18 _ _ rfl #[.int .u64 (u64N idx : Int)] (by simp [e16]) (by kernel_rfl) (wanted_none rfl) ?_
      refine (refPut_any (u64N idx) w' (u64N_lt idx)).mono ?_
      rintro e w2 ⟨rfl, hb⟩
      exact ⟨_, rfl, hK _ _ hb rfl⟩
    · intro ac w' hF hL hP hU K hK
      have hB := below_undrew hL
      have e13 : ac.eval (.tmp 13) = .string (Oct.putB (u64N win)) := hP 3 (by kernel_rfl)
      have e17 : ac.eval (.tmp 17) = .string (Oct.putB (u64N idx)) := hP 7 (by kernel_rfl)
      exact rop_bin _ _ _ _ _ rfl e13 e17 (guard_str _ _ _ _ _ _ w') (add_str _ _ (by omega) w') (wanted_none rfl) (hK _ _ (le8_refl _) rfl)
    · intro ac w' hF hL hP hU K hK
      have hB := below_undrew hL
      have e1 : ac.eval (.tmp 1) = .pointer (some ⟨p, 0, none⟩) := hF.at 1 (by kernel_rfl)
      exact rop_fld _ _ _ rfl e1 ((recFld0 p _).2.2.1) (wanted_none rfl) (hK _ _ (le8_refl _) rfl)
    · intro ac w' hF hL hP hU K hK
      have hB := below_undrew hL
      have e19 : ac.eval (.tmp 19) = .pointer (some ⟨p, 2, none⟩) := hP 9 (by kernel_rfl)
      exact rop_ld _ _ rfl e19 (load_intR ((hB.cell (p := ⟨p, _, none⟩) hp1).trans c2)) (wanted_none rfl) (hK _ _ (le8_refl _) rfl)
    · intro ac w' hF hL hP hU K hK
      have hB := below_undrew hL
      have e20 : ac.eval (.tmp 20) = .int .i64 tim := hP 10 (by kernel_rfl)
      exact rop_convR _ _ _ rfl e20 (conv_u64 tim w') (wanted_none rfl) (hK _ _ (le8_refl _) rfl)
    · intro ac w' hF hL hP hU K hK
      have hB := below_undrew hL
      have e21 : ac.eval (.tmp 21) = .int .u64 (u64N tim : Int) := hP 11 (by kernel_rfl)
      refine rop_call 18 _ _ rfl #[.int .u64 (u64N tim : Int)] (by simp [e21]) (by kernel_rfl) (wanted_none rfl) ?_
      refine (refPut_any (u64N tim) w' (u64N_lt tim)).mono ?_
      rintro e w2 ⟨rfl, hb⟩
      exact ⟨_, rfl, hK _ _ hb rfl⟩
    · intro ac w' hF hL hP hU K hK
      have hB := below_undrew hL
      have e18 : ac.eval (.tmp 18) = .string (Oct.putB (u64N win) ++ Oct.putB (u64N idx)) := hP 8 (by kernel_rfl)
      have e22 : ac.eval (.tmp 22) = .string (Oct.putB (u64N tim)) := hP 12 (by kernel_rfl)
      exact rop_bin _ _ _ _ _ rfl e18 e22 (guard_str _ _ _ _ _ _ w') (add_str _ _ (by simp only [ByteArray.size_append]; omega) w') (wanted_none rfl) (hK _ _ (le8_refl _) rfl)
    · intro ac w' hF hL hP hU K hK
      have hB := below_undrew hL
      have e1 : ac.eval (.tmp 1) = .pointer (some ⟨p, 0, none⟩) := hF.at 1 (by kernel_rfl)
      exact rop_fld _ _ _ rfl e1 ((recFld0 p _).2.2.2) (wanted_none rfl) (hK _ _ (le8_refl _) rfl)
    · intro ac w' hF hL hP hU K hK
      have hB := below_undrew hL
      have e24 : ac.eval (.tmp 24) = .pointer (some ⟨p, 3, none⟩) := hP 14 (by kernel_rfl)
      exact rop_ld _ _ rfl e24 (load_strR ((hB.cell (p := ⟨p, _, none⟩) hp1).trans c3)) (wanted_none rfl) (hK _ _ (le8_refl _) rfl)
    · intro ac w' hF hL hP hU K hK
      have hB := below_undrew hL
      have e25 : ac.eval (.tmp 25) = .string pay := hP 15 (by kernel_rfl)
      refine rop_call 19 _ _ rfl #[.string pay] (by simp [e25]) (by kernel_rfl) (wanted_none rfl) ?_
      refine (refText_any pay w' (by omega)).mono ?_
      rintro e w2 ⟨rfl, hb⟩
      exact ⟨_, rfl, hK _ _ hb rfl⟩
    · intro ac w' hF hL hP hU K hK
      have hB := below_undrew hL
      have e23 : ac.eval (.tmp 23) = .string (Oct.putB (u64N win) ++ Oct.putB (u64N idx) ++ Oct.putB (u64N tim)) := hP 13 (by kernel_rfl)
      have e26 : ac.eval (.tmp 26) = .string (Oct.putB pay.size ++ pay) := hP 16 (by kernel_rfl)
      exact rop_bin _ _ _ _ _ rfl e23 e26 (guard_str _ _ _ _ _ _ w') (add_str _ _ (by simp only [ByteArray.size_append]; omega) w') (wanted_none rfl) (hK _ _ (le8_refl _) rfl)
    · intro ac w' hF hL hP hU K hK
      have hB := below_undrew hL
      have e27 : ac.eval (.tmp 27) = .string (Oct.putB (u64N win) ++ Oct.putB (u64N idx) ++ Oct.putB (u64N tim) ++ (Oct.putB pay.size ++ pay)) := hP 17 (by kernel_rfl)
      exact rop_assign _ rfl e27 (wanted_none rfl) (hK _ _ (le8_refl _) rfl)
    · intro ac w' hF hL hP hU K hK
      have hB := below_undrew hL
      exact rop_assign _ rfl rfl (wanted_none rfl) (hK _ _ (le8_refl _) rfl)
    · intro ac w' hF hB hT
      have e2 : ac.eval (.tmp 2) = .string (Oct.putB (u64N win) ++ Oct.putB (u64N idx) ++ Oct.putB (u64N tim) ++ (Oct.putB pay.size ++ pay)) := hT 18 (by decide)
      have e3 : ac.eval (.tmp 3) = .int .i64 0 := hT 19 (by decide)
      rw [hF.setsG [10, 11, 12, 13, 14, 15, 16, 17, 18, 19, 20, 21, 22, 23, 24, 25, 26, 27, 2, 3] (by kernel_rfl)]
      simp only [List.foldl_cons, List.foldl_nil, List.setIfInBounds_toArray, List.set_cons_succ, List.set_cons_zero, e2, e3]
      generalize ac.eval (.tmp 10) = u10
      generalize ac.eval (.tmp 11) = u11
      generalize ac.eval (.tmp 12) = u12
      generalize ac.eval (.tmp 13) = u13
      generalize ac.eval (.tmp 14) = u14
      generalize ac.eval (.tmp 15) = u15
      generalize ac.eval (.tmp 16) = u16
      generalize ac.eval (.tmp 17) = u17
      generalize ac.eval (.tmp 18) = u18
      generalize ac.eval (.tmp 19) = u19
      generalize ac.eval (.tmp 20) = u20
      generalize ac.eval (.tmp 21) = u21
      generalize ac.eval (.tmp 22) = u22
      generalize ac.eval (.tmp 23) = u23
      generalize ac.eval (.tmp 24) = u24
      generalize ac.eval (.tmp 25) = u25
      generalize ac.eval (.tmp 26) = u26
      generalize ac.eval (.tmp 27) = u27
      clear e2 e3 hT hF ac
      have hbw := below_step hb1 (Nat.le_refl _) hB
      clear hB c0 c1 c2 c3
      rw [HBB.out]
      go_wp2
      go_ret2
      exact ⟨rfl, hbw⟩
  · rw [show bytV win idx tim pay = ⟨#[]⟩ from if_neg hc]
    generalize chkZ win idx tim pay = z at *
    go_enter Tryd.func7, Tryd.ntmps7
    go_upto_region 1 with fail
    rw [← HW1.out, ← HP.out]
    clear HW1
    go_wp2_with (go_at_call 9; ((with_reducible refine qc.mono ?_); rintro e w5 ⟨rfl, b5⟩))
    go_ret2
    exact ⟨rfl, below_step hb1 (Nat.le_refl _) b5⟩
theorem bytV_size (win idx tim : Int) (pay : ByteArray) (hs : pay.size ≤ 1000000000) : (bytV win idx tim pay).size ≤ pay.size + 100 := by
  have l1 := putB_le (u64N win) (u64N_lt win)
  have l2 := putB_le (u64N idx) (u64N_lt idx)
  have l3 := rowB_size tim pay (by omega)
  unfold bytV
  split
  · simp only [bytB, ByteArray.size_append]; omega
  · show (0 : Nat) ≤ _; omega
/-- The leaf of a record. -/
def recLf (win idx tim : Int) (pay : ByteArray) : List UInt8 := Tree.leafH (bytV win idx tim pay).data.toList
set_option maxHeartbeats 3200000 in
set_option maxRecDepth 100000 in
theorem recLeaf_any (win idx tim : Int) (pay : ByteArray) (w : World) (hK : KT w) (hs : pay.size ≤ 1000000000) :
    Calls Tryd.prog 10 #[.agg #[.int .i64 win, .int .i64 idx, .int .i64 tim, .string pay]] w fun e w' => e = .returned (sumV (recLf win idx tim pay)) ∧ Below w.heap.size w w' := by
  obtain ⟨S, hS⟩ : ∃ S, S = bytV win idx tim pay := ⟨_, rfl⟩
  obtain ⟨z, hz⟩ : ∃ z, z = chkZ win idx tim pay := ⟨_, rfl⟩
  obtain ⟨D, hD⟩ : ∃ D, D = recLf win idx tim pay := ⟨_, rfl⟩
  have hDl : D.length = 32 := by rw [hD]; exact Tree.leafH_length _
  have hSz := bytV_size win idx tim pay hs
  rw [← hS] at hSz
  have qb := fun u => recBytes_any win idx tim pay u hs
  rw [← hS, ← hz] at qb
  have ql : ∀ u, KT u → Calls Tryd.prog 21 #[.string S] u fun e w' => e = .returned (sumV D) ∧ Below u.heap.size u w' := fun u hk => by rw [hD, recLf, ← hS]; exact leafLeaf_any S S.data.toList rfl u hk (by rw [← Lib.size_eq]; omega)
  have QL := Lib.hid ql
  rw [← hD]
  have HDl := Lib.hid hDl
  obtain ⟨p, hp⟩ : ∃ p, p = w.heap.size := ⟨_, rfl⟩
  obtain ⟨q, hq⟩ : ∃ q, q = p + 1 := ⟨_, rfl⟩
  obtain ⟨W, hW⟩ : ∃ W, W = w.alloc (.cells #[.int .i64 win, .int .i64 idx, .int .i64 tim, .string pay] 23) := ⟨_, rfl⟩
  obtain ⟨V, hV⟩ : ∃ V, V = W.alloc zSum := ⟨_, rfl⟩
  have b1 : Below w.heap.size w W := by rw [hW]; exact below_box' _ _
  have b2 : Below W.heap.size W V := by rw [hV]; exact below_box' _ _
  have hWs : W.heap.size = q := by rw [hW, hq, hp]; simp
  have g1 : RecAt p win idx tim pay W := by rw [hW, hp]; exact RecAt.alloc _ _ _ _ _
  have h1 := g1.old b2 g1.lt
  have z0 : V.heap[q]? = some (.cells ((List.replicate 32 (0 : UInt8)).map u8V).toArray 32 (0, 0)) := by rw [hV, ← hWs]; exact heap_alloc_last _ _
  have hb := below_step b1 (Nat.le_refl _) b2
  have hqw : w.heap.size ≤ q := by omega
  have l0 : q < V.heap.size := (Array.getElem?_eq_some_iff.1 z0).1
  have Hz0 := Lib.hid z0
  have HW := Lib.hid hW
  have HV := Lib.hid hV
  have HP := Lib.hid hp
  have HQ := Lib.hid hq
  have c0 := h1.c0
  have c1 := h1.c1
  have c2 := h1.c2
  have c3 := h1.c3
  clear hD hDl hS hz hSz ql hp hq hW hV b1 b2 hWs g1 z0 h1
  go_enter Tryd.func10, Tryd.ntmps10
  go_upto_region 1 with (fail)
  rw [← HW.out, ← HP.out]
  change Code.wp _ _ _ _ (W.alloc zSum)
  rw [← HV.out, ← HQ.out]
  clear HW HV
  go_wp2_with (first
    | (go_at_call 6; ((with_reducible refine (qb _).mono ?_); rintro e w4 ⟨rfl, b4⟩))
    | (go_at_call 21; ((with_reducible refine (QL.out _ ((hK.old hb).old b4)).mono ?_); rintro e w5 ⟨rfl, b5⟩; have b45 := below_step b4 (Nat.le_refl _) b5; have z2 := Lib.hid ((b45.block _ l0).trans Hz0.out)))
    | refine wpList_store_mid rfl 32 (.tmp 2) (.tmp 11) rfl q 0 (D.map u8V).toArray rfl rfl (sum_there z2.out HDl.out) (sum_info HDl.out) (sum_one D) ?_)
  exact bodyPost_ret (v := sumV D) (results_cell (t := 2) (ty := 32) (b := q) (cs := D.map u8V) rfl _ _ _ rfl (sum_range z2.out HDl.out) Tryd.underlying32 rfl (sum_info' HDl.out)) rfl ⟨rfl, below_setCells hqw _ _ _ (below_step hb (Nat.le_refl _) b45)⟩
set_option maxHeartbeats 3200000 in
set_option maxRecDepth 100000 in
theorem rRecLeaf_any (win idx tim : Int) (pay : ByteArray) (w : World) (hs : pay.size ≤ 1000000000) :
    Calls Tryd.prog 11 #[.agg #[.int .i64 win, .int .i64 idx, .int .i64 tim, .string pay]] w fun e w' => e = .returned (sumV (recLf win idx tim pay)) ∧ Below w.heap.size w w' := by
  obtain ⟨S, hS⟩ : ∃ S, S = bytV win idx tim pay := ⟨_, rfl⟩
  obtain ⟨z, hz⟩ : ∃ z, z = chkZ win idx tim pay := ⟨_, rfl⟩
  obtain ⟨D, hD⟩ : ∃ D, D = recLf win idx tim pay := ⟨_, rfl⟩
  have hDl : D.length = 32 := by rw [hD]; exact Tree.leafH_length _
  have hSz := bytV_size win idx tim pay hs
  rw [← hS] at hSz
  have qb := fun u => rRecBytes_any win idx tim pay u hs
  rw [← hS, ← hz] at qb
  have ql : ∀ u, Calls Tryd.prog 22 #[.string S] u fun e w' => e = .returned (sumV D) ∧ Below u.heap.size u w' := fun u => by rw [hD, recLf, ← hS]; exact rleafLeaf_any S S.data.toList rfl u (by omega)
  have QL := Lib.hid ql
  rw [← hD]
  have HDl := Lib.hid hDl
  obtain ⟨p, hp⟩ : ∃ p, p = w.heap.size := ⟨_, rfl⟩
  obtain ⟨q, hq⟩ : ∃ q, q = p + 1 := ⟨_, rfl⟩
  obtain ⟨W, hW⟩ : ∃ W, W = w.alloc (.cells #[.int .i64 win, .int .i64 idx, .int .i64 tim, .string pay] 23) := ⟨_, rfl⟩
  obtain ⟨V, hV⟩ : ∃ V, V = W.alloc zSum := ⟨_, rfl⟩
  have b1 : Below w.heap.size w W := by rw [hW]; exact below_box' _ _
  have b2 : Below W.heap.size W V := by rw [hV]; exact below_box' _ _
  have hWs : W.heap.size = q := by rw [hW, hq, hp]; simp
  have g1 : RecAt p win idx tim pay W := by rw [hW, hp]; exact RecAt.alloc _ _ _ _ _
  have h1 := g1.old b2 g1.lt
  have z0 : V.heap[q]? = some (.cells ((List.replicate 32 (0 : UInt8)).map u8V).toArray 32 (0, 0)) := by rw [hV, ← hWs]; exact heap_alloc_last _ _
  have hb := below_step b1 (Nat.le_refl _) b2
  have hqw : w.heap.size ≤ q := by omega
  have l0 : q < V.heap.size := (Array.getElem?_eq_some_iff.1 z0).1
  have Hz0 := Lib.hid z0
  have HW := Lib.hid hW
  have HV := Lib.hid hV
  have HP := Lib.hid hp
  have HQ := Lib.hid hq
  have c0 := h1.c0
  have c1 := h1.c1
  have c2 := h1.c2
  have c3 := h1.c3
  clear hD hDl hS hz hSz ql hp hq hW hV b1 b2 hWs g1 z0 h1
  go_enter Tryd.func11, Tryd.ntmps11
  go_upto_region 1 with (fail)
  rw [← HW.out, ← HP.out]
  change Code.wp _ _ _ _ (W.alloc zSum)
  rw [← HV.out, ← HQ.out]
  clear HW HV
  go_wp2_with (first
    | (go_at_call 7; ((with_reducible refine (qb _).mono ?_); rintro e w4 ⟨rfl, b4⟩))
    | (go_at_call 22; ((with_reducible refine (QL.out _).mono ?_); rintro e w5 ⟨rfl, b5⟩; have b45 := below_step b4 (Nat.le_refl _) b5; have z2 := Lib.hid ((b45.block _ l0).trans Hz0.out)))
    | refine wpList_store_mid rfl 32 (.tmp 2) (.tmp 11) rfl q 0 (D.map u8V).toArray rfl rfl (sum_there z2.out HDl.out) (sum_info HDl.out) (sum_one D) ?_)
  exact bodyPost_ret (v := sumV D) (results_cell (t := 2) (ty := 32) (b := q) (cs := D.map u8V) rfl _ _ _ rfl (sum_range z2.out HDl.out) Tryd.underlying32 rfl (sum_info' HDl.out)) rfl ⟨rfl, below_setCells hqw _ _ _ (below_step hb (Nat.le_refl _) b45)⟩
end Go.Proofs.YtbhalioajekfcaaDoor
