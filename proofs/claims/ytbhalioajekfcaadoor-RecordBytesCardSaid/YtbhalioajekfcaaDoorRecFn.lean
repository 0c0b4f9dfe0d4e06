/-
  Package record: Check, inRow, Size, Bytes.
-/
import Derived.Test.YtbhalioajekfcaaDoorRecMem
import Derived.Deep.DeepCutAuto
namespace Go.Proofs.YtbhalioajekfcaaDoor
open Go.RowKit

theorem below_box' (w : World) (o : Obj) : Below w.heap.size w (w.alloc o) := (Below.refl _ _).alloc (Nat.le_refl _) _
theorem may_any (n most : Int) (w : World) :
    Calls Tryd.prog 20 #[.int .i64 n, .int .i64 most] w fun e w' => e = .returned (.bool (mayB n most)) ∧ w = w' := by
  unfold mayB
  by_cases h : 0 ≤ n
  · rw [decide_eq_true h, Bool.true_and]
    go_enter Tryd.func20, Tryd.ntmps20
    go_wp2
    go_ret
    exact ⟨rfl, rfl⟩
  · rw [decide_eq_false h, Bool.false_and]
    go_enter Tryd.func20, Tryd.ntmps20
    go_wp2
    go_ret
    exact ⟨rfl, rfl⟩

set_option maxHeartbeats 3200000 in
theorem check_any (win idx tim : Int) (pay : ByteArray) (w : World) (hs : pay.size ≤ 9223372036854775807) :
    Calls Tryd.prog 8 #[.agg #[.int .i64 win, .int .i64 idx, .int .i64 tim, .string pay]] w fun e w' => e = .returned (.int .i64 (chkZ win idx tim pay)) ∧ Below w.heap.size w w' := by
  have hmf : ∀ (fn : Fn) (first cap : Array Value) (w : World), (Instr.makeFunc fn first cap).run Tryd.prog w = .ok (.func fn first cap) w := fun _ _ _ _ => rfl
  obtain ⟨p, hp⟩ : ∃ p, p = w.heap.size := ⟨_, rfl⟩
  obtain ⟨W, hW⟩ : ∃ W, W = w.alloc (.cells #[.int .i64 win, .int .i64 idx, .int .i64 tim, .string pay] 23) := ⟨_, rfl⟩
  have hb1 : Below w.heap.size w W := by rw [hW]; exact (Below.refl _ _).alloc (Nat.le_refl _) _
  have hr : RecAt p win idx tim pay W := by rw [hW, hp]; exact RecAt.alloc _ _ _ _ _
  have c0 := hr.c0
  have c1 := hr.c1
  have c2 := hr.c2
  have c3 := hr.c3
  have HW1 := Lib.hid hW
  have HP := Lib.hid hp
  clear hW hp hr
  have q1 := fun u => may_any win 1125899906842624 u
  have q2 := fun u => may_any tim 1125899906842624 u
  have q3 := fun u => may_any idx 3999 u
  unfold chkZ chkB
  generalize mayB win 1125899906842624 = A at *
  generalize mayB tim 1125899906842624 = B at *
  generalize mayB idx 3999 = C at *
  cases A
  · simp only [Bool.false_and, Bool.false_eq_true, if_false]
    go_enter Tryd.func8, Tryd.ntmps8
    go_upto_region 2 with fail
    rw [← HW1.out, ← HP.out]
    clear HW1
    go_wp2_with (first
      | (go_at_call 20; ((with_reducible refine (q1 _).mono ?_); rintro e w5 ⟨rfl, rfl⟩))
      | (go_at_call 20; ((with_reducible refine (q2 _).mono ?_); rintro e w5 ⟨rfl, rfl⟩))
      | (go_at_call 20; ((with_reducible refine (q3 _).mono ?_); rintro e w5 ⟨rfl, rfl⟩)))
    try rw [Exit.noGoto_ret]
    go_ret
    exact ⟨rfl, hb1⟩
  cases B
  · simp only [Bool.true_and, Bool.false_and, Bool.false_eq_true, if_false]
    go_enter Tryd.func8, Tryd.ntmps8
    go_upto_region 2 with fail
    rw [← HW1.out, ← HP.out]
    clear HW1
    go_wp2_with (first
      | (go_at_call 20; ((with_reducible refine (q1 _).mono ?_); rintro e w5 ⟨rfl, rfl⟩))
      | (go_at_call 20; ((with_reducible refine (q2 _).mono ?_); rintro e w5 ⟨rfl, rfl⟩))
      | (go_at_call 20; ((with_reducible refine (q3 _).mono ?_); rintro e w5 ⟨rfl, rfl⟩)))
    try rw [Exit.noGoto_ret]
    go_ret
    exact ⟨rfl, hb1⟩
  cases C
  · simp only [Bool.true_and, Bool.and_false, Bool.false_eq_true, if_false]
    go_enter Tryd.func8, Tryd.ntmps8
    go_upto_region 2 with fail
    rw [← HW1.out, ← HP.out]
    clear HW1
    go_wp2_with (first
      | (go_at_call 20; ((with_reducible refine (q1 _).mono ?_); rintro e w5 ⟨rfl, rfl⟩))
      | (go_at_call 20; ((with_reducible refine (q2 _).mono ?_); rintro e w5 ⟨rfl, rfl⟩))
      | (go_at_call 20; ((with_reducible refine (q3 _).mono ?_); rintro e w5 ⟨rfl, rfl⟩)))
    try rw [Exit.noGoto_ret]
    go_ret
    exact ⟨rfl, hb1⟩
  simp only [Bool.true_and, if_true]
  by_cases hz : 2000 < pay.size
  · rw [if_pos hz]
    go_enter Tryd.func8, Tryd.ntmps8
    go_upto_region 2 with fail
    rw [← HW1.out, ← HP.out]
    clear HW1
    go_wp2_with (first
      | (go_at_call 20; ((with_reducible refine (q1 _).mono ?_); rintro e w5 ⟨rfl, rfl⟩))
      | (go_at_call 20; ((with_reducible refine (q2 _).mono ?_); rintro e w5 ⟨rfl, rfl⟩))
      | (go_at_call 20; ((with_reducible refine (q3 _).mono ?_); rintro e w5 ⟨rfl, rfl⟩)))
    try rw [Exit.noGoto_ret]
    go_ret
    exact ⟨rfl, hb1⟩
  · rw [if_neg hz]
    go_enter Tryd.func8, Tryd.ntmps8
    go_upto_region 2 with fail
    rw [← HW1.out, ← HP.out]
    clear HW1
    go_wp2_with (first
      | (go_at_call 20; ((with_reducible refine (q1 _).mono ?_); rintro e w5 ⟨rfl, rfl⟩))
      | (go_at_call 20; ((with_reducible refine (q2 _).mono ?_); rintro e w5 ⟨rfl, rfl⟩))
      | (go_at_call 20; ((with_reducible refine (q3 _).mono ?_); rintro e w5 ⟨rfl, rfl⟩)))
    try rw [Exit.noGoto_ret]
    go_ret
    exact ⟨rfl, hb1⟩
set_option maxHeartbeats 3200000 in
set_option maxRecDepth 100000 in
theorem inRow_any (win idx tim : Int) (pay : ByteArray) (w : World) (hs : pay.size ≤ 1000000000) :
    Calls Tryd.prog 17 #[.agg #[.int .i64 win, .int .i64 idx, .int .i64 tim, .string pay]] w fun e w' => e = .returned (.string (rowB tim pay)) ∧ Below w.heap.size w w' := by
  have l1 := putB_le (u64N tim) (u64N_lt tim)
  have l2 := putB_le pay.size (by omega)
  obtain ⟨p, hp⟩ : ∃ p, p = w.heap.size := ⟨_, rfl⟩
  obtain ⟨W, hW⟩ : ∃ W, W = w.alloc (.cells #[.int .i64 win, .int .i64 idx, .int .i64 tim, .string pay] 23) := ⟨_, rfl⟩
  have hb1 : Below w.heap.size w W := by rw [hW]; exact (Below.refl _ _).alloc (Nat.le_refl _) _
  have hr : RecAt p win idx tim pay W := by rw [hW, hp]; exact RecAt.alloc _ _ _ _ _
  have hp1 : p < W.heap.size := hr.lt
  have c0 := hr.c0
  have c1 := hr.c1
  have c2 := hr.c2
  have c3 := hr.c3
  have HW1 := Lib.hid hW
  have HP := Lib.hid hp
  have HR := Lib.hid hr
  clear hW hp hr
  go_enter Tryd.func17, Tryd.ntmps17
  go_upto_region 1 with fail
  rw [← HW1.out, ← HP.out]
  clear HW1
  try simp only [Act.put]
  refine wp_region_tab [RT.is (.pointer (some ⟨p, 2, none⟩)), RT.is (.int .i64 tim), RT.is (.int .u64 (u64N tim : Int)), RT.is (.string (Oct.putB (u64N tim))), RT.is (.pointer (some ⟨p, 3, none⟩)), RT.is (.string pay), RT.is (.string (Oct.putB pay.size ++ pay)), RT.is (.string (rowB tim pay)), RT.is (.string (rowB tim pay))] (by kernel_rfl) (by kernel_rfl) (by kernel_rfl) (by kernel_rfl) ⟨?_, ?_, ?_, ?_, ?_, ?_, ?_, ?_, ?_, trivial⟩ ?_
  · intro ac w' hF hL hP hU K hK
    have hB := below_undrew hL
    have e1 : ac.eval (.tmp 1) = .pointer (some ⟨p, 0, none⟩) := hF.at 1 (by kernel_rfl)
    exact rop_fld _ _ _ rfl e1 ((recFld0 p _).2.2.1) (wanted_none rfl) (hK _ _ (le8_refl _) rfl)
  · intro ac w' hF hL hP hU K hK
    have hB := below_undrew hL
    have e3 : ac.eval (.tmp 3) = .pointer (some ⟨p, 2, none⟩) := hP 0 (by kernel_rfl)
    exact rop_ld _ _ rfl e3 (load_intR ((hB.cell (p := ⟨p, _, none⟩) hp1).trans c2)) (wanted_none rfl) (hK _ _ (le8_refl _) rfl)
  · intro ac w' hF hL hP hU K hK
    have hB := below_undrew hL
    have e4 : ac.eval (.tmp 4) = .int .i64 tim := hP 1 (by kernel_rfl)
    exact rop_convR _ _ _ rfl e4 (conv_u64 tim w') (wanted_none rfl) (hK _ _ (le8_refl _) rfl)
  · intro ac w' hF hL hP hU K hK
    have hB := below_undrew hL
    have e5 : ac.eval (.tmp 5) = .int .u64 (u64N tim : Int) := hP 2 (by kernel_rfl)
    refine rop_call 16 _ _ rfl #[.int .u64 (u64N tim : Int)] (by simp [e5]) (by kernel_rfl) (wanted_none rfl) ?_
    refine (put_any (u64N tim) w' (u64N_lt tim)).mono ?_
    rintro e w2 ⟨rfl, hb⟩
    exact ⟨_, rfl, hK _ _ hb rfl⟩
  · intro ac w' hF hL hP hU K hK
    have hB := below_undrew hL
    have e1 : ac.eval (.tmp 1) = .pointer (some ⟨p, 0, none⟩) := hF.at 1 (by kernel_rfl)
    exact rop_fld _ _ _ rfl e1 ((recFld0 p _).2.2.2) (wanted_none rfl) (hK _ _ (le8_refl _) rfl)
  · intro ac w' hF hL hP hU K hK
    have hB := below_undrew hL
    have e7 : ac.eval (.tmp 7) = .pointer (some ⟨p, 3, none⟩) := hP 4 (by kernel_rfl)
    exact rop_ld _ _ rfl e7 (load_strR ((hB.cell (p := ⟨p, _, none⟩) hp1).trans c3)) (wanted_none rfl) (hK _ _ (le8_refl _) rfl)
  · intro ac w' hF hL hP hU K hK
    have hB := below_undrew hL
    have e8 : ac.eval (.tmp 8) = .string pay := hP 5 (by kernel_rfl)
    refine rop_call 30 _ _ rfl #[.string pay] (by simp [e8]) (by kernel_rfl) (wanted_none rfl) ?_
    refine (textPut_any pay w' (by omega)).mono ?_
    rintro e w2 ⟨rfl, hb⟩
    exact ⟨_, rfl, hK _ _ hb rfl⟩
  · intro ac w' hF hL hP hU K hK
    have hB := below_undrew hL
    have e6 : ac.eval (.tmp 6) = .string (Oct.putB (u64N tim)) := hP 3 (by kernel_rfl)
    have e9 : ac.eval (.tmp 9) = .string (Oct.putB pay.size ++ pay) := hP 6 (by kernel_rfl)
    exact rop_bin _ _ _ _ _ rfl e6 e9 (guard_str _ _ _ _ _ _ w') (add_str _ _ (by simp only [ByteArray.size_append]; omega) w') (wanted_none rfl) (hK _ _ (le8_refl _) rfl)
  · intro ac w' hF hL hP hU K hK
    have hB := below_undrew hL
    have e10 : ac.eval (.tmp 10) = .string (rowB tim pay) := hP 7 (by kernel_rfl)
    exact rop_assign _ rfl e10 (wanted_none rfl) (hK _ _ (le8_refl _) rfl)
  · intro ac w' hF hB hT
    have e2 : ac.eval (.tmp 2) = .string (rowB tim pay) := hT 8 (by decide)
    rw [hF.setsG [3, 4, 5, 6, 7, 8, 9, 10, 2] (by kernel_rfl)]
    simp only [List.foldl_cons, List.foldl_nil, List.setIfInBounds_toArray, List.set_cons_succ, List.set_cons_zero, e2]
    generalize ac.eval (.tmp 3) = u3
    generalize ac.eval (.tmp 4) = u4
    generalize ac.eval (.tmp 5) = u5
    generalize ac.eval (.tmp 6) = u6
    generalize ac.eval (.tmp 7) = u7
    generalize ac.eval (.tmp 8) = u8
    generalize ac.eval (.tmp 9) = u9
    generalize ac.eval (.tmp 10) = u10
    clear e2 hT hF ac
    have hbw := below_step hb1 (Nat.le_refl _) hB
    clear hB c0 c1 c2 c3
    go_wp2
    go_ret
    exact ⟨rfl, hbw⟩
theorem recSize_any (win idx tim : Int) (pay : ByteArray) (w : World) (hs : pay.size ≤ 1000000000) :
    Calls Tryd.prog 14 #[.agg #[.int .i64 win, .int .i64 idx, .int .i64 tim, .string pay]] w fun e w' => e = .returned (.int .i64 ((rowB tim pay).size : Int)) ∧ Below w.heap.size w w' := by
  have hz : ((rowB tim pay).size : Int) = ((Oct.need (u64N tim) : Int) + 1) + ((Oct.need pay.size : Int) + 1) + pay.size := by
    simp only [rowB, ByteArray.size_append, Oct.putB_size]; omega
  have l1 := Oct.need_le (u64N tim) (u64N_lt tim)
  have l2 := Oct.need_le pay.size (by omega)
  have k1 := u64N_int tim
  have k2 := u64N_wrap tim
  have k3 : (pay.size : Int) % 18446744073709551616 = (pay.size : Int) := Int.emod_eq_of_lt (by omega) (by omega)
  have q1 := fun u => size_any (u64N tim) u (u64N_lt tim)
  have q2 := fun u => size_any pay.size u (by omega)
  have HZ := Lib.hid hz
  clear hz
  obtain ⟨p, hp⟩ : ∃ p, p = w.heap.size := ⟨_, rfl⟩
  obtain ⟨W, hW⟩ : ∃ W, W = w.alloc (.cells #[.int .i64 win, .int .i64 idx, .int .i64 tim, .string pay] 23) := ⟨_, rfl⟩
  have hb1 : Below w.heap.size w W := by rw [hW]; exact (Below.refl _ _).alloc (Nat.le_refl _) _
  have hr : RecAt p win idx tim pay W := by rw [hW, hp]; exact RecAt.alloc _ _ _ _ _
  have hp1 : p < W.heap.size := hr.lt
  have c0 := hr.c0
  have c1 := hr.c1
  have c2 := hr.c2
  have c3 := hr.c3
  have HW1 := Lib.hid hW
  have HP := Lib.hid hp
  have HR := Lib.hid hr
  clear hW hp hr
  go_enter Tryd.func14, Tryd.ntmps14
  go_upto_region 1 with fail
  rw [← HW1.out, ← HP.out]
  clear HW1
  go_wp2_with (first
    | (go_at_call 29; ((with_reducible refine (q1 _).mono ?_); rintro e w5 ⟨rfl, rfl⟩))
    | (go_at_call 29; ((with_reducible refine (q2 _).mono ?_); rintro e w5 ⟨rfl, rfl⟩)))
  go_ret
  exact ⟨ret_int (by rw [HZ.out]), hb1⟩
/-- What Bytes tells. -/
def bytV (win idx tim : Int) (pay : ByteArray) : ByteArray := if chkZ win idx tim pay = 0 then bytB win idx tim pay else ⟨#[]⟩
set_option maxHeartbeats 3200000 in
set_option maxRecDepth 100000 in
theorem recBytes_any (win idx tim : Int) (pay : ByteArray) (w : World) (hs : pay.size ≤ 1000000000) :
    Calls Tryd.prog 6 #[.agg #[.int .i64 win, .int .i64 idx, .int .i64 tim, .string pay]] w fun e w' => e = .returned (.tuple #[.string (bytV win idx tim pay), .int .i64 (chkZ win idx tim pay)]) ∧ Below w.heap.size w w' := by
  have l1 := putB_le (u64N win) (u64N_lt win)
  have l2 := putB_le (u64N idx) (u64N_lt idx)
  have l3 := rowB_size tim pay (by omega)
  obtain ⟨p, hp⟩ : ∃ p, p = w.heap.size := ⟨_, rfl⟩
  obtain ⟨W, hW⟩ : ∃ W, W = w.alloc (.cells #[.int .i64 win, .int .i64 idx, .int .i64 tim, .string pay] 23) := ⟨_, rfl⟩
  have hb1 : Below w.heap.size w W := by rw [hW]; exact (Below.refl _ _).alloc (Nat.le_refl _) _
  have hr : RecAt p win idx tim pay W := by rw [hW, hp]; exact RecAt.alloc _ _ _ _ _
  have hp1 : p < W.heap.size := hr.lt
  have c0 := hr.c0
  have c1 := hr.c1
  have c2 := hr.c2
  have c3 := hr.c3
  have HW1 := Lib.hid hW
  have HP := Lib.hid hp
  have HR := Lib.hid hr
  clear hW hp hr
  have qc := check_any win idx tim pay W (by omega)
  by_cases hc : chkZ win idx tim pay = 0
  · rw [show bytV win idx tim pay = bytB win idx tim pay from if_pos hc]
    rw [hc] at qc ⊢
    go_enter Tryd.func6, Tryd.ntmps6
    go_upto_region 1 with fail
    rw [← HW1.out, ← HP.out]
    clear HW1
    go_upto_region 4 with (go_at_call 8; ((with_reducible refine qc.mono ?_); rintro e w5 ⟨rfl, b5⟩))
    replace hb1 := below_step hb1 (Nat.le_refl _) b5
    have HR2 := Lib.hid (HR.out.old b5 hp1)
    have hp5 : p < w5.heap.size := HR2.out.lt
    clear HR c0 c1 c2 c3 b5 hc hp1
    have HR := HR2
    have hp1 := hp5
    have c0 := HR.out.c0
    have c1 := HR.out.c1
    have c2 := HR.out.c2
    have c3 := HR.out.c3
    clear hp5 HR2
    try simp only [Act.put]
    refine wp_region_tab [RT.is (.pointer (some ⟨p, 0, none⟩)), RT.is (.int .i64 win), RT.is (.int .u64 (u64N win : Int)), RT.is (.string (Oct.putB (u64N win))), RT.is (.pointer (some ⟨p, 1, none⟩)), RT.is (.int .i64 idx), RT.is (.int .u64 (u64N idx : Int)), RT.is (.string (Oct.putB (u64N idx))), RT.is (.string (Oct.putB (u64N win) ++ Oct.putB (u64N idx))), RT.is (.agg #[.int .i64 win, .int .i64 idx, .int .i64 tim, .string pay]), RT.is (.string (rowB tim pay)), RT.is (.string (bytB win idx tim pay)), RT.is (.string (bytB win idx tim pay)), RT.is (.int .i64 0)] (by kernel_rfl) (by kernel_rfl) (by kernel_rfl) (by kernel_rfl) ⟨?_, ?_, ?_, ?_, ?_, ?_, ?_, ?_, ?_, ?_, ?_, ?_, ?_, ?_, trivial⟩ ?_
    · intro ac w' hF hL hP hU K hK
      have hB := below_undrew hL
      have e1 : ac.eval (.tmp 1) = .pointer (some ⟨p, 0, none⟩) := hF.at 1 (by kernel_rfl)
      exact rop_fld _ _ _ rfl e1 ((recFld0 p _).1) (wanted_none rfl) (hK _ _ (le8_refl _) rfl)
    · intro ac w' hF hL hP hU K hK
      have hB := below_undrew hL
      have e10 : ac.eval (.tmp 10) = .pointer (some ⟨p, 0, none⟩) := hP 0 (by kernel_rfl)
      exact rop_ld _ _ rfl e10 (load_intR ((hB.cell (p := ⟨p, _, none⟩) hp1).trans c0)) (wanted_none rfl) (hK _ _ (le8_refl _) rfl)
    · intro ac w' hF hL hP hU K hK
      have hB := below_undrew hL
      have e11 : ac.eval (.tmp 11) = .int .i64 win := hP 1 (by kernel_rfl)
      exact rop_convR _ _ _ rfl e11 (conv_u64 win w') (wanted_none rfl) (hK _ _ (le8_refl _) rfl)
    · intro ac w' hF hL hP hU K hK
      have hB := below_undrew hL
      have e12 : ac.eval (.tmp 12) = .int .u64 (u64N win : Int) := hP 2 (by kernel_rfl)
      refine rop_call 16 _ _ rfl #[.int .u64 (u64N win : Int)] (by simp [e12]) (by kernel_rfl) (wanted_none rfl) ?_
      refine (put_any (u64N win) w' (u64N_lt win)).mono ?_
      rintro e w2 ⟨rfl, hb⟩
      exact ⟨_, rfl, hK _ _ hb rfl⟩
    · intro ac w' hF hL hP hU K hK
      have hB := below_undrew hL
      have e1 : ac.eval (.tmp 1) = .pointer (some ⟨p, 0, none⟩) := hF.at 1 (by kernel_rfl)
      exact rop_fld _ _ _ rfl e1 ((recFld0 p _).2.1) (wanted_none rfl) (hK _ _ (le8_refl _) rfl)
    · intro ac w' hF hL hP hU K hK
      have hB := below_undrew hL
      have e14 : ac.eval (.tmp 14) = .pointer (some ⟨p, 1, none⟩) := hP 4 (by kernel_rfl)
      exact rop_ld _ _ rfl e14 (load_intR ((hB.cell (p := ⟨p, _, none⟩) hp1).trans c1)) (wanted_none rfl) (hK _ _ (le8_refl _) rfl)
    · intro ac w' hF hL hP hU K hK
      have hB := below_undrew hL
      have e15 : ac.eval (.tmp 15) = .int .i64 idx := hP 5 (by kernel_rfl)
      exact rop_convR _ _ _ rfl e15 (conv_u64 idx w') (wanted_none rfl) (hK _ _ (le8_refl _) rfl)
    · intro ac w' hF hL hP hU K hK
      have hB := below_undrew hL
      have e16 : ac.eval (.tmp 16) = .int .u64 (u64N idx : Int) := hP 6 (by kernel_rfl)
      refine rop_call 16 _ _ rfl #[.int .u64 (u64N idx : Int)] (by simp [e16]) (by kernel_rfl) (wanted_none rfl) ?_
      refine (put_any (u64N idx) w' (u64N_lt idx)).mono ?_
      rintro e w2 ⟨rfl, hb⟩
      exact ⟨_, rfl, hK _ _ hb rfl⟩
    · intro ac w' hF hL hP hU K hK
      have hB := below_undrew hL
      have e13 : ac.eval (.tmp 13) = .string (Oct.putB (u64N win)) := hP 3 (by kernel_rfl)
      have e17 : ac.eval (.tmp 17) = .string (Oct.putB (u64N idx)) := hP 7 (by kernel_rfl)
      exact rop_bin _ _ _ _ _ rfl e13 e17 (guard_str _ _ _ _ _ _ w') (add_str _ _ (by omega) w') (wanted_none rfl) (hK _ _ (le8_refl _) rfl)
    · intro ac w' hF hL hP hU K hK
      have hB := below_undrew hL
      have e1 : ac.eval (.tmp 1) = .pointer (some ⟨p, 0, none⟩) := hF.at 1 (by kernel_rfl)
      exact rop_ld _ _ rfl e1 ((HR.out.old hB hp1).load) (wanted_none rfl) (hK _ _ (le8_refl _) rfl)
    · intro ac w' hF hL hP hU K hK
      have hB := below_undrew hL
      have e19 : ac.eval (.tmp 19) = .agg #[.int .i64 win, .int .i64 idx, .int .i64 tim, .string pay] := hP 9 (by kernel_rfl)
      refine rop_call 17 _ _ rfl #[.agg #[.int .i64 win, .int .i64 idx, .int .i64 tim, .string pay]] (by simp [e19]) (by kernel_rfl) (wanted_none rfl) ?_
      refine (inRow_any win idx tim pay w' (by omega)).mono ?_
      rintro e w2 ⟨rfl, hb⟩
      exact ⟨_, rfl, hK _ _ hb rfl⟩
    · intro ac w' hF hL hP hU K hK
      have hB := below_undrew hL
      have e18 : ac.eval (.tmp 18) = .string (Oct.putB (u64N win) ++ Oct.putB (u64N idx)) := hP 8 (by kernel_rfl)
      have e20 : ac.eval (.tmp 20) = .string (rowB tim pay) := hP 10 (by kernel_rfl)
      exact rop_bin _ _ _ _ _ rfl e18 e20 (guard_str _ _ _ _ _ _ w') (add_str _ _ (by simp only [ByteArray.size_append]; omega) w') (wanted_none rfl) (hK _ _ (le8_refl _) rfl)
    · intro ac w' hF hL hP hU K hK
      have hB := below_undrew hL
      have e21 : ac.eval (.tmp 21) = .string (bytB win idx tim pay) := hP 11 (by kernel_rfl)
      exact rop_assign _ rfl e21 (wanted_none rfl) (hK _ _ (le8_refl _) rfl)
    · intro ac w' hF hL hP hU K hK
      have hB := below_undrew hL
      exact rop_assign _ rfl rfl (wanted_none rfl) (hK _ _ (le8_refl _) rfl)
    · intro ac w' hF hB hT
      have e2 : ac.eval (.tmp 2) = .string (bytB win idx tim pay) := hT 12 (by decide)
      have e3 : ac.eval (.tmp 3) = .int .i64 0 := hT 13 (by decide)
      rw [hF.setsG [10, 11, 12, 13, 14, 15, 16, 17, 18, 19, 20, 21, 2, 3] (by kernel_rfl)]
      simp only [List.foldl_cons, List.foldl_nil, List.setIfInBounds_toArray, List.set_cons_succ, List.set_cons_zero, e2, e3]
      generalize ac.eval (.tmp 10) = u10
      generalize ac.eval (.tmp 11) = u11
      generalize ac.eval (.tmp 12) = u12
      generalize ac.eval (.tmp 13) = u13
      generalize ac.eval (.tmp 14) = u14
      generalize ac.eval (.tmp 15) = u15
      generalize ac.eval (.tmp 16) = u16
      generalize ac.eval (.tmp 17) = u17
      generalize ac.eval (.tmp 18) = u18
      generalize ac.eval (.tmp 19) = u19
      generalize ac.eval (.tmp 20) = u20
      generalize ac.eval (.tmp 21) = u21
      clear e2 e3 hT hF ac
      have hbw := below_step hb1 (Nat.le_refl _) hB
      clear hB c0 c1 c2 c3
      go_wp2
      go_ret2
      exact ⟨rfl, hbw⟩
  · rw [show bytV win idx tim pay = ⟨#[]⟩ from if_neg hc]
    generalize chkZ win idx tim pay = z at *
    go_enter Tryd.func6, Tryd.ntmps6
    go_upto_region 1 with fail
    rw [← HW1.out, ← HP.out]
    clear HW1
    go_wp2_with (go_at_call 8; ((with_reducible refine qc.mono ?_); rintro e w5 ⟨rfl, b5⟩))
    go_ret2
    exact ⟨rfl, below_step hb1 (Nat.le_refl _) b5⟩
end Go.Proofs.YtbhalioajekfcaaDoor
