/-
  Package front: Add, of no front, and of a full one.
-/
import Derived.Test.YtgiakpnkidblpaaDoorFrontAdd
namespace Go.Proofs.YtgiakpnkidblpaaDoor
open Go.RowKit

theorem eql_iT (a : Int) (w : World) : (binOp .eql 3 (.int .i64 a) (.int .i64 a)).run Tryd.prog w = .ok (.bool true) w := by
  have h' : (a == a) = true := by simp
  go_simp
theorem eql_none_none (w : World) : (binOp .eql 25 (.pointer none) (.pointer none)).run Tryd.prog w = .ok (.bool true) w := by
  go_simp
set_option maxHeartbeats 1600000 in
set_option maxRecDepth 100000 in
theorem fadd_full (b : Nat) (Q : Hs) (x : List UInt8) (w : World) (h : Front b 1099511627776 Q w) :
    Calls Tryd.prog 20 #[.pointer (some ⟨b, 0, none⟩), sumV x] w fun e w' => e = .returned (.int .i64 0) ∧ Below w.heap.size w w' := by
  unfold sumV
  obtain ⟨V, hV⟩ : ∃ V, V = w.alloc (.cells (x.map u8V).toArray 31) := ⟨_, rfl⟩
  have b0 : Below w.heap.size w V := by rw [hV]; exact (Below.refl _ _).alloc (Nat.le_refl _) _
  have HFV := Lib.hid (h.old' b0)
  have B0 := Lib.hid b0
  clear b0 h
  go_enter Tryd.func20, Tryd.ntmps20
  go_upto_region 1 with (fail)
  change Code.wp _ _ _ _ (w.alloc (.cells (x.map u8V).toArray 31))
  rw [← hV]
  clear hV
  go_step3
  refine wp_seq ?_
  refine wp_seq ?_
  try simp only [Act.put]
  refine wp_region_tab0 [RT.is (.pointer (some ⟨b, 0, none⟩)), RT.is (.bool false), RT.is (.bool false), RT.is (.pointer (some ⟨b, 0, none⟩)), RT.is (.pointer (some ⟨b, 0, none⟩)), RT.is (.pointer (some ⟨b, 0, none⟩)), RT.is (.int .i64 1099511627776), RT.is (.bool true), RT.is (.bool true)] (by kernel_rfl) (by kernel_rfl) (by kernel_rfl) ⟨?_, ?_, ?_, ?_, ?_, ?_, ?_, ?_, ?_, trivial⟩ ?_
  · intro ac w' hF hL hP hU K hK
    have hB : Below _ _ _ := hL
    have e0 : ac.eval (.tmp 0) = .pointer (some ⟨b, 0, none⟩) := hF.at 0 (by kernel_rfl)
    exact rop_move _ rfl e0 (wanted_none rfl) (hK _ _ (le8_refl _) rfl)
  · intro ac w' hF hL hP hU K hK
    have hB : Below _ _ _ := hL
    have e7 : ac.eval (.tmp 7) = .pointer (some ⟨b, 0, none⟩) := hP 0 (by kernel_rfl)
    exact rop_bin _ _ _ _ _ rfl e7 rfl (guard_ptr _ _ _ _ _ _ w') (eql_ptr_none b w') (wanted_none rfl) (hK _ _ (le8_refl _) rfl)
  · intro ac w' hF hL hP hU K hK
    have hB : Below _ _ _ := hL
    have e8 : ac.eval (.tmp 8) = .bool false := hP 1 (by kernel_rfl)
    exact rop_move _ rfl e8 (wanted_none rfl) (hK _ _ (le8_refl _) rfl)
  · intro ac w' hF hL hP hU K hK
    have hB : Below _ _ _ := hL
    have e0 : ac.eval (.tmp 0) = .pointer (some ⟨b, 0, none⟩) := hF.at 0 (by kernel_rfl)
    have e9 : ac.eval (.tmp 9) = .bool false := hP 2 (by kernel_rfl)
    exact rop_move _ rfl e0 (wanted_of (j := 2) (b := false) rfl rfl e9) (hK _ _ (le8_refl _) rfl)
  · intro ac w' hF hL hP hU K hK
    have hB : Below _ _ _ := hL
    have e10 : ac.eval (.tmp 10) = .pointer (some ⟨b, 0, none⟩) := hP 3 (by kernel_rfl)
    have e9 : ac.eval (.tmp 9) = .bool false := hP 2 (by kernel_rfl)
    exact rop_nilG _ rfl e10 (wanted_of (j := 2) (b := false) rfl rfl e9) (hK _ _ (le8_refl _) rfl)
  · intro ac w' hF hL hP hU K hK
    have hB : Below _ _ _ := hL
    have e11 : ac.eval (.tmp 11) = .pointer (some ⟨b, 0, none⟩) := hP 4 (by kernel_rfl)
    have e9 : ac.eval (.tmp 9) = .bool false := hP 2 (by kernel_rfl)
    exact rop_fld _ _ _ rfl e11 (fld_size b w') (wanted_of (j := 2) (b := false) rfl rfl e9) (hK _ _ (le8_refl _) rfl)
  · intro ac w' hF hL hP hU K hK
    have hB : Below _ _ _ := hL
    have e12 : ac.eval (.tmp 12) = .pointer (some ⟨b, 0, none⟩) := hP 5 (by kernel_rfl)
    have e9 : ac.eval (.tmp 9) = .bool false := hP 2 (by kernel_rfl)
    exact rop_ld _ _ rfl e12 (load_i64 ((HFV.out.old' hB).at0)) (wanted_of (j := 2) (b := false) rfl rfl e9) (hK _ _ (le8_refl _) rfl)
  · intro ac w' hF hL hP hU K hK
    have hB : Below _ _ _ := hL
    have e13 : ac.eval (.tmp 13) = .int .i64 1099511627776 := hP 6 (by kernel_rfl)
    have e9 : ac.eval (.tmp 9) = .bool false := hP 2 (by kernel_rfl)
    exact rop_bin _ _ _ _ _ rfl e13 rfl (guard_int _ _ _ _ _ _ _ w') (eql_iT _ w') (wanted_of (j := 2) (b := false) rfl rfl e9) (hK _ _ (le8_refl _) rfl)
  · intro ac w' hF hL hP hU K hK
    have hB : Below _ _ _ := hL
    have e9 : ac.eval (.tmp 9) = .bool false := hP 2 (by kernel_rfl)
    have e14 : ac.eval (.tmp 14) = .bool true := hP 7 (by kernel_rfl)
    exact rop_pick _ _ _ rfl false e9 (by simpa using e14) (wanted_none rfl) (hK _ _ (le8_refl _) rfl)
  · intro ac w' hF hB hT
    have e15 : ac.eval (.tmp 15) = .bool true := hT 8 (by decide)
    rw [hF.setsG [7, 8, 9, 10, 11, 12, 13, 14, 15] (by kernel_rfl)]
    simp only [List.foldl_cons, List.foldl_nil, List.setIfInBounds_toArray, List.set_cons_succ, List.set_cons_zero, e15]
    generalize ac.eval (.tmp 7) = u7
    generalize ac.eval (.tmp 8) = u8
    generalize ac.eval (.tmp 9) = u9
    generalize ac.eval (.tmp 10) = u10
    generalize ac.eval (.tmp 11) = u11
    generalize ac.eval (.tmp 12) = u12
    generalize ac.eval (.tmp 13) = u13
    generalize ac.eval (.tmp 14) = u14
    clear e15 hT hF ac
    go_wp2
    try rw [Exit.noGoto_ret]
    go_ret
    exact ⟨rfl, below_step B0.out (Nat.le_refl _) hB⟩
set_option maxHeartbeats 1600000 in
set_option maxRecDepth 100000 in
theorem fadd_nil (x : List UInt8) (w : World) :
    Calls Tryd.prog 20 #[.pointer none, sumV x] w fun e w' => e = .returned (.int .i64 0) ∧ Below w.heap.size w w' := by
  unfold sumV
  obtain ⟨V, hV⟩ : ∃ V, V = w.alloc (.cells (x.map u8V).toArray 31) := ⟨_, rfl⟩
  have b0 : Below w.heap.size w V := by rw [hV]; exact (Below.refl _ _).alloc (Nat.le_refl _) _
  have B0 := Lib.hid b0
  clear b0
  go_enter Tryd.func20, Tryd.ntmps20
  go_upto_region 1 with (fail)
  change Code.wp _ _ _ _ (w.alloc (.cells (x.map u8V).toArray 31))
  rw [← hV]
  clear hV
  go_step3
  refine wp_seq ?_
  refine wp_seq ?_
  try simp only [Act.put]
  refine wp_region_tab0 [RT.is (.pointer none), RT.is (.bool true), RT.is (.bool true), RT.any, RT.any, RT.any, RT.any, RT.any, RT.is (.bool true)] (by kernel_rfl) (by kernel_rfl) (by kernel_rfl) ⟨?_, ?_, ?_, ?_, ?_, ?_, ?_, ?_, ?_, trivial⟩ ?_
  · intro ac w' hF hL hP hU K hK
    have hB : Below _ _ _ := hL
    have e0 : ac.eval (.tmp 0) = .pointer none := hF.at 0 (by kernel_rfl)
    exact rop_move _ rfl e0 (wanted_none rfl) (hK _ _ (le8_refl _) rfl)
  · intro ac w' hF hL hP hU K hK
    have hB : Below _ _ _ := hL
    have e7 : ac.eval (.tmp 7) = .pointer none := hP 0 (by kernel_rfl)
    exact rop_bin _ _ _ _ _ rfl e7 rfl (guard_ptr _ _ _ _ _ _ w') (eql_none_none w') (wanted_none rfl) (hK _ _ (le8_refl _) rfl)
  · intro ac w' hF hL hP hU K hK
    have hB : Below _ _ _ := hL
    have e8 : ac.eval (.tmp 8) = .bool true := hP 1 (by kernel_rfl)
    exact rop_move _ rfl e8 (wanted_none rfl) (hK _ _ (le8_refl _) rfl)
  · intro ac w' hF hL hP hU K hK
    have hB : Below _ _ _ := hL
    have e9 : ac.eval (.tmp 9) = .bool true := hP 2 (by kernel_rfl)
    exact rop_offG (j := 2) (b := false) rfl rfl e9 (by decide) (hK _ _ (le8_refl _) trivial)
  · intro ac w' hF hL hP hU K hK
    have hB : Below _ _ _ := hL
    have e9 : ac.eval (.tmp 9) = .bool true := hP 2 (by kernel_rfl)
    exact rop_offG (j := 2) (b := false) rfl rfl e9 (by decide) (hK _ _ (le8_refl _) trivial)
  · intro ac w' hF hL hP hU K hK
    have hB : Below _ _ _ := hL
    have e9 : ac.eval (.tmp 9) = .bool true := hP 2 (by kernel_rfl)
    exact rop_offG (j := 2) (b := false) rfl rfl e9 (by decide) (hK _ _ (le8_refl _) trivial)
  · intro ac w' hF hL hP hU K hK
    have hB : Below _ _ _ := hL
    have e9 : ac.eval (.tmp 9) = .bool true := hP 2 (by kernel_rfl)
    exact rop_offG (j := 2) (b := false) rfl rfl e9 (by decide) (hK _ _ (le8_refl _) trivial)
  · intro ac w' hF hL hP hU K hK
    have hB : Below _ _ _ := hL
    have e9 : ac.eval (.tmp 9) = .bool true := hP 2 (by kernel_rfl)
    exact rop_offG (j := 2) (b := false) rfl rfl e9 (by decide) (hK _ _ (le8_refl _) trivial)
  · intro ac w' hF hL hP hU K hK
    have hB : Below _ _ _ := hL
    have e9 : ac.eval (.tmp 9) = .bool true := hP 2 (by kernel_rfl)
    exact rop_pick _ _ _ rfl true e9 (by rfl) (wanted_none rfl) (hK _ _ (le8_refl _) rfl)
  · intro ac w' hF hB hT
    have e15 : ac.eval (.tmp 15) = .bool true := hT 8 (by decide)
    rw [hF.setsG [7, 8, 9, 10, 11, 12, 13, 14, 15] (by kernel_rfl)]
    simp only [List.foldl_cons, List.foldl_nil, List.setIfInBounds_toArray, List.set_cons_succ, List.set_cons_zero, e15]
    generalize ac.eval (.tmp 7) = u7
    generalize ac.eval (.tmp 8) = u8
    generalize ac.eval (.tmp 9) = u9
    generalize ac.eval (.tmp 10) = u10
    generalize ac.eval (.tmp 11) = u11
    generalize ac.eval (.tmp 12) = u12
    generalize ac.eval (.tmp 13) = u13
    generalize ac.eval (.tmp 14) = u14
    clear e15 hT hF ac
    go_wp2
    try rw [Exit.noGoto_ret]
    go_ret
    exact ⟨rfl, below_step B0.out (Nat.le_refl _) hB⟩
end Go.Proofs.YtgiakpnkidblpaaDoor
