/-
  RedoLines: lines are as P7.1 says. For every two numbers and every list of sectors' numbers (of a longer one the first 70), no condition.
-/
import Derived.Test.YteggaeopnljgnaaGreatDoorMRedE
import Derived.Test.YteggaeopnljgnaaGreatDoorRefLine
import Derived.Test.YteggaeopnljgnaaGreatDoorMArg
namespace Go.Proofs.YteggaeopnljgnaaGreatDoor.redoLines
open Go.ChangeShapes Go.WideShapes Go.ChangeAt Go.RowKit Dsk

set_option maxHeartbeats 6400000 in
set_option maxRecDepth 100000 in
theorem walk {w : World} (hT : TW w) (q0 q1 : Int) (hq0 : i64ok q0) (hq1 : i64ok q1) (v : Value) (l0 : List Int) (b : Nat) (hv : Ints w v l0 b) (hbw : b < w.heap.size) (hb0 : ∀ j, i64ok (l0.getD j 0)) :
    Calls Tryz.prog 3 #[.agg #[.int .i64 q0, .int .i64 q1], v] w fun e w' => e = .returned (.bool true) ∧ Below w.heap.size w w' := by
  obtain ⟨a, cap, rfl, hcap, hc⟩ := hv
  obtain ⟨a0, b0⟩ := hq0
  obtain ⟨a1, b1⟩ := hq1
  obtain ⟨qb, hqb⟩ : ∃ qb, qb = w.heap.size := ⟨_, rfl⟩
  obtain ⟨w1, hw1⟩ : ∃ w1, w1 = w.alloc (.cells #[.int .i64 q0, .int .i64 q1] 22) := ⟨_, rfl⟩
  have z1 : w1.heap[qb]? = some (.cells #[.int .i64 q0, .int .i64 q1] 22 (0, 0)) := by rw [hw1, hqb]; exact heap_alloc_last w _
  have s1 : Below w.heap.size w w1 := by rw [hw1]; exact (Below.refl _ _).alloc (Nat.le_refl _) _
  have hix0 : ∀ u, (Instr.indexAt 22 (.pointer (some ⟨qb, 0, none⟩)) (.int .i64 0)).run Tryz.prog u = .ok (.pointer (some ⟨qb, 0, none⟩)) u := by intro u; go_simp
  have hix1 : ∀ u, (Instr.indexAt 22 (.pointer (some ⟨qb, 0, none⟩)) (.int .i64 1)).run Tryz.prog u = .ok (.pointer (some ⟨qb, 1, none⟩)) u := by intro u; go_simp
  go_enter Tryz.func3, Tryz.ntmps3
  go_upto_region 1 with fail
  rw [← hw1, ← hqb]
  clear hw1 hqb
  have ha := awake_any w1 (hT.old s1)
  go_upto_region 2 with (go_at_call 7; refine ha.mono ?_; rintro e w3 ⟨rfl, b3⟩)
  have s3 := below_step s1 (Nat.le_refl _) b3
  have z3 := (b3.block qb (Array.getElem?_eq_some_iff.1 z1).1).trans z1
  have hTT : Hid (∀ u, Below w3.heap.size w3 u → TW u) := Lib.hid fun u hb => hT.old (below_step s3 (Nat.le_refl _) hb)
  have hld0 : Hid (∀ u, Below w3.heap.size w3 u → (Instr.loadAt 3 (.pointer (some ⟨qb, 0, none⟩))).run Tryz.prog u = .ok (.int .i64 q0) u) := Lib.hid fun u hb => by
    have hh := (hb.block qb (Array.getElem?_eq_some_iff.1 z3).1).trans z3
    exact load_int (cell_of hh 0)
  have hld1 : Hid (∀ u, Below w3.heap.size w3 u → (Instr.loadAt 3 (.pointer (some ⟨qb, 1, none⟩))).run Tryz.prog u = .ok (.int .i64 q1) u) := Lib.hid fun u hb => by
    have hh := (hb.block qb (Array.getElem?_eq_some_iff.1 z3).1).trans z3
    exact load_int (cell_of hh 1)
  clear ha z1 z3 s1 b3
  obtain ⟨l, hl⟩ : ∃ l, l = l0.take 70 := ⟨_, rfl⟩
  have hln : (l0.length ≤ 70 ∧ l.length = l0.length) ∨ (70 < l0.length ∧ l.length = 70) := by rw [hl, List.length_take]; omega
  have hbd : ∀ j, -9223372036854775808 ≤ l.getD j 0 ∧ l.getD j 0 ≤ 9223372036854775807 := fun j => by
    by_cases hj : j < 70
    · have : l.getD j 0 = l0.getD j 0 := by rw [hl, List.getD_eq_getElem?_getD, List.getD_eq_getElem?_getD, List.getElem?_take_of_lt hj]
      rw [this]; exact hb0 j
    · have : l.getD j 0 = 0 := by rw [hl, List.getD_eq_getElem?_getD, List.getElem?_eq_none (by rw [List.length_take]; omega)]; rfl
      rw [this]; decide
  have hlv : ∀ u, Below w3.heap.size w3 u → ∀ c', l.length ≤ c' → c' ≤ 9223372036854775807 → Ints u (.slice a l.length c') l b := fun u hb c' h1 h2 => by
    refine ⟨a, c', rfl, ⟨h1, h2⟩, fun hne => ?_⟩
    obtain ⟨off, ha, hbb, hj⟩ := hc (fun e => hne (by rw [hl, e]; rfl))
    have hs := below_step s3 (Nat.le_refl _) hb
    refine ⟨off, ha, by have := hs.size; omega, fun j hj' => ?_⟩
    rw [hs.cell (p := ⟨b, off + j, none⟩) hbb, hj j (by rw [hl, List.length_take] at hj'; omega)]
    rw [hl, List.getD_eq_getElem?_getD, List.getD_eq_getElem?_getD, List.getElem?_take_of_lt (by rw [hl, List.length_take] at hj'; omega)]
  have HLV := Lib.hid hlv
  clear hc hb0 hl hlv
  rcases hln with ⟨hle, hln⟩ | ⟨hgt, hln⟩
  · have hle' : ¬ 70 < (l0.length : Int) := by omega
    rw [← hln] at hcap hle' ⊢
    have hll : Hid (∀ u, Below w3.heap.size w3 u → Ints u (.slice a l.length cap) l b) := Lib.hid fun u hb => HLV.out u hb cap hcap.1 hcap.2
    clear HLV hcap hle
    go_upto_region 4 with fail
    try simp only [Act.put]
    refine wp_region_tab [RT.is (.bool true), RT.is (.bool true), RT.is (.pointer (some ⟨qb, 0, none⟩)), RT.is (.int .i64 q0), RT.is (.pointer (some ⟨qb, 1, none⟩)), RT.is (.int .i64 q1), RT.is (.string (hdL (keptN q0 65535) (keptN q1 1099511627776))), RT.is (.pointer (some ⟨qb, 0, none⟩)), RT.is (.int .i64 q0), RT.is (.pointer (some ⟨qb, 1, none⟩)), RT.is (.int .i64 q1), RT.is (.string (hdL (keptN q0 65535) (keptN q1 1099511627776))), RT.is (.bool true), RT.is (.bool true), RT.is (.bool true), RT.is (.pointer (some ⟨qb, 0, none⟩)), RT.is (.int .i64 q0), RT.is (.slice a l.length cap), RT.is (.string (fsL (keptN q0 1099511627776) (atsK l))), RT.is (.pointer (some ⟨qb, 0, none⟩)), RT.is (.int .i64 q0), RT.is (.slice a l.length cap), RT.is (.string (fsL (keptN q0 1099511627776) (atsK l))), RT.is (.bool true), RT.is (.bool true), RT.is (.bool true), RT.is (.pointer (some ⟨qb, 0, none⟩)), RT.is (.int .i64 q0), RT.is (.pointer (some ⟨qb, 1, none⟩)), RT.is (.int .i64 q1), RT.is (.string (lsL (keptN q0 1099511627776) (keptN q1 1099511627776))), RT.is (.pointer (some ⟨qb, 0, none⟩)), RT.is (.int .i64 q0), RT.is (.pointer (some ⟨qb, 1, none⟩)), RT.is (.int .i64 q1), RT.is (.string (lsL (keptN q0 1099511627776) (keptN q1 1099511627776))), RT.is (.bool true), RT.is (.bool true), RT.is (.bool true)] (by kernel_rfl) (by kernel_rfl) (by kernel_rfl) (by kernel_rfl) ⟨?_, ?_, ?_, ?_, ?_, ?_, ?_, ?_, ?_, ?_, ?_, ?_, ?_, ?_, ?_, ?_, ?_, ?_, ?_, ?_, ?_, ?_, ?_, ?_, ?_, ?_, ?_, ?_, ?_, ?_, ?_, ?_, ?_, ?_, ?_, ?_, ?_, ?_, ?_, trivial⟩ ?_
    · intro ac w' hF hL hP hU K hK
      have hB := below_undrew hL
      have e5 : ac.eval (.tmp 5) = .bool true := hF.at 5 (by kernel_rfl)
      exact rop_move _ rfl e5 (wanted_none rfl) (hK _ _ (le8_refl _) rfl)
    · intro ac w' hF hL hP hU K hK
      have hB := below_undrew hL
      have e12 : ac.eval (.tmp 12) = .bool true := hP 0 (by kernel_rfl)
      exact rop_move _ rfl e12 (wanted_none rfl) (hK _ _ (le8_refl _) rfl)
    · intro ac w' hF hL hP hU K hK
      have hB := below_undrew hL
      have e2 : ac.eval (.tmp 2) = .pointer (some ⟨qb, 0, none⟩) := hF.at 2 (by kernel_rfl)
      have e13 : ac.eval (.tmp 13) = .bool true := hP 1 (by kernel_rfl)
      exact rop_idx _ _ _ rfl e2 rfl (hix0 _) (wanted_of (j := 1) (b := true) rfl rfl e13) (hK _ _ (le8_refl _) rfl)
    · intro ac w' hF hL hP hU K hK
      have hB := below_undrew hL
      have e14 : ac.eval (.tmp 14) = .pointer (some ⟨qb, 0, none⟩) := hP 2 (by kernel_rfl)
      have e13 : ac.eval (.tmp 13) = .bool true := hP 1 (by kernel_rfl)
      exact rop_ld _ _ rfl e14 (hld0.out _ hB) (wanted_of (j := 1) (b := true) rfl rfl e13) (hK _ _ (le8_refl _) rfl)
    · intro ac w' hF hL hP hU K hK
      have hB := below_undrew hL
      have e2 : ac.eval (.tmp 2) = .pointer (some ⟨qb, 0, none⟩) := hF.at 2 (by kernel_rfl)
      have e13 : ac.eval (.tmp 13) = .bool true := hP 1 (by kernel_rfl)
      exact rop_idx _ _ _ rfl e2 rfl (hix1 _) (wanted_of (j := 1) (b := true) rfl rfl e13) (hK _ _ (le8_refl _) rfl)
    · intro ac w' hF hL hP hU K hK
      have hB := below_undrew hL
      have e16 : ac.eval (.tmp 16) = .pointer (some ⟨qb, 1, none⟩) := hP 4 (by kernel_rfl)
      have e13 : ac.eval (.tmp 13) = .bool true := hP 1 (by kernel_rfl)
      exact rop_ld _ _ rfl e16 (hld1.out _ hB) (wanted_of (j := 1) (b := true) rfl rfl e13) (hK _ _ (le8_refl _) rfl)
    · intro ac w' hF hL hP hU K hK
      have hB := below_undrew hL
      have e15 : ac.eval (.tmp 15) = .int .i64 q0 := hP 3 (by kernel_rfl)
      have e17 : ac.eval (.tmp 17) = .int .i64 q1 := hP 5 (by kernel_rfl)
      have e13 : ac.eval (.tmp 13) = .bool true := hP 1 (by kernel_rfl)
      refine rop_call 8 _ _ rfl #[.int .i64 q0, .int .i64 q1] (by simp [e15, e17]) (by kernel_rfl) (wanted_of (j := 1) (b := true) rfl rfl e13) ?_
      refine (hdl_any _ _ _ (hTT.out _ hB) a0 b0 a1 b1).mono ?_
      rintro e w2 ⟨rfl, hb⟩
      exact ⟨_, rfl, hK _ _ hb rfl⟩
    · intro ac w' hF hL hP hU K hK
      have hB := below_undrew hL
      have e2 : ac.eval (.tmp 2) = .pointer (some ⟨qb, 0, none⟩) := hF.at 2 (by kernel_rfl)
      have e13 : ac.eval (.tmp 13) = .bool true := hP 1 (by kernel_rfl)
      exact rop_idx _ _ _ rfl e2 rfl (hix0 _) (wanted_of (j := 1) (b := true) rfl rfl e13) (hK _ _ (le8_refl _) rfl)
    · intro ac w' hF hL hP hU K hK
      have hB := below_undrew hL
      have e19 : ac.eval (.tmp 19) = .pointer (some ⟨qb, 0, none⟩) := hP 7 (by kernel_rfl)
      have e13 : ac.eval (.tmp 13) = .bool true := hP 1 (by kernel_rfl)
      exact rop_ld _ _ rfl e19 (hld0.out _ hB) (wanted_of (j := 1) (b := true) rfl rfl e13) (hK _ _ (le8_refl _) rfl)
    · intro ac w' hF hL hP hU K hK
      have hB := below_undrew hL
      have e2 : ac.eval (.tmp 2) = .pointer (some ⟨qb, 0, none⟩) := hF.at 2 (by kernel_rfl)
      have e13 : ac.eval (.tmp 13) = .bool true := hP 1 (by kernel_rfl)
      exact rop_idx _ _ _ rfl e2 rfl (hix1 _) (wanted_of (j := 1) (b := true) rfl rfl e13) (hK _ _ (le8_refl _) rfl)
    · intro ac w' hF hL hP hU K hK
      have hB := below_undrew hL
      have e21 : ac.eval (.tmp 21) = .pointer (some ⟨qb, 1, none⟩) := hP 9 (by kernel_rfl)
      have e13 : ac.eval (.tmp 13) = .bool true := hP 1 (by kernel_rfl)
      exact rop_ld _ _ rfl e21 (hld1.out _ hB) (wanted_of (j := 1) (b := true) rfl rfl e13) (hK _ _ (le8_refl _) rfl)
    · intro ac w' hF hL hP hU K hK
      have hB := below_undrew hL
      have e20 : ac.eval (.tmp 20) = .int .i64 q0 := hP 8 (by kernel_rfl)
      have e22 : ac.eval (.tmp 22) = .int .i64 q1 := hP 10 (by kernel_rfl)
      have e13 : ac.eval (.tmp 13) = .bool true := hP 1 (by kernel_rfl)
      refine rop_call 9 _ _ rfl #[.int .i64 q0, .int .i64 q1] (by simp [e20, e22]) (by kernel_rfl) (wanted_of (j := 1) (b := true) rfl rfl e13) ?_
      refine (refHead_any _ _ _ a0 b0 a1 b1).mono ?_
      rintro e w2 ⟨rfl, hb⟩
      exact ⟨_, rfl, hK _ _ hb rfl⟩
    · intro ac w' hF hL hP hU K hK
      have hB := below_undrew hL
      have e18 : ac.eval (.tmp 18) = .string (hdL (keptN q0 65535) (keptN q1 1099511627776)) := hP 6 (by kernel_rfl)
      have e23 : ac.eval (.tmp 23) = .string (hdL (keptN q0 65535) (keptN q1 1099511627776)) := hP 11 (by kernel_rfl)
      have e13 : ac.eval (.tmp 13) = .bool true := hP 1 (by kernel_rfl)
      exact rop_bin _ _ _ _ _ rfl e18 e23 (guard_str _ _ _ _ _ _ _) (eql_str_t _ _ rfl _) (wanted_of (j := 1) (b := true) rfl rfl e13) (hK _ _ (le8_refl _) rfl)
    · intro ac w' hF hL hP hU K hK
      have hB := below_undrew hL
      have e13 : ac.eval (.tmp 13) = .bool true := hP 1 (by kernel_rfl)
      have e24 : ac.eval (.tmp 24) = .bool true := hP 12 (by kernel_rfl)
      exact rop_pick _ _ _ rfl true e13 (by simpa using e24) (wanted_none rfl) (hK _ _ (le8_refl _) rfl)
    · intro ac w' hF hL hP hU K hK
      have hB := below_undrew hL
      have e25 : ac.eval (.tmp 25) = .bool true := hP 13 (by kernel_rfl)
      exact rop_move _ rfl e25 (wanted_none rfl) (hK _ _ (le8_refl _) rfl)
    · intro ac w' hF hL hP hU K hK
      have hB := below_undrew hL
      have e2 : ac.eval (.tmp 2) = .pointer (some ⟨qb, 0, none⟩) := hF.at 2 (by kernel_rfl)
      have e26 : ac.eval (.tmp 26) = .bool true := hP 14 (by kernel_rfl)
      exact rop_idx _ _ _ rfl e2 rfl (hix0 _) (wanted_of (j := 14) (b := true) rfl rfl e26) (hK _ _ (le8_refl _) rfl)
    · intro ac w' hF hL hP hU K hK
      have hB := below_undrew hL
      have e27 : ac.eval (.tmp 27) = .pointer (some ⟨qb, 0, none⟩) := hP 15 (by kernel_rfl)
      have e26 : ac.eval (.tmp 26) = .bool true := hP 14 (by kernel_rfl)
      exact rop_ld _ _ rfl e27 (hld0.out _ hB) (wanted_of (j := 14) (b := true) rfl rfl e26) (hK _ _ (le8_refl _) rfl)
    · intro ac w' hF hL hP hU K hK
      have hB := below_undrew hL
      have e1 : ac.eval (.tmp 1) = .slice a l.length cap := hF.at 1 (by kernel_rfl)
      have e26 : ac.eval (.tmp 26) = .bool true := hP 14 (by kernel_rfl)
      exact rop_move _ rfl e1 (wanted_of (j := 14) (b := true) rfl rfl e26) (hK _ _ (le8_refl _) rfl)
    · intro ac w' hF hL hP hU K hK
      have hB := below_undrew hL
      have e28 : ac.eval (.tmp 28) = .int .i64 q0 := hP 16 (by kernel_rfl)
      have e29 : ac.eval (.tmp 29) = .slice a l.length cap := hP 17 (by kernel_rfl)
      have e26 : ac.eval (.tmp 26) = .bool true := hP 14 (by kernel_rfl)
      refine rop_call 10 _ _ rfl #[.int .i64 q0, .slice a l.length cap] (by simp [e28, e29]) (by kernel_rfl) (wanted_of (j := 14) (b := true) rfl rfl e26) ?_
      refine (fsl_any _ _ _ _ _ (hTT.out _ hB) (hll.out _ hB) hbd a0 b0).mono ?_
      rintro e w2 ⟨rfl, hb⟩
      exact ⟨_, rfl, hK _ _ hb rfl⟩
    · intro ac w' hF hL hP hU K hK
      have hB := below_undrew hL
      have e2 : ac.eval (.tmp 2) = .pointer (some ⟨qb, 0, none⟩) := hF.at 2 (by kernel_rfl)
      have e26 : ac.eval (.tmp 26) = .bool true := hP 14 (by kernel_rfl)
      exact rop_idx _ _ _ rfl e2 rfl (hix0 _) (wanted_of (j := 14) (b := true) rfl rfl e26) (hK _ _ (le8_refl _) rfl)
    · intro ac w' hF hL hP hU K hK
      have hB := below_undrew hL
      have e31 : ac.eval (.tmp 31) = .pointer (some ⟨qb, 0, none⟩) := hP 19 (by kernel_rfl)
      have e26 : ac.eval (.tmp 26) = .bool true := hP 14 (by kernel_rfl)
      exact rop_ld _ _ rfl e31 (hld0.out _ hB) (wanted_of (j := 14) (b := true) rfl rfl e26) (hK _ _ (le8_refl _) rfl)
    · intro ac w' hF hL hP hU K hK
      have hB := below_undrew hL
      have e1 : ac.eval (.tmp 1) = .slice a l.length cap := hF.at 1 (by kernel_rfl)
      have e26 : ac.eval (.tmp 26) = .bool true := hP 14 (by kernel_rfl)
      exact rop_move _ rfl e1 (wanted_of (j := 14) (b := true) rfl rfl e26) (hK _ _ (le8_refl _) rfl)
    · intro ac w' hF hL hP hU K hK
      have hB := below_undrew hL
      have e32 : ac.eval (.tmp 32) = .int .i64 q0 := hP 20 (by kernel_rfl)
      have e33 : ac.eval (.tmp 33) = .slice a l.length cap := hP 21 (by kernel_rfl)
      have e26 : ac.eval (.tmp 26) = .bool true := hP 14 (by kernel_rfl)
      refine rop_call 11 _ _ rfl #[.int .i64 q0, .slice a l.length cap] (by simp [e32, e33]) (by kernel_rfl) (wanted_of (j := 14) (b := true) rfl rfl e26) ?_
      refine (refFirst_any _ _ _ _ _ (hll.out _ hB) hbd a0 b0).mono ?_
      rintro e w2 ⟨rfl, hb⟩
      exact ⟨_, rfl, hK _ _ hb rfl⟩
    · intro ac w' hF hL hP hU K hK
      have hB := below_undrew hL
      have e30 : ac.eval (.tmp 30) = .string (fsL (keptN q0 1099511627776) (atsK l)) := hP 18 (by kernel_rfl)
      have e34 : ac.eval (.tmp 34) = .string (fsL (keptN q0 1099511627776) (atsK l)) := hP 22 (by kernel_rfl)
      have e26 : ac.eval (.tmp 26) = .bool true := hP 14 (by kernel_rfl)
      exact rop_bin _ _ _ _ _ rfl e30 e34 (guard_str _ _ _ _ _ _ _) (eql_str_t _ _ rfl _) (wanted_of (j := 14) (b := true) rfl rfl e26) (hK _ _ (le8_refl _) rfl)
    · intro ac w' hF hL hP hU K hK
      have hB := below_undrew hL
      have e26 : ac.eval (.tmp 26) = .bool true := hP 14 (by kernel_rfl)
      have e35 : ac.eval (.tmp 35) = .bool true := hP 23 (by kernel_rfl)
      exact rop_pick _ _ _ rfl true e26 (by simpa using e35) (wanted_none rfl) (hK _ _ (le8_refl _) rfl)
    · intro ac w' hF hL hP hU K hK
      have hB := below_undrew hL
      have e36 : ac.eval (.tmp 36) = .bool true := hP 24 (by kernel_rfl)
      exact rop_move _ rfl e36 (wanted_none rfl) (hK _ _ (le8_refl _) rfl)
    · intro ac w' hF hL hP hU K hK
      have hB := below_undrew hL
      have e2 : ac.eval (.tmp 2) = .pointer (some ⟨qb, 0, none⟩) := hF.at 2 (by kernel_rfl)
      have e37 : ac.eval (.tmp 37) = .bool true := hP 25 (by kernel_rfl)
      exact rop_idx _ _ _ rfl e2 rfl (hix0 _) (wanted_of (j := 25) (b := true) rfl rfl e37) (hK _ _ (le8_refl _) rfl)
    · intro ac w' hF hL hP hU K hK
      have hB := below_undrew hL
      have e38 : ac.eval (.tmp 38) = .pointer (some ⟨qb, 0, none⟩) := hP 26 (by kernel_rfl)
      have e37 : ac.eval (.tmp 37) = .bool true := hP 25 (by kernel_rfl)
      exact rop_ld _ _ rfl e38 (hld0.out _ hB) (wanted_of (j := 25) (b := true) rfl rfl e37) (hK _ _ (le8_refl _) rfl)
    · intro ac w' hF hL hP hU K hK
      have hB := below_undrew hL
      have e2 : ac.eval (.tmp 2) = .pointer (some ⟨qb, 0, none⟩) := hF.at 2 (by kernel_rfl)
      have e37 : ac.eval (.tmp 37) = .bool true := hP 25 (by kernel_rfl)
      exact rop_idx _ _ _ rfl e2 rfl (hix1 _) (wanted_of (j := 25) (b := true) rfl rfl e37) (hK _ _ (le8_refl _) rfl)
    · intro ac w' hF hL hP hU K hK
      have hB := below_undrew hL
      have e40 : ac.eval (.tmp 40) = .pointer (some ⟨qb, 1, none⟩) := hP 28 (by kernel_rfl)
      have e37 : ac.eval (.tmp 37) = .bool true := hP 25 (by kernel_rfl)
      exact rop_ld _ _ rfl e40 (hld1.out _ hB) (wanted_of (j := 25) (b := true) rfl rfl e37) (hK _ _ (le8_refl _) rfl)
    · intro ac w' hF hL hP hU K hK
      have hB := below_undrew hL
      have e39 : ac.eval (.tmp 39) = .int .i64 q0 := hP 27 (by kernel_rfl)
      have e41 : ac.eval (.tmp 41) = .int .i64 q1 := hP 29 (by kernel_rfl)
      have e37 : ac.eval (.tmp 37) = .bool true := hP 25 (by kernel_rfl)
      refine rop_call 12 _ _ rfl #[.int .i64 q0, .int .i64 q1] (by simp [e39, e41]) (by kernel_rfl) (wanted_of (j := 25) (b := true) rfl rfl e37) ?_
      refine (lsl_any _ _ _ (hTT.out _ hB) a0 b0 a1 b1).mono ?_
      rintro e w2 ⟨rfl, hb⟩
      exact ⟨_, rfl, hK _ _ hb rfl⟩
    · intro ac w' hF hL hP hU K hK
      have hB := below_undrew hL
      have e2 : ac.eval (.tmp 2) = .pointer (some ⟨qb, 0, none⟩) := hF.at 2 (by kernel_rfl)
      have e37 : ac.eval (.tmp 37) = .bool true := hP 25 (by kernel_rfl)
      exact rop_idx _ _ _ rfl e2 rfl (hix0 _) (wanted_of (j := 25) (b := true) rfl rfl e37) (hK _ _ (le8_refl _) rfl)
    · intro ac w' hF hL hP hU K hK
      have hB := below_undrew hL
      have e43 : ac.eval (.tmp 43) = .pointer (some ⟨qb, 0, none⟩) := hP 31 (by kernel_rfl)
      have e37 : ac.eval (.tmp 37) = .bool true := hP 25 (by kernel_rfl)
      exact rop_ld _ _ rfl e43 (hld0.out _ hB) (wanted_of (j := 25) (b := true) rfl rfl e37) (hK _ _ (le8_refl _) rfl)
    · intro ac w' hF hL hP hU K hK
      have hB := below_undrew hL
      have e2 : ac.eval (.tmp 2) = .pointer (some ⟨qb, 0, none⟩) := hF.at 2 (by kernel_rfl)
      have e37 : ac.eval (.tmp 37) = .bool true := hP 25 (by kernel_rfl)
      exact rop_idx _ _ _ rfl e2 rfl (hix1 _) (wanted_of (j := 25) (b := true) rfl rfl e37) (hK _ _ (le8_refl _) rfl)
    · intro ac w' hF hL hP hU K hK
      have hB := below_undrew hL
      have e45 : ac.eval (.tmp 45) = .pointer (some ⟨qb, 1, none⟩) := hP 33 (by kernel_rfl)
      have e37 : ac.eval (.tmp 37) = .bool true := hP 25 (by kernel_rfl)
      exact rop_ld _ _ rfl e45 (hld1.out _ hB) (wanted_of (j := 25) (b := true) rfl rfl e37) (hK _ _ (le8_refl _) rfl)
    · intro ac w' hF hL hP hU K hK
      have hB := below_undrew hL
      have e44 : ac.eval (.tmp 44) = .int .i64 q0 := hP 32 (by kernel_rfl)
      have e46 : ac.eval (.tmp 46) = .int .i64 q1 := hP 34 (by kernel_rfl)
      have e37 : ac.eval (.tmp 37) = .bool true := hP 25 (by kernel_rfl)
      refine rop_call 13 _ _ rfl #[.int .i64 q0, .int .i64 q1] (by simp [e44, e46]) (by kernel_rfl) (wanted_of (j := 25) (b := true) rfl rfl e37) ?_
      refine (refLast_any _ _ _ a0 b0 a1 b1).mono ?_
      rintro e w2 ⟨rfl, hb⟩
      exact ⟨_, rfl, hK _ _ hb rfl⟩
    · intro ac w' hF hL hP hU K hK
      have hB := below_undrew hL
      have e42 : ac.eval (.tmp 42) = .string (lsL (keptN q0 1099511627776) (keptN q1 1099511627776)) := hP 30 (by kernel_rfl)
      have e47 : ac.eval (.tmp 47) = .string (lsL (keptN q0 1099511627776) (keptN q1 1099511627776)) := hP 35 (by kernel_rfl)
      have e37 : ac.eval (.tmp 37) = .bool true := hP 25 (by kernel_rfl)
      exact rop_bin _ _ _ _ _ rfl e42 e47 (guard_str _ _ _ _ _ _ _) (eql_str_t _ _ rfl _) (wanted_of (j := 25) (b := true) rfl rfl e37) (hK _ _ (le8_refl _) rfl)
    · intro ac w' hF hL hP hU K hK
      have hB := below_undrew hL
      have e37 : ac.eval (.tmp 37) = .bool true := hP 25 (by kernel_rfl)
      have e48 : ac.eval (.tmp 48) = .bool true := hP 36 (by kernel_rfl)
      exact rop_pick _ _ _ rfl true e37 (by simpa using e48) (wanted_none rfl) (hK _ _ (le8_refl _) rfl)
    · intro ac w' hF hL hP hU K hK
      have hB := below_undrew hL
      have e49 : ac.eval (.tmp 49) = .bool true := hP 37 (by kernel_rfl)
      exact rop_assign _ rfl e49 (wanted_none rfl) (hK _ _ (le8_refl _) rfl)
    · intro ac w' hF hB hT
      have e4 : ac.eval (.tmp 4) = .bool true := hT 38 (by decide)
      rw [hF.lit 50 rfl]
      simp only [List.range, List.range.loop, List.map_cons, List.map_nil, e4]
      go_wp2
      go_ret
      exact ⟨rfl, below_step s3 (Nat.le_refl _) (by first | exact hB | exact below_undrew hB)⟩
  · have hgt' : 70 < (l0.length : Int) := by omega
    have hcap70 : 70 ≤ cap := by omega
    have hll : Hid (∀ u, Below w3.heap.size w3 u → Ints u (.slice a l.length cap) l b) := Lib.hid fun u hb => HLV.out u hb cap (by omega) hcap.2
    clear HLV
    go_upto_region 4 with fail
    rw [show (70 : Nat) = l.length from hln.symm]
    try simp only [Act.put]
    refine wp_region_tab [RT.is (.bool true), RT.is (.bool true), RT.is (.pointer (some ⟨qb, 0, none⟩)), RT.is (.int .i64 q0), RT.is (.pointer (some ⟨qb, 1, none⟩)), RT.is (.int .i64 q1), RT.is (.string (hdL (keptN q0 65535) (keptN q1 1099511627776))), RT.is (.pointer (some ⟨qb, 0, none⟩)), RT.is (.int .i64 q0), RT.is (.pointer (some ⟨qb, 1, none⟩)), RT.is (.int .i64 q1), RT.is (.string (hdL (keptN q0 65535) (keptN q1 1099511627776))), RT.is (.bool true), RT.is (.bool true), RT.is (.bool true), RT.is (.pointer (some ⟨qb, 0, none⟩)), RT.is (.int .i64 q0), RT.is (.slice a l.length cap), RT.is (.string (fsL (keptN q0 1099511627776) (atsK l))), RT.is (.pointer (some ⟨qb, 0, none⟩)), RT.is (.int .i64 q0), RT.is (.slice a l.length cap), RT.is (.string (fsL (keptN q0 1099511627776) (atsK l))), RT.is (.bool true), RT.is (.bool true), RT.is (.bool true), RT.is (.pointer (some ⟨qb, 0, none⟩)), RT.is (.int .i64 q0), RT.is (.pointer (some ⟨qb, 1, none⟩)), RT.is (.int .i64 q1), RT.is (.string (lsL (keptN q0 1099511627776) (keptN q1 1099511627776))), RT.is (.pointer (some ⟨qb, 0, none⟩)), RT.is (.int .i64 q0), RT.is (.pointer (some ⟨qb, 1, none⟩)), RT.is (.int .i64 q1), RT.is (.string (lsL (keptN q0 1099511627776) (keptN q1 1099511627776))), RT.is (.bool true), RT.is (.bool true), RT.is (.bool true)] (by kernel_rfl) (by kernel_rfl) (by kernel_rfl) (by kernel_rfl) ⟨?_, ?_, ?_, ?_, ?_, ?_, ?_, ?_, ?_, ?_, ?_, ?_, ?_, ?_, ?_, ?_, ?_, ?_, ?_, ?_, ?_, ?_, ?_, ?_, ?_, ?_, ?_, ?_, ?_, ?_, ?_, ?_, ?_, ?_, ?_, ?_, ?_, ?_, ?_, trivial⟩ ?_
    · intro ac w' hF hL hP hU K hK
      have hB := below_undrew hL
      have e5 : ac.eval (.tmp 5) = .bool true := hF.at 5 (by kernel_rfl)
      exact rop_move _ rfl e5 (wanted_none rfl) (hK _ _ (le8_refl _) rfl)
    · intro ac w' hF hL hP hU K hK
      have hB := below_undrew hL
      have e12 : ac.eval (.tmp 12) = .bool true := hP 0 (by kernel_rfl)
      exact rop_move _ rfl e12 (wanted_none rfl) (hK _ _ (le8_refl _) rfl)
    · intro ac w' hF hL hP hU K hK
      have hB := below_undrew hL
      have e2 : ac.eval (.tmp 2) = .pointer (some ⟨qb, 0, none⟩) := hF.at 2 (by kernel_rfl)
      have e13 : ac.eval (.tmp 13) = .bool true := hP 1 (by kernel_rfl)
      exact rop_idx _ _ _ rfl e2 rfl (hix0 _) (wanted_of (j := 1) (b := true) rfl rfl e13) (hK _ _ (le8_refl _) rfl)
    · intro ac w' hF hL hP hU K hK
      have hB := below_undrew hL
      have e14 : ac.eval (.tmp 14) = .pointer (some ⟨qb, 0, none⟩) := hP 2 (by kernel_rfl)
      have e13 : ac.eval (.tmp 13) = .bool true := hP 1 (by kernel_rfl)
      exact rop_ld _ _ rfl e14 (hld0.out _ hB) (wanted_of (j := 1) (b := true) rfl rfl e13) (hK _ _ (le8_refl _) rfl)
    · intro ac w' hF hL hP hU K hK
      have hB := below_undrew hL
      have e2 : ac.eval (.tmp 2) = .pointer (some ⟨qb, 0, none⟩) := hF.at 2 (by kernel_rfl)
      have e13 : ac.eval (.tmp 13) = .bool true := hP 1 (by kernel_rfl)
      exact rop_idx _ _ _ rfl e2 rfl (hix1 _) (wanted_of (j := 1) (b := true) rfl rfl e13) (hK _ _ (le8_refl _) rfl)
    · intro ac w' hF hL hP hU K hK
      have hB := below_undrew hL
      have e16 : ac.eval (.tmp 16) = .pointer (some ⟨qb, 1, none⟩) := hP 4 (by kernel_rfl)
      have e13 : ac.eval (.tmp 13) = .bool true := hP 1 (by kernel_rfl)
      exact rop_ld _ _ rfl e16 (hld1.out _ hB) (wanted_of (j := 1) (b := true) rfl rfl e13) (hK _ _ (le8_refl _) rfl)
    · intro ac w' hF hL hP hU K hK
      have hB := below_undrew hL
      have e15 : ac.eval (.tmp 15) = .int .i64 q0 := hP 3 (by kernel_rfl)
      have e17 : ac.eval (.tmp 17) = .int .i64 q1 := hP 5 (by kernel_rfl)
      have e13 : ac.eval (.tmp 13) = .bool true := hP 1 (by kernel_rfl)
      refine rop_call 8 _ _ rfl #[.int .i64 q0, .int .i64 q1] (by simp [e15, e17]) (by kernel_rfl) (wanted_of (j := 1) (b := true) rfl rfl e13) ?_
      refine (hdl_any _ _ _ (hTT.out _ hB) a0 b0 a1 b1).mono ?_
      rintro e w2 ⟨rfl, hb⟩
      exact ⟨_, rfl, hK _ _ hb rfl⟩
    · intro ac w' hF hL hP hU K hK
      have hB := below_undrew hL
      have e2 : ac.eval (.tmp 2) = .pointer (some ⟨qb, 0, none⟩) := hF.at 2 (by kernel_rfl)
      have e13 : ac.eval (.tmp 13) = .bool true := hP 1 (by kernel_rfl)
      exact rop_idx _ _ _ rfl e2 rfl (hix0 _) (wanted_of (j := 1) (b := true) rfl rfl e13) (hK _ _ (le8_refl _) rfl)
    · intro ac w' hF hL hP hU K hK
      have hB := below_undrew hL
      have e19 : ac.eval (.tmp 19) = .pointer (some ⟨qb, 0, none⟩) := hP 7 (by kernel_rfl)
      have e13 : ac.eval (.tmp 13) = .bool true := hP 1 (by kernel_rfl)
      exact rop_ld _ _ rfl e19 (hld0.out _ hB) (wanted_of (j := 1) (b := true) rfl rfl e13) (hK _ _ (le8_refl _) rfl)
    · intro ac w' hF hL hP hU K hK
      have hB := below_undrew hL
      have e2 : ac.eval (.tmp 2) = .pointer (some ⟨qb, 0, none⟩) := hF.at 2 (by kernel_rfl)
      have e13 : ac.eval (.tmp 13) = .bool true := hP 1 (by kernel_rfl)
      exact rop_idx _ _ _ rfl e2 rfl (hix1 _) (wanted_of (j := 1) (b := true) rfl rfl e13) (hK _ _ (le8_refl _) rfl)
    · intro ac w' hF hL hP hU K hK
      have hB := below_undrew hL
      have e21 : ac.eval (.tmp 21) = .pointer (some ⟨qb, 1, none⟩) := hP 9 (by kernel_rfl)
      have e13 : ac.eval (.tmp 13) = .bool true := hP 1 (by kernel_rfl)
      exact rop_ld _ _ rfl e21 (hld1.out _ hB) (wanted_of (j := 1) (b := true) rfl rfl e13) (hK _ _ (le8_refl _) rfl)
    · intro ac w' hF hL hP hU K hK
      have hB := below_undrew hL
      have e20 : ac.eval (.tmp 20) = .int .i64 q0 := hP 8 (by kernel_rfl)
      have e22 : ac.eval (.tmp 22) = .int .i64 q1 := hP 10 (by kernel_rfl)
      have e13 : ac.eval (.tmp 13) = .bool true := hP 1 (by kernel_rfl)
      refine rop_call 9 _ _ rfl #[.int .i64 q0, .int .i64 q1] (by simp [e20, e22]) (by kernel_rfl) (wanted_of (j := 1) (b := true) rfl rfl e13) ?_
      refine (refHead_any _ _ _ a0 b0 a1 b1).mono ?_
      rintro e w2 ⟨rfl, hb⟩
      exact ⟨_, rfl, hK _ _ hb rfl⟩
    · intro ac w' hF hL hP hU K hK
      have hB := below_undrew hL
      have e18 : ac.eval (.tmp 18) = .string (hdL (keptN q0 65535) (keptN q1 1099511627776)) := hP 6 (by kernel_rfl)
      have e23 : ac.eval (.tmp 23) = .string (hdL (keptN q0 65535) (keptN q1 1099511627776)) := hP 11 (by kernel_rfl)
      have e13 : ac.eval (.tmp 13) = .bool true := hP 1 (by kernel_rfl)
      exact rop_bin _ _ _ _ _ rfl e18 e23 (guard_str _ _ _ _ _ _ _) (eql_str_t _ _ rfl _) (wanted_of (j := 1) (b := true) rfl rfl e13) (hK _ _ (le8_refl _) rfl)
    · intro ac w' hF hL hP hU K hK
      have hB := below_undrew hL
      have e13 : ac.eval (.tmp 13) = .bool true := hP 1 (by kernel_rfl)
      have e24 : ac.eval (.tmp 24) = .bool true := hP 12 (by kernel_rfl)
      exact rop_pick _ _ _ rfl true e13 (by simpa using e24) (wanted_none rfl) (hK _ _ (le8_refl _) rfl)
    · intro ac w' hF hL hP hU K hK
      have hB := below_undrew hL
      have e25 : ac.eval (.tmp 25) = .bool true := hP 13 (by kernel_rfl)
      exact rop_move _ rfl e25 (wanted_none rfl) (hK _ _ (le8_refl _) rfl)
    · intro ac w' hF hL hP hU K hK
      have hB := below_undrew hL
      have e2 : ac.eval (.tmp 2) = .pointer (some ⟨qb, 0, none⟩) := hF.at 2 (by kernel_rfl)
      have e26 : ac.eval (.tmp 26) = .bool true := hP 14 (by kernel_rfl)
      exact rop_idx _ _ _ rfl e2 rfl (hix0 _) (wanted_of (j := 14) (b := true) rfl rfl e26) (hK _ _ (le8_refl _) rfl)
    · intro ac w' hF hL hP hU K hK
      have hB := below_undrew hL
      have e27 : ac.eval (.tmp 27) = .pointer (some ⟨qb, 0, none⟩) := hP 15 (by kernel_rfl)
      have e26 : ac.eval (.tmp 26) = .bool true := hP 14 (by kernel_rfl)
      exact rop_ld _ _ rfl e27 (hld0.out _ hB) (wanted_of (j := 14) (b := true) rfl rfl e26) (hK _ _ (le8_refl _) rfl)
    · intro ac w' hF hL hP hU K hK
      have hB := below_undrew hL
      have e1 : ac.eval (.tmp 1) = .slice a l.length cap := hF.at 1 (by kernel_rfl)
      have e26 : ac.eval (.tmp 26) = .bool true := hP 14 (by kernel_rfl)
      exact rop_move _ rfl e1 (wanted_of (j := 14) (b := true) rfl rfl e26) (hK _ _ (le8_refl _) rfl)
    · intro ac w' hF hL hP hU K hK
      have hB := below_undrew hL
      have e28 : ac.eval (.tmp 28) = .int .i64 q0 := hP 16 (by kernel_rfl)
      have e29 : ac.eval (.tmp 29) = .slice a l.length cap := hP 17 (by kernel_rfl)
      have e26 : ac.eval (.tmp 26) = .bool true := hP 14 (by kernel_rfl)
      refine rop_call 10 _ _ rfl #[.int .i64 q0, .slice a l.length cap] (by simp [e28, e29]) (by kernel_rfl) (wanted_of (j := 14) (b := true) rfl rfl e26) ?_
      refine (fsl_any _ _ _ _ _ (hTT.out _ hB) (hll.out _ hB) hbd a0 b0).mono ?_
      rintro e w2 ⟨rfl, hb⟩
      exact ⟨_, rfl, hK _ _ hb rfl⟩
    · intro ac w' hF hL hP hU K hK
      have hB := below_undrew hL
      have e2 : ac.eval (.tmp 2) = .pointer (some ⟨qb, 0, none⟩) := hF.at 2 (by kernel_rfl)
      have e26 : ac.eval (.tmp 26) = .bool true := hP 14 (by kernel_rfl)
      exact rop_idx _ _ _ rfl e2 rfl (hix0 _) (wanted_of (j := 14) (b := true) rfl rfl e26) (hK _ _ (le8_refl _) rfl)
    · intro ac w' hF hL hP hU K hK
      have hB := below_undrew hL
      have e31 : ac.eval (.tmp 31) = .pointer (some ⟨qb, 0, none⟩) := hP 19 (by kernel_rfl)
      have e26 : ac.eval (.tmp 26) = .bool true := hP 14 (by kernel_rfl)
      exact rop_ld _ _ rfl e31 (hld0.out _ hB) (wanted_of (j := 14) (b := true) rfl rfl e26) (hK _ _ (le8_refl _) rfl)
    · intro ac w' hF hL hP hU K hK
      have hB := below_undrew hL
      have e1 : ac.eval (.tmp 1) = .slice a l.length cap := hF.at 1 (by kernel_rfl)
      have e26 : ac.eval (.tmp 26) = .bool true := hP 14 (by kernel_rfl)
      exact rop_move _ rfl e1 (wanted_of (j := 14) (b := true) rfl rfl e26) (hK _ _ (le8_refl _) rfl)
    · intro ac w' hF hL hP hU K hK
      have hB := below_undrew hL
      have e32 : ac.eval (.tmp 32) = .int .i64 q0 := hP 20 (by kernel_rfl)
      have e33 : ac.eval (.tmp 33) = .slice a l.length cap := hP 21 (by kernel_rfl)
      have e26 : ac.eval (.tmp 26) = .bool true := hP 14 (by kernel_rfl)
      refine rop_call 11 _ _ rfl #[.int .i64 q0, .slice a l.length cap] (by simp [e32, e33]) (by kernel_rfl) (wanted_of (j := 14) (b := true) rfl rfl e26) ?_
      refine (refFirst_any _ _ _ _ _ (hll.out _ hB) hbd a0 b0).mono ?_
      rintro e w2 ⟨rfl, hb⟩
      exact ⟨_, rfl, hK _ _ hb rfl⟩
    · intro ac w' hF hL hP hU K hK
      have hB := below_undrew hL
      have e30 : ac.eval (.tmp 30) = .string (fsL (keptN q0 1099511627776) (atsK l)) := hP 18 (by kernel_rfl)
      have e34 : ac.eval (.tmp 34) = .string (fsL (keptN q0 1099511627776) (atsK l)) := hP 22 (by kernel_rfl)
      have e26 : ac.eval (.tmp 26) = .bool true := hP 14 (by kernel_rfl)
      exact rop_bin _ _ _ _ _ rfl e30 e34 (guard_str _ _ _ _ _ _ _) (eql_str_t _ _ rfl _) (wanted_of (j := 14) (b := true) rfl rfl e26) (hK _ _ (le8_refl _) rfl)
    · intro ac w' hF hL hP hU K hK
      have hB := below_undrew hL
      have e26 : ac.eval (.tmp 26) = .bool true := hP 14 (by kernel_rfl)
      have e35 : ac.eval (.tmp 35) = .bool true := hP 23 (by kernel_rfl)
      exact rop_pick _ _ _ rfl true e26 (by simpa using e35) (wanted_none rfl) (hK _ _ (le8_refl _) rfl)
    · intro ac w' hF hL hP hU K hK
      have hB := below_undrew hL
      have e36 : ac.eval (.tmp 36) = .bool true := hP 24 (by kernel_rfl)
      exact rop_move _ rfl e36 (wanted_none rfl) (hK _ _ (le8_refl _) rfl)
    · intro ac w' hF hL hP hU K hK
      have hB := below_undrew hL
      have e2 : ac.eval (.tmp 2) = .pointer (some ⟨qb, 0, none⟩) := hF.at 2 (by kernel_rfl)
      have e37 : ac.eval (.tmp 37) = .bool true := hP 25 (by kernel_rfl)
      exact rop_idx _ _ _ rfl e2 rfl (hix0 _) (wanted_of (j := 25) (b := true) rfl rfl e37) (hK _ _ (le8_refl _) rfl)
    · intro ac w' hF hL hP hU K hK
      have hB := below_undrew hL
      have e38 : ac.eval (.tmp 38) = .pointer (some ⟨qb, 0, none⟩) := hP 26 (by kernel_rfl)
      have e37 : ac.eval (.tmp 37) = .bool true := hP 25 (by kernel_rfl)
      exact rop_ld _ _ rfl e38 (hld0.out _ hB) (wanted_of (j := 25) (b := true) rfl rfl e37) (hK _ _ (le8_refl _) rfl)
    · intro ac w' hF hL hP hU K hK
      have hB := below_undrew hL
      have e2 : ac.eval (.tmp 2) = .pointer (some ⟨qb, 0, none⟩) := hF.at 2 (by kernel_rfl)
      have e37 : ac.eval (.tmp 37) = .bool true := hP 25 (by kernel_rfl)
      exact rop_idx _ _ _ rfl e2 rfl (hix1 _) (wanted_of (j := 25) (b := true) rfl rfl e37) (hK _ _ (le8_refl _) rfl)
    · intro ac w' hF hL hP hU K hK
      have hB := below_undrew hL
      have e40 : ac.eval (.tmp 40) = .pointer (some ⟨qb, 1, none⟩) := hP 28 (by kernel_rfl)
      have e37 : ac.eval (.tmp 37) = .bool true := hP 25 (by kernel_rfl)
      exact rop_ld _ _ rfl e40 (hld1.out _ hB) (wanted_of (j := 25) (b := true) rfl rfl e37) (hK _ _ (le8_refl _) rfl)
    · intro ac w' hF hL hP hU K hK
      have hB := below_undrew hL
      have e39 : ac.eval (.tmp 39) = .int .i64 q0 := hP 27 (by kernel_rfl)
      have e41 : ac.eval (.tmp 41) = .int .i64 q1 := hP 29 (by kernel_rfl)
      have e37 : ac.eval (.tmp 37) = .bool true := hP 25 (by kernel_rfl)
      refine rop_call 12 _ _ rfl #[.int .i64 q0, .int .i64 q1] (by simp [e39, e41]) (by kernel_rfl) (wanted_of (j := 25) (b := true) rfl rfl e37) ?_
      refine (lsl_any _ _ _ (hTT.out _ hB) a0 b0 a1 b1).mono ?_
      rintro e w2 ⟨rfl, hb⟩
      exact ⟨_, rfl, hK _ _ hb rfl⟩
    · intro ac w' hF hL hP hU K hK
      have hB := below_undrew hL
      have e2 : ac.eval (.tmp 2) = .pointer (some ⟨qb, 0, none⟩) := hF.at 2 (by kernel_rfl)
      have e37 : ac.eval (.tmp 37) = .bool true := hP 25 (by kernel_rfl)
      exact rop_idx _ _ _ rfl e2 rfl (hix0 _) (wanted_of (j := 25) (b := true) rfl rfl e37) (hK _ _ (le8_refl _) rfl)
    · intro ac w' hF hL hP hU K hK
      have hB := below_undrew hL
      have e43 : ac.eval (.tmp 43) = .pointer (some ⟨qb, 0, none⟩) := hP 31 (by kernel_rfl)
      have e37 : ac.eval (.tmp 37) = .bool true := hP 25 (by kernel_rfl)
      exact rop_ld _ _ rfl e43 (hld0.out _ hB) (wanted_of (j := 25) (b := true) rfl rfl e37) (hK _ _ (le8_refl _) rfl)
    · intro ac w' hF hL hP hU K hK
      have hB := below_undrew hL
      have e2 : ac.eval (.tmp 2) = .pointer (some ⟨qb, 0, none⟩) := hF.at 2 (by kernel_rfl)
      have e37 : ac.eval (.tmp 37) = .bool true := hP 25 (by kernel_rfl)
      exact rop_idx _ _ _ rfl e2 rfl (hix1 _) (wanted_of (j := 25) (b := true) rfl rfl e37) (hK _ _ (le8_refl _) rfl)
    · intro ac w' hF hL hP hU K hK
      have hB := below_undrew hL
      have e45 : ac.eval (.tmp 45) = .pointer (some ⟨qb, 1, none⟩) := hP 33 (by kernel_rfl)
      have e37 : ac.eval (.tmp 37) = .bool true := hP 25 (by kernel_rfl)
      exact rop_ld _ _ rfl e45 (hld1.out _ hB) (wanted_of (j := 25) (b := true) rfl rfl e37) (hK _ _ (le8_refl _) rfl)
    · intro ac w' hF hL hP hU K hK
      have hB := below_undrew hL
      have e44 : ac.eval (.tmp 44) = .int .i64 q0 := hP 32 (by kernel_rfl)
      have e46 : ac.eval (.tmp 46) = .int .i64 q1 := hP 34 (by kernel_rfl)
      have e37 : ac.eval (.tmp 37) = .bool true := hP 25 (by kernel_rfl)
      refine rop_call 13 _ _ rfl #[.int .i64 q0, .int .i64 q1] (by simp [e44, e46]) (by kernel_rfl) (wanted_of (j := 25) (b := true) rfl rfl e37) ?_
      refine (refLast_any _ _ _ a0 b0 a1 b1).mono ?_
      rintro e w2 ⟨rfl, hb⟩
      exact ⟨_, rfl, hK _ _ hb rfl⟩
    · intro ac w' hF hL hP hU K hK
      have hB := below_undrew hL
      have e42 : ac.eval (.tmp 42) = .string (lsL (keptN q0 1099511627776) (keptN q1 1099511627776)) := hP 30 (by kernel_rfl)
      have e47 : ac.eval (.tmp 47) = .string (lsL (keptN q0 1099511627776) (keptN q1 1099511627776)) := hP 35 (by kernel_rfl)
      have e37 : ac.eval (.tmp 37) = .bool true := hP 25 (by kernel_rfl)
      exact rop_bin _ _ _ _ _ rfl e42 e47 (guard_str _ _ _ _ _ _ _) (eql_str_t _ _ rfl _) (wanted_of (j := 25) (b := true) rfl rfl e37) (hK _ _ (le8_refl _) rfl)
    · intro ac w' hF hL hP hU K hK
      have hB := below_undrew hL
      have e37 : ac.eval (.tmp 37) = .bool true := hP 25 (by kernel_rfl)
      have e48 : ac.eval (.tmp 48) = .bool true := hP 36 (by kernel_rfl)
      exact rop_pick _ _ _ rfl true e37 (by simpa using e48) (wanted_none rfl) (hK _ _ (le8_refl _) rfl)
    · intro ac w' hF hL hP hU K hK
      have hB := below_undrew hL
      have e49 : ac.eval (.tmp 49) = .bool true := hP 37 (by kernel_rfl)
      exact rop_assign _ rfl e49 (wanted_none rfl) (hK _ _ (le8_refl _) rfl)
    · intro ac w' hF hB hT
      have e4 : ac.eval (.tmp 4) = .bool true := hT 38 (by decide)
      rw [hF.lit 50 rfl]
      simp only [List.range, List.range.loop, List.map_cons, List.map_nil, e4]
      go_wp2
      go_ret
      exact ⟨rfl, below_step s3 (Nat.le_refl _) (by first | exact hB | exact below_undrew hB)⟩

set_option maxRecDepth 100000 in
theorem lifted (os : Os) (started : os.Started) (H : Type) (enc : TypeId × Value → H) :
    ReturnsInHanded {} Tryz.checked os 3 .any (fun w args => (Rows.redoLinesSpec.pre enc Tryz.prog Tryz.f3 [] false w args ∧ laidMetH Tryz.prog [("scrinium/check.fourSteps", Rows.laid_scrinium_check_fourSteps)] w) ∧ sizedMet enc Tryz.prog Tryz.f3 (OpenSpec.ofChange Rows.redoLinesSpec) false w args)
      (Rows.redoLinesSpec.post enc Tryz.prog Tryz.f3 false true false false) := by
  refine returnsInHanded_of_change_and (C := Tryz.checked) (X := fun w _ => laidMetH Tryz.prog [("scrinium/check.fourSteps", Rows.laid_scrinium_check_fourSteps)] w) (fun _ _ _ hh h => h.of_heap hh) lawOwn started (by kernel_rfl) Tryz.func3
    (ChangeSpec.witness_shaped (enc := enc) (C := Tryz.checked) (os := os) (X := fun w _ => laidMetH Tryz.prog [("scrinium/check.fourSteps", Rows.laid_scrinium_check_fourSteps)] w) false (World.doorLaid Tryz.prog 400 os) #[.agg #[.int .i64 0, .int .i64 0], .slice none 0 0] 8 rfl (World.shaped_of_RefB (by kernel_rfl) (by kernel_rfl)) (by kernel_rfl) (by kernel_rfl) (by kernel_rfl) (door_met os _)) ?_
  intro W base args ds gs before hval0 hW _ _ hL _
  have hval : ∀ (j : Nat) t v, Tryz.f3.params[j]? = some t → args[j]? = some v → Value.okWide Tryz.prog W .any base t v := hval0
  have hW' := hW
  obtain ⟨p, q, hA0, hV, rfl, hfz, hnd⟩ := hW
  have hA : DataW.TrodAll enc Tryz.prog W 0 (fun _ => true) true Tryz.f3.params.toList args.toList ds p := hA0
  rw [Tryz.params3] at hA hval
  obtain ⟨v0, vs0, d0, ds0, p0, q0, hargs, rfl, rfl, h0, r0⟩ := trodAll_cons hA
  obtain ⟨v1, vs1, d1, ds1, p1, q1, rfl, rfl, rfl, h1, r1⟩ := trodAll_cons r0
  obtain ⟨rfl, rfl, rfl⟩ := trodAll_nil r1
  obtain rfl : args = #[v0, v1] := by cases args; simp_all
  obtain ⟨rfl, rfl⟩ := trodVars_none hV
  have hKT := KT_of_laid hL
  obtain ⟨z0, y0, rfl, w0, w0b⟩ := ints2_arg (hval 0 22 v0 rfl rfl) h0
  obtain ⟨a1, len1, cap1, rfl⟩ := okWide_slice Tryz.underlying23 (hval 1 23 v1 rfl rfl)
  obtain ⟨zs1, b1, w1, u1, t1⟩ := ints_of (Nat.lt_of_le_of_lt (Nat.zero_le _) hKT.pos) h1
  clear hA0 hval0
  refine (walk (w := W) hKT z0 y0 w0 w0b _ zs1 b1 w1 u1 t1).mono fun e W' ⟨he, bel⟩ => ?_
  subst he
  exact ⟨_, rfl, law_post rfl rfl (by kernel_rfl) hW' rfl bel⟩

theorem row_holds : Rows.RedoLinesSaid :=
  OpenClaim.holds_of_wide 3 Tryz.f3 rfl rfl rfl rfl rfl rfl rfl ⟨rfl, rfl, rfl, rfl, rfl⟩ rfl rfl rfl rfl rfl (by kernel_rfl) Tryz.func3 (by kernel_rfl)
    (of_decide_eq_true (by kernel_rfl)) (by unfold Func.isWrapper; first | (rw [if_pos (by decide +kernel)]; kernel_rfl) | (rw [if_neg (by decide +kernel)]; exact ⟨rfl, rfl⟩))
    (fun os started H enc _ => lifted os started H enc)

theorem holds : Rows.RedoLinesCardSaid :=
  Claim7.holds_tied_plain_at .later [] [.data] true Rows.redoLinesCard.stood.harness false
    row_holds (fun _ h => by cases h) (by kernel_rfl) (fun _ h => by cases h) redoLines_row_tie rfl ⟨rfl, rfl⟩ (by kernel_rfl) rfl
    (fun f fn hf hfn => by
      obtain rfl : f = 3 := Option.some.inj ((show Tryz.prog.funcNamed "scrinium/scriniumlaw07.RedoLines" = some 3 by kernel_rfl).symm.trans hf) |>.symm
      obtain rfl : fn = Tryz.f3 := (Option.some.inj (Tryz.func3.symm.trans hfn)).symm
      exact ⟨by kernel_rfl, fun j t ht => by
        rw [Tryz.params3] at ht
        have hm : t ∈ [22, 23] := by simpa using Array.mem_of_getElem? ht
        have hall : ([22, 23].all fun u => !Tryz.prog.wantsStandIn u) = true := by kernel_rfl
        exact (show Tryz.prog.wantsStandIn t = false by simpa using List.all_eq_true.1 hall t hm)⟩)
    (by kernel_rfl)
end Go.Proofs.YteggaeopnljgnaaGreatDoor.redoLines

theorem Go.Proofs.YteggaeopnljgnaaGreatDoor.redoLines_holds : Go.Proofs.YteggaeopnljgnaaGreatDoor.Rows.RedoLinesCardSaid := Go.Proofs.YteggaeopnljgnaaGreatDoor.redoLines.holds
#print axioms Go.Proofs.YteggaeopnljgnaaGreatDoor.redoLines_holds
