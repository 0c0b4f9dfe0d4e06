/-
  RedoNil: of no log nothing comes; a zero one is not open. For every number of a sector, no condition.
-/
import Derived.Test.YteggaeopnljgnaaDoorRNil
import Derived.Test.YteggaeopnljgnaaDoorMArg
namespace Go.Proofs.YteggaeopnljgnaaDoor.redoNil
open Go.ChangeShapes Go.WideShapes Go.ChangeAt Go.RowKit Dsk

set_option maxHeartbeats 6400000 in
set_option maxRecDepth 100000 in
theorem walk {w : World} (hT : TW w) (z : Int) (_l0 : -9223372036854775808 ≤ z) (_m0 : z ≤ 9223372036854775807) :
    Calls Tryd.prog 5 #[.int .i64 z] w fun e w' => e = .returned (.bool true) ∧ Below w.heap.size w w' := by
  have hpos := hT.pos
  obtain ⟨X, hX⟩ : ∃ X, X = withB 120 := ⟨_, rfl⟩
  have hw := fun u => with7_any 120 u
  rw [← hX, show (((120 : UInt8).toNat : Nat) : Int) = 120 from rfl] at hw
  clear hX
  obtain ⟨zb, hzb⟩ : ∃ zb, zb = w.heap.size := ⟨_, rfl⟩
  obtain ⟨w1, hw1⟩ : ∃ w1, w1 = w.alloc (.cells zlogC 45) := ⟨_, rfl⟩
  have z1 : ZLog zb w1 := by rw [hw1, hzb]; exact heap_alloc_last w _
  have b1 : Below w.heap.size w w1 := by rw [hw1]; exact (Below.refl _ _).alloc (Nat.le_refl _) _
  have e1 : zlogC = #[.pointer none, .int .i64 0, .int .i64 0, .int .i64 0, .int .i64 0, .int .i64 0, .int .i64 0] := rfl
  rw [e1] at hw1
  clear e1
  go_enter Tryd.func5, Tryd.ntmps5
  go_upto_region 3 with fail
  rw [← hw1, ← hzb]
  clear hw1 hzb
  go_upto_region 4 with (go_at_call 12; refine (hw _).mono ?_; rintro e w2 ⟨rfl, b2⟩)
  obtain ⟨pb, hpb⟩ : ∃ pb, pb = w2.heap.size := ⟨_, rfl⟩
  obtain ⟨w3, hw3⟩ : ∃ w3, w3 = w2.alloc (.cells #[.int .i64 1, .string X] 35) := ⟨_, rfl⟩
  have p3 : w3.heap[pb]? = some (.cells #[.int .i64 1, .string X] 35 (0, 0)) := by rw [hw3, hpb]; exact heap_alloc_last w2 _
  have b3 : Below w2.heap.size w2 w3 := by rw [hw3]; exact (Below.refl _ _).alloc (Nat.le_refl _) _
  rw [← hw3, ← hpb]
  have s2 := below_step b1 (Nat.le_refl _) b2
  have s3 := below_step s2 (Nat.le_refl _) b3
  have z3 := (z1.old b2).old b3
  clear hw3 hpb b1 b2 b3 s2 z1 hw
  have hr1 := read_nil z w3
  have hr2 := read_zero zb z w3 z3
  go_upto_region 5 with (go_at_call 16; refine hr1.mono ?_; rintro e w4 ⟨rfl, rfl⟩)
  go_upto_region 6 with (go_at_call 16; refine hr2.mono ?_; rintro e w4 ⟨rfl, rfl⟩)
  clear hr1 hr2
  have hput : Hid (∀ u, Below w3.heap.size w3 u → (Instr.loadAt 35 (.pointer (some ⟨pb, 0, none⟩))).run Tryd.prog u = .ok (.agg #[.int .i64 1, .string X]) u) := Lib.hid fun u hb => by
    have hh := (hb.block pb (Array.getElem?_eq_some_iff.1 p3).1).trans p3
    exact load_put (cell_of hh 0) (cell_of hh 1)
  have hzz : Hid (∀ u, Below w3.heap.size w3 u → ZLog zb u) := Lib.hid fun u hb => z3.old hb
  have hBt : Hid (∀ u, Below w3.heap.size w3 u → Below w.heap.size w u) := Lib.hid fun u hb => below_step s3 (Nat.le_refl _) hb
  have hcn : ∀ v u, (∃ b, v = .slice (some ⟨b, 0, none⟩) 1 1) → Calls Tryd.prog 11 #[.pointer none, v] u fun e w' => e = .returned (.int .i64 1) ∧ Below u.heap.size u w' := fun v u ⟨b, hv⟩ => by
    rw [hv]; exact commit_stop none _ 1 1 1 u (by decide) fun u' _ => ready_nil u'
  have hcz : ∀ v u, ZLog zb u → (∃ b, v = .slice (some ⟨b, 0, none⟩) 1 1) → Calls Tryd.prog 11 #[.pointer (some ⟨zb, 0, none⟩), v] u fun e w' => e = .returned (.int .i64 13) ∧ Below u.heap.size u w' := fun v u hz ⟨b, hv⟩ => by
    rw [hv]; exact commit_stop (some ⟨zb, 0, none⟩) _ 1 1 13 u (by decide) fun u' hb => ready_zero zb u' (hz.old hb)
  have hkn : ∀ u, Calls Tryd.prog 15 #[.pointer none] u fun e w' => e = .returned (.int .i64 1) ∧ Below u.heap.size u w' := fun u => checkpoint_stop none 1 u (by decide) fun u' _ => ready_nil u'
  have hkz : ∀ u, ZLog zb u → Calls Tryd.prog 15 #[.pointer (some ⟨zb, 0, none⟩)] u fun e w' => e = .returned (.int .i64 13) ∧ Below u.heap.size u w' := fun u hz => checkpoint_stop (some ⟨zb, 0, none⟩) 13 u (by decide) fun u' hb => ready_zero zb u' (hz.old hb)
  try simp only [Act.put]
  refine wp_region_tab0 [RT.is (.bool true), RT.is (.bool true), RT.is (.pointer none), RT.is (.agg #[.int .i64 1, .string X]), RT.one, RT.is (.int .i64 1), RT.is (.bool true), RT.is (.bool true), RT.is (.bool true), RT.is (.pointer (some ⟨zb, 0, none⟩)), RT.is (.agg #[.int .i64 1, .string X]), RT.one, RT.is (.int .i64 13), RT.is (.bool true), RT.is (.bool true), RT.is (.bool true), RT.is (.pointer none), RT.is (.int .i64 1), RT.is (.bool true), RT.is (.bool true), RT.is (.bool true), RT.is (.pointer (some ⟨zb, 0, none⟩)), RT.is (.int .i64 13), RT.is (.bool true), RT.is (.bool true), RT.is (.bool true), RT.is (.int .i64 1), RT.is (.bool true), RT.is (.bool true), RT.is (.bool true), RT.is (.int .i64 13), RT.is (.bool true), RT.is (.bool true), RT.is (.bool true), RT.is (.pointer none), RT.is (.int .i64 0), RT.is (.pointer none), RT.is (.int .i64 0), RT.is (.int .i64 0), RT.is (.pointer none), RT.is (.int .i64 0), RT.is (.int .i64 0), RT.is (.pointer (some ⟨zb, 0, none⟩)), RT.is (.int .i64 0), RT.is (.int .i64 0), RT.is (.pointer (some ⟨zb, 0, none⟩)), RT.is (.int .i64 0), RT.is (.int .i64 0), RT.is (.bool true), RT.is (.bool true), RT.is (.bool true)] (by kernel_rfl) (by kernel_rfl) (by kernel_rfl) ⟨?_, ?_, ?_, ?_, ?_, ?_, ?_, ?_, ?_, ?_, ?_, ?_, ?_, ?_, ?_, ?_, ?_, ?_, ?_, ?_, ?_, ?_, ?_, ?_, ?_, ?_, ?_, ?_, ?_, ?_, ?_, ?_, ?_, ?_, ?_, ?_, ?_, ?_, ?_, ?_, ?_, ?_, ?_, ?_, ?_, ?_, ?_, ?_, ?_, ?_, ?_, trivial⟩ ?_
  · intro ac w' hF hL hP hU K hK
    have hB : Below _ _ _ := hL
    refine rop_call 6 _ _ rfl #[] (by simp) (by kernel_rfl) (wanted_none rfl) ?_
    refine (awake_any _ (hT.old (hBt.out _ hB))).mono ?_
    rintro e w2 ⟨rfl, hb⟩
    exact ⟨_, rfl, hK _ _ hb rfl⟩
  · intro ac w' hF hL hP hU K hK
    have hB : Below _ _ _ := hL
    have e26 : ac.eval (.tmp 26) = .bool true := hP 0 (by kernel_rfl)
    exact rop_move _ rfl e26 (wanted_none rfl) (hK _ _ (le8_refl _) rfl)
  · intro ac w' hF hL hP hU K hK
    have hB : Below _ _ _ := hL
    have e3 : ac.eval (.tmp 3) = .pointer none := hF.at 3 (by kernel_rfl)
    have e27 : ac.eval (.tmp 27) = .bool true := hP 1 (by kernel_rfl)
    exact rop_move _ rfl e3 (wanted_of (j := 1) (b := true) rfl rfl e27) (hK _ _ (le8_refl _) rfl)
  · intro ac w' hF hL hP hU K hK
    have hB : Below _ _ _ := hL
    have e5 : ac.eval (.tmp 5) = .pointer (some ⟨pb, 0, none⟩) := hF.at 5 (by kernel_rfl)
    have e27 : ac.eval (.tmp 27) = .bool true := hP 1 (by kernel_rfl)
    exact rop_ld _ _ rfl e5 (hput.out _ hB) (wanted_of (j := 1) (b := true) rfl rfl e27) (hK _ _ (le8_refl _) rfl)
  · intro ac w' hF hL hP hU K hK
    have hB : Below _ _ _ := hL
    have e29 : ac.eval (.tmp 29) = .agg #[.int .i64 1, .string X] := hP 3 (by kernel_rfl)
    have e27 : ac.eval (.tmp 27) = .bool true := hP 1 (by kernel_rfl)
    exact rop_put1 _ rfl e29 (wanted_of (j := 1) (b := true) rfl rfl e27) (hK _ _ ((Below.refl _ _).alloc (Nat.le_refl _) _) ⟨_, rfl⟩)
  · intro ac w' hF hL hP hU K hK
    have hB : Below _ _ _ := hL
    have e28 : ac.eval (.tmp 28) = .pointer none := hP 2 (by kernel_rfl)
    have e30 : ∃ b, (ac.eval (.tmp 30)) = .slice (some ⟨b, 0, none⟩) 1 1 := hP 4 (by kernel_rfl)
    have e27 : ac.eval (.tmp 27) = .bool true := hP 1 (by kernel_rfl)
    refine rop_call 11 _ _ rfl #[.pointer none, ac.eval (.tmp 30)] (by simp [e28]) (by kernel_rfl) (wanted_of (j := 1) (b := true) rfl rfl e27) ?_
    refine ((hcn _ _ e30)).mono ?_
    rintro e w2 ⟨rfl, hb⟩
    exact ⟨_, rfl, hK _ _ hb rfl⟩
  · intro ac w' hF hL hP hU K hK
    have hB : Below _ _ _ := hL
    have e31 : ac.eval (.tmp 31) = .int .i64 1 := hP 5 (by kernel_rfl)
    have e27 : ac.eval (.tmp 27) = .bool true := hP 1 (by kernel_rfl)
    exact rop_bin _ _ _ _ _ rfl e31 rfl (guard_int _ _ _ _ _ _ _ _) (eql_err_t _ _ rfl _) (wanted_of (j := 1) (b := true) rfl rfl e27) (hK _ _ (le8_refl _) rfl)
  · intro ac w' hF hL hP hU K hK
    have hB : Below _ _ _ := hL
    have e27 : ac.eval (.tmp 27) = .bool true := hP 1 (by kernel_rfl)
    have e32 : ac.eval (.tmp 32) = .bool true := hP 6 (by kernel_rfl)
    exact rop_pick _ _ _ rfl true e27 (by simpa using e32) (wanted_none rfl) (hK _ _ (le8_refl _) rfl)
  · intro ac w' hF hL hP hU K hK
    have hB : Below _ _ _ := hL
    have e33 : ac.eval (.tmp 33) = .bool true := hP 7 (by kernel_rfl)
    exact rop_move _ rfl e33 (wanted_none rfl) (hK _ _ (le8_refl _) rfl)
  · intro ac w' hF hL hP hU K hK
    have hB : Below _ _ _ := hL
    have e4 : ac.eval (.tmp 4) = .pointer (some ⟨zb, 0, none⟩) := hF.at 4 (by kernel_rfl)
    have e34 : ac.eval (.tmp 34) = .bool true := hP 8 (by kernel_rfl)
    exact rop_move _ rfl e4 (wanted_of (j := 8) (b := true) rfl rfl e34) (hK _ _ (le8_refl _) rfl)
  · intro ac w' hF hL hP hU K hK
    have hB : Below _ _ _ := hL
    have e5 : ac.eval (.tmp 5) = .pointer (some ⟨pb, 0, none⟩) := hF.at 5 (by kernel_rfl)
    have e34 : ac.eval (.tmp 34) = .bool true := hP 8 (by kernel_rfl)
    exact rop_ld _ _ rfl e5 (hput.out _ hB) (wanted_of (j := 8) (b := true) rfl rfl e34) (hK _ _ (le8_refl _) rfl)
  · intro ac w' hF hL hP hU K hK
    have hB : Below _ _ _ := hL
    have e36 : ac.eval (.tmp 36) = .agg #[.int .i64 1, .string X] := hP 10 (by kernel_rfl)
    have e34 : ac.eval (.tmp 34) = .bool true := hP 8 (by kernel_rfl)
    exact rop_put1 _ rfl e36 (wanted_of (j := 8) (b := true) rfl rfl e34) (hK _ _ ((Below.refl _ _).alloc (Nat.le_refl _) _) ⟨_, rfl⟩)
  · intro ac w' hF hL hP hU K hK
    have hB : Below _ _ _ := hL
    have e35 : ac.eval (.tmp 35) = .pointer (some ⟨zb, 0, none⟩) := hP 9 (by kernel_rfl)
    have e37 : ∃ b, (ac.eval (.tmp 37)) = .slice (some ⟨b, 0, none⟩) 1 1 := hP 11 (by kernel_rfl)
    have e34 : ac.eval (.tmp 34) = .bool true := hP 8 (by kernel_rfl)
    refine rop_call 11 _ _ rfl #[.pointer (some ⟨zb, 0, none⟩), ac.eval (.tmp 37)] (by simp [e35]) (by kernel_rfl) (wanted_of (j := 8) (b := true) rfl rfl e34) ?_
    refine ((hcz _ _ (hzz.out _ hB) e37)).mono ?_
    rintro e w2 ⟨rfl, hb⟩
    exact ⟨_, rfl, hK _ _ hb rfl⟩
  · intro ac w' hF hL hP hU K hK
    have hB : Below _ _ _ := hL
    have e38 : ac.eval (.tmp 38) = .int .i64 13 := hP 12 (by kernel_rfl)
    have e34 : ac.eval (.tmp 34) = .bool true := hP 8 (by kernel_rfl)
    exact rop_bin _ _ _ _ _ rfl e38 rfl (guard_int _ _ _ _ _ _ _ _) (eql_err_t _ _ rfl _) (wanted_of (j := 8) (b := true) rfl rfl e34) (hK _ _ (le8_refl _) rfl)
  · intro ac w' hF hL hP hU K hK
    have hB : Below _ _ _ := hL
    have e34 : ac.eval (.tmp 34) = .bool true := hP 8 (by kernel_rfl)
    have e39 : ac.eval (.tmp 39) = .bool true := hP 13 (by kernel_rfl)
    exact rop_pick _ _ _ rfl true e34 (by simpa using e39) (wanted_none rfl) (hK _ _ (le8_refl _) rfl)
  · intro ac w' hF hL hP hU K hK
    have hB : Below _ _ _ := hL
    have e40 : ac.eval (.tmp 40) = .bool true := hP 14 (by kernel_rfl)
    exact rop_move _ rfl e40 (wanted_none rfl) (hK _ _ (le8_refl _) rfl)
  · intro ac w' hF hL hP hU K hK
    have hB : Below _ _ _ := hL
    have e3 : ac.eval (.tmp 3) = .pointer none := hF.at 3 (by kernel_rfl)
    have e41 : ac.eval (.tmp 41) = .bool true := hP 15 (by kernel_rfl)
    exact rop_move _ rfl e3 (wanted_of (j := 15) (b := true) rfl rfl e41) (hK _ _ (le8_refl _) rfl)
  · intro ac w' hF hL hP hU K hK
    have hB : Below _ _ _ := hL
    have e42 : ac.eval (.tmp 42) = .pointer none := hP 16 (by kernel_rfl)
    have e41 : ac.eval (.tmp 41) = .bool true := hP 15 (by kernel_rfl)
    refine rop_call 15 _ _ rfl #[.pointer none] (by simp [e42]) (by kernel_rfl) (wanted_of (j := 15) (b := true) rfl rfl e41) ?_
    refine (hkn _).mono ?_
    rintro e w2 ⟨rfl, hb⟩
    exact ⟨_, rfl, hK _ _ hb rfl⟩
  · intro ac w' hF hL hP hU K hK
    have hB : Below _ _ _ := hL
    have e43 : ac.eval (.tmp 43) = .int .i64 1 := hP 17 (by kernel_rfl)
    have e41 : ac.eval (.tmp 41) = .bool true := hP 15 (by kernel_rfl)
    exact rop_bin _ _ _ _ _ rfl e43 rfl (guard_int _ _ _ _ _ _ _ _) (eql_err_t _ _ rfl _) (wanted_of (j := 15) (b := true) rfl rfl e41) (hK _ _ (le8_refl _) rfl)
  · intro ac w' hF hL hP hU K hK
    have hB : Below _ _ _ := hL
    have e41 : ac.eval (.tmp 41) = .bool true := hP 15 (by kernel_rfl)
    have e44 : ac.eval (.tmp 44) = .bool true := hP 18 (by kernel_rfl)
    exact rop_pick _ _ _ rfl true e41 (by simpa using e44) (wanted_none rfl) (hK _ _ (le8_refl _) rfl)
  · intro ac w' hF hL hP hU K hK
    have hB : Below _ _ _ := hL
    have e45 : ac.eval (.tmp 45) = .bool true := hP 19 (by kernel_rfl)
    exact rop_move _ rfl e45 (wanted_none rfl) (hK _ _ (le8_refl _) rfl)
  · intro ac w' hF hL hP hU K hK
    have hB : Below _ _ _ := hL
    have e4 : ac.eval (.tmp 4) = .pointer (some ⟨zb, 0, none⟩) := hF.at 4 (by kernel_rfl)
    have e46 : ac.eval (.tmp 46) = .bool true := hP 20 (by kernel_rfl)
    exact rop_move _ rfl e4 (wanted_of (j := 20) (b := true) rfl rfl e46) (hK _ _ (le8_refl _) rfl)
  · intro ac w' hF hL hP hU K hK
    have hB : Below _ _ _ := hL
    have e47 : ac.eval (.tmp 47) = .pointer (some ⟨zb, 0, none⟩) := hP 21 (by kernel_rfl)
    have e46 : ac.eval (.tmp 46) = .bool true := hP 20 (by kernel_rfl)
    refine rop_call 15 _ _ rfl #[.pointer (some ⟨zb, 0, none⟩)] (by simp [e47]) (by kernel_rfl) (wanted_of (j := 20) (b := true) rfl rfl e46) ?_
    refine (hkz _ (hzz.out _ hB)).mono ?_
    rintro e w2 ⟨rfl, hb⟩
    exact ⟨_, rfl, hK _ _ hb rfl⟩
  · intro ac w' hF hL hP hU K hK
    have hB : Below _ _ _ := hL
    have e48 : ac.eval (.tmp 48) = .int .i64 13 := hP 22 (by kernel_rfl)
    have e46 : ac.eval (.tmp 46) = .bool true := hP 20 (by kernel_rfl)
    exact rop_bin _ _ _ _ _ rfl e48 rfl (guard_int _ _ _ _ _ _ _ _) (eql_err_t _ _ rfl _) (wanted_of (j := 20) (b := true) rfl rfl e46) (hK _ _ (le8_refl _) rfl)
  · intro ac w' hF hL hP hU K hK
    have hB : Below _ _ _ := hL
    have e46 : ac.eval (.tmp 46) = .bool true := hP 20 (by kernel_rfl)
    have e49 : ac.eval (.tmp 49) = .bool true := hP 23 (by kernel_rfl)
    exact rop_pick _ _ _ rfl true e46 (by simpa using e49) (wanted_none rfl) (hK _ _ (le8_refl _) rfl)
  · intro ac w' hF hL hP hU K hK
    have hB : Below _ _ _ := hL
    have e50 : ac.eval (.tmp 50) = .bool true := hP 24 (by kernel_rfl)
    exact rop_move _ rfl e50 (wanted_none rfl) (hK _ _ (le8_refl _) rfl)
  · intro ac w' hF hL hP hU K hK
    have hB : Below _ _ _ := hL
    have e7 : ac.eval (.tmp 7) = .int .i64 1 := hF.at 7 (by kernel_rfl)
    have e51 : ac.eval (.tmp 51) = .bool true := hP 25 (by kernel_rfl)
    exact rop_move _ rfl e7 (wanted_of (j := 25) (b := true) rfl rfl e51) (hK _ _ (le8_refl _) rfl)
  · intro ac w' hF hL hP hU K hK
    have hB : Below _ _ _ := hL
    have e52 : ac.eval (.tmp 52) = .int .i64 1 := hP 26 (by kernel_rfl)
    have e51 : ac.eval (.tmp 51) = .bool true := hP 25 (by kernel_rfl)
    exact rop_bin _ _ _ _ _ rfl e52 rfl (guard_int _ _ _ _ _ _ _ _) (eql_err_t _ _ rfl _) (wanted_of (j := 25) (b := true) rfl rfl e51) (hK _ _ (le8_refl _) rfl)
  · intro ac w' hF hL hP hU K hK
    have hB : Below _ _ _ := hL
    have e51 : ac.eval (.tmp 51) = .bool true := hP 25 (by kernel_rfl)
    have e53 : ac.eval (.tmp 53) = .bool true := hP 27 (by kernel_rfl)
    exact rop_pick _ _ _ rfl true e51 (by simpa using e53) (wanted_none rfl) (hK _ _ (le8_refl _) rfl)
  · intro ac w' hF hL hP hU K hK
    have hB : Below _ _ _ := hL
    have e54 : ac.eval (.tmp 54) = .bool true := hP 28 (by kernel_rfl)
    exact rop_move _ rfl e54 (wanted_none rfl) (hK _ _ (le8_refl _) rfl)
  · intro ac w' hF hL hP hU K hK
    have hB : Below _ _ _ := hL
    have e9 : ac.eval (.tmp 9) = .int .i64 13 := hF.at 9 (by kernel_rfl)
    have e55 : ac.eval (.tmp 55) = .bool true := hP 29 (by kernel_rfl)
    exact rop_move _ rfl e9 (wanted_of (j := 29) (b := true) rfl rfl e55) (hK _ _ (le8_refl _) rfl)
  · intro ac w' hF hL hP hU K hK
    have hB : Below _ _ _ := hL
    have e56 : ac.eval (.tmp 56) = .int .i64 13 := hP 30 (by kernel_rfl)
    have e55 : ac.eval (.tmp 55) = .bool true := hP 29 (by kernel_rfl)
    exact rop_bin _ _ _ _ _ rfl e56 rfl (guard_int _ _ _ _ _ _ _ _) (eql_err_t _ _ rfl _) (wanted_of (j := 29) (b := true) rfl rfl e55) (hK _ _ (le8_refl _) rfl)
  · intro ac w' hF hL hP hU K hK
    have hB : Below _ _ _ := hL
    have e55 : ac.eval (.tmp 55) = .bool true := hP 29 (by kernel_rfl)
    have e57 : ac.eval (.tmp 57) = .bool true := hP 31 (by kernel_rfl)
    exact rop_pick _ _ _ rfl true e55 (by simpa using e57) (wanted_none rfl) (hK _ _ (le8_refl _) rfl)
  · intro ac w' hF hL hP hU K hK
    have hB : Below _ _ _ := hL
    have e58 : ac.eval (.tmp 58) = .bool true := hP 32 (by kernel_rfl)
    exact rop_move _ rfl e58 (wanted_none rfl) (hK _ _ (le8_refl _) rfl)
  · intro ac w' hF hL hP hU K hK
    have hB : Below _ _ _ := hL
    have e3 : ac.eval (.tmp 3) = .pointer none := hF.at 3 (by kernel_rfl)
    have e59 : ac.eval (.tmp 59) = .bool true := hP 33 (by kernel_rfl)
    exact rop_move _ rfl e3 (wanted_of (j := 33) (b := true) rfl rfl e59) (hK _ _ (le8_refl _) rfl)
  · intro ac w' hF hL hP hU K hK
    have hB : Below _ _ _ := hL
    have e60 : ac.eval (.tmp 60) = .pointer none := hP 34 (by kernel_rfl)
    have e59 : ac.eval (.tmp 59) = .bool true := hP 33 (by kernel_rfl)
    refine rop_call 10 _ _ rfl #[.pointer none] (by simp [e60]) (by kernel_rfl) (wanted_of (j := 33) (b := true) rfl rfl e59) ?_
    refine (room_nil _).mono ?_
    rintro e w2 ⟨rfl, hb⟩
    exact ⟨_, rfl, hK _ _ hb rfl⟩
  · intro ac w' hF hL hP hU K hK
    have hB : Below _ _ _ := hL
    have e3 : ac.eval (.tmp 3) = .pointer none := hF.at 3 (by kernel_rfl)
    have e59 : ac.eval (.tmp 59) = .bool true := hP 33 (by kernel_rfl)
    exact rop_move _ rfl e3 (wanted_of (j := 33) (b := true) rfl rfl e59) (hK _ _ (le8_refl _) rfl)
  · intro ac w' hF hL hP hU K hK
    have hB : Below _ _ _ := hL
    have e62 : ac.eval (.tmp 62) = .pointer none := hP 36 (by kernel_rfl)
    have e59 : ac.eval (.tmp 59) = .bool true := hP 33 (by kernel_rfl)
    refine rop_call 13 _ _ rfl #[.pointer none] (by simp [e62]) (by kernel_rfl) (wanted_of (j := 33) (b := true) rfl rfl e59) ?_
    refine (used_nil _).mono ?_
    rintro e w2 ⟨rfl, hb⟩
    exact ⟨_, rfl, hK _ _ hb rfl⟩
  · intro ac w' hF hL hP hU K hK
    have hB : Below _ _ _ := hL
    have e61 : ac.eval (.tmp 61) = .int .i64 0 := hP 35 (by kernel_rfl)
    have e63 : ac.eval (.tmp 63) = .int .i64 0 := hP 37 (by kernel_rfl)
    have e59 : ac.eval (.tmp 59) = .bool true := hP 33 (by kernel_rfl)
    exact rop_bin _ _ _ _ _ rfl e61 e63 (guard_int _ _ _ _ _ _ _ _) (add_int 0 0 0 rfl (by decide) _) (wanted_of (j := 33) (b := true) rfl rfl e59) (hK _ _ (le8_refl _) rfl)
  · intro ac w' hF hL hP hU K hK
    have hB : Below _ _ _ := hL
    have e3 : ac.eval (.tmp 3) = .pointer none := hF.at 3 (by kernel_rfl)
    have e59 : ac.eval (.tmp 59) = .bool true := hP 33 (by kernel_rfl)
    exact rop_move _ rfl e3 (wanted_of (j := 33) (b := true) rfl rfl e59) (hK _ _ (le8_refl _) rfl)
  · intro ac w' hF hL hP hU K hK
    have hB : Below _ _ _ := hL
    have e65 : ac.eval (.tmp 65) = .pointer none := hP 39 (by kernel_rfl)
    have e59 : ac.eval (.tmp 59) = .bool true := hP 33 (by kernel_rfl)
    refine rop_call 14 _ _ rfl #[.pointer none] (by simp [e65]) (by kernel_rfl) (wanted_of (j := 33) (b := true) rfl rfl e59) ?_
    refine (seq_nil _).mono ?_
    rintro e w2 ⟨rfl, hb⟩
    exact ⟨_, rfl, hK _ _ hb rfl⟩
  · intro ac w' hF hL hP hU K hK
    have hB : Below _ _ _ := hL
    have e64 : ac.eval (.tmp 64) = .int .i64 0 := hP 38 (by kernel_rfl)
    have e66 : ac.eval (.tmp 66) = .int .i64 0 := hP 40 (by kernel_rfl)
    have e59 : ac.eval (.tmp 59) = .bool true := hP 33 (by kernel_rfl)
    exact rop_bin _ _ _ _ _ rfl e64 e66 (guard_int _ _ _ _ _ _ _ _) (add_int 0 0 0 rfl (by decide) _) (wanted_of (j := 33) (b := true) rfl rfl e59) (hK _ _ (le8_refl _) rfl)
  · intro ac w' hF hL hP hU K hK
    have hB : Below _ _ _ := hL
    have e4 : ac.eval (.tmp 4) = .pointer (some ⟨zb, 0, none⟩) := hF.at 4 (by kernel_rfl)
    have e59 : ac.eval (.tmp 59) = .bool true := hP 33 (by kernel_rfl)
    exact rop_move _ rfl e4 (wanted_of (j := 33) (b := true) rfl rfl e59) (hK _ _ (le8_refl _) rfl)
  · intro ac w' hF hL hP hU K hK
    have hB : Below _ _ _ := hL
    have e68 : ac.eval (.tmp 68) = .pointer (some ⟨zb, 0, none⟩) := hP 42 (by kernel_rfl)
    have e59 : ac.eval (.tmp 59) = .bool true := hP 33 (by kernel_rfl)
    refine rop_call 10 _ _ rfl #[.pointer (some ⟨zb, 0, none⟩)] (by simp [e68]) (by kernel_rfl) (wanted_of (j := 33) (b := true) rfl rfl e59) ?_
    refine (room_zero zb _ (hzz.out _ hB)).mono ?_
    rintro e w2 ⟨rfl, hb⟩
    exact ⟨_, rfl, hK _ _ hb rfl⟩
  · intro ac w' hF hL hP hU K hK
    have hB : Below _ _ _ := hL
    have e67 : ac.eval (.tmp 67) = .int .i64 0 := hP 41 (by kernel_rfl)
    have e69 : ac.eval (.tmp 69) = .int .i64 0 := hP 43 (by kernel_rfl)
    have e59 : ac.eval (.tmp 59) = .bool true := hP 33 (by kernel_rfl)
    exact rop_bin _ _ _ _ _ rfl e67 e69 (guard_int _ _ _ _ _ _ _ _) (add_int 0 0 0 rfl (by decide) _) (wanted_of (j := 33) (b := true) rfl rfl e59) (hK _ _ (le8_refl _) rfl)
  · intro ac w' hF hL hP hU K hK
    have hB : Below _ _ _ := hL
    have e4 : ac.eval (.tmp 4) = .pointer (some ⟨zb, 0, none⟩) := hF.at 4 (by kernel_rfl)
    have e59 : ac.eval (.tmp 59) = .bool true := hP 33 (by kernel_rfl)
    exact rop_move _ rfl e4 (wanted_of (j := 33) (b := true) rfl rfl e59) (hK _ _ (le8_refl _) rfl)
  · intro ac w' hF hL hP hU K hK
    have hB : Below _ _ _ := hL
    have e71 : ac.eval (.tmp 71) = .pointer (some ⟨zb, 0, none⟩) := hP 45 (by kernel_rfl)
    have e59 : ac.eval (.tmp 59) = .bool true := hP 33 (by kernel_rfl)
    refine rop_call 13 _ _ rfl #[.pointer (some ⟨zb, 0, none⟩)] (by simp [e71]) (by kernel_rfl) (wanted_of (j := 33) (b := true) rfl rfl e59) ?_
    refine (used_zero zb _ (hzz.out _ hB)).mono ?_
    rintro e w2 ⟨rfl, hb⟩
    exact ⟨_, rfl, hK _ _ hb rfl⟩
  · intro ac w' hF hL hP hU K hK
    have hB : Below _ _ _ := hL
    have e70 : ac.eval (.tmp 70) = .int .i64 0 := hP 44 (by kernel_rfl)
    have e72 : ac.eval (.tmp 72) = .int .i64 0 := hP 46 (by kernel_rfl)
    have e59 : ac.eval (.tmp 59) = .bool true := hP 33 (by kernel_rfl)
    exact rop_bin _ _ _ _ _ rfl e70 e72 (guard_int _ _ _ _ _ _ _ _) (add_int 0 0 0 rfl (by decide) _) (wanted_of (j := 33) (b := true) rfl rfl e59) (hK _ _ (le8_refl _) rfl)
  · intro ac w' hF hL hP hU K hK
    have hB : Below _ _ _ := hL
    have e73 : ac.eval (.tmp 73) = .int .i64 0 := hP 47 (by kernel_rfl)
    have e59 : ac.eval (.tmp 59) = .bool true := hP 33 (by kernel_rfl)
    exact rop_bin _ _ _ _ _ rfl e73 rfl (guard_int _ _ _ _ _ _ _ _) (eql_int_t _ _ rfl _) (wanted_of (j := 33) (b := true) rfl rfl e59) (hK _ _ (le8_refl _) rfl)
  · intro ac w' hF hL hP hU K hK
    have hB : Below _ _ _ := hL
    have e59 : ac.eval (.tmp 59) = .bool true := hP 33 (by kernel_rfl)
    have e74 : ac.eval (.tmp 74) = .bool true := hP 48 (by kernel_rfl)
    exact rop_pick _ _ _ rfl true e59 (by simpa using e74) (wanted_none rfl) (hK _ _ (le8_refl _) rfl)
  · intro ac w' hF hL hP hU K hK
    have hB : Below _ _ _ := hL
    have e75 : ac.eval (.tmp 75) = .bool true := hP 49 (by kernel_rfl)
    exact rop_assign _ rfl e75 (wanted_none rfl) (hK _ _ (le8_refl _) rfl)
  · intro ac w' hF hB hT
    have e2 : ac.eval (.tmp 2) = .bool true := hT 50 (by decide)
    rw [hF.lit 76 rfl]
    simp only [List.range, List.range.loop, List.map_cons, List.map_nil, e2]
    go_wp2
    go_ret
    exact ⟨rfl, hBt.out _ (by first | exact hB | exact below_undrew hB)⟩

set_option maxRecDepth 100000 in
theorem lifted (os : Os) (started : os.Started) (H : Type) (enc : TypeId × Value → H) :
    ReturnsInHanded {} Tryd.checked os 5 .any (fun w args => (Rows.redoNilSpec.pre enc Tryd.prog Tryd.f5 [] false w args ∧ laidMetH Tryd.prog [("scrinium/check.fourSteps", Rows.laid_scrinium_check_fourSteps)] w) ∧ sizedMet enc Tryd.prog Tryd.f5 (OpenSpec.ofChange Rows.redoNilSpec) false w args)
      (Rows.redoNilSpec.post enc Tryd.prog Tryd.f5 false true false false) := by
  refine returnsInHanded_of_change_and (C := Tryd.checked) (X := fun w _ => laidMetH Tryd.prog [("scrinium/check.fourSteps", Rows.laid_scrinium_check_fourSteps)] w) (fun _ _ _ hh h => h.of_heap hh) lawOwn started (by kernel_rfl) Tryd.func5
    (ChangeSpec.witness_shaped (enc := enc) (C := Tryd.checked) (os := os) (X := fun w _ => laidMetH Tryd.prog [("scrinium/check.fourSteps", Rows.laid_scrinium_check_fourSteps)] w) false (World.doorLaid Tryd.prog 400 os) #[.int .i64 0] 8 rfl (World.shaped_of_RefB (by kernel_rfl) (by kernel_rfl)) (by kernel_rfl) (by kernel_rfl) (by kernel_rfl) (door_met os _)) ?_
  intro W base args ds gs before hval0 hW _ _ hL _
  have hval : ∀ (j : Nat) t v, Tryd.f5.params[j]? = some t → args[j]? = some v → Value.okWide Tryd.prog W .any base t v := hval0
  have hW' := hW
  obtain ⟨p, q, hA0, hV, rfl, hfz, hnd⟩ := hW
  have hA : DataW.TrodAll enc Tryd.prog W 0 (fun _ => true) true Tryd.f5.params.toList args.toList ds p := hA0
  rw [Tryd.params5] at hA hval
  obtain ⟨v0, vs0, d0, ds0, p0, q0, hargs, rfl, rfl, h0, r0⟩ := trodAll_cons hA
  obtain ⟨rfl, rfl, rfl⟩ := trodAll_nil r0
  obtain rfl : args = #[v0] := by cases args; simp_all
  obtain ⟨rfl, rfl⟩ := trodVars_none hV
  have hKT := KT_of_laid hL
  obtain ⟨a0, rfl, rfl, rfl, w0⟩ := open_int Tryd.underlying3 (hval 0 3 v0 rfl rfl) h0
  clear hA0 hval0
  obtain ⟨l0, m0⟩ := i64_bounds w0
  refine (walk (w := W) hKT a0 l0 m0).mono fun e W' ⟨he, bel⟩ => ?_
  subst he
  exact ⟨_, rfl, law_post rfl rfl (by kernel_rfl) hW' rfl bel⟩

theorem row_holds : Rows.RedoNilSaid :=
  OpenClaim.holds_of_wide 5 Tryd.f5 rfl rfl rfl rfl rfl rfl rfl ⟨rfl, rfl, rfl, rfl, rfl⟩ rfl rfl rfl rfl rfl (by kernel_rfl) Tryd.func5 (by kernel_rfl)
    (of_decide_eq_true (by kernel_rfl)) (by unfold Func.isWrapper; first | (rw [if_pos (by decide +kernel)]; kernel_rfl) | (rw [if_neg (by decide +kernel)]; exact ⟨rfl, rfl⟩))
    (fun os started H enc _ => lifted os started H enc)

theorem holds : Rows.RedoNilCardSaid :=
  Claim7.holds_tied_plain_at .later [] [.data] true Rows.redoNilCard.stood.harness false
    row_holds (fun _ h => by cases h) (by kernel_rfl) (fun _ h => by cases h) redoNil_row_tie rfl ⟨rfl, rfl⟩ (by kernel_rfl) rfl
    (fun f fn hf hfn => by
      obtain rfl : f = 5 := Option.some.inj ((show Tryd.prog.funcNamed "scrinium/scriniumlaw07.RedoNil" = some 5 by kernel_rfl).symm.trans hf) |>.symm
      obtain rfl : fn = Tryd.f5 := (Option.some.inj (Tryd.func5.symm.trans hfn)).symm
      exact ⟨by kernel_rfl, fun j t ht => by
        rw [Tryd.params5] at ht
        have hm : t ∈ [3] := by simpa using Array.mem_of_getElem? ht
        have hall : ([3].all fun u => !Tryd.prog.wantsStandIn u) = true := by kernel_rfl
        exact (show Tryd.prog.wantsStandIn t = false by simpa using List.all_eq_true.1 hall t hm)⟩)
    (by kernel_rfl)
end Go.Proofs.YteggaeopnljgnaaDoor.redoNil

theorem Go.Proofs.YteggaeopnljgnaaDoor.redoNil_holds : Go.Proofs.YteggaeopnljgnaaDoor.Rows.RedoNilCardSaid := Go.Proofs.YteggaeopnljgnaaDoor.redoNil.holds
#print axioms Go.Proofs.YteggaeopnljgnaaDoor.redoNil_holds
