/-
  RedoScans: any region is scanned as P7.2 says. For every five numbers and parts (of a longer row the first 12), no condition.
-/
import Derived.Test.YtfcocbgdmmeikaaGreatDoorScanB
import Derived.Test.YtfcocbgdmmeikaaGreatDoorMArg
import Derived.Test.YtfcocbgdmmeikaaGreatDoorSecLaw
import Derived.Deep.DeepCutAuto
namespace Go.Proofs.YtfcocbgdmmeikaaGreatDoor.redoScans
open Go.ChangeShapes Go.WideShapes Go.ChangeAt Go.RowKit Dsk

theorem Parts.old {w w' : World} {v : Value} {l : List PartR} (h : Parts w v l) (hb : Below w.heap.size w w') : Parts w' v l := ⟨h.1.old hb, h.2⟩
def RegV (s B : Nat) (w : World) (v : Value) : Prop := ∃ g, v = .slice (some ⟨g, 0, none⟩) (s + 1) (s + 1) ∧ Reg g (s + 1) w ∧ B ≤ g
def RTreg (s B : Nat) : RT := ⟨fun v w => RegV s B w v, fun _ _ _ ⟨g, h1, h2, h3⟩ hb => ⟨g, h1, h2.old hb, h3⟩⟩
theorem index_arr5 (b k : Nat) (K : Int) (hK : K = (k : Int)) (h : k < 5) (w : World) : (Instr.indexAt 28 (.pointer (some ⟨b, 0, none⟩)) (.int .i64 K)).run Tryz.prog w = .ok (.pointer (some ⟨b, k, none⟩)) w := by
  subst hK
  match k, h with
  | 0, _ => go_simp
  | 1, _ => go_simp
  | 2, _ => go_simp
  | 3, _ => go_simp
  | 4, _ => go_simp
set_option maxHeartbeats 12800000 in
set_option maxRecDepth 100000 in
theorem walk {w : World} (hT : TW w) (z0 z1 z2 z3 z4 : Int) (_w0 : i64ok z0) (_w1 : i64ok z1) (_w2 : i64ok z2) (_w3 : i64ok z3) (_w4 : i64ok z4) (v1 : Value) (l : List PartR) (hl : Parts w v1 l) :
    Calls Tryz.prog 4 #[.agg #[.int .i64 z0, .int .i64 z1, .int .i64 z2, .int .i64 z3, .int .i64 z4], v1] w fun e w' => e = .returned (.bool true) ∧ Below w.heap.size w w' := by
  obtain ⟨m, hm, hm32⟩ := mod_nat z0 32 (by decide)
  rw [show ((32 : Nat) : Int) = 32 from rfl] at hm
  have hm2 : bits .and .i64 z0 31 = (m : Int) := (and_mask z0 5 31 (by decide) (by decide)).trans hm
  obtain ⟨s, hs⟩ : ∃ s, s = 3 + m := ⟨_, rfl⟩
  have hs1 : (3 : Int) + (m : Int) = (s : Int) := by omega
  have hs3 : 3 ≤ s := by omega
  have hs34 : s ≤ 34 := by omega
  obtain ⟨pl, hpl, hple⟩ := rest_in z1 s (by omega)
  obtain ⟨ht1, ht2⟩ := tm_in z1 s (by omega)
  have HPL := Lib.hid hple
  obtain ⟨sq, hsqm, hsql⟩ := mod_nat z2 549755813888 (by decide)
  rw [show ((549755813888 : Nat) : Int) = 549755813888 from rfl] at hsqm
  have hsq2 : bits .and .i64 z2 549755813887 = (sq : Int) := (and_mask z2 39 549755813887 (by decide) (by decide)).trans hsqm
  have HSQ : Hid (∀ u : World, (binOp .and 3 (.int .i64 z2) (.int .i64 549755813887)).run Tryz.prog u = .ok (.int .i64 (sq : Int)) u) := Lib.hid fun u => by rw [← hsq2]; go_simp
  obtain ⟨u1, hu1⟩ : ∃ u1, u1 = w.alloc (.cells #[.int .i64 z0, .int .i64 z1, .int .i64 z2, .int .i64 z3, .int .i64 z4] 28) := ⟨_, rfl⟩
  have b1 : Below w.heap.size w u1 := by rw [hu1]; exact (Below.refl _ _).alloc (Nat.le_refl _) _
  obtain ⟨q, hq⟩ : ∃ q, q = w.heap.size := ⟨_, rfl⟩
  have hc : u1.heap[q]? = some (.cells #[.int .i64 z0, .int .i64 z1, .int .i64 z2, .int .i64 z3, .int .i64 z4] 28 (0, 0)) := by rw [hu1, hq]; exact heap_alloc_last _ _
  have hqlt : q < u1.heap.size := (Array.getElem?_eq_some_iff.1 hc).1
  have hT1 : TW u1 := hT.old b1
  have ha := awake_any u1 hT1
  have HA := Lib.hid ha
  have HB1 := Lib.hid b1
  have HT1 := Lib.hid hT1
  have HC := Lib.hid hc
  have HL := Lib.hid hl
  have HQ := Lib.hid hq
  clear hm hs hple hsqm hsq2 ha hT1 hc hl hq b1
  subst hu1
  go_enter Tryz.func4, Tryz.ntmps4
  go_upto_region 2 with (go_at_call 6; refine HA.out.mono ?_; rintro e W ⟨rfl, bW⟩)
  have hqW : q < W.heap.size := Nat.lt_of_lt_of_le hqlt bW.size
  have hcW := (bW.block q hqlt).trans HC.out
  have C0 : Hid (∀ u, Below W.heap.size W u → u.cell? ⟨q, 0, none⟩ = some (.int .i64 z0)) := Lib.hid fun u hu => (hu.cell (p := ⟨q, 0, none⟩) hqW).trans (cell_of hcW 0)
  have C1 : Hid (∀ u, Below W.heap.size W u → u.cell? ⟨q, 1, none⟩ = some (.int .i64 z1)) := Lib.hid fun u hu => (hu.cell (p := ⟨q, 1, none⟩) hqW).trans (cell_of hcW 1)
  have C2 : Hid (∀ u, Below W.heap.size W u → u.cell? ⟨q, 2, none⟩ = some (.int .i64 z2)) := Lib.hid fun u hu => (hu.cell (p := ⟨q, 2, none⟩) hqW).trans (cell_of hcW 2)
  have C3 : Hid (∀ u, Below W.heap.size W u → u.cell? ⟨q, 3, none⟩ = some (.int .i64 z3)) := Lib.hid fun u hu => (hu.cell (p := ⟨q, 3, none⟩) hqW).trans (cell_of hcW 3)
  have C4 : Hid (∀ u, Below W.heap.size W u → u.cell? ⟨q, 4, none⟩ = some (.int .i64 z4)) := Lib.hid fun u hu => (hu.cell (p := ⟨q, 4, none⟩) hqW).trans (cell_of hcW 4)
  have HB0 : Hid (∀ u, Below W.heap.size W u → Below w.heap.size w u) := Lib.hid fun u hu => HB1.out.trans ((bW.trans (hu.mono bW.size)).mono HB1.out.size)
  have HP : Hid (∀ u, Below W.heap.size W u → Parts u v1 l) := Lib.hid fun u hu => Parts.old HL.out (HB0.out u hu)
  have HT : Hid (∀ u, Below W.heap.size W u → TW u) := Lib.hid fun u hu => (HT1.out.old bW).old hu
  have c0 := C0.out W (Below.refl _ _)
  simp only [← HQ.out]
  clear hcW bW HL HC HA HB1 HT1
  go_upto_region 3 with (fail)
  try simp only [Act.put]
  refine wp_region_tab [RT.is (.int .i64 (s : Int)), RT.is (.pointer (some ⟨q, 1, none⟩)), RT.is (.int .i64 z1), RT.is (.int .i64 (s : Int)), RT.is (.int .i64 (z1.tmod (s : Int))), RT.is (.int .i64 (s : Int)), RT.is (.int .i64 (z1.tmod (s : Int) + (s : Int))), RT.is (.int .i64 (s : Int)), RT.is (.int .i64 (pl : Int)), RT.is (.pointer (some ⟨q, 2, none⟩)), RT.is (.int .i64 z2), RT.is (.int .i64 (sq : Int)), RT.is (v1), (RTreg s W.heap.size), (RTreg s W.heap.size)] (by kernel_rfl) (by kernel_rfl) (by kernel_rfl) (by kernel_rfl) ⟨?_, ?_, ?_, ?_, ?_, ?_, ?_, ?_, ?_, ?_, ?_, ?_, ?_, ?_, ?_, trivial⟩ ?_
  · intro ac w' hF hL hP hU K hK
    have hB := below_undrew hL
    have e6 : ac.eval (.tmp 6) = .int .i64 (s : Int) := hF.at 6 (by kernel_rfl)
    exact rop_move _ rfl e6 (wanted_none rfl) (hK _ _ (le8_refl _) rfl)
  · intro ac w' hF hL hP hU K hK
    have hB := below_undrew hL
    have e2 : ac.eval (.tmp 2) = .pointer (some ⟨q, 0, none⟩) := hF.at 2 (by kernel_rfl)
    exact rop_idx _ _ _ rfl e2 rfl (index_arr5 q 1 1 rfl (by decide) w') (wanted_none rfl) (hK _ _ (le8_refl _) rfl)
  · intro ac w' hF hL hP hU K hK
    have hB := below_undrew hL
    have e23 : ac.eval (.tmp 23) = .pointer (some ⟨q, 1, none⟩) := hP 1 (by kernel_rfl)
    exact rop_ld _ _ rfl e23 (load_int (C1.out w' hB)) (wanted_none rfl) (hK _ _ (le8_refl _) rfl)
  · intro ac w' hF hL hP hU K hK
    have hB := below_undrew hL
    have e6 : ac.eval (.tmp 6) = .int .i64 (s : Int) := hF.at 6 (by kernel_rfl)
    exact rop_move _ rfl e6 (wanted_none rfl) (hK _ _ (le8_refl _) rfl)
  · intro ac w' hF hL hP hU K hK
    have hB := below_undrew hL
    have e24 : ac.eval (.tmp 24) = .int .i64 z1 := hP 2 (by kernel_rfl)
    have e25 : ac.eval (.tmp 25) = .int .i64 (s : Int) := hP 3 (by kernel_rfl)
    exact rop_bin _ _ _ _ _ rfl e24 e25 (guard_int _ _ _ _ _ _ _ w') (rem_int _ _ _ rfl (by omega) (by omega) w') (wanted_none rfl) (hK _ _ (le8_refl _) rfl)
  · intro ac w' hF hL hP hU K hK
    have hB := below_undrew hL
    have e6 : ac.eval (.tmp 6) = .int .i64 (s : Int) := hF.at 6 (by kernel_rfl)
    exact rop_move _ rfl e6 (wanted_none rfl) (hK _ _ (le8_refl _) rfl)
  · intro ac w' hF hL hP hU K hK
    have hB := below_undrew hL
    have e26 : ac.eval (.tmp 26) = .int .i64 (z1.tmod (s : Int)) := hP 4 (by kernel_rfl)
    have e27 : ac.eval (.tmp 27) = .int .i64 (s : Int) := hP 5 (by kernel_rfl)
    exact rop_bin _ _ _ _ _ rfl e26 e27 (guard_int _ _ _ _ _ _ _ w') (add_int _ _ _ (rfl) (by omega) w') (wanted_none rfl) (hK _ _ (le8_refl _) rfl)
  · intro ac w' hF hL hP hU K hK
    have hB := below_undrew hL
    have e6 : ac.eval (.tmp 6) = .int .i64 (s : Int) := hF.at 6 (by kernel_rfl)
    exact rop_move _ rfl e6 (wanted_none rfl) (hK _ _ (le8_refl _) rfl)
  · intro ac w' hF hL hP hU K hK
    have hB := below_undrew hL
    have e28 : ac.eval (.tmp 28) = .int .i64 (z1.tmod (s : Int) + (s : Int)) := hP 6 (by kernel_rfl)
    have e29 : ac.eval (.tmp 29) = .int .i64 (s : Int) := hP 7 (by kernel_rfl)
    exact rop_bin _ _ _ _ _ rfl e28 e29 (guard_int _ _ _ _ _ _ _ w') (rem_int _ _ _ HPL.out (by omega) (by omega) w') (wanted_none rfl) (hK _ _ (le8_refl _) rfl)
  · intro ac w' hF hL hP hU K hK
    have hB := below_undrew hL
    have e2 : ac.eval (.tmp 2) = .pointer (some ⟨q, 0, none⟩) := hF.at 2 (by kernel_rfl)
    exact rop_idx _ _ _ rfl e2 rfl (index_arr5 q 2 2 rfl (by decide) w') (wanted_none rfl) (hK _ _ (le8_refl _) rfl)
  · intro ac w' hF hL hP hU K hK
    have hB := below_undrew hL
    have e31 : ac.eval (.tmp 31) = .pointer (some ⟨q, 2, none⟩) := hP 9 (by kernel_rfl)
    exact rop_ld _ _ rfl e31 (load_int (C2.out w' hB)) (wanted_none rfl) (hK _ _ (le8_refl _) rfl)
  · intro ac w' hF hL hP hU K hK
    have hB := below_undrew hL
    have e32 : ac.eval (.tmp 32) = .int .i64 z2 := hP 10 (by kernel_rfl)
    exact rop_bin _ _ _ _ _ rfl e32 rfl (guard_int _ _ _ _ _ _ _ w') (HSQ.out w') (wanted_none rfl) (hK _ _ (le8_refl _) rfl)
  · intro ac w' hF hL hP hU K hK
    have hB := below_undrew hL
    have e1 : ac.eval (.tmp 1) = v1 := hF.at 1 (by kernel_rfl)
    exact rop_move _ rfl e1 (wanted_none rfl) (hK _ _ (le8_refl _) rfl)
  · intro ac w' hF hL hP hU K hK
    have hB := below_undrew hL
    have e22 : ac.eval (.tmp 22) = .int .i64 (s : Int) := hP 0 (by kernel_rfl)
    have e30 : ac.eval (.tmp 30) = .int .i64 (pl : Int) := hP 8 (by kernel_rfl)
    have e33 : ac.eval (.tmp 33) = .int .i64 (sq : Int) := hP 11 (by kernel_rfl)
    have e34 : ac.eval (.tmp 34) = v1 := hP 12 (by kernel_rfl)
    refine rop_call 13 _ _ rfl #[.int .i64 (s : Int), .int .i64 (pl : Int), .int .i64 (sq : Int), v1] (by simp [e22, e30, e33, e34]) (by kernel_rfl) (wanted_none rfl) ?_
    refine (region_any s pl sq v1 l w' (HP.out w' hB) (by omega) (by omega) (by omega) (by omega)).mono ?_
    rintro e w2 ⟨g, rfl, hreg, hg, hb⟩
    exact ⟨_, rfl, hK _ _ hb ⟨g, rfl, hreg, Nat.le_trans hB.size hg⟩⟩
  · intro ac w' hF hL hP hU K hK
    have hB := below_undrew hL
    have e35 : RegV s W.heap.size w' (ac.eval (.tmp 35)) := hP 13 (by kernel_rfl)
    exact rop_assign _ rfl rfl (wanted_none rfl) (hK _ _ (le8_refl _) e35)
  · intro ac w' hF hB hT
    have e7 : RegV s W.heap.size w' (ac.eval (.tmp 7)) := hT 14 (by decide)
    rw [hF.setsG [22, 23, 24, 25, 26, 27, 28, 29, 30, 31, 32, 33, 34, 35, 7] (by kernel_rfl)]
    simp only [List.foldl_cons, List.foldl_nil, List.setIfInBounds_toArray, List.set_cons_succ, List.set_cons_zero]
    generalize ac.eval (.tmp 22) = u22
    generalize ac.eval (.tmp 23) = u23
    generalize ac.eval (.tmp 24) = u24
    generalize ac.eval (.tmp 25) = u25
    generalize ac.eval (.tmp 26) = u26
    generalize ac.eval (.tmp 27) = u27
    generalize ac.eval (.tmp 28) = u28
    generalize ac.eval (.tmp 29) = u29
    generalize ac.eval (.tmp 30) = u30
    generalize ac.eval (.tmp 31) = u31
    generalize ac.eval (.tmp 32) = u32
    generalize ac.eval (.tmp 33) = u33
    generalize ac.eval (.tmp 34) = u34
    generalize ac.eval (.tmp 35) = u35
    generalize ac.eval (.tmp 7) = v7 at e7 ⊢
    clear  hT hF ac
    obtain ⟨g, rfl, hreg, hgB⟩ := e7
    have hbel := hB
    have HG := Lib.hid hgB
    clear hB c0 hgB hm2 hs1
    by_cases h3 : 0 ≤ z3 ∧ z3 ≤ (s : Int)
    · obtain ⟨h3a, h3b⟩ := h3
      obtain ⟨k3, rfl⟩ := Int.eq_ofNat_of_zero_le h3a
      have c3 := C3.out _ hbel
      obtain ⟨V, hV⟩ : ∃ V, V = w' := ⟨_, rfl⟩
      subst hV
      have HR := Lib.hid hreg
      have HBel := Lib.hid hbel
      have HBW := Lib.hid hbel.size
      obtain ⟨c, hcv⟩ := conv_u8 (k3 : Int)
      have HCV := Lib.hid hcv
      obtain ⟨S, hsd⟩ : ∃ S, S = withB c := ⟨_, rfl⟩
      have HS : Hid (S.size ≤ 1000000) := Lib.hid (by rw [hsd, withB_size]; decide)
      have hw := fun u => with7_any c u
      simp only [← hsd] at hw
      have HW := Lib.hid hw
      clear hcv hsd hw hreg hbel
      go_upto_region 5 with (fail)
      try simp only [Act.put]
      refine wp_region_ph (Lx := GLx 2) [RXP.is (.slice (some ⟨g, 0, none⟩) (s + 1) (s + 1)), RXP.is (.pointer (some ⟨q, 3, none⟩)), RXP.is (.int .i64 (k3 : Int)), RXP.is (.pointer (some ⟨q, 3, none⟩)), RXP.is (.int .i64 (k3 : Int)), RXP.is (.int .u8 (c.toNat : Int)), RXP.is (.string S), RXP.is (.pointer (some ⟨g, 0 + k3, none⟩)), RXP.any] [6, 8] (fun k w' => Below W.heap.size W w' ∧ (k < 2 → Below V.heap.size V w') ∧ (k = 2 → Reg g (s + 1) w')) (by kernel_rfl) (by kernel_rfl) (by kernel_rfl) (by kernel_rfl) (by kernel_rfl) (⟨below_drew HBel.out, fun _ => below_drew (Below.refl _ _), fun h => by cases h⟩) ⟨?_, ?_, ?_, ?_, ?_, ?_, ?_, ?_, ?_, trivial⟩ ?_
      · intro ac w' ph hF hPh hlt hP hU K hK0
        have e7 : ac.eval (.tmp 7) = .slice (some ⟨g, 0, none⟩) (s + 1) (s + 1) := hF.at 7 (by kernel_rfl)
        exact rop_move _ rfl e7 (wanted_none rfl) (hK0 _ _ GLx.same hPh rfl)
      · intro ac w' ph hF hPh hlt hP hU K hK0
        have e2 : ac.eval (.tmp 2) = .pointer (some ⟨q, 0, none⟩) := hF.at 2 (by kernel_rfl)
        exact rop_idx _ _ _ rfl e2 rfl (index_arr5 q 3 3 rfl (by decide) w') (wanted_none rfl) (hK0 _ _ GLx.same hPh rfl)
      · intro ac w' ph hF hPh hlt hP hU K hK0
        have e46 : ac.eval (.tmp 46) = .pointer (some ⟨q, 3, none⟩) := hP 1 (by kernel_rfl)
        exact rop_ld _ _ rfl e46 (load_int (C3.out w' hPh.1)) (wanted_none rfl) (hK0 _ _ GLx.same hPh rfl)
      · intro ac w' ph hF hPh hlt hP hU K hK0
        have e2 : ac.eval (.tmp 2) = .pointer (some ⟨q, 0, none⟩) := hF.at 2 (by kernel_rfl)
        exact rop_idx _ _ _ rfl e2 rfl (index_arr5 q 3 3 rfl (by decide) w') (wanted_none rfl) (hK0 _ _ GLx.same hPh rfl)
      · intro ac w' ph hF hPh hlt hP hU K hK0
        have e48 : ac.eval (.tmp 48) = .pointer (some ⟨q, 3, none⟩) := hP 3 (by kernel_rfl)
        exact rop_ld _ _ rfl e48 (load_int (C3.out w' hPh.1)) (wanted_none rfl) (hK0 _ _ GLx.same hPh rfl)
      · intro ac w' ph hF hPh hlt hP hU K hK0
        have e49 : ac.eval (.tmp 49) = .int .i64 (k3 : Int) := hP 4 (by kernel_rfl)
        exact rop_convG _ _ _ rfl e49 (HCV.out w') (wanted_none rfl) (hK0 _ _ GLx.same hPh rfl)
      · intro ac w' ph hF hPh hlt hP hU K hK0
        obtain rfl : ph = 0 := (hlt 0 6 rfl).1 rfl
        have e50 : ac.eval (.tmp 50) = .int .u8 (c.toNat : Int) := hP 5 (by kernel_rfl)
        have hB : Below V.heap.size V w' := hPh.2.1 (by omega)
        refine rop_call 14 _ _ rfl #[.int .u8 (c.toNat : Int)] (by simp [e50]) (by kernel_rfl) (wanted_none rfl) ?_
        refine (HW.out w').mono ?_
        rintro e w2 ⟨rfl, hb⟩
        have hb2 := below_step hB (Nat.le_refl _) hb
        exact ⟨_, rfl, hK0 _ _ (GLx.old (by decide) hb) ⟨HBel.out.trans (hb2.mono HBW.out), fun _ => hb2, fun h => absurd h (by decide)⟩ rfl⟩
      · intro ac w' ph hF hPh hlt hP hU K hK0
        have e45 : ac.eval (.tmp 45) = .slice (some ⟨g, 0, none⟩) (s + 1) (s + 1) := hP 0 (by kernel_rfl)
        have e47 : ac.eval (.tmp 47) = .int .i64 (k3 : Int) := hP 2 (by kernel_rfl)
        exact rop_idx _ _ _ rfl e45 e47 (index_strs g 0 (s + 1) (s + 1) k3 _ rfl (by omega) w') (wanted_none rfl) (hK0 _ _ GLx.same hPh rfl)
      · intro ac w' ph hF hPh hlt hP hU K hK0
        obtain rfl : ph = 1 := (hlt 1 8 rfl).1 rfl
        have e52 : ac.eval (.tmp 52) = .pointer (some ⟨g, 0 + k3, none⟩) := hP 7 (by kernel_rfl)
        have e51 : ac.eval (.tmp 51) = .string S := hP 6 (by kernel_rfl)
        have hB : Below V.heap.size V w' := hPh.2.1 (by omega)
        obtain ⟨w2, hr, hreg, hb2⟩ := Reg.put (HR.out.old hB) (i := k3) (by omega) HS.out
        exact rop_storeG _ _ _ rfl e52 e51 (by first | exact hr | simpa using hr) (wanted_none rfl) (hK0 _ _ (GLx.last rfl) ⟨(HBel.out.trans (hB.mono HBW.out)).trans (hb2.below HG.out (Nat.le_trans HBW.out hB.size)), fun h => absurd h (by decide), fun _ => hreg⟩ trivial)
      · intro ac w' hF hPh hT
        rw [hF.setsG [45, 46, 47, 48, 49, 50, 51, 52] (by kernel_rfl)]
        simp only [List.foldl_cons, List.foldl_nil, List.setIfInBounds_toArray, List.set_cons_succ, List.set_cons_zero]
        generalize ac.eval (.tmp 45) = u45
        generalize ac.eval (.tmp 46) = u46
        generalize ac.eval (.tmp 47) = u47
        generalize ac.eval (.tmp 48) = u48
        generalize ac.eval (.tmp 49) = u49
        generalize ac.eval (.tmp 50) = u50
        generalize ac.eval (.tmp 51) = u51
        generalize ac.eval (.tmp 52) = u52
        clear  hT hF ac
        obtain ⟨hbel, -, hreg'⟩ := hPh
        have hreg := hreg' rfl
        clear hreg' HR HBel HBW c3 HW HS HCV
        by_cases h4 : 0 ≤ z4 ∧ z4 < (s : Int) + 1
        · obtain ⟨h4a, h4b⟩ := h4
          have h4c : ¬ z4 < 0 := by omega
          obtain ⟨k4, rfl⟩ := Int.eq_ofNat_of_zero_le h4a
          have c4 := C4.out _ hbel
          obtain ⟨ts, htl, hrow, htz⟩ := hreg.row (k4) (s + 1) (by omega) (by omega)
          have hsc := scan_both ts _ _ hrow (by intro a n c e; injection e with _ e1 e2; omega) (HT.out _ hbel) (by omega) htz
          have HSC := Lib.hid hsc
          clear hsc hrow htz htl hreg

          have hk4 : k4 ≤ s + 1 := by omega
          go_wp2_with (first
            | (go_at_call 15; refine HSC.out.mono ?_; rintro e w5 ⟨a, b, tl, va, y, rfl, hR5, hB5, hl5, ht5, hrf⟩; obtain ⟨aa, ca, rfl⟩ := hR5.slice)
            | (go_at_call 16; refine (hrf _ (Below.refl _ _)).mono ?_; rintro e w6 ⟨vb, rfl, hR6, hB6⟩; obtain ⟨ab, cb, rfl⟩ := hR6.slice)
            | (go_at_call 17; refine (refSame_any _ _ _ _ tl _ (hR5.old hB6) hR6 hl5 ht5).mono ?_; rintro e w7 ⟨rfl, hB7⟩))
          go_ret
          exact ⟨rfl, HB0.out _ (hbel.trans ((hB5.trans ((hB6.mono hB5.size).trans (hB7.mono (Nat.le_trans hB5.size hB6.size)))).mono (hbel.size)))⟩
        · have h4' : (¬ 0 ≤ z4) ∨ (0 ≤ z4 ∧ ¬ z4 < (s : Int) + 1) := by omega
          have c4 := C4.out _ hbel
          obtain ⟨ts, htl, hrow, htz⟩ := hreg.row (s + 1) (s + 1) (by omega) (by omega)
          have hsc := scan_both ts _ _ hrow (by intro a n c e; injection e with _ e1 e2; omega) (HT.out _ hbel) (by omega) htz
          have HSC := Lib.hid hsc
          clear hsc hrow htz htl hreg

          rcases h4' with h4' | ⟨h4', h4''⟩
          · go_wp2_with (first
              | (go_at_call 15; refine HSC.out.mono ?_; rintro e w5 ⟨a, b, tl, va, y, rfl, hR5, hB5, hl5, ht5, hrf⟩; obtain ⟨aa, ca, rfl⟩ := hR5.slice)
              | (go_at_call 16; refine (hrf _ (Below.refl _ _)).mono ?_; rintro e w6 ⟨vb, rfl, hR6, hB6⟩; obtain ⟨ab, cb, rfl⟩ := hR6.slice)
              | (go_at_call 17; refine (refSame_any _ _ _ _ tl _ (hR5.old hB6) hR6 hl5 ht5).mono ?_; rintro e w7 ⟨rfl, hB7⟩))
            go_ret
            exact ⟨rfl, HB0.out _ (hbel.trans ((hB5.trans ((hB6.mono hB5.size).trans (hB7.mono (Nat.le_trans hB5.size hB6.size)))).mono (hbel.size)))⟩
          · go_wp2_with (first
              | (go_at_call 15; refine HSC.out.mono ?_; rintro e w5 ⟨a, b, tl, va, y, rfl, hR5, hB5, hl5, ht5, hrf⟩; obtain ⟨aa, ca, rfl⟩ := hR5.slice)
              | (go_at_call 16; refine (hrf _ (Below.refl _ _)).mono ?_; rintro e w6 ⟨vb, rfl, hR6, hB6⟩; obtain ⟨ab, cb, rfl⟩ := hR6.slice)
              | (go_at_call 17; refine (refSame_any _ _ _ _ tl _ (hR5.old hB6) hR6 hl5 ht5).mono ?_; rintro e w7 ⟨rfl, hB7⟩))
            go_ret
            exact ⟨rfl, HB0.out _ (hbel.trans ((hB5.trans ((hB6.mono hB5.size).trans (hB7.mono (Nat.le_trans hB5.size hB6.size)))).mono (hbel.size)))⟩
    · have h3' : (¬ 0 ≤ z3) ∨ (0 ≤ z3 ∧ ¬ z3 ≤ (s : Int)) := by omega
      have c3 := C3.out _ hbel
      rcases h3' with h3' | ⟨h3', h3''⟩
      · skip
        by_cases h4 : 0 ≤ z4 ∧ z4 < (s : Int) + 1
        · obtain ⟨h4a, h4b⟩ := h4
          have h4c : ¬ z4 < 0 := by omega
          obtain ⟨k4, rfl⟩ := Int.eq_ofNat_of_zero_le h4a
          have c4 := C4.out _ hbel
          obtain ⟨ts, htl, hrow, htz⟩ := hreg.row (k4) (s + 1) (by omega) (by omega)
          have hsc := scan_both ts _ _ hrow (by intro a n c e; injection e with _ e1 e2; omega) (HT.out _ hbel) (by omega) htz
          have HSC := Lib.hid hsc
          clear hsc hrow htz htl hreg

          have hk4 : k4 ≤ s + 1 := by omega
          go_wp2_with (first
            | (go_at_call 15; refine HSC.out.mono ?_; rintro e w5 ⟨a, b, tl, va, y, rfl, hR5, hB5, hl5, ht5, hrf⟩; obtain ⟨aa, ca, rfl⟩ := hR5.slice)
            | (go_at_call 16; refine (hrf _ (Below.refl _ _)).mono ?_; rintro e w6 ⟨vb, rfl, hR6, hB6⟩; obtain ⟨ab, cb, rfl⟩ := hR6.slice)
            | (go_at_call 17; refine (refSame_any _ _ _ _ tl _ (hR5.old hB6) hR6 hl5 ht5).mono ?_; rintro e w7 ⟨rfl, hB7⟩))
          go_ret
          exact ⟨rfl, HB0.out _ (hbel.trans ((hB5.trans ((hB6.mono hB5.size).trans (hB7.mono (Nat.le_trans hB5.size hB6.size)))).mono (hbel.size)))⟩
        · have h4' : (¬ 0 ≤ z4) ∨ (0 ≤ z4 ∧ ¬ z4 < (s : Int) + 1) := by omega
          have c4 := C4.out _ hbel
          obtain ⟨ts, htl, hrow, htz⟩ := hreg.row (s + 1) (s + 1) (by omega) (by omega)
          have hsc := scan_both ts _ _ hrow (by intro a n c e; injection e with _ e1 e2; omega) (HT.out _ hbel) (by omega) htz
          have HSC := Lib.hid hsc
          clear hsc hrow htz htl hreg

          rcases h4' with h4' | ⟨h4', h4''⟩
          · go_wp2_with (first
              | (go_at_call 15; refine HSC.out.mono ?_; rintro e w5 ⟨a, b, tl, va, y, rfl, hR5, hB5, hl5, ht5, hrf⟩; obtain ⟨aa, ca, rfl⟩ := hR5.slice)
              | (go_at_call 16; refine (hrf _ (Below.refl _ _)).mono ?_; rintro e w6 ⟨vb, rfl, hR6, hB6⟩; obtain ⟨ab, cb, rfl⟩ := hR6.slice)
              | (go_at_call 17; refine (refSame_any _ _ _ _ tl _ (hR5.old hB6) hR6 hl5 ht5).mono ?_; rintro e w7 ⟨rfl, hB7⟩))
            go_ret
            exact ⟨rfl, HB0.out _ (hbel.trans ((hB5.trans ((hB6.mono hB5.size).trans (hB7.mono (Nat.le_trans hB5.size hB6.size)))).mono (hbel.size)))⟩
          · go_wp2_with (first
              | (go_at_call 15; refine HSC.out.mono ?_; rintro e w5 ⟨a, b, tl, va, y, rfl, hR5, hB5, hl5, ht5, hrf⟩; obtain ⟨aa, ca, rfl⟩ := hR5.slice)
              | (go_at_call 16; refine (hrf _ (Below.refl _ _)).mono ?_; rintro e w6 ⟨vb, rfl, hR6, hB6⟩; obtain ⟨ab, cb, rfl⟩ := hR6.slice)
              | (go_at_call 17; refine (refSame_any _ _ _ _ tl _ (hR5.old hB6) hR6 hl5 ht5).mono ?_; rintro e w7 ⟨rfl, hB7⟩))
            go_ret
            exact ⟨rfl, HB0.out _ (hbel.trans ((hB5.trans ((hB6.mono hB5.size).trans (hB7.mono (Nat.le_trans hB5.size hB6.size)))).mono (hbel.size)))⟩
      · skip
        by_cases h4 : 0 ≤ z4 ∧ z4 < (s : Int) + 1
        · obtain ⟨h4a, h4b⟩ := h4
          have h4c : ¬ z4 < 0 := by omega
          obtain ⟨k4, rfl⟩ := Int.eq_ofNat_of_zero_le h4a
          have c4 := C4.out _ hbel
          obtain ⟨ts, htl, hrow, htz⟩ := hreg.row (k4) (s + 1) (by omega) (by omega)
          have hsc := scan_both ts _ _ hrow (by intro a n c e; injection e with _ e1 e2; omega) (HT.out _ hbel) (by omega) htz
          have HSC := Lib.hid hsc
          clear hsc hrow htz htl hreg

          have hk4 : k4 ≤ s + 1 := by omega
          go_wp2_with (first
            | (go_at_call 15; refine HSC.out.mono ?_; rintro e w5 ⟨a, b, tl, va, y, rfl, hR5, hB5, hl5, ht5, hrf⟩; obtain ⟨aa, ca, rfl⟩ := hR5.slice)
            | (go_at_call 16; refine (hrf _ (Below.refl _ _)).mono ?_; rintro e w6 ⟨vb, rfl, hR6, hB6⟩; obtain ⟨ab, cb, rfl⟩ := hR6.slice)
            | (go_at_call 17; refine (refSame_any _ _ _ _ tl _ (hR5.old hB6) hR6 hl5 ht5).mono ?_; rintro e w7 ⟨rfl, hB7⟩))
          go_ret
          exact ⟨rfl, HB0.out _ (hbel.trans ((hB5.trans ((hB6.mono hB5.size).trans (hB7.mono (Nat.le_trans hB5.size hB6.size)))).mono (hbel.size)))⟩
        · have h4' : (¬ 0 ≤ z4) ∨ (0 ≤ z4 ∧ ¬ z4 < (s : Int) + 1) := by omega
          have c4 := C4.out _ hbel
          obtain ⟨ts, htl, hrow, htz⟩ := hreg.row (s + 1) (s + 1) (by omega) (by omega)
          have hsc := scan_both ts _ _ hrow (by intro a n c e; injection e with _ e1 e2; omega) (HT.out _ hbel) (by omega) htz
          have HSC := Lib.hid hsc
          clear hsc hrow htz htl hreg

          rcases h4' with h4' | ⟨h4', h4''⟩
          · go_wp2_with (first
              | (go_at_call 15; refine HSC.out.mono ?_; rintro e w5 ⟨a, b, tl, va, y, rfl, hR5, hB5, hl5, ht5, hrf⟩; obtain ⟨aa, ca, rfl⟩ := hR5.slice)
              | (go_at_call 16; refine (hrf _ (Below.refl _ _)).mono ?_; rintro e w6 ⟨vb, rfl, hR6, hB6⟩; obtain ⟨ab, cb, rfl⟩ := hR6.slice)
              | (go_at_call 17; refine (refSame_any _ _ _ _ tl _ (hR5.old hB6) hR6 hl5 ht5).mono ?_; rintro e w7 ⟨rfl, hB7⟩))
            go_ret
            exact ⟨rfl, HB0.out _ (hbel.trans ((hB5.trans ((hB6.mono hB5.size).trans (hB7.mono (Nat.le_trans hB5.size hB6.size)))).mono (hbel.size)))⟩
          · go_wp2_with (first
              | (go_at_call 15; refine HSC.out.mono ?_; rintro e w5 ⟨a, b, tl, va, y, rfl, hR5, hB5, hl5, ht5, hrf⟩; obtain ⟨aa, ca, rfl⟩ := hR5.slice)
              | (go_at_call 16; refine (hrf _ (Below.refl _ _)).mono ?_; rintro e w6 ⟨vb, rfl, hR6, hB6⟩; obtain ⟨ab, cb, rfl⟩ := hR6.slice)
              | (go_at_call 17; refine (refSame_any _ _ _ _ tl _ (hR5.old hB6) hR6 hl5 ht5).mono ?_; rintro e w7 ⟨rfl, hB7⟩))
            go_ret
            exact ⟨rfl, HB0.out _ (hbel.trans ((hB5.trans ((hB6.mono hB5.size).trans (hB7.mono (Nat.le_trans hB5.size hB6.size)))).mono (hbel.size)))⟩

set_option maxRecDepth 100000 in
theorem lifted (os : Os) (started : os.Started) (H : Type) (enc : TypeId × Value → H) :
    ReturnsInHanded {} Tryz.checked os 4 .any (fun w args => (Rows.redoScansSpec.pre enc Tryz.prog Tryz.f4 [] false w args ∧ laidMetH Tryz.prog [("scrinium/check.fourSteps", Rows.laid_scrinium_check_fourSteps)] w) ∧ sizedMet enc Tryz.prog Tryz.f4 (OpenSpec.ofChange Rows.redoScansSpec) false w args)
      (Rows.redoScansSpec.post enc Tryz.prog Tryz.f4 false true false false) := by
  refine returnsInHanded_of_change_and (C := Tryz.checked) (X := fun w _ => laidMetH Tryz.prog [("scrinium/check.fourSteps", Rows.laid_scrinium_check_fourSteps)] w) (fun _ _ _ hh h => h.of_heap hh) lawOwn started (by kernel_rfl) Tryz.func4
    (ChangeSpec.witness_shaped (enc := enc) (C := Tryz.checked) (os := os) (X := fun w _ => laidMetH Tryz.prog [("scrinium/check.fourSteps", Rows.laid_scrinium_check_fourSteps)] w) false (World.doorLaid Tryz.prog 400 os) #[.agg #[.int .i64 0, .int .i64 0, .int .i64 0, .int .i64 0, .int .i64 0], .slice none 0 0] 8 rfl (World.shaped_of_RefB (by kernel_rfl) (by kernel_rfl)) (by kernel_rfl) (by kernel_rfl) (by kernel_rfl) (door_met os _)) ?_
  intro W base args ds gs before hval0 hW _ _ hL _
  have hval : ∀ (j : Nat) t v, Tryz.f4.params[j]? = some t → args[j]? = some v → Value.okWide Tryz.prog W .any base t v := hval0
  have hW' := hW
  obtain ⟨p, q, hA0, hV, rfl, hfz, hnd⟩ := hW
  have hA : DataW.TrodAll enc Tryz.prog W 0 (fun _ => true) true Tryz.f4.params.toList args.toList ds p := hA0
  rw [Tryz.params4] at hA hval
  obtain ⟨v0, vs0, d0, ds0, p0, q0, hargs, rfl, rfl, h0, r0⟩ := trodAll_cons hA
  obtain ⟨v1, vs1, d1, ds1, p1, q1, rfl, rfl, rfl, h1, r1⟩ := trodAll_cons r0
  obtain ⟨rfl, rfl, rfl⟩ := trodAll_nil r1
  obtain rfl : args = #[v0, v1] := by cases args; simp_all
  obtain ⟨rfl, rfl⟩ := trodVars_none hV
  have hKT := KT_of_laid hL
  obtain ⟨z0a, z0b, z0c, z0d, z0e, rfl, w0a, w0b, w0c, w0d, w0e⟩ := ints5_arg (hval 0 28 v0 rfl rfl) h0
  obtain ⟨a1, len1, cap1, rfl⟩ := okWide_slice Tryz.underlying29 (hval 1 29 v1 rfl rfl)
  obtain ⟨l1, w1⟩ := parts_of h1
  clear hA0 hval0
  refine (walk (w := W) hKT z0a z0b z0c z0d z0e w0a w0b w0c w0d w0e _ l1 w1).mono fun e W' ⟨he, bel⟩ => ?_
  subst he
  exact ⟨_, rfl, law_post rfl rfl (by kernel_rfl) hW' rfl bel⟩

theorem row_holds : Rows.RedoScansSaid :=
  OpenClaim.holds_of_wide 4 Tryz.f4 rfl rfl rfl rfl rfl rfl rfl ⟨rfl, rfl, rfl, rfl, rfl⟩ rfl rfl rfl rfl rfl (by kernel_rfl) Tryz.func4 (by kernel_rfl)
    (of_decide_eq_true (by kernel_rfl)) (by unfold Func.isWrapper; first | (rw [if_pos (by decide +kernel)]; kernel_rfl) | (rw [if_neg (by decide +kernel)]; exact ⟨rfl, rfl⟩))
    (fun os started H enc _ => lifted os started H enc)

theorem holds : Rows.RedoScansCardSaid :=
  Claim7.holds_tied_plain_at .later [] [.data] true Rows.redoScansCard.stood.harness false
    row_holds (fun _ h => by cases h) (by kernel_rfl) (fun _ h => by cases h) redoScans_row_tie rfl ⟨rfl, rfl⟩ (by kernel_rfl) rfl
    (fun f fn hf hfn => by
      obtain rfl : f = 4 := Option.some.inj ((show Tryz.prog.funcNamed "scrinium/scriniumlaw07.RedoScans" = some 4 by kernel_rfl).symm.trans hf) |>.symm
      obtain rfl : fn = Tryz.f4 := (Option.some.inj (Tryz.func4.symm.trans hfn)).symm
      exact ⟨by kernel_rfl, fun j t ht => by
        rw [Tryz.params4] at ht
        have hm : t ∈ [28, 29] := by simpa using Array.mem_of_getElem? ht
        have hall : ([28, 29].all fun u => !Tryz.prog.wantsStandIn u) = true := by kernel_rfl
        exact (show Tryz.prog.wantsStandIn t = false by simpa using List.all_eq_true.1 hall t hm)⟩)
    (by kernel_rfl)
end Go.Proofs.YtfcocbgdmmeikaaGreatDoor.redoScans

theorem Go.Proofs.YtfcocbgdmmeikaaGreatDoor.redoScans_holds : Go.Proofs.YtfcocbgdmmeikaaGreatDoor.Rows.RedoScansCardSaid := Go.Proofs.YtfcocbgdmmeikaaGreatDoor.redoScans.holds
#print axioms Go.Proofs.YtfcocbgdmmeikaaGreatDoor.redoScans_holds
