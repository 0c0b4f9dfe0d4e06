/-
  Package front: Peaks.
-/
import Derived.Test.YtgiakpnkidblpaaDoorFrontMem
namespace Go.Proofs.YtgiakpnkidblpaaDoor
open Go.RowKit

theorem fld_peaks (b : Nat) (w : World) : (Instr.fieldAt 49 (.pointer (some ⟨b, 0, none⟩)) 1).run Tryd.prog w = .ok (.pointer (some ⟨b, 1, none⟩)) w := by
  go_simp
theorem fld_size (b : Nat) (w : World) : (Instr.fieldAt 49 (.pointer (some ⟨b, 0, none⟩)) 0).run Tryd.prog w = .ok (.pointer (some ⟨b, 0, none⟩)) w := by
  go_simp
theorem load_i64 {b o : Nat} {n : Int} {w : World} (h : w.cell? ⟨b, o, none⟩ = some (.int .i64 n)) : (Instr.loadAt 3 (.pointer (some ⟨b, o, none⟩))).run Tryd.prog w = .ok (.int .i64 n) w := by
  go_simp
set_option maxRecDepth 1000000 in
theorem alen40 : Tryd.prog.arrayLen 47 = 40 := by kernel_rfl
set_option maxRecDepth 1000000 in
theorem aelem40 : Tryd.prog.elem 47 = 31 := by kernel_rfl
set_option maxRecDepth 1000000 in
theorem aslice (b k : Nat) (h : k ≤ 40) (w : World) : (Instr.sliceAt 47 (.pointer (some ⟨b, 1, none⟩)) none (some (.int .i64 (k : Int))) none).run Tryd.prog w = .ok (.slice (some ⟨b, 1, none⟩) k 40) w := by
  have hl := alen40
  rw [run_sliceAt_array_h (P := Tryd.prog) w _ _ Tryd.underlying47 _ _ (by omega) (by rw [hl]; omega), aelem40, size_sum, hl]
  simp [Result.andThen, slicedAt, Addr.add]
def RT.ownS (B : Nat) (l : Hs) : RT := ⟨fun v w => OwnS B w v l, fun _ _ _ h k => h.kept k⟩
set_option maxHeartbeats 1600000 in
set_option maxRecDepth 100000 in
theorem fpeaks_any (b n : Nat) (Q : Hs) (w : World) (h : Front b n Q w) (hn : n ≤ 1099511627776) :
    Calls Tryd.prog 14 #[.pointer (some ⟨b, 0, none⟩)] w fun e w' => ∃ v', e = .returned v' ∧ OwnS w.heap.size w' v' (Q.take (Tree.ones n)) ∧ Below w.heap.size w w' := by
  have hk := Tree.ones_most n hn
  have HW := Lib.hid (fun u => (whole_any n (by omega) u).mono fun e w' (h : _ ∧ _) => (⟨h.1, h.2 ▸ Below.refl _ _⟩ : _ ∧ Below u.heap.size u w'))
  obtain ⟨k, hk0⟩ : ∃ k, k = Tree.ones n := ⟨_, rfl⟩
  rw [← hk0] at hk HW ⊢
  obtain ⟨P, hP⟩ : ∃ P, P = Q.take k := ⟨_, rfl⟩
  have hPl : P.length = k := by rw [hP, List.length_take, h.1]; omega
  have HC : Hid (∀ u, Below w.heap.size w u → Calls Tryd.prog 27 #[.slice (some ⟨b, 1, none⟩) k 40] u fun e w' => ∃ v', e = .returned v' ∧ OwnS u.heap.size w' v' P ∧ Below u.heap.size u w') := Lib.hid fun u hu => by
    have hs := (h.old' hu).sums.head k (by rw [h.1]; exact hk)
    rw [← hP] at hs
    exact sclone_any _ P u hs (by omega)
  rw [← hP]
  have HF := Lib.hid h
  clear h hP hPl hk0
  go_enter Tryd.func14, Tryd.ntmps14
  go_upto_region 3 with (fail)
  try simp only [Act.put]
  refine wp_region_tab [RT.is (.pointer (some ⟨b, 0, none⟩)), RT.is (.pointer (some ⟨b, 0, none⟩)), RT.is (.pointer (some ⟨b, 1, none⟩)), RT.is (.pointer (some ⟨b, 0, none⟩)), RT.is (.pointer (some ⟨b, 0, none⟩)), RT.is (.pointer (some ⟨b, 0, none⟩)), RT.is (.int .i64 (n : Int)), RT.is (.int .i64 (k : Int)), RT.is (.slice (some ⟨b, 1, none⟩) k 40), RT.ownS w.heap.size P, RT.ownS w.heap.size P] (by kernel_rfl) (by kernel_rfl) (by kernel_rfl) (by kernel_rfl) ⟨?_, ?_, ?_, ?_, ?_, ?_, ?_, ?_, ?_, ?_, ?_, trivial⟩ ?_
  · intro ac w' hF hL hP hU K hK
    have hB := below_undrew hL
    have e0 : ac.eval (.tmp 0) = .pointer (some ⟨b, 0, none⟩) := hF.at 0 (by kernel_rfl)
    exact rop_move _ rfl e0 (wanted_none rfl) (hK _ _ (le8_refl _) rfl)
  · intro ac w' hF hL hP hU K hK
    have hB := below_undrew hL
    have e5 : ac.eval (.tmp 5) = .pointer (some ⟨b, 0, none⟩) := hP 0 (by kernel_rfl)
    exact rop_nilG _ rfl e5 (wanted_none rfl) (hK _ _ (le8_refl _) rfl)
  · intro ac w' hF hL hP hU K hK
    have hB := below_undrew hL
    have e6 : ac.eval (.tmp 6) = .pointer (some ⟨b, 0, none⟩) := hP 1 (by kernel_rfl)
    exact rop_fld _ _ _ rfl e6 (fld_peaks b w') (wanted_none rfl) (hK _ _ (le8_refl _) rfl)
  · intro ac w' hF hL hP hU K hK
    have hB := below_undrew hL
    have e0 : ac.eval (.tmp 0) = .pointer (some ⟨b, 0, none⟩) := hF.at 0 (by kernel_rfl)
    exact rop_move _ rfl e0 (wanted_none rfl) (hK _ _ (le8_refl _) rfl)
  · intro ac w' hF hL hP hU K hK
    have hB := below_undrew hL
    have e8 : ac.eval (.tmp 8) = .pointer (some ⟨b, 0, none⟩) := hP 3 (by kernel_rfl)
    exact rop_nilG _ rfl e8 (wanted_none rfl) (hK _ _ (le8_refl _) rfl)
  · intro ac w' hF hL hP hU K hK
    have hB := below_undrew hL
    have e9 : ac.eval (.tmp 9) = .pointer (some ⟨b, 0, none⟩) := hP 4 (by kernel_rfl)
    exact rop_fld _ _ _ rfl e9 (fld_size b w') (wanted_none rfl) (hK _ _ (le8_refl _) rfl)
  · intro ac w' hF hL hP hU K hK
    have hB := below_undrew hL
    have e10 : ac.eval (.tmp 10) = .pointer (some ⟨b, 0, none⟩) := hP 5 (by kernel_rfl)
    exact rop_ld _ _ rfl e10 (load_i64 ((HF.out.old' hB).at0)) (wanted_none rfl) (hK _ _ (le8_refl _) rfl)
  · intro ac w' hF hL hP hU K hK
    have hB := below_undrew hL
    have e11 : ac.eval (.tmp 11) = .int .i64 (n : Int) := hP 6 (by kernel_rfl)
    refine rop_call 28 _ _ rfl #[.int .i64 (n : Int)] (by simp [e11]) (by kernel_rfl) (wanted_none rfl) ?_
    refine (HW.out w').mono ?_
    rintro e w2 ⟨rfl, hb⟩
    exact ⟨_, rfl, hK _ _ hb rfl⟩
  · intro ac w' hF hL hP hU K hK
    have hB := below_undrew hL
    have e7 : ac.eval (.tmp 7) = .pointer (some ⟨b, 1, none⟩) := hP 2 (by kernel_rfl)
    have e12 : ac.eval (.tmp 12) = .int .i64 (k : Int) := hP 7 (by kernel_rfl)
    exact rop_sliceG _ _ _ _ _ rfl e7 rfl (by simp [e12]) rfl (aslice b k hk w') (wanted_none rfl) (hK _ _ (le8_refl _) rfl)
  · intro ac w' hF hL hP hU K hK
    have hB := below_undrew hL
    have e13 : ac.eval (.tmp 13) = .slice (some ⟨b, 1, none⟩) k 40 := hP 8 (by kernel_rfl)
    refine rop_call 27 _ _ rfl #[.slice (some ⟨b, 1, none⟩) k 40] (by simp [e13]) (by kernel_rfl) (wanted_none rfl) ?_
    refine (HC.out w' hB).mono ?_
    rintro e w2 ⟨v2, rfl, ho, hb⟩
    exact ⟨_, rfl, hK _ _ hb (ho.lower hB.size)⟩
  · intro ac w' hF hL hP hU K hK
    have hB := below_undrew hL
    have e14 : OwnS w.heap.size w' (ac.eval (.tmp 14)) P := hP 9 (by kernel_rfl)
    exact rop_assign _ rfl rfl (wanted_none rfl) (hK _ _ (le8_refl _) e14)
  · intro ac w' hF hB hT
    have e2 : OwnS w.heap.size w' (ac.eval (.tmp 2)) P := hT 10 (by decide)
    rw [hF.setsG [5, 6, 7, 8, 9, 10, 11, 12, 13, 14, 2] (by kernel_rfl)]
    simp only [List.foldl_cons, List.foldl_nil, List.setIfInBounds_toArray, List.set_cons_succ, List.set_cons_zero]
    generalize ac.eval (.tmp 5) = u5
    generalize ac.eval (.tmp 6) = u6
    generalize ac.eval (.tmp 7) = u7
    generalize ac.eval (.tmp 8) = u8
    generalize ac.eval (.tmp 9) = u9
    generalize ac.eval (.tmp 10) = u10
    generalize ac.eval (.tmp 11) = u11
    generalize ac.eval (.tmp 12) = u12
    generalize ac.eval (.tmp 13) = u13
    generalize ac.eval (.tmp 14) = u14
    generalize ac.eval (.tmp 2) = v2 at e2 ⊢
    clear  hT hF ac
    go_wp2
    go_ret
    exact ⟨_, rfl, e2, hB⟩
end Go.Proofs.YtgiakpnkidblpaaDoor
