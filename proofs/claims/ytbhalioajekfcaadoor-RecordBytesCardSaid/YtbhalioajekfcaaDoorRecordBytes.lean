/-
  RecordBytes: which records may be, their bytes and leaves are as the document says; what was written is read again. For every record (of a longer payload the first 2010 bytes) and every number (by its rest by 4 as many thousand bytes 0 more); the numbers K of the package sha are as the program's own start lays them.
-/
import Derived.Test.YtbhalioajekfcaaDoorRecLeaf
import Derived.Test.YtbhalioajekfcaaDoorMLeafL
namespace Go.Proofs.YtbhalioajekfcaaDoor.recordBytes
open Go.ChangeShapes Go.WideShapes Go.ChangeAt Go.RowKit

theorem make_big (n c : Nat) (h : n ≤ c) (hc : c ≤ 100000) (w : World) : (Instr.makeSlice 26 (.int .i64 (n : Int)) (.int .i64 (c : Int))).run Tryd.prog w = .ok (.slice (some ⟨w.heap.size, 0, none⟩) n c) (w.alloc (.cells ((List.replicate c (0 : UInt8)).map u8V).toArray 5)) := by
  obtain ⟨i0, hi, hz0, hz1, hz2⟩ := info_parts info_u8
  have hr := run_make (P := Tryd.prog) w 26 5 i0 (.int .u8 0) Tryd.underlying26 hi hz0 .i64 .i64 n c (by omega) (by omega) (by rw [hz2]; omega) (by omega)
  rw [hz1] at hr
  simp only [Int.toNat_natCast] at hr
  rw [made_u8] at hr
  exact hr
theorem zeros_big (k : Nat) (hk : k ≤ 100000) : ∃ X : Obj, (∀ u : World, (Instr.makeSlice 26 (.int .i64 (k : Int)) (.int .i64 (k : Int))).run Tryd.prog u = .ok (.slice (some ⟨u.heap.size, 0, none⟩) k k) (u.alloc X)) ∧ ∀ u : World, (convert 26 9 (.slice (some ⟨u.heap.size, 0, none⟩) k k)).run Tryd.prog (u.alloc X) = .ok (.string ⟨(List.replicate k 0).toArray⟩) (u.alloc X) :=
  ⟨_, fun u => make_big k k (Nat.le_refl _) hk u, fun u => convert_bytes _ u.heap.size k k (List.replicate k 0) (by simp) (cell_u8 (heap_alloc_last u _))⟩
section
variable {ops : Array Oper} {Q : Exit → Act → World → Prop} {a : Act} {w w' : World} {K : Act → World → Prop} {o : Oper}
theorem rop_makeR (t : TypeId) (x y : Operand) (hop : o.op = .makeSlice t x y) {u v r : Value} (hx : a.eval x = u) (hy : a.eval y = v) (hr : (Instr.makeSlice t u v).run Tryd.prog w = .ok r w') (hw : Region.wanted o (yielded ops a.tmps) = true) (h : K (a.put o.dst r) w') :
    if Region.wanted o (yielded ops a.tmps) = true then Oper.wp Tryd.prog o a w K Q else K (a.put o.dst undef) w :=
  rop_v hw (by simp [execOp, hop, hx, hy, hr]) h
end
theorem mul_intR (a b c : Int) (h : a * b = c) (hb : -9223372036854775808 ≤ c ∧ c ≤ 9223372036854775807) (w : World) : (binOp .mul 3 (.int .i64 a) (.int .i64 b)).run Tryd.prog w = .ok (.int .i64 c) w := by
  have hw := IntWalk.i64_in c hb
  subst h
  go_simp
  try exact hw
theorem neq_strS (a : ByteArray) (w : World) : (binOp .neq 9 (.string a) (.string a)).run Tryd.prog w = .ok (.bool false) w := by go_simp
theorem neq_errS (a : Int) (w : World) : (binOp .neq 27 (.int .i64 a) (.int .i64 a)).run Tryd.prog w = .ok (.bool false) w := by go_simp
theorem store_strR {p : Nat} {w : World} {win idx tim : Int} {P : ByteArray} (h : RecAt p win idx tim P w) (S : ByteArray) : (Instr.storeAt 9 (.pointer (some ⟨p, 3, none⟩)) (.string S)).run Tryd.prog w = .ok () (w.setCell ⟨p, 3, none⟩ (.string S)) := by
  have c3 := h.c3
  have f3 := fz_of h 3
  go_simp
set_option maxHeartbeats 6400000 in
set_option maxRecDepth 100000 in
theorem walk {w : World} (hK : KT w) (win idx tim : Int) (pay : ByteArray) (_ha : RecOk ⟨win, idx, tim, pay⟩) (n : Int) (_n1 : -9223372036854775808 ≤ n) (_n2 : n ≤ 9223372036854775807) :
    Calls Tryd.prog 3 #[.agg #[.int .i64 win, .int .i64 idx, .int .i64 tim, .string pay], .int .i64 n] w fun e w' => e = .returned (.bool true) ∧ Below w.heap.size w w' := by
  have s1 := fun u => small_any win idx tim pay u
  have l1 := shortB_size pay 2010
  clear _ha
  obtain ⟨t, ht⟩ : ∃ t, t = n.tmod 4 := ⟨_, rfl⟩
  have t1 : t < 4 := by rw [ht]; exact Int.tmod_lt_of_pos n (by decide)
  have t2 : -4 < t := by rw [ht]; exact Int.lt_tmod_of_pos n (by decide)
  have q0 : n.tmod 4 = t := ht.symm
  clear ht
  obtain ⟨p, hp⟩ : ∃ p, p = w.heap.size := ⟨_, rfl⟩
  obtain ⟨W, hW⟩ : ∃ W, W = w.alloc (.cells #[.int .i64 win, .int .i64 idx, .int .i64 tim, .string pay] 23) := ⟨_, rfl⟩
  have h1 : RecAt p win idx tim pay W := by rw [hW, hp]; exact RecAt.alloc _ _ _ _ _
  have hb : Below w.heap.size w W := by rw [hW]; exact below_box' _ _
  have hpw : w.heap.size ≤ p := by omega
  have HW := Lib.hid hW
  have HP := Lib.hid hp
  have HKW := Lib.hid hK
  clear hW hp hK
  go_enter Tryd.func3, Tryd.ntmps3
  go_upto_region 1 with fail
  rw [← HW.out, ← HP.out]
  clear HW HP
  go_upto_region 2 with (go_at_call 4; ((with_reducible refine (awake15_any _).mono ?_); rintro e w1 ⟨rfl, b3⟩))
  replace h1 := h1.old b3 h1.lt
  replace hb := below_step hb (Nat.le_refl _) b3
  clear b3
  obtain ⟨P, hP⟩ : ∃ S, S = shortB pay 2010 := ⟨_, rfl⟩
  rw [← hP] at s1 l1
  clear hP
  have c0 := h1.c0
  have c1 := h1.c1
  have c2 := h1.c2
  have c3 := h1.c3
  go_upto_region 3 with (go_at_call 5; ((with_reducible refine (s1 _).mono ?_); rintro e wx ⟨rfl, bx⟩; have hx := h1.old bx h1.lt; have d0 := hx.c0; have d1 := hx.c1; have d2 := hx.c2; have d3 := hx.c3; have f0 := fz_of hx 0; have f1 := fz_of hx 1; have f2 := fz_of hx 2; have f3 := fz_of hx 3))
  obtain ⟨X1, hX1⟩ : ∃ u, u = (((wx.setCell ⟨p, 0, none⟩ (.int .i64 win)).setCell ⟨p, 1, none⟩ (.int .i64 idx)).setCell ⟨p, 2, none⟩ (.int .i64 tim)).setCell ⟨p, 3, none⟩ (.string P) := ⟨_, rfl⟩
  change Code.wp _ _ _ _ ((((wx.setCell ⟨p, 0, none⟩ (.int .i64 win)).setCell ⟨p, 1, none⟩ (.int .i64 idx)).setCell ⟨p, 2, none⟩ (.int .i64 tim)).setCell ⟨p, 3, none⟩ (.string P))
  rw [← hX1]
  have k1 : RecAt p win idx tim P X1 := by rw [hX1]; exact RecAt.set3 (RecAt.set2 (RecAt.set1 (RecAt.set0 hx _) _) _) _
  have ox : Only p wx X1 := by rw [hX1]; exact ((((Only.refl p wx).setCell 0 _).setCell 1 _).setCell 2 _).setCell 3 _
  have bb : Below w.heap.size w X1 := (below_step hb (Nat.le_refl _) bx).trans (ox.below hpw (by have := hb.size; have := bx.size; omega))
  clear hX1 ox hx bx d0 d1 d2 d3 f0 f1 f2 f3 c0 c1 c2 c3 hb h1 s1
  go_upto_region 4 with fail
  clear q0
  go_upto_if 19 with fail
  go_cut [6] (fun s6 wx => X1 = wx ∧ ∃ Kk : Nat, s6 = .int .i64 Kk ∧ Kk ≤ 3)
  case first =>
    by_cases hneg : t < 0
    · go_wp2
      go_meet
      case rel => exact ⟨rfl, (-t).toNat, by rw [show (((-t).toNat : Nat) : Int) = -t by omega], by omega⟩
    · go_wp2
      go_meet
      case rel => exact ⟨rfl, t.toNat, by rw [show ((t.toNat : Nat) : Int) = t by omega], by omega⟩
  case rest =>
    obtain ⟨rfl, Kk, rfl, hKk⟩ := hcut
    clear t1 t2
    obtain ⟨M, hM⟩ : ∃ M, M = 1000 * Kk := ⟨_, rfl⟩
    have hMu : M ≤ 3000 := by omega
    have hmul : ∀ u : World, (binOp .mul 3 (.int .i64 1000) (.int .i64 (Kk : Int))).run Tryd.prog u = .ok (.int .i64 (M : Int)) u := fun u => mul_intR _ _ _ (by omega) (by omega) u
    obtain ⟨XO, hmk, hcv⟩ := zeros_big M (by omega)
    obtain ⟨Z, hZ⟩ : ∃ Z : ByteArray, Z = ⟨(List.replicate M 0).toArray⟩ := ⟨_, rfl⟩
    rw [← hZ] at hcv
    have hZs : Z.size = M := by rw [hZ, ByteArray.size, List.size_toArray, List.length_replicate]
    obtain ⟨WD, hWD⟩ : ∃ u, u = X1.drew := ⟨_, rfl⟩
    obtain ⟨W1, hW1⟩ : ∃ u, u = WD.alloc XO := ⟨_, rfl⟩
    obtain ⟨W2, hW2⟩ : ∃ u, u = W1.setCell ⟨p, 3, none⟩ (.string (P ++ Z)) := ⟨_, rfl⟩
    have kd : RecAt p win idx tim P WD := by rw [hWD]; exact k1
    have bd : Below w.heap.size w WD := by rw [hWD]; exact below_drew bb
    have bk : Below WD.heap.size WD W1 := by rw [hW1]; exact below_box' _ _
    have kw1 := kd.old bk kd.lt
    have h2 : RecAt p win idx tim (P ++ Z) W2 := by rw [hW2]; exact kw1.set3 _
    have hb2 : Below w.heap.size w W2 := by rw [hW2]; exact (below_step bd (Nat.le_refl _) bk).setCell (p := ⟨p, 3, none⟩) hpw _
    have HST : Hid ((Instr.storeAt 9 (.pointer (some ⟨p, 3, none⟩)) (.string (P ++ Z))).run Tryd.prog W1 = .ok () W2) := Lib.hid (by rw [hW2]; exact store_strR kw1 _)
    have HW6 : Hid (∀ (k : Nat) (u : World), k ≤ 3 → u = [WD, W1, W1, W1, W2].getD k WD → RecAt p win idx tim P u) := Lib.hid fun k u hk hu => by
      subst hu
      match k, hk with
      | 0, _ => exact kd
      | 1, _ => exact kw1
      | 2, _ => exact kw1
      | 3, _ => exact kw1
    have HMUL := Lib.hid hmul
    have HMK := Lib.hid hmk
    have HCV := Lib.hid hcv
    have HW1 := Lib.hid hW1
    have HWD := Lib.hid hWD
    have hPZ : (P ++ Z).size ≤ 5010 := by simp only [ByteArray.size_append]; omega
    clear hM hmul hmk hcv hZ hW1 hW2 kd bd bk kw1 k1 bb
    go_upto_region 6 with fail
    try simp only [Act.put]
    refine wp_region_eff (Lx := fun _ _ => True) [RX.is (.pointer (some ⟨p, 3, none⟩)), RX.is (.string P), RX.is (.int .i64 (Kk : Int)), RX.is (.int .i64 (M : Int)), RX.is (.slice (some ⟨WD.heap.size, 0, none⟩) M M), RX.is (.string Z), RX.is (.string (P ++ Z)), RX.is (.pointer (some ⟨p, 3, none⟩)), RX.any] [4, 5, 6, 8] (fun k w' => w' = [WD, W1, W1, W1, W2].getD k WD) (by kernel_rfl) (by kernel_rfl) (by kernel_rfl) (by kernel_rfl) (by kernel_rfl) HWD.out.symm ⟨?_, ?_, ?_, ?_, ?_, ?_, ?_, ?_, ?_, trivial⟩ ?_
    · intro ac w' ph hF hPh hlt hP hU K hK0
      have e2 : ac.eval (.tmp 2) = .pointer (some ⟨p, 0, none⟩) := hF.at 2 (by kernel_rfl)
      exact rop_fld _ _ _ rfl e2 ((recFld0 p _).2.2.2) (wanted_none rfl) (hK0 _ _ trivial hPh rfl)
    · intro ac w' ph hF hPh hlt hP hU K hK0
      have e22 : ac.eval (.tmp 22) = .pointer (some ⟨p, 3, none⟩) := hP 0 (by kernel_rfl)
      have hph : ph ≤ 2 := (hlt 2 6 rfl).2 (by kernel_rfl)
      have hh : RecAt p win idx tim P w' := HW6.out ph w' (by omega) hPh
      exact rop_ld _ _ rfl e22 (load_strR hh.c3) (wanted_none rfl) (hK0 _ _ trivial hPh rfl)
    · intro ac w' ph hF hPh hlt hP hU K hK0
      have e6 : ac.eval (.tmp 6) = .int .i64 (Kk : Int) := hF.at 6 (by kernel_rfl)
      exact rop_move _ rfl e6 (wanted_none rfl) (hK0 _ _ trivial hPh rfl)
    · intro ac w' ph hF hPh hlt hP hU K hK0
      have e24 : ac.eval (.tmp 24) = .int .i64 (Kk : Int) := hP 2 (by kernel_rfl)
      exact rop_bin _ _ _ _ _ rfl rfl e24 (guard_int _ _ _ _ _ _ _ w') (HMUL.out w') (wanted_none rfl) (hK0 _ _ trivial hPh rfl)
    · intro ac w' ph hF hPh hlt hP hU K hK0
      obtain rfl : ph = 0 := (hlt 0 4 rfl).1 rfl
      obtain rfl : w' = WD := hPh
      have e25 : ac.eval (.tmp 25) = .int .i64 (M : Int) := hP 3 (by kernel_rfl)
      exact rop_makeR _ _ _ rfl e25 e25 (HMK.out w') (wanted_none rfl) (hK0 _ _ trivial HW1.out.symm rfl)
    · intro ac w' ph hF hPh hlt hP hU K hK0
      obtain rfl : ph = 1 := (hlt 1 5 rfl).1 rfl
      obtain rfl : w' = W1 := hPh
      have e26 : ac.eval (.tmp 26) = .slice (some ⟨WD.heap.size, 0, none⟩) M M := hP 4 (by kernel_rfl)
      exact rop_convR _ _ _ rfl e26 (by have := HCV.out WD; rw [← HW1.out] at this; exact this) (wanted_none rfl) (hK0 _ _ trivial rfl rfl)
    · intro ac w' ph hF hPh hlt hP hU K hK0
      obtain rfl : ph = 2 := (hlt 2 6 rfl).1 rfl
      obtain rfl : w' = W1 := hPh
      have e23 : ac.eval (.tmp 23) = .string P := hP 1 (by kernel_rfl)
      have e27 : ac.eval (.tmp 27) = .string Z := hP 5 (by kernel_rfl)
      exact rop_bin _ _ _ _ _ rfl e23 e27 (guard_str _ _ _ _ _ _ _) (add_str _ _ (by omega) _) (wanted_none rfl) (hK0 _ _ trivial rfl rfl)
    · intro ac w' ph hF hPh hlt hP hU K hK0
      have e2 : ac.eval (.tmp 2) = .pointer (some ⟨p, 0, none⟩) := hF.at 2 (by kernel_rfl)
      exact rop_fld _ _ _ rfl e2 ((recFld0 p _).2.2.2) (wanted_none rfl) (hK0 _ _ trivial hPh rfl)
    · intro ac w' ph hF hPh hlt hP hU K hK0
      obtain rfl : ph = 3 := (hlt 3 8 rfl).1 rfl
      obtain rfl : w' = W1 := hPh
      have e29 : ac.eval (.tmp 29) = .pointer (some ⟨p, 3, none⟩) := hP 7 (by kernel_rfl)
      have e28 : ac.eval (.tmp 28) = .string (P ++ Z) := hP 6 (by kernel_rfl)
      exact rop_storeG _ _ _ rfl e29 e28 HST.out (wanted_none rfl) (hK0 _ _ trivial rfl trivial)
    · intro ac w' hF hPh hT
      obtain rfl : w' = W2 := hPh
      rw [hF.setsG [22, 23, 24, 25, 26, 27, 28, 29] (by kernel_rfl)]
      simp only [List.foldl_cons, List.foldl_nil, List.setIfInBounds_toArray, List.set_cons_succ, List.set_cons_zero]
      generalize ac.eval (.tmp 22) = u22
      generalize ac.eval (.tmp 23) = u23
      generalize ac.eval (.tmp 24) = u24
      generalize ac.eval (.tmp 25) = u25
      generalize ac.eval (.tmp 26) = u26
      generalize ac.eval (.tmp 27) = u27
      generalize ac.eval (.tmp 28) = u28
      generalize ac.eval (.tmp 29) = u29
      clear  hT hF ac
      obtain ⟨Q, hQ⟩ : ∃ Q, Q = P ++ Z := ⟨_, rfl⟩
      rw [← hQ] at h2 hPZ
      clear HST HW6 HMUL HMK HCV HW1 HWD hQ
      have qb := fun u => recBytes_any win idx tim Q u (by omega)
      have qr := fun u => rRecBytes_any win idx tim Q u (by omega)
      have qc := fun u => check_any win idx tim Q u (by omega)
      have qd := fun u => rcheck_any win idx tim Q u (by omega)
      have ql := fun u hk => recLeaf_any win idx tim Q u hk (by omega)
      have qm := fun u => rRecLeaf_any win idx tim Q u (by omega)
      have hsz := bytV_size win idx tim Q (by omega)
      have hread : chkZ win idx tim Q = 0 → readZ (bytV win idx tim Q).data.toList = 0 ∧ readR (bytV win idx tim Q).data.toList = ⟨win, idx, tim, Q⟩ := fun h => by
        rw [show bytV win idx tim Q = bytB win idx tim Q from if_pos h]; exact bytes_read _ _ _ _ h
      have hDl : (recLf win idx tim Q).length = 32 := Tree.leafH_length _
      have HREAD := Lib.hid hread
      have HDl0 := Lib.hid hDl
      clear hread hDl
      generalize recLf win idx tim Q = D at *
      generalize bytV win idx tim Q = S at *
      generalize chkZ win idx tim Q = z at *
      have HDl := HDl0
      have HCK := Lib.hid qc
      have HRK := Lib.hid qd
      have HLF := Lib.hid ql
      have HRL := Lib.hid qm
      clear qc qd ql qm HDl0
      have c0 := h2.c0
      have c1 := h2.c1
      have c2 := h2.c2
      have c3 := h2.c3
      go_upto_region 8 with (go_at_call 6; ((with_reducible refine (qb _).mono ?_); rintro e w7 ⟨rfl, b7⟩))
      replace h2 := h2.old b7 h2.lt
      replace hb2 := below_step hb2 (Nat.le_refl _) b7
      clear b7 qb c0 c1 c2 c3
      have c0 := h2.c0
      have c1 := h2.c1
      have c2 := h2.c2
      have c3 := h2.c3
      go_upto_region 9 with (go_at_call 7; ((with_reducible refine (qr _).mono ?_); rintro e w8 ⟨rfl, b8⟩))
      replace h2 := h2.old b8 h2.lt
      replace hb2 := below_step hb2 (Nat.le_refl _) b8
      clear b8 qr c0 c1 c2 c3
      have HKT : Hid (KT w8) := Lib.hid fun i hi => (hb2.cell (by exact HKW.out.pos)).trans (HKW.out i hi)
      try simp only [Act.put]
      refine wp_region_tab [RT.is (.string S), RT.is (.string S), RT.is (.bool false), RT.is (.bool false), RT.is (.int .i64 z), RT.is (.int .i64 z), RT.is (.bool false), RT.is (.bool false), RT.is (.bool false), RT.is (.agg #[.int .i64 win, .int .i64 idx, .int .i64 tim, .string Q]), RT.is (.int .i64 z), RT.is (.agg #[.int .i64 win, .int .i64 idx, .int .i64 tim, .string Q]), RT.is (.int .i64 z), RT.is (.bool false), RT.is (.bool false), RT.is (.bool false), RT.is (.agg #[.int .i64 win, .int .i64 idx, .int .i64 tim, .string Q]), RT.is (sumV D), RT.is (.agg #[.int .i64 win, .int .i64 idx, .int .i64 tim, .string Q]), RT.is (sumV D), RT.is (.bool false), RT.is (.bool false)] (by kernel_rfl) (by kernel_rfl) (by kernel_rfl) (by kernel_rfl) ⟨?_, ?_, ?_, ?_, ?_, ?_, ?_, ?_, ?_, ?_, ?_, ?_, ?_, ?_, ?_, ?_, ?_, ?_, ?_, ?_, ?_, ?_, trivial⟩ ?_
      · intro ac w' hF hL hP hU K hK
        have hB := below_undrew hL
        have e7 : ac.eval (.tmp 7) = .string S := hF.at 7 (by kernel_rfl)
        exact rop_move _ rfl e7 (wanted_none rfl) (hK _ _ (le8_refl _) rfl)
      · intro ac w' hF hL hP hU K hK
        have hB := below_undrew hL
        have e9 : ac.eval (.tmp 9) = .string S := hF.at 9 (by kernel_rfl)
        exact rop_move _ rfl e9 (wanted_none rfl) (hK _ _ (le8_refl _) rfl)
      · intro ac w' hF hL hP hU K hK
        have hB := below_undrew hL
        have e40 : ac.eval (.tmp 40) = .string S := hP 0 (by kernel_rfl)
        have e41 : ac.eval (.tmp 41) = .string S := hP 1 (by kernel_rfl)
        exact rop_bin _ _ _ _ _ rfl e40 e41 (guard_str _ _ _ _ _ _ w') (neq_strS _ w') (wanted_none rfl) (hK _ _ (le8_refl _) rfl)
      · intro ac w' hF hL hP hU K hK
        have hB := below_undrew hL
        have e42 : ac.eval (.tmp 42) = .bool false := hP 2 (by kernel_rfl)
        exact rop_move _ rfl e42 (wanted_none rfl) (hK _ _ (le8_refl _) rfl)
      · intro ac w' hF hL hP hU K hK
        have hB := below_undrew hL
        have e8 : ac.eval (.tmp 8) = .int .i64 z := hF.at 8 (by kernel_rfl)
        have e43 : ac.eval (.tmp 43) = .bool false := hP 3 (by kernel_rfl)
        exact rop_move _ rfl e8 (wanted_of (j := 3) (b := false) rfl rfl e43) (hK _ _ (le8_refl _) rfl)
      · intro ac w' hF hL hP hU K hK
        have hB := below_undrew hL
        have e10 : ac.eval (.tmp 10) = .int .i64 z := hF.at 10 (by kernel_rfl)
        have e43 : ac.eval (.tmp 43) = .bool false := hP 3 (by kernel_rfl)
        exact rop_move _ rfl e10 (wanted_of (j := 3) (b := false) rfl rfl e43) (hK _ _ (le8_refl _) rfl)
      · intro ac w' hF hL hP hU K hK
        have hB := below_undrew hL
        have e44 : ac.eval (.tmp 44) = .int .i64 z := hP 4 (by kernel_rfl)
        have e45 : ac.eval (.tmp 45) = .int .i64 z := hP 5 (by kernel_rfl)
        have e43 : ac.eval (.tmp 43) = .bool false := hP 3 (by kernel_rfl)
        exact rop_bin _ _ _ _ _ rfl e44 e45 (guard_int _ _ _ _ _ _ _ w') (neq_errS _ w') (wanted_of (j := 3) (b := false) rfl rfl e43) (hK _ _ (le8_refl _) rfl)
      · intro ac w' hF hL hP hU K hK
        have hB := below_undrew hL
        have e43 : ac.eval (.tmp 43) = .bool false := hP 3 (by kernel_rfl)
        have e46 : ac.eval (.tmp 46) = .bool false := hP 6 (by kernel_rfl)
        exact rop_pick _ _ _ rfl false e43 (by simpa using e46) (wanted_none rfl) (hK _ _ (le8_refl _) rfl)
      · intro ac w' hF hL hP hU K hK
        have hB := below_undrew hL
        have e47 : ac.eval (.tmp 47) = .bool false := hP 7 (by kernel_rfl)
        exact rop_move _ rfl e47 (wanted_none rfl) (hK _ _ (le8_refl _) rfl)
      · intro ac w' hF hL hP hU K hK
        have hB := below_undrew hL
        have e2 : ac.eval (.tmp 2) = .pointer (some ⟨p, 0, none⟩) := hF.at 2 (by kernel_rfl)
        have e48 : ac.eval (.tmp 48) = .bool false := hP 8 (by kernel_rfl)
        exact rop_ld _ _ rfl e2 ((h2.old hB h2.lt).load) (wanted_of (j := 8) (b := false) rfl rfl e48) (hK _ _ (le8_refl _) rfl)
      · intro ac w' hF hL hP hU K hK
        have hB := below_undrew hL
        have e49 : ac.eval (.tmp 49) = .agg #[.int .i64 win, .int .i64 idx, .int .i64 tim, .string Q] := hP 9 (by kernel_rfl)
        have e48 : ac.eval (.tmp 48) = .bool false := hP 8 (by kernel_rfl)
        refine rop_call 8 _ _ rfl #[.agg #[.int .i64 win, .int .i64 idx, .int .i64 tim, .string Q]] (by simp [e49]) (by kernel_rfl) (wanted_of (j := 8) (b := false) rfl rfl e48) ?_
        refine (HCK.out w').mono ?_
        rintro e w2 ⟨rfl, hb⟩
        exact ⟨_, rfl, hK _ _ hb rfl⟩
      · intro ac w' hF hL hP hU K hK
        have hB := below_undrew hL
        have e2 : ac.eval (.tmp 2) = .pointer (some ⟨p, 0, none⟩) := hF.at 2 (by kernel_rfl)
        have e48 : ac.eval (.tmp 48) = .bool false := hP 8 (by kernel_rfl)
        exact rop_ld _ _ rfl e2 ((h2.old hB h2.lt).load) (wanted_of (j := 8) (b := false) rfl rfl e48) (hK _ _ (le8_refl _) rfl)
      · intro ac w' hF hL hP hU K hK
        have hB := below_undrew hL
        have e51 : ac.eval (.tmp 51) = .agg #[.int .i64 win, .int .i64 idx, .int .i64 tim, .string Q] := hP 11 (by kernel_rfl)
        have e48 : ac.eval (.tmp 48) = .bool false := hP 8 (by kernel_rfl)
        refine rop_call 9 _ _ rfl #[.agg #[.int .i64 win, .int .i64 idx, .int .i64 tim, .string Q]] (by simp [e51]) (by kernel_rfl) (wanted_of (j := 8) (b := false) rfl rfl e48) ?_
        refine (HRK.out w').mono ?_
        rintro e w2 ⟨rfl, hb⟩
        exact ⟨_, rfl, hK _ _ hb rfl⟩
      · intro ac w' hF hL hP hU K hK
        have hB := below_undrew hL
        have e50 : ac.eval (.tmp 50) = .int .i64 z := hP 10 (by kernel_rfl)
        have e52 : ac.eval (.tmp 52) = .int .i64 z := hP 12 (by kernel_rfl)
        have e48 : ac.eval (.tmp 48) = .bool false := hP 8 (by kernel_rfl)
        exact rop_bin _ _ _ _ _ rfl e50 e52 (guard_int _ _ _ _ _ _ _ w') (neq_errS _ w') (wanted_of (j := 8) (b := false) rfl rfl e48) (hK _ _ (le8_refl _) rfl)
      · intro ac w' hF hL hP hU K hK
        have hB := below_undrew hL
        have e48 : ac.eval (.tmp 48) = .bool false := hP 8 (by kernel_rfl)
        have e53 : ac.eval (.tmp 53) = .bool false := hP 13 (by kernel_rfl)
        exact rop_pick _ _ _ rfl false e48 (by simpa using e53) (wanted_none rfl) (hK _ _ (le8_refl _) rfl)
      · intro ac w' hF hL hP hU K hK
        have hB := below_undrew hL
        have e54 : ac.eval (.tmp 54) = .bool false := hP 14 (by kernel_rfl)
        exact rop_move _ rfl e54 (wanted_none rfl) (hK _ _ (le8_refl _) rfl)
      · intro ac w' hF hL hP hU K hK
        have hB := below_undrew hL
        have e2 : ac.eval (.tmp 2) = .pointer (some ⟨p, 0, none⟩) := hF.at 2 (by kernel_rfl)
        have e55 : ac.eval (.tmp 55) = .bool false := hP 15 (by kernel_rfl)
        exact rop_ld _ _ rfl e2 ((h2.old hB h2.lt).load) (wanted_of (j := 15) (b := false) rfl rfl e55) (hK _ _ (le8_refl _) rfl)
      · intro ac w' hF hL hP hU K hK
        have hB := below_undrew hL
        have e56 : ac.eval (.tmp 56) = .agg #[.int .i64 win, .int .i64 idx, .int .i64 tim, .string Q] := hP 16 (by kernel_rfl)
        have e55 : ac.eval (.tmp 55) = .bool false := hP 15 (by kernel_rfl)
        refine rop_call 10 _ _ rfl #[.agg #[.int .i64 win, .int .i64 idx, .int .i64 tim, .string Q]] (by simp [e56]) (by kernel_rfl) (wanted_of (j := 15) (b := false) rfl rfl e55) ?_
        refine (HLF.out w' (HKT.out.old hB)).mono ?_
        rintro e w2 ⟨rfl, hb⟩
        exact ⟨_, rfl, hK _ _ hb rfl⟩
      · intro ac w' hF hL hP hU K hK
        have hB := below_undrew hL
        have e2 : ac.eval (.tmp 2) = .pointer (some ⟨p, 0, none⟩) := hF.at 2 (by kernel_rfl)
        have e55 : ac.eval (.tmp 55) = .bool false := hP 15 (by kernel_rfl)
        exact rop_ld _ _ rfl e2 ((h2.old hB h2.lt).load) (wanted_of (j := 15) (b := false) rfl rfl e55) (hK _ _ (le8_refl _) rfl)
      · intro ac w' hF hL hP hU K hK
        have hB := below_undrew hL
        have e58 : ac.eval (.tmp 58) = .agg #[.int .i64 win, .int .i64 idx, .int .i64 tim, .string Q] := hP 18 (by kernel_rfl)
        have e55 : ac.eval (.tmp 55) = .bool false := hP 15 (by kernel_rfl)
        refine rop_call 11 _ _ rfl #[.agg #[.int .i64 win, .int .i64 idx, .int .i64 tim, .string Q]] (by simp [e58]) (by kernel_rfl) (wanted_of (j := 15) (b := false) rfl rfl e55) ?_
        refine (HRL.out w').mono ?_
        rintro e w2 ⟨rfl, hb⟩
        exact ⟨_, rfl, hK _ _ hb rfl⟩
      · intro ac w' hF hL hP hU K hK
        have hB := below_undrew hL
        have e57 : ac.eval (.tmp 57) = sumV D := hP 17 (by kernel_rfl)
        have e59 : ac.eval (.tmp 59) = sumV D := hP 19 (by kernel_rfl)
        have e55 : ac.eval (.tmp 55) = .bool false := hP 15 (by kernel_rfl)
        exact rop_bin _ _ _ _ _ rfl e57 e59 (guard_run _ _ _ _ _ w') (neq_sum_ff D D HDl.out HDl.out rfl w') (wanted_of (j := 15) (b := false) rfl rfl e55) (hK _ _ (le8_refl _) rfl)
      · intro ac w' hF hL hP hU K hK
        have hB := below_undrew hL
        have e55 : ac.eval (.tmp 55) = .bool false := hP 15 (by kernel_rfl)
        have e60 : ac.eval (.tmp 60) = .bool false := hP 20 (by kernel_rfl)
        exact rop_pick _ _ _ rfl false e55 (by simpa using e60) (wanted_none rfl) (hK _ _ (le8_refl _) rfl)
      · intro ac w' hF hB hT
        have e61 : ac.eval (.tmp 61) = .bool false := hT 21 (by decide)
        rw [hF.setsG [40, 41, 42, 43, 44, 45, 46, 47, 48, 49, 50, 51, 52, 53, 54, 55, 56, 57, 58, 59, 60, 61] (by kernel_rfl)]
        simp only [List.foldl_cons, List.foldl_nil, List.setIfInBounds_toArray, List.set_cons_succ, List.set_cons_zero, e61]
        generalize ac.eval (.tmp 40) = u40
        generalize ac.eval (.tmp 41) = u41
        generalize ac.eval (.tmp 42) = u42
        generalize ac.eval (.tmp 43) = u43
        generalize ac.eval (.tmp 44) = u44
        generalize ac.eval (.tmp 45) = u45
        generalize ac.eval (.tmp 46) = u46
        generalize ac.eval (.tmp 47) = u47
        generalize ac.eval (.tmp 48) = u48
        generalize ac.eval (.tmp 49) = u49
        generalize ac.eval (.tmp 50) = u50
        generalize ac.eval (.tmp 51) = u51
        generalize ac.eval (.tmp 52) = u52
        generalize ac.eval (.tmp 53) = u53
        generalize ac.eval (.tmp 54) = u54
        generalize ac.eval (.tmp 55) = u55
        generalize ac.eval (.tmp 56) = u56
        generalize ac.eval (.tmp 57) = u57
        generalize ac.eval (.tmp 58) = u58
        generalize ac.eval (.tmp 59) = u59
        generalize ac.eval (.tmp 60) = u60
        clear e61 hT hF ac
        have h9 := h2.old hB h2.lt
        have hb9 := below_step hb2 (Nat.le_refl _) hB
        clear h2 hb2 hB HKT HCK HRK HLF HRL HDl
        by_cases hz : z = 0
        · obtain ⟨r1, r2⟩ := HREAD.out hz
          have q9 := fun u => recRead_any S u (by omega)
          rw [r1, r2] at q9
          unfold recV at q9
          simp only at q9
          subst hz
          clear HREAD r1 r2
          go_upto_region 13 with fail
          go_upto_region 14 with (go_at_call 12; ((with_reducible refine (q9 _).mono ?_); rintro e w10 ⟨rfl, b10⟩))
          have h10 := h9.old b10 h9.lt
          have hb10 := below_step hb9 (Nat.le_refl _) b10
          obtain ⟨r, hr⟩ : ∃ r, r = w10.heap.size := ⟨_, rfl⟩
          obtain ⟨W11, hW11⟩ : ∃ u, u = w10.alloc (.cells #[.int .i64 win, .int .i64 idx, .int .i64 tim, .string Q] 23) := ⟨_, rfl⟩
          rw [← hW11, ← hr]
          have g11 : RecAt r win idx tim Q W11 := by rw [hW11, hr]; exact RecAt.alloc _ _ _ _ _
          have b11 : Below w10.heap.size w10 W11 := by rw [hW11]; exact below_box' _ _
          have h11 := h10.old b11 h10.lt
          have hb11 := below_step hb10 (Nat.le_refl _) b11
          clear hW11 hr b11 h10 hb10 h9 hb9 b10 q9
          have c0 := h11.c0
          have c1 := h11.c1
          have c2 := h11.c2
          have c3 := h11.c3
          have d0 := g11.c0
          have d1 := g11.c1
          have d2 := g11.c2
          have d3 := g11.c3
          go_wp2
          go_ret
          exact ⟨by simp, hb11⟩
        · clear HREAD
          go_wp2
          go_ret
          exact ⟨rfl, hb9⟩

set_option maxRecDepth 100000 in
theorem lifted (os : Os) (started : os.Started) (H : Type) (enc : TypeId × Value → H) :
    ReturnsInHanded {} Tryd.checked os 3 .any (fun w args => (Rows.recordBytesSpec.pre enc Tryd.prog Tryd.f3 [] false w args ∧ laidMetH Tryd.prog [("scrinium/sha.k", Rows.laid_scrinium_sha_k)] w) ∧ sizedMet enc Tryd.prog Tryd.f3 (OpenSpec.ofChange Rows.recordBytesSpec) false w args)
      (Rows.recordBytesSpec.post enc Tryd.prog Tryd.f3 false true false false) := by
  refine returnsInHanded_of_change_and (C := Tryd.checked) (X := fun w _ => laidMetH Tryd.prog [("scrinium/sha.k", Rows.laid_scrinium_sha_k)] w) (fun _ _ _ hh h => h.of_heap hh) lawOwn started (by kernel_rfl) Tryd.func3
    (ChangeSpec.witness_shaped (enc := enc) (C := Tryd.checked) (os := os) (X := fun w _ => laidMetH Tryd.prog [("scrinium/sha.k", Rows.laid_scrinium_sha_k)] w) false (World.doorLaid Tryd.prog 400 os) #[.agg #[.int .i64 0, .int .i64 0, .int .i64 0, .string .empty], .int .i64 0] 8 rfl (World.shaped_of_RefB (by kernel_rfl) (by kernel_rfl)) (by kernel_rfl) (by kernel_rfl) (by kernel_rfl) (door_met os _)) ?_
  intro W base args ds gs before hval0 hW _ _ hL _
  have hval : ∀ (j : Nat) t v, Tryd.f3.params[j]? = some t → args[j]? = some v → Value.okWide Tryd.prog W .any base t v := hval0
  have hW' := hW
  obtain ⟨p, q, hA0, hV, rfl, hfz, hnd⟩ := hW
  have hA : DataW.TrodAll enc Tryd.prog W 0 (fun _ => true) true Tryd.f3.params.toList args.toList ds p := hA0
  rw [Tryd.params3] at hA hval
  obtain ⟨v0, vs0, d0, ds0, p0, q0, hargs, rfl, rfl, h0, r0⟩ := trodAll_cons hA
  obtain ⟨v1, vs1, d1, ds1, p1, q1, rfl, rfl, rfl, h1, r1⟩ := trodAll_cons r0
  obtain ⟨rfl, rfl, rfl⟩ := trodAll_nil r1
  obtain rfl : args = #[v0, v1] := by cases args; simp_all
  obtain ⟨rfl, rfl⟩ := trodVars_none hV
  have hKT := KT_of_laid hL
  obtain ⟨win0, idx0, tim0, pay0, rfl, w0⟩ := rec_arg (hval 0 23 v0 rfl rfl) h0
  obtain ⟨a1, rfl, rfl, rfl, w1⟩ := open_int Tryd.underlying3 (hval 1 3 v1 rfl rfl) h1
  clear hA0 hval0
  obtain ⟨l1, m1⟩ := i64_bounds w1
  refine (walk (w := W) hKT win0 idx0 tim0 pay0 w0 a1 l1 m1).mono fun e W' ⟨he, bel⟩ => ?_
  subst he
  exact ⟨_, rfl, law_post rfl rfl (by kernel_rfl) hW' rfl bel⟩

theorem row_holds : Rows.RecordBytesSaid :=
  OpenClaim.holds_of_wide 3 Tryd.f3 rfl rfl rfl rfl rfl rfl rfl ⟨rfl, rfl, rfl, rfl, rfl⟩ rfl rfl rfl rfl rfl (by kernel_rfl) Tryd.func3 (by kernel_rfl)
    (of_decide_eq_true (by kernel_rfl)) (by unfold Func.isWrapper; first | (rw [if_pos (by decide +kernel)]; kernel_rfl) | (rw [if_neg (by decide +kernel)]; exact ⟨rfl, rfl⟩))
    (fun os started H enc _ => lifted os started H enc)

theorem holds : Rows.RecordBytesCardSaid :=
  Claim7.holds_tied_plain_at .later [] [.data] true Rows.recordBytesCard.stood.harness false
    row_holds (fun _ h => by cases h) (by kernel_rfl) (fun _ h => by cases h) recordBytes_row_tie rfl ⟨rfl, rfl⟩ (by kernel_rfl) rfl
    (fun f fn hf hfn => by
      obtain rfl : f = 3 := Option.some.inj ((show Tryd.prog.funcNamed "scrinium/scriniumlaw15.RecordBytes" = some 3 by kernel_rfl).symm.trans hf) |>.symm
      obtain rfl : fn = Tryd.f3 := (Option.some.inj (Tryd.func3.symm.trans hfn)).symm
      exact ⟨by kernel_rfl, fun j t ht => by
        rw [Tryd.params3] at ht
        have hm : t ∈ [23, 3] := by simpa using Array.mem_of_getElem? ht
        have hall : ([23, 3].all fun u => !Tryd.prog.wantsStandIn u) = true := by kernel_rfl
        exact (show Tryd.prog.wantsStandIn t = false by simpa using List.all_eq_true.1 hall t hm)⟩)
    (by kernel_rfl)
end Go.Proofs.YtbhalioajekfcaaDoor.recordBytes

theorem Go.Proofs.YtbhalioajekfcaaDoor.recordBytes_holds : Go.Proofs.YtbhalioajekfcaaDoor.Rows.RecordBytesCardSaid := Go.Proofs.YtbhalioajekfcaaDoor.recordBytes.holds
#print axioms Go.Proofs.YtbhalioajekfcaaDoor.recordBytes_holds
