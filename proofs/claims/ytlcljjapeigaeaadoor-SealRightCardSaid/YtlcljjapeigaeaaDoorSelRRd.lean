/-
  The document's own answers for layer 16: ReadFreeze, ReadHead, ReadStone.
-/
import Derived.Test.YtlcljjapeigaeaaDoorSelRRead
namespace Go.Proofs.YtlcljjapeigaeaaDoor
open Go.RowKit

theorem neq_err10S (w : World) : (binOp .neq 31 (.int .i64 10) (.int .i64 0)).run Tryd.prog w = .ok (.bool true) w := by go_simp
theorem endV_0 {st : Option (List UInt8)} (h : st = some []) : endV st = 0 := if_pos h
theorem endV_10 {st : Option (List UInt8)} (h : ¬ st = some []) : endV st = 10 := if_neg h
theorem rend_b (q : Nat) (S : ByteArray) (st : Option (List UInt8)) (u : World) (hS : S.size ≤ 1000000000) (h : RScn q S st u) : Calls Tryd.prog 58 #[.pointer (some ⟨q, 0, none⟩)] u fun e w' => e = .returned (.int .i64 (endV st)) ∧ Below u.heap.size u w' :=
  (rend_any q S st u (by omega) h).mono fun e w' ⟨h1, n, h2⟩ => ⟨h1, by rw [h2]; exact below_drewN (Below.refl _ _) n⟩
section
variable {ops : Array Oper} {Q : Exit → Act → World → Prop} {a : Act} {w w' : World} {K : Act → World → Prop} {o : Oper}
theorem rop_allocS (t : TypeId) (hop : o.op = .alloc t) {v : Value} (hr : (Instr.alloc t true (.tuple #[])).run Tryd.prog w = .ok v w') (hw : Region.wanted o (yielded ops a.tmps) = true) (h : K (a.put o.dst v) w') :
    if Region.wanted o (yielded ops a.tmps) = true then Oper.wp Tryd.prog o a w K Q else K (a.put o.dst undef) w := by
  rw [if_pos hw]
  unfold Oper.wp
  simp [execOp, hop, hr]
  exact h
theorem rop_buildS (t : TypeId) (parts : Array (Nat × Operand)) (hop : o.op = .build t parts) (L : List (Nat × Value)) (hL : (parts.map fun (i, x) => (i, a.eval x)).toList = L) {cells : Array Value} (hb : Tryd.prog.built t L = some cells) (hw : Region.wanted o (yielded ops a.tmps) = true) (h : K (a.put o.dst (.agg cells)) w) :
    if Region.wanted o (yielded ops a.tmps) = true then Oper.wp Tryd.prog o a w K Q else K (a.put o.dst undef) w :=
  rop_v hw (by
    have hr := run_build (P := Tryd.prog) w t (parts.map fun (i, x) => (i, a.eval x)) cells (by rw [hL]; exact hb)
    simp [execOp, hop, hr]) h
end
theorem built_fz1 (a : Int) : Tryd.prog.built 25 [(0, .int .i64 a)] = some (fzCs ⟨a, 0, z32⟩).toArray := by kernel_rfl
theorem built_hd1 (a : Int) : Tryd.prog.built 27 [(0, .int .i64 a)] = some (hdCs ⟨a, z32, 0, z32⟩).toArray := by kernel_rfl
theorem alloc_st (u : World) : (Instr.alloc 29 true (.tuple #[])).run Tryd.prog u = .ok (.pointer (some ⟨u.heap.size, 0, none⟩)) (u.alloc (.cells (stCs st0).toArray 29)) := by go_simp; rfl
theorem eval_put_ne (a : Act) (d e : Nat) (v : Value) (h : d ≠ e) : (a.put (some d) v).eval (.tmp e) = a.eval (.tmp e) := by
  simp [Act.put, Act.eval, Array.getElem?_setIfInBounds_ne h]
theorem eval_put_eq (a : Act) (d : Nat) (v : Value) (h : d < a.tmps.size) : (a.put (some d) v).eval (.tmp d) = v := by
  simp [Act.put, Act.eval, h]
theorem ptr_inj {y z : Nat} (h : Value.pointer (some ⟨y, 0, none⟩) = Value.pointer (some ⟨z, 0, none⟩)) : y = z := by injection h with h; injection h with h; injection h
set_option maxHeartbeats 6400000 in
set_option maxRecDepth 100000 in
theorem rfzRead_any (s : ByteArray) (w : World) (hs : s.size ≤ 1000000000) :
    Calls Tryd.prog 22 #[.string s] w fun e w' => e = .returned (.tuple #[.agg (fzCs ((rfzRd s.data.toList).getD fz0)).toArray, .int .i64 (rdZ (rfzRd s.data.toList))]) ∧ Below w.heap.size w w' := by
  obtain ⟨B, hB⟩ : ∃ B, B = begS 70 s.data.toList := ⟨_, rfl⟩
  obtain ⟨g, hg⟩ : ∃ g, g = fzGet rhV B := ⟨_, rfl⟩
  obtain ⟨O, hO⟩ : ∃ O, O = rfzRd s.data.toList := ⟨_, rfl⟩
  have HRD : Hid (O = if rhS (fz2 B) = some [] ∧ fzB g = true then some g else none) := Lib.hid (by rw [hO, hg, hB]; rfl)
  have HBE : Hid (∀ u : World, Calls Tryd.prog 55 #[.string s, .string ⟨#[70]⟩] u fun e w' => (∃ q, e = .returned (.pointer (some ⟨q, 0, none⟩)) ∧ u.heap.size ≤ q ∧ ∃ S : ByteArray, S.size ≤ 1000000000 ∧ RScn q S B w') ∧ Below u.heap.size u w') := Lib.hid fun u => by
    rw [hB]; exact begin_any 70 s.data.toList u (by rw [← Lib.size_eq]; exact hs)
  rw [← hO]
  obtain ⟨r, hr⟩ : ∃ r, r = w.heap.size := ⟨_, rfl⟩
  obtain ⟨W1, hW1⟩ : ∃ W, W = w.alloc (.cells (fzCs fz0).toArray 25) := ⟨_, rfl⟩
  have b1 : Below w.heap.size w W1 := by rw [hW1]; exact below_boxS _ _
  have h1 : Blk r 25 (fzCs fz0) W1 := by rw [hW1, hr]; exact Blk.alloc _ _ _
  have hwr : w.heap.size ≤ r := by omega
  have HIh : Hid ((Tryd.prog.info? 25).map (·.size) = some 34) := Lib.hid (size_of info_fz)
  have HL0 : Hid ((fzCs fz0).length = 34) := Lib.hid rfl
  have HGG := Lib.hid hg
  have HW1 := Lib.hid hW1
  have HR := Lib.hid hr
  clear hW1 hr hg hB hO hs
  go_enter Tryd.func22, Tryd.ntmps22
  go_upto_region 1 with fail
  change Code.wp _ _ _ _ (w.alloc (.cells (fzCs fz0).toArray 25))
  rw [← HW1.out, ← HR.out]
  clear HW1 HR
  go_upto_region 2 with (go_at_call 55; (refine (HBE.out _).mono ?_; rintro e w1 ⟨⟨q, rfl, hq, S, hS, HS⟩, b2⟩))
  have HZ := Blk.old h1 b2 h1.lt
  have hb := below_step b1 (Nat.le_refl _) b2
  have hrq : r < q := Nat.lt_of_lt_of_le h1.lt hq
  have hqw : w.heap.size ≤ q := by omega
  clear b1 h1 b2 HBE hq
  obtain ⟨n0, hn0⟩ : ∃ n, n = (numV B 1125899906842624 : Int) := ⟨_, rfl⟩
  have HNM : Hid (Calls Tryd.prog 56 #[.pointer (some ⟨q, 0, none⟩), .int .i64 1125899906842624] w1 fun e w' => e = .returned (.int .i64 n0) ∧ RScn q S (fz1 B) w' ∧ Only q w1 w') := Lib.hid (by rw [hn0]; exact rnum_any q S (B) 1125899906842624 _ (by omega) HS (by decide) (by decide))
  have HLn : Hid ((fzCs ⟨n0, 0, z32⟩).toArray.size = 34) := Lib.hid (by rw [List.size_toArray]; exact fzCs_length z32_length)
  have HBD := Lib.hid (built_fz1 n0)
  have HN0 := Lib.hid hn0
  clear hn0
  go_upto_region 3 with (first
    | (go_at_call 56; (refine HNM.out.mono ?_; rintro e wx ⟨rfl, sx, ox⟩))
    | refine wpList_build_at rfl 25 #[(0, .tmp 11)] rfl (fzCs ⟨n0, 0, z32⟩).toArray [(0, .int .i64 n0)] (by simp [Act.eval]) HBD.out ?_
    | refine wpList_store_mid (w := wx.alloc (.cells (fzCs fz0).toArray 25)) rfl 25 (.tmp 5) (.tmp 12) rfl wx.heap.size 0 (fzCs ⟨n0, 0, z32⟩).toArray rfl rfl (by rw [HLn.out]; exact Blk.there (Blk.alloc wx 25 (fzCs fz0)) (by rw [HL0.out]; decide)) (by rw [HLn.out]; exact HIh.out) one_cells ?_)
  obtain ⟨v, hv⟩ : ∃ v, v = wx.heap.size := ⟨_, rfl⟩
  obtain ⟨WN, hWN⟩ : ∃ u, u = (wx.alloc (.cells (fzCs fz0).toArray 25)).setCells wx.heap.size 0 (fzCs ⟨n0, 0, z32⟩) := ⟨_, rfl⟩
  change Code.wp _ _ _ _ ((wx.alloc (.cells (fzCs fz0).toArray 25)).setCells wx.heap.size 0 (fzCs ⟨n0, 0, z32⟩))
  rw [← hWN, ← hv]
  have bN : Below wx.heap.size wx WN := by rw [hWN]; exact below_setCells (Nat.le_refl _) _ _ _ (below_boxS _ _)
  have hqv : q < v := by rw [hv]; exact sx.lt
  have hvw : w.heap.size ≤ v := by omega
  have HA : FzAt v ⟨n0, 0, z32⟩ WN := by rw [hWN, hv]; exact Blk.setAll (Blk.alloc wx 25 (fzCs fz0)) (by rw [HL0.out, ← List.size_toArray]; exact HLn.out)
  rw [HN0.out] at HA
  clear HNM HLn HBD
  have HSn := sx.old bN sx.lt
  have HZx := Blk.kept HZ ox (by omega)
  have HZn := HZx.old bN HZx.lt
  have hbx := hb.trans (ox.below (B := w.heap.size) hqw hb.size)
  have hbn := below_step hbx (Nat.le_refl _) bN
  clear hWN hv bN sx ox HS HZ HZx hb hbx
  have HS : RScn q S (fz1 B) WN := HSn
  have HZ := HZn
  have hb := hbn
  clear HSn HZn hbn HN0
  -- a field: a number
  go_upto_region 4 with (go_at_call 56; ((with_reducible refine (rnum_any q S (fz1 B) 4000 _ (by omega) HS (by decide) (by decide)).mono ?_); rintro e wx ⟨rfl, sx, ox⟩; have hx := Blk.kept HA ox (by omega); have kx := FzAt.cnt hx; have fx := Blk.fz hx 1))
  obtain ⟨WN, hWN⟩ : ∃ u, u = wx.setCell ⟨v, 1, none⟩ (.int .i64 (numV (fz1 B) 4000 : Int)) := ⟨_, rfl⟩
  rw [← hWN]
  have oy : Only v wx WN := by rw [hWN]; exact (Only.refl v wx).setCell 1 (.int .i64 (numV (fz1 B) 4000 : Int))
  have HAn : FzAt v ⟨(numV B 1125899906842624 : Int), (numV (fz1 B) 4000 : Int), z32⟩ WN := by rw [hWN]; exact FzAt.setCnt hx _
  clear kx fx
  have HSn := sx.kept oy (by omega)
  have HZn := Blk.kept (Blk.kept HZ ox (by omega)) oy (by omega)
  have hbx := hb.trans (ox.below (B := w.heap.size) hqw hb.size)
  have hbn := hbx.trans (oy.below (B := w.heap.size) hvw hbx.size)
  clear hWN oy hx sx ox HA HS HZ hb hbx
  have HA := HAn
  have HS : RScn q S (fz2 B) WN := HSn
  have HZ := HZn
  have hb := hbn
  clear HAn HSn HZn hbn
  -- a field: a hash
  obtain ⟨D, hD⟩ : ∃ D, D = rhV (fz2 B) := ⟨_, rfl⟩
  have HDl : Hid (D.length = 32) := Lib.hid (by rw [hD]; exact rhV_length _)
  have hcD := rhash_any q S (fz2 B) _ (by omega) HS
  rw [← hD] at hcD
  have HCD := Lib.hid hcD
  have HD := Lib.hid hD
  clear hcD hD
  go_upto_region 5 with (first
    | (go_at_call 57; (refine HCD.out.mono ?_; rintro e wx ⟨rfl, sx, ox⟩; have hx := Blk.kept HA ox (by omega)))
    | refine wpList_store_mid rfl 23 (.tmp 18) (.tmp 17) rfl v 2 (D.map u8V).toArray rfl rfl (by rw [List.size_toArray, List.length_map, HDl.out]; exact Blk.there hx (by rw [show (fzCs _).length = 34 from fzCs_length z32_length]; decide)) (sum_info HDl.out) (sum_one D) ?_)
  obtain ⟨WN, hWN⟩ : ∃ u, u = wx.setCells v 2 (D.map u8V) := ⟨_, rfl⟩
  change Code.wp _ _ _ _ (wx.setCells v 2 (D.map u8V))
  rw [← hWN]
  have oy : Only v wx WN := by rw [hWN]; exact only_setCells _ _ _ (Only.refl v wx)
  have HAn : FzAt v (fzGet rhV B) WN := by rw [hWN, HD.out]; exact FzAt.setRoot hx _ (by rw [rhV_length]; exact z32_length.symm)
  clear HCD
  have HSn := sx.kept oy (by omega)
  have HZn := Blk.kept (Blk.kept HZ ox (by omega)) oy (by omega)
  have hbx := hb.trans (ox.below (B := w.heap.size) hqw hb.size)
  have hbn := hbx.trans (oy.below (B := w.heap.size) hvw hbx.size)
  clear hWN oy hx sx ox HA HS HZ hb hbx
  have HA := HAn
  have HS : RScn q S (rhS (fz2 B)) WN := HSn
  have HZ := HZn
  have hb := hbn
  clear HAn HSn HZn hbn HD HDl
  have HL : Hid ((fzCs g).length = 34) := Lib.hid (by rw [HGG.out]; exact fzCs_length (rhV_length _))
  rw [← HGG.out] at HA
  have HBY : Hid (∀ u : World, Calls Tryd.prog 11 #[.agg (fzCs g).toArray] u fun e w' => e = .returned (.tuple #[.string (fzT g), .int .i64 (fzZ g)]) ∧ Below u.heap.size u w') := Lib.hid fun u => rfzBytes_any g (by rw [HGG.out]; exact rhV_length _) u
  go_upto_region 6 with (first
    | refine wpList_load_mid rfl 25 (.tmp 5) rfl v 0 rfl (fzCs g) _ (Blk.all HA) Tryd.underlying25 rfl (by rw [HL.out]; exact HIh.out) ?_
    | (go_at_call 11; (refine (HBY.out _).mono ?_; rintro e w6 ⟨rfl, b6⟩)))
  have HA6 := Blk.old HA b6 (Blk.lt HA)
  have HZ6 := Blk.old HZ b6 (Blk.lt HZ)
  have HS6 := HS.old b6 HS.lt
  have hb6 := below_step hb (Nat.le_refl _) b6
  clear b6 HA HZ HS hb HBY
  have HEN : Hid (∀ u : World, Below w6.heap.size w6 u → Calls Tryd.prog 58 #[.pointer (some ⟨q, 0, none⟩)] u fun e w' => e = .returned (.int .i64 (endV (rhS (fz2 B)))) ∧ Below u.heap.size u w') := Lib.hid fun u hu => rend_b q S _ u hS (HS6.old hu HS6.lt)
  clear HS6
  by_cases he : rhS (fz2 B) = some []
  · rw [endV_0 he] at HEN
    by_cases hz : fzB g = true
    · have ez : fzZ g = 0 := if_pos hz
      replace HRD : Hid (O = some g) := Lib.hid (by rw [HRD.out, if_pos ⟨he, hz⟩])
      rw [ez]
      clear he hz ez
      generalize fzT g = GT at *
      try simp only [Act.put]
      refine wp_region_tab0 [RT.is (.pointer (some ⟨q, 0, none⟩)), RT.is (.int .i64 0), RT.is (.bool false), RT.is (.bool false), RT.is (.int .i64 0), RT.is (.bool false), RT.is (.bool false)] (by kernel_rfl) (by kernel_rfl) (by kernel_rfl) ⟨?_, ?_, ?_, ?_, ?_, ?_, ?_, trivial⟩ ?_
      · intro ac w' hF hL hP hU K hK
        have hB : Below _ _ _ := hL
        have e4 : ac.eval (.tmp 4) = .pointer (some ⟨q, 0, none⟩) := hF.at 4 (by kernel_rfl)
        exact rop_move _ rfl e4 (wanted_none rfl) (hK _ _ (le8_refl _) rfl)
      · intro ac w' hF hL hP hU K hK
        have hB : Below _ _ _ := hL
        have e24 : ac.eval (.tmp 24) = .pointer (some ⟨q, 0, none⟩) := hP 0 (by kernel_rfl)
        refine rop_call 58 _ _ rfl #[.pointer (some ⟨q, 0, none⟩)] (by simp [e24]) (by kernel_rfl) (wanted_none rfl) ?_
        refine (HEN.out w' hB).mono ?_
        rintro e w2 ⟨rfl, hb⟩
        exact ⟨_, rfl, hK _ _ hb rfl⟩
      · intro ac w' hF hL hP hU K hK
        have hB : Below _ _ _ := hL
        have e25 : ac.eval (.tmp 25) = .int .i64 0 := hP 1 (by kernel_rfl)
        exact rop_bin _ _ _ _ _ rfl e25 rfl (guard_int _ _ _ _ _ _ _ w') (neq_err0S w') (wanted_none rfl) (hK _ _ (le8_refl _) rfl)
      · intro ac w' hF hL hP hU K hK
        have hB : Below _ _ _ := hL
        have e26 : ac.eval (.tmp 26) = .bool false := hP 2 (by kernel_rfl)
        exact rop_move _ rfl e26 (wanted_none rfl) (hK _ _ (le8_refl _) rfl)
      · intro ac w' hF hL hP hU K hK
        have hB : Below _ _ _ := hL
        have e7 : ac.eval (.tmp 7) = .int .i64 0 := hF.at 7 (by kernel_rfl)
        have e27 : ac.eval (.tmp 27) = .bool false := hP 3 (by kernel_rfl)
        exact rop_move _ rfl e7 (wanted_of (j := 3) (b := false) rfl rfl e27) (hK _ _ (le8_refl _) rfl)
      · intro ac w' hF hL hP hU K hK
        have hB : Below _ _ _ := hL
        have e28 : ac.eval (.tmp 28) = .int .i64 0 := hP 4 (by kernel_rfl)
        have e27 : ac.eval (.tmp 27) = .bool false := hP 3 (by kernel_rfl)
        exact rop_bin _ _ _ _ _ rfl e28 rfl (guard_int _ _ _ _ _ _ _ w') (neq_err0S w') (wanted_of (j := 3) (b := false) rfl rfl e27) (hK _ _ (le8_refl _) rfl)
      · intro ac w' hF hL hP hU K hK
        have hB : Below _ _ _ := hL
        have e27 : ac.eval (.tmp 27) = .bool false := hP 3 (by kernel_rfl)
        have e29 : ac.eval (.tmp 29) = .bool false := hP 5 (by kernel_rfl)
        exact rop_pick _ _ _ rfl false e27 (by simpa using e29) (wanted_none rfl) (hK _ _ (le8_refl _) rfl)
      · intro ac w' hF hB hT
        have e30 : ac.eval (.tmp 30) = .bool false := hT 6 (by decide)
        rw [hF.setsG [24, 25, 26, 27, 28, 29, 30] (by kernel_rfl)]
        simp only [List.foldl_cons, List.foldl_nil, List.setIfInBounds_toArray, List.set_cons_succ, List.set_cons_zero, e30]
        generalize ac.eval (.tmp 24) = u24
        generalize ac.eval (.tmp 25) = u25
        generalize ac.eval (.tmp 26) = u26
        generalize ac.eval (.tmp 27) = u27
        generalize ac.eval (.tmp 28) = u28
        generalize ac.eval (.tmp 29) = u29
        clear e30 hT hF ac
        have HA7 := Blk.old HA6 hB (Blk.lt HA6)
        have HZ7 := Blk.old HZ6 hB (Blk.lt HZ6)
        have hb7 := below_step hb6 (Nat.le_refl _) hB
        clear hB HA6 HZ6 hb6
        go_wp2_with (first
          | refine wpList_load_mid rfl 25 (.tmp 5) rfl v 0 rfl (fzCs g) _ (Blk.all HA7) Tryd.underlying25 rfl (by rw [HL.out]; exact HIh.out) ?_
          | refine wpList_store_mid rfl 25 (.tmp 2) (.tmp 32) rfl r 0 (fzCs g).toArray rfl rfl (by rw [List.size_toArray, HL.out]; exact Blk.there HZ7 (by rw [HL0.out]; decide)) (by rw [List.size_toArray, HL.out]; exact HIh.out) one_cells ?_)
        try rw [Exit.noGoto_ret]
        have hz := Blk.setAll (n := fzCs g) HZ7 (by rw [HL.out]; rfl)
        refine bodyPost_ret (results_ctS (t := 2) (u := 3) (ty := 25) (b := r) rfl _ _ _ rfl (Blk.all hz) Tryd.underlying25 rfl (by rw [HL.out]; exact HIh.out)) rfl ⟨?_, below_setCells hwr _ _ _ hb7⟩
        rw [HRD.out]
        rfl
    · have ez : fzZ g = 1 := if_neg hz
      replace HRD : Hid (O = none) := Lib.hid (by rw [HRD.out, if_neg (fun h => hz h.2)])
      rw [ez]
      clear he hz ez
      generalize fzT g = GT at *
      try simp only [Act.put]
      refine wp_region_tab0 [RT.is (.pointer (some ⟨q, 0, none⟩)), RT.is (.int .i64 0), RT.is (.bool false), RT.is (.bool false), RT.is (.int .i64 1), RT.is (.bool true), RT.is (.bool true)] (by kernel_rfl) (by kernel_rfl) (by kernel_rfl) ⟨?_, ?_, ?_, ?_, ?_, ?_, ?_, trivial⟩ ?_
      · intro ac w' hF hL hP hU K hK
        have hB : Below _ _ _ := hL
        have e4 : ac.eval (.tmp 4) = .pointer (some ⟨q, 0, none⟩) := hF.at 4 (by kernel_rfl)
        exact rop_move _ rfl e4 (wanted_none rfl) (hK _ _ (le8_refl _) rfl)
      · intro ac w' hF hL hP hU K hK
        have hB : Below _ _ _ := hL
        have e24 : ac.eval (.tmp 24) = .pointer (some ⟨q, 0, none⟩) := hP 0 (by kernel_rfl)
        refine rop_call 58 _ _ rfl #[.pointer (some ⟨q, 0, none⟩)] (by simp [e24]) (by kernel_rfl) (wanted_none rfl) ?_
        refine (HEN.out w' hB).mono ?_
        rintro e w2 ⟨rfl, hb⟩
        exact ⟨_, rfl, hK _ _ hb rfl⟩
      · intro ac w' hF hL hP hU K hK
        have hB : Below _ _ _ := hL
        have e25 : ac.eval (.tmp 25) = .int .i64 0 := hP 1 (by kernel_rfl)
        exact rop_bin _ _ _ _ _ rfl e25 rfl (guard_int _ _ _ _ _ _ _ w') (neq_err0S w') (wanted_none rfl) (hK _ _ (le8_refl _) rfl)
      · intro ac w' hF hL hP hU K hK
        have hB : Below _ _ _ := hL
        have e26 : ac.eval (.tmp 26) = .bool false := hP 2 (by kernel_rfl)
        exact rop_move _ rfl e26 (wanted_none rfl) (hK _ _ (le8_refl _) rfl)
      · intro ac w' hF hL hP hU K hK
        have hB : Below _ _ _ := hL
        have e7 : ac.eval (.tmp 7) = .int .i64 1 := hF.at 7 (by kernel_rfl)
        have e27 : ac.eval (.tmp 27) = .bool false := hP 3 (by kernel_rfl)
        exact rop_move _ rfl e7 (wanted_of (j := 3) (b := false) rfl rfl e27) (hK _ _ (le8_refl _) rfl)
      · intro ac w' hF hL hP hU K hK
        have hB : Below _ _ _ := hL
        have e28 : ac.eval (.tmp 28) = .int .i64 1 := hP 4 (by kernel_rfl)
        have e27 : ac.eval (.tmp 27) = .bool false := hP 3 (by kernel_rfl)
        exact rop_bin _ _ _ _ _ rfl e28 rfl (guard_int _ _ _ _ _ _ _ w') (neq_err1S w') (wanted_of (j := 3) (b := false) rfl rfl e27) (hK _ _ (le8_refl _) rfl)
      · intro ac w' hF hL hP hU K hK
        have hB : Below _ _ _ := hL
        have e27 : ac.eval (.tmp 27) = .bool false := hP 3 (by kernel_rfl)
        have e29 : ac.eval (.tmp 29) = .bool true := hP 5 (by kernel_rfl)
        exact rop_pick _ _ _ rfl false e27 (by simpa using e29) (wanted_none rfl) (hK _ _ (le8_refl _) rfl)
      · intro ac w' hF hB hT
        have e30 : ac.eval (.tmp 30) = .bool true := hT 6 (by decide)
        rw [hF.setsG [24, 25, 26, 27, 28, 29, 30] (by kernel_rfl)]
        simp only [List.foldl_cons, List.foldl_nil, List.setIfInBounds_toArray, List.set_cons_succ, List.set_cons_zero, e30]
        generalize ac.eval (.tmp 24) = u24
        generalize ac.eval (.tmp 25) = u25
        generalize ac.eval (.tmp 26) = u26
        generalize ac.eval (.tmp 27) = u27
        generalize ac.eval (.tmp 28) = u28
        generalize ac.eval (.tmp 29) = u29
        clear e30 hT hF ac
        have HA7 := Blk.old HA6 hB (Blk.lt HA6)
        have HZ7 := Blk.old HZ6 hB (Blk.lt HZ6)
        have hb7 := below_step hb6 (Nat.le_refl _) hB
        clear hB HA6 HZ6 hb6
        clear HA7
        go_wp2_with (first
          | refine wpList_build_at rfl 25 #[] rfl (fzCs fz0).toArray [] rfl (by kernel_rfl) ?_
          | refine wpList_store_mid rfl 25 (.tmp 2) (.tmp 31) rfl r 0 (fzCs fz0).toArray rfl rfl (by rw [List.size_toArray, HL0.out]; exact Blk.there HZ7 (by rw [HL0.out]; decide)) (by rw [List.size_toArray, HL0.out]; exact HIh.out) one_cells ?_)
        try rw [Exit.noGoto_ret]
        have hz := Blk.setAll (n := fzCs fz0) HZ7 rfl
        refine bodyPost_ret (results_ctS (t := 2) (u := 3) (ty := 25) (b := r) rfl _ _ _ rfl (Blk.all hz) Tryd.underlying25 rfl (by rw [HL0.out]; exact HIh.out)) rfl ⟨?_, below_setCells hwr _ _ _ hb7⟩
        rw [HRD.out]
        rfl
  · rw [endV_10 he] at HEN
    replace HRD : Hid (O = none) := Lib.hid (by rw [HRD.out, if_neg (fun h => he h.1)])
    generalize fzZ g = E at *
    generalize fzT g = GT at *
    clear he
    try simp only [Act.put]
    refine wp_region_tab0 [RT.is (.pointer (some ⟨q, 0, none⟩)), RT.is (.int .i64 10), RT.is (.bool true), RT.is (.bool true), RT.is undef, RT.is undef, RT.is (.bool true)] (by kernel_rfl) (by kernel_rfl) (by kernel_rfl) ⟨?_, ?_, ?_, ?_, ?_, ?_, ?_, trivial⟩ ?_
    · intro ac w' hF hL hP hU K hK
      have hB : Below _ _ _ := hL
      have e4 : ac.eval (.tmp 4) = .pointer (some ⟨q, 0, none⟩) := hF.at 4 (by kernel_rfl)
      exact rop_move _ rfl e4 (wanted_none rfl) (hK _ _ (le8_refl _) rfl)
    · intro ac w' hF hL hP hU K hK
      have hB : Below _ _ _ := hL
      have e24 : ac.eval (.tmp 24) = .pointer (some ⟨q, 0, none⟩) := hP 0 (by kernel_rfl)
      refine rop_call 58 _ _ rfl #[.pointer (some ⟨q, 0, none⟩)] (by simp [e24]) (by kernel_rfl) (wanted_none rfl) ?_
      refine (HEN.out w' hB).mono ?_
      rintro e w2 ⟨rfl, hb⟩
      exact ⟨_, rfl, hK _ _ hb rfl⟩
    · intro ac w' hF hL hP hU K hK
      have hB : Below _ _ _ := hL
      have e25 : ac.eval (.tmp 25) = .int .i64 10 := hP 1 (by kernel_rfl)
      exact rop_bin _ _ _ _ _ rfl e25 rfl (guard_int _ _ _ _ _ _ _ w') (neq_err10S w') (wanted_none rfl) (hK _ _ (le8_refl _) rfl)
    · intro ac w' hF hL hP hU K hK
      have hB : Below _ _ _ := hL
      have e26 : ac.eval (.tmp 26) = .bool true := hP 2 (by kernel_rfl)
      exact rop_move _ rfl e26 (wanted_none rfl) (hK _ _ (le8_refl _) rfl)
    · intro ac w' hF hL hP hU K hK
      have hB : Below _ _ _ := hL
      have e27 : ac.eval (.tmp 27) = .bool true := hP 3 (by kernel_rfl)
      exact rop_offG (j := 3) (b := false) rfl rfl e27 (by decide) (hK _ _ (le8_refl _) rfl)
    · intro ac w' hF hL hP hU K hK
      have hB : Below _ _ _ := hL
      have e27 : ac.eval (.tmp 27) = .bool true := hP 3 (by kernel_rfl)
      exact rop_offG (j := 3) (b := false) rfl rfl e27 (by decide) (hK _ _ (le8_refl _) rfl)
    · intro ac w' hF hL hP hU K hK
      have hB : Below _ _ _ := hL
      have e27 : ac.eval (.tmp 27) = .bool true := hP 3 (by kernel_rfl)
      exact rop_pick _ _ _ rfl true e27 (by rfl) (wanted_none rfl) (hK _ _ (le8_refl _) rfl)
    · intro ac w' hF hB hT
      have e30 : ac.eval (.tmp 30) = .bool true := hT 6 (by decide)
      rw [hF.setsG [24, 25, 26, 27, 28, 29, 30] (by kernel_rfl)]
      simp only [List.foldl_cons, List.foldl_nil, List.setIfInBounds_toArray, List.set_cons_succ, List.set_cons_zero, e30]
      generalize ac.eval (.tmp 24) = u24
      generalize ac.eval (.tmp 25) = u25
      generalize ac.eval (.tmp 26) = u26
      generalize ac.eval (.tmp 27) = u27
      generalize ac.eval (.tmp 28) = u28
      generalize ac.eval (.tmp 29) = u29
      clear e30 hT hF ac
      have HA7 := Blk.old HA6 hB (Blk.lt HA6)
      have HZ7 := Blk.old HZ6 hB (Blk.lt HZ6)
      have hb7 := below_step hb6 (Nat.le_refl _) hB
      clear hB HA6 HZ6 hb6
      clear HA7
      go_wp2_with (first
        | refine wpList_build_at rfl 25 #[] rfl (fzCs fz0).toArray [] rfl (by kernel_rfl) ?_
        | refine wpList_store_mid rfl 25 (.tmp 2) (.tmp 31) rfl r 0 (fzCs fz0).toArray rfl rfl (by rw [List.size_toArray, HL0.out]; exact Blk.there HZ7 (by rw [HL0.out]; decide)) (by rw [List.size_toArray, HL0.out]; exact HIh.out) one_cells ?_)
      try rw [Exit.noGoto_ret]
      have hz := Blk.setAll (n := fzCs fz0) HZ7 rfl
      refine bodyPost_ret (results_ctS (t := 2) (u := 3) (ty := 25) (b := r) rfl _ _ _ rfl (Blk.all hz) Tryd.underlying25 rfl (by rw [HL0.out]; exact HIh.out)) rfl ⟨?_, below_setCells hwr _ _ _ hb7⟩
      rw [HRD.out]
      rfl
set_option maxHeartbeats 6400000 in
set_option maxRecDepth 100000 in
theorem rhdRead_any (s : ByteArray) (w : World) (hs : s.size ≤ 1000000000) :
    Calls Tryd.prog 23 #[.string s] w fun e w' => e = .returned (.tuple #[.agg (hdCs ((rhdRd s.data.toList).getD hd0)).toArray, .int .i64 (rdZ (rhdRd s.data.toList))]) ∧ Below w.heap.size w w' := by
  obtain ⟨B, hB⟩ : ∃ B, B = begS 72 s.data.toList := ⟨_, rfl⟩
  obtain ⟨g, hg⟩ : ∃ g, g = hdGet rhV rhS B := ⟨_, rfl⟩
  obtain ⟨O, hO⟩ : ∃ O, O = rhdRd s.data.toList := ⟨_, rfl⟩
  have HRD : Hid (O = if hd4 rhS B = some [] then some g else none) := Lib.hid (by rw [hO, hg, hB]; rfl)
  have HBE : Hid (∀ u : World, Calls Tryd.prog 55 #[.string s, .string ⟨#[72]⟩] u fun e w' => (∃ q, e = .returned (.pointer (some ⟨q, 0, none⟩)) ∧ u.heap.size ≤ q ∧ ∃ S : ByteArray, S.size ≤ 1000000000 ∧ RScn q S B w') ∧ Below u.heap.size u w') := Lib.hid fun u => by
    rw [hB]; exact begin_any 72 s.data.toList u (by rw [← Lib.size_eq]; exact hs)
  rw [← hO]
  obtain ⟨r, hr⟩ : ∃ r, r = w.heap.size := ⟨_, rfl⟩
  obtain ⟨W1, hW1⟩ : ∃ W, W = w.alloc (.cells (hdCs hd0).toArray 27) := ⟨_, rfl⟩
  have b1 : Below w.heap.size w W1 := by rw [hW1]; exact below_boxS _ _
  have h1 : Blk r 27 (hdCs hd0) W1 := by rw [hW1, hr]; exact Blk.alloc _ _ _
  have hwr : w.heap.size ≤ r := by omega
  have HIh : Hid ((Tryd.prog.info? 27).map (·.size) = some 66) := Lib.hid (size_of info_hd)
  have HL0 : Hid ((hdCs hd0).length = 66) := Lib.hid rfl
  have HGG := Lib.hid hg
  have HW1 := Lib.hid hW1
  have HR := Lib.hid hr
  clear hW1 hr hg hB hO hs
  go_enter Tryd.func23, Tryd.ntmps23
  go_upto_region 1 with fail
  change Code.wp _ _ _ _ (w.alloc (.cells (hdCs hd0).toArray 27))
  rw [← HW1.out, ← HR.out]
  clear HW1 HR
  go_upto_region 2 with (go_at_call 55; (refine (HBE.out _).mono ?_; rintro e w1 ⟨⟨q, rfl, hq, S, hS, HS⟩, b2⟩))
  have HZ := Blk.old h1 b2 h1.lt
  have hb := below_step b1 (Nat.le_refl _) b2
  have hrq : r < q := Nat.lt_of_lt_of_le h1.lt hq
  have hqw : w.heap.size ≤ q := by omega
  clear b1 h1 b2 HBE hq
  obtain ⟨n0, hn0⟩ : ∃ n, n = (numV B 1099511627776 : Int) := ⟨_, rfl⟩
  have HNM : Hid (Calls Tryd.prog 56 #[.pointer (some ⟨q, 0, none⟩), .int .i64 1099511627776] w1 fun e w' => e = .returned (.int .i64 n0) ∧ RScn q S (hd1 B) w' ∧ Only q w1 w') := Lib.hid (by rw [hn0]; exact rnum_any q S (B) 1099511627776 _ (by omega) HS (by decide) (by decide))
  have HLn : Hid ((hdCs ⟨n0, z32, 0, z32⟩).toArray.size = 66) := Lib.hid (by rw [List.size_toArray]; exact hdCs_length z32_length z32_length)
  have HBD := Lib.hid (built_hd1 n0)
  have HN0 := Lib.hid hn0
  clear hn0
  go_upto_region 3 with (first
    | (go_at_call 56; (refine HNM.out.mono ?_; rintro e wx ⟨rfl, sx, ox⟩))
    | refine wpList_build_at rfl 27 #[(0, .tmp 9)] rfl (hdCs ⟨n0, z32, 0, z32⟩).toArray [(0, .int .i64 n0)] (by simp [Act.eval]) HBD.out ?_
    | refine wpList_store_mid (w := wx.alloc (.cells (hdCs hd0).toArray 27)) rfl 27 (.tmp 5) (.tmp 10) rfl wx.heap.size 0 (hdCs ⟨n0, z32, 0, z32⟩).toArray rfl rfl (by rw [HLn.out]; exact Blk.there (Blk.alloc wx 27 (hdCs hd0)) (by rw [HL0.out]; decide)) (by rw [HLn.out]; exact HIh.out) one_hd ?_)
  obtain ⟨v, hv⟩ : ∃ v, v = wx.heap.size := ⟨_, rfl⟩
  obtain ⟨WN, hWN⟩ : ∃ u, u = (wx.alloc (.cells (hdCs hd0).toArray 27)).setCells wx.heap.size 0 (hdCs ⟨n0, z32, 0, z32⟩) := ⟨_, rfl⟩
  change Code.wp _ _ _ _ ((wx.alloc (.cells (hdCs hd0).toArray 27)).setCells wx.heap.size 0 (hdCs ⟨n0, z32, 0, z32⟩))
  rw [← hWN, ← hv]
  have bN : Below wx.heap.size wx WN := by rw [hWN]; exact below_setCells (Nat.le_refl _) _ _ _ (below_boxS _ _)
  have hqv : q < v := by rw [hv]; exact sx.lt
  have hvw : w.heap.size ≤ v := by omega
  have HA : HdAt v ⟨n0, z32, 0, z32⟩ WN := by rw [hWN, hv]; exact Blk.setAll (Blk.alloc wx 27 (hdCs hd0)) (by rw [HL0.out, ← List.size_toArray]; exact HLn.out)
  rw [HN0.out] at HA
  clear HNM HLn HBD
  have HSn := sx.old bN sx.lt
  have HZx := Blk.kept HZ ox (by omega)
  have HZn := HZx.old bN HZx.lt
  have hbx := hb.trans (ox.below (B := w.heap.size) hqw hb.size)
  have hbn := below_step hbx (Nat.le_refl _) bN
  clear hWN hv bN sx ox HS HZ HZx hb hbx
  have HS : RScn q S (hd1 B) WN := HSn
  have HZ := HZn
  have hb := hbn
  clear HSn HZn hbn HN0
  -- a field: a hash
  obtain ⟨D, hD⟩ : ∃ D, D = rhV (hd1 B) := ⟨_, rfl⟩
  have HDl : Hid (D.length = 32) := Lib.hid (by rw [hD]; exact rhV_length _)
  have hcD := rhash_any q S (hd1 B) _ (by omega) HS
  rw [← hD] at hcD
  have HCD := Lib.hid hcD
  have HD := Lib.hid hD
  clear hcD hD
  go_upto_region 4 with (first
    | (go_at_call 57; (refine HCD.out.mono ?_; rintro e wx ⟨rfl, sx, ox⟩; have hx := Blk.kept HA ox (by omega)))
    | refine wpList_store_mid rfl 23 (.tmp 13) (.tmp 12) rfl v 1 (D.map u8V).toArray rfl rfl (by rw [List.size_toArray, List.length_map, HDl.out]; exact Blk.there hx (by rw [show (hdCs _).length = 66 from hdCs_length z32_length z32_length]; decide)) (sum_info HDl.out) (sum_one D) ?_)
  obtain ⟨WN, hWN⟩ : ∃ u, u = wx.setCells v 1 (D.map u8V) := ⟨_, rfl⟩
  change Code.wp _ _ _ _ (wx.setCells v 1 (D.map u8V))
  rw [← hWN]
  have oy : Only v wx WN := by rw [hWN]; exact only_setCells _ _ _ (Only.refl v wx)
  have HAn : HdAt v ⟨(numV B 1099511627776 : Int), rhV (hd1 B), 0, z32⟩ WN := by rw [hWN, HD.out]; exact HdAt.setRoot hx _ (by rw [rhV_length]; exact z32_length.symm)
  clear HCD
  have HSn := sx.kept oy (by omega)
  have HZn := Blk.kept (Blk.kept HZ ox (by omega)) oy (by omega)
  have hbx := hb.trans (ox.below (B := w.heap.size) hqw hb.size)
  have hbn := hbx.trans (oy.below (B := w.heap.size) hvw hbx.size)
  clear hWN oy hx sx ox HA HS HZ hb hbx
  have HA := HAn
  have HS : RScn q S (hd2 rhS B) WN := HSn
  have HZ := HZn
  have hb := hbn
  clear HAn HSn HZn hbn HD HDl
  -- a field: a number
  go_upto_region 5 with (go_at_call 56; ((with_reducible refine (rnum_any q S (hd2 rhS B) 1125899906842624 _ (by omega) HS (by decide) (by decide)).mono ?_); rintro e wx ⟨rfl, sx, ox⟩; have hx := Blk.kept HA ox (by omega); have kx := HdAt.clock hx (rhV_length _); have fx := Blk.fz hx 33))
  obtain ⟨WN, hWN⟩ : ∃ u, u = wx.setCell ⟨v, 33, none⟩ (.int .i64 (numV (hd2 rhS B) 1125899906842624 : Int)) := ⟨_, rfl⟩
  rw [← hWN]
  have oy : Only v wx WN := by rw [hWN]; exact (Only.refl v wx).setCell 33 (.int .i64 (numV (hd2 rhS B) 1125899906842624 : Int))
  have HAn : HdAt v ⟨(numV B 1099511627776 : Int), rhV (hd1 B), (numV (hd2 rhS B) 1125899906842624 : Int), z32⟩ WN := by rw [hWN]; exact HdAt.setClock hx (rhV_length _) _
  clear kx fx
  have HSn := sx.kept oy (by omega)
  have HZn := Blk.kept (Blk.kept HZ ox (by omega)) oy (by omega)
  have hbx := hb.trans (ox.below (B := w.heap.size) hqw hb.size)
  have hbn := hbx.trans (oy.below (B := w.heap.size) hvw hbx.size)
  clear hWN oy hx sx ox HA HS HZ hb hbx
  have HA := HAn
  have HS : RScn q S (hd3 rhS B) WN := HSn
  have HZ := HZn
  have hb := hbn
  clear HAn HSn HZn hbn
  -- a field: a hash
  obtain ⟨D, hD⟩ : ∃ D, D = rhV (hd3 rhS B) := ⟨_, rfl⟩
  have HDl : Hid (D.length = 32) := Lib.hid (by rw [hD]; exact rhV_length _)
  have hcD := rhash_any q S (hd3 rhS B) _ (by omega) HS
  rw [← hD] at hcD
  have HCD := Lib.hid hcD
  have HD := Lib.hid hD
  clear hcD hD
  go_upto_region 6 with (first
    | (go_at_call 57; (refine HCD.out.mono ?_; rintro e wx ⟨rfl, sx, ox⟩; have hx := Blk.kept HA ox (by omega)))
    | refine wpList_store_mid rfl 23 (.tmp 19) (.tmp 18) rfl v 34 (D.map u8V).toArray rfl rfl (by rw [List.size_toArray, List.length_map, HDl.out]; exact Blk.there hx (by rw [show (hdCs _).length = 66 from hdCs_length (rhV_length _) z32_length]; decide)) (sum_info HDl.out) (sum_one D) ?_)
  obtain ⟨WN, hWN⟩ : ∃ u, u = wx.setCells v 34 (D.map u8V) := ⟨_, rfl⟩
  change Code.wp _ _ _ _ (wx.setCells v 34 (D.map u8V))
  rw [← hWN]
  have oy : Only v wx WN := by rw [hWN]; exact only_setCells _ _ _ (Only.refl v wx)
  have HAn : HdAt v (hdGet rhV rhS B) WN := by rw [hWN, HD.out]; exact HdAt.setMac hx (rhV_length _) _ (by rw [rhV_length]; exact z32_length.symm)
  clear HCD
  have HSn := sx.kept oy (by omega)
  have HZn := Blk.kept (Blk.kept HZ ox (by omega)) oy (by omega)
  have hbx := hb.trans (ox.below (B := w.heap.size) hqw hb.size)
  have hbn := hbx.trans (oy.below (B := w.heap.size) hvw hbx.size)
  clear hWN oy hx sx ox HA HS HZ hb hbx
  have HA := HAn
  have HS : RScn q S (hd4 rhS B) WN := HSn
  have HZ := HZn
  have hb := hbn
  clear HAn HSn HZn hbn HD HDl
  have HL : Hid ((hdCs g).length = 66) := Lib.hid (by rw [HGG.out]; exact hdCs_length (rhV_length _) (rhV_length _))
  rw [← HGG.out] at HA
  have HA6 := HA
  have HZ6 := HZ
  have HS6 := HS
  have hb6 := hb
  clear HA HZ HS hb
  have HEN : Hid (∀ u : World, Below WN.heap.size WN u → Calls Tryd.prog 58 #[.pointer (some ⟨q, 0, none⟩)] u fun e w' => e = .returned (.int .i64 (endV (hd4 rhS B))) ∧ Below u.heap.size u w') := Lib.hid fun u hu => rend_b q S _ u hS (HS6.old hu HS6.lt)
  clear HS6
  by_cases he : hd4 rhS B = some []
  · rw [endV_0 he] at HEN
    replace HRD : Hid (O = some g) := Lib.hid (by rw [HRD.out, if_pos he])
    clear he
    try simp only [Act.put]
    refine wp_region_tab0 [RT.is (.pointer (some ⟨q, 0, none⟩)), RT.is (.int .i64 0), RT.is (.bool false)] (by kernel_rfl) (by kernel_rfl) (by kernel_rfl) ⟨?_, ?_, ?_, trivial⟩ ?_
    · intro ac w' hF hL hP hU K hK
      have hB : Below _ _ _ := hL
      have e4 : ac.eval (.tmp 4) = .pointer (some ⟨q, 0, none⟩) := hF.at 4 (by kernel_rfl)
      exact rop_move _ rfl e4 (wanted_none rfl) (hK _ _ (le8_refl _) rfl)
    · intro ac w' hF hL hP hU K hK
      have hB : Below _ _ _ := hL
      have e20 : ac.eval (.tmp 20) = .pointer (some ⟨q, 0, none⟩) := hP 0 (by kernel_rfl)
      refine rop_call 58 _ _ rfl #[.pointer (some ⟨q, 0, none⟩)] (by simp [e20]) (by kernel_rfl) (wanted_none rfl) ?_
      refine (HEN.out w' hB).mono ?_
      rintro e w2 ⟨rfl, hb⟩
      exact ⟨_, rfl, hK _ _ hb rfl⟩
    · intro ac w' hF hL hP hU K hK
      have hB : Below _ _ _ := hL
      have e21 : ac.eval (.tmp 21) = .int .i64 0 := hP 1 (by kernel_rfl)
      exact rop_bin _ _ _ _ _ rfl e21 rfl (guard_int _ _ _ _ _ _ _ w') (neq_err0S w') (wanted_none rfl) (hK _ _ (le8_refl _) rfl)
    · intro ac w' hF hB hT
      have e22 : ac.eval (.tmp 22) = .bool false := hT 2 (by decide)
      rw [hF.setsG [20, 21, 22] (by kernel_rfl)]
      simp only [List.foldl_cons, List.foldl_nil, List.setIfInBounds_toArray, List.set_cons_succ, List.set_cons_zero, e22]
      generalize ac.eval (.tmp 20) = u20
      generalize ac.eval (.tmp 21) = u21
      clear e22 hT hF ac
      have HA7 := Blk.old HA6 hB (Blk.lt HA6)
      have HZ7 := Blk.old HZ6 hB (Blk.lt HZ6)
      have hb7 := below_step hb6 (Nat.le_refl _) hB
      clear hB HA6 HZ6 hb6
      go_wp2_with (first
        | refine wpList_load_mid rfl 27 (.tmp 5) rfl v 0 rfl (hdCs g) _ (Blk.all HA7) Tryd.underlying27 rfl (by rw [HL.out]; exact HIh.out) ?_
        | refine wpList_store_mid rfl 27 (.tmp 2) (.tmp 24) rfl r 0 (hdCs g).toArray rfl rfl (by rw [List.size_toArray, HL.out]; exact Blk.there HZ7 (by rw [HL0.out]; decide)) (by rw [List.size_toArray, HL.out]; exact HIh.out) one_hd ?_)
      try rw [Exit.noGoto_ret]
      have hz := Blk.setAll (n := hdCs g) HZ7 (by rw [HL.out]; rfl)
      refine bodyPost_ret (results_ctS (t := 2) (u := 3) (ty := 27) (b := r) rfl _ _ _ rfl (Blk.all hz) Tryd.underlying27 rfl (by rw [HL.out]; exact HIh.out)) rfl ⟨?_, below_setCells hwr _ _ _ hb7⟩
      rw [HRD.out]
      rfl
  · rw [endV_10 he] at HEN
    replace HRD : Hid (O = none) := Lib.hid (by rw [HRD.out, if_neg (fun h => he h)])
    clear he
    try simp only [Act.put]
    refine wp_region_tab0 [RT.is (.pointer (some ⟨q, 0, none⟩)), RT.is (.int .i64 10), RT.is (.bool true)] (by kernel_rfl) (by kernel_rfl) (by kernel_rfl) ⟨?_, ?_, ?_, trivial⟩ ?_
    · intro ac w' hF hL hP hU K hK
      have hB : Below _ _ _ := hL
      have e4 : ac.eval (.tmp 4) = .pointer (some ⟨q, 0, none⟩) := hF.at 4 (by kernel_rfl)
      exact rop_move _ rfl e4 (wanted_none rfl) (hK _ _ (le8_refl _) rfl)
    · intro ac w' hF hL hP hU K hK
      have hB : Below _ _ _ := hL
      have e20 : ac.eval (.tmp 20) = .pointer (some ⟨q, 0, none⟩) := hP 0 (by kernel_rfl)
      refine rop_call 58 _ _ rfl #[.pointer (some ⟨q, 0, none⟩)] (by simp [e20]) (by kernel_rfl) (wanted_none rfl) ?_
      refine (HEN.out w' hB).mono ?_
      rintro e w2 ⟨rfl, hb⟩
      exact ⟨_, rfl, hK _ _ hb rfl⟩
    · intro ac w' hF hL hP hU K hK
      have hB : Below _ _ _ := hL
      have e21 : ac.eval (.tmp 21) = .int .i64 10 := hP 1 (by kernel_rfl)
      exact rop_bin _ _ _ _ _ rfl e21 rfl (guard_int _ _ _ _ _ _ _ w') (neq_err10S w') (wanted_none rfl) (hK _ _ (le8_refl _) rfl)
    · intro ac w' hF hB hT
      have e22 : ac.eval (.tmp 22) = .bool true := hT 2 (by decide)
      rw [hF.setsG [20, 21, 22] (by kernel_rfl)]
      simp only [List.foldl_cons, List.foldl_nil, List.setIfInBounds_toArray, List.set_cons_succ, List.set_cons_zero, e22]
      generalize ac.eval (.tmp 20) = u20
      generalize ac.eval (.tmp 21) = u21
      clear e22 hT hF ac
      have HA7 := Blk.old HA6 hB (Blk.lt HA6)
      have HZ7 := Blk.old HZ6 hB (Blk.lt HZ6)
      have hb7 := below_step hb6 (Nat.le_refl _) hB
      clear hB HA6 HZ6 hb6
      clear HA7
      go_wp2_with (first
        | refine wpList_build_at rfl 27 #[] rfl (hdCs hd0).toArray [] rfl (by kernel_rfl) ?_
        | refine wpList_store_mid rfl 27 (.tmp 2) (.tmp 23) rfl r 0 (hdCs hd0).toArray rfl rfl (by rw [List.size_toArray, HL0.out]; exact Blk.there HZ7 (by rw [HL0.out]; decide)) (by rw [List.size_toArray, HL0.out]; exact HIh.out) one_hd ?_)
      try rw [Exit.noGoto_ret]
      have hz := Blk.setAll (n := hdCs hd0) HZ7 rfl
      refine bodyPost_ret (results_ctS (t := 2) (u := 3) (ty := 27) (b := r) rfl _ _ _ rfl (Blk.all hz) Tryd.underlying27 rfl (by rw [HL0.out]; exact HIh.out)) rfl ⟨?_, below_setCells hwr _ _ _ hb7⟩
      rw [HRD.out]
      rfl
set_option maxHeartbeats 6400000 in
set_option maxRecDepth 100000 in
theorem rstRead_any (s : ByteArray) (w : World) (hs : s.size ≤ 1000000000) :
    Calls Tryd.prog 24 #[.string s] w fun e w' => e = .returned (.tuple #[.agg (stCs ((rstRd s.data.toList).getD st0)).toArray, .int .i64 (rdZ (rstRd s.data.toList))]) ∧ Below w.heap.size w w' := by
  obtain ⟨B, hB⟩ : ∃ B, B = begS 84 s.data.toList := ⟨_, rfl⟩
  obtain ⟨g, hg⟩ : ∃ g, g = stGet 200 rfzRd rhV B := ⟨_, rfl⟩
  obtain ⟨O, hO⟩ : ∃ O, O = rstRd s.data.toList := ⟨_, rfl⟩
  have HRD : Hid (O = if stq3 200 rhS B = some [] ∧ (rfzRd (textV B 200)).isSome = true then some g else none) := Lib.hid (by rw [hO, hg, hB]; rfl)
  have HBE : Hid (∀ u : World, Calls Tryd.prog 55 #[.string s, .string ⟨#[84]⟩] u fun e w' => (∃ q, e = .returned (.pointer (some ⟨q, 0, none⟩)) ∧ u.heap.size ≤ q ∧ ∃ S : ByteArray, S.size ≤ 1000000000 ∧ RScn q S B w') ∧ Below u.heap.size u w') := Lib.hid fun u => by
    rw [hB]; exact begin_any 84 s.data.toList u (by rw [← Lib.size_eq]; exact hs)
  rw [← hO]
  obtain ⟨r, hr⟩ : ∃ r, r = w.heap.size := ⟨_, rfl⟩
  obtain ⟨W1, hW1⟩ : ∃ W, W = w.alloc (.cells (stCs st0).toArray 29) := ⟨_, rfl⟩
  have b1 : Below w.heap.size w W1 := by rw [hW1]; exact below_boxS _ _
  have h1 : Blk r 29 (stCs st0) W1 := by rw [hW1, hr]; exact Blk.alloc _ _ _
  have hwr : w.heap.size ≤ r := by omega
  have HIh : Hid ((Tryd.prog.info? 29).map (·.size) = some 67) := Lib.hid (size_of info_st)
  have HL0 : Hid ((stCs st0).length = 67) := Lib.hid rfl
  have HGG := Lib.hid hg
  have HW1 := Lib.hid hW1
  have HR := Lib.hid hr
  clear hW1 hr hg hB hO hs
  go_enter Tryd.func24, Tryd.ntmps24
  go_upto_region 1 with fail
  change Code.wp _ _ _ _ (w.alloc (.cells (stCs st0).toArray 29))
  rw [← HW1.out, ← HR.out]
  clear HW1 HR
  go_upto_region 2 with (go_at_call 55; (refine (HBE.out _).mono ?_; rintro e w1 ⟨⟨q, rfl, hq, S, hS, HS⟩, b2⟩))
  have HZ := Blk.old h1 b2 h1.lt
  have hb := below_step b1 (Nat.le_refl _) b2
  have hrq : r < q := Nat.lt_of_lt_of_le h1.lt hq
  have hqw : w.heap.size ≤ q := by omega
  clear b1 h1 b2 HBE hq
  -- the freeze
  obtain ⟨T, hT⟩ : ∃ T, T = textV B 200 := ⟨_, rfl⟩
  obtain ⟨G, hG⟩ : ∃ G, G = (rfzRd T).getD fz0 := ⟨_, rfl⟩
  have HGl : Hid (G.root.length = 32) := Lib.hid (by rw [hG]; exact fzGetD_length fun f hf => ((rfzRd_iff _ _).1 hf).2.1)
  have HTX : Hid (Calls Tryd.prog 59 #[.pointer (some ⟨q, 0, none⟩), .int .i64 200] w1 fun e w' => e = .returned (.string (tB T)) ∧ RScn q S (stq1 200 B) w' ∧ Only q w1 w') := Lib.hid (by
    rw [hT]; exact rtext_any q S B 200 w1 (by omega) HS (by decide) (by decide))
  have HRF : Hid (∀ u : World, Calls Tryd.prog 22 #[.string (tB T)] u fun e w' => e = .returned (.tuple #[.agg (fzCs G).toArray, .int .i64 (rdZ (rfzRd T))]) ∧ Below u.heap.size u w') := Lib.hid fun u => by
    rw [hG]
    exact rfzRead_any (tB T) u (by rw [tB_size, hT]; have h5 : (textV B 200).length ≤ 200 := textV_mostN B 200; omega)
  have HG := Lib.hid hG
  have HT := Lib.hid hT
  have HLf : Hid ((fzCs G).toArray.size = 34) := Lib.hid (by rw [List.size_toArray]; exact fzCs_length HGl.out)
  have HIf : Hid ((Tryd.prog.info? 25).map (·.size) = some 34) := Lib.hid (size_of info_fz)
  have HLz : Hid ((fzCs fz0).length = 34) := Lib.hid rfl
  clear hG hT
  go_upto_region 3 with (first
    | (go_at_call 59; (refine HTX.out.mono ?_; rintro e w2 ⟨rfl, s2, o2⟩))
    | (go_at_call 22; (refine (HRF.out _).mono ?_; rintro e w3 ⟨rfl, b3⟩))
    | refine wpList_store_mid (w := w3.alloc (.cells (fzCs fz0).toArray 25)) rfl 25 (.tmp 5) (.tmp 14) rfl w3.heap.size 0 (fzCs G).toArray rfl rfl (by rw [HLf.out]; exact Blk.there (Blk.alloc w3 25 (fzCs fz0)) (by rw [HLz.out]; decide)) (by rw [HLf.out]; exact HIf.out) one_cells ?_)
  obtain ⟨y0, hy0⟩ : ∃ v, v = w3.heap.size := ⟨_, rfl⟩
  obtain ⟨W, hW⟩ : ∃ u, u = (w3.alloc (.cells (fzCs fz0).toArray 25)).setCells w3.heap.size 0 (fzCs G) := ⟨_, rfl⟩
  change Code.wp _ _ _ _ ((w3.alloc (.cells (fzCs fz0).toArray 25)).setCells w3.heap.size 0 (fzCs G))
  rw [← hW, ← hy0]
  have b4 : Below w3.heap.size w3 W := by rw [hW]; exact below_setCells (Nat.le_refl _) _ _ _ (below_boxS _ _)
  have HY : Blk y0 25 (fzCs G) W := by rw [hW, hy0]; exact Blk.setAll (Blk.alloc w3 25 (fzCs fz0)) (by rw [HLz.out, ← List.size_toArray]; exact HLf.out)
  have s3 := s2.old b3 s2.lt
  have HSW : RScn q S (stq1 200 B) W := s3.old b4 s3.lt
  have z2 := Blk.kept HZ o2 (by omega)
  have z3 := z2.old b3 z2.lt
  have HZW := z3.old b4 z3.lt
  have hb2 := hb.trans (o2.below (B := w.heap.size) hqw hb.size)
  have hbW := below_step (below_step hb2 (Nat.le_refl _) b3) (Nat.le_refl _) b4
  have hqy : q < y0 := by rw [hy0]; exact s3.lt
  clear hW hy0 b4 b3 o2 s2 s3 z2 z3 hb2 HS HZ hb HTX HRF HLf HLz
  -- the region that draws its order: an alloc floats beside the call
  obtain ⟨n0, hn0⟩ : ∃ n, n = (numV (stq1 200 B) 1125899906842624 : Int) := ⟨_, rfl⟩
  have HNM : Hid (∀ u : World, RScn q S (stq1 200 B) u → Calls Tryd.prog 56 #[.pointer (some ⟨q, 0, none⟩), .int .i64 1125899906842624] u fun e w' => e = .returned (.int .i64 n0) ∧ RScn q S (stq2 200 B) w' ∧ Only q u w') := Lib.hid fun u hu => by
    rw [hn0]; exact rnum_any q S (stq1 200 B) 1125899906842624 u (by omega) hu (by decide) (by decide)
  have HN0 := Lib.hid hn0
  clear hn0
  obtain ⟨x0, hx0⟩ : ∃ x, x = W.heap.size := ⟨_, rfl⟩
  have hyx : y0 < x0 := by rw [hx0]; exact HY.lt
  obtain ⟨PH, hPH⟩ : ∃ PH : Nat → Act → World → Prop, PH = fun k a u => Below w.heap.size w u ∧ x0 ≤ u.heap.size ∧ Blk y0 25 (fzCs G) u ∧ Blk r 29 (stCs st0) u ∧ (k = 0 → RScn q S (stq1 200 B) u) ∧ (1 ≤ k → RScn q S (stq2 200 B) u) ∧
    ∀ y, a.eval (.tmp 7) = .pointer (some ⟨y, 0, none⟩) → x0 ≤ y ∧ (k < 2 → Blk y 29 (stCs st0) u) ∧ (k = 2 → Blk y 29 (stCs ⟨G, n0, z32⟩) u) := ⟨_, rfl⟩
  have HPO : ∀ (k : Nat) (a : Act) (d : Nat) (v : Value) (u : World), d ≠ 7 → PH k a u → PH k (a.put (some d) v) u := by
    intro k a d v u hd h
    rw [hPH] at h ⊢
    exact ⟨h.1, h.2.1, h.2.2.1, h.2.2.2.1, h.2.2.2.2.1, h.2.2.2.2.2.1, fun y hy => h.2.2.2.2.2.2 y (by rw [eval_put_ne a d 7 v hd] at hy; exact hy)⟩
  have HPN : ∀ (k : Nat) (a : Act) (v : Value) (u : World), PH k a u → PH k (a.put none v) u := fun k a v u h => h
  refine wp_region_pha (Lx := fun _ _ _ _ => True) [RXP.is (.agg (fzCs G).toArray), RXP.is (.pointer (some ⟨q, 0, none⟩)), RXP.is (.int .i64 n0), RXP.is (.agg (stCs ⟨G, n0, z32⟩).toArray), ⟨fun _ v _ => ∃ y, v = .pointer (some ⟨y, 0, none⟩), fun _ _ _ _ _ h _ => h⟩, RXP.any] [2, 5] PH (by kernel_rfl) (by kernel_rfl) (by kernel_rfl) (by kernel_rfl) (by kernel_rfl) ?_ ⟨?_, ?_, ?_, ?_, ?_, ?_, trivial⟩ ?_
  · rw [hPH]
    exact ⟨below_drew hbW, by rw [hx0]; exact Nat.le_refl _, HY.drew, HZW.drew, fun _ => HSW, fun h => absurd h (by decide), fun y hy => absurd hy (by simp [Act.eval, undef])⟩
  · intro ac w' ph hF hPh hlt hP hU K hK0
    have e5 : ac.eval (.tmp 5) = .pointer (some ⟨y0, 0, none⟩) := hF.at 5 (by kernel_rfl)
    have hy : Blk y0 25 (fzCs G) w' := by rw [hPH] at hPh; exact hPh.2.2.1
    exact rop_ld _ _ rfl e5 (load_fzAt (Blk.all hy) HGl.out) (wanted_none rfl) (hK0 _ _ trivial (HPO _ _ 16 _ _ (by decide) hPh) rfl)
  · intro ac w' ph hF hPh hlt hP hU K hK0
    have e4 : ac.eval (.tmp 4) = .pointer (some ⟨q, 0, none⟩) := hF.at 4 (by kernel_rfl)
    exact rop_move _ rfl e4 (wanted_none rfl) (hK0 _ _ trivial (HPO _ _ 17 _ _ (by decide) hPh) rfl)
  · intro ac w' ph hF hPh hlt hP hU K hK0
    obtain rfl : ph = 0 := (hlt 0 2 rfl).1 rfl
    have e17 : ac.eval (.tmp 17) = .pointer (some ⟨q, 0, none⟩) := hP 1 (by kernel_rfl)
    have hp := hPh
    rw [hPH] at hp
    obtain ⟨p1, p2, p3, p4, p5, p6, p7⟩ := hp
    refine rop_call 56 _ _ rfl #[.pointer (some ⟨q, 0, none⟩), .int .i64 1125899906842624] (by simp [e17, eval_const]) (by kernel_rfl) (wanted_none rfl) ?_
    refine (HNM.out w' (p5 rfl)).mono ?_
    rintro e w2 ⟨rfl, sx, ox⟩
    refine ⟨_, rfl, hK0 _ _ trivial (HPO 1 ac 18 _ _ (by decide) ?_) rfl⟩
    rw [hPH]
    exact ⟨p1.trans (ox.below (B := w.heap.size) hqw p1.size), Nat.le_trans p2 ox.size, Blk.kept p3 ox (by omega), Blk.kept p4 ox (by omega), fun h => absurd h (by decide), fun _ => sx, fun y hy => ⟨(p7 y hy).1, fun _ => Blk.kept ((p7 y hy).2.1 (by decide)) ox (by have := (p7 y hy).1; omega), fun h => absurd h (by decide)⟩⟩
  · intro ac w' ph hF hPh hlt hP hU K hK0
    have e16 : ac.eval (.tmp 16) = .agg (fzCs G).toArray := hP 0 (by kernel_rfl)
    have e18 : ac.eval (.tmp 18) = .int .i64 n0 := hP 2 (by kernel_rfl)
    exact rop_buildS _ _ rfl [(0, .agg (fzCs G).toArray), (1, .int .i64 n0)] (by simp [e16, e18]) (built_st2 G n0 HGl.out) (wanted_none rfl) (hK0 _ _ trivial (HPO _ _ 19 _ _ (by decide) hPh) rfl)
  · intro ac w' ph hF hPh hlt hP hU K hK0
    have hp := hPh
    rw [hPH] at hp
    obtain ⟨p1, p2, p3, p4, p5, p6, p7⟩ := hp
    have hb : Below w'.heap.size w' (w'.alloc (.cells (stCs st0).toArray 29)) := below_boxS _ _
    have hph : ph ≤ 1 := (hlt 1 5 rfl).2 (by kernel_rfl)
    refine rop_allocS _ rfl (alloc_st w') (wanted_none rfl) (hK0 _ _ trivial ?_ ⟨_, rfl⟩)
    show PH ph (ac.put (some 7) _) _
    rw [hPH]
    refine ⟨below_step p1 (Nat.le_refl _) hb, Nat.le_trans p2 hb.size, p3.old hb p3.lt, p4.old hb p4.lt, fun h => (p5 h).old hb (p5 h).lt, fun h => (p6 h).old hb (p6 h).lt, fun y hy => ?_⟩
    rw [eval_put_eq ac 7 _ (by rw [hF.size]; exact of_decide_eq_true (by kernel_rfl))] at hy
    obtain rfl := ptr_inj hy
    exact ⟨p2, fun _ => Blk.alloc _ _ _, fun h => absurd h (by omega)⟩
  · intro ac w' ph hF hPh hlt hP hU K hK0
    obtain rfl : ph = 1 := (hlt 1 5 rfl).1 rfl
    obtain ⟨y, e7⟩ : ∃ y, ac.eval (.tmp 7) = .pointer (some ⟨y, 0, none⟩) := hP 4 (by kernel_rfl)
    have e19 : ac.eval (.tmp 19) = .agg (stCs ⟨G, n0, z32⟩).toArray := hP 3 (by kernel_rfl)
    have hp := hPh
    rw [hPH] at hp
    obtain ⟨p1, p2, p3, p4, p5, p6, p7⟩ := hp
    have hy := (p7 y e7).2.1 (by decide)
    have hxy := (p7 y e7).1
    have hl : (stCs ⟨G, n0, z32⟩).length = 67 := stCs_length HGl.out z32_length
    have oy : Only y w' (w'.setCells y 0 (stCs ⟨G, n0, z32⟩)) := only_setCells _ _ _ (Only.refl y w')
    refine rop_storeG _ _ _ rfl e7 e19 (store_stS (hy.there (by rw [HL0.out]; decide)) HGl.out z32_length) (wanted_none rfl) (hK0 _ _ trivial ?_ trivial)
    show PH 2 (ac.put none _) _
    refine HPN 2 ac _ _ ?_
    rw [hPH]
    refine ⟨p1.trans (oy.below (B := w.heap.size) (by omega) p1.size), Nat.le_trans p2 oy.size, Blk.kept p3 oy (by omega), Blk.kept p4 oy (by have := p4.lt; omega), fun h => absurd h (by decide), fun _ => (p6 (by decide)).kept oy (by omega), fun z hz => ?_⟩
    rw [e7] at hz
    obtain rfl := ptr_inj hz
    exact ⟨hxy, fun h => absurd h (by decide), fun _ => Blk.setAll hy (by rw [hl]; exact HL0.out.symm)⟩
  · intro ac w' hF hPh hT
    obtain ⟨v, e7⟩ : ∃ y, ac.eval (.tmp 7) = .pointer (some ⟨y, 0, none⟩) := hT 4 (by decide)
    rw [hPH] at hPh
    obtain ⟨hb, p2, -, HZ, -, p6, p7⟩ := hPh
    have HS : RScn q S (stq2 200 B) w' := p6 (by decide)
    have hxv := (p7 v e7).1
    have HA : StAt v ⟨G, n0, z32⟩ w' := (p7 v e7).2.2 rfl
    rw [hF.setsG [16, 17, 18, 19, 7] (by kernel_rfl)]
    simp only [List.foldl_cons, List.foldl_nil, List.setIfInBounds_toArray, List.set_cons_succ, List.set_cons_zero, e7]
    generalize ac.eval (.tmp 16) = u16
    generalize ac.eval (.tmp 17) = u17
    generalize ac.eval (.tmp 18) = u18
    generalize ac.eval (.tmp 19) = u19
    have hqv : q < v := by omega
    have hvw : w.heap.size ≤ v := by omega
    have hrv : r < v := by omega
    rw [HN0.out] at HA
    clear e7 hT hF ac p2 p6 p7 hPH HPO HPN HNM HY HSW HZW hbW hx0 hxv
    -- a field: a hash
    obtain ⟨D, hD⟩ : ∃ D, D = rhV (stq2 200 B) := ⟨_, rfl⟩
    have HDl : Hid (D.length = 32) := Lib.hid (by rw [hD]; exact rhV_length _)
    have hcD := rhash_any q S (stq2 200 B) _ (by omega) HS
    rw [← hD] at hcD
    have HCD := Lib.hid hcD
    have HD := Lib.hid hD
    clear hcD hD
    go_upto_region 5 with (first
      | (go_at_call 57; (refine HCD.out.mono ?_; rintro e wx ⟨rfl, sx, ox⟩; have hx := Blk.kept HA ox (by omega)))
      | refine wpList_store_mid rfl 23 (.tmp 22) (.tmp 21) rfl v 35 (D.map u8V).toArray rfl rfl (by rw [List.size_toArray, List.length_map, HDl.out]; exact Blk.there hx (by rw [show (stCs _).length = 67 from stCs_length HGl.out z32_length]; decide)) (sum_info HDl.out) (sum_one D) ?_)
    obtain ⟨WN, hWN⟩ : ∃ u, u = wx.setCells v 35 (D.map u8V) := ⟨_, rfl⟩
    change Code.wp _ _ _ _ (wx.setCells v 35 (D.map u8V))
    rw [← hWN]
    have oy : Only v wx WN := by rw [hWN]; exact only_setCells _ _ _ (Only.refl v wx)
    have HAn : StAt v (stGet 200 rfzRd rhV B) WN := by rw [hWN, HD.out]; exact (by have := StAt.setMac hx HGl.out (rhV (stq2 200 B)) (by rw [rhV_length]; exact z32_length.symm); rw [show stGet 200 rfzRd rhV B = ⟨G, (numV (stq1 200 B) 1125899906842624 : Int), rhV (stq2 200 B)⟩ by rw [HG.out, HT.out]; rfl]; exact this)
    clear HCD
    have HSn := sx.kept oy (by omega)
    have HZn := Blk.kept (Blk.kept HZ ox (by omega)) oy (by omega)
    have hbx := hb.trans (ox.below (B := w.heap.size) hqw hb.size)
    have hbn := hbx.trans (oy.below (B := w.heap.size) hvw hbx.size)
    clear hWN oy hx sx ox HA HS HZ hb hbx
    have HA := HAn
    have HS : RScn q S (stq3 200 rhS B) WN := HSn
    have HZ := HZn
    have hb := hbn
    clear HAn HSn HZn hbn HD HDl
    rw [HT.out]
    have HL : Hid ((stCs g).length = 67) := Lib.hid (by rw [HGG.out]; exact stCs_length (fzGetD_length fun f hf => ((rfzRd_iff _ _).1 hf).2.1) (rhV_length _))
    rw [← HGG.out] at HA
    have HA6 := HA
    have HZ6 := HZ
    have HS6 := HS
    have hb6 := hb
    clear HA HZ HS hb
    have HEN : Hid (∀ u : World, Below WN.heap.size WN u → Calls Tryd.prog 58 #[.pointer (some ⟨q, 0, none⟩)] u fun e w' => e = .returned (.int .i64 (endV (stq3 200 rhS B))) ∧ Below u.heap.size u w') := Lib.hid fun u hu => rend_b q S _ u hS (HS6.old hu HS6.lt)
    clear HS6
    by_cases he : stq3 200 rhS B = some []
    · rw [endV_0 he] at HEN
      by_cases hz : (rfzRd (textV B 200)).isSome = true
      · have ez : rdZ (rfzRd (textV B 200)) = 0 := if_pos hz
        replace HRD : Hid (O = some g) := Lib.hid (by rw [HRD.out, if_pos ⟨he, hz⟩])
        rw [ez]
        clear he hz ez
        try simp only [Act.put]
        refine wp_region_tab0 [RT.is (.pointer (some ⟨q, 0, none⟩)), RT.is (.int .i64 0), RT.is (.bool false), RT.is (.bool false), RT.is (.int .i64 0), RT.is (.bool false), RT.is (.bool false)] (by kernel_rfl) (by kernel_rfl) (by kernel_rfl) ⟨?_, ?_, ?_, ?_, ?_, ?_, ?_, trivial⟩ ?_
        · intro ac w' hF hL hP hU K hK
          have hB : Below _ _ _ := hL
          have e4 : ac.eval (.tmp 4) = .pointer (some ⟨q, 0, none⟩) := hF.at 4 (by kernel_rfl)
          exact rop_move _ rfl e4 (wanted_none rfl) (hK _ _ (le8_refl _) rfl)
        · intro ac w' hF hL hP hU K hK
          have hB : Below _ _ _ := hL
          have e23 : ac.eval (.tmp 23) = .pointer (some ⟨q, 0, none⟩) := hP 0 (by kernel_rfl)
          refine rop_call 58 _ _ rfl #[.pointer (some ⟨q, 0, none⟩)] (by simp [e23]) (by kernel_rfl) (wanted_none rfl) ?_
          refine (HEN.out w' hB).mono ?_
          rintro e w2 ⟨rfl, hb⟩
          exact ⟨_, rfl, hK _ _ hb rfl⟩
        · intro ac w' hF hL hP hU K hK
          have hB : Below _ _ _ := hL
          have e24 : ac.eval (.tmp 24) = .int .i64 0 := hP 1 (by kernel_rfl)
          exact rop_bin _ _ _ _ _ rfl e24 rfl (guard_int _ _ _ _ _ _ _ w') (neq_err0S w') (wanted_none rfl) (hK _ _ (le8_refl _) rfl)
        · intro ac w' hF hL hP hU K hK
          have hB : Below _ _ _ := hL
          have e25 : ac.eval (.tmp 25) = .bool false := hP 2 (by kernel_rfl)
          exact rop_move _ rfl e25 (wanted_none rfl) (hK _ _ (le8_refl _) rfl)
        · intro ac w' hF hL hP hU K hK
          have hB : Below _ _ _ := hL
          have e6 : ac.eval (.tmp 6) = .int .i64 0 := hF.at 6 (by kernel_rfl)
          have e26 : ac.eval (.tmp 26) = .bool false := hP 3 (by kernel_rfl)
          exact rop_move _ rfl e6 (wanted_of (j := 3) (b := false) rfl rfl e26) (hK _ _ (le8_refl _) rfl)
        · intro ac w' hF hL hP hU K hK
          have hB : Below _ _ _ := hL
          have e27 : ac.eval (.tmp 27) = .int .i64 0 := hP 4 (by kernel_rfl)
          have e26 : ac.eval (.tmp 26) = .bool false := hP 3 (by kernel_rfl)
          exact rop_bin _ _ _ _ _ rfl e27 rfl (guard_int _ _ _ _ _ _ _ w') (neq_err0S w') (wanted_of (j := 3) (b := false) rfl rfl e26) (hK _ _ (le8_refl _) rfl)
        · intro ac w' hF hL hP hU K hK
          have hB : Below _ _ _ := hL
          have e26 : ac.eval (.tmp 26) = .bool false := hP 3 (by kernel_rfl)
          have e28 : ac.eval (.tmp 28) = .bool false := hP 5 (by kernel_rfl)
          exact rop_pick _ _ _ rfl false e26 (by simpa using e28) (wanted_none rfl) (hK _ _ (le8_refl _) rfl)
        · intro ac w' hF hB hT
          have e29 : ac.eval (.tmp 29) = .bool false := hT 6 (by decide)
          rw [hF.setsG [23, 24, 25, 26, 27, 28, 29] (by kernel_rfl)]
          simp only [List.foldl_cons, List.foldl_nil, List.setIfInBounds_toArray, List.set_cons_succ, List.set_cons_zero, e29]
          generalize ac.eval (.tmp 23) = u23
          generalize ac.eval (.tmp 24) = u24
          generalize ac.eval (.tmp 25) = u25
          generalize ac.eval (.tmp 26) = u26
          generalize ac.eval (.tmp 27) = u27
          generalize ac.eval (.tmp 28) = u28
          clear e29 hT hF ac
          have HA7 := Blk.old HA6 hB (Blk.lt HA6)
          have HZ7 := Blk.old HZ6 hB (Blk.lt HZ6)
          have hb7 := below_step hb6 (Nat.le_refl _) hB
          clear hB HA6 HZ6 hb6
          go_wp2_with (first
            | refine wpList_load_mid rfl 29 (.tmp 7) rfl v 0 rfl (stCs g) _ (Blk.all HA7) Tryd.underlying29 rfl (by rw [HL.out]; exact HIh.out) ?_
            | refine wpList_store_mid rfl 29 (.tmp 2) (.tmp 31) rfl r 0 (stCs g).toArray rfl rfl (by rw [List.size_toArray, HL.out]; exact Blk.there HZ7 (by rw [HL0.out]; decide)) (by rw [List.size_toArray, HL.out]; exact HIh.out) one_st ?_)
          try rw [Exit.noGoto_ret]
          have hz := Blk.setAll (n := stCs g) HZ7 (by rw [HL.out]; rfl)
          refine bodyPost_ret (results_ctS (t := 2) (u := 3) (ty := 29) (b := r) rfl _ _ _ rfl (Blk.all hz) Tryd.underlying29 rfl (by rw [HL.out]; exact HIh.out)) rfl ⟨?_, below_setCells hwr _ _ _ hb7⟩
          rw [HRD.out]
          rfl
      · have ez : rdZ (rfzRd (textV B 200)) = 10 := if_neg hz
        replace HRD : Hid (O = none) := Lib.hid (by rw [HRD.out, if_neg (fun h => hz h.2)])
        rw [ez]
        clear he hz ez
        try simp only [Act.put]
        refine wp_region_tab0 [RT.is (.pointer (some ⟨q, 0, none⟩)), RT.is (.int .i64 0), RT.is (.bool false), RT.is (.bool false), RT.is (.int .i64 10), RT.is (.bool true), RT.is (.bool true)] (by kernel_rfl) (by kernel_rfl) (by kernel_rfl) ⟨?_, ?_, ?_, ?_, ?_, ?_, ?_, trivial⟩ ?_
        · intro ac w' hF hL hP hU K hK
          have hB : Below _ _ _ := hL
          have e4 : ac.eval (.tmp 4) = .pointer (some ⟨q, 0, none⟩) := hF.at 4 (by kernel_rfl)
          exact rop_move _ rfl e4 (wanted_none rfl) (hK _ _ (le8_refl _) rfl)
        · intro ac w' hF hL hP hU K hK
          have hB : Below _ _ _ := hL
          have e23 : ac.eval (.tmp 23) = .pointer (some ⟨q, 0, none⟩) := hP 0 (by kernel_rfl)
          refine rop_call 58 _ _ rfl #[.pointer (some ⟨q, 0, none⟩)] (by simp [e23]) (by kernel_rfl) (wanted_none rfl) ?_
          refine (HEN.out w' hB).mono ?_
          rintro e w2 ⟨rfl, hb⟩
          exact ⟨_, rfl, hK _ _ hb rfl⟩
        · intro ac w' hF hL hP hU K hK
          have hB : Below _ _ _ := hL
          have e24 : ac.eval (.tmp 24) = .int .i64 0 := hP 1 (by kernel_rfl)
          exact rop_bin _ _ _ _ _ rfl e24 rfl (guard_int _ _ _ _ _ _ _ w') (neq_err0S w') (wanted_none rfl) (hK _ _ (le8_refl _) rfl)
        · intro ac w' hF hL hP hU K hK
          have hB : Below _ _ _ := hL
          have e25 : ac.eval (.tmp 25) = .bool false := hP 2 (by kernel_rfl)
          exact rop_move _ rfl e25 (wanted_none rfl) (hK _ _ (le8_refl _) rfl)
        · intro ac w' hF hL hP hU K hK
          have hB : Below _ _ _ := hL
          have e6 : ac.eval (.tmp 6) = .int .i64 10 := hF.at 6 (by kernel_rfl)
          have e26 : ac.eval (.tmp 26) = .bool false := hP 3 (by kernel_rfl)
          exact rop_move _ rfl e6 (wanted_of (j := 3) (b := false) rfl rfl e26) (hK _ _ (le8_refl _) rfl)
        · intro ac w' hF hL hP hU K hK
          have hB : Below _ _ _ := hL
          have e27 : ac.eval (.tmp 27) = .int .i64 10 := hP 4 (by kernel_rfl)
          have e26 : ac.eval (.tmp 26) = .bool false := hP 3 (by kernel_rfl)
          exact rop_bin _ _ _ _ _ rfl e27 rfl (guard_int _ _ _ _ _ _ _ w') (neq_err10S w') (wanted_of (j := 3) (b := false) rfl rfl e26) (hK _ _ (le8_refl _) rfl)
        · intro ac w' hF hL hP hU K hK
          have hB : Below _ _ _ := hL
          have e26 : ac.eval (.tmp 26) = .bool false := hP 3 (by kernel_rfl)
          have e28 : ac.eval (.tmp 28) = .bool true := hP 5 (by kernel_rfl)
          exact rop_pick _ _ _ rfl false e26 (by simpa using e28) (wanted_none rfl) (hK _ _ (le8_refl _) rfl)
        · intro ac w' hF hB hT
          have e29 : ac.eval (.tmp 29) = .bool true := hT 6 (by decide)
          rw [hF.setsG [23, 24, 25, 26, 27, 28, 29] (by kernel_rfl)]
          simp only [List.foldl_cons, List.foldl_nil, List.setIfInBounds_toArray, List.set_cons_succ, List.set_cons_zero, e29]
          generalize ac.eval (.tmp 23) = u23
          generalize ac.eval (.tmp 24) = u24
          generalize ac.eval (.tmp 25) = u25
          generalize ac.eval (.tmp 26) = u26
          generalize ac.eval (.tmp 27) = u27
          generalize ac.eval (.tmp 28) = u28
          clear e29 hT hF ac
          have HA7 := Blk.old HA6 hB (Blk.lt HA6)
          have HZ7 := Blk.old HZ6 hB (Blk.lt HZ6)
          have hb7 := below_step hb6 (Nat.le_refl _) hB
          clear hB HA6 HZ6 hb6
          clear HA7
          go_wp2_with (first
            | refine wpList_build_at rfl 29 #[] rfl (stCs st0).toArray [] rfl (by kernel_rfl) ?_
            | refine wpList_store_mid rfl 29 (.tmp 2) (.tmp 30) rfl r 0 (stCs st0).toArray rfl rfl (by rw [List.size_toArray, HL0.out]; exact Blk.there HZ7 (by rw [HL0.out]; decide)) (by rw [List.size_toArray, HL0.out]; exact HIh.out) one_st ?_)
          try rw [Exit.noGoto_ret]
          have hz := Blk.setAll (n := stCs st0) HZ7 rfl
          refine bodyPost_ret (results_ctS (t := 2) (u := 3) (ty := 29) (b := r) rfl _ _ _ rfl (Blk.all hz) Tryd.underlying29 rfl (by rw [HL0.out]; exact HIh.out)) rfl ⟨?_, below_setCells hwr _ _ _ hb7⟩
          rw [HRD.out]
          rfl
    · rw [endV_10 he] at HEN
      replace HRD : Hid (O = none) := Lib.hid (by rw [HRD.out, if_neg (fun h => he h.1)])
      generalize rdZ (rfzRd (textV B 200)) = E at *
      clear he
      try simp only [Act.put]
      refine wp_region_tab0 [RT.is (.pointer (some ⟨q, 0, none⟩)), RT.is (.int .i64 10), RT.is (.bool true), RT.is (.bool true), RT.is undef, RT.is undef, RT.is (.bool true)] (by kernel_rfl) (by kernel_rfl) (by kernel_rfl) ⟨?_, ?_, ?_, ?_, ?_, ?_, ?_, trivial⟩ ?_
      · intro ac w' hF hL hP hU K hK
        have hB : Below _ _ _ := hL
        have e4 : ac.eval (.tmp 4) = .pointer (some ⟨q, 0, none⟩) := hF.at 4 (by kernel_rfl)
        exact rop_move _ rfl e4 (wanted_none rfl) (hK _ _ (le8_refl _) rfl)
      · intro ac w' hF hL hP hU K hK
        have hB : Below _ _ _ := hL
        have e23 : ac.eval (.tmp 23) = .pointer (some ⟨q, 0, none⟩) := hP 0 (by kernel_rfl)
        refine rop_call 58 _ _ rfl #[.pointer (some ⟨q, 0, none⟩)] (by simp [e23]) (by kernel_rfl) (wanted_none rfl) ?_
        refine (HEN.out w' hB).mono ?_
        rintro e w2 ⟨rfl, hb⟩
        exact ⟨_, rfl, hK _ _ hb rfl⟩
      · intro ac w' hF hL hP hU K hK
        have hB : Below _ _ _ := hL
        have e24 : ac.eval (.tmp 24) = .int .i64 10 := hP 1 (by kernel_rfl)
        exact rop_bin _ _ _ _ _ rfl e24 rfl (guard_int _ _ _ _ _ _ _ w') (neq_err10S w') (wanted_none rfl) (hK _ _ (le8_refl _) rfl)
      · intro ac w' hF hL hP hU K hK
        have hB : Below _ _ _ := hL
        have e25 : ac.eval (.tmp 25) = .bool true := hP 2 (by kernel_rfl)
        exact rop_move _ rfl e25 (wanted_none rfl) (hK _ _ (le8_refl _) rfl)
      · intro ac w' hF hL hP hU K hK
        have hB : Below _ _ _ := hL
        have e26 : ac.eval (.tmp 26) = .bool true := hP 3 (by kernel_rfl)
        exact rop_offG (j := 3) (b := false) rfl rfl e26 (by decide) (hK _ _ (le8_refl _) rfl)
      · intro ac w' hF hL hP hU K hK
        have hB : Below _ _ _ := hL
        have e26 : ac.eval (.tmp 26) = .bool true := hP 3 (by kernel_rfl)
        exact rop_offG (j := 3) (b := false) rfl rfl e26 (by decide) (hK _ _ (le8_refl _) rfl)
      · intro ac w' hF hL hP hU K hK
        have hB : Below _ _ _ := hL
        have e26 : ac.eval (.tmp 26) = .bool true := hP 3 (by kernel_rfl)
        exact rop_pick _ _ _ rfl true e26 (by rfl) (wanted_none rfl) (hK _ _ (le8_refl _) rfl)
      · intro ac w' hF hB hT
        have e29 : ac.eval (.tmp 29) = .bool true := hT 6 (by decide)
        rw [hF.setsG [23, 24, 25, 26, 27, 28, 29] (by kernel_rfl)]
        simp only [List.foldl_cons, List.foldl_nil, List.setIfInBounds_toArray, List.set_cons_succ, List.set_cons_zero, e29]
        generalize ac.eval (.tmp 23) = u23
        generalize ac.eval (.tmp 24) = u24
        generalize ac.eval (.tmp 25) = u25
        generalize ac.eval (.tmp 26) = u26
        generalize ac.eval (.tmp 27) = u27
        generalize ac.eval (.tmp 28) = u28
        clear e29 hT hF ac
        have HA7 := Blk.old HA6 hB (Blk.lt HA6)
        have HZ7 := Blk.old HZ6 hB (Blk.lt HZ6)
        have hb7 := below_step hb6 (Nat.le_refl _) hB
        clear hB HA6 HZ6 hb6
        clear HA7
        go_wp2_with (first
          | refine wpList_build_at rfl 29 #[] rfl (stCs st0).toArray [] rfl (by kernel_rfl) ?_
          | refine wpList_store_mid rfl 29 (.tmp 2) (.tmp 30) rfl r 0 (stCs st0).toArray rfl rfl (by rw [List.size_toArray, HL0.out]; exact Blk.there HZ7 (by rw [HL0.out]; decide)) (by rw [List.size_toArray, HL0.out]; exact HIh.out) one_st ?_)
        try rw [Exit.noGoto_ret]
        have hz := Blk.setAll (n := stCs st0) HZ7 rfl
        refine bodyPost_ret (results_ctS (t := 2) (u := 3) (ty := 29) (b := r) rfl _ _ _ rfl (Blk.all hz) Tryd.underlying29 rfl (by rw [HL0.out]; exact HIh.out)) rfl ⟨?_, below_setCells hwr _ _ _ hb7⟩
        rw [HRD.out]
        rfl

end Go.Proofs.YtlcljjapeigaeaaDoor
