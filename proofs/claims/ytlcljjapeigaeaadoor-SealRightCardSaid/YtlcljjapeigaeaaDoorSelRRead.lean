/-
  The document's own answers for layer 16: what bytes are read as.
-/
import Derived.Test.YtlcljjapeigaeaaDoorSelRead
import Derived.Test.YtlcljjapeigaeaaDoorSelRef
import Derived.Test.YtlcljjapeigaeaaDoorMOct
import Derived.Test.YtlcljjapeigaeaaDoorRegPhA
namespace Go.Proofs.YtlcljjapeigaeaaDoor
open Go.RowKit

theorem wpList_index_runS {ops : Array Oper} {rest : List Oper} {o : Oper} {a : Act} {w : World} {Q : Exit → Act → World → Prop} (hg : o.guard = none) (t : TypeId) (x y : Operand) (hop : o.op = .index t x y) {u v r : Value} (hx : a.eval x = u) (hy : a.eval y = v)
    (hr : (Instr.index t u v).run Tryd.prog w = .ok r w) (h : wpList Tryd.prog ops Q rest (a.put o.dst r) w) : wpList Tryd.prog ops Q (o :: rest) a w := by
  refine wpList_plain hg fun K hK => ?_
  unfold Oper.wp
  simp [execOp, hop, hx, hy, hr]
  exact hK _ _ h
/-- Ahead of byte i of the hash that is read. -/
def HashRel (q r h : Nat) (S : ByteArray) (st : Option (List UInt8)) (T : List UInt8) (w : World) (si : Value) (wr : World) : Prop :=
  ∃ i : Nat, i ≤ 32 ∧ si = .int .i64 i ∧ Blk h 23 ((T.take i ++ List.replicate (32 - i) 0).map u8V) wr ∧ Blk r 23 (z32.map u8V) wr ∧ RScn q S st wr ∧ Only q w wr
set_option maxHeartbeats 3200000 in
set_option maxRecDepth 100000 in
theorem rhash_any (q : Nat) (S : ByteArray) (st : Option (List UInt8)) (w : World) (hS : S.size ≤ 1099511627776) (hq : RScn q S st w) :
    Calls Tryd.prog 57 #[.pointer (some ⟨q, 0, none⟩)] w fun e w' => e = .returned (sumV (rhV st)) ∧ RScn q S (rhS st) w' ∧ Only q w w' := by
  obtain ⟨T, hT⟩ : ∃ T, T = textV st 32 := ⟨_, rfl⟩
  obtain ⟨s2, hs2⟩ : ∃ x, x = textS st 32 := ⟨_, rfl⟩
  have HTX : Hid (∀ u : World, RScn q S st u → Calls Tryd.prog 59 #[.pointer (some ⟨q, 0, none⟩), .int .i64 32] u fun e w' => e = .returned (.string (tB T)) ∧ RScn q S s2 w' ∧ Only q u w') := Lib.hid fun u hu => by
    rw [hT, hs2]; exact rtext_any q S st 32 u hS hu (by decide) (by decide)
  have hV : rhV st = if T.length = 32 then T else z32 := by rw [hT]; rfl
  have hZ : rhS st = if T.length = 32 then s2 else none := by rw [hT, hs2]; rfl
  rw [hV, hZ]
  obtain ⟨r, hr⟩ : ∃ r, r = w.heap.size := ⟨_, rfl⟩
  obtain ⟨W1, hW1⟩ : ∃ W, W = w.alloc (.cells (z32.map u8V).toArray 23) := ⟨_, rfl⟩
  have hqr : q < r := by rw [hr]; exact hq.lt
  have hz1 : Blk r 23 (z32.map u8V) W1 := by rw [hW1, hr]; exact Blk.alloc _ _ _
  have ho1 : Only q w W1 := by rw [hW1]; exact only_box (Only.refl _ _) _
  have HS1 : RScn q S st W1 := hq.old (by rw [hW1]; exact below_boxS _ _) hq.lt
  have hwr : w.heap.size ≤ r := by omega
  have HW1 := Lib.hid hW1
  have HR := Lib.hid hr
  clear hT hs2 hV hZ hW1 hr hq
  have hsz : (tB T).size = T.length := tB_size T
  by_cases hl : T.length = 32
  · rw [if_pos hl, if_pos hl]
    rw [hl] at hsz
    have hix : ∀ (i : Nat), i < 32 → ∀ u : World, (Instr.index 9 (.string (tB T)) (.int .i64 (i : Int))).run Tryd.prog u = .ok (.int .u8 ((T.getD i 0).toNat : Int)) u := fun i hi u =>
      index_str (tB T) i _ rfl (by rw [hsz]; exact hi) (T.getD i 0) (by
        rw [List.getD_eq_getElem?_getD, List.getElem?_eq_getElem (by omega)]; rfl) u
    have HIX := Lib.hid hix
    have HL := Lib.hid hl
    generalize tB T = X at *
    clear hix hl
    go_enter Tryd.func57, Tryd.ntmps57
    go_upto_region 1 with fail
    change Code.wp _ _ _ _ (w.alloc (.cells (z32.map u8V).toArray 23))
    rw [← HW1.out, ← HR.out]
    clear HW1 HR
    go_upto_region 2 with (go_at_call 59; (refine (HTX.out _ HS1).mono ?_; rintro e w5 ⟨rfl, s5, o5⟩))
    go_upto_region 3 with fail
    obtain ⟨h, hh⟩ : ∃ h, h = w5.heap.size := ⟨_, rfl⟩
    obtain ⟨W6, hW6⟩ : ∃ W, W = w5.alloc (.cells (z32.map u8V).toArray 23) := ⟨_, rfl⟩
    change Code.wp _ _ _ _ (w5.alloc (.cells (z32.map u8V).toArray 23))
    rw [← hW6, ← hh]
    have z5 := Blk.kept hz1 o5 (by omega)
    have hrh : r < h := by rw [hh]; exact z5.lt
    have b6 : Below w5.heap.size w5 W6 := by rw [hW6]; exact below_boxS _ _
    have h6 : Blk h 23 (z32.map u8V) W6 := by rw [hW6, hh]; exact Blk.alloc _ _ _
    have z6 := z5.old b6 z5.lt
    have s6 := s5.old b6 s5.lt
    have o6 : Only q w W6 := by rw [hW6]; exact only_box (ho1.trans o5) _
    clear hW6 hh b6 z5 s5 o5 hz1 ho1 HS1 HTX
    go_wp2
    go_loopw [5] (HashRel q r h S s2 T w) (fun i _ => 32 - (intOf i).toNat)
    case atStart => exact ⟨0, by omega, rfl, by simpa [z32] using h6, z6, s6, o6⟩
    case round =>
      obtain ⟨i, hi, rfl, hh, hz, hs, ho⟩ := hrel
      clear h6 z6 s6 o6
      by_cases hlt : i < 32
      · have hx := HIX.out i hlt
        have hst := fill_step T i 32 (by rw [HL.out]; exact hlt) (by rw [HL.out]; exact Nat.le_refl _)
        have ci : wr.cell? ⟨h, i, none⟩ = some (.int .u8 0) := by
          rw [hh.cell, List.getElem?_map, List.getElem?_append_right (by rw [List.length_take]; omega), List.length_take, Nat.min_eq_left (by rw [HL.out]; omega), Nat.sub_self, List.getElem?_replicate, if_pos (by omega)]
          rfl
        have fi := hh.fz i
        generalize T.getD i 0 = y at hst hx
        have HST := Lib.hid hst
        have HX := Lib.hid hx
        have HH := Lib.hid hh
        have HZ := Lib.hid hz
        have HSS := Lib.hid hs
        have HO := Lib.hid ho
        clear hst hx hh hz hs ho
        go_wp2_with (first
          | refine wpList_index_runS rfl 9 (.tmp 20) (.tmp 21) rfl rfl rfl (HX.out _) ?_)
        have oy : Only h wr (wr.setCell ⟨h, i, none⟩ (.int .u8 (y.toNat : Int))) := (Only.refl h wr).setCell i _
        refine ⟨⟨i + 1, by omega, by go_num, ?_, HZ.out.kept oy (by omega), HSS.out.kept oy (by omega), only_new HO.out oy (by omega)⟩, by simp [intOf]; omega⟩
        have := heap_set (i := i) HH.out (.int .u8 (y.toNat : Int))
        unfold Blk
        rw [this, u8_set, HST.out]
      · obtain rfl : 32 = i := by omega
        rw [List.take_of_length_le (by rw [HL.out]; exact Nat.le_refl _), Nat.sub_self, List.replicate_zero, List.append_nil] at hh
        have HH := Lib.hid hh
        have HZ := Lib.hid hz
        have HSS := Lib.hid hs
        have HO := Lib.hid ho
        clear hh hz hs ho
        go_wp2_with (first
          | refine wpList_load_mid rfl 23 (.tmp 4) rfl h 0 rfl (T.map u8V) _ (Blk.all HH.out) Tryd.underlying23 rfl (sum_info' HL.out) ?_
          | refine wpList_store_mid rfl 23 (.tmp 2) (.tmp 24) rfl r 0 (T.map u8V).toArray rfl rfl (by rw [List.size_toArray, List.length_map, HL.out]; exact Blk.there HZ.out (by rw [List.length_map]; decide)) (sum_info HL.out) (sum_one T) ?_)
        have oz := only_setCells (b := r) (T.map u8V) 0 wr (Only.refl r wr)
        exact bodyPost_ret (v := sumV T) (results_cell (t := 2) (ty := 23) (b := r) (cs := T.map u8V) rfl _ _ _ rfl (Blk.all (Blk.setAll HZ.out (by rw [List.length_map, List.length_map, HL.out]; rfl))) Tryd.underlying23 rfl (sum_info' HL.out)) rfl ⟨rfl, HSS.out.kept oz (by omega), only_new HO.out oz hwr⟩
  · rw [if_neg hl, if_neg hl]
    have hne : ¬ ((tB T).size : Int) = 32 := by rw [hsz]; omega
    generalize tB T = X at *
    clear hsz hl
    go_enter Tryd.func57, Tryd.ntmps57
    go_upto_region 1 with fail
    change Code.wp _ _ _ _ (w.alloc (.cells (z32.map u8V).toArray 23))
    rw [← HW1.out, ← HR.out]
    clear HW1 HR
    go_upto_region 2 with (go_at_call 59; (refine (HTX.out _ HS1).mono ?_; rintro e w5 ⟨rfl, s5, o5⟩))
    go_upto_region 3 with fail
    obtain ⟨h, hh⟩ : ∃ h, h = w5.heap.size := ⟨_, rfl⟩
    obtain ⟨W6, hW6⟩ : ∃ W, W = w5.alloc (.cells (z32.map u8V).toArray 23) := ⟨_, rfl⟩
    change Code.wp _ _ _ _ (w5.alloc (.cells (z32.map u8V).toArray 23))
    rw [← hW6, ← hh]
    have z5 := Blk.kept hz1 o5 (by omega)
    have hrh : r < h := by rw [hh]; exact z5.lt
    have b6 : Below w5.heap.size w5 W6 := by rw [hW6]; exact below_boxS _ _
    have h6 : Blk h 23 (z32.map u8V) W6 := by rw [hW6, hh]; exact Blk.alloc _ _ _
    have z6 := z5.old b6 z5.lt
    obtain ⟨p, bad, hp, hA⟩ := (s5.old b6 s5.lt).at
    have o6 : Only q w W6 := by rw [hW6]; exact only_box (ho1.trans o5) _
    clear hW6 hh b6 z5 s5 o5 hz1 ho1 HS1 HTX
    have c2 := hA.c2
    have f2 := hA.fz 2
    have HAA := Lib.hid hA
    have HO6 := Lib.hid o6
    clear hA o6
    go_upto_region 5 with fail
    obtain ⟨W7, hW7⟩ : ∃ u, u = W6.setCell ⟨q, 2, none⟩ (.bool true) := ⟨_, rfl⟩
    rw [← hW7]
    have oy : Only q W6 W7 := by rw [hW7]; exact (Only.refl q W6).setCell 2 _
    have hs7 : RScn q S none W7 := by rw [hW7]; exact (RAt.set2 HAA.out).spoilt hp
    have z7 := Lib.hid (z6.kept oy (by omega))
    have h7 := Lib.hid (h6.kept oy (by omega))
    have o7 := Lib.hid (HO6.out.trans oy)
    have HS7 := Lib.hid hs7
    clear hW7 oy hs7 z6 h6 HAA HO6 c2 f2 hne
    go_wp2_with (first
      | refine wpList_load_mid rfl 23 (.tmp 4) rfl h 0 rfl (z32.map u8V) _ (Blk.all h7.out) Tryd.underlying23 rfl (sum_info' z32_length) ?_
      | refine wpList_store_mid rfl 23 (.tmp 2) (.tmp 14) rfl r 0 (z32.map u8V).toArray rfl rfl (by rw [List.size_toArray]; exact Blk.there z7.out (by rw [List.length_map]; decide)) (sum_info z32_length) (sum_one z32) ?_)
    try rw [Exit.noGoto_ret]
    have oz := only_setCells (b := r) (z32.map u8V) 0 W7 (Only.refl r W7)
    exact bodyPost_ret (v := sumV z32) (results_cell (t := 2) (ty := 23) (b := r) (cs := z32.map u8V) rfl _ _ _ rfl (Blk.all (Blk.setAll z7.out rfl)) Tryd.underlying23 rfl (sum_info' z32_length)) rfl ⟨rfl, HS7.out.kept oz (by omega), only_new o7.out oz hwr⟩
theorem cut_head (b : UInt8) (t : List UInt8) (w : World) : (Instr.sliceAt 9 (.string (tB (b :: t))) none (some (.int .i64 1)) none).run Tryd.prog w = .ok (.string (tB [b])) w := by
  have h1 : 1 ≤ (tB (b :: t)).size := by rw [tB_size]; simp
  have h2 : (tB (b :: t)).extract 0 1 = tB [b] := by
    rw [Lib.extract_eq]
    show tB _ = _
    simp [tB]
  go_simp
  all_goals first | exact h2 | omega | simp_all
set_option maxHeartbeats 1600000 in
set_option maxRecDepth 100000 in
theorem begin_any (m : UInt8) (s : List UInt8) (w : World) (hs : s.length ≤ 1000000000) :
    Calls Tryd.prog 55 #[.string (tB s), .string (tB [m])] w fun e w' => (∃ q, e = .returned (.pointer (some ⟨q, 0, none⟩)) ∧ w.heap.size ≤ q ∧ ∃ S : ByteArray, S.size ≤ 1000000000 ∧ RScn q S (begS m s) w') ∧ Below w.heap.size w w' := by
  have hbad : ∀ u : World, RScn u.heap.size ⟨#[]⟩ none (u.alloc (.cells #[.string ⟨#[]⟩, .int .i64 0, .bool true] 97)) := fun u => ⟨0, true, by simp, heap_alloc_last u _, rfl⟩
  have HBAD := Lib.hid hbad
  clear hbad
  cases s with
  | nil =>
    go_enter Tryd.func55, Tryd.ntmps55
    go_upto_region 1 with fail
    try simp only [Act.put]
    refine wp_region_tab0 [RT.is (.string (tB [])), RT.is (.int .i64 ((tB []).size : Int)), RT.is (.bool true), RT.is (.bool true), RT.is undef, RT.is undef, RT.is undef, RT.is undef, RT.is (.bool true)] (by kernel_rfl) (by kernel_rfl) (by kernel_rfl) ⟨?_, ?_, ?_, ?_, ?_, ?_, ?_, ?_, ?_, trivial⟩ ?_
    · intro ac w' hF hL hP hU K hK
      have hB : Below _ _ _ := hL
      have e0 : ac.eval (.tmp 0) = .string (tB []) := hF.at 0 (by kernel_rfl)
      exact rop_move _ rfl e0 (wanted_none rfl) (hK _ _ (le8_refl _) rfl)
    · intro ac w' hF hL hP hU K hK
      have hB : Below _ _ _ := hL
      have e5 : ac.eval (.tmp 5) = .string (tB []) := hP 0 (by kernel_rfl)
      exact rop_len_str _ rfl _ e5 (wanted_none rfl) (hK _ _ (le8_refl _) rfl)
    · intro ac w' hF hL hP hU K hK
      have hB : Below _ _ _ := hL
      have e6 : ac.eval (.tmp 6) = .int .i64 ((tB []).size : Int) := hP 1 (by kernel_rfl)
      exact rop_bin _ _ _ _ _ rfl e6 rfl (guard_int _ _ _ _ _ _ _ w') (lss_iG _ _ _ (by rw [tB_size]; simp) w') (wanted_none rfl) (hK _ _ (le8_refl _) rfl)
    · intro ac w' hF hL hP hU K hK
      have hB : Below _ _ _ := hL
      have e7 : ac.eval (.tmp 7) = .bool true := hP 2 (by kernel_rfl)
      exact rop_move _ rfl e7 (wanted_none rfl) (hK _ _ (le8_refl _) rfl)
    · intro ac w' hF hL hP hU K hK
      have hB : Below _ _ _ := hL
      have e8 : ac.eval (.tmp 8) = .bool true := hP 3 (by kernel_rfl)
      exact rop_offG (j := 3) (b := false) rfl rfl e8 (by decide) (hK _ _ (le8_refl _) rfl)
    · intro ac w' hF hL hP hU K hK
      have hB : Below _ _ _ := hL
      have e8 : ac.eval (.tmp 8) = .bool true := hP 3 (by kernel_rfl)
      exact rop_offG (j := 3) (b := false) rfl rfl e8 (by decide) (hK _ _ (le8_refl _) rfl)
    · intro ac w' hF hL hP hU K hK
      have hB : Below _ _ _ := hL
      have e8 : ac.eval (.tmp 8) = .bool true := hP 3 (by kernel_rfl)
      exact rop_offG (j := 3) (b := false) rfl rfl e8 (by decide) (hK _ _ (le8_refl _) rfl)
    · intro ac w' hF hL hP hU K hK
      have hB : Below _ _ _ := hL
      have e8 : ac.eval (.tmp 8) = .bool true := hP 3 (by kernel_rfl)
      exact rop_offG (j := 3) (b := false) rfl rfl e8 (by decide) (hK _ _ (le8_refl _) rfl)
    · intro ac w' hF hL hP hU K hK
      have hB : Below _ _ _ := hL
      have e8 : ac.eval (.tmp 8) = .bool true := hP 3 (by kernel_rfl)
      exact rop_pick _ _ _ rfl true e8 (by rfl) (wanted_none rfl) (hK _ _ (le8_refl _) rfl)
    · intro ac w' hF hB hT
      have e13 : ac.eval (.tmp 13) = .bool true := hT 8 (by decide)
      rw [hF.setsG [5, 6, 7, 8, 9, 10, 11, 12, 13] (by kernel_rfl)]
      simp only [List.foldl_cons, List.foldl_nil, List.setIfInBounds_toArray, List.set_cons_succ, List.set_cons_zero, e13]
      generalize ac.eval (.tmp 5) = u5
      generalize ac.eval (.tmp 6) = u6
      generalize ac.eval (.tmp 7) = u7
      generalize ac.eval (.tmp 8) = u8
      generalize ac.eval (.tmp 9) = u9
      generalize ac.eval (.tmp 10) = u10
      generalize ac.eval (.tmp 11) = u11
      generalize ac.eval (.tmp 12) = u12
      clear e13 hT hF ac
      have hq : w.heap.size ≤ w'.heap.size := hB.size
      go_wp2
      try rw [Exit.noGoto_ret]
      go_ret
      exact ⟨⟨_, rfl, hq, ⟨#[]⟩, by decide, HBAD.out w'⟩, below_step hB (Nat.le_refl _) (below_boxS w' _)⟩
  | cons b t =>
    by_cases hbm : b = m
    · subst hbm
      have hcut := fun u => cut_txt b t u
      have hbm : [b] = [b] := rfl
      go_enter Tryd.func55, Tryd.ntmps55
      go_upto_region 1 with fail
      try simp only [Act.put]
      refine wp_region_tab0 [RT.is (.string (tB (b :: t))), RT.is (.int .i64 ((tB (b :: t)).size : Int)), RT.is (.bool false), RT.is (.bool false), RT.is (.string (tB (b :: t))), RT.is (.string (tB [b])), RT.is (.string (tB [b])), RT.is (.bool false), RT.is (.bool false)] (by kernel_rfl) (by kernel_rfl) (by kernel_rfl) ⟨?_, ?_, ?_, ?_, ?_, ?_, ?_, ?_, ?_, trivial⟩ ?_
      · intro ac w' hF hL hP hU K hK
        have hB : Below _ _ _ := hL
        have e0 : ac.eval (.tmp 0) = .string (tB (b :: t)) := hF.at 0 (by kernel_rfl)
        exact rop_move _ rfl e0 (wanted_none rfl) (hK _ _ (le8_refl _) rfl)
      · intro ac w' hF hL hP hU K hK
        have hB : Below _ _ _ := hL
        have e5 : ac.eval (.tmp 5) = .string (tB (b :: t)) := hP 0 (by kernel_rfl)
        exact rop_len_str _ rfl _ e5 (wanted_none rfl) (hK _ _ (le8_refl _) rfl)
      · intro ac w' hF hL hP hU K hK
        have hB : Below _ _ _ := hL
        have e6 : ac.eval (.tmp 6) = .int .i64 ((tB (b :: t)).size : Int) := hP 1 (by kernel_rfl)
        exact rop_bin _ _ _ _ _ rfl e6 rfl (guard_int _ _ _ _ _ _ _ w') (lss_iG _ _ _ (by have h1 : 1 ≤ (tB (b :: t)).size := (by rw [tB_size, List.length_cons]; omega); first | omega | (simp; omega)) w') (wanted_none rfl) (hK _ _ (le8_refl _) rfl)
      · intro ac w' hF hL hP hU K hK
        have hB : Below _ _ _ := hL
        have e7 : ac.eval (.tmp 7) = .bool false := hP 2 (by kernel_rfl)
        exact rop_move _ rfl e7 (wanted_none rfl) (hK _ _ (le8_refl _) rfl)
      · intro ac w' hF hL hP hU K hK
        have hB : Below _ _ _ := hL
        have e0 : ac.eval (.tmp 0) = .string (tB (b :: t)) := hF.at 0 (by kernel_rfl)
        have e8 : ac.eval (.tmp 8) = .bool false := hP 3 (by kernel_rfl)
        exact rop_move _ rfl e0 (wanted_of (j := 3) (b := false) rfl rfl e8) (hK _ _ (le8_refl _) rfl)
      · intro ac w' hF hL hP hU K hK
        have hB : Below _ _ _ := hL
        have e9 : ac.eval (.tmp 9) = .string (tB (b :: t)) := hP 4 (by kernel_rfl)
        have e8 : ac.eval (.tmp 8) = .bool false := hP 3 (by kernel_rfl)
        exact rop_sliceG _ _ _ _ _ rfl e9 rfl rfl rfl (cut_head b t w') (wanted_of (j := 3) (b := false) rfl rfl e8) (hK _ _ (le8_refl _) rfl)
      · intro ac w' hF hL hP hU K hK
        have hB : Below _ _ _ := hL
        have e1 : ac.eval (.tmp 1) = .string (tB [b]) := hF.at 1 (by kernel_rfl)
        have e8 : ac.eval (.tmp 8) = .bool false := hP 3 (by kernel_rfl)
        exact rop_move _ rfl e1 (wanted_of (j := 3) (b := false) rfl rfl e8) (hK _ _ (le8_refl _) rfl)
      · intro ac w' hF hL hP hU K hK
        have hB : Below _ _ _ := hL
        have e10 : ac.eval (.tmp 10) = .string (tB [b]) := hP 5 (by kernel_rfl)
        have e11 : ac.eval (.tmp 11) = .string (tB [b]) := hP 6 (by kernel_rfl)
        have e8 : ac.eval (.tmp 8) = .bool false := hP 3 (by kernel_rfl)
        exact rop_bin _ _ _ _ _ rfl e10 e11 (guard_str _ _ _ _ _ _ w') (neq_txt_f [b] [b] rfl w') (wanted_of (j := 3) (b := false) rfl rfl e8) (hK _ _ (le8_refl _) rfl)
      · intro ac w' hF hL hP hU K hK
        have hB : Below _ _ _ := hL
        have e8 : ac.eval (.tmp 8) = .bool false := hP 3 (by kernel_rfl)
        have e12 : ac.eval (.tmp 12) = .bool false := hP 7 (by kernel_rfl)
        exact rop_pick _ _ _ rfl false e8 (by simpa using e12) (wanted_none rfl) (hK _ _ (le8_refl _) rfl)
      · intro ac w' hF hB hT
        have e13 : ac.eval (.tmp 13) = .bool false := hT 8 (by decide)
        rw [hF.setsG [5, 6, 7, 8, 9, 10, 11, 12, 13] (by kernel_rfl)]
        simp only [List.foldl_cons, List.foldl_nil, List.setIfInBounds_toArray, List.set_cons_succ, List.set_cons_zero, e13]
        generalize ac.eval (.tmp 5) = u5
        generalize ac.eval (.tmp 6) = u6
        generalize ac.eval (.tmp 7) = u7
        generalize ac.eval (.tmp 8) = u8
        generalize ac.eval (.tmp 9) = u9
        generalize ac.eval (.tmp 10) = u10
        generalize ac.eval (.tmp 11) = u11
        generalize ac.eval (.tmp 12) = u12
        clear e13 hT hF ac
        have hq : w.heap.size ≤ w'.heap.size := hB.size
        have hts : (tB t).size ≤ 1000000000 := by rw [tB_size]; simp only [List.length_cons] at hs; omega
        have HSC := Lib.hid (RScn.alloc (tB t) w')
        have HCUT := Lib.hid hcut
        clear hcut hbm
        go_wp2_with (first
          | refine wpList_slice_runS rfl 9 (.tmp 16) (some (.const (.int .i64 1))) none none rfl rfl rfl rfl rfl (HCUT.out _) ?_)
        go_ret
        exact ⟨⟨_, rfl, hq, tB t, hts, by rw [begS_of]; exact HSC.out⟩, below_step hB (Nat.le_refl _) (below_boxS w' _)⟩
    · have hne : [b] ≠ [m] := fun h => hbm (by injection h)
      have hbg : begS m (b :: t) = none := if_neg hbm
      have HBG := Lib.hid hbg
      clear hbg
      go_enter Tryd.func55, Tryd.ntmps55
      go_upto_region 1 with fail
      try simp only [Act.put]
      refine wp_region_tab0 [RT.is (.string (tB (b :: t))), RT.is (.int .i64 ((tB (b :: t)).size : Int)), RT.is (.bool false), RT.is (.bool false), RT.is (.string (tB (b :: t))), RT.is (.string (tB [b])), RT.is (.string (tB [m])), RT.is (.bool true), RT.is (.bool true)] (by kernel_rfl) (by kernel_rfl) (by kernel_rfl) ⟨?_, ?_, ?_, ?_, ?_, ?_, ?_, ?_, ?_, trivial⟩ ?_
      · intro ac w' hF hL hP hU K hK
        have hB : Below _ _ _ := hL
        have e0 : ac.eval (.tmp 0) = .string (tB (b :: t)) := hF.at 0 (by kernel_rfl)
        exact rop_move _ rfl e0 (wanted_none rfl) (hK _ _ (le8_refl _) rfl)
      · intro ac w' hF hL hP hU K hK
        have hB : Below _ _ _ := hL
        have e5 : ac.eval (.tmp 5) = .string (tB (b :: t)) := hP 0 (by kernel_rfl)
        exact rop_len_str _ rfl _ e5 (wanted_none rfl) (hK _ _ (le8_refl _) rfl)
      · intro ac w' hF hL hP hU K hK
        have hB : Below _ _ _ := hL
        have e6 : ac.eval (.tmp 6) = .int .i64 ((tB (b :: t)).size : Int) := hP 1 (by kernel_rfl)
        exact rop_bin _ _ _ _ _ rfl e6 rfl (guard_int _ _ _ _ _ _ _ w') (lss_iG _ _ _ (by have h1 : 1 ≤ (tB (b :: t)).size := (by rw [tB_size, List.length_cons]; omega); first | omega | (simp; omega)) w') (wanted_none rfl) (hK _ _ (le8_refl _) rfl)
      · intro ac w' hF hL hP hU K hK
        have hB : Below _ _ _ := hL
        have e7 : ac.eval (.tmp 7) = .bool false := hP 2 (by kernel_rfl)
        exact rop_move _ rfl e7 (wanted_none rfl) (hK _ _ (le8_refl _) rfl)
      · intro ac w' hF hL hP hU K hK
        have hB : Below _ _ _ := hL
        have e0 : ac.eval (.tmp 0) = .string (tB (b :: t)) := hF.at 0 (by kernel_rfl)
        have e8 : ac.eval (.tmp 8) = .bool false := hP 3 (by kernel_rfl)
        exact rop_move _ rfl e0 (wanted_of (j := 3) (b := false) rfl rfl e8) (hK _ _ (le8_refl _) rfl)
      · intro ac w' hF hL hP hU K hK
        have hB : Below _ _ _ := hL
        have e9 : ac.eval (.tmp 9) = .string (tB (b :: t)) := hP 4 (by kernel_rfl)
        have e8 : ac.eval (.tmp 8) = .bool false := hP 3 (by kernel_rfl)
        exact rop_sliceG _ _ _ _ _ rfl e9 rfl rfl rfl (cut_head b t w') (wanted_of (j := 3) (b := false) rfl rfl e8) (hK _ _ (le8_refl _) rfl)
      · intro ac w' hF hL hP hU K hK
        have hB : Below _ _ _ := hL
        have e1 : ac.eval (.tmp 1) = .string (tB [m]) := hF.at 1 (by kernel_rfl)
        have e8 : ac.eval (.tmp 8) = .bool false := hP 3 (by kernel_rfl)
        exact rop_move _ rfl e1 (wanted_of (j := 3) (b := false) rfl rfl e8) (hK _ _ (le8_refl _) rfl)
      · intro ac w' hF hL hP hU K hK
        have hB : Below _ _ _ := hL
        have e10 : ac.eval (.tmp 10) = .string (tB [b]) := hP 5 (by kernel_rfl)
        have e11 : ac.eval (.tmp 11) = .string (tB [m]) := hP 6 (by kernel_rfl)
        have e8 : ac.eval (.tmp 8) = .bool false := hP 3 (by kernel_rfl)
        exact rop_bin _ _ _ _ _ rfl e10 e11 (guard_str _ _ _ _ _ _ w') (neq_txt_t [b] [m] hne w') (wanted_of (j := 3) (b := false) rfl rfl e8) (hK _ _ (le8_refl _) rfl)
      · intro ac w' hF hL hP hU K hK
        have hB : Below _ _ _ := hL
        have e8 : ac.eval (.tmp 8) = .bool false := hP 3 (by kernel_rfl)
        have e12 : ac.eval (.tmp 12) = .bool true := hP 7 (by kernel_rfl)
        exact rop_pick _ _ _ rfl false e8 (by simpa using e12) (wanted_none rfl) (hK _ _ (le8_refl _) rfl)
      · intro ac w' hF hB hT
        have e13 : ac.eval (.tmp 13) = .bool true := hT 8 (by decide)
        rw [hF.setsG [5, 6, 7, 8, 9, 10, 11, 12, 13] (by kernel_rfl)]
        simp only [List.foldl_cons, List.foldl_nil, List.setIfInBounds_toArray, List.set_cons_succ, List.set_cons_zero, e13]
        generalize ac.eval (.tmp 5) = u5
        generalize ac.eval (.tmp 6) = u6
        generalize ac.eval (.tmp 7) = u7
        generalize ac.eval (.tmp 8) = u8
        generalize ac.eval (.tmp 9) = u9
        generalize ac.eval (.tmp 10) = u10
        generalize ac.eval (.tmp 11) = u11
        generalize ac.eval (.tmp 12) = u12
        clear e13 hT hF ac
        have hq : w.heap.size ≤ w'.heap.size := hB.size
        go_wp2
        try rw [Exit.noGoto_ret]
        go_ret
        exact ⟨⟨_, rfl, hq, ⟨#[]⟩, by decide, by rw [HBG.out]; exact HBAD.out w'⟩, below_step hB (Nat.le_refl _) (below_boxS w' _)⟩
end Go.Proofs.YtlcljjapeigaeaaDoor
