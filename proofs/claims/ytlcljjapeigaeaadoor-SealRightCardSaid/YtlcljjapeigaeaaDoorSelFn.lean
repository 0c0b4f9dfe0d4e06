/-
  Package seal: what is said, as bytes; what is signed.
-/
import Derived.Test.YtlcljjapeigaeaaDoorSelEq
import Derived.Test.YtlcljjapeigaeaaDoorSelShelf
import Derived.Test.YtlcljjapeigaeaaDoorRecMem
import Derived.Test.YtlcljjapeigaeaaDoorMShaA
import Derived.Test.YtlcljjapeigaeaaDoorMacOf
import Derived.Test.YtlcljjapeigaeaaDoorMLeafB
namespace Go.Proofs.YtlcljjapeigaeaaDoor
open Go.RowKit

theorem below_boxS (w : World) (o : Obj) : Below w.heap.size w (w.alloc o) := (Below.refl _ _).alloc (Nat.le_refl _) _
theorem isTime_any (n : Int) (w : World) : Calls Tryd.prog 33 #[.int .i64 n] w fun e w' => e = .returned (.bool (timB n)) ∧ w = w' := by
  unfold timB mayB
  by_cases h : 0 ≤ n
  · rw [decide_eq_true h, Bool.true_and]
    go_enter Tryd.func33, Tryd.ntmps33
    go_wp2
    go_ret
    exact ⟨rfl, rfl⟩
  · rw [decide_eq_false h, Bool.false_and]
    go_enter Tryd.func33, Tryd.ntmps33
    go_wp2
    go_ret
    exact ⟨rfl, rfl⟩
theorem number_any (n : Int) (w : World) : Calls Tryd.prog 35 #[.int .i64 n] w fun e w' => e = .returned (.string (tB (Oct.putL (u64N n)))) ∧ Below w.heap.size w w' := by
  have hc := fun u => conv_u64 n u
  have hp := fun u => put_any (u64N n) u (u64N_lt n)
  go_enter Tryd.func35, Tryd.ntmps35
  go_wp2_with (go_at_call 64; ((with_reducible refine (hp _).mono ?_); rintro e w1 ⟨rfl, b1⟩))
  go_ret
  exact ⟨rfl, b1⟩
theorem hash_txt (D : List UInt8) : Oct.putB (ByteArray.size ⟨D.toArray⟩) ++ (⟨D.toArray⟩ : ByteArray) = tB (hashL D) := txt_eq _
/-- A slice of texts that lies in a block of its own. -/
def StrN (w : World) (v : Value) (ts : List ByteArray) : Prop := ∃ b, v = .slice (some ⟨b, 0, none⟩) ts.length ts.length ∧ Blk b 9 (ts.map Value.string) w
theorem StrN.old {w w' : World} {v : Value} {ts : List ByteArray} (h : StrN w v ts) (k : Below w.heap.size w w') : StrN w' v ts := by
  obtain ⟨b, e, hb⟩ := h
  exact ⟨b, e, hb.old k hb.lt⟩
def RT.rowN (ts : List ByteArray) : RT := ⟨fun v w => StrN w v ts, fun _ _ _ h k => h.old k⟩
section
variable {ops : Array Oper} {Q : Exit → Act → World → Prop} {a : Act} {w : World} {K : Act → World → Prop} {o : Oper}
theorem rop_textsN (n : Nat) (xs : Array (Nat × Operand)) (hop : o.op = .buildSlice 87 n xs) (ss : List ByteArray)
    (hx : (xs.map fun (i, x) => (i, a.eval x)) = ((List.range n).zipWith (fun i s => (i, Value.string s)) ss).toArray) (hn : ss.length = n) (h0 : 0 < n) (h9 : n ≤ 1000)
    (hw : Region.wanted o (yielded ops a.tmps) = true) (h : ∀ v w', Below w.heap.size w w' → StrN w' v ss → K (a.put o.dst v) w') :
    if Region.wanted o (yielded ops a.tmps) = true then Oper.wp Tryd.prog o a w K Q else K (a.put o.dst undef) w :=
  rop_v (v := .slice (some ⟨w.heap.size, 0, none⟩) n n) (w' := w.alloc (.cells (ss.map Value.string).toArray 9)) hw (by
    have := run_texts w n ss hn h0 h9
    rw [← hx] at this
    simp [execOp, hop, this]) (h _ _ ((Below.refl _ _).alloc (Nat.le_refl _) _) ⟨_, by rw [hn], Blk.alloc _ _ _⟩)
end
theorem join_nil : ∀ l : List (List UInt8), Lib.join l [] = l.flatten
  | [] => rfl
  | [x] => by simp [Lib.join, List.intercalate]
  | x :: y :: t => by
    have := join_nil (y :: t)
    simp only [Lib.join, List.intercalate] at this ⊢
    rw [List.intersperse_cons_cons, List.flatten_cons, List.flatten_cons, this]
    simp
theorem join_flat (ts : List ByteArray) : Lib.join (ts.map (·.data.toList)) [] = flat ts := by
  rw [join_nil, flat, List.flatMap_def]

theorem hashTxt_hashS_any (D : List UInt8) (hD : D.length = 32) (w : World) : Calls Tryd.prog 65 #[.string ⟨D.toArray⟩] w fun e w' => e = .returned (.string (tB (hashL D))) ∧ Below w.heap.size w w' := by
  rw [← hash_txt]
  exact textPut_any _ w (by simp [ByteArray.size, hD])
set_option maxHeartbeats 1600000 in
set_option maxRecDepth 100000 in
theorem hashS_any (D : List UInt8) (hD : D.length = 32) (w : World) : Calls Tryd.prog 36 #[sumV D] w fun e w' => e = .returned (.string (tB (hashL D))) ∧ Below w.heap.size w w' := by
  obtain ⟨p, hp⟩ : ∃ p, p = w.heap.size := ⟨_, rfl⟩
  obtain ⟨W, hW⟩ : ∃ W, W = w.alloc (.cells (D.map u8V).toArray 23) := ⟨_, rfl⟩
  have hb1 : Below w.heap.size w W := by rw [hW]; exact below_boxS _ _
  have hr : Blk p 23 (D.map u8V) W := by rw [hW, hp]; exact Blk.alloc _ _ _
  have hp1 : p < W.heap.size := hr.lt
  have HR : Hid (W.rangeAt p 0 (D.map u8V)) := Lib.hid hr.all
  have HW := Lib.hid hW
  have HP := Lib.hid hp
  clear hW hp hr
  unfold sumV
  go_enter Tryd.func36, Tryd.ntmps36
  go_upto_region 1 with fail
  rw [← HW.out, ← HP.out]
  clear HW
  try simp only [Act.put]
  refine wp_region_tab0 [RT.is (sumV D), RT.is (.string ⟨D.toArray⟩), RT.is (.string (tB (hashL D))), RT.is (.string (tB (hashL D)))] (by kernel_rfl) (by kernel_rfl) (by kernel_rfl) ⟨?_, ?_, ?_, ?_, trivial⟩ ?_
  · intro ac w' hF hL hP hU K hK
    have hB : Below _ _ _ := hL
    have e1 : ac.eval (.tmp 1) = .pointer (some ⟨p, 0, none⟩) := hF.at 1 (by kernel_rfl)
    exact rop_ld _ _ rfl e1 (load_sumAt ((below_range' hB hp1 HR.out)) hD) (wanted_none rfl) (hK _ _ (le8_refl _) rfl)
  · intro ac w' hF hL hP hU K hK
    have hB : Below _ _ _ := hL
    have e3 : ac.eval (.tmp 3) = sumV D := hP 0 (by kernel_rfl)
    refine rop_call 66 _ _ rfl #[sumV D] (by simp [e3]) (by kernel_rfl) (wanted_none rfl) ?_
    refine (bytes_any D w' hD).mono ?_
    rintro e w2 ⟨rfl, hb⟩
    exact ⟨_, rfl, hK _ _ hb rfl⟩
  · intro ac w' hF hL hP hU K hK
    have hB : Below _ _ _ := hL
    have e4 : ac.eval (.tmp 4) = .string ⟨D.toArray⟩ := hP 1 (by kernel_rfl)
    refine rop_call 65 _ _ rfl #[.string ⟨D.toArray⟩] (by simp [e4]) (by kernel_rfl) (wanted_none rfl) ?_
    refine (hashTxt_hashS_any D hD w').mono ?_
    rintro e w2 ⟨rfl, hb⟩
    exact ⟨_, rfl, hK _ _ hb rfl⟩
  · intro ac w' hF hL hP hU K hK
    have hB : Below _ _ _ := hL
    have e5 : ac.eval (.tmp 5) = .string (tB (hashL D)) := hP 2 (by kernel_rfl)
    exact rop_assign _ rfl e5 (wanted_none rfl) (hK _ _ (le8_refl _) rfl)
  · intro ac w' hF hB hT
    have e2 : ac.eval (.tmp 2) = .string (tB (hashL D)) := hT 3 (by decide)
    rw [hF.setsG [3, 4, 5, 2] (by kernel_rfl)]
    simp only [List.foldl_cons, List.foldl_nil, List.setIfInBounds_toArray, List.set_cons_succ, List.set_cons_zero, e2]
    generalize ac.eval (.tmp 3) = u3
    generalize ac.eval (.tmp 4) = u4
    generalize ac.eval (.tmp 5) = u5
    clear e2 hT hF ac
    have hbw := below_step hb1 (Nat.le_refl _) hB
    clear hB
    go_wp2
    go_ret
    exact ⟨rfl, hbw⟩
theorem hashTxt_rsumS_any (D : List UInt8) (hD : D.length = 32) (w : World) : Calls Tryd.prog 67 #[.string ⟨D.toArray⟩] w fun e w' => e = .returned (.string (tB (hashL D))) ∧ Below w.heap.size w w' := by
  rw [← hash_txt]
  exact refText_any _ w (by simp [ByteArray.size, hD])
set_option maxHeartbeats 1600000 in
set_option maxRecDepth 100000 in
theorem rsumS_any (D : List UInt8) (hD : D.length = 32) (w : World) : Calls Tryd.prog 38 #[sumV D] w fun e w' => e = .returned (.string (tB (hashL D))) ∧ Below w.heap.size w w' := by
  obtain ⟨p, hp⟩ : ∃ p, p = w.heap.size := ⟨_, rfl⟩
  obtain ⟨W, hW⟩ : ∃ W, W = w.alloc (.cells (D.map u8V).toArray 23) := ⟨_, rfl⟩
  have hb1 : Below w.heap.size w W := by rw [hW]; exact below_boxS _ _
  have hr : Blk p 23 (D.map u8V) W := by rw [hW, hp]; exact Blk.alloc _ _ _
  have hp1 : p < W.heap.size := hr.lt
  have HR : Hid (W.rangeAt p 0 (D.map u8V)) := Lib.hid hr.all
  have HW := Lib.hid hW
  have HP := Lib.hid hp
  clear hW hp hr
  unfold sumV
  go_enter Tryd.func38, Tryd.ntmps38
  go_upto_region 1 with fail
  rw [← HW.out, ← HP.out]
  clear HW
  try simp only [Act.put]
  refine wp_region_tab0 [RT.is (sumV D), RT.is (.string ⟨D.toArray⟩), RT.is (.string (tB (hashL D))), RT.is (.string (tB (hashL D)))] (by kernel_rfl) (by kernel_rfl) (by kernel_rfl) ⟨?_, ?_, ?_, ?_, trivial⟩ ?_
  · intro ac w' hF hL hP hU K hK
    have hB : Below _ _ _ := hL
    have e1 : ac.eval (.tmp 1) = .pointer (some ⟨p, 0, none⟩) := hF.at 1 (by kernel_rfl)
    exact rop_ld _ _ rfl e1 (load_sumAt ((below_range' hB hp1 HR.out)) hD) (wanted_none rfl) (hK _ _ (le8_refl _) rfl)
  · intro ac w' hF hL hP hU K hK
    have hB : Below _ _ _ := hL
    have e3 : ac.eval (.tmp 3) = sumV D := hP 0 (by kernel_rfl)
    refine rop_call 68 _ _ rfl #[sumV D] (by simp [e3]) (by kernel_rfl) (wanted_none rfl) ?_
    refine (rbytes_any D w' hD).mono ?_
    rintro e w2 ⟨rfl, hb⟩
    exact ⟨_, rfl, hK _ _ hb rfl⟩
  · intro ac w' hF hL hP hU K hK
    have hB : Below _ _ _ := hL
    have e4 : ac.eval (.tmp 4) = .string ⟨D.toArray⟩ := hP 1 (by kernel_rfl)
    refine rop_call 67 _ _ rfl #[.string ⟨D.toArray⟩] (by simp [e4]) (by kernel_rfl) (wanted_none rfl) ?_
    refine (hashTxt_rsumS_any D hD w').mono ?_
    rintro e w2 ⟨rfl, hb⟩
    exact ⟨_, rfl, hK _ _ hb rfl⟩
  · intro ac w' hF hL hP hU K hK
    have hB : Below _ _ _ := hL
    have e5 : ac.eval (.tmp 5) = .string (tB (hashL D)) := hP 2 (by kernel_rfl)
    exact rop_assign _ rfl e5 (wanted_none rfl) (hK _ _ (le8_refl _) rfl)
  · intro ac w' hF hB hT
    have e2 : ac.eval (.tmp 2) = .string (tB (hashL D)) := hT 3 (by decide)
    rw [hF.setsG [3, 4, 5, 2] (by kernel_rfl)]
    simp only [List.foldl_cons, List.foldl_nil, List.setIfInBounds_toArray, List.set_cons_succ, List.set_cons_zero, e2]
    generalize ac.eval (.tmp 3) = u3
    generalize ac.eval (.tmp 4) = u4
    generalize ac.eval (.tmp 5) = u5
    clear e2 hT hF ac
    have hbw := below_step hb1 (Nat.le_refl _) hB
    clear hB
    go_wp2
    go_ret
    exact ⟨rfl, hbw⟩
set_option maxHeartbeats 1600000 in
set_option maxRecDepth 100000 in
theorem said_any (m : ByteArray) (v : Value) (ts : List ByteArray) (w : World) (h : StrN w v ts) (hn : ts.length ≤ 1000) (hm : m.size ≤ 1000) (hl : (flat ts).length ≤ 1000000) :
    Calls Tryd.prog 34 #[.string m, v] w fun e w' => e = .returned (.string (m ++ tB (flat ts))) ∧ Below w.heap.size w w' := by
  obtain ⟨b, rfl, hb⟩ := h
  have HJ : Hid (∀ u : World, Below w.heap.size w u → Calls Tryd.prog 63 #[.slice (some ⟨b, 0, none⟩) ts.length ts.length, .string ⟨#[]⟩] u fun e w' => e = .returned (.string (tB (flat ts))) ∧ Below u.heap.size u w') := Lib.hid fun u hu => by
    have hbu := hb.old hu hb.lt
    have := strings_Join b 0 ts.length ts ⟨#[]⟩ u (fun j x hx => by rw [Nat.zero_add, hbu.cell, List.getElem?_map, hx]; rfl) hbu.lt (by omega) (Nat.le_refl _) (by rw [show (⟨#[]⟩ : ByteArray).data.toList = [] from rfl, join_flat]; omega)
    rw [show (⟨#[]⟩ : ByteArray).data.toList = [] from rfl, join_flat] at this
    exact this
  have HL : Hid (m.size + (tB (flat ts)).size ≤ maxLen) := Lib.hid (by rw [show (tB (flat ts)).size = (flat ts).length by simp [tB, ByteArray.size]]; unfold maxLen; omega)
  clear hb hl hm
  go_enter Tryd.func34, Tryd.ntmps34
  go_upto_region 1 with fail
  try simp only [Act.put]
  refine wp_region_tab0 [RT.is (.string m), RT.is (.slice (some ⟨b, 0, none⟩) ts.length ts.length), RT.is (.string (tB (flat ts))), RT.is (.string (m ++ tB (flat ts))), RT.is (.string (m ++ tB (flat ts)))] (by kernel_rfl) (by kernel_rfl) (by kernel_rfl) ⟨?_, ?_, ?_, ?_, ?_, trivial⟩ ?_
  · intro ac w' hF hL hP hU K hK
    have hB : Below _ _ _ := hL
    have e0 : ac.eval (.tmp 0) = .string m := hF.at 0 (by kernel_rfl)
    exact rop_move _ rfl e0 (wanted_none rfl) (hK _ _ (le8_refl _) rfl)
  · intro ac w' hF hL hP hU K hK
    have hB : Below _ _ _ := hL
    have e1 : ac.eval (.tmp 1) = .slice (some ⟨b, 0, none⟩) ts.length ts.length := hF.at 1 (by kernel_rfl)
    exact rop_move _ rfl e1 (wanted_none rfl) (hK _ _ (le8_refl _) rfl)
  · intro ac w' hF hL hP hU K hK
    have hB : Below _ _ _ := hL
    have e6 : ac.eval (.tmp 6) = .slice (some ⟨b, 0, none⟩) ts.length ts.length := hP 1 (by kernel_rfl)
    refine rop_call 63 _ _ rfl #[.slice (some ⟨b, 0, none⟩) ts.length ts.length, .string { data := #[] }] (by simp [e6, eval_const]) (by kernel_rfl) (wanted_none rfl) ?_
    refine (HJ.out w' hB).mono ?_
    rintro e w2 ⟨rfl, hb⟩
    exact ⟨_, rfl, hK _ _ hb rfl⟩
  · intro ac w' hF hL hP hU K hK
    have hB : Below _ _ _ := hL
    have e5 : ac.eval (.tmp 5) = .string m := hP 0 (by kernel_rfl)
    have e7 : ac.eval (.tmp 7) = .string (tB (flat ts)) := hP 2 (by kernel_rfl)
    exact rop_bin _ _ _ _ _ rfl e5 e7 (guard_str _ _ _ _ _ _ w') (add_str _ _ HL.out w') (wanted_none rfl) (hK _ _ (le8_refl _) rfl)
  · intro ac w' hF hL hP hU K hK
    have hB : Below _ _ _ := hL
    have e8 : ac.eval (.tmp 8) = .string (m ++ tB (flat ts)) := hP 3 (by kernel_rfl)
    exact rop_assign _ rfl e8 (wanted_none rfl) (hK _ _ (le8_refl _) rfl)
  · intro ac w' hF hB hT
    have e4 : ac.eval (.tmp 4) = .string (m ++ tB (flat ts)) := hT 4 (by decide)
    rw [hF.setsG [5, 6, 7, 8, 4] (by kernel_rfl)]
    simp only [List.foldl_cons, List.foldl_nil, List.setIfInBounds_toArray, List.set_cons_succ, List.set_cons_zero, e4]
    generalize ac.eval (.tmp 5) = u5
    generalize ac.eval (.tmp 6) = u6
    generalize ac.eval (.tmp 7) = u7
    generalize ac.eval (.tmp 8) = u8
    clear e4 hT hF ac
    go_wp2
    go_ret
    exact ⟨rfl, hB⟩
theorem flat3 (a b c : List UInt8) : flat [tB a, tB b, tB c] = a ++ (b ++ c) := by simp [flat, tB]
theorem flat2t (a b : List UInt8) : flat [tB a, tB b] = a ++ b := by simp [flat, tB]
theorem mark_app (m : UInt8) (l : List UInt8) : (⟨#[m]⟩ : ByteArray) ++ tB l = tB (m :: l) := by
  rw [show (⟨#[m]⟩ : ByteArray) = ⟨([m] : List UInt8).toArray⟩ from rfl, tB, app_list]; rfl
theorem said3 (m : UInt8) (a b c : List UInt8) (v : Value) (w : World) (h : StrN w v [tB a, tB b, tB c]) (hl : (a ++ (b ++ c)).length ≤ 100000) :
    Calls Tryd.prog 34 #[.string ⟨#[m]⟩, v] w fun e w' => e = .returned (.string (tB (m :: (a ++ (b ++ c))))) ∧ Below w.heap.size w w' := by
  have := said_any ⟨#[m]⟩ v _ w h (by simp) (by simp [ByteArray.size]) (by rw [flat3]; omega)
  rw [flat3, mark_app] at this
  exact this
theorem said2 (m : UInt8) (a b : List UInt8) (v : Value) (w : World) (h : StrN w v [tB a, tB b]) (hl : (a ++ b).length ≤ 100000) :
    Calls Tryd.prog 34 #[.string ⟨#[m]⟩, v] w fun e w' => e = .returned (.string (tB (m :: (a ++ b)))) ∧ Below w.heap.size w w' := by
  have := said_any ⟨#[m]⟩ v _ w h (by simp) (by simp [ByteArray.size]) (by rw [flat2t]; omega)
  rw [flat2t, mark_app] at this
  exact this
set_option maxHeartbeats 3200000 in
set_option maxRecDepth 100000 in
theorem fzBytes_any (f : FzR) (hf : f.root.length = 32) (w : World) :
    Calls Tryd.prog 10 #[.agg (fzCs f).toArray] w fun e w' => e = .returned (.tuple #[.string (fzT f), .int .i64 (fzZ f)]) ∧ Below w.heap.size w w' := by
  obtain ⟨p, hp⟩ : ∃ p, p = w.heap.size := ⟨_, rfl⟩
  obtain ⟨W, hW⟩ : ∃ W, W = w.alloc (.cells (fzCs f).toArray 25) := ⟨_, rfl⟩
  have hb1 : Below w.heap.size w W := by rw [hW]; exact below_boxS _ _
  have hr : FzAt p f W := by rw [hW, hp]; exact Blk.alloc _ _ _
  have hp1 : p < W.heap.size := Blk.lt hr
  have HW := Lib.hid hW
  have HP := Lib.hid hp
  have HR := Lib.hid hr
  have c0 := hr.win
  have c1 := hr.cnt
  have hlen := fzL_length hf
  have HS : Hid (∀ (u : World) (v : Value), StrN u v [tB (Oct.putL (u64N f.win)), tB (Oct.putL (u64N f.cnt)), tB (hashL f.root)] → Calls Tryd.prog 34 #[.string ⟨#[70]⟩, v] u fun e w' => e = .returned (.string (tB (fzL f))) ∧ Below u.heap.size u w') := Lib.hid fun u v hv => said3 70 _ _ _ v u hv (by unfold fzL at hlen; simp only [List.length_cons] at hlen; omega)
  clear hW hp hr hlen
  have qt := fun u => isTime_any f.win u
  unfold fzT fzZ fzB
  generalize timB f.win = A at qt ⊢
  cases A
  · simp only [Bool.false_and, Bool.false_eq_true, if_false]
    go_enter Tryd.func10, Tryd.ntmps10
    go_upto_region 1 with fail
    rw [← HW.out, ← HP.out]
    clear HW
    go_wp2_with (first
      | (go_at_call 33; ((with_reducible refine (qt _).mono ?_); rintro e w5 ⟨rfl, rfl⟩)))
    try rw [Exit.noGoto_ret]
    go_ret2
    exact ⟨rfl, hb1⟩
  by_cases h1 : f.cnt < 1
  · rw [decide_eq_false (show ¬ 1 ≤ f.cnt by omega)]
    simp only [Bool.false_and, Bool.and_false, Bool.false_eq_true, if_false]
    go_enter Tryd.func10, Tryd.ntmps10
    go_upto_region 1 with fail
    rw [← HW.out, ← HP.out]
    clear HW
    go_wp2_with (first
      | (go_at_call 33; ((with_reducible refine (qt _).mono ?_); rintro e w5 ⟨rfl, rfl⟩)))
    try rw [Exit.noGoto_ret]
    go_ret2
    exact ⟨rfl, hb1⟩
  by_cases h2 : 4000 < f.cnt
  · rw [decide_eq_false (show ¬ f.cnt ≤ 4000 by omega)]
    simp only [Bool.and_false, Bool.false_eq_true, if_false]
    go_enter Tryd.func10, Tryd.ntmps10
    go_upto_region 1 with fail
    rw [← HW.out, ← HP.out]
    clear HW
    go_wp2_with (first
      | (go_at_call 33; ((with_reducible refine (qt _).mono ?_); rintro e w5 ⟨rfl, rfl⟩)))
    try rw [Exit.noGoto_ret]
    go_ret2
    exact ⟨rfl, hb1⟩
  rw [decide_eq_true (show 1 ≤ f.cnt by omega), decide_eq_true (show f.cnt ≤ 4000 by omega)]
  simp only [Bool.and_true, if_true]
  go_enter Tryd.func10, Tryd.ntmps10
  go_upto_region 1 with fail
  rw [← HW.out, ← HP.out]
  clear HW
  go_upto_region 3 with (go_at_call 33; ((with_reducible refine (qt _).mono ?_); rintro e w5 ⟨rfl, rfl⟩))
  clear h1 h2 qt
  try simp only [Act.put]
  refine wp_region_tab [RT.is (.pointer (some ⟨p, 0, none⟩)), RT.is (.int .i64 f.win), RT.is (.string (tB (Oct.putL (u64N f.win)))), RT.is (.pointer (some ⟨p, 1, none⟩)), RT.is (.int .i64 f.cnt), RT.is (.string (tB (Oct.putL (u64N f.cnt)))), RT.is (.pointer (some ⟨p, 2, none⟩)), RT.is (sumV f.root), RT.is (.string (tB (hashL f.root))), RT.rowN [tB (Oct.putL (u64N f.win)), tB (Oct.putL (u64N f.cnt)), tB (hashL f.root)], RT.is (.string (tB (fzL f))), RT.is (.string (tB (fzL f))), RT.is (.int .i64 0)] (by kernel_rfl) (by kernel_rfl) (by kernel_rfl) (by kernel_rfl) ⟨?_, ?_, ?_, ?_, ?_, ?_, ?_, ?_, ?_, ?_, ?_, ?_, ?_, trivial⟩ ?_
  · intro ac w' hF hL hP hU K hK
    have hB := below_undrew hL
    have e1 : ac.eval (.tmp 1) = .pointer (some ⟨p, 0, none⟩) := hF.at 1 (by kernel_rfl)
    exact rop_fld _ _ _ rfl e1 ((fld_fz0 p _).1) (wanted_none rfl) (hK _ _ (le8_refl _) rfl)
  · intro ac w' hF hL hP hU K hK
    have hB := below_undrew hL
    have e18 : ac.eval (.tmp 18) = .pointer (some ⟨p, 0, none⟩) := hP 0 (by kernel_rfl)
    exact rop_ld _ _ rfl e18 (load_intS ((hB.cell (p := ⟨p, _, none⟩) hp1).trans c0)) (wanted_none rfl) (hK _ _ (le8_refl _) rfl)
  · intro ac w' hF hL hP hU K hK
    have hB := below_undrew hL
    have e19 : ac.eval (.tmp 19) = .int .i64 f.win := hP 1 (by kernel_rfl)
    refine rop_call 35 _ _ rfl #[.int .i64 f.win] (by simp [e19]) (by kernel_rfl) (wanted_none rfl) ?_
    refine (number_any f.win w').mono ?_
    rintro e w2 ⟨rfl, hb⟩
    exact ⟨_, rfl, hK _ _ hb rfl⟩
  · intro ac w' hF hL hP hU K hK
    have hB := below_undrew hL
    have e1 : ac.eval (.tmp 1) = .pointer (some ⟨p, 0, none⟩) := hF.at 1 (by kernel_rfl)
    exact rop_fld _ _ _ rfl e1 ((fld_fz0 p _).2.1) (wanted_none rfl) (hK _ _ (le8_refl _) rfl)
  · intro ac w' hF hL hP hU K hK
    have hB := below_undrew hL
    have e21 : ac.eval (.tmp 21) = .pointer (some ⟨p, 1, none⟩) := hP 3 (by kernel_rfl)
    exact rop_ld _ _ rfl e21 (load_intS ((hB.cell (p := ⟨p, _, none⟩) hp1).trans c1)) (wanted_none rfl) (hK _ _ (le8_refl _) rfl)
  · intro ac w' hF hL hP hU K hK
    have hB := below_undrew hL
    have e22 : ac.eval (.tmp 22) = .int .i64 f.cnt := hP 4 (by kernel_rfl)
    refine rop_call 35 _ _ rfl #[.int .i64 f.cnt] (by simp [e22]) (by kernel_rfl) (wanted_none rfl) ?_
    refine (number_any f.cnt w').mono ?_
    rintro e w2 ⟨rfl, hb⟩
    exact ⟨_, rfl, hK _ _ hb rfl⟩
  · intro ac w' hF hL hP hU K hK
    have hB := below_undrew hL
    have e1 : ac.eval (.tmp 1) = .pointer (some ⟨p, 0, none⟩) := hF.at 1 (by kernel_rfl)
    exact rop_fld _ _ _ rfl e1 ((fld_fz0 p _).2.2) (wanted_none rfl) (hK _ _ (le8_refl _) rfl)
  · intro ac w' hF hL hP hU K hK
    have hB := below_undrew hL
    have e24 : ac.eval (.tmp 24) = .pointer (some ⟨p, 2, none⟩) := hP 6 (by kernel_rfl)
    exact rop_ld _ _ rfl e24 (load_sumAt (below_range' hB hp1 HR.out.root) hf) (wanted_none rfl) (hK _ _ (le8_refl _) rfl)
  · intro ac w' hF hL hP hU K hK
    have hB := below_undrew hL
    have e25 : ac.eval (.tmp 25) = sumV f.root := hP 7 (by kernel_rfl)
    refine rop_call 36 _ _ rfl #[sumV f.root] (by simp [e25]) (by kernel_rfl) (wanted_none rfl) ?_
    refine (hashS_any f.root hf w').mono ?_
    rintro e w2 ⟨rfl, hb⟩
    exact ⟨_, rfl, hK _ _ hb rfl⟩
  · intro ac w' hF hL hP hU K hK
    have hB := below_undrew hL
    have e20 : ac.eval (.tmp 20) = .string (tB (Oct.putL (u64N f.win))) := hP 2 (by kernel_rfl)
    have e23 : ac.eval (.tmp 23) = .string (tB (Oct.putL (u64N f.cnt))) := hP 5 (by kernel_rfl)
    have e26 : ac.eval (.tmp 26) = .string (tB (hashL f.root)) := hP 8 (by kernel_rfl)
    refine rop_textsN 3 _ rfl [tB (Oct.putL (u64N f.win)), tB (Oct.putL (u64N f.cnt)), tB (hashL f.root)] ?_ rfl (by decide) (by decide) (wanted_none rfl) (fun v w2 hb hr => hK v w2 hb hr)
    simp [e20, e23, e26, List.range, List.range.loop]
  · intro ac w' hF hL hP hU K hK
    have hB := below_undrew hL
    have e27 : StrN w' (ac.eval (.tmp 27)) [tB (Oct.putL (u64N f.win)), tB (Oct.putL (u64N f.cnt)), tB (hashL f.root)] := hP 9 (by kernel_rfl)
    refine rop_call 34 _ _ rfl #[.string { data := #[70] }, ac.eval (.tmp 27)] (by simp [eval_const]) (by kernel_rfl) (wanted_none rfl) ?_
    refine (HS.out w' _ e27).mono ?_
    rintro e w2 ⟨rfl, hb⟩
    exact ⟨_, rfl, hK _ _ hb rfl⟩
  · intro ac w' hF hL hP hU K hK
    have hB := below_undrew hL
    have e28 : ac.eval (.tmp 28) = .string (tB (fzL f)) := hP 10 (by kernel_rfl)
    exact rop_assign _ rfl e28 (wanted_none rfl) (hK _ _ (le8_refl _) rfl)
  · intro ac w' hF hL hP hU K hK
    have hB := below_undrew hL
    exact rop_assign _ rfl rfl (wanted_none rfl) (hK _ _ (le8_refl _) rfl)
  · intro ac w' hF hB hT
    have e2 : ac.eval (.tmp 2) = .string (tB (fzL f)) := hT 11 (by decide)
    have e3 : ac.eval (.tmp 3) = .int .i64 0 := hT 12 (by decide)
    rw [hF.setsG [18, 19, 20, 21, 22, 23, 24, 25, 26, 27, 28, 2, 3] (by kernel_rfl)]
    simp only [List.foldl_cons, List.foldl_nil, List.setIfInBounds_toArray, List.set_cons_succ, List.set_cons_zero, e2, e3]
    generalize ac.eval (.tmp 18) = u18
    generalize ac.eval (.tmp 19) = u19
    generalize ac.eval (.tmp 20) = u20
    generalize ac.eval (.tmp 21) = u21
    generalize ac.eval (.tmp 22) = u22
    generalize ac.eval (.tmp 23) = u23
    generalize ac.eval (.tmp 24) = u24
    generalize ac.eval (.tmp 25) = u25
    generalize ac.eval (.tmp 26) = u26
    generalize ac.eval (.tmp 27) = u27
    generalize ac.eval (.tmp 28) = u28
    clear e2 e3 hT hF ac
    have hbw := below_step hb1 (Nat.le_refl _) hB
    clear hB c0 c1
    go_wp2
    go_ret2
    exact ⟨rfl, hbw⟩
set_option maxHeartbeats 3200000 in
set_option maxRecDepth 100000 in
theorem hdSays_any (f : HdR) (hf : f.root.length = 32) (w : World) :
    Calls Tryd.prog 40 #[.agg (hdCs f).toArray] w fun e w' => e = .returned (.string (hdT f)) ∧ Below w.heap.size w w' := by
  obtain ⟨p, hp⟩ : ∃ p, p = w.heap.size := ⟨_, rfl⟩
  obtain ⟨W, hW⟩ : ∃ W, W = w.alloc (.cells (hdCs f).toArray 27) := ⟨_, rfl⟩
  have hb1 : Below w.heap.size w W := by rw [hW]; exact below_boxS _ _
  have hr : HdAt p f W := by rw [hW, hp]; exact Blk.alloc _ _ _
  have hp1 : p < W.heap.size := Blk.lt hr
  have HW := Lib.hid hW
  have HP := Lib.hid hp
  have HR := Lib.hid hr
  have c0 := hr.size
  have c33 := hr.clock hf
  have hlen := hdL_length hf
  have HS : Hid (∀ (u : World) (v : Value), StrN u v [tB (Oct.putL (u64N f.size)), tB (hashL f.root), tB (Oct.putL (u64N f.clock))] → Calls Tryd.prog 34 #[.string ⟨#[72]⟩, v] u fun e w' => e = .returned (.string (tB (hdL f))) ∧ Below u.heap.size u w') := Lib.hid fun u v hv => said3 72 _ _ _ v u hv (by unfold hdL at hlen; simp only [List.length_cons] at hlen; omega)
  clear hW hp hr hlen
  have qt := fun u => isTime_any f.clock u
  unfold hdT hdB mayB
  generalize timB f.clock = A at qt ⊢
  by_cases h1 : f.size < 0
  · rw [decide_eq_false (show ¬ 0 ≤ f.size by omega)]
    simp only [Bool.false_and, Bool.false_eq_true, if_false]
    go_enter Tryd.func40, Tryd.ntmps40
    go_upto_region 1 with fail
    rw [← HW.out, ← HP.out]
    clear HW
    go_wp2_with (first
      | (go_at_call 33; ((with_reducible refine (qt _).mono ?_); rintro e w5 ⟨rfl, rfl⟩)))
    try rw [Exit.noGoto_ret]
    go_ret
    exact ⟨rfl, hb1⟩
  by_cases h2 : 1099511627776 < f.size
  · rw [decide_eq_false (show ¬ f.size ≤ 1099511627776 by omega)]
    simp only [Bool.and_false, Bool.false_and, Bool.false_eq_true, if_false]
    go_enter Tryd.func40, Tryd.ntmps40
    go_upto_region 1 with fail
    rw [← HW.out, ← HP.out]
    clear HW
    go_wp2_with (first
      | (go_at_call 33; ((with_reducible refine (qt _).mono ?_); rintro e w5 ⟨rfl, rfl⟩)))
    try rw [Exit.noGoto_ret]
    go_ret
    exact ⟨rfl, hb1⟩
  rw [decide_eq_true (show 0 ≤ f.size by omega), decide_eq_true (show f.size ≤ 1099511627776 by omega)]
  cases A
  · simp only [Bool.and_false, Bool.false_eq_true, if_false]
    go_enter Tryd.func40, Tryd.ntmps40
    go_upto_region 1 with fail
    rw [← HW.out, ← HP.out]
    clear HW
    go_wp2_with (first
      | (go_at_call 33; ((with_reducible refine (qt _).mono ?_); rintro e w5 ⟨rfl, rfl⟩)))
    try rw [Exit.noGoto_ret]
    go_ret
    exact ⟨rfl, hb1⟩
  simp only [Bool.and_true, if_true]
  go_enter Tryd.func40, Tryd.ntmps40
  go_upto_region 1 with fail
  rw [← HW.out, ← HP.out]
  clear HW
  go_upto_region 3 with (go_at_call 33; ((with_reducible refine (qt _).mono ?_); rintro e w5 ⟨rfl, rfl⟩))
  clear h1 h2 qt
  try simp only [Act.put]
  refine wp_region_tab [RT.is (.pointer (some ⟨p, 0, none⟩)), RT.is (.int .i64 f.size), RT.is (.string (tB (Oct.putL (u64N f.size)))), RT.is (.pointer (some ⟨p, 1, none⟩)), RT.is (sumV f.root), RT.is (.string (tB (hashL f.root))), RT.is (.pointer (some ⟨p, 33, none⟩)), RT.is (.int .i64 f.clock), RT.is (.string (tB (Oct.putL (u64N f.clock)))), RT.rowN [tB (Oct.putL (u64N f.size)), tB (hashL f.root), tB (Oct.putL (u64N f.clock))], RT.is (.string (tB (hdL f))), RT.is (.string (tB (hdL f)))] (by kernel_rfl) (by kernel_rfl) (by kernel_rfl) (by kernel_rfl) ⟨?_, ?_, ?_, ?_, ?_, ?_, ?_, ?_, ?_, ?_, ?_, ?_, trivial⟩ ?_
  · intro ac w' hF hL hP hU K hK
    have hB := below_undrew hL
    have e1 : ac.eval (.tmp 1) = .pointer (some ⟨p, 0, none⟩) := hF.at 1 (by kernel_rfl)
    exact rop_fld _ _ _ rfl e1 ((fld_hd0 p _).1) (wanted_none rfl) (hK _ _ (le8_refl _) rfl)
  · intro ac w' hF hL hP hU K hK
    have hB := below_undrew hL
    have e17 : ac.eval (.tmp 17) = .pointer (some ⟨p, 0, none⟩) := hP 0 (by kernel_rfl)
    exact rop_ld _ _ rfl e17 (load_intS ((hB.cell (p := ⟨p, _, none⟩) hp1).trans c0)) (wanted_none rfl) (hK _ _ (le8_refl _) rfl)
  · intro ac w' hF hL hP hU K hK
    have hB := below_undrew hL
    have e18 : ac.eval (.tmp 18) = .int .i64 f.size := hP 1 (by kernel_rfl)
    refine rop_call 35 _ _ rfl #[.int .i64 f.size] (by simp [e18]) (by kernel_rfl) (wanted_none rfl) ?_
    refine (number_any f.size w').mono ?_
    rintro e w2 ⟨rfl, hb⟩
    exact ⟨_, rfl, hK _ _ hb rfl⟩
  · intro ac w' hF hL hP hU K hK
    have hB := below_undrew hL
    have e1 : ac.eval (.tmp 1) = .pointer (some ⟨p, 0, none⟩) := hF.at 1 (by kernel_rfl)
    exact rop_fld _ _ _ rfl e1 ((fld_hd0 p _).2.1) (wanted_none rfl) (hK _ _ (le8_refl _) rfl)
  · intro ac w' hF hL hP hU K hK
    have hB := below_undrew hL
    have e20 : ac.eval (.tmp 20) = .pointer (some ⟨p, 1, none⟩) := hP 3 (by kernel_rfl)
    exact rop_ld _ _ rfl e20 (load_sumAt (below_range' hB hp1 HR.out.root) hf) (wanted_none rfl) (hK _ _ (le8_refl _) rfl)
  · intro ac w' hF hL hP hU K hK
    have hB := below_undrew hL
    have e21 : ac.eval (.tmp 21) = sumV f.root := hP 4 (by kernel_rfl)
    refine rop_call 36 _ _ rfl #[sumV f.root] (by simp [e21]) (by kernel_rfl) (wanted_none rfl) ?_
    refine (hashS_any f.root hf w').mono ?_
    rintro e w2 ⟨rfl, hb⟩
    exact ⟨_, rfl, hK _ _ hb rfl⟩
  · intro ac w' hF hL hP hU K hK
    have hB := below_undrew hL
    have e1 : ac.eval (.tmp 1) = .pointer (some ⟨p, 0, none⟩) := hF.at 1 (by kernel_rfl)
    exact rop_fld _ _ _ rfl e1 ((fld_hd0 p _).2.2.1) (wanted_none rfl) (hK _ _ (le8_refl _) rfl)
  · intro ac w' hF hL hP hU K hK
    have hB := below_undrew hL
    have e23 : ac.eval (.tmp 23) = .pointer (some ⟨p, 33, none⟩) := hP 6 (by kernel_rfl)
    exact rop_ld _ _ rfl e23 (load_intS ((hB.cell (p := ⟨p, _, none⟩) hp1).trans c33)) (wanted_none rfl) (hK _ _ (le8_refl _) rfl)
  · intro ac w' hF hL hP hU K hK
    have hB := below_undrew hL
    have e24 : ac.eval (.tmp 24) = .int .i64 f.clock := hP 7 (by kernel_rfl)
    refine rop_call 35 _ _ rfl #[.int .i64 f.clock] (by simp [e24]) (by kernel_rfl) (wanted_none rfl) ?_
    refine (number_any f.clock w').mono ?_
    rintro e w2 ⟨rfl, hb⟩
    exact ⟨_, rfl, hK _ _ hb rfl⟩
  · intro ac w' hF hL hP hU K hK
    have hB := below_undrew hL
    have e19 : ac.eval (.tmp 19) = .string (tB (Oct.putL (u64N f.size))) := hP 2 (by kernel_rfl)
    have e22 : ac.eval (.tmp 22) = .string (tB (hashL f.root)) := hP 5 (by kernel_rfl)
    have e25 : ac.eval (.tmp 25) = .string (tB (Oct.putL (u64N f.clock))) := hP 8 (by kernel_rfl)
    refine rop_textsN 3 _ rfl [tB (Oct.putL (u64N f.size)), tB (hashL f.root), tB (Oct.putL (u64N f.clock))] ?_ rfl (by decide) (by decide) (wanted_none rfl) (fun v w2 hb hr => hK v w2 hb hr)
    simp [e19, e22, e25, List.range, List.range.loop]
  · intro ac w' hF hL hP hU K hK
    have hB := below_undrew hL
    have e26 : StrN w' (ac.eval (.tmp 26)) [tB (Oct.putL (u64N f.size)), tB (hashL f.root), tB (Oct.putL (u64N f.clock))] := hP 9 (by kernel_rfl)
    refine rop_call 34 _ _ rfl #[.string { data := #[72] }, ac.eval (.tmp 26)] (by simp [eval_const]) (by kernel_rfl) (wanted_none rfl) ?_
    refine (HS.out w' _ e26).mono ?_
    rintro e w2 ⟨rfl, hb⟩
    exact ⟨_, rfl, hK _ _ hb rfl⟩
  · intro ac w' hF hL hP hU K hK
    have hB := below_undrew hL
    have e27 : ac.eval (.tmp 27) = .string (tB (hdL f)) := hP 10 (by kernel_rfl)
    exact rop_assign _ rfl e27 (wanted_none rfl) (hK _ _ (le8_refl _) rfl)
  · intro ac w' hF hB hT
    have e2 : ac.eval (.tmp 2) = .string (tB (hdL f)) := hT 11 (by decide)
    rw [hF.setsG [17, 18, 19, 20, 21, 22, 23, 24, 25, 26, 27, 2] (by kernel_rfl)]
    simp only [List.foldl_cons, List.foldl_nil, List.setIfInBounds_toArray, List.set_cons_succ, List.set_cons_zero, e2]
    generalize ac.eval (.tmp 17) = u17
    generalize ac.eval (.tmp 18) = u18
    generalize ac.eval (.tmp 19) = u19
    generalize ac.eval (.tmp 20) = u20
    generalize ac.eval (.tmp 21) = u21
    generalize ac.eval (.tmp 22) = u22
    generalize ac.eval (.tmp 23) = u23
    generalize ac.eval (.tmp 24) = u24
    generalize ac.eval (.tmp 25) = u25
    generalize ac.eval (.tmp 26) = u26
    generalize ac.eval (.tmp 27) = u27
    clear e2 hT hF ac
    have hbw := below_step hb1 (Nat.le_refl _) hB
    clear hB c0 c33
    go_wp2
    go_ret
    exact ⟨rfl, hbw⟩
end Go.Proofs.YtlcljjapeigaeaaDoor
