/-
  Package seal: leaves of freezes; heads and stones are made, and told right.
-/
import Derived.Test.YtlcljjapeigaeaaDoorSelSign
namespace Go.Proofs.YtlcljjapeigaeaaDoor
open Go.RowKit

/-- The sum by the key of what is said, if it may be. -/
def sgn (K : List UInt8) (b : Bool) (l : List UInt8) : List UInt8 := if b then Mac.mac K l else z32
theorem sgn_length (K : List UInt8) (b : Bool) (l : List UInt8) : (sgn K b l).length = 32 := by
  unfold sgn
  split
  · exact Mac.mac_length _ _
  · exact z32_length
/-- A head, a stone, signed. -/
def hdMk (K : List UInt8) (s : Int) (r : List UInt8) (c : Int) : HdR := ⟨s, r, c, sgn K (hdB ⟨s, r, c, z32⟩) (hdL ⟨s, r, c, z32⟩)⟩
def stMk (K : List UInt8) (f : FzR) (t : Int) : StR := ⟨f, t, sgn K (stB ⟨f, t, z32⟩) (stL ⟨f, t, z32⟩)⟩
def fzLf (f : FzR) : List UInt8 := Tree.leafH (fzT f).data.toList

set_option maxHeartbeats 3200000 in
set_option maxRecDepth 100000 in
theorem fzLeaf_any (f : FzR) (hf : f.root.length = 32) (w : World) (hK : KT w) :
    Calls Tryd.prog 16 #[.agg (fzCs f).toArray] w fun e w' => e = .returned (sumV (fzLf f)) ∧ Below w.heap.size w w' := by
  obtain ⟨p, hp⟩ : ∃ p, p = w.heap.size := ⟨_, rfl⟩
  obtain ⟨W, hW⟩ : ∃ W, W = w.alloc (.cells (fzCs f).toArray 25) := ⟨_, rfl⟩
  have hb1 : Below w.heap.size w W := by rw [hW]; exact below_boxS _ _
  have hr : FzAt p f W := by rw [hW, hp]; exact Blk.alloc _ _ _
  have hp1 : p < W.heap.size := Blk.lt hr
  have HW := Lib.hid hW
  have HP := Lib.hid hp
  have HR := Lib.hid hr
  obtain ⟨q, hq⟩ : ∃ q, q = p + 1 := ⟨_, rfl⟩
  obtain ⟨V, hV⟩ : ∃ V, V = W.alloc zSum := ⟨_, rfl⟩
  have hWs : W.heap.size = q := by rw [hW, hq, hp]; simp
  have zq : V.heap[q]? = some (.cells ((List.replicate 32 (0 : UInt8)).map u8V).toArray 23 (0, 0)) := by rw [hV, ← hWs]; exact heap_alloc_last W _
  have b2 : Below W.heap.size W V := by rw [hV]; exact below_boxS _ _
  have hq1 : q < V.heap.size := (Array.getElem?_eq_some_iff.1 zq).1
  have hwq : w.heap.size ≤ q := by omega
  have HRg : Hid (V.rangeAt p 0 (fzCs f)) := Lib.hid (Blk.all (Blk.old hr b2 hp1))
  have HI : Hid ((Tryd.prog.info? 25).map (·.size) = some (fzCs f).length) := Lib.hid (by rw [fzCs_length hf]; exact size_fz)
  have hb2 := below_step hb1 (Nat.le_refl _) b2
  obtain ⟨D, hD⟩ : ∃ D, D = fzLf f := ⟨_, rfl⟩
  have HDl : Hid (D.length = 32) := Lib.hid (by rw [hD]; exact Tree.leafH_length _)
  rw [← hD]
  have qf := fun u => fzBytes_any f hf u
  have hsz : (fzT f).size < 1000 := by
    have := fzL_length hf
    unfold fzT
    split
    · rw [tB_size]; omega
    · rw [tB_size]; decide
  have ql : ∀ u : World, KT u → Calls Tryd.prog 44 #[.string (fzT f)] u fun e w' => e = .returned (sumV D) ∧ Below u.heap.size u w' := fun u hu => by rw [hD]; exact leafLeaf_any _ _ rfl u hu (by rw [← Lib.size_eq]; omega)
  have HV := Lib.hid hV
  have HQ := Lib.hid hq
  have HZ := Lib.hid zq
  have HK := Lib.hid hK
  generalize fzT f = S at *
  generalize fzZ f = Z at *
  clear hW hp hr hV hq zq b2 hWs hp1 hD hsz hb1
  go_enter Tryd.func16, Tryd.ntmps16
  go_upto_region 1 with fail
  rw [← HW.out, ← HP.out]
  change Code.wp _ _ _ _ (W.alloc zSum)
  rw [← HV.out, ← HQ.out]
  clear HW HV
  go_upto_region 2 with (first | refine wpList_load_mid rfl 25 (.tmp 1) rfl p 0 rfl (fzCs f) _ HRg.out Tryd.underlying25 rfl HI.out ?_ | (go_at_call 10; ((with_reducible refine (qf _).mono ?_); rintro e w4 ⟨rfl, b4⟩)))
  have z4 := Lib.hid ((b4.block _ hq1).trans HZ.out)
  have hb4 := below_step hb2 (Nat.le_refl _) b4
  have hq4 := Nat.lt_of_lt_of_le hq1 b4.size
  have hK4 := HK.out.old hb4
  clear b4 qf HRg hb2 hq1
  go_wp2_with (first
    | (go_at_call 44; ((with_reducible refine (ql _ hK4).mono ?_); rintro e w5 ⟨rfl, b5⟩; have z5 := Lib.hid ((b5.block _ hq4).trans z4.out)))
    | refine wpList_store_mid rfl 23 (.tmp 2) (.tmp 11) rfl q 0 (D.map u8V).toArray rfl rfl (sum_there z5.out HDl.out) (sum_info HDl.out) (sum_one D) ?_)
  exact bodyPost_ret (v := sumV D) (results_cell (t := 2) (ty := 23) (b := q) (cs := D.map u8V) rfl _ _ _ rfl (sum_range z5.out HDl.out) Tryd.underlying23 rfl (sum_info' HDl.out)) rfl ⟨rfl, below_setCells hwq _ _ _ (below_step hb4 (Nat.le_refl _) b5)⟩
set_option maxHeartbeats 1600000 in
set_option maxRecDepth 100000 in
theorem sign_nil (key : ByteArray) (w : World) :
    Calls Tryd.prog 60 #[.string key, .string (tB [])] w fun e w' => e = .returned (sumV z32) ∧ Below w.heap.size w w' := by
  obtain ⟨w0, hw0⟩ : ∃ w0, w0 = w.alloc zSum := ⟨_, rfl⟩
  have b0 : Below w.heap.size w w0 := by rw [hw0]; exact below_boxS _ _
  have z0 : w0.heap[w.heap.size]? = some (.cells ((List.replicate 32 (0 : UInt8)).map u8V).toArray 23 (0, 0)) := by rw [hw0]; exact heap_alloc_last _ _
  have l0 : w.heap.size < w0.heap.size := by rw [hw0]; simp
  have Z0 := Lib.hid z0
  have HW := Lib.hid hw0
  obtain ⟨q, hq⟩ : ∃ q, q = w.heap.size := ⟨_, rfl⟩
  rw [← hq] at Z0 l0
  have hwq : w.heap.size ≤ q := by omega
  have HQ := Lib.hid hq
  clear hw0 z0 hq
  go_enter Tryd.func60, Tryd.ntmps60
  go_upto_region 1 with fail
  change Code.wp _ _ _ _ (w.alloc zSum)
  rw [← HW.out, ← HQ.out]
  clear HW
  try simp only [Act.put]
  refine wp_region_tab0 [RT.is (.string (tB [])), RT.is (.bool true)] (by kernel_rfl) (by kernel_rfl) (by kernel_rfl) ⟨?_, ?_, trivial⟩ ?_
  · intro ac w' hF hL hP hU K hK
    have hB : Below _ _ _ := hL
    have e1 : ac.eval (.tmp 1) = .string (tB []) := hF.at 1 (by kernel_rfl)
    exact rop_move _ rfl e1 (wanted_none rfl) (hK _ _ (le8_refl _) rfl)
  · intro ac w' hF hL hP hU K hK
    have hB : Below _ _ _ := hL
    have e5 : ac.eval (.tmp 5) = .string (tB []) := hP 0 (by kernel_rfl)
    exact rop_bin _ _ _ _ _ rfl e5 rfl (guard_str _ _ _ _ _ _ w') (eql_empty0 w') (wanted_none rfl) (hK _ _ (le8_refl _) rfl)
  · intro ac w' hF hB hT
    have e6 : ac.eval (.tmp 6) = .bool true := hT 1 (by decide)
    rw [hF.setsG [5, 6] (by kernel_rfl)]
    simp only [List.foldl_cons, List.foldl_nil, List.setIfInBounds_toArray, List.set_cons_succ, List.set_cons_zero, e6]
    generalize ac.eval (.tmp 5) = u5
    clear e6 hT hF ac
    have z1 := Lib.hid ((hB.block _ l0).trans Z0.out)
    have hb1 := below_step b0 (Nat.le_refl _) hB
    clear hB b0 Z0
    go_wp2_with (first
      | refine wpList_build_at rfl 23 #[] rfl (z32.map u8V).toArray [] rfl (by kernel_rfl) ?_
      | refine wpList_store_mid rfl 23 (.tmp 4) (.tmp 7) rfl q 0 (z32.map u8V).toArray rfl rfl (sum_there z1.out z32_length) (sum_info z32_length) (sum_one z32) ?_)
    exact bodyPost_ret (v := sumV z32) (results_cell (t := 4) (ty := 23) (b := q) (cs := z32.map u8V) rfl _ _ _ rfl (sum_range z1.out z32_length) Tryd.underlying23 rfl (sum_info' z32_length)) rfl ⟨rfl, below_setCells hwq _ _ _ hb1⟩
set_option maxHeartbeats 1600000 in
set_option maxRecDepth 100000 in
theorem sign_some (key : ByteArray) (l : List UInt8) (hl : l ≠ []) (hk : key.size ≤ 1000000) (hs : l.length ≤ 1000000) (w : World) (hK : KT w) :
    Calls Tryd.prog 60 #[.string key, .string (tB l)] w fun e w' => e = .returned (sumV (Mac.mac key.data.toList l)) ∧ Below w.heap.size w w' := by
  obtain ⟨D, hD⟩ : ∃ D, D = Mac.mac key.data.toList l := ⟨_, rfl⟩
  have HDl : Hid (D.length = 32) := Lib.hid (by rw [hD]; exact Mac.mac_length _ _)
  rw [← hD]
  obtain ⟨w0, hw0⟩ : ∃ w0, w0 = w.alloc zSum := ⟨_, rfl⟩
  have b0 : Below w.heap.size w w0 := by rw [hw0]; exact below_boxS _ _
  have z0 : w0.heap[w.heap.size]? = some (.cells ((List.replicate 32 (0 : UInt8)).map u8V).toArray 23 (0, 0)) := by rw [hw0]; exact heap_alloc_last _ _
  have l0 : w.heap.size < w0.heap.size := by rw [hw0]; simp
  have Z0 := Lib.hid z0
  have HW := Lib.hid hw0
  obtain ⟨q, hq⟩ : ∃ q, q = w.heap.size := ⟨_, rfl⟩
  rw [← hq] at Z0 l0
  have hwq : w.heap.size ≤ q := by omega
  have HQ := Lib.hid hq
  clear hw0 z0 hq
  have HS : Hid (∀ u : World, KT u → Calls Tryd.prog 77 #[.string key, .slice (some ⟨u.heap.size, 0, none⟩) 1 1] (u.alloc (.cells #[.string (tB l)] 9)) fun e w' => e = .returned (sumV D) ∧ Below (u.alloc (.cells #[.string (tB l)] 9)).heap.size (u.alloc (.cells #[.string (tB l)] 9)) w') := Lib.hid fun u hu => by
    rw [hD]
    exact macOf_any key _ rfl _ [tB l] l (by rw [flat_one]; rfl) _ (StrRow.one u (tB l)) (hu.old (below_boxS _ _)) (by rw [← Lib.size_eq]; omega) (by omega)
  have HK0 := Lib.hid (hK.old b0)
  clear hD hK
  go_enter Tryd.func60, Tryd.ntmps60
  go_upto_region 1 with fail
  change Code.wp _ _ _ _ (w.alloc zSum)
  rw [← HW.out, ← HQ.out]
  clear HW
  try simp only [Act.put]
  refine wp_region_tab0 [RT.is (.string (tB l)), RT.is (.bool false)] (by kernel_rfl) (by kernel_rfl) (by kernel_rfl) ⟨?_, ?_, trivial⟩ ?_
  · intro ac w' hF hL hP hU K hK
    have hB : Below _ _ _ := hL
    have e1 : ac.eval (.tmp 1) = .string (tB l) := hF.at 1 (by kernel_rfl)
    exact rop_move _ rfl e1 (wanted_none rfl) (hK _ _ (le8_refl _) rfl)
  · intro ac w' hF hL hP hU K hK
    have hB : Below _ _ _ := hL
    have e5 : ac.eval (.tmp 5) = .string (tB l) := hP 0 (by kernel_rfl)
    exact rop_bin _ _ _ _ _ rfl e5 rfl (guard_str _ _ _ _ _ _ w') (eql_empty l hl w') (wanted_none rfl) (hK _ _ (le8_refl _) rfl)
  · intro ac w' hF hB hT
    have e6 : ac.eval (.tmp 6) = .bool false := hT 1 (by decide)
    rw [hF.setsG [5, 6] (by kernel_rfl)]
    simp only [List.foldl_cons, List.foldl_nil, List.setIfInBounds_toArray, List.set_cons_succ, List.set_cons_zero, e6]
    generalize ac.eval (.tmp 5) = u5
    clear e6 hT hF ac
    have z1 := Lib.hid ((hB.block _ l0).trans Z0.out)
    have hb1 := below_step b0 (Nat.le_refl _) hB
    have hK1 := Lib.hid (HK0.out.old hB)
    have l1 := Nat.lt_of_lt_of_le l0 hB.size
    clear hB b0 Z0 HK0 l0
    have HM := Lib.hid (HS.out w' hK1.out)
    have b2 : Below w'.heap.size w' (w'.alloc (.cells #[.string (tB l)] 9)) := below_boxS _ _
    have z2 := Lib.hid ((b2.block _ l1).trans z1.out)
    have l2 := Nat.lt_of_lt_of_le l1 b2.size
    have hb2 := below_step hb1 (Nat.le_refl _) b2
    clear b2 z1 hb1 HS
    generalize tB l = S at *
    go_wp2_with (first
      | (go_at_call 77; refine HM.out.mono ?_; rintro e w5 ⟨rfl, b5⟩; have z5 := Lib.hid ((b5.block _ l2).trans z2.out))
      | refine wpList_store_mid rfl 23 (.tmp 4) (.tmp 11) rfl q 0 (D.map u8V).toArray rfl rfl (sum_there z5.out HDl.out) (sum_info HDl.out) (sum_one D) ?_)
    exact bodyPost_ret (v := sumV D) (results_cell (t := 4) (ty := 23) (b := q) (cs := D.map u8V) rfl _ _ _ rfl (sum_range z5.out HDl.out) Tryd.underlying23 rfl (sum_info' HDl.out)) rfl ⟨rfl, below_setCells hwq _ _ _ (below_step hb2 (Nat.le_refl _) b5)⟩
theorem sign_hd (key : ByteArray) (hk : key.size ≤ 1000000) (f : HdR) (hf : f.root.length = 32) (w : World) (hK : KT w) :
    Calls Tryd.prog 60 #[.string key, .string (hdT f)] w fun e w' => e = .returned (sumV (sgn key.data.toList (hdB f) (hdL f))) ∧ Below w.heap.size w w' := by
  have h1 := hdL_length hf
  unfold hdT sgn
  by_cases h : hdB f = true
  · rw [if_pos h, if_pos h]; exact sign_some key _ (hdL_ne f) hk (by omega) w hK
  · rw [if_neg h, if_neg h]; exact sign_nil key w
theorem sign_st (key : ByteArray) (hk : key.size ≤ 1000000) (f : StR) (hf : f.fz.root.length = 32) (w : World) (hK : KT w) :
    Calls Tryd.prog 60 #[.string key, .string (stT f)] w fun e w' => e = .returned (sumV (sgn key.data.toList (stB f) (stL f))) ∧ Below w.heap.size w w' := by
  have h1 := stL_length hf
  unfold stT sgn
  by_cases h : stB f = true
  · rw [if_pos h, if_pos h]; exact sign_some key _ (stL_ne f) hk (by omega) w hK
  · rw [if_neg h, if_neg h]; exact sign_nil key w
set_option maxHeartbeats 1600000 in
set_option maxRecDepth 100000 in
theorem right_nil (key : ByteArray) (D : List UInt8) (_hD : D.length = 32) (w : World) :
    Calls Tryd.prog 62 #[.string key, .string (tB []), sumV D] w fun e w' => e = .returned (.bool false) ∧ Below w.heap.size w w' := by
  obtain ⟨p, hp⟩ : ∃ p, p = w.heap.size := ⟨_, rfl⟩
  obtain ⟨W, hW⟩ : ∃ W, W = w.alloc (.cells (D.map u8V).toArray 23) := ⟨_, rfl⟩
  have hb1 : Below w.heap.size w W := by rw [hW]; exact below_boxS _ _
  have hr : Blk p 23 (D.map u8V) W := by rw [hW, hp]; exact Blk.alloc _ _ _
  have hp1 : p < W.heap.size := hr.lt
  have HR : Hid (W.rangeAt p 0 (D.map u8V)) := Lib.hid hr.all
  have HW := Lib.hid hW
  have HP := Lib.hid hp
  clear hW hp hr
  unfold sumV
  go_enter Tryd.func62, Tryd.ntmps62
  go_upto_region 1 with fail
  rw [← HW.out, ← HP.out]
  clear HW
  try simp only [Act.put]
  refine wp_region_tab0 [RT.is (.string (tB [])), RT.is (.bool false), RT.is (.bool false), RT.is undef, RT.is undef, RT.is undef, RT.is undef, RT.is undef, RT.is (.bool false), RT.is (.bool false)] (by kernel_rfl) (by kernel_rfl) (by kernel_rfl) ⟨?_, ?_, ?_, ?_, ?_, ?_, ?_, ?_, ?_, ?_, trivial⟩ ?_
  · intro ac w' hF hL hP hU K hK
    have hB : Below _ _ _ := hL
    have e1 : ac.eval (.tmp 1) = .string (tB []) := hF.at 1 (by kernel_rfl)
    exact rop_move _ rfl e1 (wanted_none rfl) (hK _ _ (le8_refl _) rfl)
  · intro ac w' hF hL hP hU K hK
    have hB : Below _ _ _ := hL
    have e7 : ac.eval (.tmp 7) = .string (tB []) := hP 0 (by kernel_rfl)
    exact rop_bin _ _ _ _ _ rfl e7 rfl (guard_str _ _ _ _ _ _ w') (neq_empty0 w') (wanted_none rfl) (hK _ _ (le8_refl _) rfl)
  · intro ac w' hF hL hP hU K hK
    have hB : Below _ _ _ := hL
    have e8 : ac.eval (.tmp 8) = .bool false := hP 1 (by kernel_rfl)
    exact rop_move _ rfl e8 (wanted_none rfl) (hK _ _ (le8_refl _) rfl)
  · intro ac w' hF hL hP hU K hK
    have hB : Below _ _ _ := hL
    have e9 : ac.eval (.tmp 9) = .bool false := hP 2 (by kernel_rfl)
    exact rop_offG (j := 2) (b := true) rfl rfl e9 (by decide) (hK _ _ (le8_refl _) rfl)
  · intro ac w' hF hL hP hU K hK
    have hB : Below _ _ _ := hL
    have e9 : ac.eval (.tmp 9) = .bool false := hP 2 (by kernel_rfl)
    exact rop_offG (j := 2) (b := true) rfl rfl e9 (by decide) (hK _ _ (le8_refl _) rfl)
  · intro ac w' hF hL hP hU K hK
    have hB : Below _ _ _ := hL
    have e9 : ac.eval (.tmp 9) = .bool false := hP 2 (by kernel_rfl)
    exact rop_offG (j := 2) (b := true) rfl rfl e9 (by decide) (hK _ _ (le8_refl _) rfl)
  · intro ac w' hF hL hP hU K hK
    have hB : Below _ _ _ := hL
    have e9 : ac.eval (.tmp 9) = .bool false := hP 2 (by kernel_rfl)
    exact rop_offG (j := 2) (b := true) rfl rfl e9 (by decide) (hK _ _ (le8_refl _) rfl)
  · intro ac w' hF hL hP hU K hK
    have hB : Below _ _ _ := hL
    have e9 : ac.eval (.tmp 9) = .bool false := hP 2 (by kernel_rfl)
    exact rop_offG (j := 2) (b := true) rfl rfl e9 (by decide) (hK _ _ (le8_refl _) rfl)
  · intro ac w' hF hL hP hU K hK
    have hB : Below _ _ _ := hL
    have e9 : ac.eval (.tmp 9) = .bool false := hP 2 (by kernel_rfl)
    exact rop_pick _ _ _ rfl false e9 (by rfl) (wanted_none rfl) (hK _ _ (le8_refl _) rfl)
  · intro ac w' hF hL hP hU K hK
    have hB : Below _ _ _ := hL
    have e15 : ac.eval (.tmp 15) = .bool false := hP 8 (by kernel_rfl)
    exact rop_assign _ rfl e15 (wanted_none rfl) (hK _ _ (le8_refl _) rfl)
  · intro ac w' hF hB hT
    have e6 : ac.eval (.tmp 6) = .bool false := hT 9 (by decide)
    rw [hF.setsG [7, 8, 9, 10, 11, 12, 13, 14, 15, 6] (by kernel_rfl)]
    simp only [List.foldl_cons, List.foldl_nil, List.setIfInBounds_toArray, List.set_cons_succ, List.set_cons_zero, e6]
    generalize ac.eval (.tmp 7) = u7
    generalize ac.eval (.tmp 8) = u8
    generalize ac.eval (.tmp 9) = u9
    generalize ac.eval (.tmp 10) = u10
    generalize ac.eval (.tmp 11) = u11
    generalize ac.eval (.tmp 12) = u12
    generalize ac.eval (.tmp 13) = u13
    generalize ac.eval (.tmp 14) = u14
    generalize ac.eval (.tmp 15) = u15
    clear e6 hT hF ac
    have hbw := below_step hb1 (Nat.le_refl _) hB
    clear hB
    go_wp2
    go_ret
    exact ⟨rfl, hbw⟩
set_option maxHeartbeats 1600000 in
set_option maxRecDepth 100000 in
theorem right_some (key : ByteArray) (l : List UInt8) (hl : l ≠ []) (hk : key.size ≤ 1000000) (hs : l.length ≤ 1000000) (D : List UInt8) (hD : D.length = 32) (w : World) (hKT : KT w) :
    Calls Tryd.prog 62 #[.string key, .string (tB l), sumV D] w fun e w' => e = .returned (.bool (decide (Mac.mac key.data.toList l = D))) ∧ Below w.heap.size w w' := by
  obtain ⟨R, hR⟩ : ∃ R, R = decide (Mac.mac key.data.toList l = D) := ⟨_, rfl⟩
  rw [← hR]
  obtain ⟨p, hp⟩ : ∃ p, p = w.heap.size := ⟨_, rfl⟩
  obtain ⟨W, hW⟩ : ∃ W, W = w.alloc (.cells (D.map u8V).toArray 23) := ⟨_, rfl⟩
  have hb1 : Below w.heap.size w W := by rw [hW]; exact below_boxS _ _
  have hr : Blk p 23 (D.map u8V) W := by rw [hW, hp]; exact Blk.alloc _ _ _
  have hp1 : p < W.heap.size := hr.lt
  have HR : Hid (W.rangeAt p 0 (D.map u8V)) := Lib.hid hr.all
  have HW := Lib.hid hW
  have HP := Lib.hid hp
  clear hW hp hr
  have HM : Hid (∀ (u : World) (v : Value), StrRow u v [tB l] → Below W.heap.size W u → Calls Tryd.prog 80 #[.string key, sumV D, v] u fun e w' => e = .returned (.bool R) ∧ Below u.heap.size u w') := Lib.hid fun u v hv hu => by
    rw [hR]
    exact macRightF_any key _ rfl D hD v [tB l] l (by rw [flat_one]; rfl) u hv ((hKT.old hb1).old hu) (by rw [← Lib.size_eq]; omega) (by omega)
  clear hR hKT
  unfold sumV
  go_enter Tryd.func62, Tryd.ntmps62
  go_upto_region 1 with fail
  rw [← HW.out, ← HP.out]
  clear HW
  try simp only [Act.put]
  refine wp_region_tab0 [RT.is (.string (tB l)), RT.is (.bool true), RT.is (.bool true), RT.is (.string key), RT.is (sumV D), RT.is (.string (tB l)), RT.row [tB l], RT.is (.bool R), RT.is (.bool R), RT.is (.bool R)] (by kernel_rfl) (by kernel_rfl) (by kernel_rfl) ⟨?_, ?_, ?_, ?_, ?_, ?_, ?_, ?_, ?_, ?_, trivial⟩ ?_
  · intro ac w' hF hL hP hU K hK
    have hB : Below _ _ _ := hL
    have e1 : ac.eval (.tmp 1) = .string (tB l) := hF.at 1 (by kernel_rfl)
    exact rop_move _ rfl e1 (wanted_none rfl) (hK _ _ (le8_refl _) rfl)
  · intro ac w' hF hL hP hU K hK
    have hB : Below _ _ _ := hL
    have e7 : ac.eval (.tmp 7) = .string (tB l) := hP 0 (by kernel_rfl)
    exact rop_bin _ _ _ _ _ rfl e7 rfl (guard_str _ _ _ _ _ _ w') (neq_empty l hl w') (wanted_none rfl) (hK _ _ (le8_refl _) rfl)
  · intro ac w' hF hL hP hU K hK
    have hB : Below _ _ _ := hL
    have e8 : ac.eval (.tmp 8) = .bool true := hP 1 (by kernel_rfl)
    exact rop_move _ rfl e8 (wanted_none rfl) (hK _ _ (le8_refl _) rfl)
  · intro ac w' hF hL hP hU K hK
    have hB : Below _ _ _ := hL
    have e0 : ac.eval (.tmp 0) = .string key := hF.at 0 (by kernel_rfl)
    have e9 : ac.eval (.tmp 9) = .bool true := hP 2 (by kernel_rfl)
    exact rop_move _ rfl e0 (wanted_of (j := 2) (b := true) rfl rfl e9) (hK _ _ (le8_refl _) rfl)
  · intro ac w' hF hL hP hU K hK
    have hB : Below _ _ _ := hL
    have e5 : ac.eval (.tmp 5) = .pointer (some ⟨p, 0, none⟩) := hF.at 5 (by kernel_rfl)
    have e9 : ac.eval (.tmp 9) = .bool true := hP 2 (by kernel_rfl)
    exact rop_ld _ _ rfl e5 (load_sumAt (below_range' hB hp1 HR.out) hD) (wanted_of (j := 2) (b := true) rfl rfl e9) (hK _ _ (le8_refl _) rfl)
  · intro ac w' hF hL hP hU K hK
    have hB : Below _ _ _ := hL
    have e1 : ac.eval (.tmp 1) = .string (tB l) := hF.at 1 (by kernel_rfl)
    have e9 : ac.eval (.tmp 9) = .bool true := hP 2 (by kernel_rfl)
    exact rop_move _ rfl e1 (wanted_of (j := 2) (b := true) rfl rfl e9) (hK _ _ (le8_refl _) rfl)
  · intro ac w' hF hL hP hU K hK
    have hB : Below _ _ _ := hL
    have e12 : ac.eval (.tmp 12) = .string (tB l) := hP 5 (by kernel_rfl)
    have e9 : ac.eval (.tmp 9) = .bool true := hP 2 (by kernel_rfl)
    refine rop_texts 1 _ rfl [tB l] ?_ rfl (by decide) (by decide) (wanted_of (j := 2) (b := true) rfl rfl e9) (fun v w2 hb hr => hK v w2 hb hr)
    simp [e12, List.range, List.range.loop]
  · intro ac w' hF hL hP hU K hK
    have hB : Below _ _ _ := hL
    have e10 : ac.eval (.tmp 10) = .string key := hP 3 (by kernel_rfl)
    have e11 : ac.eval (.tmp 11) = sumV D := hP 4 (by kernel_rfl)
    have e13 : StrRow w' (ac.eval (.tmp 13)) [tB l] := hP 6 (by kernel_rfl)
    have e9 : ac.eval (.tmp 9) = .bool true := hP 2 (by kernel_rfl)
    refine rop_call 80 _ _ rfl #[.string key, sumV D, ac.eval (.tmp 13)] (by simp [e10, e11]) (by kernel_rfl) (wanted_of (j := 2) (b := true) rfl rfl e9) ?_
    refine (HM.out w' _ e13 hB).mono ?_
    rintro e w2 ⟨rfl, hb⟩
    exact ⟨_, rfl, hK _ _ hb rfl⟩
  · intro ac w' hF hL hP hU K hK
    have hB : Below _ _ _ := hL
    have e9 : ac.eval (.tmp 9) = .bool true := hP 2 (by kernel_rfl)
    have e14 : ac.eval (.tmp 14) = .bool R := hP 7 (by kernel_rfl)
    exact rop_pick _ _ _ rfl true e9 (by simpa using e14) (wanted_none rfl) (hK _ _ (le8_refl _) rfl)
  · intro ac w' hF hL hP hU K hK
    have hB : Below _ _ _ := hL
    have e15 : ac.eval (.tmp 15) = .bool R := hP 8 (by kernel_rfl)
    exact rop_assign _ rfl e15 (wanted_none rfl) (hK _ _ (le8_refl _) rfl)
  · intro ac w' hF hB hT
    have e6 : ac.eval (.tmp 6) = .bool R := hT 9 (by decide)
    rw [hF.setsG [7, 8, 9, 10, 11, 12, 13, 14, 15, 6] (by kernel_rfl)]
    simp only [List.foldl_cons, List.foldl_nil, List.setIfInBounds_toArray, List.set_cons_succ, List.set_cons_zero, e6]
    generalize ac.eval (.tmp 7) = u7
    generalize ac.eval (.tmp 8) = u8
    generalize ac.eval (.tmp 9) = u9
    generalize ac.eval (.tmp 10) = u10
    generalize ac.eval (.tmp 11) = u11
    generalize ac.eval (.tmp 12) = u12
    generalize ac.eval (.tmp 13) = u13
    generalize ac.eval (.tmp 14) = u14
    generalize ac.eval (.tmp 15) = u15
    clear e6 hT hF ac
    have hbw := below_step hb1 (Nat.le_refl _) hB
    clear hB
    go_wp2
    go_ret
    exact ⟨rfl, hbw⟩
theorem right_hd (key : ByteArray) (hk : key.size ≤ 1000000) (f : HdR) (hf : f.root.length = 32) (hm : f.mac.length = 32) (w : World) (hK : KT w) :
    Calls Tryd.prog 62 #[.string key, .string (hdT f), sumV f.mac] w fun e w' => e = .returned (.bool (hdB f && decide (Mac.mac key.data.toList (hdL f) = f.mac))) ∧ Below w.heap.size w w' := by
  have h1 := hdL_length hf
  unfold hdT
  by_cases h : hdB f = true
  · rw [if_pos h, h, Bool.true_and]; exact right_some key _ (hdL_ne f) hk (by omega) _ hm w hK
  · rw [if_neg h, show hdB f = false by simpa using h, Bool.false_and]; exact right_nil key _ hm w
theorem right_st (key : ByteArray) (hk : key.size ≤ 1000000) (f : StR) (hf : f.fz.root.length = 32) (hm : f.mac.length = 32) (w : World) (hK : KT w) :
    Calls Tryd.prog 62 #[.string key, .string (stT f), sumV f.mac] w fun e w' => e = .returned (.bool (stB f && decide (Mac.mac key.data.toList (stL f) = f.mac))) ∧ Below w.heap.size w w' := by
  have h1 := stL_length hf
  unfold stT
  by_cases h : stB f = true
  · rw [if_pos h, h, Bool.true_and]; exact right_some key _ (stL_ne f) hk (by omega) _ hm w hK
  · rw [if_neg h, show stB f = false by simpa using h, Bool.false_and]; exact right_nil key _ hm w
set_option maxHeartbeats 3200000 in
set_option maxRecDepth 100000 in
theorem hdRight_any (key : ByteArray) (hk : key.size ≤ 1000000) (f : HdR) (hf : f.root.length = 32) (hm : f.mac.length = 32) (w : World) (hKT : KT w) :
    Calls Tryd.prog 29 #[.string key, .agg (hdCs f).toArray] w fun e w' => e = .returned (.bool (hdB f && decide (Mac.mac key.data.toList (hdL f) = f.mac))) ∧ Below w.heap.size w w' := by
  obtain ⟨R, hR⟩ : ∃ R, R = (hdB f && decide (Mac.mac key.data.toList (hdL f) = f.mac)) := ⟨_, rfl⟩
  rw [← hR]
  obtain ⟨p, hp⟩ : ∃ p, p = w.heap.size := ⟨_, rfl⟩
  obtain ⟨W, hW⟩ : ∃ W, W = w.alloc (.cells (hdCs f).toArray 27) := ⟨_, rfl⟩
  have hb1 : Below w.heap.size w W := by rw [hW]; exact below_boxS _ _
  have hr : HdAt p f W := by rw [hW, hp]; exact Blk.alloc _ _ _
  have hp1 : p < W.heap.size := Blk.lt hr
  have HW := Lib.hid hW
  have HP := Lib.hid hp
  have HR := Lib.hid hr
  have HRT : Hid (∀ u : World, Below W.heap.size W u → Calls Tryd.prog 62 #[.string key, .string (hdT f), sumV f.mac] u fun e w' => e = .returned (.bool R) ∧ Below u.heap.size u w') := Lib.hid fun u hu => by
    rw [hR]
    exact right_hd key hk f hf hm u ((hKT.old hb1).old hu)
  clear hW hp hr hR hKT
  go_enter Tryd.func29, Tryd.ntmps29
  go_upto_region 1 with fail
  rw [← HW.out, ← HP.out]
  clear HW
  try simp only [Act.put]
  refine wp_region_tab [RT.is (.string key), RT.is (.agg (hdCs f).toArray), RT.is (.string (hdT f)), RT.is (.pointer (some ⟨p, 34, none⟩)), RT.is (sumV f.mac), RT.is (.bool R), RT.is (.bool R)] (by kernel_rfl) (by kernel_rfl) (by kernel_rfl) (by kernel_rfl) ⟨?_, ?_, ?_, ?_, ?_, ?_, ?_, trivial⟩ ?_
  · intro ac w' hF hL hP hU K hK
    have hB := below_undrew hL
    have e0 : ac.eval (.tmp 0) = .string key := hF.at 0 (by kernel_rfl)
    exact rop_move _ rfl e0 (wanted_none rfl) (hK _ _ (le8_refl _) rfl)
  · intro ac w' hF hL hP hU K hK
    have hB := below_undrew hL
    have e3 : ac.eval (.tmp 3) = .pointer (some ⟨p, 0, none⟩) := hF.at 3 (by kernel_rfl)
    exact rop_ld _ _ rfl e3 (load_hdAt (below_range' hB hp1 (Blk.all HR.out)) hf hm) (wanted_none rfl) (hK _ _ (le8_refl _) rfl)
  · intro ac w' hF hL hP hU K hK
    have hB := below_undrew hL
    have e6 : ac.eval (.tmp 6) = .agg (hdCs f).toArray := hP 1 (by kernel_rfl)
    refine rop_call 40 _ _ rfl #[.agg (hdCs f).toArray] (by simp [e6]) (by kernel_rfl) (wanted_none rfl) ?_
    refine (hdSays_any f hf w').mono ?_
    rintro e w2 ⟨rfl, hb⟩
    exact ⟨_, rfl, hK _ _ hb rfl⟩
  · intro ac w' hF hL hP hU K hK
    have hB := below_undrew hL
    have e3 : ac.eval (.tmp 3) = .pointer (some ⟨p, 0, none⟩) := hF.at 3 (by kernel_rfl)
    exact rop_fld _ _ _ rfl e3 ((fld_hd0 p _).2.2.2) (wanted_none rfl) (hK _ _ (le8_refl _) rfl)
  · intro ac w' hF hL hP hU K hK
    have hB := below_undrew hL
    have e8 : ac.eval (.tmp 8) = .pointer (some ⟨p, 34, none⟩) := hP 3 (by kernel_rfl)
    exact rop_ld _ _ rfl e8 (load_sumAt (below_range' hB hp1 (HR.out.mac hf)) hm) (wanted_none rfl) (hK _ _ (le8_refl _) rfl)
  · intro ac w' hF hL hP hU K hK
    have hB := below_undrew hL
    have e5 : ac.eval (.tmp 5) = .string key := hP 0 (by kernel_rfl)
    have e7 : ac.eval (.tmp 7) = .string (hdT f) := hP 2 (by kernel_rfl)
    have e9 : ac.eval (.tmp 9) = sumV f.mac := hP 4 (by kernel_rfl)
    refine rop_call 62 _ _ rfl #[.string key, .string (hdT f), sumV f.mac] (by simp [e5, e7, e9]) (by kernel_rfl) (wanted_none rfl) ?_
    refine (HRT.out w' hB).mono ?_
    rintro e w2 ⟨rfl, hb⟩
    exact ⟨_, rfl, hK _ _ hb rfl⟩
  · intro ac w' hF hL hP hU K hK
    have hB := below_undrew hL
    have e10 : ac.eval (.tmp 10) = .bool R := hP 5 (by kernel_rfl)
    exact rop_assign _ rfl e10 (wanted_none rfl) (hK _ _ (le8_refl _) rfl)
  · intro ac w' hF hB hT
    have e4 : ac.eval (.tmp 4) = .bool R := hT 6 (by decide)
    rw [hF.setsG [5, 6, 7, 8, 9, 10, 4] (by kernel_rfl)]
    simp only [List.foldl_cons, List.foldl_nil, List.setIfInBounds_toArray, List.set_cons_succ, List.set_cons_zero, e4]
    generalize ac.eval (.tmp 5) = u5
    generalize ac.eval (.tmp 6) = u6
    generalize ac.eval (.tmp 7) = u7
    generalize ac.eval (.tmp 8) = u8
    generalize ac.eval (.tmp 9) = u9
    generalize ac.eval (.tmp 10) = u10
    clear e4 hT hF ac
    have hbw := below_step hb1 (Nat.le_refl _) hB
    clear hB
    go_wp2
    go_ret
    exact ⟨rfl, hbw⟩
set_option maxHeartbeats 3200000 in
set_option maxRecDepth 100000 in
theorem stRight_any (key : ByteArray) (hk : key.size ≤ 1000000) (f : StR) (hf : f.fz.root.length = 32) (hm : f.mac.length = 32) (w : World) (hKT : KT w) :
    Calls Tryd.prog 31 #[.string key, .agg (stCs f).toArray] w fun e w' => e = .returned (.bool (stB f && decide (Mac.mac key.data.toList (stL f) = f.mac))) ∧ Below w.heap.size w w' := by
  obtain ⟨R, hR⟩ : ∃ R, R = (stB f && decide (Mac.mac key.data.toList (stL f) = f.mac)) := ⟨_, rfl⟩
  rw [← hR]
  obtain ⟨p, hp⟩ : ∃ p, p = w.heap.size := ⟨_, rfl⟩
  obtain ⟨W, hW⟩ : ∃ W, W = w.alloc (.cells (stCs f).toArray 29) := ⟨_, rfl⟩
  have hb1 : Below w.heap.size w W := by rw [hW]; exact below_boxS _ _
  have hr : StAt p f W := by rw [hW, hp]; exact Blk.alloc _ _ _
  have hp1 : p < W.heap.size := Blk.lt hr
  have HW := Lib.hid hW
  have HP := Lib.hid hp
  have HR := Lib.hid hr
  have HRT : Hid (∀ u : World, Below W.heap.size W u → Calls Tryd.prog 62 #[.string key, .string (stT f), sumV f.mac] u fun e w' => e = .returned (.bool R) ∧ Below u.heap.size u w') := Lib.hid fun u hu => by
    rw [hR]
    exact right_st key hk f hf hm u ((hKT.old hb1).old hu)
  clear hW hp hr hR hKT
  go_enter Tryd.func31, Tryd.ntmps31
  go_upto_region 1 with fail
  rw [← HW.out, ← HP.out]
  clear HW
  try simp only [Act.put]
  refine wp_region_tab [RT.is (.string key), RT.is (.agg (stCs f).toArray), RT.is (.string (stT f)), RT.is (.pointer (some ⟨p, 35, none⟩)), RT.is (sumV f.mac), RT.is (.bool R), RT.is (.bool R)] (by kernel_rfl) (by kernel_rfl) (by kernel_rfl) (by kernel_rfl) ⟨?_, ?_, ?_, ?_, ?_, ?_, ?_, trivial⟩ ?_
  · intro ac w' hF hL hP hU K hK
    have hB := below_undrew hL
    have e0 : ac.eval (.tmp 0) = .string key := hF.at 0 (by kernel_rfl)
    exact rop_move _ rfl e0 (wanted_none rfl) (hK _ _ (le8_refl _) rfl)
  · intro ac w' hF hL hP hU K hK
    have hB := below_undrew hL
    have e3 : ac.eval (.tmp 3) = .pointer (some ⟨p, 0, none⟩) := hF.at 3 (by kernel_rfl)
    exact rop_ld _ _ rfl e3 (load_stAt (below_range' hB hp1 (Blk.all HR.out)) hf hm) (wanted_none rfl) (hK _ _ (le8_refl _) rfl)
  · intro ac w' hF hL hP hU K hK
    have hB := below_undrew hL
    have e6 : ac.eval (.tmp 6) = .agg (stCs f).toArray := hP 1 (by kernel_rfl)
    refine rop_call 42 _ _ rfl #[.agg (stCs f).toArray] (by simp [e6]) (by kernel_rfl) (wanted_none rfl) ?_
    refine (stSays_any f hf w').mono ?_
    rintro e w2 ⟨rfl, hb⟩
    exact ⟨_, rfl, hK _ _ hb rfl⟩
  · intro ac w' hF hL hP hU K hK
    have hB := below_undrew hL
    have e3 : ac.eval (.tmp 3) = .pointer (some ⟨p, 0, none⟩) := hF.at 3 (by kernel_rfl)
    exact rop_fld _ _ _ rfl e3 ((fld_st0 p _).2.2) (wanted_none rfl) (hK _ _ (le8_refl _) rfl)
  · intro ac w' hF hL hP hU K hK
    have hB := below_undrew hL
    have e8 : ac.eval (.tmp 8) = .pointer (some ⟨p, 35, none⟩) := hP 3 (by kernel_rfl)
    exact rop_ld _ _ rfl e8 (load_sumAt (below_range' hB hp1 (HR.out.mac hf)) hm) (wanted_none rfl) (hK _ _ (le8_refl _) rfl)
  · intro ac w' hF hL hP hU K hK
    have hB := below_undrew hL
    have e5 : ac.eval (.tmp 5) = .string key := hP 0 (by kernel_rfl)
    have e7 : ac.eval (.tmp 7) = .string (stT f) := hP 2 (by kernel_rfl)
    have e9 : ac.eval (.tmp 9) = sumV f.mac := hP 4 (by kernel_rfl)
    refine rop_call 62 _ _ rfl #[.string key, .string (stT f), sumV f.mac] (by simp [e5, e7, e9]) (by kernel_rfl) (wanted_none rfl) ?_
    refine (HRT.out w' hB).mono ?_
    rintro e w2 ⟨rfl, hb⟩
    exact ⟨_, rfl, hK _ _ hb rfl⟩
  · intro ac w' hF hL hP hU K hK
    have hB := below_undrew hL
    have e10 : ac.eval (.tmp 10) = .bool R := hP 5 (by kernel_rfl)
    exact rop_assign _ rfl e10 (wanted_none rfl) (hK _ _ (le8_refl _) rfl)
  · intro ac w' hF hB hT
    have e4 : ac.eval (.tmp 4) = .bool R := hT 6 (by decide)
    rw [hF.setsG [5, 6, 7, 8, 9, 10, 4] (by kernel_rfl)]
    simp only [List.foldl_cons, List.foldl_nil, List.setIfInBounds_toArray, List.set_cons_succ, List.set_cons_zero, e4]
    generalize ac.eval (.tmp 5) = u5
    generalize ac.eval (.tmp 6) = u6
    generalize ac.eval (.tmp 7) = u7
    generalize ac.eval (.tmp 8) = u8
    generalize ac.eval (.tmp 9) = u9
    generalize ac.eval (.tmp 10) = u10
    clear e4 hT hF ac
    have hbw := below_step hb1 (Nat.le_refl _) hB
    clear hB
    go_wp2
    go_ret
    exact ⟨rfl, hbw⟩
end Go.Proofs.YtlcljjapeigaeaaDoor
