/-
  Package proof: Right.
-/
import Derived.Test.YtjdhcncjcencbaaDoorProofFold
import Derived.Test.YtjdhcncjcencbaaDoorMGen
namespace Go.Proofs.YtjdhcncjcencbaaDoor
open Go.RowKit

set_option maxHeartbeats 4000000 in
set_option maxRecDepth 100000 in
theorem right_any (r x : List UInt8) (hr : r.length = 32) (hx : x.length = 32) (m n : Int) (l1 : m ≤ 9223372036854775807) (l2 : n ≤ 9223372036854775807) (v : Value) (P : Hs) (w : World) (hv : Sums w v P) (hP : P.length ≤ 1000) (hK : KT w) :
    Calls Tryd.prog 16 #[sumV r, sumV x, .int .i64 m, .int .i64 n, v] w fun e w' => e = .returned (.bool ((foldZ x m n P).2 && decide ((foldZ x m n P).1 = r))) ∧ Below w.heap.size w w' := by
  have hfz := fun u hu hk => fold_any x hx m n l1 l2 v P u hu hP hk
  have hDl := foldZ_length x m n P hx
  obtain ⟨D, hD⟩ : ∃ D, D = (foldZ x m n P).1 := ⟨_, rfl⟩
  obtain ⟨ok, hok⟩ : ∃ ok, ok = (foldZ x m n P).2 := ⟨_, rfl⟩
  rw [← hD] at hDl hfz ⊢
  rw [← hok] at hfz ⊢
  obtain ⟨va, cap, rfl, hlc, hcap⟩ := hv.slice
  obtain ⟨k, hk⟩ : ∃ k, k = P.length := ⟨_, rfl⟩
  rw [← hk] at hfz hv ⊢
  obtain ⟨w0, hw0⟩ : ∃ w0, w0 = (w.alloc (.cells (r.map u8V).toArray 23)).alloc (.cells (x.map u8V).toArray 23) := ⟨_, rfl⟩
  have b0 : Below w.heap.size w w0 := by rw [hw0]; exact ((Below.refl _ _).alloc (Nat.le_refl _) _).alloc (by simp) _
  have h1 : w0.heap[w.heap.size]? = some (.cells (r.map u8V).toArray 23 (0, 0)) := by
    rw [hw0]
    exact (((Below.refl (w.alloc (.cells (r.map u8V).toArray 23)).heap.size _).alloc (Nat.le_refl _) _).block w.heap.size (by simp)).trans (heap_alloc_last w _)
  have h2 : w0.heap[w.heap.size + 1]? = some (.cells (x.map u8V).toArray 23 (0, 0)) := by
    have := heap_alloc_last (w.alloc (.cells (r.map u8V).toArray 23)) (.cells (x.map u8V).toArray 23)
    rwa [World.size_alloc, ← hw0] at this
  have l0 : w.heap.size < w0.heap.size := (Array.getElem?_eq_some_iff.1 h1).1
  have HFO := Lib.hid (hfz w0 (hv.old b0) (hK.old b0))
  have HB := Lib.hid b0
  have HDl := Lib.hid hDl
  have HRl := Lib.hid hr
  have HX := Lib.hid hx
  have H1 := Lib.hid h1
  have H2 := Lib.hid h2
  clear hfz hDl hD hok hk hr hx h1 h2 b0 hv hK l1 l2 hP hlc hcap
  unfold sumV
  go_enter Tryd.func16, Tryd.ntmps16
  go_upto_region 1 with (fail)
  rw [← hw0]
  clear hw0
  go_upto_region 2 with (first
    | refine wpList_load_mid rfl 23 (.tmp 6) rfl (w.heap.size + 1) 0 rfl (x.map u8V) _ (range_var H2.out) Tryd.underlying23 rfl (sum_info' HX.out) ?_
    | (go_at_call 12; (refine HFO.out.mono ?_); rintro e w2 ⟨rfl, b2⟩; have z1 := Lib.hid ((b2.block _ l0).trans H1.out); have hz0 := heap_alloc_last w2 zSum)
    | refine wpList_store_mid rfl 23 (.tmp 11) (.tmp 19) rfl w2.heap.size 0 (D.map u8V).toArray rfl rfl (sum_there hz0 HDl.out) (sum_info HDl.out) (sum_one D) ?_)
  change Code.wp _ _ _ _ ((w2.alloc zSum).setCells w2.heap.size 0 (D.map u8V))
  obtain ⟨z6, k6⟩ := var_sum w2 D HDl.out
  obtain ⟨W, hW⟩ : ∃ u, u = (w2.alloc zSum).setCells w2.heap.size 0 (D.map u8V) := ⟨_, rfl⟩
  have lp : w.heap.size < w2.heap.size := Nat.lt_of_lt_of_le l0 b2.size
  have z7 := (k6.block _ lp).trans z1.out
  have b7 := below_step (below_step HB.out (Nat.le_refl _) b2) (Nat.le_refl _) k6
  rw [← hW] at z6 z7 b7 ⊢
  obtain ⟨q, hq⟩ : ∃ q, q = w2.heap.size := ⟨_, rfl⟩
  obtain ⟨p, hp⟩ : ∃ p, p = w.heap.size := ⟨_, rfl⟩
  rw [← hq] at z6 ⊢
  rw [← hp] at z7 ⊢
  have hqW := (Array.getElem?_eq_some_iff.1 z6).1
  have hpW := (Array.getElem?_eq_some_iff.1 z7).1
  have HZQ := Lib.hid z6
  have HZP := Lib.hid z7
  have HB7 := Lib.hid b7
  clear hq hp z6 z7 b7 k6 hW hz0 lp b2 l0 z1 H1 H2 HFO HB
  cases ok with
  | true =>
    try simp only [Act.put]
    refine wp_region_tab0 [RT.is (.bool true), RT.is (.bool true), RT.is (sumV D), RT.is (sumV r), RT.is (.bool (decide (D = r))), RT.is (.bool (decide (D = r))), RT.is (.bool (decide (D = r)))] (by kernel_rfl) (by kernel_rfl) (by kernel_rfl) ⟨?_, ?_, ?_, ?_, ?_, ?_, ?_, trivial⟩ ?_
    · intro ac w' hF hL hP hU K hK
      have hB : Below _ _ _ := hL
      have e12 : ac.eval (.tmp 12) = .bool true := hF.at 12 (by kernel_rfl)
      exact rop_move _ rfl e12 (wanted_none rfl) (hK _ _ (le8_refl _) rfl)
    · intro ac w' hF hL hP hU K hK
      have hB : Below _ _ _ := hL
      have e21 : ac.eval (.tmp 21) = .bool true := hP 0 (by kernel_rfl)
      exact rop_move _ rfl e21 (wanted_none rfl) (hK _ _ (le8_refl _) rfl)
    · intro ac w' hF hL hP hU K hK
      have hB : Below _ _ _ := hL
      have e11 : ac.eval (.tmp 11) = .pointer (some ⟨q, 0, none⟩) := hF.at 11 (by kernel_rfl)
      have e22 : ac.eval (.tmp 22) = .bool true := hP 1 (by kernel_rfl)
      exact rop_ld _ _ rfl e11 (load_sumP HDl.out (below_range hB hqW (range_var HZQ.out))) (wanted_of (j := 1) (b := true) rfl rfl e22) (hK _ _ (le8_refl _) rfl)
    · intro ac w' hF hL hP hU K hK
      have hB : Below _ _ _ := hL
      have e5 : ac.eval (.tmp 5) = .pointer (some ⟨p, 0, none⟩) := hF.at 5 (by kernel_rfl)
      have e22 : ac.eval (.tmp 22) = .bool true := hP 1 (by kernel_rfl)
      exact rop_ld _ _ rfl e5 (load_sumP HRl.out (below_range hB hpW (range_var HZP.out))) (wanted_of (j := 1) (b := true) rfl rfl e22) (hK _ _ (le8_refl _) rfl)
    · intro ac w' hF hL hP hU K hK
      have hB : Below _ _ _ := hL
      have e23 : ac.eval (.tmp 23) = sumV D := hP 2 (by kernel_rfl)
      have e24 : ac.eval (.tmp 24) = sumV r := hP 3 (by kernel_rfl)
      have e22 : ac.eval (.tmp 22) = .bool true := hP 1 (by kernel_rfl)
      exact rop_bin _ _ _ _ _ rfl e23 e24 (guard_run _ _ _ _ _ w') (eql_sum D r HDl.out HRl.out w') (wanted_of (j := 1) (b := true) rfl rfl e22) (hK _ _ (le8_refl _) rfl)
    · intro ac w' hF hL hP hU K hK
      have hB : Below _ _ _ := hL
      have e22 : ac.eval (.tmp 22) = .bool true := hP 1 (by kernel_rfl)
      have e25 : ac.eval (.tmp 25) = .bool (decide (D = r)) := hP 4 (by kernel_rfl)
      exact rop_pick _ _ _ rfl true e22 (by simpa using e25) (wanted_none rfl) (hK _ _ (le8_refl _) rfl)
    · intro ac w' hF hL hP hU K hK
      have hB : Below _ _ _ := hL
      have e26 : ac.eval (.tmp 26) = .bool (decide (D = r)) := hP 5 (by kernel_rfl)
      exact rop_assign _ rfl e26 (wanted_none rfl) (hK _ _ (le8_refl _) rfl)
    · intro ac w' hF hB hT
      have e26 : ac.eval (.tmp 26) = .bool (decide (D = r)) := hT 5 (by decide)
      have e10 : ac.eval (.tmp 10) = .bool (decide (D = r)) := hT 6 (by decide)
      rw [hF.setsG [21, 22, 23, 24, 25, 26, 10] (by kernel_rfl)]
      simp only [List.foldl_cons, List.foldl_nil, List.setIfInBounds_toArray, List.set_cons_succ, List.set_cons_zero, e26, e10]
      generalize ac.eval (.tmp 21) = u21
      generalize ac.eval (.tmp 22) = u22
      generalize ac.eval (.tmp 23) = u23
      generalize ac.eval (.tmp 24) = u24
      generalize ac.eval (.tmp 25) = u25
      clear e26 e10 hT hF ac
      have HF := Lib.hid (below_step HB7.out (Nat.le_refl _) hB)
      clear hB
      go_wp2
      go_ret
      exact ⟨by first | (rw [Bool.true_and]; rfl) | (rw [Bool.false_and]; rfl), HF.out⟩
  | false =>
    try simp only [Act.put]
    refine wp_region_tab0 [RT.is (.bool false), RT.is (.bool false), RT.any, RT.any, RT.any, RT.is (.bool false), RT.is (.bool false)] (by kernel_rfl) (by kernel_rfl) (by kernel_rfl) ⟨?_, ?_, ?_, ?_, ?_, ?_, ?_, trivial⟩ ?_
    · intro ac w' hF hL hP hU K hK
      have hB : Below _ _ _ := hL
      have e12 : ac.eval (.tmp 12) = .bool false := hF.at 12 (by kernel_rfl)
      exact rop_move _ rfl e12 (wanted_none rfl) (hK _ _ (le8_refl _) rfl)
    · intro ac w' hF hL hP hU K hK
      have hB : Below _ _ _ := hL
      have e21 : ac.eval (.tmp 21) = .bool false := hP 0 (by kernel_rfl)
      exact rop_move _ rfl e21 (wanted_none rfl) (hK _ _ (le8_refl _) rfl)
    · intro ac w' hF hL hP hU K hK
      have hB : Below _ _ _ := hL
      have e22 : ac.eval (.tmp 22) = .bool false := hP 1 (by kernel_rfl)
      exact rop_offG (j := 1) (b := true) rfl rfl e22 (by decide) (hK _ _ (le8_refl _) trivial)
    · intro ac w' hF hL hP hU K hK
      have hB : Below _ _ _ := hL
      have e22 : ac.eval (.tmp 22) = .bool false := hP 1 (by kernel_rfl)
      exact rop_offG (j := 1) (b := true) rfl rfl e22 (by decide) (hK _ _ (le8_refl _) trivial)
    · intro ac w' hF hL hP hU K hK
      have hB : Below _ _ _ := hL
      have e22 : ac.eval (.tmp 22) = .bool false := hP 1 (by kernel_rfl)
      exact rop_offG (j := 1) (b := true) rfl rfl e22 (by decide) (hK _ _ (le8_refl _) trivial)
    · intro ac w' hF hL hP hU K hK
      have hB : Below _ _ _ := hL
      have e22 : ac.eval (.tmp 22) = .bool false := hP 1 (by kernel_rfl)
      exact rop_pick _ _ _ rfl false e22 (by rfl) (wanted_none rfl) (hK _ _ (le8_refl _) rfl)
    · intro ac w' hF hL hP hU K hK
      have hB : Below _ _ _ := hL
      have e26 : ac.eval (.tmp 26) = .bool false := hP 5 (by kernel_rfl)
      exact rop_assign _ rfl e26 (wanted_none rfl) (hK _ _ (le8_refl _) rfl)
    · intro ac w' hF hB hT
      have e26 : ac.eval (.tmp 26) = .bool false := hT 5 (by decide)
      have e10 : ac.eval (.tmp 10) = .bool false := hT 6 (by decide)
      rw [hF.setsG [21, 22, 23, 24, 25, 26, 10] (by kernel_rfl)]
      simp only [List.foldl_cons, List.foldl_nil, List.setIfInBounds_toArray, List.set_cons_succ, List.set_cons_zero, e26, e10]
      generalize ac.eval (.tmp 21) = u21
      generalize ac.eval (.tmp 22) = u22
      generalize ac.eval (.tmp 23) = u23
      generalize ac.eval (.tmp 24) = u24
      generalize ac.eval (.tmp 25) = u25
      clear e26 e10 hT hF ac
      have HF := Lib.hid (below_step HB7.out (Nat.le_refl _) hB)
      clear hB
      go_wp2
      go_ret
      exact ⟨by first | (rw [Bool.true_and]; rfl) | (rw [Bool.false_and]; rfl), HF.out⟩
end Go.Proofs.YtjdhcncjcencbaaDoor
