/-
  TwinWays: the texts on a path's way are as the document says, and the last one's hash is what the path comes to. For any two numbers, any hash, any hashes (the first 50 of them); the numbers K of the package sha are as the program's own start lays them.
-/
import Derived.Test.YtdcebdleneieeaaDoorTwinArg
namespace Go.Proofs.YtdcebdleneieeaaDoor.twinWays
open Go.ChangeShapes Go.WideShapes Go.ChangeAt Go.RowKit

theorem wayL_last : ∀ (P : Hs) (T : List Bool) (x : List UInt8), P.length = T.length → P ≠ [] → ∃ t, (Tree.wayL x P T)[P.length - 1]? = some t ∧ Sha.digest t = Tree.fold x P T
  | [], _, _, _, h => absurd rfl h
  | _ :: _, [], _, h, _ => by simp at h
  | [s], [b], x, _, _ => ⟨Tree.preS x s b, rfl, by rw [← Tree.step_pre]; rfl⟩
  | s :: s' :: P, b :: T, x, h, _ => by
    obtain ⟨t, h1, h2⟩ := wayL_last (s' :: P) T (Tree.step x s b) (by simpa using h) (by simp)
    refine ⟨t, ?_, h2⟩
    rw [Tree.wayL_cons, ← h1]
    simp
  | [_], _ :: _ :: _, _, h, _ => by simp at h
theorem sub_one (k : Nat) (hk : k ≤ 1000) (w : World) : (binOp .sub 3 (.int .i64 ((k + 1 : Nat) : Int)) (.int .i64 1)).run Tryd.prog w = .ok (.int .i64 (k : Int)) w := by
  have e : ((k + 1 : Nat) : Int) - 1 = (k : Int) := by omega
  have hw := IntWalk.i64_in (((k + 1 : Nat) : Int) - 1) (by omega)
  rw [e] at hw
  have h2 : IntKind.i64.wrap (((k + 1 : Nat) : Int) - 1) = (k : Int) := by rw [e]; exact hw
  go_simp
set_option maxHeartbeats 8000000 in
set_option maxRecDepth 100000 in
theorem walk {w : World} (hK : KT w) (m n : Int) (hm : -9223372036854775808 ≤ m ∧ m ≤ 9223372036854775807) (hn : -9223372036854775808 ≤ n ∧ n ≤ 9223372036854775807) (x : List UInt8) (hx : x.length = 32) (v : Value) (l : Hs) (hv : Sums w v l) :
    Calls Tryd.prog 8 #[.agg #[.int .i64 m, .int .i64 n], sumV x, v] w fun e w' => e = .returned (.bool true) ∧ Below w.heap.size w w' := by
  obtain ⟨P, hP⟩ : ∃ P, P = l.take 50 := ⟨_, rfl⟩
  have hPl : P.length ≤ 1000 := by rw [hP, List.length_take]; omega
  obtain ⟨L, hL⟩ : ∃ L, L = wayZ x m n P := ⟨_, rfl⟩
  obtain ⟨k, hk⟩ : ∃ k, k = L.length := ⟨_, rfl⟩
  obtain ⟨Y, hY⟩ : ∃ Y, Y = (foldZ x m n P).1 := ⟨_, rfl⟩
  obtain ⟨i, hi⟩ : ∃ i, i = (foldZ x m n P).2 := ⟨_, rfl⟩
  have hkl : k ≤ 1000 := by rw [hk, hL]; exact Nat.le_trans wayZ_le hPl
  have HYl : Hid (Y.length = 32) := Lib.hid (by rw [hY]; exact foldZ_length x m n P hx)
  have HXl := Lib.hid hx
  have hlast : ∀ j, k = j + 1 → i = true ∧ ∃ t, L[j]? = some t ∧ t.length = 65 ∧ Sha.digest t = Y := fun j hj => by
    cases hf : foldLen m n P with
    | false =>
      have : L = [] := by rw [hL]; unfold wayZ; rw [hf]; rfl
      rw [this] at hk
      simp at hk
      omega
    | true =>
      have hLe : L = Tree.wayL x P (turnsZ m n) := by rw [hL]; unfold wayZ; rw [if_pos hf]
      have hPT := turnsZ_length hf
      have hLl : L.length = P.length := by rw [hLe, Tree.wayL_length x P _ hPT, hPT]
      have hPn : P ≠ [] := fun e => by rw [e] at hLl; simp at hLl; rw [hLl] at hk; simp at hk; omega
      obtain ⟨t, h1, h2⟩ := wayL_last P (turnsZ m n) x hPT hPn
      rw [← hLe, show P.length - 1 = j by omega] at h1
      refine ⟨by rw [hi]; unfold foldZ; rw [hf]; rfl, t, h1, ?_, by rw [h2, hY]; unfold foldZ; rw [hf]; rfl⟩
      have := List.mem_of_getElem? h1
      rw [hLe] at this
      exact wayL_small x P _ hx (by rw [hP]; exact hv.ok.take 50) t this
  have HWA : Hid (∀ v u, KT u → Sums u v P → Calls Tryd.prog 26 #[.int .i64 m, .int .i64 n, sumV x, v] u fun e w' => ∃ v', e = .returned v' ∧ Texts w' v' L ∧ Below u.heap.size u w') := Lib.hid fun v u hk hv => by rw [hL]; exact Way_any x hx m n hm.2 hn.2 v P u hv hPl hk
  have HWR : Hid (∀ v u, Sums u v P → Calls Tryd.prog 27 #[.int .i64 m, .int .i64 n, sumV x, v] u fun e w' => ∃ v', e = .returned v' ∧ Texts w' v' L ∧ Below u.heap.size u w') := Lib.hid fun v u hv => by rw [hL]; exact rWay_any x hx m n hm.2 hn.2 v P u hv hPl
  have HRF : Hid (∀ v u, Sums u v P → Calls Tryd.prog 20 #[sumV x, .int .i64 m, .int .i64 n, v] u fun e w' => e = .returned (.tuple #[sumV Y, .bool i]) ∧ Below u.heap.size u w') := Lib.hid fun v u hv => by rw [hY, hi]; exact rfold_any x hx m n hm.2 hn.2 v P u hv hPl
  have hkw : ∀ u, Below w.heap.size w u → KT u := fun u hu => hK.old hu
  obtain ⟨w0, hw0⟩ : ∃ w0, w0 = (w.alloc (.cells #[.int .i64 m, .int .i64 n] 22)).alloc (.cells (x.map u8V).toArray 24) := ⟨_, rfl⟩
  have b0 : Below w.heap.size w w0 := by rw [hw0]; exact ((Below.refl _ _).alloc (Nat.le_refl _) _).alloc (by simp) _
  have j3 : w0.heap[w.heap.size]? = some (.cells #[.int .i64 m, .int .i64 n] 22 (0, 0)) := by
    rw [hw0]
    exact (((Below.refl (w.alloc (.cells #[.int .i64 m, .int .i64 n] 22)).heap.size _).alloc (Nat.le_refl _) _).block w.heap.size (by simp)).trans (heap_alloc_last w _)
  have j4 : IsH x w0 (w.heap.size + 1) := by
    have := heap_alloc_last (w.alloc (.cells #[.int .i64 m, .int .i64 n] 22)) (.cells (x.map u8V).toArray 24)
    rwa [World.size_alloc, ← hw0] at this
  have HAW := Lib.hid (awake13_any w0 (hkw _ b0))
  have HFW : Hid (∀ u, Below w.heap.size w u → Calls Tryd.prog 10 #[v] u fun e w' => ∃ v', e = .returned v' ∧ SumsB u.heap.size u v' P ∧ u = w') := Lib.hid fun u hu => by rw [hP]; exact few13_any v l u (hv.old hu)
  have HJ3 := Lib.hid j3
  have HJ4 := Lib.hid j4
  have HKW := Lib.hid hkw
  have Hk := Lib.hid hk
  have HLA := Lib.hid hlast
  clear hP hPl hL hk hY hi hx hv hK hkw j3 j4 hm hn hlast
  unfold sumV
  go_enter Tryd.func8, Tryd.ntmps8
  go_upto_region 1 with (fail)
  change Code.wp _ _ _ _ ((w.alloc (.cells #[.int .i64 m, .int .i64 n] 22)).alloc (.cells (x.map u8V).toArray 24))
  rw [← hw0]
  clear hw0
  go_upto_region 3 with (first
    | (go_at_call 9; ((with_reducible refine HAW.out.mono ?_); rintro e w1 ⟨rfl, b1⟩; have b2 := below_step b0 (Nat.le_refl _) b1))
    | (go_at_call 10; refine (HFW.out _ b2).mono ?_; rintro e w2 ⟨v6, rfl, h6, rfl⟩; have HP6 := Lib.hid h6.1; clear h6))
  obtain ⟨ap, np, cp, rfl⟩ : ∃ a n c, v6 = .slice a n c := by obtain ⟨a, c, e, -, -⟩ := HP6.out.slice; exact ⟨_, _, _, e⟩
  have HSP := HP6
  have J3' : Hid (w1.heap[w.heap.size]? = some (.cells #[.int .i64 m, .int .i64 n] 22 (0, 0))) := Lib.hid (heap_oldP HJ3.out b1)
  have J4' : Hid (IsH x w1 (w.heap.size + 1)) := Lib.hid (IsH.old HJ4.out b1)
  have HBW := Lib.hid b2
  obtain ⟨q4, hq4⟩ : ∃ q, q = w.heap.size + 1 := ⟨_, rfl⟩
  rw [← hq4] at J4' ⊢
  obtain ⟨q3, hq3⟩ : ∃ q, q = w.heap.size := ⟨_, rfl⟩
  rw [← hq3] at J3' ⊢
  have Jq3 := J3'
  have Jq4 := J4'
  clear hq3 hq4 J3' J4' HJ3 HJ4 HP6 b0 b1 b2 HAW HFW
  have i30 : ∀ u, (Instr.indexAt 22 (.pointer (some ⟨q3, 0, none⟩)) (.int .i64 0)).run Tryd.prog u = .ok (.pointer (some ⟨q3, 0, none⟩)) u := fun u => idx2i q3 0 0 rfl (by decide) u
  have i31 : ∀ u, (Instr.indexAt 22 (.pointer (some ⟨q3, 0, none⟩)) (.int .i64 1)).run Tryd.prog u = .ok (.pointer (some ⟨q3, 1, none⟩)) u := fun u => idx2i q3 1 1 rfl (by decide) u
  have c30 : w1.cell? ⟨q3, 0, none⟩ = some (.int .i64 m) := cell_of Jq3.out 0
  have c31 : w1.cell? ⟨q3, 1, none⟩ = some (.int .i64 n) := cell_of Jq3.out 1
  go_upto_region 4 with (first
    | refine wpList_load_mid rfl 24 (.tmp 4) rfl q4 0 rfl (x.map u8V) _ (range_var Jq4.out) Tryd.underlying24 rfl (sum_info' HXl.out) ?_
    | (go_at_call 26; (refine (HWA.out _ _ (HKW.out _ HBW.out) HSP.out).mono ?_); rintro e w3 ⟨x9, rfl, ht9, k9⟩))
  replace Jq3 := Lib.hid (heap_oldP Jq3.out k9)
  replace Jq4 := Lib.hid (IsH.old Jq4.out k9)
  replace HSP := Lib.hid (HSP.out.old k9)
  replace HBW := Lib.hid (below_step HBW.out (Nat.le_refl _) k9)
  have HT9 := Lib.hid ht9
  clear k9 ht9 c30 c31
  have c30 : w3.cell? ⟨q3, 0, none⟩ = some (.int .i64 m) := cell_of Jq3.out 0
  have c31 : w3.cell? ⟨q3, 1, none⟩ = some (.int .i64 n) := cell_of Jq3.out 1
  go_upto_region 5 with (first
    | refine wpList_load_mid rfl 24 (.tmp 4) rfl q4 0 rfl (x.map u8V) _ (range_var Jq4.out) Tryd.underlying24 rfl (sum_info' HXl.out) ?_
    | (go_at_call 27; (refine (HWR.out _ _ HSP.out).mono ?_); rintro e w4 ⟨x10, rfl, ht10, k10⟩))
  replace Jq3 := Lib.hid (heap_oldP Jq3.out k10)
  replace Jq4 := Lib.hid (IsH.old Jq4.out k10)
  replace HSP := Lib.hid (HSP.out.old k10)
  replace HBW := Lib.hid (below_step HBW.out (Nat.le_refl _) k10)
  have HT10 := Lib.hid ht10
  replace HT9 := Lib.hid (HT9.out.old k10)
  clear k10 ht10 c30 c31
  obtain ⟨s9, c9, rfl⟩ := HT9.out.slice
  obtain ⟨s10, c10, rfl⟩ := HT10.out.slice
  rw [← Hk.out] at HT9 HT10 ⊢
  go_wp2
  go_loopw [11] (fun s11 wr => ∃ j : Nat, s11 = .int .i64 (j : Int) ∧ j ≤ k ∧ Below w4.heap.size w4 wr) (fun s11 _ => k - (intOf s11).toNat)
  case atStart => exact ⟨0, rfl, Nat.zero_le _, Below.refl _ _⟩
  case round =>
    obtain ⟨j, rfl, hj, hbr⟩ := hrel
    by_cases hjk : j < k
    · have hjk' : (j : Int) < (k : Int) := by omega
      obtain ⟨t, ht⟩ : ∃ t, L[j]? = some t := ⟨_, List.getElem?_eq_getElem (by rw [← Hk.out]; exact hjk)⟩
      obtain ⟨b9, o9, rfl, hl90, -, hc9⟩ := HT9.out.at ht
      obtain ⟨b10, o10, rfl, hl100, -, hc10⟩ := HT10.out.at ht
      have HC9 := Lib.hid ((hbr.cell (p := ⟨b9, o9 + j, none⟩) hl90).trans hc9)
      have HC10 := Lib.hid ((hbr.cell (p := ⟨b10, o10 + j, none⟩) hl100).trans hc10)
      have hl9 := Nat.lt_of_lt_of_le hl90 hbr.size
      have hl10 := Nat.lt_of_lt_of_le hl100 hbr.size
      have hwr := IntWalk.i64_in ((j : Int) + 1) (by omega)
      have HBR := Lib.hid hbr
      clear ht hc9 hc10 hl90 hl100 hbr
      go_upto_region 10 with (fail)
      obtain ⟨W, hW⟩ : ∃ W, W = wr := ⟨_, rfl⟩
      subst hW
      try simp only [Act.put]
      refine wp_region_tab [RT.is (.slice (some ⟨b9, o9, none⟩) k c9), RT.is (.int .i64 (j : Int)), RT.is (.pointer (some ⟨b9, o9 + j, none⟩)), RT.is (.string (tS t)), RT.is (.slice (some ⟨b10, o10, none⟩) k c10), RT.is (.int .i64 (j : Int)), RT.is (.pointer (some ⟨b10, o10 + j, none⟩)), RT.is (.string (tS t)), RT.is (.bool false)] (by kernel_rfl) (by kernel_rfl) (by kernel_rfl) (by kernel_rfl) ⟨?_, ?_, ?_, ?_, ?_, ?_, ?_, ?_, ?_, trivial⟩ ?_
      · intro ac w' hF hL hP hU K hK
        have hB := below_undrew hL
        have e9 : ac.eval (.tmp 9) = .slice (some ⟨b9, o9, none⟩) k c9 := hF.at 9 (by kernel_rfl)
        exact rop_move _ rfl e9 (wanted_none rfl) (hK _ _ (le8_refl _) rfl)
      · intro ac w' hF hL hP hU K hK
        have hB := below_undrew hL
        have e11 : ac.eval (.tmp 11) = .int .i64 (j : Int) := hF.at 11 (by kernel_rfl)
        exact rop_move _ rfl e11 (wanted_none rfl) (hK _ _ (le8_refl _) rfl)
      · intro ac w' hF hL hP hU K hK
        have hB := below_undrew hL
        have e42 : ac.eval (.tmp 42) = .slice (some ⟨b9, o9, none⟩) k c9 := hP 0 (by kernel_rfl)
        have e43 : ac.eval (.tmp 43) = .int .i64 (j : Int) := hP 1 (by kernel_rfl)
        exact rop_idx _ _ _ rfl e42 e43 (index_texts b9 o9 k c9 j (j : Int) rfl hjk w') (wanted_none rfl) (hK _ _ (le8_refl _) rfl)
      · intro ac w' hF hL hP hU K hK
        have hB := below_undrew hL
        have e44 : ac.eval (.tmp 44) = .pointer (some ⟨b9, o9 + j, none⟩) := hP 2 (by kernel_rfl)
        exact rop_ld _ _ rfl e44 (load_text ((hB.cell (p := ⟨b9, o9 + j, none⟩) hl9).trans HC9.out)) (wanted_none rfl) (hK _ _ (le8_refl _) rfl)
      · intro ac w' hF hL hP hU K hK
        have hB := below_undrew hL
        have e10 : ac.eval (.tmp 10) = .slice (some ⟨b10, o10, none⟩) k c10 := hF.at 10 (by kernel_rfl)
        exact rop_move _ rfl e10 (wanted_none rfl) (hK _ _ (le8_refl _) rfl)
      · intro ac w' hF hL hP hU K hK
        have hB := below_undrew hL
        have e11 : ac.eval (.tmp 11) = .int .i64 (j : Int) := hF.at 11 (by kernel_rfl)
        exact rop_move _ rfl e11 (wanted_none rfl) (hK _ _ (le8_refl _) rfl)
      · intro ac w' hF hL hP hU K hK
        have hB := below_undrew hL
        have e46 : ac.eval (.tmp 46) = .slice (some ⟨b10, o10, none⟩) k c10 := hP 4 (by kernel_rfl)
        have e47 : ac.eval (.tmp 47) = .int .i64 (j : Int) := hP 5 (by kernel_rfl)
        exact rop_idx _ _ _ rfl e46 e47 (index_texts b10 o10 k c10 j (j : Int) rfl hjk w') (wanted_none rfl) (hK _ _ (le8_refl _) rfl)
      · intro ac w' hF hL hP hU K hK
        have hB := below_undrew hL
        have e48 : ac.eval (.tmp 48) = .pointer (some ⟨b10, o10 + j, none⟩) := hP 6 (by kernel_rfl)
        exact rop_ld _ _ rfl e48 (load_text ((hB.cell (p := ⟨b10, o10 + j, none⟩) hl10).trans HC10.out)) (wanted_none rfl) (hK _ _ (le8_refl _) rfl)
      · intro ac w' hF hL hP hU K hK
        have hB := below_undrew hL
        have e45 : ac.eval (.tmp 45) = .string (tS t) := hP 3 (by kernel_rfl)
        have e49 : ac.eval (.tmp 49) = .string (tS t) := hP 7 (by kernel_rfl)
        exact rop_bin _ _ _ _ _ rfl e45 e49 (guard_str _ _ _ _ _ _ w') (neq_txt_ff _ _ rfl w') (wanted_none rfl) (hK _ _ (le8_refl _) rfl)
      · intro ac w' hF hB hT
        have e50 : ac.eval (.tmp 50) = .bool false := hT 8 (by decide)
        rw [hF.setsG [42, 43, 44, 45, 46, 47, 48, 49, 50] (by kernel_rfl)]
        simp only [List.foldl_cons, List.foldl_nil, List.setIfInBounds_toArray, List.set_cons_succ, List.set_cons_zero, e50]
        generalize ac.eval (.tmp 42) = u42
        generalize ac.eval (.tmp 43) = u43
        generalize ac.eval (.tmp 44) = u44
        generalize ac.eval (.tmp 45) = u45
        generalize ac.eval (.tmp 46) = u46
        generalize ac.eval (.tmp 47) = u47
        generalize ac.eval (.tmp 48) = u48
        generalize ac.eval (.tmp 49) = u49
        clear e50 hT hF ac
        have HF := Lib.hid (below_step HBR.out (Nat.le_refl _) hB)
        clear hB
        go_wp2
        exact ⟨⟨j + 1, by simp, hjk, HF.out⟩, by simp [intOf]; omega⟩
    · have hjk' : ¬ (j : Int) < (k : Int) := by omega
      obtain ⟨W4, hW4⟩ : ∃ W, W = wr := ⟨_, rfl⟩
      subst hW4
      replace Jq3 := Lib.hid (heap_oldP Jq3.out hbr)
      replace Jq4 := Lib.hid (IsH.old Jq4.out hbr)
      replace HSP := Lib.hid (HSP.out.old hbr)
      replace HBW := Lib.hid (below_step HBW.out (Nat.le_refl _) hbr)
      replace HT9 := Lib.hid (HT9.out.old hbr)
      have c30 : W4.cell? ⟨q3, 0, none⟩ = some (.int .i64 m) := cell_of Jq3.out 0
      have c31 : W4.cell? ⟨q3, 1, none⟩ = some (.int .i64 n) := cell_of Jq3.out 1
      clear hbr
      go_upto_region 13 with (first
        | refine wpList_load_mid rfl 24 (.tmp 4) rfl q4 0 rfl (x.map u8V) _ (range_var Jq4.out) Tryd.underlying24 rfl (sum_info' HXl.out) ?_
        | (go_at_call 20; (refine (HRF.out _ _ HSP.out).mono ?_); rintro e v5 ⟨rfl, c5⟩; obtain ⟨n5, y5⟩ := var_sum v5 Y HYl.out; have t5 := heap_alloc_last v5 zSum)
        | refine wpList_store_mid rfl 24 (.tmp 12) (.tmp 59) rfl v5.heap.size 0 (Y.map u8V).toArray rfl rfl (sum_there t5 HYl.out) (sum_info HYl.out) (sum_one Y) ?_)
      change Code.wp _ _ _ _ ((v5.alloc zSum).setCells v5.heap.size 0 (Y.map u8V))
      obtain ⟨W, hW⟩ : ∃ u, u = (v5.alloc zSum).setCells v5.heap.size 0 (Y.map u8V) := ⟨_, rfl⟩
      rw [← hW] at n5 y5 ⊢
      have kW : Below W4.heap.size W4 W := below_step c5 (Nat.le_refl _) y5
      replace HT9 := Lib.hid (HT9.out.old kW)
      replace HBW := Lib.hid (below_step HBW.out (Nat.le_refl _) kW)
      obtain ⟨q12, hq12⟩ : ∃ q, q = v5.heap.size := ⟨_, rfl⟩
      rw [← hq12] at n5 ⊢
      have Jq12 : Hid (IsH Y W q12) := Lib.hid n5
      clear hW kW c5 y5 t5 n5 hq12 c30 c31
      cases k with
      | zero =>
        try simp only [Act.put]
        refine wp_region_tab [RT.is (.bool true), RT.is (.bool true), RT.is (.slice s9 0 c9), RT.is (.int .i64 ((0 : Nat) : Int)), RT.is (.bool true), RT.is (.bool true), RT.is undef, RT.is undef, RT.is undef, RT.is undef, RT.is undef, RT.is undef, RT.is undef, RT.is undef, RT.is undef, RT.is undef, RT.is undef, RT.is undef, RT.is (.bool true), RT.is (.bool true), RT.is (.bool true)] (by kernel_rfl) (by kernel_rfl) (by kernel_rfl) (by kernel_rfl) ⟨?_, ?_, ?_, ?_, ?_, ?_, ?_, ?_, ?_, ?_, ?_, ?_, ?_, ?_, ?_, ?_, ?_, ?_, ?_, ?_, ?_, trivial⟩ ?_
        · intro ac w' hF hL hP hU K hK
          have hB := below_undrew hL
          have e7 : ac.eval (.tmp 7) = .bool true := hF.at 7 (by kernel_rfl)
          exact rop_move _ rfl e7 (wanted_none rfl) (hK _ _ (le8_refl _) rfl)
        · intro ac w' hF hL hP hU K hK
          have hB := below_undrew hL
          have e61 : ac.eval (.tmp 61) = .bool true := hP 0 (by kernel_rfl)
          exact rop_move _ rfl e61 (wanted_none rfl) (hK _ _ (le8_refl _) rfl)
        · intro ac w' hF hL hP hU K hK
          have hB := below_undrew hL
          have e9 : ac.eval (.tmp 9) = .slice s9 0 c9 := hF.at 9 (by kernel_rfl)
          have e62 : ac.eval (.tmp 62) = .bool true := hP 1 (by kernel_rfl)
          exact rop_move _ rfl e9 (wanted_of (j := 1) (b := true) rfl rfl e62) (hK _ _ (le8_refl _) rfl)
        · intro ac w' hF hL hP hU K hK
          have hB := below_undrew hL
          have e63 : ac.eval (.tmp 63) = .slice s9 0 c9 := hP 2 (by kernel_rfl)
          have e62 : ac.eval (.tmp 62) = .bool true := hP 1 (by kernel_rfl)
          exact rop_lenG _ Tryd.underlying52 rfl e63 (wanted_of (j := 1) (b := true) rfl rfl e62) (hK _ _ (le8_refl _) rfl)
        · intro ac w' hF hL hP hU K hK
          have hB := below_undrew hL
          have e64 : ac.eval (.tmp 64) = .int .i64 ((0 : Nat) : Int) := hP 3 (by kernel_rfl)
          have e62 : ac.eval (.tmp 62) = .bool true := hP 1 (by kernel_rfl)
          exact rop_bin _ _ _ _ _ rfl e64 rfl (guard_int _ _ _ _ _ _ _ w') (eql_iG _ _ _ (by simp) w') (wanted_of (j := 1) (b := true) rfl rfl e62) (hK _ _ (le8_refl _) rfl)
        · intro ac w' hF hL hP hU K hK
          have hB := below_undrew hL
          have e65 : ac.eval (.tmp 65) = .bool true := hP 4 (by kernel_rfl)
          have e62 : ac.eval (.tmp 62) = .bool true := hP 1 (by kernel_rfl)
          exact rop_move _ rfl e65 (wanted_of (j := 1) (b := true) rfl rfl e62) (hK _ _ (le8_refl _) rfl)
        · intro ac w' hF hL hP hU K hK
          have hB := below_undrew hL
          have e66 : ac.eval (.tmp 66) = .bool true := hP 5 (by kernel_rfl)
          exact rop_offG (j := 5) (b := false) rfl rfl e66 (by decide) (hK _ _ (le8_refl _) rfl)
        · intro ac w' hF hL hP hU K hK
          have hB := below_undrew hL
          have e66 : ac.eval (.tmp 66) = .bool true := hP 5 (by kernel_rfl)
          exact rop_offG (j := 5) (b := false) rfl rfl e66 (by decide) (hK _ _ (le8_refl _) rfl)
        · intro ac w' hF hL hP hU K hK
          have hB := below_undrew hL
          have e68 : ac.eval (.tmp 68) = undef := hP 7 (by kernel_rfl)
          exact rop_offU (j := 7) (b := true) rfl rfl e68 (hK _ _ (le8_refl _) rfl)
        · intro ac w' hF hL hP hU K hK
          have hB := below_undrew hL
          have e68 : ac.eval (.tmp 68) = undef := hP 7 (by kernel_rfl)
          exact rop_offU (j := 7) (b := true) rfl rfl e68 (hK _ _ (le8_refl _) rfl)
        · intro ac w' hF hL hP hU K hK
          have hB := below_undrew hL
          have e68 : ac.eval (.tmp 68) = undef := hP 7 (by kernel_rfl)
          exact rop_offU (j := 7) (b := true) rfl rfl e68 (hK _ _ (le8_refl _) rfl)
        · intro ac w' hF hL hP hU K hK
          have hB := below_undrew hL
          have e68 : ac.eval (.tmp 68) = undef := hP 7 (by kernel_rfl)
          exact rop_offU (j := 7) (b := true) rfl rfl e68 (hK _ _ (le8_refl _) rfl)
        · intro ac w' hF hL hP hU K hK
          have hB := below_undrew hL
          have e68 : ac.eval (.tmp 68) = undef := hP 7 (by kernel_rfl)
          exact rop_offU (j := 7) (b := true) rfl rfl e68 (hK _ _ (le8_refl _) rfl)
        · intro ac w' hF hL hP hU K hK
          have hB := below_undrew hL
          have e68 : ac.eval (.tmp 68) = undef := hP 7 (by kernel_rfl)
          exact rop_offU (j := 7) (b := true) rfl rfl e68 (hK _ _ (le8_refl _) rfl)
        · intro ac w' hF hL hP hU K hK
          have hB := below_undrew hL
          have e68 : ac.eval (.tmp 68) = undef := hP 7 (by kernel_rfl)
          exact rop_offU (j := 7) (b := true) rfl rfl e68 (hK _ _ (le8_refl _) rfl)
        · intro ac w' hF hL hP hU K hK
          have hB := below_undrew hL
          have e68 : ac.eval (.tmp 68) = undef := hP 7 (by kernel_rfl)
          exact rop_offU (j := 7) (b := true) rfl rfl e68 (hK _ _ (le8_refl _) rfl)
        · intro ac w' hF hL hP hU K hK
          have hB := below_undrew hL
          have e68 : ac.eval (.tmp 68) = undef := hP 7 (by kernel_rfl)
          exact rop_offU (j := 7) (b := true) rfl rfl e68 (hK _ _ (le8_refl _) rfl)
        · intro ac w' hF hL hP hU K hK
          have hB := below_undrew hL
          have e66 : ac.eval (.tmp 66) = .bool true := hP 5 (by kernel_rfl)
          exact rop_offG (j := 5) (b := false) rfl rfl e66 (by decide) (hK _ _ (le8_refl _) rfl)
        · intro ac w' hF hL hP hU K hK
          have hB := below_undrew hL
          have e66 : ac.eval (.tmp 66) = .bool true := hP 5 (by kernel_rfl)
          have e62 : ac.eval (.tmp 62) = .bool true := hP 1 (by kernel_rfl)
          exact rop_pick _ _ _ rfl true e66 (by rfl) (wanted_of (j := 1) (b := true) rfl rfl e62) (hK _ _ (le8_refl _) rfl)
        · intro ac w' hF hL hP hU K hK
          have hB := below_undrew hL
          have e62 : ac.eval (.tmp 62) = .bool true := hP 1 (by kernel_rfl)
          have e79 : ac.eval (.tmp 79) = .bool true := hP 18 (by kernel_rfl)
          exact rop_pick _ _ _ rfl true e62 (by simpa using e79) (wanted_none rfl) (hK _ _ (le8_refl _) rfl)
        · intro ac w' hF hL hP hU K hK
          have hB := below_undrew hL
          have e80 : ac.eval (.tmp 80) = .bool true := hP 19 (by kernel_rfl)
          exact rop_assign _ rfl e80 (wanted_none rfl) (hK _ _ (le8_refl _) rfl)
        · intro ac w' hF hB hT
          have e6 : ac.eval (.tmp 6) = .bool true := hT 20 (by decide)
          rw [hF.setsG [61, 62, 63, 64, 65, 66, 67, 68, 69, 70, 71, 72, 73, 74, 75, 76, 77, 78, 79, 80, 6] (by kernel_rfl)]
          simp only [List.foldl_cons, List.foldl_nil, List.setIfInBounds_toArray, List.set_cons_succ, List.set_cons_zero, e6]
          generalize ac.eval (.tmp 61) = u61
          generalize ac.eval (.tmp 62) = u62
          generalize ac.eval (.tmp 63) = u63
          generalize ac.eval (.tmp 64) = u64
          generalize ac.eval (.tmp 65) = u65
          generalize ac.eval (.tmp 66) = u66
          generalize ac.eval (.tmp 67) = u67
          generalize ac.eval (.tmp 68) = u68
          generalize ac.eval (.tmp 69) = u69
          generalize ac.eval (.tmp 70) = u70
          generalize ac.eval (.tmp 71) = u71
          generalize ac.eval (.tmp 72) = u72
          generalize ac.eval (.tmp 73) = u73
          generalize ac.eval (.tmp 74) = u74
          generalize ac.eval (.tmp 75) = u75
          generalize ac.eval (.tmp 76) = u76
          generalize ac.eval (.tmp 77) = u77
          generalize ac.eval (.tmp 78) = u78
          generalize ac.eval (.tmp 79) = u79
          generalize ac.eval (.tmp 80) = u80
          clear e6 hT hF ac
          have HF := Lib.hid (below_step HBW.out (Nat.le_refl _) hB)
          clear hB
          go_wp2
          go_ret
          exact ⟨rfl, HF.out⟩
      | succ j0 =>
        obtain ⟨hi, t, ht, htl, htd⟩ := HLA.out j0 rfl
        subst hi
        obtain ⟨j2, hj2⟩ : ∃ j2, j2 = j := ⟨_, rfl⟩
        obtain ⟨j, hj0⟩ : ∃ j, j = j0 := ⟨_, rfl⟩
        rw [← hj0] at HT9 ht ⊢
        have hj1 : j ≤ 1000 := by omega
        obtain ⟨b9, o9, rfl, hl9, -, hc9⟩ := HT9.out.at ht
        have HC9 := Lib.hid hc9
        have HOF : Hid (∀ u, Calls Tryd.prog 15 #[.string (tS t)] u fun e w' => e = .returned (sumV Y) ∧ Below u.heap.size u w') := Lib.hid fun u => by rw [← htd]; exact rof_any (tS t) t (tS_list t) u (by omega)
        clear ht htl htd hc9 HLA hj2
        try simp only [Act.put]
        refine wp_region_tab [RT.is (.bool true), RT.is (.bool true), RT.is (.slice (some ⟨b9, o9, none⟩) (j + 1) c9), RT.is (.int .i64 ((j + 1 : Nat) : Int)), RT.is (.bool false), RT.is (.bool false), RT.is (.bool true), RT.is (.bool true), RT.is (.slice (some ⟨b9, o9, none⟩) (j + 1) c9), RT.is (.slice (some ⟨b9, o9, none⟩) (j + 1) c9), RT.is (.int .i64 ((j + 1 : Nat) : Int)), RT.is (.int .i64 (j : Int)), RT.is (.pointer (some ⟨b9, o9 + j, none⟩)), RT.is (.string (tS t)), RT.is (sumV Y), RT.is (sumV Y), RT.is (.bool true), RT.is (.bool true), RT.is (.bool true), RT.is (.bool true), RT.is (.bool true)] (by kernel_rfl) (by kernel_rfl) (by kernel_rfl) (by kernel_rfl) ⟨?_, ?_, ?_, ?_, ?_, ?_, ?_, ?_, ?_, ?_, ?_, ?_, ?_, ?_, ?_, ?_, ?_, ?_, ?_, ?_, ?_, trivial⟩ ?_
        · intro ac w' hF hL hP hU K hK
          have hB := below_undrew hL
          have e7 : ac.eval (.tmp 7) = .bool true := hF.at 7 (by kernel_rfl)
          exact rop_move _ rfl e7 (wanted_none rfl) (hK _ _ (le8_refl _) rfl)
        · intro ac w' hF hL hP hU K hK
          have hB := below_undrew hL
          have e61 : ac.eval (.tmp 61) = .bool true := hP 0 (by kernel_rfl)
          exact rop_move _ rfl e61 (wanted_none rfl) (hK _ _ (le8_refl _) rfl)
        · intro ac w' hF hL hP hU K hK
          have hB := below_undrew hL
          have e9 : ac.eval (.tmp 9) = .slice (some ⟨b9, o9, none⟩) (j + 1) c9 := hF.at 9 (by kernel_rfl)
          have e62 : ac.eval (.tmp 62) = .bool true := hP 1 (by kernel_rfl)
          exact rop_move _ rfl e9 (wanted_of (j := 1) (b := true) rfl rfl e62) (hK _ _ (le8_refl _) rfl)
        · intro ac w' hF hL hP hU K hK
          have hB := below_undrew hL
          have e63 : ac.eval (.tmp 63) = .slice (some ⟨b9, o9, none⟩) (j + 1) c9 := hP 2 (by kernel_rfl)
          have e62 : ac.eval (.tmp 62) = .bool true := hP 1 (by kernel_rfl)
          exact rop_lenG _ Tryd.underlying52 rfl e63 (wanted_of (j := 1) (b := true) rfl rfl e62) (hK _ _ (le8_refl _) rfl)
        · intro ac w' hF hL hP hU K hK
          have hB := below_undrew hL
          have e64 : ac.eval (.tmp 64) = .int .i64 ((j + 1 : Nat) : Int) := hP 3 (by kernel_rfl)
          have e62 : ac.eval (.tmp 62) = .bool true := hP 1 (by kernel_rfl)
          exact rop_bin _ _ _ _ _ rfl e64 rfl (guard_int _ _ _ _ _ _ _ w') (eql_iG _ _ _ (by simp; omega) w') (wanted_of (j := 1) (b := true) rfl rfl e62) (hK _ _ (le8_refl _) rfl)
        · intro ac w' hF hL hP hU K hK
          have hB := below_undrew hL
          have e65 : ac.eval (.tmp 65) = .bool false := hP 4 (by kernel_rfl)
          have e62 : ac.eval (.tmp 62) = .bool true := hP 1 (by kernel_rfl)
          exact rop_move _ rfl e65 (wanted_of (j := 1) (b := true) rfl rfl e62) (hK _ _ (le8_refl _) rfl)
        · intro ac w' hF hL hP hU K hK
          have hB := below_undrew hL
          have e13 : ac.eval (.tmp 13) = .bool true := hF.at 13 (by kernel_rfl)
          have e66 : ac.eval (.tmp 66) = .bool false := hP 5 (by kernel_rfl)
          exact rop_move _ rfl e13 (wanted_of (j := 5) (b := false) rfl rfl e66) (hK _ _ (le8_refl _) rfl)
        · intro ac w' hF hL hP hU K hK
          have hB := below_undrew hL
          have e67 : ac.eval (.tmp 67) = .bool true := hP 6 (by kernel_rfl)
          have e66 : ac.eval (.tmp 66) = .bool false := hP 5 (by kernel_rfl)
          exact rop_move _ rfl e67 (wanted_of (j := 5) (b := false) rfl rfl e66) (hK _ _ (le8_refl _) rfl)
        · intro ac w' hF hL hP hU K hK
          have hB := below_undrew hL
          have e9 : ac.eval (.tmp 9) = .slice (some ⟨b9, o9, none⟩) (j + 1) c9 := hF.at 9 (by kernel_rfl)
          have e68 : ac.eval (.tmp 68) = .bool true := hP 7 (by kernel_rfl)
          exact rop_move _ rfl e9 (wanted_of (j := 7) (b := true) rfl rfl e68) (hK _ _ (le8_refl _) rfl)
        · intro ac w' hF hL hP hU K hK
          have hB := below_undrew hL
          have e9 : ac.eval (.tmp 9) = .slice (some ⟨b9, o9, none⟩) (j + 1) c9 := hF.at 9 (by kernel_rfl)
          have e68 : ac.eval (.tmp 68) = .bool true := hP 7 (by kernel_rfl)
          exact rop_move _ rfl e9 (wanted_of (j := 7) (b := true) rfl rfl e68) (hK _ _ (le8_refl _) rfl)
        · intro ac w' hF hL hP hU K hK
          have hB := below_undrew hL
          have e70 : ac.eval (.tmp 70) = .slice (some ⟨b9, o9, none⟩) (j + 1) c9 := hP 9 (by kernel_rfl)
          have e68 : ac.eval (.tmp 68) = .bool true := hP 7 (by kernel_rfl)
          exact rop_lenG _ Tryd.underlying52 rfl e70 (wanted_of (j := 7) (b := true) rfl rfl e68) (hK _ _ (le8_refl _) rfl)
        · intro ac w' hF hL hP hU K hK
          have hB := below_undrew hL
          have e71 : ac.eval (.tmp 71) = .int .i64 ((j + 1 : Nat) : Int) := hP 10 (by kernel_rfl)
          have e68 : ac.eval (.tmp 68) = .bool true := hP 7 (by kernel_rfl)
          exact rop_bin _ _ _ _ _ rfl e71 rfl (guard_int _ _ _ _ _ _ _ w') (sub_one j hj1 w') (wanted_of (j := 7) (b := true) rfl rfl e68) (hK _ _ (le8_refl _) rfl)
        · intro ac w' hF hL hP hU K hK
          have hB := below_undrew hL
          have e69 : ac.eval (.tmp 69) = .slice (some ⟨b9, o9, none⟩) (j + 1) c9 := hP 8 (by kernel_rfl)
          have e72 : ac.eval (.tmp 72) = .int .i64 (j : Int) := hP 11 (by kernel_rfl)
          have e68 : ac.eval (.tmp 68) = .bool true := hP 7 (by kernel_rfl)
          exact rop_idx _ _ _ rfl e69 e72 (index_texts b9 o9 (j + 1) c9 j (j : Int) rfl (Nat.lt_succ_self j) w') (wanted_of (j := 7) (b := true) rfl rfl e68) (hK _ _ (le8_refl _) rfl)
        · intro ac w' hF hL hP hU K hK
          have hB := below_undrew hL
          have e73 : ac.eval (.tmp 73) = .pointer (some ⟨b9, o9 + j, none⟩) := hP 12 (by kernel_rfl)
          have e68 : ac.eval (.tmp 68) = .bool true := hP 7 (by kernel_rfl)
          exact rop_ld _ _ rfl e73 (load_text ((hB.cell (p := ⟨b9, o9 + j, none⟩) hl9).trans HC9.out)) (wanted_of (j := 7) (b := true) rfl rfl e68) (hK _ _ (le8_refl _) rfl)
        · intro ac w' hF hL hP hU K hK
          have hB := below_undrew hL
          have e74 : ac.eval (.tmp 74) = .string (tS t) := hP 13 (by kernel_rfl)
          have e68 : ac.eval (.tmp 68) = .bool true := hP 7 (by kernel_rfl)
          refine rop_call 15 _ _ rfl #[.string (tS t)] (by simp [e74]) (by kernel_rfl) (wanted_of (j := 7) (b := true) rfl rfl e68) ?_
          refine (HOF.out w').mono ?_
          rintro e w2 ⟨rfl, hb⟩
          exact ⟨_, rfl, hK _ _ hb rfl⟩
        · intro ac w' hF hL hP hU K hK
          have hB := below_undrew hL
          have e12 : ac.eval (.tmp 12) = .pointer (some ⟨q12, 0, none⟩) := hF.at 12 (by kernel_rfl)
          have e68 : ac.eval (.tmp 68) = .bool true := hP 7 (by kernel_rfl)
          exact rop_ld _ _ rfl e12 (load_sumP HYl.out (range_var (IsH.old Jq12.out hB))) (wanted_of (j := 7) (b := true) rfl rfl e68) (hK _ _ (le8_refl _) rfl)
        · intro ac w' hF hL hP hU K hK
          have hB := below_undrew hL
          have e75 : ac.eval (.tmp 75) = sumV Y := hP 14 (by kernel_rfl)
          have e76 : ac.eval (.tmp 76) = sumV Y := hP 15 (by kernel_rfl)
          have e68 : ac.eval (.tmp 68) = .bool true := hP 7 (by kernel_rfl)
          exact rop_bin _ _ _ _ _ rfl e75 e76 (guard_run _ _ _ _ _ w') (eql_sum_tt Y Y HYl.out HYl.out rfl w') (wanted_of (j := 7) (b := true) rfl rfl e68) (hK _ _ (le8_refl _) rfl)
        · intro ac w' hF hL hP hU K hK
          have hB := below_undrew hL
          have e68 : ac.eval (.tmp 68) = .bool true := hP 7 (by kernel_rfl)
          have e77 : ac.eval (.tmp 77) = .bool true := hP 16 (by kernel_rfl)
          have e66 : ac.eval (.tmp 66) = .bool false := hP 5 (by kernel_rfl)
          exact rop_pick _ _ _ rfl true e68 (by simpa using e77) (wanted_of (j := 5) (b := false) rfl rfl e66) (hK _ _ (le8_refl _) rfl)
        · intro ac w' hF hL hP hU K hK
          have hB := below_undrew hL
          have e66 : ac.eval (.tmp 66) = .bool false := hP 5 (by kernel_rfl)
          have e78 : ac.eval (.tmp 78) = .bool true := hP 17 (by kernel_rfl)
          have e62 : ac.eval (.tmp 62) = .bool true := hP 1 (by kernel_rfl)
          exact rop_pick _ _ _ rfl false e66 (by simpa using e78) (wanted_of (j := 1) (b := true) rfl rfl e62) (hK _ _ (le8_refl _) rfl)
        · intro ac w' hF hL hP hU K hK
          have hB := below_undrew hL
          have e62 : ac.eval (.tmp 62) = .bool true := hP 1 (by kernel_rfl)
          have e79 : ac.eval (.tmp 79) = .bool true := hP 18 (by kernel_rfl)
          exact rop_pick _ _ _ rfl true e62 (by simpa using e79) (wanted_none rfl) (hK _ _ (le8_refl _) rfl)
        · intro ac w' hF hL hP hU K hK
          have hB := below_undrew hL
          have e80 : ac.eval (.tmp 80) = .bool true := hP 19 (by kernel_rfl)
          exact rop_assign _ rfl e80 (wanted_none rfl) (hK _ _ (le8_refl _) rfl)
        · intro ac w' hF hB hT
          have e6 : ac.eval (.tmp 6) = .bool true := hT 20 (by decide)
          rw [hF.setsG [61, 62, 63, 64, 65, 66, 67, 68, 69, 70, 71, 72, 73, 74, 75, 76, 77, 78, 79, 80, 6] (by kernel_rfl)]
          simp only [List.foldl_cons, List.foldl_nil, List.setIfInBounds_toArray, List.set_cons_succ, List.set_cons_zero, e6]
          generalize ac.eval (.tmp 61) = u61
          generalize ac.eval (.tmp 62) = u62
          generalize ac.eval (.tmp 63) = u63
          generalize ac.eval (.tmp 64) = u64
          generalize ac.eval (.tmp 65) = u65
          generalize ac.eval (.tmp 66) = u66
          generalize ac.eval (.tmp 67) = u67
          generalize ac.eval (.tmp 68) = u68
          generalize ac.eval (.tmp 69) = u69
          generalize ac.eval (.tmp 70) = u70
          generalize ac.eval (.tmp 71) = u71
          generalize ac.eval (.tmp 72) = u72
          generalize ac.eval (.tmp 73) = u73
          generalize ac.eval (.tmp 74) = u74
          generalize ac.eval (.tmp 75) = u75
          generalize ac.eval (.tmp 76) = u76
          generalize ac.eval (.tmp 77) = u77
          generalize ac.eval (.tmp 78) = u78
          generalize ac.eval (.tmp 79) = u79
          generalize ac.eval (.tmp 80) = u80
          clear e6 hT hF ac
          have HF := Lib.hid (below_step HBW.out (Nat.le_refl _) hB)
          clear hB
          go_wp2
          go_ret
          exact ⟨rfl, HF.out⟩

set_option maxRecDepth 100000 in
theorem lifted (os : Os) (started : os.Started) (H : Type) (enc : TypeId × Value → H) :
    ReturnsInHanded {} Tryd.checked os 8 .any (fun w args => (Rows.twinWaysSpec.pre enc Tryd.prog Tryd.f8 [] false w args ∧ laidMetH Tryd.prog [("scrinium/sha.k", Rows.laid_scrinium_sha_k)] w) ∧ sizedMet enc Tryd.prog Tryd.f8 (OpenSpec.ofChange Rows.twinWaysSpec) false w args)
      (Rows.twinWaysSpec.post enc Tryd.prog Tryd.f8 false true false false) := by
  refine returnsInHanded_of_change_and (C := Tryd.checked) (X := fun w _ => laidMetH Tryd.prog [("scrinium/sha.k", Rows.laid_scrinium_sha_k)] w) (fun _ _ _ hh h => h.of_heap hh) lawOwn started (by kernel_rfl) Tryd.func8
    (ChangeSpec.witness_shaped (enc := enc) (C := Tryd.checked) (os := os) (X := fun w _ => laidMetH Tryd.prog [("scrinium/sha.k", Rows.laid_scrinium_sha_k)] w) false (World.doorLaid Tryd.prog 400 os) #[.agg #[.int .i64 0, .int .i64 0], sumV (List.replicate 32 0), .slice none 0 0] 8 rfl (World.shaped_of_RefB (by kernel_rfl) (by kernel_rfl)) (by kernel_rfl) (by kernel_rfl) (by kernel_rfl) (door_met os _)) ?_
  intro W base args ds gs before hval0 hW _ _ hL _
  have hval : ∀ (j : Nat) t v, Tryd.f8.params[j]? = some t → args[j]? = some v → Value.okWide Tryd.prog W .any base t v := hval0
  have hW' := hW
  obtain ⟨p, q, hA0, hV, rfl, hfz, hnd⟩ := hW
  have hA : DataW.TrodAll enc Tryd.prog W 0 (fun _ => true) true Tryd.f8.params.toList args.toList ds p := hA0
  rw [Tryd.params8] at hA hval
  obtain ⟨v0, vs0, d0, ds0, p0, q0, hargs, rfl, rfl, h0, r0⟩ := trodAll_cons hA
  obtain ⟨v1, vs1, d1, ds1, p1, q1, rfl, rfl, rfl, h1, r1⟩ := trodAll_cons r0
  obtain ⟨v2, vs2, d2, ds2, p2, q2, rfl, rfl, rfl, h2, r2⟩ := trodAll_cons r1
  obtain ⟨rfl, rfl, rfl⟩ := trodAll_nil r2
  obtain rfl : args = #[v0, v1, v2] := by cases args; simp_all
  obtain ⟨rfl, rfl⟩ := trodVars_none hV
  have hKT := KT_of_laid hL
  obtain ⟨z0, y0, rfl, w0, w0b⟩ := ints2_argP (hval 0 22 v0 rfl rfl) h0
  obtain ⟨x1, rfl, w1⟩ := open_sum (hval 1 24 v1 rfl rfl) h1
  obtain ⟨a2, len2, cap2, rfl⟩ := okWide_slice Tryd.underlying26 (hval 2 26 v2 rfl rfl)
  obtain ⟨l2, w2⟩ := sums_of h2
  clear hA0 hval0
  refine (walk (w := W) hKT z0 y0 w0 w0b x1 w1 _ l2 w2).mono fun e W' ⟨he, bel⟩ => ?_
  subst he
  exact ⟨_, rfl, law_post rfl rfl (by kernel_rfl) hW' rfl bel⟩

theorem row_holds : Rows.TwinWaysSaid :=
  OpenClaim.holds_of_wide 8 Tryd.f8 rfl rfl rfl rfl rfl rfl rfl ⟨rfl, rfl, rfl, rfl, rfl⟩ rfl rfl rfl rfl rfl (by kernel_rfl) Tryd.func8 (by kernel_rfl)
    (of_decide_eq_true (by kernel_rfl)) (by unfold Func.isWrapper; first | (rw [if_pos (by decide +kernel)]; kernel_rfl) | (rw [if_neg (by decide +kernel)]; exact ⟨rfl, rfl⟩))
    (fun os started H enc _ => lifted os started H enc)

theorem holds : Rows.TwinWaysCardSaid :=
  Claim7.holds_tied_plain_at .later [] [.data] true Rows.twinWaysCard.stood.harness false
    row_holds (fun _ h => by cases h) (by kernel_rfl) (fun _ h => by cases h) twinWays_row_tie rfl ⟨rfl, rfl⟩ (by kernel_rfl) rfl
    (fun f fn hf hfn => by
      obtain rfl : f = 8 := Option.some.inj ((show Tryd.prog.funcNamed "scrinium/scriniumlaw13.TwinWays" = some 8 by kernel_rfl).symm.trans hf) |>.symm
      obtain rfl : fn = Tryd.f8 := (Option.some.inj (Tryd.func8.symm.trans hfn)).symm
      exact ⟨by kernel_rfl, fun j t ht => by
        rw [Tryd.params8] at ht
        have hm : t ∈ [22, 24, 26] := by simpa using Array.mem_of_getElem? ht
        have hall : ([22, 24, 26].all fun u => !Tryd.prog.wantsStandIn u) = true := by kernel_rfl
        exact (show Tryd.prog.wantsStandIn t = false by simpa using List.all_eq_true.1 hall t hm)⟩)
    (by kernel_rfl)
end Go.Proofs.YtdcebdleneieeaaDoor.twinWays

theorem Go.Proofs.YtdcebdleneieeaaDoor.twinWays_holds : Go.Proofs.YtdcebdleneieeaaDoor.Rows.TwinWaysCardSaid := Go.Proofs.YtdcebdleneieeaaDoor.twinWays.holds
#print axioms Go.Proofs.YtdcebdleneieeaaDoor.twinWays_holds
