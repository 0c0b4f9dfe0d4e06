/-
  ShardNil: of no shard nothing comes; a zero one is of the window 0. For every number; the numbers K of the package sha are as the program's own start lays them.
-/
import Derived.Test.YtollcdalokhjaaaDoorMShdD
namespace Go.Proofs.YtollcdalokhjaaaDoor.shardNil
open Go.ChangeShapes Go.WideShapes Go.ChangeAt Go.RowKit

theorem zX_e : addE (sh0 0) 5 ⟨#[120]⟩ = 0 := by decide
theorem eql_pt_none (w : World) : (binOp .eql 24 (.pointer none) (.pointer none)).run Tryd.prog w = .ok (.bool true) w := by go_simp
set_option maxHeartbeats 12800000 in
set_option maxRecDepth 100000 in
theorem walk {w : World} (hK : KT w) (i : Int) (_h1 : -9223372036854775808 ≤ i) (_h2 : i ≤ 9223372036854775807) :
    Calls Tryd.prog 6 #[.int .i64 i] w fun e w' => e = .returned (.bool true) ∧ Below w.heap.size w w' := by
  have HAW := Lib.hid fun u hu => awake17_any u hu
  obtain ⟨B, hB⟩ : ∃ B, B = w.heap.size := ⟨_, rfl⟩
  obtain ⟨Z, hZ⟩ : ∃ Z, Z = shZ 0 := ⟨_, rfl⟩
  have hs0 := shd_new w 0 (by unfold i64R; decide) hK
  have hbz := built_sh0
  rw [← hB, ← hZ] at hs0
  rw [← hZ] at hbz
  obtain ⟨W1, hW1⟩ : ∃ W, W = w.alloc (.cells Z.toArray 68) := ⟨_, rfl⟩
  rw [← hW1] at hs0
  have b1 : Below w.heap.size w W1 := by rw [hW1]; exact below_boxS _ _
  have hk1 := hK.old b1
  obtain ⟨D, hD⟩ : ∃ D, D = Tree.empty := ⟨_, rfl⟩
  have HDl : Hid (D.length = 32) := Lib.hid (by rw [hD]; exact Tree.empty_length)
  have HRT : Hid (∀ u, Calls Tryd.prog 18 #[.slice none 0 0] u fun e w' => e = .returned (.agg (D.map u8V).toArray) ∧ Below u.heap.size u w') := Lib.hid fun u => by
    have := rleafRoot_any 0 [] _ u rfl (by decide) (Sums.nil u)
    rwa [Tree.root_nil, ← hD] at this
  have HRN : Hid (∀ u, KT u → Calls Tryd.prog 13 #[.pointer none] u fun e w' => e = .returned (sumV D) ∧ Below u.heap.size u w') := Lib.hid fun u hu => by
    rw [hD]
    exact shRoot_nil u hu
  obtain ⟨X1, hX1⟩ : ∃ X, X = shAdd (sh0 0) 5 ⟨#[120]⟩ := ⟨_, rfl⟩
  have HADD : Hid (∀ S u, Shd S B (sh0 0) u → UpS S u → KT u → Calls Tryd.prog 15 #[.pointer (some ⟨B, 0, none⟩), .int .i64 5, .string ⟨#[120]⟩] u fun e w' => e = .returned (.tuple #[.int .i64 0, .int .i64 0]) ∧ Shd S B X1 w' ∧ OnlyS S u w') := Lib.hid fun S u hs hu hk => by
    rw [hX1]
    exact shAdd_ok hs 5 ⟨#[120]⟩ zX_e hu hk
  have HWIN : Hid (∀ S u, Shd S B X1 u → Calls Tryd.prog 28 #[.pointer (some ⟨B, 0, none⟩)] u fun e w' => e = .returned (.int .i64 0) ∧ u = w') := Lib.hid fun S u hs => by
    have := shWindow_any hs
    rwa [show X1.win = 0 by rw [hX1]; rfl] at this
  have HCNT : Hid (∀ S u, Shd S B X1 u → Calls Tryd.prog 10 #[.pointer (some ⟨B, 0, none⟩)] u fun e w' => e = .returned (.int .i64 1) ∧ u = w') := Lib.hid fun S u hs => by
    have := shCount_any hs
    rwa [show X1.lvs.length = 1 by rw [hX1]; rfl] at this
  obtain ⟨T0, hT0⟩ : ∃ T, T = st0 := ⟨_, rfl⟩
  have HBT : Hid (Tryd.prog.built 49 [] = some (stCs T0).toArray) := Lib.hid (by rw [hT0]; kernel_rfl)
  have HPR : Hid (∀ u, Calls Tryd.prog 20 #[.pointer none, .agg (stCs T0).toArray] u fun e w' => e = .returned (.int .i64 1) ∧ Below u.heap.size u w') := Lib.hid fun u => shPrune_nil T0 u
  obtain ⟨f0, hf0⟩ : ∃ f, f = fz0 := ⟨_, rfl⟩
  have HIF : Hid ((Tryd.prog.info? 44).map (·.size) = some (fzCs f0).toArray.size) := Lib.hid (by rw [hf0]; exact size_of info_fz)
  have HIT : Hid ((Tryd.prog.info? 49).map (·.size) = some (stCs T0).toArray.size) := Lib.hid (by rw [hT0]; exact size_of info_st)
  have HIR : Hid ((Tryd.prog.info? 55).map (·.size) = some (recCs rec0).toArray.size) := Lib.hid (size_of info_rec4)
  have HTF : Hid (∀ u : World, (u.alloc (.cells (fzCs f0).toArray 44)).there u.heap.size 0 (fzCs f0).toArray.size) := Lib.hid fun u => by
    have := Blk.there (Blk.alloc u 44 (fzCs f0)) (o := 0) (n := (fzCs f0).toArray.size) (by simp)
    exact this
  have HTT : Hid (∀ u : World, (u.alloc (.cells (stCs T0).toArray 49)).there u.heap.size 0 (stCs T0).toArray.size) := Lib.hid fun u => by
    have := Blk.there (Blk.alloc u 49 (stCs T0)) (o := 0) (n := (stCs T0).toArray.size) (by simp)
    exact this
  have HCN : Hid (∀ u, Calls Tryd.prog 19 #[.pointer none] u fun e w' => e = .returned (.tuple #[.agg (fzCs f0).toArray, .int .i64 1]) ∧ Below u.heap.size u w') := Lib.hid fun u => by rw [hf0]; exact shClose_nil u
  have HFN : Hid (∀ u, Calls Tryd.prog 29 #[.pointer none] u fun e w' => e = .returned (.tuple #[.agg (fzCs f0).toArray, .bool false]) ∧ Below u.heap.size u w') := Lib.hid fun u => by rw [hf0]; exact shFreeze_nil u
  have HSN : Hid (∀ u, Calls Tryd.prog 30 #[.pointer none] u fun e w' => e = .returned (.tuple #[.agg (stCs T0).toArray, .bool false]) ∧ Below u.heap.size u w') := Lib.hid fun u => by rw [hT0]; exact shStone_nil u
  have HGN : Hid (∀ u, Calls Tryd.prog 23 #[.pointer none, .int .i64 i] u fun e w' => e = .returned (.tuple #[.agg (recCs rec0).toArray, .int .i64 1]) ∧ Below u.heap.size u w') := Lib.hid fun u => shGet_nil i u
  obtain ⟨n1, hn1⟩ : ∃ n, n = W1.heap.size := ⟨_, rfl⟩
  have hBn : B < n1 := by rw [hn1]; exact hs0.lt
  have hBK : ¬ B ≤ 0 := by have := hK.pos; omega
  have HS0 := Lib.hid (hs0.tight)
  have HN1 := Lib.hid hn1
  have HBN := Lib.hid hBn
  have HBK := Lib.hid hBK
  have HB := Lib.hid hB
  have HW1 := Lib.hid hW1
  have HBZ := Lib.hid hbz
  have HF0 := Lib.hid hf0
  have HT0 := Lib.hid hT0
  have HKA := Lib.hid hK
  have B1 := Lib.hid b1
  clear hn1 hBn hBK hs0 hbz hB hW1 hZ b1 hk1 hD hX1 hT0 hf0 hK _h1 _h2
  go_enter Tryd.func6, Tryd.ntmps6
  go_upto_region 3 with (refine wpList_build_at rfl 68 #[] rfl Z.toArray [] (by simp) HBZ.out ?_)
  rw [← HW1.out, ← HB.out]
  have hcs : n1 ≤ W1.heap.size := by rw [HN1.out]; exact Nat.le_refl _
  clear HW1 HBZ
  go_upto_region 4 with (go_at_call 15; (refine (shAdd_nil 1 ⟨#[]⟩ _).mono ?_; rintro e w3 ⟨rfl, b3⟩))
  have hs := HS0.out.old b3
  have hb := below_step B1.out (Nat.le_refl _) b3
  replace hcs := Nat.le_trans hcs b3.size
  clear HS0 B1 b3
  go_upto_region 5 with (first
    | (go_at_call 19; (refine (HCN.out _).mono ?_; rintro e w4 ⟨rfl, b4⟩))
    | refine wpList_store_mid (w := w4.alloc (.cells (fzCs fz0).toArray 44)) rfl 44 (.tmp 7) (.tmp 30) rfl w4.heap.size 0 (fzCs f0).toArray rfl rfl (by have := HTF.out w4; rw [HF0.out] at this ⊢; exact this) HIF.out one_cells ?_)
  obtain ⟨V4, hV4⟩ : ∃ u, u = (w4.alloc (.cells (fzCs fz0).toArray 44)).setCells w4.heap.size 0 (fzCs f0) := ⟨_, rfl⟩
  change Code.wp _ _ _ _ ((w4.alloc (.cells (fzCs fz0).toArray 44)).setCells w4.heap.size 0 (fzCs f0))
  rw [← hV4]
  have c4 : Below w4.heap.size w4 V4 := by rw [hV4]; exact below_setCells (Nat.le_refl _) _ _ _ (below_boxS _ _)
  have d4 := below_step b4 (Nat.le_refl _) c4
  replace hb := below_step hb (Nat.le_refl _) d4
  have hxs : n1 ≤ w4.heap.size := Nat.le_trans hcs b4.size
  replace hcs := Nat.le_trans hcs d4.size
  replace hs := hs.old d4
  generalize w4.heap.size = x4
  clear hV4 c4 d4 b4 hxs
  go_upto_region 6 with (first
    | (go_at_call 23; (refine (HGN.out _).mono ?_; rintro e w5 ⟨rfl, b5⟩))
    | refine wpList_store_mid (w := w5.alloc (.cells (recCs rec0).toArray 55)) rfl 55 (.tmp 9) (.tmp 36) rfl w5.heap.size 0 (recCs rec0).toArray rfl rfl (Blk.there (Blk.alloc w5 55 (recCs rec0)) (by decide)) HIR.out one_rec ?_)
  obtain ⟨V5, hV5⟩ : ∃ u, u = (w5.alloc (.cells (recCs rec0).toArray 55)).setCells w5.heap.size 0 (recCs rec0) := ⟨_, rfl⟩
  change Code.wp _ _ _ _ ((w5.alloc (.cells (recCs rec0).toArray 55)).setCells w5.heap.size 0 (recCs rec0))
  rw [← hV5]
  have c5 : Below w5.heap.size w5 V5 := by rw [hV5]; exact below_setCells (Nat.le_refl _) _ _ _ (below_boxS _ _)
  have d5 := below_step b5 (Nat.le_refl _) c5
  replace hb := below_step hb (Nat.le_refl _) d5
  have hxs : n1 ≤ w5.heap.size := Nat.le_trans hcs b5.size
  replace hcs := Nat.le_trans hcs d5.size
  replace hs := hs.old d5
  generalize w5.heap.size = x5
  clear hV5 c5 d5 b5 hxs
  go_upto_region 7 with (go_at_call 12; (refine (shPath_nil i 1 _).mono ?_; rintro e w6 ⟨rfl, rfl⟩))
  go_upto_region 8 with (first
    | (go_at_call 29; (refine (HFN.out _).mono ?_; rintro e w7 ⟨rfl, b7⟩))
    | refine wpList_store_mid (w := w7.alloc (.cells (fzCs fz0).toArray 44)) rfl 44 (.tmp 13) (.tmp 47) rfl w7.heap.size 0 (fzCs f0).toArray rfl rfl (by have := HTF.out w7; rw [HF0.out] at this ⊢; exact this) HIF.out one_cells ?_)
  obtain ⟨V7, hV7⟩ : ∃ u, u = (w7.alloc (.cells (fzCs fz0).toArray 44)).setCells w7.heap.size 0 (fzCs f0) := ⟨_, rfl⟩
  change Code.wp _ _ _ _ ((w7.alloc (.cells (fzCs fz0).toArray 44)).setCells w7.heap.size 0 (fzCs f0))
  rw [← hV7]
  have c7 : Below w7.heap.size w7 V7 := by rw [hV7]; exact below_setCells (Nat.le_refl _) _ _ _ (below_boxS _ _)
  have d7 := below_step b7 (Nat.le_refl _) c7
  replace hb := below_step hb (Nat.le_refl _) d7
  have hxs : n1 ≤ w7.heap.size := Nat.le_trans hcs b7.size
  replace hcs := Nat.le_trans hcs d7.size
  replace hs := hs.old d7
  generalize w7.heap.size = x7
  clear hV7 c7 d7 b7 hxs
  go_upto_region 9 with (first
    | (go_at_call 30; (refine (HSN.out _).mono ?_; rintro e w8 ⟨rfl, b8⟩))
    | refine wpList_store_mid (w := w8.alloc (.cells (stCs st0).toArray 49)) rfl 49 (.tmp 15) (.tmp 52) rfl w8.heap.size 0 (stCs T0).toArray rfl rfl (by have := HTT.out w8; rw [HT0.out] at this ⊢; exact this) HIT.out one_st ?_)
  obtain ⟨V8, hV8⟩ : ∃ u, u = (w8.alloc (.cells (stCs st0).toArray 49)).setCells w8.heap.size 0 (stCs T0) := ⟨_, rfl⟩
  change Code.wp _ _ _ _ ((w8.alloc (.cells (stCs st0).toArray 49)).setCells w8.heap.size 0 (stCs T0))
  rw [← hV8]
  have c8 : Below w8.heap.size w8 V8 := by rw [hV8]; exact below_setCells (Nat.le_refl _) _ _ _ (below_boxS _ _)
  have d8 := below_step b8 (Nat.le_refl _) c8
  replace hb := below_step hb (Nat.le_refl _) d8
  have hxs : n1 ≤ w8.heap.size := Nat.le_trans hcs b8.size
  replace hcs := Nat.le_trans hcs d8.size
  replace hs := hs.old d8
  generalize w8.heap.size = x8
  clear hV8 c8 d8 b8 hxs
  go_upto_region 10 with (first
    | (go_at_call 18; (refine (HRT.out _).mono ?_; rintro e w9 ⟨rfl, b9⟩))
    | refine wpList_store_mid (w := w9.alloc (.cells ((List.replicate 32 (0 : UInt8)).map u8V).toArray 33)) rfl 33 (.tmp 17) (.tmp 54) rfl w9.heap.size 0 (D.map u8V).toArray rfl rfl (sum_there (heap_alloc_last _ _) HDl.out) (sum_info HDl.out) (sum_one D) ?_)
  obtain ⟨V9, hV9⟩ : ∃ u, u = (w9.alloc (.cells ((List.replicate 32 (0 : UInt8)).map u8V).toArray 33)).setCells w9.heap.size 0 (D.map u8V) := ⟨_, rfl⟩
  change Code.wp _ _ _ _ ((w9.alloc (.cells ((List.replicate 32 (0 : UInt8)).map u8V).toArray 33)).setCells w9.heap.size 0 (D.map u8V))
  rw [← hV9]
  have c9 : Below w9.heap.size w9 V9 := by rw [hV9]; exact below_setCells (Nat.le_refl _) _ _ _ (below_boxS _ _)
  have d9 := below_step b9 (Nat.le_refl _) c9
  replace hb := below_step hb (Nat.le_refl _) d9
  have hxs : n1 ≤ w9.heap.size := Nat.le_trans hcs b9.size
  replace hcs := Nat.le_trans hcs d9.size
  replace hs := hs.old d9
  have hz9 : Blk w9.heap.size 33 (D.map u8V) V9 := by rw [hV9]; exact (var_sum w9 D HDl.out).1
  obtain ⟨x9, hx9⟩ : ∃ x, x = w9.heap.size := ⟨_, rfl⟩
  rw [← hx9] at hz9 ⊢
  have hxn : n1 ≤ x9 := by rw [hx9]; exact hxs
  have hxl := Blk.lt hz9
  obtain ⟨SA, hSA⟩ : ∃ S : Nat → Prop, S = fun j => (B ≤ j ∧ j < n1) ∨ V9.heap.size ≤ j := ⟨_, rfl⟩
  have HS9 : Hid (Shd SA B (sh0 0) V9) := Lib.hid (by
    rw [hSA]
    refine hs.mono (fun k hk h => .inl (by rw [HN1.out]; exact h)) (fun h => ?_)
    rcases h with h | h
    · exact HBK.out h.1
    · have := HBN.out; have := hs.lt; have := HBK.out; omega)
  have HUP : Hid (UpS SA V9) := Lib.hid (by rw [hSA]; exact fun k hk => .inr hk)
  have HNX : Hid (¬ SA x9) := Lib.hid (by
    rw [hSA]
    intro h
    rcases h with h | h
    · omega
    · omega)
  have HSW : Hid (∀ j, SA j → w.heap.size ≤ j) := Lib.hid (by
    rw [hSA, ← HB.out]
    intro j h
    rcases h with h | h
    · exact h.1
    · have := hs.lt; omega)
  have HZ9 := Lib.hid hz9
  have HB9 := Lib.hid hb
  have HK9 := Lib.hid (HKA.out.old hb)
  have HXB : Hid (x9 < V9.heap.size) := Lib.hid hxl
  clear hx9 hz9 hs hb hV9 c9 d9 b9 hxn hxl hSA hcs hxs
  go_upto_region 11 with (go_at_call 15; (refine (HADD.out SA _ HS9.out HUP.out HK9.out).mono ?_; rintro e w10 ⟨rfl, hs10, o10⟩; have HS10 := Lib.hid hs10; have HB10 := Lib.hid (HB9.out.trans (o10.below HSW.out HB9.out.size)); have HZ10 := Lib.hid ((o10.block x9 HXB.out HNX.out).trans HZ9.out); clear hs10 o10))
  obtain ⟨W10, hW10⟩ : ∃ u, u = w10 := ⟨_, rfl⟩
  subst hW10
  have HST := HS10
  have HZT : Hid (Blk x9 33 (D.map u8V) W10) := HZ10
  have HKT := Lib.hid (HKA.out.old HB10.out)
  clear HS9 HUP HK9 HS10 HZ10 HZ9 HB9 HADD HNX HSW HXB HTF HTT HIF HIT HIR HCN HFN HSN HGN HRT HF0 HT0
  try simp only [Act.put]
  refine wp_region_tab [RT.is (.bool true), RT.is (.bool true), RT.is (.int .i64 1), RT.is (.bool true), RT.is (.bool true), RT.is (.bool true), RT.is (.int .i64 1), RT.is (.bool true), RT.is (.bool true), RT.is (.bool true), RT.is (.int .i64 1), RT.is (.bool true), RT.is (.bool true), RT.is (.bool true), RT.is (.int .i64 1), RT.is (.bool true), RT.is (.bool true), RT.is (.bool true), RT.is (.pointer none), RT.is (.agg (stCs T0).toArray), RT.is (.int .i64 1), RT.is (.bool true), RT.is (.bool true), RT.is (.bool true), RT.is (.bool false), RT.is (.bool true), RT.is (.bool true), RT.is (.bool true), RT.is (.bool false), RT.is (.bool true), RT.is (.bool true), RT.is (.bool true), RT.is (.pointer none), RT.is (.int .i64 0), RT.is (.pointer none), RT.is (.int .i64 0), RT.is (.int .i64 0), RT.is (.pointer none), RT.is (.int .i64 0), RT.is (.int .i64 0), RT.is (.pointer none), RT.is (.int .i64 0), RT.is (.int .i64 0), RT.is (.pointer none), RT.is (.slice none 0 0), RT.is (.int .i64 0), RT.is (.int .i64 0), RT.is (.pointer none), RT.is (.slice none 0 0), RT.is (.int .i64 0), RT.is (.int .i64 0), RT.is (.bool true), RT.is (.bool true), RT.is (.bool true), RT.is (.pointer none), RT.is (.int .i64 (-1)), RT.is (.bool true), RT.is (.bool true), RT.is (.bool true), RT.is (.pointer none), RT.is (sumV D), RT.is (sumV D), RT.is (.bool true), RT.is (.bool true), RT.is (.bool true), RT.is (.pointer none), RT.is (.pointer none), RT.is (.bool true), RT.is (.bool true), RT.is (.bool true), RT.is (.int .i64 0), RT.is (.bool true), RT.is (.bool true), RT.is (.bool true), RT.is (.int .i64 0), RT.is (.bool true), RT.is (.bool true), RT.is (.bool true), RT.is (.pointer (some ⟨B, 0, none⟩)), RT.is (.int .i64 0), RT.is (.bool true), RT.is (.bool true), RT.is (.bool true), RT.is (.pointer (some ⟨B, 0, none⟩)), RT.is (.int .i64 1), RT.is (.bool true), RT.is (.bool true), RT.is (.bool true)] (by kernel_rfl) (by kernel_rfl) (by kernel_rfl) (by kernel_rfl) ⟨?_, ?_, ?_, ?_, ?_, ?_, ?_, ?_, ?_, ?_, ?_, ?_, ?_, ?_, ?_, ?_, ?_, ?_, ?_, ?_, ?_, ?_, ?_, ?_, ?_, ?_, ?_, ?_, ?_, ?_, ?_, ?_, ?_, ?_, ?_, ?_, ?_, ?_, ?_, ?_, ?_, ?_, ?_, ?_, ?_, ?_, ?_, ?_, ?_, ?_, ?_, ?_, ?_, ?_, ?_, ?_, ?_, ?_, ?_, ?_, ?_, ?_, ?_, ?_, ?_, ?_, ?_, ?_, ?_, ?_, ?_, ?_, ?_, ?_, ?_, ?_, ?_, ?_, ?_, ?_, ?_, ?_, ?_, ?_, ?_, ?_, ?_, ?_, trivial⟩ ?_
  · intro ac w' hF hL hP hU K hK
    have hB := below_undrew hL
    refine rop_call 8 _ _ rfl #[] (by simp) (by kernel_rfl) (wanted_none rfl) ?_
    refine (HAW.out w' (HKT.out.old hB)).mono ?_
    rintro e w2 ⟨rfl, hb⟩
    exact ⟨_, rfl, hK _ _ hb rfl⟩
  · intro ac w' hF hL hP hU K hK
    have hB := below_undrew hL
    have e60 : ac.eval (.tmp 60) = .bool true := hP 0 (by kernel_rfl)
    exact rop_move _ rfl e60 (wanted_none rfl) (hK _ _ (le8_refl _) rfl)
  · intro ac w' hF hL hP hU K hK
    have hB := below_undrew hL
    have e6 : ac.eval (.tmp 6) = .int .i64 1 := hF.at 6 (by kernel_rfl)
    have e61 : ac.eval (.tmp 61) = .bool true := hP 1 (by kernel_rfl)
    exact rop_move _ rfl e6 (wanted_of (j := 1) (b := true) rfl rfl e61) (hK _ _ (le8_refl _) rfl)
  · intro ac w' hF hL hP hU K hK
    have hB := below_undrew hL
    have e62 : ac.eval (.tmp 62) = .int .i64 1 := hP 2 (by kernel_rfl)
    have e61 : ac.eval (.tmp 61) = .bool true := hP 1 (by kernel_rfl)
    exact rop_bin _ _ _ _ _ rfl e62 rfl (guard_int _ _ _ _ _ _ _ w') (eql_errS 1 w') (wanted_of (j := 1) (b := true) rfl rfl e61) (hK _ _ (le8_refl _) rfl)
  · intro ac w' hF hL hP hU K hK
    have hB := below_undrew hL
    have e61 : ac.eval (.tmp 61) = .bool true := hP 1 (by kernel_rfl)
    have e63 : ac.eval (.tmp 63) = .bool true := hP 3 (by kernel_rfl)
    exact rop_pick _ _ _ rfl true e61 (by simpa using e63) (wanted_none rfl) (hK _ _ (le8_refl _) rfl)
  · intro ac w' hF hL hP hU K hK
    have hB := below_undrew hL
    have e64 : ac.eval (.tmp 64) = .bool true := hP 4 (by kernel_rfl)
    exact rop_move _ rfl e64 (wanted_none rfl) (hK _ _ (le8_refl _) rfl)
  · intro ac w' hF hL hP hU K hK
    have hB := below_undrew hL
    have e8 : ac.eval (.tmp 8) = .int .i64 1 := hF.at 8 (by kernel_rfl)
    have e65 : ac.eval (.tmp 65) = .bool true := hP 5 (by kernel_rfl)
    exact rop_move _ rfl e8 (wanted_of (j := 5) (b := true) rfl rfl e65) (hK _ _ (le8_refl _) rfl)
  · intro ac w' hF hL hP hU K hK
    have hB := below_undrew hL
    have e66 : ac.eval (.tmp 66) = .int .i64 1 := hP 6 (by kernel_rfl)
    have e65 : ac.eval (.tmp 65) = .bool true := hP 5 (by kernel_rfl)
    exact rop_bin _ _ _ _ _ rfl e66 rfl (guard_int _ _ _ _ _ _ _ w') (eql_errS 1 w') (wanted_of (j := 5) (b := true) rfl rfl e65) (hK _ _ (le8_refl _) rfl)
  · intro ac w' hF hL hP hU K hK
    have hB := below_undrew hL
    have e65 : ac.eval (.tmp 65) = .bool true := hP 5 (by kernel_rfl)
    have e67 : ac.eval (.tmp 67) = .bool true := hP 7 (by kernel_rfl)
    exact rop_pick _ _ _ rfl true e65 (by simpa using e67) (wanted_none rfl) (hK _ _ (le8_refl _) rfl)
  · intro ac w' hF hL hP hU K hK
    have hB := below_undrew hL
    have e68 : ac.eval (.tmp 68) = .bool true := hP 8 (by kernel_rfl)
    exact rop_move _ rfl e68 (wanted_none rfl) (hK _ _ (le8_refl _) rfl)
  · intro ac w' hF hL hP hU K hK
    have hB := below_undrew hL
    have e10 : ac.eval (.tmp 10) = .int .i64 1 := hF.at 10 (by kernel_rfl)
    have e69 : ac.eval (.tmp 69) = .bool true := hP 9 (by kernel_rfl)
    exact rop_move _ rfl e10 (wanted_of (j := 9) (b := true) rfl rfl e69) (hK _ _ (le8_refl _) rfl)
  · intro ac w' hF hL hP hU K hK
    have hB := below_undrew hL
    have e70 : ac.eval (.tmp 70) = .int .i64 1 := hP 10 (by kernel_rfl)
    have e69 : ac.eval (.tmp 69) = .bool true := hP 9 (by kernel_rfl)
    exact rop_bin _ _ _ _ _ rfl e70 rfl (guard_int _ _ _ _ _ _ _ w') (eql_errS 1 w') (wanted_of (j := 9) (b := true) rfl rfl e69) (hK _ _ (le8_refl _) rfl)
  · intro ac w' hF hL hP hU K hK
    have hB := below_undrew hL
    have e69 : ac.eval (.tmp 69) = .bool true := hP 9 (by kernel_rfl)
    have e71 : ac.eval (.tmp 71) = .bool true := hP 11 (by kernel_rfl)
    exact rop_pick _ _ _ rfl true e69 (by simpa using e71) (wanted_none rfl) (hK _ _ (le8_refl _) rfl)
  · intro ac w' hF hL hP hU K hK
    have hB := below_undrew hL
    have e72 : ac.eval (.tmp 72) = .bool true := hP 12 (by kernel_rfl)
    exact rop_move _ rfl e72 (wanted_none rfl) (hK _ _ (le8_refl _) rfl)
  · intro ac w' hF hL hP hU K hK
    have hB := below_undrew hL
    have e12 : ac.eval (.tmp 12) = .int .i64 1 := hF.at 12 (by kernel_rfl)
    have e73 : ac.eval (.tmp 73) = .bool true := hP 13 (by kernel_rfl)
    exact rop_move _ rfl e12 (wanted_of (j := 13) (b := true) rfl rfl e73) (hK _ _ (le8_refl _) rfl)
  · intro ac w' hF hL hP hU K hK
    have hB := below_undrew hL
    have e74 : ac.eval (.tmp 74) = .int .i64 1 := hP 14 (by kernel_rfl)
    have e73 : ac.eval (.tmp 73) = .bool true := hP 13 (by kernel_rfl)
    exact rop_bin _ _ _ _ _ rfl e74 rfl (guard_int _ _ _ _ _ _ _ w') (eql_errS 1 w') (wanted_of (j := 13) (b := true) rfl rfl e73) (hK _ _ (le8_refl _) rfl)
  · intro ac w' hF hL hP hU K hK
    have hB := below_undrew hL
    have e73 : ac.eval (.tmp 73) = .bool true := hP 13 (by kernel_rfl)
    have e75 : ac.eval (.tmp 75) = .bool true := hP 15 (by kernel_rfl)
    exact rop_pick _ _ _ rfl true e73 (by simpa using e75) (wanted_none rfl) (hK _ _ (le8_refl _) rfl)
  · intro ac w' hF hL hP hU K hK
    have hB := below_undrew hL
    have e76 : ac.eval (.tmp 76) = .bool true := hP 16 (by kernel_rfl)
    exact rop_move _ rfl e76 (wanted_none rfl) (hK _ _ (le8_refl _) rfl)
  · intro ac w' hF hL hP hU K hK
    have hB := below_undrew hL
    have e3 : ac.eval (.tmp 3) = .pointer none := hF.at 3 (by kernel_rfl)
    have e77 : ac.eval (.tmp 77) = .bool true := hP 17 (by kernel_rfl)
    exact rop_move _ rfl e3 (wanted_of (j := 17) (b := true) rfl rfl e77) (hK _ _ (le8_refl _) rfl)
  · intro ac w' hF hL hP hU K hK
    have hB := below_undrew hL
    have e77 : ac.eval (.tmp 77) = .bool true := hP 17 (by kernel_rfl)
    exact rop_buildF _ _ rfl [] (by simp) HBT.out (wanted_of (j := 17) (b := true) rfl rfl e77) (hK _ _ (le8_refl _) rfl)
  · intro ac w' hF hL hP hU K hK
    have hB := below_undrew hL
    have e78 : ac.eval (.tmp 78) = .pointer none := hP 18 (by kernel_rfl)
    have e79 : ac.eval (.tmp 79) = .agg (stCs T0).toArray := hP 19 (by kernel_rfl)
    have e77 : ac.eval (.tmp 77) = .bool true := hP 17 (by kernel_rfl)
    refine rop_call 20 _ _ rfl #[.pointer none, .agg (stCs T0).toArray] (by simp [e78, e79]) (by kernel_rfl) (wanted_of (j := 17) (b := true) rfl rfl e77) ?_
    refine (HPR.out w').mono ?_
    rintro e w2 ⟨rfl, hb⟩
    exact ⟨_, rfl, hK _ _ hb rfl⟩
  · intro ac w' hF hL hP hU K hK
    have hB := below_undrew hL
    have e80 : ac.eval (.tmp 80) = .int .i64 1 := hP 20 (by kernel_rfl)
    have e77 : ac.eval (.tmp 77) = .bool true := hP 17 (by kernel_rfl)
    exact rop_bin _ _ _ _ _ rfl e80 rfl (guard_int _ _ _ _ _ _ _ w') (eql_errS 1 w') (wanted_of (j := 17) (b := true) rfl rfl e77) (hK _ _ (le8_refl _) rfl)
  · intro ac w' hF hL hP hU K hK
    have hB := below_undrew hL
    have e77 : ac.eval (.tmp 77) = .bool true := hP 17 (by kernel_rfl)
    have e81 : ac.eval (.tmp 81) = .bool true := hP 21 (by kernel_rfl)
    exact rop_pick _ _ _ rfl true e77 (by simpa using e81) (wanted_none rfl) (hK _ _ (le8_refl _) rfl)
  · intro ac w' hF hL hP hU K hK
    have hB := below_undrew hL
    have e82 : ac.eval (.tmp 82) = .bool true := hP 22 (by kernel_rfl)
    exact rop_move _ rfl e82 (wanted_none rfl) (hK _ _ (le8_refl _) rfl)
  · intro ac w' hF hL hP hU K hK
    have hB := below_undrew hL
    have e14 : ac.eval (.tmp 14) = .bool false := hF.at 14 (by kernel_rfl)
    have e83 : ac.eval (.tmp 83) = .bool true := hP 23 (by kernel_rfl)
    exact rop_move _ rfl e14 (wanted_of (j := 23) (b := true) rfl rfl e83) (hK _ _ (le8_refl _) rfl)
  · intro ac w' hF hL hP hU K hK
    have hB := below_undrew hL
    have e84 : ac.eval (.tmp 84) = .bool false := hP 24 (by kernel_rfl)
    have e83 : ac.eval (.tmp 83) = .bool true := hP 23 (by kernel_rfl)
    exact rop_not _ _ rfl false e84 (wanted_of (j := 23) (b := true) rfl rfl e83) (hK _ _ (le8_refl _) rfl)
  · intro ac w' hF hL hP hU K hK
    have hB := below_undrew hL
    have e83 : ac.eval (.tmp 83) = .bool true := hP 23 (by kernel_rfl)
    have e85 : ac.eval (.tmp 85) = .bool true := hP 25 (by kernel_rfl)
    exact rop_pick _ _ _ rfl true e83 (by simpa using e85) (wanted_none rfl) (hK _ _ (le8_refl _) rfl)
  · intro ac w' hF hL hP hU K hK
    have hB := below_undrew hL
    have e86 : ac.eval (.tmp 86) = .bool true := hP 26 (by kernel_rfl)
    exact rop_move _ rfl e86 (wanted_none rfl) (hK _ _ (le8_refl _) rfl)
  · intro ac w' hF hL hP hU K hK
    have hB := below_undrew hL
    have e16 : ac.eval (.tmp 16) = .bool false := hF.at 16 (by kernel_rfl)
    have e87 : ac.eval (.tmp 87) = .bool true := hP 27 (by kernel_rfl)
    exact rop_move _ rfl e16 (wanted_of (j := 27) (b := true) rfl rfl e87) (hK _ _ (le8_refl _) rfl)
  · intro ac w' hF hL hP hU K hK
    have hB := below_undrew hL
    have e88 : ac.eval (.tmp 88) = .bool false := hP 28 (by kernel_rfl)
    have e87 : ac.eval (.tmp 87) = .bool true := hP 27 (by kernel_rfl)
    exact rop_not _ _ rfl false e88 (wanted_of (j := 27) (b := true) rfl rfl e87) (hK _ _ (le8_refl _) rfl)
  · intro ac w' hF hL hP hU K hK
    have hB := below_undrew hL
    have e87 : ac.eval (.tmp 87) = .bool true := hP 27 (by kernel_rfl)
    have e89 : ac.eval (.tmp 89) = .bool true := hP 29 (by kernel_rfl)
    exact rop_pick _ _ _ rfl true e87 (by simpa using e89) (wanted_none rfl) (hK _ _ (le8_refl _) rfl)
  · intro ac w' hF hL hP hU K hK
    have hB := below_undrew hL
    have e90 : ac.eval (.tmp 90) = .bool true := hP 30 (by kernel_rfl)
    exact rop_move _ rfl e90 (wanted_none rfl) (hK _ _ (le8_refl _) rfl)
  · intro ac w' hF hL hP hU K hK
    have hB := below_undrew hL
    have e3 : ac.eval (.tmp 3) = .pointer none := hF.at 3 (by kernel_rfl)
    have e91 : ac.eval (.tmp 91) = .bool true := hP 31 (by kernel_rfl)
    exact rop_move _ rfl e3 (wanted_of (j := 31) (b := true) rfl rfl e91) (hK _ _ (le8_refl _) rfl)
  · intro ac w' hF hL hP hU K hK
    have hB := below_undrew hL
    have e92 : ac.eval (.tmp 92) = .pointer none := hP 32 (by kernel_rfl)
    have e91 : ac.eval (.tmp 91) = .bool true := hP 31 (by kernel_rfl)
    refine rop_call 22 _ _ rfl #[.pointer none, .int .i64 1] (by simp [e92, eval_const]) (by kernel_rfl) (wanted_of (j := 31) (b := true) rfl rfl e91) ?_
    refine (calls_b (shStrip_nil 1 w')).mono ?_
    rintro e w2 ⟨rfl, hb⟩
    exact ⟨_, rfl, hK _ _ hb rfl⟩
  · intro ac w' hF hL hP hU K hK
    have hB := below_undrew hL
    have e3 : ac.eval (.tmp 3) = .pointer none := hF.at 3 (by kernel_rfl)
    have e91 : ac.eval (.tmp 91) = .bool true := hP 31 (by kernel_rfl)
    exact rop_move _ rfl e3 (wanted_of (j := 31) (b := true) rfl rfl e91) (hK _ _ (le8_refl _) rfl)
  · intro ac w' hF hL hP hU K hK
    have hB := below_undrew hL
    have e94 : ac.eval (.tmp 94) = .pointer none := hP 34 (by kernel_rfl)
    have e91 : ac.eval (.tmp 91) = .bool true := hP 31 (by kernel_rfl)
    refine rop_call 31 _ _ rfl #[.pointer none] (by simp [e94]) (by kernel_rfl) (wanted_of (j := 31) (b := true) rfl rfl e91) ?_
    refine (calls_b (shState_nil w')).mono ?_
    rintro e w2 ⟨rfl, hb⟩
    exact ⟨_, rfl, hK _ _ hb rfl⟩
  · intro ac w' hF hL hP hU K hK
    have hB := below_undrew hL
    have e93 : ac.eval (.tmp 93) = .int .i64 0 := hP 33 (by kernel_rfl)
    have e95 : ac.eval (.tmp 95) = .int .i64 0 := hP 35 (by kernel_rfl)
    have e91 : ac.eval (.tmp 91) = .bool true := hP 31 (by kernel_rfl)
    exact rop_bin _ _ _ _ _ rfl e93 e95 (guard_int _ _ _ _ _ _ _ w') (add_iG 0 0 (by decide) w') (wanted_of (j := 31) (b := true) rfl rfl e91) (hK _ _ (le8_refl _) rfl)
  · intro ac w' hF hL hP hU K hK
    have hB := below_undrew hL
    have e3 : ac.eval (.tmp 3) = .pointer none := hF.at 3 (by kernel_rfl)
    have e91 : ac.eval (.tmp 91) = .bool true := hP 31 (by kernel_rfl)
    exact rop_move _ rfl e3 (wanted_of (j := 31) (b := true) rfl rfl e91) (hK _ _ (le8_refl _) rfl)
  · intro ac w' hF hL hP hU K hK
    have hB := below_undrew hL
    have e97 : ac.eval (.tmp 97) = .pointer none := hP 37 (by kernel_rfl)
    have e91 : ac.eval (.tmp 91) = .bool true := hP 31 (by kernel_rfl)
    refine rop_call 10 _ _ rfl #[.pointer none] (by simp [e97]) (by kernel_rfl) (wanted_of (j := 31) (b := true) rfl rfl e91) ?_
    refine (calls_b (shCount_nil w')).mono ?_
    rintro e w2 ⟨rfl, hb⟩
    exact ⟨_, rfl, hK _ _ hb rfl⟩
  · intro ac w' hF hL hP hU K hK
    have hB := below_undrew hL
    have e96 : ac.eval (.tmp 96) = .int .i64 0 := hP 36 (by kernel_rfl)
    have e98 : ac.eval (.tmp 98) = .int .i64 0 := hP 38 (by kernel_rfl)
    have e91 : ac.eval (.tmp 91) = .bool true := hP 31 (by kernel_rfl)
    exact rop_bin _ _ _ _ _ rfl e96 e98 (guard_int _ _ _ _ _ _ _ w') (add_iG 0 0 (by decide) w') (wanted_of (j := 31) (b := true) rfl rfl e91) (hK _ _ (le8_refl _) rfl)
  · intro ac w' hF hL hP hU K hK
    have hB := below_undrew hL
    have e3 : ac.eval (.tmp 3) = .pointer none := hF.at 3 (by kernel_rfl)
    have e91 : ac.eval (.tmp 91) = .bool true := hP 31 (by kernel_rfl)
    exact rop_move _ rfl e3 (wanted_of (j := 31) (b := true) rfl rfl e91) (hK _ _ (le8_refl _) rfl)
  · intro ac w' hF hL hP hU K hK
    have hB := below_undrew hL
    have e100 : ac.eval (.tmp 100) = .pointer none := hP 40 (by kernel_rfl)
    have e91 : ac.eval (.tmp 91) = .bool true := hP 31 (by kernel_rfl)
    refine rop_call 25 _ _ rfl #[.pointer none] (by simp [e100]) (by kernel_rfl) (wanted_of (j := 31) (b := true) rfl rfl e91) ?_
    refine (calls_b (shLeft_nil w')).mono ?_
    rintro e w2 ⟨rfl, hb⟩
    exact ⟨_, rfl, hK _ _ hb rfl⟩
  · intro ac w' hF hL hP hU K hK
    have hB := below_undrew hL
    have e99 : ac.eval (.tmp 99) = .int .i64 0 := hP 39 (by kernel_rfl)
    have e101 : ac.eval (.tmp 101) = .int .i64 0 := hP 41 (by kernel_rfl)
    have e91 : ac.eval (.tmp 91) = .bool true := hP 31 (by kernel_rfl)
    exact rop_bin _ _ _ _ _ rfl e99 e101 (guard_int _ _ _ _ _ _ _ w') (add_iG 0 0 (by decide) w') (wanted_of (j := 31) (b := true) rfl rfl e91) (hK _ _ (le8_refl _) rfl)
  · intro ac w' hF hL hP hU K hK
    have hB := below_undrew hL
    have e3 : ac.eval (.tmp 3) = .pointer none := hF.at 3 (by kernel_rfl)
    have e91 : ac.eval (.tmp 91) = .bool true := hP 31 (by kernel_rfl)
    exact rop_move _ rfl e3 (wanted_of (j := 31) (b := true) rfl rfl e91) (hK _ _ (le8_refl _) rfl)
  · intro ac w' hF hL hP hU K hK
    have hB := below_undrew hL
    have e103 : ac.eval (.tmp 103) = .pointer none := hP 43 (by kernel_rfl)
    have e91 : ac.eval (.tmp 91) = .bool true := hP 31 (by kernel_rfl)
    refine rop_call 11 _ _ rfl #[.pointer none] (by simp [e103]) (by kernel_rfl) (wanted_of (j := 31) (b := true) rfl rfl e91) ?_
    refine (calls_b (shLeaves_nil w')).mono ?_
    rintro e w2 ⟨rfl, hb⟩
    exact ⟨_, rfl, hK _ _ hb rfl⟩
  · intro ac w' hF hL hP hU K hK
    have hB := below_undrew hL
    have e104 : ac.eval (.tmp 104) = .slice none 0 0 := hP 44 (by kernel_rfl)
    have e91 : ac.eval (.tmp 91) = .bool true := hP 31 (by kernel_rfl)
    exact rop_lenG _ Tryd.underlying27 rfl e104 (wanted_of (j := 31) (b := true) rfl rfl e91) (hK _ _ (le8_refl _) rfl)
  · intro ac w' hF hL hP hU K hK
    have hB := below_undrew hL
    have e102 : ac.eval (.tmp 102) = .int .i64 0 := hP 42 (by kernel_rfl)
    have e105 : ac.eval (.tmp 105) = .int .i64 0 := hP 45 (by kernel_rfl)
    have e91 : ac.eval (.tmp 91) = .bool true := hP 31 (by kernel_rfl)
    exact rop_bin _ _ _ _ _ rfl e102 e105 (guard_int _ _ _ _ _ _ _ w') (add_iG 0 0 (by decide) w') (wanted_of (j := 31) (b := true) rfl rfl e91) (hK _ _ (le8_refl _) rfl)
  · intro ac w' hF hL hP hU K hK
    have hB := below_undrew hL
    have e3 : ac.eval (.tmp 3) = .pointer none := hF.at 3 (by kernel_rfl)
    have e91 : ac.eval (.tmp 91) = .bool true := hP 31 (by kernel_rfl)
    exact rop_move _ rfl e3 (wanted_of (j := 31) (b := true) rfl rfl e91) (hK _ _ (le8_refl _) rfl)
  · intro ac w' hF hL hP hU K hK
    have hB := below_undrew hL
    have e107 : ac.eval (.tmp 107) = .pointer none := hP 47 (by kernel_rfl)
    have e91 : ac.eval (.tmp 91) = .bool true := hP 31 (by kernel_rfl)
    refine rop_call 24 _ _ rfl #[.pointer none] (by simp [e107]) (by kernel_rfl) (wanted_of (j := 31) (b := true) rfl rfl e91) ?_
    refine (calls_b (shRows_nil w')).mono ?_
    rintro e w2 ⟨rfl, hb⟩
    exact ⟨_, rfl, hK _ _ hb rfl⟩
  · intro ac w' hF hL hP hU K hK
    have hB := below_undrew hL
    have e108 : ac.eval (.tmp 108) = .slice none 0 0 := hP 48 (by kernel_rfl)
    have e91 : ac.eval (.tmp 91) = .bool true := hP 31 (by kernel_rfl)
    exact rop_lenG _ Tryd.underlying58 rfl e108 (wanted_of (j := 31) (b := true) rfl rfl e91) (hK _ _ (le8_refl _) rfl)
  · intro ac w' hF hL hP hU K hK
    have hB := below_undrew hL
    have e106 : ac.eval (.tmp 106) = .int .i64 0 := hP 46 (by kernel_rfl)
    have e109 : ac.eval (.tmp 109) = .int .i64 0 := hP 49 (by kernel_rfl)
    have e91 : ac.eval (.tmp 91) = .bool true := hP 31 (by kernel_rfl)
    exact rop_bin _ _ _ _ _ rfl e106 e109 (guard_int _ _ _ _ _ _ _ w') (add_iG 0 0 (by decide) w') (wanted_of (j := 31) (b := true) rfl rfl e91) (hK _ _ (le8_refl _) rfl)
  · intro ac w' hF hL hP hU K hK
    have hB := below_undrew hL
    have e110 : ac.eval (.tmp 110) = .int .i64 0 := hP 50 (by kernel_rfl)
    have e91 : ac.eval (.tmp 91) = .bool true := hP 31 (by kernel_rfl)
    exact rop_bin _ _ _ _ _ rfl e110 rfl (guard_int _ _ _ _ _ _ _ w') (eql_iG 0 0 true (by decide) w') (wanted_of (j := 31) (b := true) rfl rfl e91) (hK _ _ (le8_refl _) rfl)
  · intro ac w' hF hL hP hU K hK
    have hB := below_undrew hL
    have e91 : ac.eval (.tmp 91) = .bool true := hP 31 (by kernel_rfl)
    have e111 : ac.eval (.tmp 111) = .bool true := hP 51 (by kernel_rfl)
    exact rop_pick _ _ _ rfl true e91 (by simpa using e111) (wanted_none rfl) (hK _ _ (le8_refl _) rfl)
  · intro ac w' hF hL hP hU K hK
    have hB := below_undrew hL
    have e112 : ac.eval (.tmp 112) = .bool true := hP 52 (by kernel_rfl)
    exact rop_move _ rfl e112 (wanted_none rfl) (hK _ _ (le8_refl _) rfl)
  · intro ac w' hF hL hP hU K hK
    have hB := below_undrew hL
    have e3 : ac.eval (.tmp 3) = .pointer none := hF.at 3 (by kernel_rfl)
    have e113 : ac.eval (.tmp 113) = .bool true := hP 53 (by kernel_rfl)
    exact rop_move _ rfl e3 (wanted_of (j := 53) (b := true) rfl rfl e113) (hK _ _ (le8_refl _) rfl)
  · intro ac w' hF hL hP hU K hK
    have hB := below_undrew hL
    have e114 : ac.eval (.tmp 114) = .pointer none := hP 54 (by kernel_rfl)
    have e113 : ac.eval (.tmp 113) = .bool true := hP 53 (by kernel_rfl)
    refine rop_call 28 _ _ rfl #[.pointer none] (by simp [e114]) (by kernel_rfl) (wanted_of (j := 53) (b := true) rfl rfl e113) ?_
    refine (calls_b (shWindow_nil w')).mono ?_
    rintro e w2 ⟨rfl, hb⟩
    exact ⟨_, rfl, hK _ _ hb rfl⟩
  · intro ac w' hF hL hP hU K hK
    have hB := below_undrew hL
    have e115 : ac.eval (.tmp 115) = .int .i64 (-1) := hP 55 (by kernel_rfl)
    have e113 : ac.eval (.tmp 113) = .bool true := hP 53 (by kernel_rfl)
    exact rop_bin _ _ _ _ _ rfl e115 rfl (guard_int _ _ _ _ _ _ _ w') (eql_iG (-1) (-1) true (by decide) w') (wanted_of (j := 53) (b := true) rfl rfl e113) (hK _ _ (le8_refl _) rfl)
  · intro ac w' hF hL hP hU K hK
    have hB := below_undrew hL
    have e113 : ac.eval (.tmp 113) = .bool true := hP 53 (by kernel_rfl)
    have e116 : ac.eval (.tmp 116) = .bool true := hP 56 (by kernel_rfl)
    exact rop_pick _ _ _ rfl true e113 (by simpa using e116) (wanted_none rfl) (hK _ _ (le8_refl _) rfl)
  · intro ac w' hF hL hP hU K hK
    have hB := below_undrew hL
    have e117 : ac.eval (.tmp 117) = .bool true := hP 57 (by kernel_rfl)
    exact rop_move _ rfl e117 (wanted_none rfl) (hK _ _ (le8_refl _) rfl)
  · intro ac w' hF hL hP hU K hK
    have hB := below_undrew hL
    have e3 : ac.eval (.tmp 3) = .pointer none := hF.at 3 (by kernel_rfl)
    have e118 : ac.eval (.tmp 118) = .bool true := hP 58 (by kernel_rfl)
    exact rop_move _ rfl e3 (wanted_of (j := 58) (b := true) rfl rfl e118) (hK _ _ (le8_refl _) rfl)
  · intro ac w' hF hL hP hU K hK
    have hB := below_undrew hL
    have e119 : ac.eval (.tmp 119) = .pointer none := hP 59 (by kernel_rfl)
    have e118 : ac.eval (.tmp 118) = .bool true := hP 58 (by kernel_rfl)
    refine rop_call 13 _ _ rfl #[.pointer none] (by simp [e119]) (by kernel_rfl) (wanted_of (j := 58) (b := true) rfl rfl e118) ?_
    refine (HRN.out w' (HKT.out.old hB)).mono ?_
    rintro e w2 ⟨rfl, hb⟩
    exact ⟨_, rfl, hK _ _ hb rfl⟩
  · intro ac w' hF hL hP hU K hK
    have hB := below_undrew hL
    have e17 : ac.eval (.tmp 17) = .pointer (some ⟨x9, 0, none⟩) := hF.at 17 (by kernel_rfl)
    have e118 : ac.eval (.tmp 118) = .bool true := hP 58 (by kernel_rfl)
    exact rop_ld _ _ rfl e17 (load_sumAt (below_range' hB (Blk.lt HZT.out) (Blk.all HZT.out)) HDl.out) (wanted_of (j := 58) (b := true) rfl rfl e118) (hK _ _ (le8_refl _) rfl)
  · intro ac w' hF hL hP hU K hK
    have hB := below_undrew hL
    have e120 : ac.eval (.tmp 120) = sumV D := hP 60 (by kernel_rfl)
    have e121 : ac.eval (.tmp 121) = sumV D := hP 61 (by kernel_rfl)
    have e118 : ac.eval (.tmp 118) = .bool true := hP 58 (by kernel_rfl)
    exact rop_bin _ _ _ _ _ rfl e120 e121 (guard_run _ _ _ _ _ w') (eql_sum_tt D D HDl.out HDl.out rfl w') (wanted_of (j := 58) (b := true) rfl rfl e118) (hK _ _ (le8_refl _) rfl)
  · intro ac w' hF hL hP hU K hK
    have hB := below_undrew hL
    have e118 : ac.eval (.tmp 118) = .bool true := hP 58 (by kernel_rfl)
    have e122 : ac.eval (.tmp 122) = .bool true := hP 62 (by kernel_rfl)
    exact rop_pick _ _ _ rfl true e118 (by simpa using e122) (wanted_none rfl) (hK _ _ (le8_refl _) rfl)
  · intro ac w' hF hL hP hU K hK
    have hB := below_undrew hL
    have e123 : ac.eval (.tmp 123) = .bool true := hP 63 (by kernel_rfl)
    exact rop_move _ rfl e123 (wanted_none rfl) (hK _ _ (le8_refl _) rfl)
  · intro ac w' hF hL hP hU K hK
    have hB := below_undrew hL
    have e3 : ac.eval (.tmp 3) = .pointer none := hF.at 3 (by kernel_rfl)
    have e124 : ac.eval (.tmp 124) = .bool true := hP 64 (by kernel_rfl)
    exact rop_move _ rfl e3 (wanted_of (j := 64) (b := true) rfl rfl e124) (hK _ _ (le8_refl _) rfl)
  · intro ac w' hF hL hP hU K hK
    have hB := below_undrew hL
    have e125 : ac.eval (.tmp 125) = .pointer none := hP 65 (by kernel_rfl)
    have e124 : ac.eval (.tmp 124) = .bool true := hP 64 (by kernel_rfl)
    refine rop_call 27 _ _ rfl #[.pointer none] (by simp [e125]) (by kernel_rfl) (wanted_of (j := 64) (b := true) rfl rfl e124) ?_
    refine (calls_b (shCopy_nil w')).mono ?_
    rintro e w2 ⟨rfl, hb⟩
    exact ⟨_, rfl, hK _ _ hb rfl⟩
  · intro ac w' hF hL hP hU K hK
    have hB := below_undrew hL
    have e126 : ac.eval (.tmp 126) = .pointer none := hP 66 (by kernel_rfl)
    have e124 : ac.eval (.tmp 124) = .bool true := hP 64 (by kernel_rfl)
    exact rop_bin _ _ _ _ _ rfl e126 rfl (guard_ptr _ _ _ _ _ _ w') (eql_pt_none w') (wanted_of (j := 64) (b := true) rfl rfl e124) (hK _ _ (le8_refl _) rfl)
  · intro ac w' hF hL hP hU K hK
    have hB := below_undrew hL
    have e124 : ac.eval (.tmp 124) = .bool true := hP 64 (by kernel_rfl)
    have e127 : ac.eval (.tmp 127) = .bool true := hP 67 (by kernel_rfl)
    exact rop_pick _ _ _ rfl true e124 (by simpa using e127) (wanted_none rfl) (hK _ _ (le8_refl _) rfl)
  · intro ac w' hF hL hP hU K hK
    have hB := below_undrew hL
    have e128 : ac.eval (.tmp 128) = .bool true := hP 68 (by kernel_rfl)
    exact rop_move _ rfl e128 (wanted_none rfl) (hK _ _ (le8_refl _) rfl)
  · intro ac w' hF hL hP hU K hK
    have hB := below_undrew hL
    have e18 : ac.eval (.tmp 18) = .int .i64 0 := hF.at 18 (by kernel_rfl)
    have e129 : ac.eval (.tmp 129) = .bool true := hP 69 (by kernel_rfl)
    exact rop_move _ rfl e18 (wanted_of (j := 69) (b := true) rfl rfl e129) (hK _ _ (le8_refl _) rfl)
  · intro ac w' hF hL hP hU K hK
    have hB := below_undrew hL
    have e130 : ac.eval (.tmp 130) = .int .i64 0 := hP 70 (by kernel_rfl)
    have e129 : ac.eval (.tmp 129) = .bool true := hP 69 (by kernel_rfl)
    exact rop_bin _ _ _ _ _ rfl e130 rfl (guard_int _ _ _ _ _ _ _ w') (eql_iG 0 0 true (by decide) w') (wanted_of (j := 69) (b := true) rfl rfl e129) (hK _ _ (le8_refl _) rfl)
  · intro ac w' hF hL hP hU K hK
    have hB := below_undrew hL
    have e129 : ac.eval (.tmp 129) = .bool true := hP 69 (by kernel_rfl)
    have e131 : ac.eval (.tmp 131) = .bool true := hP 71 (by kernel_rfl)
    exact rop_pick _ _ _ rfl true e129 (by simpa using e131) (wanted_none rfl) (hK _ _ (le8_refl _) rfl)
  · intro ac w' hF hL hP hU K hK
    have hB := below_undrew hL
    have e132 : ac.eval (.tmp 132) = .bool true := hP 72 (by kernel_rfl)
    exact rop_move _ rfl e132 (wanted_none rfl) (hK _ _ (le8_refl _) rfl)
  · intro ac w' hF hL hP hU K hK
    have hB := below_undrew hL
    have e19 : ac.eval (.tmp 19) = .int .i64 0 := hF.at 19 (by kernel_rfl)
    have e133 : ac.eval (.tmp 133) = .bool true := hP 73 (by kernel_rfl)
    exact rop_move _ rfl e19 (wanted_of (j := 73) (b := true) rfl rfl e133) (hK _ _ (le8_refl _) rfl)
  · intro ac w' hF hL hP hU K hK
    have hB := below_undrew hL
    have e134 : ac.eval (.tmp 134) = .int .i64 0 := hP 74 (by kernel_rfl)
    have e133 : ac.eval (.tmp 133) = .bool true := hP 73 (by kernel_rfl)
    exact rop_bin _ _ _ _ _ rfl e134 rfl (guard_int _ _ _ _ _ _ _ w') (eql_errS 0 w') (wanted_of (j := 73) (b := true) rfl rfl e133) (hK _ _ (le8_refl _) rfl)
  · intro ac w' hF hL hP hU K hK
    have hB := below_undrew hL
    have e133 : ac.eval (.tmp 133) = .bool true := hP 73 (by kernel_rfl)
    have e135 : ac.eval (.tmp 135) = .bool true := hP 75 (by kernel_rfl)
    exact rop_pick _ _ _ rfl true e133 (by simpa using e135) (wanted_none rfl) (hK _ _ (le8_refl _) rfl)
  · intro ac w' hF hL hP hU K hK
    have hB := below_undrew hL
    have e136 : ac.eval (.tmp 136) = .bool true := hP 76 (by kernel_rfl)
    exact rop_move _ rfl e136 (wanted_none rfl) (hK _ _ (le8_refl _) rfl)
  · intro ac w' hF hL hP hU K hK
    have hB := below_undrew hL
    have e4 : ac.eval (.tmp 4) = .pointer (some ⟨B, 0, none⟩) := hF.at 4 (by kernel_rfl)
    have e137 : ac.eval (.tmp 137) = .bool true := hP 77 (by kernel_rfl)
    exact rop_move _ rfl e4 (wanted_of (j := 77) (b := true) rfl rfl e137) (hK _ _ (le8_refl _) rfl)
  · intro ac w' hF hL hP hU K hK
    have hB := below_undrew hL
    have e138 : ac.eval (.tmp 138) = .pointer (some ⟨B, 0, none⟩) := hP 78 (by kernel_rfl)
    have e137 : ac.eval (.tmp 137) = .bool true := hP 77 (by kernel_rfl)
    refine rop_call 28 _ _ rfl #[.pointer (some ⟨B, 0, none⟩)] (by simp [e138]) (by kernel_rfl) (wanted_of (j := 77) (b := true) rfl rfl e137) ?_
    refine (calls_b (HWIN.out SA w' (HST.out.old hB))).mono ?_
    rintro e w2 ⟨rfl, hb⟩
    exact ⟨_, rfl, hK _ _ hb rfl⟩
  · intro ac w' hF hL hP hU K hK
    have hB := below_undrew hL
    have e139 : ac.eval (.tmp 139) = .int .i64 0 := hP 79 (by kernel_rfl)
    have e137 : ac.eval (.tmp 137) = .bool true := hP 77 (by kernel_rfl)
    exact rop_bin _ _ _ _ _ rfl e139 rfl (guard_int _ _ _ _ _ _ _ w') (eql_iG 0 0 true (by decide) w') (wanted_of (j := 77) (b := true) rfl rfl e137) (hK _ _ (le8_refl _) rfl)
  · intro ac w' hF hL hP hU K hK
    have hB := below_undrew hL
    have e137 : ac.eval (.tmp 137) = .bool true := hP 77 (by kernel_rfl)
    have e140 : ac.eval (.tmp 140) = .bool true := hP 80 (by kernel_rfl)
    exact rop_pick _ _ _ rfl true e137 (by simpa using e140) (wanted_none rfl) (hK _ _ (le8_refl _) rfl)
  · intro ac w' hF hL hP hU K hK
    have hB := below_undrew hL
    have e141 : ac.eval (.tmp 141) = .bool true := hP 81 (by kernel_rfl)
    exact rop_move _ rfl e141 (wanted_none rfl) (hK _ _ (le8_refl _) rfl)
  · intro ac w' hF hL hP hU K hK
    have hB := below_undrew hL
    have e4 : ac.eval (.tmp 4) = .pointer (some ⟨B, 0, none⟩) := hF.at 4 (by kernel_rfl)
    have e142 : ac.eval (.tmp 142) = .bool true := hP 82 (by kernel_rfl)
    exact rop_move _ rfl e4 (wanted_of (j := 82) (b := true) rfl rfl e142) (hK _ _ (le8_refl _) rfl)
  · intro ac w' hF hL hP hU K hK
    have hB := below_undrew hL
    have e143 : ac.eval (.tmp 143) = .pointer (some ⟨B, 0, none⟩) := hP 83 (by kernel_rfl)
    have e142 : ac.eval (.tmp 142) = .bool true := hP 82 (by kernel_rfl)
    refine rop_call 10 _ _ rfl #[.pointer (some ⟨B, 0, none⟩)] (by simp [e143]) (by kernel_rfl) (wanted_of (j := 82) (b := true) rfl rfl e142) ?_
    refine (calls_b (HCNT.out SA w' (HST.out.old hB))).mono ?_
    rintro e w2 ⟨rfl, hb⟩
    exact ⟨_, rfl, hK _ _ hb rfl⟩
  · intro ac w' hF hL hP hU K hK
    have hB := below_undrew hL
    have e144 : ac.eval (.tmp 144) = .int .i64 1 := hP 84 (by kernel_rfl)
    have e142 : ac.eval (.tmp 142) = .bool true := hP 82 (by kernel_rfl)
    exact rop_bin _ _ _ _ _ rfl e144 rfl (guard_int _ _ _ _ _ _ _ w') (eql_iG 1 1 true (by decide) w') (wanted_of (j := 82) (b := true) rfl rfl e142) (hK _ _ (le8_refl _) rfl)
  · intro ac w' hF hL hP hU K hK
    have hB := below_undrew hL
    have e142 : ac.eval (.tmp 142) = .bool true := hP 82 (by kernel_rfl)
    have e145 : ac.eval (.tmp 145) = .bool true := hP 85 (by kernel_rfl)
    exact rop_pick _ _ _ rfl true e142 (by simpa using e145) (wanted_none rfl) (hK _ _ (le8_refl _) rfl)
  · intro ac w' hF hL hP hU K hK
    have hB := below_undrew hL
    have e146 : ac.eval (.tmp 146) = .bool true := hP 86 (by kernel_rfl)
    exact rop_assign _ rfl e146 (wanted_none rfl) (hK _ _ (le8_refl _) rfl)
  · intro ac w' hF hB hT
    have e2 : ac.eval (.tmp 2) = .bool true := hT 87 (by decide)
    rw [hF.setsG [60, 61, 62, 63, 64, 65, 66, 67, 68, 69, 70, 71, 72, 73, 74, 75, 76, 77, 78, 79, 80, 81, 82, 83, 84, 85, 86, 87, 88, 89, 90, 91, 92, 93, 94, 95, 96, 97, 98, 99, 100, 101, 102, 103, 104, 105, 106, 107, 108, 109, 110, 111, 112, 113, 114, 115, 116, 117, 118, 119, 120, 121, 122, 123, 124, 125, 126, 127, 128, 129, 130, 131, 132, 133, 134, 135, 136, 137, 138, 139, 140, 141, 142, 143, 144, 145, 146, 2] (by kernel_rfl)]
    simp only [List.foldl_cons, List.foldl_nil, List.setIfInBounds_toArray, List.set_cons_succ, List.set_cons_zero, e2]
    generalize ac.eval (.tmp 60) = u60
    generalize ac.eval (.tmp 61) = u61
    generalize ac.eval (.tmp 62) = u62
    generalize ac.eval (.tmp 63) = u63
    generalize ac.eval (.tmp 64) = u64
    generalize ac.eval (.tmp 65) = u65
    generalize ac.eval (.tmp 66) = u66
    generalize ac.eval (.tmp 67) = u67
    generalize ac.eval (.tmp 68) = u68
    generalize ac.eval (.tmp 69) = u69
    generalize ac.eval (.tmp 70) = u70
    generalize ac.eval (.tmp 71) = u71
    generalize ac.eval (.tmp 72) = u72
    generalize ac.eval (.tmp 73) = u73
    generalize ac.eval (.tmp 74) = u74
    generalize ac.eval (.tmp 75) = u75
    generalize ac.eval (.tmp 76) = u76
    generalize ac.eval (.tmp 77) = u77
    generalize ac.eval (.tmp 78) = u78
    generalize ac.eval (.tmp 79) = u79
    generalize ac.eval (.tmp 80) = u80
    generalize ac.eval (.tmp 81) = u81
    generalize ac.eval (.tmp 82) = u82
    generalize ac.eval (.tmp 83) = u83
    generalize ac.eval (.tmp 84) = u84
    generalize ac.eval (.tmp 85) = u85
    generalize ac.eval (.tmp 86) = u86
    generalize ac.eval (.tmp 87) = u87
    generalize ac.eval (.tmp 88) = u88
    generalize ac.eval (.tmp 89) = u89
    generalize ac.eval (.tmp 90) = u90
    generalize ac.eval (.tmp 91) = u91
    generalize ac.eval (.tmp 92) = u92
    generalize ac.eval (.tmp 93) = u93
    generalize ac.eval (.tmp 94) = u94
    generalize ac.eval (.tmp 95) = u95
    generalize ac.eval (.tmp 96) = u96
    generalize ac.eval (.tmp 97) = u97
    generalize ac.eval (.tmp 98) = u98
    generalize ac.eval (.tmp 99) = u99
    generalize ac.eval (.tmp 100) = u100
    generalize ac.eval (.tmp 101) = u101
    generalize ac.eval (.tmp 102) = u102
    generalize ac.eval (.tmp 103) = u103
    generalize ac.eval (.tmp 104) = u104
    generalize ac.eval (.tmp 105) = u105
    generalize ac.eval (.tmp 106) = u106
    generalize ac.eval (.tmp 107) = u107
    generalize ac.eval (.tmp 108) = u108
    generalize ac.eval (.tmp 109) = u109
    generalize ac.eval (.tmp 110) = u110
    generalize ac.eval (.tmp 111) = u111
    generalize ac.eval (.tmp 112) = u112
    generalize ac.eval (.tmp 113) = u113
    generalize ac.eval (.tmp 114) = u114
    generalize ac.eval (.tmp 115) = u115
    generalize ac.eval (.tmp 116) = u116
    generalize ac.eval (.tmp 117) = u117
    generalize ac.eval (.tmp 118) = u118
    generalize ac.eval (.tmp 119) = u119
    generalize ac.eval (.tmp 120) = u120
    generalize ac.eval (.tmp 121) = u121
    generalize ac.eval (.tmp 122) = u122
    generalize ac.eval (.tmp 123) = u123
    generalize ac.eval (.tmp 124) = u124
    generalize ac.eval (.tmp 125) = u125
    generalize ac.eval (.tmp 126) = u126
    generalize ac.eval (.tmp 127) = u127
    generalize ac.eval (.tmp 128) = u128
    generalize ac.eval (.tmp 129) = u129
    generalize ac.eval (.tmp 130) = u130
    generalize ac.eval (.tmp 131) = u131
    generalize ac.eval (.tmp 132) = u132
    generalize ac.eval (.tmp 133) = u133
    generalize ac.eval (.tmp 134) = u134
    generalize ac.eval (.tmp 135) = u135
    generalize ac.eval (.tmp 136) = u136
    generalize ac.eval (.tmp 137) = u137
    generalize ac.eval (.tmp 138) = u138
    generalize ac.eval (.tmp 139) = u139
    generalize ac.eval (.tmp 140) = u140
    generalize ac.eval (.tmp 141) = u141
    generalize ac.eval (.tmp 142) = u142
    generalize ac.eval (.tmp 143) = u143
    generalize ac.eval (.tmp 144) = u144
    generalize ac.eval (.tmp 145) = u145
    generalize ac.eval (.tmp 146) = u146
    clear e2 hT hF ac
    have HF := Lib.hid (below_step HB10.out (Nat.le_refl _) hB)
    clear hB
    go_wp2
    go_ret
    exact ⟨rfl, HF.out⟩
set_option maxRecDepth 100000 in
theorem lifted (os : Os) (started : os.Started) (H : Type) (enc : TypeId × Value → H) :
    ReturnsInHanded {} Tryd.checked os 6 .any (fun w args => (Rows.shardNilSpec.pre enc Tryd.prog Tryd.f6 [] false w args ∧ laidMetH Tryd.prog [("scrinium/sha.k", Rows.laid_scrinium_sha_k)] w) ∧ sizedMet enc Tryd.prog Tryd.f6 (OpenSpec.ofChange Rows.shardNilSpec) false w args)
      (Rows.shardNilSpec.post enc Tryd.prog Tryd.f6 false true false false) := by
  refine returnsInHanded_of_change_and (C := Tryd.checked) (X := fun w _ => laidMetH Tryd.prog [("scrinium/sha.k", Rows.laid_scrinium_sha_k)] w) (fun _ _ _ hh h => h.of_heap hh) lawOwn started (by kernel_rfl) Tryd.func6
    (ChangeSpec.witness_shaped (enc := enc) (C := Tryd.checked) (os := os) (X := fun w _ => laidMetH Tryd.prog [("scrinium/sha.k", Rows.laid_scrinium_sha_k)] w) false (World.doorLaid Tryd.prog 400 os) #[.int .i64 0] 8 rfl (World.shaped_of_RefB (by kernel_rfl) (by kernel_rfl)) (by kernel_rfl) (by kernel_rfl) (by kernel_rfl) (door_met os _)) ?_
  intro W base args ds gs before hval0 hW _ _ hL _
  have hval : ∀ (j : Nat) t v, Tryd.f6.params[j]? = some t → args[j]? = some v → Value.okWide Tryd.prog W .any base t v := hval0
  have hW' := hW
  obtain ⟨p, q, hA0, hV, rfl, hfz, hnd⟩ := hW
  have hA : DataW.TrodAll enc Tryd.prog W 0 (fun _ => true) true Tryd.f6.params.toList args.toList ds p := hA0
  rw [Tryd.params6] at hA hval
  obtain ⟨v0, vs0, d0, ds0, p0, q0, hargs, rfl, rfl, h0, r0⟩ := trodAll_cons hA
  obtain ⟨rfl, rfl, rfl⟩ := trodAll_nil r0
  obtain rfl : args = #[v0] := by cases args; simp_all
  obtain ⟨rfl, rfl⟩ := trodVars_none hV
  have hKT := KT_of_laid hL
  obtain ⟨a0, rfl, rfl, rfl, w0⟩ := open_int Tryd.underlying3 (hval 0 3 v0 rfl rfl) h0
  clear hA0 hval0
  obtain ⟨l0, m0⟩ := i64_bounds w0
  refine (walk (w := W) hKT a0 l0 m0).mono fun e W' ⟨he, bel⟩ => ?_
  subst he
  exact ⟨_, rfl, law_post rfl rfl (by kernel_rfl) hW' rfl bel⟩

theorem row_holds : Rows.ShardNilSaid :=
  OpenClaim.holds_of_wide 6 Tryd.f6 rfl rfl rfl rfl rfl rfl rfl ⟨rfl, rfl, rfl, rfl, rfl⟩ rfl rfl rfl rfl rfl (by kernel_rfl) Tryd.func6 (by kernel_rfl)
    (of_decide_eq_true (by kernel_rfl)) (by unfold Func.isWrapper; first | (rw [if_pos (by decide +kernel)]; kernel_rfl) | (rw [if_neg (by decide +kernel)]; exact ⟨rfl, rfl⟩))
    (fun os started H enc _ => lifted os started H enc)

theorem holds : Rows.ShardNilCardSaid :=
  Claim7.holds_tied_plain_at .later [] [.data] true Rows.shardNilCard.stood.harness false
    row_holds (fun _ h => by cases h) (by kernel_rfl) (fun _ h => by cases h) shardNil_row_tie rfl ⟨rfl, rfl⟩ (by kernel_rfl) rfl
    (fun f fn hf hfn => by
      obtain rfl : f = 6 := Option.some.inj ((show Tryd.prog.funcNamed "scrinium/scriniumlaw17.ShardNil" = some 6 by kernel_rfl).symm.trans hf) |>.symm
      obtain rfl : fn = Tryd.f6 := (Option.some.inj (Tryd.func6.symm.trans hfn)).symm
      exact ⟨by kernel_rfl, fun j t ht => by
        rw [Tryd.params6] at ht
        have hm : t ∈ [3] := by simpa using Array.mem_of_getElem? ht
        have hall : ([3].all fun u => !Tryd.prog.wantsStandIn u) = true := by kernel_rfl
        exact (show Tryd.prog.wantsStandIn t = false by simpa using List.all_eq_true.1 hall t hm)⟩)
    (by kernel_rfl)
end Go.Proofs.YtollcdalokhjaaaDoor.shardNil

theorem Go.Proofs.YtollcdalokhjaaaDoor.shardNil_holds : Go.Proofs.YtollcdalokhjaaaDoor.Rows.ShardNilCardSaid := Go.Proofs.YtollcdalokhjaaaDoor.shardNil.holds
#print axioms Go.Proofs.YtollcdalokhjaaaDoor.shardNil_holds
