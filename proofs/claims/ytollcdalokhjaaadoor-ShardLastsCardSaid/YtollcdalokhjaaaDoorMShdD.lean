/-
  Several texts in one (ShdAwake, ShdRight, ShdArg).
-/
import Derived.Test.YtollcdalokhjaaaDoorMShdC
import Derived.Test.YtollcdalokhjaaaDoorMSelR
import Derived.Test.YtollcdalokhjaaaDoorMProofR
import Derived.Test.YtollcdalokhjaaaDoorMGen
import Derived.Test.YtollcdalokhjaaaDoorMPathB
import Derived.Test.YtollcdalokhjaaaDoorMArg
import Derived.ChangeSlices
/-! ## The statements' awake (scriniumlaw17). -/
namespace Go.Proofs.YtollcdalokhjaaaDoor
open Go.RowKit

theorem calls_b {f : FuncId} {args : Array Value} {w : World} {r : Ending} (h : Calls Tryd.prog f args w fun e w' => e = r ∧ w = w') : Calls Tryd.prog f args w fun e w' => e = r ∧ Below w.heap.size w w' := h.mono fun _ _ ⟨h1, h2⟩ => ⟨h1, h2 ▸ Below.refl _ _⟩
/-- Of the shard the blocks that are there. -/
theorem Shd.tight {S : Nat → Prop} {b : Nat} {x : ShR} {w : World} (h : Shd S b x w) : Shd (fun k => S k ∧ k < w.heap.size) b x w := h.mono (fun _ hk hs => ⟨hs, hk⟩) (fun e => h.sk.2 e.1)
theorem stMk_okA (K : List UInt8) (f : FzR) (c : Int) (hf : FzOk f) (hc : i64R c) : StOk (stMk K f c) := ⟨hf, hc, sgn_length _ _ _⟩
def awR : RecR := ⟨3, 0, 30, ⟨#[97]⟩⟩
def awX : ShR := ⟨3, 0, [lfR awR], [awR], st0⟩
theorem awX_add : shAdd (sh0 3) 30 ⟨#[97]⟩ = awX := rfl
theorem awX_e : addE (sh0 3) 30 ⟨#[97]⟩ = 0 := by decide
set_option maxHeartbeats 6400000 in
set_option maxRecDepth 100000 in
theorem awake17_any (w : World) (hK : KT w) :
    Calls Tryd.prog 8 #[] w fun e w' => e = .returned (.bool true) ∧ Below w.heap.size w w' := by
  obtain ⟨B, hB⟩ : ∃ B, B = w.heap.size := ⟨_, rfl⟩
  have HNEW := shNew_any 3 (by decide) w hK
  rw [← hB] at HNEW
  have HN := Lib.hid HNEW
  have HB := Lib.hid hB
  have HK := Lib.hid hK
  have HLA : Hid ((lfR awR).length = 32) := Lib.hid (Tree.leafH_length _)
  obtain ⟨X1, hX1⟩ : ∃ X, X = awX := ⟨_, rfl⟩
  have HADD : Hid (∀ u, Shd (fun j => B ≤ j) B (sh0 3) u → B ≤ u.heap.size → KT u → Calls Tryd.prog 15 #[.pointer (some ⟨B, 0, none⟩), .int .i64 30, .string ⟨#[97]⟩] u fun e w' => e = .returned (.tuple #[.int .i64 0, .int .i64 0]) ∧ Shd (fun j => B ≤ j) B X1 w' ∧ Below B u w') := Lib.hid fun u hs hu hk => by
    have := shAdd_ok hs 30 ⟨#[97]⟩ awX_e (fun j hj => Nat.le_trans hu hj) hk
    rw [awX_add, ← hX1] at this
    exact this.mono fun e w' ⟨h1, h2, h3⟩ => ⟨h1, h2, h3.below (fun _ h => h) hu⟩
  obtain ⟨X2, hX2⟩ : ∃ X : ShR, X = ⟨X1.win, 1, X1.lvs, X1.rows, X1.stn⟩ := ⟨_, rfl⟩
  obtain ⟨G, hG⟩ : ∃ G, G = shFz X1 := ⟨_, rfl⟩
  have hGw : G.win = 3 := by rw [hG, hX1]; rfl
  have hGc : G.cnt = 1 := by rw [hG, hX1]; rfl
  have hGr : G.root.length = 32 := by
    rw [hG]
    exact shFz_root (x := X1) (fun x hx => by rw [hX1] at hx; rw [List.mem_singleton.1 hx]; exact HLA.out)
  have HCL : Hid (∀ (S : Nat → Prop) u, Shd S B X1 u → KT u → Calls Tryd.prog 19 #[.pointer (some ⟨B, 0, none⟩)] u fun e w' => e = .returned (.tuple #[.agg (fzCs G).toArray, .int .i64 0]) ∧ Shd S B X2 w' ∧ Only B u w') := Lib.hid fun S u hs hk => by
    rw [hG, hX2]
    exact shClose_ok hs (by rw [hX1]; rfl) (by rw [hX1]; exact List.cons_ne_nil _ _) hk
  have HGET : Hid (∀ (S : Nat → Prop) u, Shd S B X2 u → Calls Tryd.prog 23 #[.pointer (some ⟨B, 0, none⟩), .int .i64 0] u fun e w' => e = .returned (.tuple #[.agg (recCs awR).toArray, .int .i64 0]) ∧ Below u.heap.size u w') := Lib.hid fun S u hs => shGet_any hs (by rw [hX2]; show (1 : Int) ≠ 2; decide) 0 awR (by rw [hX2, hX1]; rfl)
  have HAD2 : Hid (∀ (S : Nat → Prop) u, Shd S B X2 u → Calls Tryd.prog 15 #[.pointer (some ⟨B, 0, none⟩), .int .i64 31, .string ⟨#[98]⟩] u fun e w' => e = .returned (.tuple #[.int .i64 0, .int .i64 13]) ∧ Below u.heap.size u w') := Lib.hid fun S u hs => by
    have he : addE X2 31 ⟨#[98]⟩ = 13 := by rw [hX2]; exact if_pos (show (1 : Int) ≠ 0 by decide)
    have := shAdd_no hs 31 ⟨#[98]⟩ (by decide) (by rw [he]; decide)
    rwa [he] at this
  -- the stones
  obtain ⟨T1, hT1⟩ : ∃ T, T = stMk [107, 101, 121] ⟨4, 1, z32⟩ 9 := ⟨_, rfl⟩
  have hok4 : FzOk ⟨4, 1, z32⟩ := ⟨by unfold i64R; decide, by unfold i64R; decide, z32_length⟩
  have hokG : FzOk G := ⟨by rw [hGw]; unfold i64R; decide, by rw [hGc]; unfold i64R; decide, hGr⟩
  have hT1o : StOk T1 := by rw [hT1]; exact stMk_okA _ _ _ hok4 (by unfold i64R; decide)
  obtain ⟨T2, hT2⟩ : ∃ T, T = stMk [107, 101, 121] G 9 := ⟨_, rfl⟩
  have hT2o : StOk T2 := by rw [hT2]; exact stMk_okA _ _ _ hokG (by unfold i64R; decide)
  have HS1 : Hid (∀ u, Calls Tryd.prog 21 #[.string ⟨#[107, 101, 121]⟩, .agg (fzCs ⟨4, 1, z32⟩).toArray, .int .i64 9] u fun e w' => e = .returned (.agg (stCs T1).toArray) ∧ Below u.heap.size u w') := Lib.hid fun u => by rw [hT1]; exact rstMake_any ⟨#[107, 101, 121]⟩ (by decide) ⟨4, 1, z32⟩ z32_length 9 u
  have HS2 : Hid (∀ u, Calls Tryd.prog 21 #[.string ⟨#[107, 101, 121]⟩, .agg (fzCs G).toArray, .int .i64 9] u fun e w' => e = .returned (.agg (stCs T2).toArray) ∧ Below u.heap.size u w') := Lib.hid fun u => by rw [hT2]; exact rstMake_any ⟨#[107, 101, 121]⟩ (by decide) G hGr 9 u
  have HPR1 : Hid (∀ (S : Nat → Prop) u, Shd S B X2 u → KT u → Calls Tryd.prog 20 #[.pointer (some ⟨B, 0, none⟩), .agg (stCs T1).toArray] u fun e w' => e = .returned (.int .i64 1) ∧ Below u.heap.size u w') := Lib.hid fun S u hs hk =>
    shPrune_fz hs T1 hT1o (by rw [hX2]) (fun e => by
      have h1 : T1.fz.win = (shFz X2).win := by rw [e]
      rw [hT1, hX2, hX1] at h1
      exact absurd h1 (by decide)) hk
  obtain ⟨X3, hX3⟩ : ∃ X : ShR, X = ⟨X2.win, 2, X2.lvs, X2.rows, T2⟩ := ⟨_, rfl⟩
  have HPR2 : Hid (∀ (S : Nat → Prop) u, Shd S B X2 u → KT u → Calls Tryd.prog 20 #[.pointer (some ⟨B, 0, none⟩), .agg (stCs T2).toArray] u fun e w' => e = .returned (.int .i64 0) ∧ Shd S B X3 w' ∧ Only B u w') := Lib.hid fun S u hs hk => by
    rw [hX3]
    refine shPrune_ok hs T2 hT2o (by rw [hX2]) (by rw [hT2, hG, hX2]; rfl) ?_ hk
    rw [hT2]
    refine (stB_iff _).2 ⟨(fzB_iff _).2 ?_, (by show (0 : Int) ≤ 9 ∧ (9 : Int) ≤ 1125899906842624; decide)⟩
    show (0 ≤ G.win ∧ G.win ≤ _) ∧ 1 ≤ G.cnt ∧ G.cnt ≤ 4000
    rw [hGw, hGc]; decide
  have HGE2 : Hid (∀ (S : Nat → Prop) u, Shd S B X3 u → Calls Tryd.prog 23 #[.pointer (some ⟨B, 0, none⟩), .int .i64 0] u fun e w' => e = .returned (.tuple #[.agg (recCs rec0).toArray, .int .i64 20]) ∧ Below u.heap.size u w') := Lib.hid fun S u hs => shGet_pruned hs (by rw [hX3]) 0 (by rw [hX3, hX2, hX1]; exact Nat.zero_lt_one)
  have HSTR : Hid (∀ (S : Nat → Prop) u, Shd S B X3 u → Calls Tryd.prog 22 #[.pointer (some ⟨B, 0, none⟩), .int .i64 9] u fun e w' => e = .returned (.int .i64 0) ∧ (∃ X4 : ShR, X4.lvs.length = 1 ∧ Shd S B X4 w') ∧ OnlyS S u w') := Lib.hid fun S u hs => by
    have h0 : stripK X3.rows.length 9 = 0 := by rw [hX3, hX2, hX1]; rfl
    have := shStrip_any hs (by rw [hX3]) 9
    rw [h0] at this
    exact this.mono fun e w' ⟨h1, h2, h3⟩ => ⟨h1, ⟨_, by rw [hX3, hX2, hX1]; rfl, h2⟩, h3⟩
  have HCNT : Hid (∀ (S : Nat → Prop) (X4 : ShR) u, X4.lvs.length = 1 → Shd S B X4 u → Calls Tryd.prog 10 #[.pointer (some ⟨B, 0, none⟩)] u fun e w' => e = .returned (.int .i64 1) ∧ u = w') := Lib.hid fun S X4 u h1 hs => by
    have := shCount_any hs
    rwa [h1] at this
  have HGW : Hid (G.win = 3 ∧ G.cnt = 1) := Lib.hid ⟨hGw, hGc⟩
  have HGL : Hid ((fzCs G).length = 34) := Lib.hid (fzCs_length hGr)
  have HGA : Hid ((fzCs G).toArray.size = 34) := Lib.hid (by rw [List.size_toArray]; exact fzCs_length hGr)
  have HGR := Lib.hid hGr
  have HIF : Hid ((Tryd.prog.info? 44).map (·.size) = some 34) := Lib.hid (size_of info_fz)
  have HIR : Hid ((Tryd.prog.info? 55).map (·.size) = some 4) := Lib.hid (size_of info_rec4)
  have HB4 : Hid (Tryd.prog.built 44 [(0, .int .i64 4), (1, .int .i64 1)] = some (fzCs ⟨4, 1, z32⟩).toArray) := Lib.hid (by kernel_rfl)
  obtain ⟨f0, hf0⟩ : ∃ f, f = fz0 := ⟨_, rfl⟩
  have HZL : Hid ((fzCs f0).length = 34) := Lib.hid (by rw [hf0]; rfl)
  obtain ⟨F4, hF4⟩ : ∃ F : FzR, F = ⟨4, 1, z32⟩ := ⟨_, rfl⟩
  rw [← hF4] at HB4 HS1
  clear hK hB HNEW hX1 hX2 hG hGw hGc hGr hok4 hokG hT1 hT2 hT1o hT2o hX3 hF4
  go_enter Tryd.func8, Tryd.ntmps8
  go_upto_region 5 with (first
    | (go_at_call 32; (refine HN.out.mono ?_; rintro e w1 ⟨rfl, hs1, b1⟩))
    | (go_at_call 15; (refine (HADD.out _ hs1 (by have := b1.size; rw [HB.out]; exact this) (HK.out.old (HB.out ▸ b1))).mono ?_; rintro e w2 ⟨rfl, hs2, b2⟩)))
  have hb2 : Below w.heap.size w w2 := HB.out ▸ (b1.trans b2)
  have HT2 := Lib.hid hs2.tight
  have HK2 := Lib.hid (HK.out.old hb2)
  have HW2 := Lib.hid hb2
  clear hs1 b1 b2 hs2 HN HADD hb2
  obtain ⟨S, hS⟩ : ∃ S : Nat → Prop, S = fun k => (fun j => B ≤ j) k ∧ k < w2.heap.size := ⟨_, rfl⟩
  have HSB : Hid (∀ k, S k → B ≤ k) := Lib.hid fun k hk => by rw [hS] at hk; exact hk.1
  have HSL : Hid (∀ k, S k → k < w2.heap.size) := Lib.hid fun k hk => by rw [hS] at hk; exact hk.2
  rw [← hS] at HT2
  clear hS
  go_upto_region 6 with (first
    | (go_at_call 19; (refine (HCL.out S _ HT2.out HK2.out).mono ?_; rintro e w3 ⟨rfl, hs3, o3⟩))
    | (refine wpList_store_mid (w := w3.alloc (.cells (fzCs fz0).toArray 44)) rfl 44 (.tmp 4) (.tmp 25) rfl w3.heap.size 0 (fzCs G).toArray rfl rfl (by rw [HGA.out]; exact Blk.there (Blk.alloc w3 44 (fzCs fz0)) (by rw [show (fzCs fz0).length = 34 from rfl]; decide)) (by rw [HGA.out]; exact HIF.out) one_cells ?_))
  obtain ⟨f, hf⟩ : ∃ x, x = w3.heap.size := ⟨_, rfl⟩
  obtain ⟨V3, hV3⟩ : ∃ u, u = (w3.alloc (.cells (fzCs fz0).toArray 44)).setCells w3.heap.size 0 (fzCs G) := ⟨_, rfl⟩
  change Code.wp _ _ _ _ ((w3.alloc (.cells (fzCs fz0).toArray 44)).setCells w3.heap.size 0 (fzCs G))
  rw [← hV3, ← hf]
  have c3 : Below w3.heap.size w3 V3 := by rw [hV3]; exact below_setCells (Nat.le_refl _) _ _ _ (below_boxS _ _)
  have hF : FzAt f G V3 := by rw [hV3, hf]; exact Blk.setAll (Blk.alloc w3 44 (fzCs fz0)) (by rw [HGL.out]; rfl)
  have hfl : w2.heap.size ≤ f := by rw [hf]; exact o3.size
  have hcs : w2.heap.size ≤ V3.heap.size := Nat.le_trans o3.size c3.size
  replace hs3 := hs3.old c3
  have hb3 : Below w.heap.size w V3 := HW2.out.trans ((o3.below (B := w.heap.size) (by rw [← HB.out]; exact Nat.le_refl _) HW2.out.size).trans (c3.mono (Nat.le_trans HW2.out.size o3.size)))
  have hk3 := HK.out.old hb3
  have HFL := Lib.hid hfl
  clear hV3 hf o3 c3 HCL HK2 HW2 HT2 hfl
  go_upto_region 7 with (first
    | (go_at_call 23; (refine (HGET.out S _ hs3).mono ?_; rintro e w4 ⟨rfl, b4⟩))
    | refine wpList_store_mid (w := w4.alloc (.cells (recCs rec0).toArray 55)) rfl 55 (.tmp 6) (.tmp 30) rfl w4.heap.size 0 (recCs awR).toArray rfl rfl (Blk.there (Blk.alloc w4 55 (recCs rec0)) (by decide)) HIR.out one_rec ?_)
  obtain ⟨r6, hr6⟩ : ∃ x, x = w4.heap.size := ⟨_, rfl⟩
  obtain ⟨V4, hV4⟩ : ∃ u, u = (w4.alloc (.cells (recCs rec0).toArray 55)).setCells w4.heap.size 0 (recCs awR) := ⟨_, rfl⟩
  change Code.wp _ _ _ _ ((w4.alloc (.cells (recCs rec0).toArray 55)).setCells w4.heap.size 0 (recCs awR))
  rw [← hV4, ← hr6]
  have c4 : Below w4.heap.size w4 V4 := by rw [hV4]; exact below_setCells (Nat.le_refl _) _ _ _ (below_boxS _ _)
  have hR6 : Blk r6 55 (recCs awR) V4 := by rw [hV4, hr6]; exact Blk.setAll (Blk.alloc w4 55 (recCs rec0)) rfl
  have d4 := below_step b4 (Nat.le_refl _) c4
  replace hb3 := below_step hb3 (Nat.le_refl _) d4
  replace hs3 := hs3.old d4
  replace hk3 := HK.out.old hb3
  replace hF := Blk.old hF d4 (Blk.lt hF)
  have Hr6L : Hid (w2.heap.size ≤ r6) := Lib.hid (by rw [hr6]; exact Nat.le_trans hcs b4.size)
  replace hcs := Nat.le_trans hcs d4.size
  clear hV4 hr6 b4 c4 d4
  clear HGET
  go_upto_region 8 with (go_at_call 15; (refine (HAD2.out S _ hs3).mono ?_; rintro e w5 ⟨rfl, b5⟩))
  replace hcs := Nat.le_trans hcs b5.size
  replace hb3 := below_step hb3 (Nat.le_refl _) b5
  replace hs3 := hs3.old b5
  replace hk3 := HK.out.old hb3
  replace hF := Blk.old hF b5 (Blk.lt hF)
  replace hR6 := Blk.old hR6 b5 (Blk.lt hR6)
  clear b5
  clear HAD2
  go_upto_region 9 with (first
    | refine wpList_build_at rfl 44 #[(0, .const (.int .i64 4)), (1, .const (.int .i64 1))] rfl (fzCs F4).toArray [(0, .int .i64 4), (1, .int .i64 1)] (by simp [Act.eval]) HB4.out ?_
    | (go_at_call 21; (refine (HS1.out _).mono ?_; rintro e w6 ⟨rfl, b6⟩))
    | (go_at_call 20; (refine (HPR1.out S _ (hs3.old b6) (hk3.old b6)).mono ?_; rintro e w7 ⟨rfl, b7⟩)))
  replace hcs := Nat.le_trans hcs b6.size
  replace hb3 := below_step hb3 (Nat.le_refl _) b6
  replace hs3 := hs3.old b6
  replace hk3 := HK.out.old hb3
  replace hF := Blk.old hF b6 (Blk.lt hF)
  replace hR6 := Blk.old hR6 b6 (Blk.lt hR6)
  clear b6
  replace hcs := Nat.le_trans hcs b7.size
  replace hb3 := below_step hb3 (Nat.le_refl _) b7
  replace hs3 := hs3.old b7
  replace hk3 := HK.out.old hb3
  replace hF := Blk.old hF b7 (Blk.lt hF)
  replace hR6 := Blk.old hR6 b7 (Blk.lt hR6)
  clear b7
  clear HS1 HPR1 HB4
  have hfr := Blk.all hF
  go_upto_region 10 with (first
    | refine wpList_load_mid rfl 44 (.tmp 4) rfl f 0 rfl (fzCs G) _ hfr Tryd.underlying44 rfl (by rw [HGL.out]; exact HIF.out) ?_
    | (go_at_call 21; (refine (HS2.out _).mono ?_; rintro e w8 ⟨rfl, b8⟩))
    | (go_at_call 20; (refine (HPR2.out S _ (hs3.old b8) (hk3.old b8)).mono ?_; rintro e w9 ⟨rfl, hs9, o9⟩)))
  clear hfr
  replace hb3 := below_step hb3 (Nat.le_refl _) b8
  replace hF := Blk.old hF b8 (Blk.lt hF)
  replace hR6 := Blk.old hR6 b8 (Blk.lt hR6)
  have hBl : B < w2.heap.size := HSL.out B hs9.sk.1
  have hneF : f ≠ B := by have := HFL.out; omega
  have hneR : r6 ≠ B := by have := Hr6L.out; omega
  replace hF := Blk.kept hF o9 hneF
  replace hR6 := Blk.kept hR6 o9 hneR
  replace hb3 := hb3.trans (o9.below (B := w.heap.size) (by rw [← HB.out]; exact Nat.le_refl _) hb3.size)
  replace hs3 := hs9
  have hk3 := HK.out.old hb3
  replace hcs := Nat.le_trans (Nat.le_trans hcs b8.size) o9.size
  clear HS2 HPR2 b8 hs9 o9 hBl hneF hneR
  go_upto_region 11 with (first
    | (go_at_call 23; (refine (HGE2.out S _ hs3).mono ?_; rintro e w10 ⟨rfl, b10⟩))
    | refine wpList_store_mid (w := w10.alloc (.cells (recCs rec0).toArray 55)) rfl 55 (.tmp 12) (.tmp 48) rfl w10.heap.size 0 (recCs rec0).toArray rfl rfl (Blk.there (Blk.alloc w10 55 (recCs rec0)) (by decide)) HIR.out one_rec ?_)
  obtain ⟨r12, hr12⟩ : ∃ x, x = w10.heap.size := ⟨_, rfl⟩
  obtain ⟨V10, hV10⟩ : ∃ u, u = (w10.alloc (.cells (recCs rec0).toArray 55)).setCells w10.heap.size 0 (recCs rec0) := ⟨_, rfl⟩
  change Code.wp _ _ _ _ ((w10.alloc (.cells (recCs rec0).toArray 55)).setCells w10.heap.size 0 (recCs rec0))
  rw [← hV10, ← hr12]
  have c10 : Below w10.heap.size w10 V10 := by rw [hV10]; exact below_setCells (Nat.le_refl _) _ _ _ (below_boxS _ _)
  have hR12 : Blk r12 55 (recCs rec0) V10 := by rw [hV10, hr12]; exact Blk.setAll (Blk.alloc w10 55 (recCs rec0)) rfl
  have d10 := below_step b10 (Nat.le_refl _) c10
  replace hb3 := below_step hb3 (Nat.le_refl _) d10
  replace hs3 := hs3.old d10
  replace hk3 := HK.out.old hb3
  replace hF := Blk.old hF d10 (Blk.lt hF)
  replace hR6 := Blk.old hR6 d10 (Blk.lt hR6)
  have Hr12L : Hid (w2.heap.size ≤ r12) := Lib.hid (by rw [hr12]; exact Nat.le_trans hcs b10.size)
  replace hcs := Nat.le_trans hcs d10.size
  clear hV10 hr12 b10 c10 d10
  have k0 : V10.cell? ⟨f, 0, none⟩ = some (.int .i64 3) := by have := FzAt.win hF; rwa [HGW.out.1] at this
  have k1 : V10.cell? ⟨f, 1, none⟩ = some (.int .i64 1) := by have := FzAt.cnt hF; rwa [HGW.out.2] at this
  have k3 : V10.cell? ⟨r6, 3, none⟩ = some (.string ⟨#[97]⟩) := (Blk.cell hR6 3).trans rfl
  have HS3 := Lib.hid hs3
  have HB3 := Lib.hid hb3
  clear HGE2 hF hR6 hR12 hs3 hb3 hk3 hcs
  go_wp2_with (first
    | (go_at_call 22; (refine (HSTR.out S _ HS3.out).mono ?_; rintro e w11 ⟨rfl, ⟨X4, hl4, hs4⟩, o11⟩; have HL4 := Lib.hid hl4; have HS4 := Lib.hid hs4; have HO11 := Lib.hid o11; clear hl4 hs4 o11))
    | (go_at_call 10; (refine (HCNT.out S _ _ HL4.out HS4.out).mono ?_; rintro e w12 ⟨rfl, rfl⟩)))
  go_ret
  exact ⟨rfl, HB3.out.trans (HO11.out.below (fun k hk => by rw [← HB.out]; exact HSB.out k hk) HB3.out.size)⟩
end Go.Proofs.YtollcdalokhjaaaDoor
/-! ## The document's own Right (scriniumref12). -/
namespace Go.Proofs.YtollcdalokhjaaaDoor
open Go.RowKit

set_option maxHeartbeats 4000000 in
set_option maxRecDepth 100000 in
theorem rRight_any (r x : List UInt8) (hr : r.length = 32) (hx : x.length = 32) (m n : Int) (l1 : m ≤ 9223372036854775807) (l2 : n ≤ 9223372036854775807) (v : Value) (P : Hs) (w : World) (hv : Sums w v P) (hP : P.length ≤ 1000) :
    Calls Tryd.prog 14 #[sumV r, sumV x, .int .i64 m, .int .i64 n, v] w fun e w' => e = .returned (.bool ((foldZ x m n P).2 && decide ((foldZ x m n P).1 = r))) ∧ Below w.heap.size w w' := by
  have hfz := fun u hu => rfold_any x hx m n l1 l2 v P u hu hP
  have hDl := foldZ_length x m n P hx
  obtain ⟨D, hD⟩ : ∃ D, D = (foldZ x m n P).1 := ⟨_, rfl⟩
  obtain ⟨ok, hok⟩ : ∃ ok, ok = (foldZ x m n P).2 := ⟨_, rfl⟩
  rw [← hD] at hDl hfz ⊢
  rw [← hok] at hfz ⊢
  obtain ⟨va, cap, rfl, hlc, hcap⟩ := hv.slice
  obtain ⟨k, hk⟩ : ∃ k, k = P.length := ⟨_, rfl⟩
  rw [← hk] at hfz hv ⊢
  obtain ⟨w0, hw0⟩ : ∃ w0, w0 = (w.alloc (.cells (r.map u8V).toArray 33)).alloc (.cells (x.map u8V).toArray 33) := ⟨_, rfl⟩
  have b0 : Below w.heap.size w w0 := by rw [hw0]; exact ((Below.refl _ _).alloc (Nat.le_refl _) _).alloc (by simp) _
  have h1 : w0.heap[w.heap.size]? = some (.cells (r.map u8V).toArray 33 (0, 0)) := by
    rw [hw0]
    exact (((Below.refl (w.alloc (.cells (r.map u8V).toArray 33)).heap.size _).alloc (Nat.le_refl _) _).block w.heap.size (by simp)).trans (heap_alloc_last w _)
  have h2 : w0.heap[w.heap.size + 1]? = some (.cells (x.map u8V).toArray 33 (0, 0)) := by
    have := heap_alloc_last (w.alloc (.cells (r.map u8V).toArray 33)) (.cells (x.map u8V).toArray 33)
    rwa [World.size_alloc, ← hw0] at this
  have l0 : w.heap.size < w0.heap.size := (Array.getElem?_eq_some_iff.1 h1).1
  have HFO := Lib.hid (hfz w0 (hv.old b0))
  have HB := Lib.hid b0
  have HDl := Lib.hid hDl
  have HRl := Lib.hid hr
  have HX := Lib.hid hx
  have H1 := Lib.hid h1
  have H2 := Lib.hid h2
  clear hfz hDl hD hok hk hr hx h1 h2 b0 hv l1 l2 hP hlc hcap
  unfold sumV
  go_enter Tryd.func14, Tryd.ntmps14
  go_upto_region 1 with (fail)
  rw [← hw0]
  clear hw0
  go_upto_region 2 with (first
    | refine wpList_load_mid rfl 33 (.tmp 6) rfl (w.heap.size + 1) 0 rfl (x.map u8V) _ (range_var H2.out) Tryd.underlying33 rfl (sum_info' HX.out) ?_
    | (go_at_call 37; (refine HFO.out.mono ?_); rintro e w2 ⟨rfl, b2⟩; have z1 := Lib.hid ((b2.block _ l0).trans H1.out); have hz0 := heap_alloc_last w2 zSum)
    | refine wpList_store_mid rfl 33 (.tmp 11) (.tmp 19) rfl w2.heap.size 0 (D.map u8V).toArray rfl rfl (sum_there hz0 HDl.out) (sum_info HDl.out) (sum_one D) ?_)
  change Code.wp _ _ _ _ ((w2.alloc zSum).setCells w2.heap.size 0 (D.map u8V))
  obtain ⟨z6, k6⟩ := var_sum w2 D HDl.out
  obtain ⟨W, hW⟩ : ∃ u, u = (w2.alloc zSum).setCells w2.heap.size 0 (D.map u8V) := ⟨_, rfl⟩
  have lp : w.heap.size < w2.heap.size := Nat.lt_of_lt_of_le l0 b2.size
  have z7 := (k6.block _ lp).trans z1.out
  have b7 := below_step (below_step HB.out (Nat.le_refl _) b2) (Nat.le_refl _) k6
  rw [← hW] at z6 z7 b7 ⊢
  obtain ⟨q, hq⟩ : ∃ q, q = w2.heap.size := ⟨_, rfl⟩
  obtain ⟨p, hp⟩ : ∃ p, p = w.heap.size := ⟨_, rfl⟩
  rw [← hq] at z6 ⊢
  rw [← hp] at z7 ⊢
  have hqW := (Array.getElem?_eq_some_iff.1 z6).1
  have hpW := (Array.getElem?_eq_some_iff.1 z7).1
  have HZQ := Lib.hid z6
  have HZP := Lib.hid z7
  have HB7 := Lib.hid b7
  clear hq hp z6 z7 b7 k6 hW hz0 lp b2 l0 z1 H1 H2 HFO HB
  cases ok with
  | true =>
    try simp only [Act.put]
    refine wp_region_tab0 [RT.is (.bool true), RT.is (.bool true), RT.is (sumV D), RT.is (sumV r), RT.is (.bool (decide (D = r))), RT.is (.bool (decide (D = r))), RT.is (.bool (decide (D = r)))] (by kernel_rfl) (by kernel_rfl) (by kernel_rfl) ⟨?_, ?_, ?_, ?_, ?_, ?_, ?_, trivial⟩ ?_
    · intro ac w' hF hL hP hU K hK
      have hB : Below _ _ _ := hL
      have e12 : ac.eval (.tmp 12) = .bool true := hF.at 12 (by kernel_rfl)
      exact rop_move _ rfl e12 (wanted_none rfl) (hK _ _ (le8_refl _) rfl)
    · intro ac w' hF hL hP hU K hK
      have hB : Below _ _ _ := hL
      have e21 : ac.eval (.tmp 21) = .bool true := hP 0 (by kernel_rfl)
      exact rop_move _ rfl e21 (wanted_none rfl) (hK _ _ (le8_refl _) rfl)
    · intro ac w' hF hL hP hU K hK
      have hB : Below _ _ _ := hL
      have e11 : ac.eval (.tmp 11) = .pointer (some ⟨q, 0, none⟩) := hF.at 11 (by kernel_rfl)
      have e22 : ac.eval (.tmp 22) = .bool true := hP 1 (by kernel_rfl)
      exact rop_ld _ _ rfl e11 (load_sumP HDl.out (below_range hB hqW (range_var HZQ.out))) (wanted_of (j := 1) (b := true) rfl rfl e22) (hK _ _ (le8_refl _) rfl)
    · intro ac w' hF hL hP hU K hK
      have hB : Below _ _ _ := hL
      have e5 : ac.eval (.tmp 5) = .pointer (some ⟨p, 0, none⟩) := hF.at 5 (by kernel_rfl)
      have e22 : ac.eval (.tmp 22) = .bool true := hP 1 (by kernel_rfl)
      exact rop_ld _ _ rfl e5 (load_sumP HRl.out (below_range hB hpW (range_var HZP.out))) (wanted_of (j := 1) (b := true) rfl rfl e22) (hK _ _ (le8_refl _) rfl)
    · intro ac w' hF hL hP hU K hK
      have hB : Below _ _ _ := hL
      have e23 : ac.eval (.tmp 23) = sumV D := hP 2 (by kernel_rfl)
      have e24 : ac.eval (.tmp 24) = sumV r := hP 3 (by kernel_rfl)
      have e22 : ac.eval (.tmp 22) = .bool true := hP 1 (by kernel_rfl)
      exact rop_bin _ _ _ _ _ rfl e23 e24 (guard_run _ _ _ _ _ w') (eql_sum D r HDl.out HRl.out w') (wanted_of (j := 1) (b := true) rfl rfl e22) (hK _ _ (le8_refl _) rfl)
    · intro ac w' hF hL hP hU K hK
      have hB : Below _ _ _ := hL
      have e22 : ac.eval (.tmp 22) = .bool true := hP 1 (by kernel_rfl)
      have e25 : ac.eval (.tmp 25) = .bool (decide (D = r)) := hP 4 (by kernel_rfl)
      exact rop_pick _ _ _ rfl true e22 (by simpa using e25) (wanted_none rfl) (hK _ _ (le8_refl _) rfl)
    · intro ac w' hF hL hP hU K hK
      have hB : Below _ _ _ := hL
      have e26 : ac.eval (.tmp 26) = .bool (decide (D = r)) := hP 5 (by kernel_rfl)
      exact rop_assign _ rfl e26 (wanted_none rfl) (hK _ _ (le8_refl _) rfl)
    · intro ac w' hF hB hT
      have e26 : ac.eval (.tmp 26) = .bool (decide (D = r)) := hT 5 (by decide)
      have e10 : ac.eval (.tmp 10) = .bool (decide (D = r)) := hT 6 (by decide)
      rw [hF.setsG [21, 22, 23, 24, 25, 26, 10] (by kernel_rfl)]
      simp only [List.foldl_cons, List.foldl_nil, List.setIfInBounds_toArray, List.set_cons_succ, List.set_cons_zero, e26, e10]
      generalize ac.eval (.tmp 21) = u21
      generalize ac.eval (.tmp 22) = u22
      generalize ac.eval (.tmp 23) = u23
      generalize ac.eval (.tmp 24) = u24
      generalize ac.eval (.tmp 25) = u25
      clear e26 e10 hT hF ac
      have HF := Lib.hid (below_step HB7.out (Nat.le_refl _) hB)
      clear hB
      go_wp2
      go_ret
      exact ⟨by first | (rw [Bool.true_and]; rfl) | (rw [Bool.false_and]; rfl), HF.out⟩
  | false =>
    try simp only [Act.put]
    refine wp_region_tab0 [RT.is (.bool false), RT.is (.bool false), RT.any, RT.any, RT.any, RT.is (.bool false), RT.is (.bool false)] (by kernel_rfl) (by kernel_rfl) (by kernel_rfl) ⟨?_, ?_, ?_, ?_, ?_, ?_, ?_, trivial⟩ ?_
    · intro ac w' hF hL hP hU K hK
      have hB : Below _ _ _ := hL
      have e12 : ac.eval (.tmp 12) = .bool false := hF.at 12 (by kernel_rfl)
      exact rop_move _ rfl e12 (wanted_none rfl) (hK _ _ (le8_refl _) rfl)
    · intro ac w' hF hL hP hU K hK
      have hB : Below _ _ _ := hL
      have e21 : ac.eval (.tmp 21) = .bool false := hP 0 (by kernel_rfl)
      exact rop_move _ rfl e21 (wanted_none rfl) (hK _ _ (le8_refl _) rfl)
    · intro ac w' hF hL hP hU K hK
      have hB : Below _ _ _ := hL
      have e22 : ac.eval (.tmp 22) = .bool false := hP 1 (by kernel_rfl)
      exact rop_offG (j := 1) (b := true) rfl rfl e22 (by decide) (hK _ _ (le8_refl _) trivial)
    · intro ac w' hF hL hP hU K hK
      have hB : Below _ _ _ := hL
      have e22 : ac.eval (.tmp 22) = .bool false := hP 1 (by kernel_rfl)
      exact rop_offG (j := 1) (b := true) rfl rfl e22 (by decide) (hK _ _ (le8_refl _) trivial)
    · intro ac w' hF hL hP hU K hK
      have hB : Below _ _ _ := hL
      have e22 : ac.eval (.tmp 22) = .bool false := hP 1 (by kernel_rfl)
      exact rop_offG (j := 1) (b := true) rfl rfl e22 (by decide) (hK _ _ (le8_refl _) trivial)
    · intro ac w' hF hL hP hU K hK
      have hB : Below _ _ _ := hL
      have e22 : ac.eval (.tmp 22) = .bool false := hP 1 (by kernel_rfl)
      exact rop_pick _ _ _ rfl false e22 (by rfl) (wanted_none rfl) (hK _ _ (le8_refl _) rfl)
    · intro ac w' hF hL hP hU K hK
      have hB : Below _ _ _ := hL
      have e26 : ac.eval (.tmp 26) = .bool false := hP 5 (by kernel_rfl)
      exact rop_assign _ rfl e26 (wanted_none rfl) (hK _ _ (le8_refl _) rfl)
    · intro ac w' hF hB hT
      have e26 : ac.eval (.tmp 26) = .bool false := hT 5 (by decide)
      have e10 : ac.eval (.tmp 10) = .bool false := hT 6 (by decide)
      rw [hF.setsG [21, 22, 23, 24, 25, 26, 10] (by kernel_rfl)]
      simp only [List.foldl_cons, List.foldl_nil, List.setIfInBounds_toArray, List.set_cons_succ, List.set_cons_zero, e26, e10]
      generalize ac.eval (.tmp 21) = u21
      generalize ac.eval (.tmp 22) = u22
      generalize ac.eval (.tmp 23) = u23
      generalize ac.eval (.tmp 24) = u24
      generalize ac.eval (.tmp 25) = u25
      clear e26 e10 hT hF ac
      have HF := Lib.hid (below_step HB7.out (Nat.le_refl _) hB)
      clear hB
      go_wp2
      go_ret
      exact ⟨by first | (rw [Bool.true_and]; rfl) | (rw [Bool.false_and]; rfl), HF.out⟩
end Go.Proofs.YtollcdalokhjaaaDoor
/-! ## What the Shard laws share: arguments that are slices of numbers or four numbers; remainders. -/
namespace Go.Proofs.YtollcdalokhjaaaDoor
open Go.ChangeShapes Go.WideShapes Go.ChangeAt Go.RowKit

theorem rem_iS (a m r : Int) (h : a.tmod m = r) (hm : ¬ m = 0) (hb : -9223372036854775808 ≤ r ∧ r ≤ 9223372036854775807) (w : World) : (binOp .rem 3 (.int .i64 a) (.int .i64 m)).run Tryd.prog w = .ok (.int .i64 r) w := by
  have hw := IntWalk.i64_in r (by omega)
  go_simp
  try (rw [h]; first | exact hw | rfl | simp)
theorem eql_errS (z : Int) (w : World) : (binOp .eql 29 (.int .i64 z) (.int .i64 z)).run Tryd.prog w = .ok (.bool true) w := by go_simp
theorem neq_errS (z : Int) (w : World) : (binOp .neq 29 (.int .i64 z) (.int .i64 z)).run Tryd.prog w = .ok (.bool false) w := by go_simp
/-- (a % n + n) % n, as Go has it: a place. -/
theorem place17 (a : Int) (n : Nat) (h : 0 < n) : ∃ r : Int, a.tmod (n : Int) = r ∧ -(n : Int) < r ∧ r < n ∧ ∃ m : Nat, m < n ∧ (r + (n : Int)).tmod (n : Int) = (m : Int) := by
  have h1 := Int.lt_tmod_of_pos a (show (0 : Int) < (n : Int) by omega)
  have h2 := Int.tmod_lt_of_pos a (show (0 : Int) < (n : Int) by omega)
  obtain ⟨r, hr⟩ : ∃ r, r = a.tmod (n : Int) := ⟨_, rfl⟩
  rw [← hr] at h1 h2
  refine ⟨r, hr.symm, by omega, by omega, ((r + (n : Int)) % (n : Int)).toNat, ?_, ?_⟩
  · have := Int.emod_lt_of_pos (r + (n : Int)) (show (0 : Int) < (n : Int) by omega)
    have := Int.emod_nonneg (r + (n : Int)) (show (n : Int) ≠ 0 by omega)
    omega
  · rw [Int.tmod_eq_emod_of_nonneg (by omega)]
    have := Int.emod_nonneg (r + (n : Int)) (show (n : Int) ≠ 0 by omega)
    omega
theorem cells_int17 : Tryd.prog.cellsOf 3 = 1 := by kernel_rfl
/-- v is a slice of the numbers ps, all of them in block b. -/
def Ints (w : World) (v : Value) (ps : List Int) (b : Nat) : Prop :=
  ∃ a cap, v = .slice a ps.length cap ∧ (ps.length ≤ cap ∧ cap ≤ 9223372036854775807) ∧ (ps ≠ [] → ∃ off, a = some ⟨b, off, none⟩ ∧ b < w.heap.size ∧ ∀ j, j < ps.length → w.cell? ⟨b, off + j, none⟩ = some (.int .i64 (ps.getD j 0)))
theorem Ints.nil (w : World) (b : Nat) : Ints w (.slice none 0 0) [] b := ⟨none, 0, rfl, by decide, fun h => absurd rfl h⟩
theorem Ints.old {w w' : World} {v : Value} {ps : List Int} {b : Nat} (h : Ints w v ps b) (hb : Below w.heap.size w w') : Ints w' v ps b := by
  obtain ⟨a, cap, rfl, hl, hc⟩ := h
  refine ⟨a, cap, rfl, hl, fun hn => ?_⟩
  obtain ⟨off, rfl, hlt, hj⟩ := hc hn
  exact ⟨off, rfl, Nat.lt_of_lt_of_le hlt hb.size, fun j h => (hb.cell (p := ⟨b, off + j, none⟩) hlt).trans (hj j h)⟩
set_option maxRecDepth 1000000 in
theorem ints17_of {H : Type} {enc : TypeId × Value → H} {W : World} {a : Option Addr} {len cap : Nat} {d : DataW H} {ps : List MemPlace}
    (h : DataW.Trod enc Tryd.prog W 0 (fun _ => true) true 53 (.slice a len cap) d ps) : ∃ zs b, Ints W (.slice a len cap) zs b ∧ (b < W.heap.size ∨ zs = []) := by
  obtain ⟨fuel, hf⟩ := h
  have hf' : DataW.trod enc Tryd.prog W 0 (fun _ => true) true fuel 53 [.slice a len cap] = some (d, ps) := by simpa [Value.cells] using hf
  rcases open_ints Tryd.underlying53 Tryd.underlying3 cells_int17 hf' with ⟨hcs, _⟩ | ⟨a', len', cap', zs, hcs, _, hl, hm, hz, _, hcell, hwz⟩
  · simp at hcs
    obtain ⟨rfl, rfl, rfl⟩ := hcs
    exact ⟨[], 0, Ints.nil _ _, .inr rfl⟩
  · simp at hcs
    obtain ⟨rfl, rfl, rfl⟩ := hcs
    simp at hz
    have ht : (zs.take len).length = len := by rw [List.length_take]; omega
    by_cases hlen : len = 0
    · subst hlen
      exact ⟨[], 0, ⟨some a', cap, rfl, by unfold maxLen at hm; simp; omega, fun h => absurd rfl h⟩, .inr rfl⟩
    · obtain ⟨b, off, rfl, hb, hc⟩ := addr_plain (n := zs.length) (by omega) hcell
      refine ⟨zs.take len, b, ⟨some ⟨b, off, none⟩, cap, by rw [ht], by rw [ht]; unfold maxLen at hm; omega, fun _ => ⟨off, rfl, hb, fun j hj => ?_⟩⟩, .inl hb⟩
      rw [hc j (by omega)]
      congr 2
      rw [ht] at hj
      simp [hj]
end Go.Proofs.YtollcdalokhjaaaDoor
