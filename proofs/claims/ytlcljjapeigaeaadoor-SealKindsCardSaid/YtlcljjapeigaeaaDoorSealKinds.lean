/-
  SealKinds: what is a freeze's bytes is none of a head, nor of a stone, and so on: each is read as its own kind alone. For every freeze, head and stone; the numbers K of the package sha are as the program's own start lays them.
-/
import Derived.Test.YtlcljjapeigaeaaDoorSelLaw
namespace Go.Proofs.YtlcljjapeigaeaaDoor.sealKinds
open Go.ChangeShapes Go.WideShapes Go.ChangeAt Go.RowKit

/-- The first byte tells the kind. -/
theorem hd_fz (f : FzR) : hdRd (fzL f) = none := by
  cases h : hdRd (fzL f) with
  | none => rfl
  | some g => obtain ⟨-, -, -, e⟩ := (hdRd_iff _ _).1 h; rw [hdF_eq] at e; unfold fzL at e; injection e with e; exact absurd e (by decide)
theorem st_fz (f : FzR) : stRd (fzL f) = none := by
  cases h : stRd (fzL f) with
  | none => rfl
  | some g => obtain ⟨-, -, -, e⟩ := (stRd_iff _ _).1 h; rw [stF_eq] at e; unfold fzL at e; injection e with e; exact absurd e (by decide)
theorem fz_hd (f : HdR) : fzRd (hdF f) = none := by
  cases h : fzRd (hdF f) with
  | none => rfl
  | some g => obtain ⟨-, -, e⟩ := (fzRd_iff _ _).1 h; rw [hdF_eq] at e; unfold fzL at e; injection e with e; exact absurd e (by decide)
theorem st_hd (f : HdR) : stRd (hdF f) = none := by
  cases h : stRd (hdF f) with
  | none => rfl
  | some g => obtain ⟨-, -, -, e⟩ := (stRd_iff _ _).1 h; rw [stF_eq, hdF_eq] at e; injection e with e; exact absurd e (by decide)
theorem fz_st (f : StR) : fzRd (stF f) = none := by
  cases h : fzRd (stF f) with
  | none => rfl
  | some g => obtain ⟨-, -, e⟩ := (fzRd_iff _ _).1 h; rw [stF_eq] at e; unfold fzL at e; injection e with e; exact absurd e (by decide)
theorem hd_st (f : StR) : hdRd (stF f) = none := by
  cases h : hdRd (stF f) with
  | none => rfl
  | some g => obtain ⟨-, -, -, e⟩ := (hdRd_iff _ _).1 h; rw [hdF_eq, stF_eq] at e; injection e with e; exact absurd e (by decide)
set_option maxHeartbeats 12800000 in
set_option maxRecDepth 100000 in
theorem walk {w : World} (hK : KT w) (f : FzR) (hf : FzOk f) (h : HdR) (hh : HdOk h) (t : StR) (ht : StOk t) :
    Calls Tryd.prog 8 #[.agg (fzCs f).toArray, .agg (hdCs h).toArray, .agg (stCs t).toArray] w fun e w' => e = .returned (.bool true) ∧ Below w.heap.size w w' := by
  have l1 := fzL_length hf.root
  have l2 := hdL_length hh.root
  have l3 := stL_length ht.fz.root
  have l4 := hashL_length hh.mac
  have l5 := hashL_length ht.mac
  obtain ⟨GFz, hGF⟩ : ∃ g, g = fz0 := ⟨_, rfl⟩
  obtain ⟨GHz, hGH⟩ : ∃ g, g = hd0 := ⟨_, rfl⟩
  obtain ⟨GSz, hGS⟩ : ∃ g, g = st0 := ⟨_, rfl⟩
  have HFB := Lib.hid fun u => fzBytes_any f hf.root u
  have HHB := Lib.hid fun u => hdBytes_any h hh.root hh.mac u
  have HSB := Lib.hid fun u => stBytes_any t ht.fz.root ht.mac u
  have HRa : Hid (∀ u, fzB f = true → Calls Tryd.prog 19 #[.string (fzT f)] u fun e w' => e = .returned (.tuple #[.agg (hdCs GHz).toArray, .int .i64 10]) ∧ Below u.heap.size u w') := Lib.hid fun u hz => by
    rw [show fzT f = tB (fzL f) from if_pos hz]
    have := hdRead_l (tB (fzL f)) (fzL f) rfl (by rw [tB_size]; omega) u
    rw [hd_fz] at this; rw [hGH]; exact this
  have HRb : Hid (∀ u, fzB f = true → Calls Tryd.prog 20 #[.string (fzT f)] u fun e w' => e = .returned (.tuple #[.agg (stCs GSz).toArray, .int .i64 10]) ∧ Below u.heap.size u w') := Lib.hid fun u hz => by
    rw [show fzT f = tB (fzL f) from if_pos hz]
    have := stRead_l (tB (fzL f)) (fzL f) rfl (by rw [tB_size]; omega) u
    rw [st_fz] at this; rw [hGS]; exact this
  have HRc : Hid (∀ u, hdB h = true → Calls Tryd.prog 18 #[.string (hdG h)] u fun e w' => e = .returned (.tuple #[.agg (fzCs GFz).toArray, .int .i64 10]) ∧ Below u.heap.size u w') := Lib.hid fun u hz => by
    rw [show hdG h = tB (hdF h) from if_pos hz]
    have := fzRead_l (tB (hdF h)) (hdF h) rfl (by rw [tB_size, hdF, List.length_append]; omega) u
    rw [fz_hd] at this; rw [hGF]; exact this
  have HRd : Hid (∀ u, hdB h = true → Calls Tryd.prog 20 #[.string (hdG h)] u fun e w' => e = .returned (.tuple #[.agg (stCs GSz).toArray, .int .i64 10]) ∧ Below u.heap.size u w') := Lib.hid fun u hz => by
    rw [show hdG h = tB (hdF h) from if_pos hz]
    have := stRead_l (tB (hdF h)) (hdF h) rfl (by rw [tB_size, hdF, List.length_append]; omega) u
    rw [st_hd] at this; rw [hGS]; exact this
  have HRe : Hid (∀ u, stB t = true → Calls Tryd.prog 18 #[.string (stG t)] u fun e w' => e = .returned (.tuple #[.agg (fzCs GFz).toArray, .int .i64 10]) ∧ Below u.heap.size u w') := Lib.hid fun u hz => by
    rw [show stG t = tB (stF t) from if_pos hz]
    have := fzRead_l (tB (stF t)) (stF t) rfl (by rw [tB_size, stF, List.length_append]; omega) u
    rw [fz_st] at this; rw [hGF]; exact this
  have HRf : Hid (∀ u, stB t = true → Calls Tryd.prog 19 #[.string (stG t)] u fun e w' => e = .returned (.tuple #[.agg (hdCs GHz).toArray, .int .i64 10]) ∧ Below u.heap.size u w') := Lib.hid fun u hz => by
    rw [show stG t = tB (stF t) from if_pos hz]
    have := hdRead_l (tB (stF t)) (stF t) rfl (by rw [tB_size, stF, List.length_append]; omega) u
    rw [hd_st] at this; rw [hGH]; exact this
  have HAW := Lib.hid fun u hu => awake16_any u hu
  have HLf : Hid ((fzCs f).length = 34) := Lib.hid (fzCs_length hf.root)
  have HLh : Hid ((hdCs h).length = 66) := Lib.hid (hdCs_length hh.root hh.mac)
  have HLt : Hid ((stCs t).length = 67) := Lib.hid (stCs_length ht.fz.root ht.mac)
  have HA0f : Hid ((fzCs GFz).toArray.size = 34) := Lib.hid (by rw [hGF]; rfl)
  have HA0h : Hid ((hdCs GHz).toArray.size = 66) := Lib.hid (by rw [hGH]; rfl)
  have HA0s : Hid ((stCs GSz).toArray.size = 67) := Lib.hid (by rw [hGS]; rfl)
  clear l1 l2 l3 l4 l5 hf hh ht hGF hGH hGS
  have HIfz : Hid ((Tryd.prog.info? 25).map (·.size) = some 34) := Lib.hid (size_of info_fz)
  have HZfz : Hid ((fzCs fz0).length = 34) := Lib.hid rfl
  have HIhd : Hid ((Tryd.prog.info? 27).map (·.size) = some 66) := Lib.hid (size_of info_hd)
  have HZhd : Hid ((hdCs hd0).length = 66) := Lib.hid rfl
  have HIst : Hid ((Tryd.prog.info? 29).map (·.size) = some 67) := Lib.hid (size_of info_st)
  have HZst : Hid ((stCs st0).length = 67) := Lib.hid rfl
  obtain ⟨p, hp⟩ : ∃ p, p = w.heap.size := ⟨_, rfl⟩
  obtain ⟨q, hq⟩ : ∃ q, q = p + 1 := ⟨_, rfl⟩
  obtain ⟨r, hr⟩ : ∃ r, r = q + 1 := ⟨_, rfl⟩
  obtain ⟨A1, hA1⟩ : ∃ W, W = w.alloc (.cells (fzCs f).toArray 25) := ⟨_, rfl⟩
  obtain ⟨A2, hA2⟩ : ∃ W, W = A1.alloc (.cells (hdCs h).toArray 27) := ⟨_, rfl⟩
  obtain ⟨A3, hA3⟩ : ∃ W, W = A2.alloc (.cells (stCs t).toArray 29) := ⟨_, rfl⟩
  have s1 : A1.heap.size = q := by rw [hA1, hq, hp]; simp
  have s2 : A2.heap.size = r := by rw [hA2, hr, ← s1]; simp
  have a1 : Below w.heap.size w A1 := by rw [hA1]; exact below_boxS _ _
  have a2 : Below A1.heap.size A1 A2 := by rw [hA2]; exact below_boxS _ _
  have a3 : Below A2.heap.size A2 A3 := by rw [hA3]; exact below_boxS _ _
  have HBf : Blk p 25 (fzCs f) A1 := by rw [hA1, hp]; exact Blk.alloc _ _ _
  replace HBf := (HBf.old a2 HBf.lt).old a3 (Nat.lt_of_lt_of_le HBf.lt a2.size)
  have HBh : Blk q 27 (hdCs h) A2 := by rw [hA2, ← s1]; exact Blk.alloc _ _ _
  replace HBh := HBh.old a3 HBh.lt
  have HBt : Blk r 29 (stCs t) A3 := by rw [hA3, ← s2]; exact Blk.alloc _ _ _
  have hb := below_step (below_step a1 (Nat.le_refl _) a2) (Nat.le_refl _) a3
  have H1 := Lib.hid hA1
  have H2 := Lib.hid hA2
  have H3 := Lib.hid hA3
  have HP := Lib.hid hp
  have HQ := Lib.hid hq
  have HR := Lib.hid hr
  have HKA := Lib.hid (hK.old hb)
  clear hA1 hA2 hA3 hp hq hr s1 s2 a1 a2 a3 hK
  go_enter Tryd.func8, Tryd.ntmps8
  go_upto_region 1 with fail
  rw [← H1.out, ← HP.out, ← H2.out, ← H3.out, ← HQ.out, ← HR.out]
  clear H1 H2 H3 HP HQ HR
  go_upto_region 2 with (first
    | (go_at_call 9; (refine (HAW.out _ HKA.out).mono ?_; rintro e w1 ⟨rfl, b1⟩)))
  replace HBf := Blk.old HBf b1 (Blk.lt HBf)
  replace HBh := Blk.old HBh b1 (Blk.lt HBh)
  replace HBt := Blk.old HBt b1 (Blk.lt HBt)
  replace hb := below_step hb (Nat.le_refl _) b1
  clear b1
  go_upto_region 3 with (first
    | refine wpList_load_mid rfl 25 (.tmp 3) rfl p 0 rfl (fzCs f) _ (Blk.all HBf) Tryd.underlying25 rfl (by rw [HLf.out]; exact HIfz.out) ?_
    | (go_at_call 10; (refine (HFB.out _).mono ?_; rintro e w2 ⟨rfl, b2⟩)))
  replace HBf := Blk.old HBf b2 (Blk.lt HBf)
  replace HBh := Blk.old HBh b2 (Blk.lt HBh)
  replace HBt := Blk.old HBt b2 (Blk.lt HBt)
  replace hb := below_step hb (Nat.le_refl _) b2
  clear b2
  go_upto_region 4 with (first
    | refine wpList_load_mid rfl 27 (.tmp 4) rfl q 0 rfl (hdCs h) _ (Blk.all HBh) Tryd.underlying27 rfl (by rw [HLh.out]; exact HIhd.out) ?_
    | (go_at_call 12; (refine (HHB.out _).mono ?_; rintro e w3 ⟨rfl, b3⟩)))
  replace HBf := Blk.old HBf b3 (Blk.lt HBf)
  replace HBh := Blk.old HBh b3 (Blk.lt HBh)
  replace HBt := Blk.old HBt b3 (Blk.lt HBt)
  replace hb := below_step hb (Nat.le_refl _) b3
  clear b3
  go_upto_region 5 with (first
    | refine wpList_load_mid rfl 29 (.tmp 5) rfl r 0 rfl (stCs t) _ (Blk.all HBt) Tryd.underlying29 rfl (by rw [HLt.out]; exact HIst.out) ?_
    | (go_at_call 14; (refine (HSB.out _).mono ?_; rintro e w4 ⟨rfl, b4⟩)))
  replace HBf := Blk.old HBf b4 (Blk.lt HBf)
  replace HBh := Blk.old HBh b4 (Blk.lt HBh)
  replace HBt := Blk.old HBt b4 (Blk.lt HBt)
  replace hb := below_step hb (Nat.le_refl _) b4
  clear b4
  generalize fzT f = SA at *
  generalize hdG h = SB at *
  generalize stG t = SC at *
  clear HBf HBh HBt HFB HHB HSB HLf HLh HLt HAW HKA
  by_cases z1 : fzB f = true
  · rw [show fzZ f = 0 from if_pos z1]
    by_cases z2 : hdB h = true
    · rw [show hdZ h = 0 from if_pos z2]
      by_cases z3 : stB t = true
      · rw [show stZ t = 0 from if_pos z3]
        have Z1 := Lib.hid z1
        have Z2 := Lib.hid z2
        have Z3 := Lib.hid z3
        clear z1 z2 z3
        go_upto_region 7 with fail
        go_upto_region 8 with (first
          | (go_at_call 19; (refine (HRa.out _ Z1.out).mono ?_; rintro e w5 ⟨rfl, b5⟩))
          | refine wpList_store_mid (w := w5.alloc (.cells (hdCs hd0).toArray 27)) rfl 27 (.tmp 14) (.tmp 56) rfl w5.heap.size 0 (hdCs GHz).toArray rfl rfl (by rw [HA0h.out]; exact Blk.there (Blk.alloc w5 27 (hdCs hd0)) (by rw [HZhd.out]; decide)) (by rw [HA0h.out]; exact HIhd.out) one_hd ?_)
        obtain ⟨xHXa, hxHXa⟩ : ∃ x, x = w5.heap.size := ⟨_, rfl⟩
        obtain ⟨V5, hV5⟩ : ∃ u, u = (w5.alloc (.cells (hdCs hd0).toArray 27)).setCells w5.heap.size 0 (hdCs GHz) := ⟨_, rfl⟩
        change Code.wp _ _ _ _ ((w5.alloc (.cells (hdCs hd0).toArray 27)).setCells w5.heap.size 0 (hdCs GHz))
        rw [← hV5, ← hxHXa]
        have c5 : Below w5.heap.size w5 V5 := by rw [hV5]; exact below_setCells (Nat.le_refl _) _ _ _ (below_boxS _ _)
        have HXa : Blk xHXa 27 (hdCs GHz) V5 := by rw [hV5, hxHXa]; exact Blk.setAll (Blk.alloc w5 27 (hdCs hd0)) (by rw [HZhd.out, ← List.size_toArray]; exact HA0h.out)
        replace hb := below_step (below_step hb (Nat.le_refl _) b5) (Nat.le_refl _) c5
        clear hV5 hxHXa b5 c5
        clear HRa HXa
        go_upto_region 9 with (first
          | (go_at_call 20; (refine (HRb.out _ Z1.out).mono ?_; rintro e w6 ⟨rfl, b6⟩))
          | refine wpList_store_mid (w := w6.alloc (.cells (stCs st0).toArray 29)) rfl 29 (.tmp 16) (.tmp 61) rfl w6.heap.size 0 (stCs GSz).toArray rfl rfl (by rw [HA0s.out]; exact Blk.there (Blk.alloc w6 29 (stCs st0)) (by rw [HZst.out]; decide)) (by rw [HA0s.out]; exact HIst.out) one_st ?_)
        obtain ⟨xHXb, hxHXb⟩ : ∃ x, x = w6.heap.size := ⟨_, rfl⟩
        obtain ⟨V6, hV6⟩ : ∃ u, u = (w6.alloc (.cells (stCs st0).toArray 29)).setCells w6.heap.size 0 (stCs GSz) := ⟨_, rfl⟩
        change Code.wp _ _ _ _ ((w6.alloc (.cells (stCs st0).toArray 29)).setCells w6.heap.size 0 (stCs GSz))
        rw [← hV6, ← hxHXb]
        have c6 : Below w6.heap.size w6 V6 := by rw [hV6]; exact below_setCells (Nat.le_refl _) _ _ _ (below_boxS _ _)
        have HXb : Blk xHXb 29 (stCs GSz) V6 := by rw [hV6, hxHXb]; exact Blk.setAll (Blk.alloc w6 29 (stCs st0)) (by rw [HZst.out, ← List.size_toArray]; exact HA0s.out)
        replace hb := below_step (below_step hb (Nat.le_refl _) b6) (Nat.le_refl _) c6
        clear hV6 hxHXb b6 c6
        clear HRb HXb
        go_upto_region 10 with (first
          | (go_at_call 18; (refine (HRc.out _ Z2.out).mono ?_; rintro e w7 ⟨rfl, b7⟩))
          | refine wpList_store_mid (w := w7.alloc (.cells (fzCs fz0).toArray 25)) rfl 25 (.tmp 18) (.tmp 66) rfl w7.heap.size 0 (fzCs GFz).toArray rfl rfl (by rw [HA0f.out]; exact Blk.there (Blk.alloc w7 25 (fzCs fz0)) (by rw [HZfz.out]; decide)) (by rw [HA0f.out]; exact HIfz.out) one_cells ?_)
        obtain ⟨xHXc, hxHXc⟩ : ∃ x, x = w7.heap.size := ⟨_, rfl⟩
        obtain ⟨V7, hV7⟩ : ∃ u, u = (w7.alloc (.cells (fzCs fz0).toArray 25)).setCells w7.heap.size 0 (fzCs GFz) := ⟨_, rfl⟩
        change Code.wp _ _ _ _ ((w7.alloc (.cells (fzCs fz0).toArray 25)).setCells w7.heap.size 0 (fzCs GFz))
        rw [← hV7, ← hxHXc]
        have c7 : Below w7.heap.size w7 V7 := by rw [hV7]; exact below_setCells (Nat.le_refl _) _ _ _ (below_boxS _ _)
        have HXc : Blk xHXc 25 (fzCs GFz) V7 := by rw [hV7, hxHXc]; exact Blk.setAll (Blk.alloc w7 25 (fzCs fz0)) (by rw [HZfz.out, ← List.size_toArray]; exact HA0f.out)
        replace hb := below_step (below_step hb (Nat.le_refl _) b7) (Nat.le_refl _) c7
        clear hV7 hxHXc b7 c7
        clear HRc HXc
        go_upto_region 11 with (first
          | (go_at_call 20; (refine (HRd.out _ Z2.out).mono ?_; rintro e w8 ⟨rfl, b8⟩))
          | refine wpList_store_mid (w := w8.alloc (.cells (stCs st0).toArray 29)) rfl 29 (.tmp 20) (.tmp 71) rfl w8.heap.size 0 (stCs GSz).toArray rfl rfl (by rw [HA0s.out]; exact Blk.there (Blk.alloc w8 29 (stCs st0)) (by rw [HZst.out]; decide)) (by rw [HA0s.out]; exact HIst.out) one_st ?_)
        obtain ⟨xHXd, hxHXd⟩ : ∃ x, x = w8.heap.size := ⟨_, rfl⟩
        obtain ⟨V8, hV8⟩ : ∃ u, u = (w8.alloc (.cells (stCs st0).toArray 29)).setCells w8.heap.size 0 (stCs GSz) := ⟨_, rfl⟩
        change Code.wp _ _ _ _ ((w8.alloc (.cells (stCs st0).toArray 29)).setCells w8.heap.size 0 (stCs GSz))
        rw [← hV8, ← hxHXd]
        have c8 : Below w8.heap.size w8 V8 := by rw [hV8]; exact below_setCells (Nat.le_refl _) _ _ _ (below_boxS _ _)
        have HXd : Blk xHXd 29 (stCs GSz) V8 := by rw [hV8, hxHXd]; exact Blk.setAll (Blk.alloc w8 29 (stCs st0)) (by rw [HZst.out, ← List.size_toArray]; exact HA0s.out)
        replace hb := below_step (below_step hb (Nat.le_refl _) b8) (Nat.le_refl _) c8
        clear hV8 hxHXd b8 c8
        clear HRd HXd
        go_upto_region 12 with (first
          | (go_at_call 18; (refine (HRe.out _ Z3.out).mono ?_; rintro e w9 ⟨rfl, b9⟩))
          | refine wpList_store_mid (w := w9.alloc (.cells (fzCs fz0).toArray 25)) rfl 25 (.tmp 22) (.tmp 76) rfl w9.heap.size 0 (fzCs GFz).toArray rfl rfl (by rw [HA0f.out]; exact Blk.there (Blk.alloc w9 25 (fzCs fz0)) (by rw [HZfz.out]; decide)) (by rw [HA0f.out]; exact HIfz.out) one_cells ?_)
        obtain ⟨xHXe, hxHXe⟩ : ∃ x, x = w9.heap.size := ⟨_, rfl⟩
        obtain ⟨V9, hV9⟩ : ∃ u, u = (w9.alloc (.cells (fzCs fz0).toArray 25)).setCells w9.heap.size 0 (fzCs GFz) := ⟨_, rfl⟩
        change Code.wp _ _ _ _ ((w9.alloc (.cells (fzCs fz0).toArray 25)).setCells w9.heap.size 0 (fzCs GFz))
        rw [← hV9, ← hxHXe]
        have c9 : Below w9.heap.size w9 V9 := by rw [hV9]; exact below_setCells (Nat.le_refl _) _ _ _ (below_boxS _ _)
        have HXe : Blk xHXe 25 (fzCs GFz) V9 := by rw [hV9, hxHXe]; exact Blk.setAll (Blk.alloc w9 25 (fzCs fz0)) (by rw [HZfz.out, ← List.size_toArray]; exact HA0f.out)
        replace hb := below_step (below_step hb (Nat.le_refl _) b9) (Nat.le_refl _) c9
        clear hV9 hxHXe b9 c9
        clear HRe HXe
        go_upto_region 13 with (first
          | (go_at_call 19; (refine (HRf.out _ Z3.out).mono ?_; rintro e w10 ⟨rfl, b10⟩))
          | refine wpList_store_mid (w := w10.alloc (.cells (hdCs hd0).toArray 27)) rfl 27 (.tmp 24) (.tmp 81) rfl w10.heap.size 0 (hdCs GHz).toArray rfl rfl (by rw [HA0h.out]; exact Blk.there (Blk.alloc w10 27 (hdCs hd0)) (by rw [HZhd.out]; decide)) (by rw [HA0h.out]; exact HIhd.out) one_hd ?_)
        obtain ⟨xHXf, hxHXf⟩ : ∃ x, x = w10.heap.size := ⟨_, rfl⟩
        obtain ⟨V10, hV10⟩ : ∃ u, u = (w10.alloc (.cells (hdCs hd0).toArray 27)).setCells w10.heap.size 0 (hdCs GHz) := ⟨_, rfl⟩
        change Code.wp _ _ _ _ ((w10.alloc (.cells (hdCs hd0).toArray 27)).setCells w10.heap.size 0 (hdCs GHz))
        rw [← hV10, ← hxHXf]
        have c10 : Below w10.heap.size w10 V10 := by rw [hV10]; exact below_setCells (Nat.le_refl _) _ _ _ (below_boxS _ _)
        have HXf : Blk xHXf 27 (hdCs GHz) V10 := by rw [hV10, hxHXf]; exact Blk.setAll (Blk.alloc w10 27 (hdCs hd0)) (by rw [HZhd.out, ← List.size_toArray]; exact HA0h.out)
        replace hb := below_step (below_step hb (Nat.le_refl _) b10) (Nat.le_refl _) c10
        clear hV10 hxHXf b10 c10
        clear HRf HXf
        go_wp2
        try rw [Exit.noGoto_ret]
        go_ret
        exact ⟨rfl, hb⟩
      · rw [show stZ t = 1 from if_neg z3]
        go_wp2
        try rw [Exit.noGoto_ret]
        go_ret
        exact ⟨rfl, hb⟩
    · rw [show hdZ h = 1 from if_neg z2]
      generalize stZ t = Y3
      go_wp2
      try rw [Exit.noGoto_ret]
      go_ret
      exact ⟨rfl, hb⟩
  · rw [show fzZ f = 1 from if_neg z1]
    generalize stZ t = Y3
    generalize hdZ h = Y2
    go_wp2
    try rw [Exit.noGoto_ret]
    go_ret
    exact ⟨rfl, hb⟩
set_option maxRecDepth 100000 in
theorem lifted (os : Os) (started : os.Started) (H : Type) (enc : TypeId × Value → H) :
    ReturnsInHanded {} Tryd.checked os 8 .any (fun w args => (Rows.sealKindsSpec.pre enc Tryd.prog Tryd.f8 [] false w args ∧ laidMetH Tryd.prog [("scrinium/sha.k", Rows.laid_scrinium_sha_k)] w) ∧ sizedMet enc Tryd.prog Tryd.f8 (OpenSpec.ofChange Rows.sealKindsSpec) false w args)
      (Rows.sealKindsSpec.post enc Tryd.prog Tryd.f8 false true false false) := by
  refine returnsInHanded_of_change_and (C := Tryd.checked) (X := fun w _ => laidMetH Tryd.prog [("scrinium/sha.k", Rows.laid_scrinium_sha_k)] w) (fun _ _ _ hh h => h.of_heap hh) lawOwn started (by kernel_rfl) Tryd.func8
    (ChangeSpec.witness_shaped (enc := enc) (C := Tryd.checked) (os := os) (X := fun w _ => laidMetH Tryd.prog [("scrinium/sha.k", Rows.laid_scrinium_sha_k)] w) false (World.doorLaid Tryd.prog 400 os) #[.agg (fzCs fz0).toArray, .agg (hdCs hd0).toArray, .agg (stCs st0).toArray] 8 rfl (World.shaped_of_RefB (by kernel_rfl) (by kernel_rfl)) (by kernel_rfl) (by kernel_rfl) (by kernel_rfl) (door_met os _)) ?_
  intro W base args ds gs before hval0 hW _ _ hL _
  have hval : ∀ (j : Nat) t v, Tryd.f8.params[j]? = some t → args[j]? = some v → Value.okWide Tryd.prog W .any base t v := hval0
  have hW' := hW
  obtain ⟨p, q, hA0, hV, rfl, hfz, hnd⟩ := hW
  have hA : DataW.TrodAll enc Tryd.prog W 0 (fun _ => true) true Tryd.f8.params.toList args.toList ds p := hA0
  rw [Tryd.params8] at hA hval
  obtain ⟨v0, vs0, d0, ds0, p0, q0, hargs, rfl, rfl, h0, r0⟩ := trodAll_cons hA
  obtain ⟨v1, vs1, d1, ds1, p1, q1, rfl, rfl, rfl, h1, r1⟩ := trodAll_cons r0
  obtain ⟨v2, vs2, d2, ds2, p2, q2, rfl, rfl, rfl, h2, r2⟩ := trodAll_cons r1
  obtain ⟨rfl, rfl, rfl⟩ := trodAll_nil r2
  obtain rfl : args = #[v0, v1, v2] := by cases args; simp_all
  obtain ⟨rfl, rfl⟩ := trodVars_none hV
  have hKT := KT_of_laid hL
  obtain ⟨f0, rfl, w0⟩ := fz_arg (hval 0 25 v0 rfl rfl) h0
  obtain ⟨f1, rfl, w1⟩ := hd_arg (hval 1 27 v1 rfl rfl) h1
  obtain ⟨f2, rfl, w2⟩ := st_arg (hval 2 29 v2 rfl rfl) h2
  clear hA0 hval0
  refine (walk (w := W) hKT f0 w0 f1 w1 f2 w2).mono fun e W' ⟨he, bel⟩ => ?_
  subst he
  exact ⟨_, rfl, law_post rfl rfl (by kernel_rfl) hW' rfl bel⟩

theorem row_holds : Rows.SealKindsSaid :=
  OpenClaim.holds_of_wide 8 Tryd.f8 rfl rfl rfl rfl rfl rfl rfl ⟨rfl, rfl, rfl, rfl, rfl⟩ rfl rfl rfl rfl rfl (by kernel_rfl) Tryd.func8 (by kernel_rfl)
    (of_decide_eq_true (by kernel_rfl)) (by unfold Func.isWrapper; first | (rw [if_pos (by decide +kernel)]; kernel_rfl) | (rw [if_neg (by decide +kernel)]; exact ⟨rfl, rfl⟩))
    (fun os started H enc _ => lifted os started H enc)

theorem holds : Rows.SealKindsCardSaid :=
  Claim7.holds_tied_plain_at .later [] [.data] true Rows.sealKindsCard.stood.harness false
    row_holds (fun _ h => by cases h) (by kernel_rfl) (fun _ h => by cases h) sealKinds_row_tie rfl ⟨rfl, rfl⟩ (by kernel_rfl) rfl
    (fun f fn hf hfn => by
      obtain rfl : f = 8 := Option.some.inj ((show Tryd.prog.funcNamed "scrinium/scriniumlaw16.SealKinds" = some 8 by kernel_rfl).symm.trans hf) |>.symm
      obtain rfl : fn = Tryd.f8 := (Option.some.inj (Tryd.func8.symm.trans hfn)).symm
      exact ⟨by kernel_rfl, fun j t ht => by
        rw [Tryd.params8] at ht
        have hm : t ∈ [25, 27, 29] := by simpa using Array.mem_of_getElem? ht
        have hall : ([25, 27, 29].all fun u => !Tryd.prog.wantsStandIn u) = true := by kernel_rfl
        exact (show Tryd.prog.wantsStandIn t = false by simpa using List.all_eq_true.1 hall t hm)⟩)
    (by kernel_rfl)
end Go.Proofs.YtlcljjapeigaeaaDoor.sealKinds

theorem Go.Proofs.YtlcljjapeigaeaaDoor.sealKinds_holds : Go.Proofs.YtlcljjapeigaeaaDoor.Rows.SealKindsCardSaid := Go.Proofs.YtlcljjapeigaeaaDoor.sealKinds.holds
#print axioms Go.Proofs.YtlcljjapeigaeaaDoor.sealKinds_holds
