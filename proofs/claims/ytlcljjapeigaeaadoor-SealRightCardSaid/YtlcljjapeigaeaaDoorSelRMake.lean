/-
  The document's own answers for layer 16: Head and Stone.
-/
import Derived.Test.YtlcljjapeigaeaaDoorSelRef
namespace Go.Proofs.YtlcljjapeigaeaaDoor
open Go.RowKit

set_option maxHeartbeats 3200000 in
set_option maxRecDepth 100000 in
theorem rhdMake_any (key : ByteArray) (hk : key.size ≤ 1000000) (s : Int) (r : List UInt8) (hr : r.length = 32) (c : Int) (w : World) :
    Calls Tryd.prog 27 #[.string key, .int .i64 s, sumV r, .int .i64 c] w fun e w' => e = .returned (.agg (hdCs (hdMk key.data.toList s r c)).toArray) ∧ Below w.heap.size w w' := by
  obtain ⟨D, hD⟩ : ∃ D, D = sgn key.data.toList (hdB ⟨s, r, c, z32⟩) (hdL ⟨s, r, c, z32⟩) := ⟨_, rfl⟩
  have HDl : Hid (D.length = 32) := Lib.hid (by rw [hD]; exact sgn_length _ _ _)
  rw [show hdMk key.data.toList s r c = ⟨s, r, c, D⟩ by rw [hD]; rfl]
  obtain ⟨p, hp⟩ : ∃ p, p = w.heap.size := ⟨_, rfl⟩
  obtain ⟨W, hW⟩ : ∃ W, W = w.alloc (.cells (r.map u8V).toArray 23) := ⟨_, rfl⟩
  have hb1 : Below w.heap.size w W := by rw [hW]; exact below_boxS _ _
  have h1 : Blk p 23 (r.map u8V) W := by rw [hW, hp]; exact Blk.alloc _ _ _
  obtain ⟨q, hq⟩ : ∃ q, q = p + 1 := ⟨_, rfl⟩
  obtain ⟨V, hV⟩ : ∃ V, V = W.alloc (.cells (hdCs hd0).toArray 27) := ⟨_, rfl⟩
  have hWs : W.heap.size = q := by rw [hW, hq, hp]; simp
  have zq : HdAt q hd0 V := by rw [hV, ← hWs]; exact Blk.alloc _ _ _
  have b2 : Below W.heap.size W V := by rw [hV]; exact below_boxS _ _
  obtain ⟨x, hx⟩ : ∃ x, x = V.heap.size := ⟨_, rfl⟩
  obtain ⟨X, hX⟩ : ∃ X, X = (V.alloc (.cells (hdCs hd0).toArray 27)).setCells x 0 (hdCs ⟨s, r, c, z32⟩) := ⟨_, rfl⟩
  have hx0 : Blk x 27 (hdCs hd0) (V.alloc (.cells (hdCs hd0).toArray 27)) := by rw [hx]; exact Blk.alloc _ _ _
  have HTH : Hid ((V.alloc (.cells (hdCs hd0).toArray 27)).there x 0 (hdCs ⟨s, r, c, z32⟩).toArray.size) := Lib.hid (by rw [List.size_toArray, (hdCs_length hr z32_length)]; exact hx0.there (by rw [show (hdCs hd0).length = 66 from rfl]; decide))
  have ha1 : HdAt x ⟨s, r, c, z32⟩ X := by rw [hX]; exact hx0.setAll (by rw [(hdCs_length hr z32_length)]; rfl)
  have b3 : Below V.heap.size V X := by rw [hX, hx]; exact below_setCells (Nat.le_refl _) _ _ _ (below_boxS _ _)
  have hwq : w.heap.size ≤ q := by omega
  have hqx : q < x := by rw [hx]; exact Blk.lt zq
  have hwx : w.heap.size ≤ x := by omega
  have hb3 := below_step (below_step hb1 (Nat.le_refl _) b2) (Nat.le_refl _) b3
  have ZQ := Lib.hid (Blk.old zq b3 (Blk.lt zq))
  have HRg : Hid (V.rangeAt p 0 (r.map u8V)) := Lib.hid (Blk.all (Blk.old h1 b2 h1.lt))
  have HA1 := Lib.hid ha1
  have HI : Hid ((Tryd.prog.info? 23).map (·.size) = some (r.map u8V).length) := Lib.hid (by rw [List.length_map, hr]; exact info_sum)
  have HIh : Hid ((Tryd.prog.info? 27).map (·.size) = some 66) := Lib.hid (size_of info_hd)
  have HL1 : Hid ((hdCs ⟨s, r, c, z32⟩).length = 66) := Lib.hid (hdCs_length hr z32_length)
  have HL2 : Hid ((hdCs ⟨s, r, c, D⟩).length = 66) := Lib.hid (hdCs_length hr HDl.out)
  have HB : Hid (Tryd.prog.built 27 [(0, .int .i64 s), (1, .agg (r.map u8V).toArray), (2, .int .i64 c)] = some (hdCs ⟨s, r, c, z32⟩).toArray) := Lib.hid (built_hd3 s c r hr)
  have HW := Lib.hid hW
  have HV := Lib.hid hV
  have HX := Lib.hid hX
  have HP := Lib.hid hp
  have HQ := Lib.hid hq
  have HXX := Lib.hid hx
  have qs := fun u => rhdSays_any ⟨s, r, c, z32⟩ hr u
  clear hW hV hX hp hq hx h1 zq b2 b3 hb1 hWs hx0 ha1
  by_cases hz : hdB ⟨s, r, c, z32⟩ = true
  · have et : hdT ⟨s, r, c, z32⟩ = tB (hdL ⟨s, r, c, z32⟩) := if_pos hz
    have hlen := hdL_length (f := ⟨s, r, c, z32⟩) hr
    have qo : ∀ u : World, Calls Tryd.prog 61 #[.string key, .string (tB (hdL ⟨s, r, c, z32⟩))] u fun e w' => e = .returned (sumV D) ∧ Below u.heap.size u w' := fun u => by
      rw [hD, sgn, if_pos hz]
      exact rmac_any key key.data.toList rfl (tB (hdL ⟨s, r, c, z32⟩)) (hdL ⟨s, r, c, z32⟩) rfl u (by rw [← Lib.size_eq]; omega) (by omega)
    rw [et, hz] at qs
    clear hz et hD hlen
    unfold sumV
    go_enter Tryd.func27, Tryd.ntmps27
    go_upto_region 1 with fail
    rw [← HW.out, ← HP.out]
    change Code.wp _ _ _ _ (W.alloc (.cells (hdCs hd0).toArray 27))
    rw [← HV.out, ← HQ.out]
    clear HW HV
    go_upto_region 2 with (first
      | refine wpList_load_mid rfl 23 (.tmp 6) rfl p 0 rfl (r.map u8V) _ HRg.out Tryd.underlying23 rfl HI.out ?_
      | refine wpList_build_at rfl 27 #[(0, .tmp 12), (1, .tmp 13), (2, .tmp 14)] rfl (hdCs ⟨s, r, c, z32⟩).toArray [(0, .int .i64 s), (1, .agg (r.map u8V).toArray), (2, .int .i64 c)] (by simp [Act.eval]) HB.out ?_
      | refine wpList_store_mid (w := V.alloc (.cells (hdCs hd0).toArray 27)) rfl 27 (.tmp 9) (.tmp 15) rfl x 0 (hdCs ⟨s, r, c, z32⟩).toArray (by rw [HXX.out]; rfl) rfl HTH.out (by rw [List.size_toArray, HL1.out]; exact HIh.out) one_hd ?_)
    change Code.wp _ _ _ _ ((V.alloc (.cells (hdCs hd0).toArray 27)).setCells x 0 (hdCs ⟨s, r, c, z32⟩))
    rw [← HX.out, ← HXX.out]
    clear HX HXX HRg HTH
    go_upto_region 3 with (first
      | refine wpList_load_mid rfl 27 (.tmp 9) rfl x 0 rfl (hdCs ⟨s, r, c, z32⟩) _ (Blk.all HA1.out) Tryd.underlying27 rfl (by rw [HL1.out]; exact HIh.out) ?_
      | (go_at_call 41; ((with_reducible refine (qs _).mono ?_); rintro e w4 ⟨rfl, b4⟩)))
    have HA4 := Lib.hid (Blk.old HA1.out b4 (Blk.lt HA1.out))
    have ZQ4 := Lib.hid (Blk.old ZQ.out b4 (Blk.lt ZQ.out))
    have hb4 := below_step hb3 (Nat.le_refl _) b4
    clear b4 HA1 ZQ hb3 qs
    generalize tB (hdL ⟨s, r, c, z32⟩) = SS at *
    go_upto_region 5 with (first
      | (go_at_call 61; ((with_reducible refine (qo _).mono ?_); rintro e w5 ⟨rfl, b5⟩; have HA5 := Lib.hid (Blk.old HA4.out b5 (Blk.lt HA4.out))))
      | refine wpList_store_mid rfl 23 (.tmp 25) (.tmp 24) rfl x 34 (D.map u8V).toArray rfl rfl (by rw [List.size_toArray, List.length_map, HDl.out]; exact Blk.there HA5.out (by rw [HL1.out]; decide)) (sum_info HDl.out) (sum_one D) ?_)
    obtain ⟨W6, hW6⟩ : ∃ u, u = w5.setCells x 34 (D.map u8V) := ⟨_, rfl⟩
    change Code.wp _ _ _ _ (w5.setCells x 34 (D.map u8V))
    rw [← hW6]
    have HA2 : Hid (HdAt x ⟨s, r, c, D⟩ W6) := Lib.hid (by rw [hW6]; exact (HdAt.setMac HA5.out hr D (by rw [HDl.out]; exact z32_length.symm)))
    have ZQ2 : Hid (HdAt q hd0 W6) := Lib.hid (by rw [hW6]; exact Blk.kept (Blk.old ZQ4.out b5 (Blk.lt ZQ4.out)) (only_setCells _ _ _ (Only.refl x w5)) (by omega))
    have hb6 : Below w.heap.size w W6 := by rw [hW6]; exact below_setCells hwx _ _ _ (below_step hb4 (Nat.le_refl _) b5)
    clear hW6 b5 HA5 HA4 ZQ4 hb4 qo
    go_wp2_with (first
      | refine wpList_load_mid rfl 27 (.tmp 9) rfl x 0 rfl (hdCs ⟨s, r, c, D⟩) _ (Blk.all HA2.out) Tryd.underlying27 rfl (by rw [HL2.out]; exact HIh.out) ?_
      | refine wpList_store_mid rfl 27 (.tmp 8) (.tmp 26) rfl q 0 (hdCs ⟨s, r, c, D⟩).toArray rfl rfl (by rw [List.size_toArray, HL2.out]; exact Blk.there ZQ2.out (by rw [show (hdCs hd0).length = 66 from rfl]; decide)) (by rw [List.size_toArray, HL2.out]; exact HIh.out) one_hd ?_)
    have hz := Blk.setAll (n := hdCs ⟨s, r, c, D⟩) ZQ2.out (by rw [HL2.out]; rfl)
    exact bodyPost_ret (v := .agg (hdCs ⟨s, r, c, D⟩).toArray) (results_cell (t := 8) (ty := 27) (b := q) (cs := hdCs ⟨s, r, c, D⟩) rfl _ _ _ rfl (Blk.all hz) Tryd.underlying27 rfl (by rw [HL2.out]; exact HIh.out)) rfl ⟨rfl, below_setCells hwq _ _ _ hb6⟩
  · have et : hdT ⟨s, r, c, z32⟩ = tB [] := if_neg hz
    have eD : D = z32 := by rw [hD]; exact if_neg hz
    rw [et, show hdB ⟨s, r, c, z32⟩ = false by simpa using hz] at qs
    clear hz et hD
    subst eD
    unfold sumV
    go_enter Tryd.func27, Tryd.ntmps27
    go_upto_region 1 with fail
    rw [← HW.out, ← HP.out]
    change Code.wp _ _ _ _ (W.alloc (.cells (hdCs hd0).toArray 27))
    rw [← HV.out, ← HQ.out]
    clear HW HV
    go_upto_region 2 with (first
      | refine wpList_load_mid rfl 23 (.tmp 6) rfl p 0 rfl (r.map u8V) _ HRg.out Tryd.underlying23 rfl HI.out ?_
      | refine wpList_build_at rfl 27 #[(0, .tmp 12), (1, .tmp 13), (2, .tmp 14)] rfl (hdCs ⟨s, r, c, z32⟩).toArray [(0, .int .i64 s), (1, .agg (r.map u8V).toArray), (2, .int .i64 c)] (by simp [Act.eval]) HB.out ?_
      | refine wpList_store_mid (w := V.alloc (.cells (hdCs hd0).toArray 27)) rfl 27 (.tmp 9) (.tmp 15) rfl x 0 (hdCs ⟨s, r, c, z32⟩).toArray (by rw [HXX.out]; rfl) rfl HTH.out (by rw [List.size_toArray, HL1.out]; exact HIh.out) one_hd ?_)
    change Code.wp _ _ _ _ ((V.alloc (.cells (hdCs hd0).toArray 27)).setCells x 0 (hdCs ⟨s, r, c, z32⟩))
    rw [← HX.out, ← HXX.out]
    clear HX HXX HRg HTH
    go_upto_region 3 with (first
      | refine wpList_load_mid rfl 27 (.tmp 9) rfl x 0 rfl (hdCs ⟨s, r, c, z32⟩) _ (Blk.all HA1.out) Tryd.underlying27 rfl (by rw [HL1.out]; exact HIh.out) ?_
      | (go_at_call 41; ((with_reducible refine (qs _).mono ?_); rintro e w4 ⟨rfl, b4⟩)))
    have HA4 := Lib.hid (Blk.old HA1.out b4 (Blk.lt HA1.out))
    have ZQ4 := Lib.hid (Blk.old ZQ.out b4 (Blk.lt ZQ.out))
    have hb4 := below_step hb3 (Nat.le_refl _) b4
    clear b4 HA1 ZQ hb3 qs
    have HA2 := HA4
    have ZQ2 := ZQ4
    have hb6 := hb4
    clear HA4 ZQ4 hb4
    go_wp2_with (first
      | refine wpList_load_mid rfl 27 (.tmp 9) rfl x 0 rfl (hdCs ⟨s, r, c, z32⟩) _ (Blk.all HA2.out) Tryd.underlying27 rfl (by rw [HL2.out]; exact HIh.out) ?_
      | refine wpList_store_mid rfl 27 (.tmp 8) (.tmp 26) rfl q 0 (hdCs ⟨s, r, c, z32⟩).toArray rfl rfl (by rw [List.size_toArray, HL2.out]; exact Blk.there ZQ2.out (by rw [show (hdCs hd0).length = 66 from rfl]; decide)) (by rw [List.size_toArray, HL2.out]; exact HIh.out) one_hd ?_)
    have hz := Blk.setAll (n := hdCs ⟨s, r, c, z32⟩) ZQ2.out (by rw [HL2.out]; rfl)
    exact bodyPost_ret (v := .agg (hdCs ⟨s, r, c, z32⟩).toArray) (results_cell (t := 8) (ty := 27) (b := q) (cs := hdCs ⟨s, r, c, z32⟩) rfl _ _ _ rfl (Blk.all hz) Tryd.underlying27 rfl (by rw [HL2.out]; exact HIh.out)) rfl ⟨rfl, below_setCells hwq _ _ _ hb6⟩
set_option maxHeartbeats 3200000 in
set_option maxRecDepth 100000 in
theorem rstMake_any (key : ByteArray) (hk : key.size ≤ 1000000) (f : FzR) (hr : f.root.length = 32) (c : Int) (w : World) :
    Calls Tryd.prog 28 #[.string key, .agg (fzCs f).toArray, .int .i64 c] w fun e w' => e = .returned (.agg (stCs (stMk key.data.toList f c)).toArray) ∧ Below w.heap.size w w' := by
  obtain ⟨D, hD⟩ : ∃ D, D = sgn key.data.toList (stB ⟨f, c, z32⟩) (stL ⟨f, c, z32⟩) := ⟨_, rfl⟩
  have HDl : Hid (D.length = 32) := Lib.hid (by rw [hD]; exact sgn_length _ _ _)
  rw [show stMk key.data.toList f c = ⟨f, c, D⟩ by rw [hD]; rfl]
  obtain ⟨p, hp⟩ : ∃ p, p = w.heap.size := ⟨_, rfl⟩
  obtain ⟨W, hW⟩ : ∃ W, W = w.alloc (.cells (fzCs f).toArray 25) := ⟨_, rfl⟩
  have hb1 : Below w.heap.size w W := by rw [hW]; exact below_boxS _ _
  have h1 : Blk p 25 (fzCs f) W := by rw [hW, hp]; exact Blk.alloc _ _ _
  obtain ⟨q, hq⟩ : ∃ q, q = p + 1 := ⟨_, rfl⟩
  obtain ⟨V, hV⟩ : ∃ V, V = W.alloc (.cells (stCs st0).toArray 29) := ⟨_, rfl⟩
  have hWs : W.heap.size = q := by rw [hW, hq, hp]; simp
  have zq : StAt q st0 V := by rw [hV, ← hWs]; exact Blk.alloc _ _ _
  have b2 : Below W.heap.size W V := by rw [hV]; exact below_boxS _ _
  obtain ⟨x, hx⟩ : ∃ x, x = V.heap.size := ⟨_, rfl⟩
  obtain ⟨X, hX⟩ : ∃ X, X = (V.alloc (.cells (stCs st0).toArray 29)).setCells x 0 (stCs ⟨f, c, z32⟩) := ⟨_, rfl⟩
  have hx0 : Blk x 29 (stCs st0) (V.alloc (.cells (stCs st0).toArray 29)) := by rw [hx]; exact Blk.alloc _ _ _
  have HTH : Hid ((V.alloc (.cells (stCs st0).toArray 29)).there x 0 (stCs ⟨f, c, z32⟩).toArray.size) := Lib.hid (by rw [List.size_toArray, (stCs_length hr z32_length)]; exact hx0.there (by rw [show (stCs st0).length = 67 from rfl]; decide))
  have ha1 : StAt x ⟨f, c, z32⟩ X := by rw [hX]; exact hx0.setAll (by rw [(stCs_length hr z32_length)]; rfl)
  have b3 : Below V.heap.size V X := by rw [hX, hx]; exact below_setCells (Nat.le_refl _) _ _ _ (below_boxS _ _)
  have hwq : w.heap.size ≤ q := by omega
  have hqx : q < x := by rw [hx]; exact Blk.lt zq
  have hwx : w.heap.size ≤ x := by omega
  have hb3 := below_step (below_step hb1 (Nat.le_refl _) b2) (Nat.le_refl _) b3
  have ZQ := Lib.hid (Blk.old zq b3 (Blk.lt zq))
  have HRg : Hid (V.rangeAt p 0 (fzCs f)) := Lib.hid (Blk.all (Blk.old h1 b2 h1.lt))
  have HA1 := Lib.hid ha1
  have HI : Hid ((Tryd.prog.info? 25).map (·.size) = some (fzCs f).length) := Lib.hid (by rw [fzCs_length hr]; exact size_fz)
  have HIh : Hid ((Tryd.prog.info? 29).map (·.size) = some 67) := Lib.hid (size_of info_st)
  have HL1 : Hid ((stCs ⟨f, c, z32⟩).length = 67) := Lib.hid (stCs_length hr z32_length)
  have HL2 : Hid ((stCs ⟨f, c, D⟩).length = 67) := Lib.hid (stCs_length hr HDl.out)
  have HB : Hid (Tryd.prog.built 29 [(0, .agg (fzCs f).toArray), (1, .int .i64 c)] = some (stCs ⟨f, c, z32⟩).toArray) := Lib.hid (built_st2 f c hr)
  have HW := Lib.hid hW
  have HV := Lib.hid hV
  have HX := Lib.hid hX
  have HP := Lib.hid hp
  have HQ := Lib.hid hq
  have HXX := Lib.hid hx
  have qs := fun u => rstSays_any ⟨f, c, z32⟩ hr u
  clear hW hV hX hp hq hx h1 zq b2 b3 hb1 hWs hx0 ha1
  by_cases hz : stB ⟨f, c, z32⟩ = true
  · have et : stT ⟨f, c, z32⟩ = tB (stL ⟨f, c, z32⟩) := if_pos hz
    have hlen := stL_length (f := ⟨f, c, z32⟩) hr
    have qo : ∀ u : World, Calls Tryd.prog 61 #[.string key, .string (tB (stL ⟨f, c, z32⟩))] u fun e w' => e = .returned (sumV D) ∧ Below u.heap.size u w' := fun u => by
      rw [hD, sgn, if_pos hz]
      exact rmac_any key key.data.toList rfl (tB (stL ⟨f, c, z32⟩)) (stL ⟨f, c, z32⟩) rfl u (by rw [← Lib.size_eq]; omega) (by omega)
    rw [et, hz] at qs
    clear hz et hD hlen
    go_enter Tryd.func28, Tryd.ntmps28
    go_upto_region 1 with fail
    rw [← HW.out, ← HP.out]
    change Code.wp _ _ _ _ (W.alloc (.cells (stCs st0).toArray 29))
    rw [← HV.out, ← HQ.out]
    clear HW HV
    go_upto_region 2 with (first
      | refine wpList_load_mid rfl 25 (.tmp 4) rfl p 0 rfl (fzCs f) _ HRg.out Tryd.underlying25 rfl HI.out ?_
      | refine wpList_build_at rfl 29 #[(0, .tmp 10), (1, .tmp 11)] rfl (stCs ⟨f, c, z32⟩).toArray [(0, .agg (fzCs f).toArray), (1, .int .i64 c)] (by simp [Act.eval]) HB.out ?_
      | refine wpList_store_mid (w := V.alloc (.cells (stCs st0).toArray 29)) rfl 29 (.tmp 7) (.tmp 12) rfl x 0 (stCs ⟨f, c, z32⟩).toArray (by rw [HXX.out]; rfl) rfl HTH.out (by rw [List.size_toArray, HL1.out]; exact HIh.out) one_st ?_)
    change Code.wp _ _ _ _ ((V.alloc (.cells (stCs st0).toArray 29)).setCells x 0 (stCs ⟨f, c, z32⟩))
    rw [← HX.out, ← HXX.out]
    clear HX HXX HRg HTH
    go_upto_region 3 with (first
      | refine wpList_load_mid rfl 29 (.tmp 7) rfl x 0 rfl (stCs ⟨f, c, z32⟩) _ (Blk.all HA1.out) Tryd.underlying29 rfl (by rw [HL1.out]; exact HIh.out) ?_
      | (go_at_call 43; ((with_reducible refine (qs _).mono ?_); rintro e w4 ⟨rfl, b4⟩)))
    have HA4 := Lib.hid (Blk.old HA1.out b4 (Blk.lt HA1.out))
    have ZQ4 := Lib.hid (Blk.old ZQ.out b4 (Blk.lt ZQ.out))
    have hb4 := below_step hb3 (Nat.le_refl _) b4
    clear b4 HA1 ZQ hb3 qs
    generalize tB (stL ⟨f, c, z32⟩) = SS at *
    go_upto_region 5 with (first
      | (go_at_call 61; ((with_reducible refine (qo _).mono ?_); rintro e w5 ⟨rfl, b5⟩; have HA5 := Lib.hid (Blk.old HA4.out b5 (Blk.lt HA4.out))))
      | refine wpList_store_mid rfl 23 (.tmp 22) (.tmp 21) rfl x 35 (D.map u8V).toArray rfl rfl (by rw [List.size_toArray, List.length_map, HDl.out]; exact Blk.there HA5.out (by rw [HL1.out]; decide)) (sum_info HDl.out) (sum_one D) ?_)
    obtain ⟨W6, hW6⟩ : ∃ u, u = w5.setCells x 35 (D.map u8V) := ⟨_, rfl⟩
    change Code.wp _ _ _ _ (w5.setCells x 35 (D.map u8V))
    rw [← hW6]
    have HA2 : Hid (StAt x ⟨f, c, D⟩ W6) := Lib.hid (by rw [hW6]; exact (StAt.setMac HA5.out hr D (by rw [HDl.out]; exact z32_length.symm)))
    have ZQ2 : Hid (StAt q st0 W6) := Lib.hid (by rw [hW6]; exact Blk.kept (Blk.old ZQ4.out b5 (Blk.lt ZQ4.out)) (only_setCells _ _ _ (Only.refl x w5)) (by omega))
    have hb6 : Below w.heap.size w W6 := by rw [hW6]; exact below_setCells hwx _ _ _ (below_step hb4 (Nat.le_refl _) b5)
    clear hW6 b5 HA5 HA4 ZQ4 hb4 qo
    go_wp2_with (first
      | refine wpList_load_mid rfl 29 (.tmp 7) rfl x 0 rfl (stCs ⟨f, c, D⟩) _ (Blk.all HA2.out) Tryd.underlying29 rfl (by rw [HL2.out]; exact HIh.out) ?_
      | refine wpList_store_mid rfl 29 (.tmp 6) (.tmp 23) rfl q 0 (stCs ⟨f, c, D⟩).toArray rfl rfl (by rw [List.size_toArray, HL2.out]; exact Blk.there ZQ2.out (by rw [show (stCs st0).length = 67 from rfl]; decide)) (by rw [List.size_toArray, HL2.out]; exact HIh.out) one_st ?_)
    have hz := Blk.setAll (n := stCs ⟨f, c, D⟩) ZQ2.out (by rw [HL2.out]; rfl)
    exact bodyPost_ret (v := .agg (stCs ⟨f, c, D⟩).toArray) (results_cell (t := 6) (ty := 29) (b := q) (cs := stCs ⟨f, c, D⟩) rfl _ _ _ rfl (Blk.all hz) Tryd.underlying29 rfl (by rw [HL2.out]; exact HIh.out)) rfl ⟨rfl, below_setCells hwq _ _ _ hb6⟩
  · have et : stT ⟨f, c, z32⟩ = tB [] := if_neg hz
    have eD : D = z32 := by rw [hD]; exact if_neg hz
    rw [et, show stB ⟨f, c, z32⟩ = false by simpa using hz] at qs
    clear hz et hD
    subst eD
    go_enter Tryd.func28, Tryd.ntmps28
    go_upto_region 1 with fail
    rw [← HW.out, ← HP.out]
    change Code.wp _ _ _ _ (W.alloc (.cells (stCs st0).toArray 29))
    rw [← HV.out, ← HQ.out]
    clear HW HV
    go_upto_region 2 with (first
      | refine wpList_load_mid rfl 25 (.tmp 4) rfl p 0 rfl (fzCs f) _ HRg.out Tryd.underlying25 rfl HI.out ?_
      | refine wpList_build_at rfl 29 #[(0, .tmp 10), (1, .tmp 11)] rfl (stCs ⟨f, c, z32⟩).toArray [(0, .agg (fzCs f).toArray), (1, .int .i64 c)] (by simp [Act.eval]) HB.out ?_
      | refine wpList_store_mid (w := V.alloc (.cells (stCs st0).toArray 29)) rfl 29 (.tmp 7) (.tmp 12) rfl x 0 (stCs ⟨f, c, z32⟩).toArray (by rw [HXX.out]; rfl) rfl HTH.out (by rw [List.size_toArray, HL1.out]; exact HIh.out) one_st ?_)
    change Code.wp _ _ _ _ ((V.alloc (.cells (stCs st0).toArray 29)).setCells x 0 (stCs ⟨f, c, z32⟩))
    rw [← HX.out, ← HXX.out]
    clear HX HXX HRg HTH
    go_upto_region 3 with (first
      | refine wpList_load_mid rfl 29 (.tmp 7) rfl x 0 rfl (stCs ⟨f, c, z32⟩) _ (Blk.all HA1.out) Tryd.underlying29 rfl (by rw [HL1.out]; exact HIh.out) ?_
      | (go_at_call 43; ((with_reducible refine (qs _).mono ?_); rintro e w4 ⟨rfl, b4⟩)))
    have HA4 := Lib.hid (Blk.old HA1.out b4 (Blk.lt HA1.out))
    have ZQ4 := Lib.hid (Blk.old ZQ.out b4 (Blk.lt ZQ.out))
    have hb4 := below_step hb3 (Nat.le_refl _) b4
    clear b4 HA1 ZQ hb3 qs
    have HA2 := HA4
    have ZQ2 := ZQ4
    have hb6 := hb4
    clear HA4 ZQ4 hb4
    go_wp2_with (first
      | refine wpList_load_mid rfl 29 (.tmp 7) rfl x 0 rfl (stCs ⟨f, c, z32⟩) _ (Blk.all HA2.out) Tryd.underlying29 rfl (by rw [HL2.out]; exact HIh.out) ?_
      | refine wpList_store_mid rfl 29 (.tmp 6) (.tmp 23) rfl q 0 (stCs ⟨f, c, z32⟩).toArray rfl rfl (by rw [List.size_toArray, HL2.out]; exact Blk.there ZQ2.out (by rw [show (stCs st0).length = 67 from rfl]; decide)) (by rw [List.size_toArray, HL2.out]; exact HIh.out) one_st ?_)
    have hz := Blk.setAll (n := stCs ⟨f, c, z32⟩) ZQ2.out (by rw [HL2.out]; rfl)
    exact bodyPost_ret (v := .agg (stCs ⟨f, c, z32⟩).toArray) (results_cell (t := 6) (ty := 29) (b := q) (cs := stCs ⟨f, c, z32⟩) rfl _ _ _ rfl (Blk.all hz) Tryd.underlying29 rfl (by rw [HL2.out]; exact HIh.out)) rfl ⟨rfl, below_setCells hwq _ _ _ hb6⟩
end Go.Proofs.YtlcljjapeigaeaaDoor
