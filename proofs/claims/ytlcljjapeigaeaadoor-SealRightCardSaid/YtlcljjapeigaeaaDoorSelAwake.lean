/-
  The statements' awake and short (scriniumlaw16).
-/
import Derived.Test.YtlcljjapeigaeaaDoorSelMake
import Derived.Test.YtlcljjapeigaeaaDoorSelRef
import Derived.Test.YtlcljjapeigaeaaDoorMLeafL
namespace Go.Proofs.YtlcljjapeigaeaaDoor
open Go.RowKit

theorem short16_any (s : ByteArray) (n : Nat) (z : Int) (hz : z = (n : Int)) (w : World) :
    Calls Tryd.prog 21 #[.string s, .int .i64 z] w fun e w' => e = .returned (.string (shortB s n)) ∧ w = w' := by
  subst hz
  unfold shortB
  by_cases h : n < s.size
  · rw [if_pos h]
    have hi : (n : Int) < (s.size : Int) := by omega
    have hn : (n : Int) ≤ (s.size : Int) := by omega
    go_enter Tryd.func21, Tryd.ntmps21
    go_wp2
    go_ret
    exact ⟨by simp, rfl⟩
  · rw [if_neg h]
    have hi : ¬ (n : Int) < (s.size : Int) := by omega
    go_enter Tryd.func21, Tryd.ntmps21
    go_wp2
    go_ret
    exact ⟨rfl, rfl⟩
theorem KT.oldB' {w w' : World} (hK : KT w) (h : Below w.heap.size w w') : KT w' := hK.old h
theorem eql_errt (w : World) : (binOp .eql 31 (.int .i64 0) (.int .i64 0)).run Tryd.prog w = .ok (.bool true) w := by go_simp
/-- The example's head. -/
def awH : HdR := hdMk [107, 101, 121] 3 z32 9
set_option maxRecDepth 100000 in
theorem aw_fz : [70, 1, 1, 1, 2, 1, 32] ++ z32 = fzL ⟨1, 2, z32⟩ := by decide +kernel
set_option maxRecDepth 100000 in
theorem aw_fzT : fzT ⟨1, 2, z32⟩ = tB (fzL ⟨1, 2, z32⟩) := if_pos (by decide)
set_option maxRecDepth 100000 in
theorem aw_fzZ : fzZ ⟨1, 2, z32⟩ = 0 := if_pos (by decide)
set_option maxRecDepth 100000 in
theorem aw_b : hdB ⟨3, z32, 9, z32⟩ = true := by decide
theorem sgn_pos {K : List UInt8} {b : Bool} {l : List UInt8} (h : b = true) : sgn K b l = Mac.mac K l := if_pos h
theorem aw_l : hdL awH = hdL ⟨3, z32, 9, z32⟩ := by unfold awH hdMk; exact hdL_mac _ _ _ _
theorem aw_mac : awH.mac = Mac.mac [107, 101, 121] (hdL ⟨3, z32, 9, z32⟩) := by
  unfold awH hdMk
  exact sgn_pos aw_b
set_option maxRecDepth 100000 in
theorem aw_ne : (Mac.mac [107, 101, 121] (hdL ⟨3, z32, 10, awH.mac⟩) == Mac.mac [107, 101, 121] (hdL ⟨3, z32, 9, z32⟩)) = false := by
  rw [show hdL ⟨3, z32, 10, awH.mac⟩ = hdL ⟨3, z32, 10, z32⟩ from rfl]
  kernel_rfl
theorem aw_bb : hdB awH = true := by unfold awH hdMk; rw [hdB_mac]; exact aw_b
theorem aw_r0 : (hdB awH && decide (Mac.mac [107, 101, 121] (hdL awH) = awH.mac)) = true := by
  rw [aw_bb, aw_l, ← aw_mac, decide_eq_true rfl]; rfl
theorem aw_r1 : (hdB ⟨3, z32, 10, awH.mac⟩ && decide (Mac.mac [107, 101, 121] (hdL ⟨3, z32, 10, awH.mac⟩) = awH.mac)) = false := by
  have h := aw_ne
  rw [beq_eq_false_iff_ne, ← aw_mac] at h
  rw [decide_eq_false h, Bool.and_false]
set_option maxHeartbeats 6400000 in
set_option maxRecDepth 100000 in
theorem awake16_any (w : World) (hK : KT w) :
    Calls Tryd.prog 9 #[] w fun e w' => e = .returned (.bool true) ∧ Below w.heap.size w w' := by
  obtain ⟨h0, hh0⟩ : ∃ h, h = awH := ⟨_, rfl⟩
  obtain ⟨h1, hh1⟩ : ∃ h : HdR, h = ⟨3, z32, 10, h0.mac⟩ := ⟨_, rfl⟩
  have hm : h0.mac.length = 32 := by rw [hh0, aw_mac]; exact Mac.mac_length _ _
  have HM := Lib.hid hm
  have HM1 : Hid (h1.mac.length = 32) := Lib.hid (by rw [hh1]; exact hm)
  have HQ1 : Hid (h1.root.length = 32) := Lib.hid (by rw [hh1]; exact z32_length)
  have HQ0 : Hid (h0.root.length = 32) := Lib.hid (by rw [hh0]; exact z32_length)
  have HLa : Hid ((hdCs h0).toArray.size = 66) := Lib.hid (by rw [List.size_toArray]; exact hdCs_length HQ0.out hm)
  have HFZ : Hid (∀ u : World, Calls Tryd.prog 10 #[.agg (fzCs ⟨1, 2, z32⟩).toArray] u fun e w' => e = .returned (.tuple #[.string (tB (fzL ⟨1, 2, z32⟩)), .int .i64 0]) ∧ Below u.heap.size u w') := Lib.hid fun u => by
    have := fzBytes_any ⟨1, 2, z32⟩ z32_length u
    rw [aw_fzT, aw_fzZ] at this
    exact this
  have HHD : Hid (∀ u : World, KT u → Calls Tryd.prog 25 #[.string ⟨#[107, 101, 121]⟩, .int .i64 3, .agg (z32.map u8V).toArray, .int .i64 9] u fun e w' => e = .returned (.agg (hdCs h0).toArray) ∧ Below u.heap.size u w') := Lib.hid fun u hu => by
    rw [hh0]
    exact hdMake_any ⟨#[107, 101, 121]⟩ (by decide) 3 z32 z32_length 9 u hu
  have HR0' : ∀ u : World, KT u → Calls Tryd.prog 29 #[.string ⟨#[107, 101, 121]⟩, .agg (hdCs h0).toArray] u fun e w' => e = .returned (.bool true) ∧ Below u.heap.size u w' := fun u hu => by
    have := hdRight_any ⟨#[107, 101, 121]⟩ (by decide) h0 HQ0.out hm u hu
    rw [hh0] at this ⊢
    rw [show (⟨#[107, 101, 121]⟩ : ByteArray).data.toList = [107, 101, 121] from rfl, aw_r0] at this
    exact this
  have HR1' : ∀ u : World, KT u → Calls Tryd.prog 29 #[.string ⟨#[107, 101, 121]⟩, .agg (hdCs h1).toArray] u fun e w' => e = .returned (.bool false) ∧ Below u.heap.size u w' := fun u hu => by
    have := hdRight_any ⟨#[107, 101, 121]⟩ (by decide) h1 HQ1.out HM1.out u hu
    rw [hh1, hh0] at this ⊢
    rw [show (⟨#[107, 101, 121]⟩ : ByteArray).data.toList = [107, 101, 121] from rfl, aw_r1] at this
    exact this
  have AW1 := Lib.hid aw_fz
  have HB1 : Hid (Tryd.prog.built 25 [(0, .int .i64 1), (1, .int .i64 2)] = some (fzCs ⟨1, 2, z32⟩).toArray) := Lib.hid (by kernel_rfl)
  have HB2 : Hid (Tryd.prog.built 23 [] = some (z32.map u8V).toArray) := Lib.hid (by kernel_rfl)
  have HIh : Hid ((Tryd.prog.info? 27).map (·.size) = some 66) := Lib.hid (size_of info_hd)
  have HL0 : Hid ((hdCs hd0).length = 66) := Lib.hid rfl
  have HR0a := Lib.hid HR0'
  have HR1a := Lib.hid HR1'
  have HK := Lib.hid hK
  have HE1 : Hid (∀ u, HdAt u ⟨3, z32, 10, h0.mac⟩ = HdAt u h1) := Lib.hid fun u => by rw [hh1]
  have HE0 : Hid (h0 = ⟨3, z32, 9, h0.mac⟩) := Lib.hid (by rw [hh0]; rfl)
  clear hh1 hh0 hm HR0' HR1' hK
  go_enter Tryd.func9, Tryd.ntmps9
  go_upto_region 2 with (first
    | refine wpList_build_at rfl 25 #[(0, .const (.int .i64 1)), (1, .const (.int .i64 2))] rfl (fzCs ⟨1, 2, z32⟩).toArray [(0, .int .i64 1), (1, .int .i64 2)] (by simp [Act.eval]) HB1.out ?_
    | (go_at_call 10; (refine (HFZ.out _).mono ?_; rintro e w1 ⟨rfl, b1⟩)))
  generalize hS : tB (fzL ⟨1, 2, z32⟩) = S
  go_upto_region 3 with (first
    | refine wpList_build_at rfl 23 #[] rfl (z32.map u8V).toArray [] rfl HB2.out ?_
    | (go_at_call 25; (refine (HHD.out _ (HK.out.old b1)).mono ?_; rintro e w2 ⟨rfl, b2⟩))
    | refine wpList_store_mid (w := w2.alloc (.cells (hdCs hd0).toArray 27)) rfl 27 (.tmp 3) (.tmp 11) rfl w2.heap.size 0 (hdCs h0).toArray rfl rfl (by rw [HLa.out]; exact Blk.there (Blk.alloc w2 27 (hdCs hd0)) (by rw [HL0.out]; decide)) (by rw [HLa.out]; exact HIh.out) one_hd ?_)
  obtain ⟨x, hx⟩ : ∃ x, x = w2.heap.size := ⟨_, rfl⟩
  obtain ⟨W3, hW3⟩ : ∃ u, u = (w2.alloc (.cells (hdCs hd0).toArray 27)).setCells w2.heap.size 0 (hdCs h0) := ⟨_, rfl⟩
  change Code.wp _ _ _ _ ((w2.alloc (.cells (hdCs hd0).toArray 27)).setCells w2.heap.size 0 (hdCs h0))
  rw [← hW3, ← hx]
  have b3 : Below w2.heap.size w2 W3 := by rw [hW3]; exact below_setCells (Nat.le_refl _) _ _ _ (below_boxS _ _)
  have hb3 := below_step (below_step b1 (Nat.le_refl _) b2) (Nat.le_refl _) b3
  have HX3 : Blk x 27 (hdCs h0) W3 := by rw [hW3, hx]; exact Blk.setAll (Blk.alloc w2 27 (hdCs hd0)) (by rw [HL0.out, ← List.size_toArray]; exact HLa.out)
  have hwx : w.heap.size ≤ x := by rw [hx]; exact (below_step b1 (Nat.le_refl _) b2).size
  clear hW3 hx b1 b2 b3 HFZ HHD HB1 HB2
  obtain ⟨y, hy⟩ : ∃ y, y = W3.heap.size := ⟨_, rfl⟩
  go_upto_region 4 with (first
    | refine wpList_load_mid rfl 27 (.tmp 3) rfl x 0 rfl (hdCs h0) _ (Blk.all HX3) Tryd.underlying27 rfl (by rw [← List.size_toArray, HLa.out]; exact HIh.out) ?_
    | refine wpList_store_mid (w := W3.alloc (.cells (hdCs hd0).toArray 27)) rfl 27 (.tmp 4) (.tmp 12) rfl W3.heap.size 0 (hdCs h0).toArray rfl rfl (by rw [HLa.out]; exact Blk.there (Blk.alloc W3 27 (hdCs hd0)) (by rw [HL0.out]; decide)) (by rw [HLa.out]; exact HIh.out) one_hd ?_)
  obtain ⟨W4, hW4⟩ : ∃ u, u = (W3.alloc (.cells (hdCs hd0).toArray 27)).setCells W3.heap.size 0 (hdCs h0) := ⟨_, rfl⟩
  change Code.wp _ _ _ _ ((W3.alloc (.cells (hdCs hd0).toArray 27)).setCells W3.heap.size 0 (hdCs h0))
  rw [← hW4, ← hy]
  have b4 : Below W3.heap.size W3 W4 := by rw [hW4]; exact below_setCells (Nat.le_refl _) _ _ _ (below_boxS _ _)
  have hb4 := below_step hb3 (Nat.le_refl _) b4
  have HX4 := HX3.old b4 HX3.lt
  have HY4 : Blk y 27 (hdCs h0) W4 := by rw [hW4, hy]; exact Blk.setAll (Blk.alloc W3 27 (hdCs hd0)) (by rw [HL0.out, ← List.size_toArray]; exact HLa.out)
  have hxy : x < y := by rw [hy]; exact HX3.lt
  clear hW4 hy b4 hb3 HX3
  have hr0 := HQ0.out
  have c33 := HdAt.clock (show HdAt y h0 W4 from HY4) hr0
  have f33 := HY4.fz 33
  clear hr0
  go_upto_region 5 with fail
  obtain ⟨W5, hW5⟩ : ∃ u, u = W4.setCell ⟨y, 33, none⟩ (.int .i64 10) := ⟨_, rfl⟩
  rw [← hW5]
  have oy : Only y W4 W5 := by rw [hW5]; exact (Only.refl y W4).setCell 33 _
  have HX := HX4.kept oy (by omega)
  have HY : Blk y 27 (hdCs h1) W5 := by
    have := HdAt.setClock (show HdAt y h0 W4 from HY4) HQ0.out 10
    rw [← hW5] at this
    have e2 : (⟨h0.size, h0.root, 10, h0.mac⟩ : HdR) = ⟨3, z32, 10, h0.mac⟩ := by rw [HE0.out]
    rw [e2, HE1.out] at this
    exact this
  have hb5 := hb4.trans (oy.below (B := w.heap.size) (by omega) hb4.size)
  have HR0 : Hid (∀ u : World, Below W5.heap.size W5 u → Calls Tryd.prog 29 #[.string ⟨#[107, 101, 121]⟩, .agg (hdCs h0).toArray] u fun e w' => e = .returned (.bool true) ∧ Below u.heap.size u w') := Lib.hid fun u hu => HR0a.out u ((HK.out.oldB' hb5).old hu)
  have HR1 : Hid (∀ u : World, Below W5.heap.size W5 u → Calls Tryd.prog 29 #[.string ⟨#[107, 101, 121]⟩, .agg (hdCs h1).toArray] u fun e w' => e = .returned (.bool false) ∧ Below u.heap.size u w') := Lib.hid fun u hu => HR1a.out u ((HK.out.oldB' hb5).old hu)
  clear hW5 oy hb4 HX4 HY4 c33 f33 HR0a HR1a HK HLa HE0 HE1
  subst hS
  try simp only [Act.put]
  refine wp_region_tab0 [RT.is (.string (tB (fzL ⟨1, 2, z32⟩))), RT.zeros 32, RT.is (.string (tB z32)), RT.is (.string (tB (fzL ⟨1, 2, z32⟩))), RT.is (.bool true), RT.is (.bool true), RT.is (.int .i64 0), RT.is (.bool true), RT.is (.bool true), RT.is (.bool true), RT.is (.agg (hdCs h0).toArray), RT.is (.bool true), RT.is (.bool true), RT.is (.bool true), RT.is (.agg (hdCs h1).toArray), RT.is (.bool false), RT.is (.bool true), RT.is (.bool true), RT.is (.bool true)] (by kernel_rfl) (by kernel_rfl) (by kernel_rfl) ⟨?_, ?_, ?_, ?_, ?_, ?_, ?_, ?_, ?_, ?_, ?_, ?_, ?_, ?_, ?_, ?_, ?_, ?_, ?_, trivial⟩ ?_
  · intro ac w' hF hL hP hU K hK
    have hB : Below _ _ _ := hL
    have e1 : ac.eval (.tmp 1) = .string (tB (fzL ⟨1, 2, z32⟩)) := hF.at 1 (by kernel_rfl)
    exact rop_move _ rfl e1 (wanted_none rfl) (hK _ _ (le8_refl _) rfl)
  · intro ac w' hF hL hP hU K hK
    have hB : Below _ _ _ := hL
    exact rop_make _ _ rfl 32 (by decide) rfl rfl (wanted_none rfl) (fun v w2 hb hz => hK v w2 hb hz)
  · intro ac w' hF hL hP hU K hK
    have hB : Below _ _ _ := hL
    have e15 : (RT.zeros 32).p (ac.eval (.tmp 15)) w' := hP 1 (by kernel_rfl)
    exact rop_zeros_str _ rfl 32 e15 (wanted_none rfl) (hK _ _ (le8_refl _) rfl)
  · intro ac w' hF hL hP hU K hK
    have hB : Below _ _ _ := hL
    have e16 : ac.eval (.tmp 16) = .string (tB z32) := hP 2 (by kernel_rfl)
    exact rop_bin _ _ _ _ _ rfl rfl e16 (guard_str _ _ _ _ _ _ w') ((add_tB [70, 1, 1, 1, 2, 1, 32] z32 (by decide) w').trans (by rw [AW1.out])) (wanted_none rfl) (hK _ _ (le8_refl _) rfl)
  · intro ac w' hF hL hP hU K hK
    have hB : Below _ _ _ := hL
    have e14 : ac.eval (.tmp 14) = .string (tB (fzL ⟨1, 2, z32⟩)) := hP 0 (by kernel_rfl)
    have e17 : ac.eval (.tmp 17) = .string (tB (fzL ⟨1, 2, z32⟩)) := hP 3 (by kernel_rfl)
    exact rop_bin _ _ _ _ _ rfl e14 e17 (guard_str _ _ _ _ _ _ w') (eql_str_t _ _ rfl w') (wanted_none rfl) (hK _ _ (le8_refl _) rfl)
  · intro ac w' hF hL hP hU K hK
    have hB : Below _ _ _ := hL
    have e18 : ac.eval (.tmp 18) = .bool true := hP 4 (by kernel_rfl)
    exact rop_move _ rfl e18 (wanted_none rfl) (hK _ _ (le8_refl _) rfl)
  · intro ac w' hF hL hP hU K hK
    have hB : Below _ _ _ := hL
    have e2 : ac.eval (.tmp 2) = .int .i64 0 := hF.at 2 (by kernel_rfl)
    have e19 : ac.eval (.tmp 19) = .bool true := hP 5 (by kernel_rfl)
    exact rop_move _ rfl e2 (wanted_of (j := 5) (b := true) rfl rfl e19) (hK _ _ (le8_refl _) rfl)
  · intro ac w' hF hL hP hU K hK
    have hB : Below _ _ _ := hL
    have e20 : ac.eval (.tmp 20) = .int .i64 0 := hP 6 (by kernel_rfl)
    have e19 : ac.eval (.tmp 19) = .bool true := hP 5 (by kernel_rfl)
    exact rop_bin _ _ _ _ _ rfl e20 rfl (guard_int _ _ _ _ _ _ _ w') (eql_errt w') (wanted_of (j := 5) (b := true) rfl rfl e19) (hK _ _ (le8_refl _) rfl)
  · intro ac w' hF hL hP hU K hK
    have hB : Below _ _ _ := hL
    have e19 : ac.eval (.tmp 19) = .bool true := hP 5 (by kernel_rfl)
    have e21 : ac.eval (.tmp 21) = .bool true := hP 7 (by kernel_rfl)
    exact rop_pick _ _ _ rfl true e19 (by simpa using e21) (wanted_none rfl) (hK _ _ (le8_refl _) rfl)
  · intro ac w' hF hL hP hU K hK
    have hB : Below _ _ _ := hL
    have e22 : ac.eval (.tmp 22) = .bool true := hP 8 (by kernel_rfl)
    exact rop_move _ rfl e22 (wanted_none rfl) (hK _ _ (le8_refl _) rfl)
  · intro ac w' hF hL hP hU K hK
    have hB : Below _ _ _ := hL
    have e3 : ac.eval (.tmp 3) = .pointer (some ⟨x, 0, none⟩) := hF.at 3 (by kernel_rfl)
    have e23 : ac.eval (.tmp 23) = .bool true := hP 9 (by kernel_rfl)
    exact rop_ld _ _ rfl e3 (load_hdAt (below_range' hB HX.lt (Blk.all HX)) HQ0.out HM.out) (wanted_of (j := 9) (b := true) rfl rfl e23) (hK _ _ (le8_refl _) rfl)
  · intro ac w' hF hL hP hU K hK
    have hB : Below _ _ _ := hL
    have e24 : ac.eval (.tmp 24) = .agg (hdCs h0).toArray := hP 10 (by kernel_rfl)
    have e23 : ac.eval (.tmp 23) = .bool true := hP 9 (by kernel_rfl)
    refine rop_call 29 _ _ rfl #[.string { data := #[107, 101, 121] }, .agg (hdCs h0).toArray] (by simp [e24, eval_const]) (by kernel_rfl) (wanted_of (j := 9) (b := true) rfl rfl e23) ?_
    refine (HR0.out w' hB).mono ?_
    rintro e w2 ⟨rfl, hb⟩
    exact ⟨_, rfl, hK _ _ hb rfl⟩
  · intro ac w' hF hL hP hU K hK
    have hB : Below _ _ _ := hL
    have e23 : ac.eval (.tmp 23) = .bool true := hP 9 (by kernel_rfl)
    have e25 : ac.eval (.tmp 25) = .bool true := hP 11 (by kernel_rfl)
    exact rop_pick _ _ _ rfl true e23 (by simpa using e25) (wanted_none rfl) (hK _ _ (le8_refl _) rfl)
  · intro ac w' hF hL hP hU K hK
    have hB : Below _ _ _ := hL
    have e26 : ac.eval (.tmp 26) = .bool true := hP 12 (by kernel_rfl)
    exact rop_move _ rfl e26 (wanted_none rfl) (hK _ _ (le8_refl _) rfl)
  · intro ac w' hF hL hP hU K hK
    have hB : Below _ _ _ := hL
    have e4 : ac.eval (.tmp 4) = .pointer (some ⟨y, 0, none⟩) := hF.at 4 (by kernel_rfl)
    have e27 : ac.eval (.tmp 27) = .bool true := hP 13 (by kernel_rfl)
    exact rop_ld _ _ rfl e4 (load_hdAt (below_range' hB HY.lt (Blk.all HY)) HQ1.out HM1.out) (wanted_of (j := 13) (b := true) rfl rfl e27) (hK _ _ (le8_refl _) rfl)
  · intro ac w' hF hL hP hU K hK
    have hB : Below _ _ _ := hL
    have e28 : ac.eval (.tmp 28) = .agg (hdCs h1).toArray := hP 14 (by kernel_rfl)
    have e27 : ac.eval (.tmp 27) = .bool true := hP 13 (by kernel_rfl)
    refine rop_call 29 _ _ rfl #[.string { data := #[107, 101, 121] }, .agg (hdCs h1).toArray] (by simp [e28, eval_const]) (by kernel_rfl) (wanted_of (j := 13) (b := true) rfl rfl e27) ?_
    refine (HR1.out w' hB).mono ?_
    rintro e w2 ⟨rfl, hb⟩
    exact ⟨_, rfl, hK _ _ hb rfl⟩
  · intro ac w' hF hL hP hU K hK
    have hB : Below _ _ _ := hL
    have e29 : ac.eval (.tmp 29) = .bool false := hP 15 (by kernel_rfl)
    have e27 : ac.eval (.tmp 27) = .bool true := hP 13 (by kernel_rfl)
    exact rop_not _ _ rfl false e29 (wanted_of (j := 13) (b := true) rfl rfl e27) (hK _ _ (le8_refl _) rfl)
  · intro ac w' hF hL hP hU K hK
    have hB : Below _ _ _ := hL
    have e27 : ac.eval (.tmp 27) = .bool true := hP 13 (by kernel_rfl)
    have e30 : ac.eval (.tmp 30) = .bool true := hP 16 (by kernel_rfl)
    exact rop_pick _ _ _ rfl true e27 (by simpa using e30) (wanted_none rfl) (hK _ _ (le8_refl _) rfl)
  · intro ac w' hF hL hP hU K hK
    have hB : Below _ _ _ := hL
    have e31 : ac.eval (.tmp 31) = .bool true := hP 17 (by kernel_rfl)
    exact rop_assign _ rfl e31 (wanted_none rfl) (hK _ _ (le8_refl _) rfl)
  · intro ac w' hF hB hT
    have e0 : ac.eval (.tmp 0) = .bool true := hT 18 (by decide)
    rw [hF.setsG [14, 15, 16, 17, 18, 19, 20, 21, 22, 23, 24, 25, 26, 27, 28, 29, 30, 31, 0] (by kernel_rfl)]
    simp only [List.foldl_cons, List.foldl_nil, List.setIfInBounds_toArray, List.set_cons_succ, List.set_cons_zero, e0]
    generalize ac.eval (.tmp 14) = u14
    generalize ac.eval (.tmp 15) = u15
    generalize ac.eval (.tmp 16) = u16
    generalize ac.eval (.tmp 17) = u17
    generalize ac.eval (.tmp 18) = u18
    generalize ac.eval (.tmp 19) = u19
    generalize ac.eval (.tmp 20) = u20
    generalize ac.eval (.tmp 21) = u21
    generalize ac.eval (.tmp 22) = u22
    generalize ac.eval (.tmp 23) = u23
    generalize ac.eval (.tmp 24) = u24
    generalize ac.eval (.tmp 25) = u25
    generalize ac.eval (.tmp 26) = u26
    generalize ac.eval (.tmp 27) = u27
    generalize ac.eval (.tmp 28) = u28
    generalize ac.eval (.tmp 29) = u29
    generalize ac.eval (.tmp 30) = u30
    generalize ac.eval (.tmp 31) = u31
    clear e0 hT hF ac
    have hbw := below_step hb5 (Nat.le_refl _) hB
    clear hB
    go_wp2
    go_ret
    exact ⟨rfl, hbw⟩
end Go.Proofs.YtlcljjapeigaeaaDoor
