/-
  SealBytes: freezes, heads and stones are written as the document says, and leaves made; what was written is read again. For every freeze, head and stone; the numbers K of the package sha are as the program's own start lays them.
-/
import Derived.Test.YtlcljjapeigaeaaDoorSelLaw
namespace Go.Proofs.YtlcljjapeigaeaaDoor.sealBytes
open Go.ChangeShapes Go.WideShapes Go.ChangeAt Go.RowKit

theorem eql_err_z (z : Int) (h : z = 0) (w : World) : (binOp .eql 31 (.int .i64 z) (.int .i64 0)).run Tryd.prog w = .ok (.bool true) w := by subst h; exact eql_err_t 0 w
theorem neq_eq0 (z : Int) (h : z = 0) (w : World) : (binOp .neq 31 (.int .i64 z) (.int .i64 0)).run Tryd.prog w = .ok (.bool false) w := by subst h; exact neq_err0S w
theorem neq_eq1 (z : Int) (h : z = 1) (w : World) : (binOp .neq 31 (.int .i64 z) (.int .i64 0)).run Tryd.prog w = .ok (.bool true) w := by subst h; exact neq_err1S w
theorem neq_sum_s (D : List UInt8) (h : D.length = 32) (w : World) : (binOp .neq 23 (sumV D) (sumV D)).run Tryd.prog w = .ok (.bool false) w := by
  rw [neq_sum D D h h, decide_eq_true rfl]; rfl
set_option maxHeartbeats 12800000 in
set_option maxRecDepth 100000 in
theorem walk {w : World} (hK : KT w) (f : FzR) (hf : FzOk f) (h : HdR) (hh : HdOk h) (t : StR) (ht : StOk t) :
    Calls Tryd.prog 3 #[.agg (fzCs f).toArray, .agg (hdCs h).toArray, .agg (stCs t).toArray] w fun e w' => e = .returned (.bool true) ∧ Below w.heap.size w w' := by
  have l1 := fzL_length hf.root
  have l2 := hdL_length hh.root
  have l3 := stL_length ht.fz.root
  have l4 := hashL_length hh.mac
  have l5 := hashL_length ht.mac
  have HFB := Lib.hid fun u => fzBytes_any f hf.root u
  have HHB := Lib.hid fun u => hdBytes_any h hh.root hh.mac u
  have HSB := Lib.hid fun u => stBytes_any t ht.fz.root ht.mac u
  have HFR := Lib.hid fun u => rfzBytes_any f hf.root u
  have HHR := Lib.hid fun u => rhdBytes_any h hh.root hh.mac u
  have HSR := Lib.hid fun u => rstBytes_any t ht.fz.root ht.mac u
  have HLP := Lib.hid fun u hu => fzLeaf_any f hf.root u hu
  have HLR := Lib.hid fun u => rfzLeaf_any f hf.root u
  have HDl : Hid ((fzLf f).length = 32) := Lib.hid (Tree.leafH_length _)
  have sf : (fzT f).size ≤ 1000 := by
    unfold fzT
    split
    · rw [tB_size]; omega
    · rw [tB_size]; decide
  have sh : (hdG h).size ≤ 1000 := by
    unfold hdG
    split
    · rw [tB_size, hdF, List.length_append]; omega
    · rw [tB_size]; decide
  have ss : (stG t).size ≤ 1000 := by
    unfold stG
    split
    · rw [tB_size, stF, List.length_append]; omega
    · rw [tB_size]; decide
  have HAW := Lib.hid fun u hu => awake16_any u hu
  have HLf : Hid ((fzCs f).length = 34) := Lib.hid (fzCs_length hf.root)
  have HLh : Hid ((hdCs h).length = 66) := Lib.hid (hdCs_length hh.root hh.mac)
  have HLt : Hid ((stCs t).length = 67) := Lib.hid (stCs_length ht.fz.root ht.mac)
  obtain ⟨Gfz, hGfz⟩ : ∃ G, G = (fzRd (fzT f).data.toList).getD fz0 := ⟨_, rfl⟩
  obtain ⟨Zfz, hZfz⟩ : ∃ Z, Z = rdZ (fzRd (fzT f).data.toList) := ⟨_, rfl⟩
  have HRfz : Hid (∀ u : World, Calls Tryd.prog 18 #[.string (fzT f)] u fun e w' => e = .returned (.tuple #[.agg (fzCs Gfz).toArray, .int .i64 Zfz]) ∧ Below u.heap.size u w') := Lib.hid fun u => by rw [hGfz, hZfz]; exact fzRead_any _ u (by omega)
  have hokfz : FzOk Gfz := by rw [hGfz]; exact fzRd_ok _
  have HAfz : Hid ((fzCs Gfz).toArray.size = 34) := Lib.hid (by rw [List.size_toArray]; exact fzCs_length hokfz.root)
  have HOKfz := Lib.hid hokfz
  have HGfz : Hid (fzB f = true → Gfz = f ∧ Zfz = 0) := Lib.hid fun z => by
    have e : fzRd (fzT f).data.toList = some f := by
      rw [show fzT f = tB (fzL f) from if_pos z]
      exact (fzRd_iff (fzL f) f).2 ⟨z, hf.root, rfl⟩
    rw [hGfz, hZfz, e]
    exact ⟨rfl, rfl⟩
  clear hGfz hZfz hokfz
  obtain ⟨Ghd, hGhd⟩ : ∃ G, G = (hdRd (hdG h).data.toList).getD hd0 := ⟨_, rfl⟩
  obtain ⟨Zhd, hZhd⟩ : ∃ Z, Z = rdZ (hdRd (hdG h).data.toList) := ⟨_, rfl⟩
  have HRhd : Hid (∀ u : World, Calls Tryd.prog 19 #[.string (hdG h)] u fun e w' => e = .returned (.tuple #[.agg (hdCs Ghd).toArray, .int .i64 Zhd]) ∧ Below u.heap.size u w') := Lib.hid fun u => by rw [hGhd, hZhd]; exact hdRead_any _ u (by omega)
  have hokhd : HdOk Ghd := by rw [hGhd]; exact hdRd_ok _
  have HAhd : Hid ((hdCs Ghd).toArray.size = 66) := Lib.hid (by rw [List.size_toArray]; exact hdCs_length hokhd.root hokhd.mac)
  have HOKhd := Lib.hid hokhd
  have HGhd : Hid (hdB h = true → Ghd = h ∧ Zhd = 0) := Lib.hid fun z => by
    have e : hdRd (hdG h).data.toList = some h := by
      rw [show hdG h = tB (hdF h) from if_pos z]
      exact (hdRd_iff (hdF h) h).2 ⟨z, hh.root, hh.mac, rfl⟩
    rw [hGhd, hZhd, e]
    exact ⟨rfl, rfl⟩
  clear hGhd hZhd hokhd
  obtain ⟨Gst, hGst⟩ : ∃ G, G = (stRd (stG t).data.toList).getD st0 := ⟨_, rfl⟩
  obtain ⟨Zst, hZst⟩ : ∃ Z, Z = rdZ (stRd (stG t).data.toList) := ⟨_, rfl⟩
  have HRst : Hid (∀ u : World, Calls Tryd.prog 20 #[.string (stG t)] u fun e w' => e = .returned (.tuple #[.agg (stCs Gst).toArray, .int .i64 Zst]) ∧ Below u.heap.size u w') := Lib.hid fun u => by rw [hGst, hZst]; exact stRead_any _ u (by omega)
  have hokst : StOk Gst := by rw [hGst]; exact stRd_ok _
  have HAst : Hid ((stCs Gst).toArray.size = 67) := Lib.hid (by rw [List.size_toArray]; exact stCs_length hokst.fz.root hokst.mac)
  have HOKst := Lib.hid hokst
  have HGst : Hid (stB t = true → Gst = t ∧ Zst = 0) := Lib.hid fun z => by
    have e : stRd (stG t).data.toList = some t := by
      rw [show stG t = tB (stF t) from if_pos z]
      exact (stRd_iff (stF t) t).2 ⟨z, ht.fz.root, ht.mac, rfl⟩
    rw [hGst, hZst, e]
    exact ⟨rfl, rfl⟩
  clear hGst hZst hokst
  have HIfz : Hid ((Tryd.prog.info? 25).map (·.size) = some 34) := Lib.hid (size_of info_fz)
  have HZfz : Hid ((fzCs fz0).length = 34) := Lib.hid rfl
  have HIhd : Hid ((Tryd.prog.info? 27).map (·.size) = some 66) := Lib.hid (size_of info_hd)
  have HZhd : Hid ((hdCs hd0).length = 66) := Lib.hid rfl
  have HIst : Hid ((Tryd.prog.info? 29).map (·.size) = some 67) := Lib.hid (size_of info_st)
  have HZst : Hid ((stCs st0).length = 67) := Lib.hid rfl
  have OKf := Lib.hid hf
  have OKh := Lib.hid hh
  have OKt := Lib.hid ht
  clear l1 l2 l3 l4 l5 sf sh ss hf hh ht
  obtain ⟨p, hp⟩ : ∃ p, p = w.heap.size := ⟨_, rfl⟩
  obtain ⟨q, hq⟩ : ∃ q, q = p + 1 := ⟨_, rfl⟩
  obtain ⟨r, hr⟩ : ∃ r, r = q + 1 := ⟨_, rfl⟩
  obtain ⟨A1, hA1⟩ : ∃ W, W = w.alloc (.cells (fzCs f).toArray 25) := ⟨_, rfl⟩
  obtain ⟨A2, hA2⟩ : ∃ W, W = A1.alloc (.cells (hdCs h).toArray 27) := ⟨_, rfl⟩
  obtain ⟨A3, hA3⟩ : ∃ W, W = A2.alloc (.cells (stCs t).toArray 29) := ⟨_, rfl⟩
  have s1 : A1.heap.size = q := by rw [hA1, hq, hp]; simp
  have s2 : A2.heap.size = r := by rw [hA2, hr, ← s1]; simp
  have a1 : Below w.heap.size w A1 := by rw [hA1]; exact below_boxS _ _
  have a2 : Below A1.heap.size A1 A2 := by rw [hA2]; exact below_boxS _ _
  have a3 : Below A2.heap.size A2 A3 := by rw [hA3]; exact below_boxS _ _
  have HBf : Blk p 25 (fzCs f) A1 := by rw [hA1, hp]; exact Blk.alloc _ _ _
  replace HBf := (HBf.old a2 HBf.lt).old a3 (Nat.lt_of_lt_of_le HBf.lt a2.size)
  have HBh : Blk q 27 (hdCs h) A2 := by rw [hA2, ← s1]; exact Blk.alloc _ _ _
  replace HBh := HBh.old a3 HBh.lt
  have HBt : Blk r 29 (stCs t) A3 := by rw [hA3, ← s2]; exact Blk.alloc _ _ _
  have hb := below_step (below_step a1 (Nat.le_refl _) a2) (Nat.le_refl _) a3
  have H1 := Lib.hid hA1
  have H2 := Lib.hid hA2
  have H3 := Lib.hid hA3
  have HP := Lib.hid hp
  have HQ := Lib.hid hq
  have HR := Lib.hid hr
  have HKA := Lib.hid hK
  clear hA1 hA2 hA3 hp hq hr s1 s2 a1 a2 a3 hK
  go_enter Tryd.func3, Tryd.ntmps3
  go_upto_region 1 with fail
  rw [← H1.out, ← HP.out, ← H2.out, ← H3.out, ← HQ.out, ← HR.out]
  clear H1 H2 H3 HP HQ HR
  go_upto_region 2 with (first
    | (go_at_call 9; (refine (HAW.out _ (HKA.out.old hb)).mono ?_; rintro e w1 ⟨rfl, b1⟩)))
  replace HBf := Blk.old HBf b1 (Blk.lt HBf)
  replace HBh := Blk.old HBh b1 (Blk.lt HBh)
  replace HBt := Blk.old HBt b1 (Blk.lt HBt)
  replace hb := below_step hb (Nat.le_refl _) b1
  clear b1
  clear HAW
  go_upto_region 3 with (first
    | refine wpList_load_mid rfl 25 (.tmp 3) rfl p 0 rfl (fzCs f) _ (Blk.all HBf) Tryd.underlying25 rfl (by rw [HLf.out]; exact HIfz.out) ?_
    | (go_at_call 10; (refine (HFB.out _).mono ?_; rintro e w2 ⟨rfl, b2⟩)))
  replace HBf := Blk.old HBf b2 (Blk.lt HBf)
  replace HBh := Blk.old HBh b2 (Blk.lt HBh)
  replace HBt := Blk.old HBt b2 (Blk.lt HBt)
  replace hb := below_step hb (Nat.le_refl _) b2
  clear b2
  go_upto_region 4 with (first
    | refine wpList_load_mid rfl 25 (.tmp 3) rfl p 0 rfl (fzCs f) _ (Blk.all HBf) Tryd.underlying25 rfl (by rw [HLf.out]; exact HIfz.out) ?_
    | (go_at_call 11; (refine (HFR.out _).mono ?_; rintro e w3 ⟨rfl, b3⟩)))
  replace HBf := Blk.old HBf b3 (Blk.lt HBf)
  replace HBh := Blk.old HBh b3 (Blk.lt HBh)
  replace HBt := Blk.old HBt b3 (Blk.lt HBt)
  replace hb := below_step hb (Nat.le_refl _) b3
  clear b3
  go_upto_region 5 with (first
    | refine wpList_load_mid rfl 27 (.tmp 4) rfl q 0 rfl (hdCs h) _ (Blk.all HBh) Tryd.underlying27 rfl (by rw [HLh.out]; exact HIhd.out) ?_
    | (go_at_call 12; (refine (HHB.out _).mono ?_; rintro e w4 ⟨rfl, b4⟩)))
  replace HBf := Blk.old HBf b4 (Blk.lt HBf)
  replace HBh := Blk.old HBh b4 (Blk.lt HBh)
  replace HBt := Blk.old HBt b4 (Blk.lt HBt)
  replace hb := below_step hb (Nat.le_refl _) b4
  clear b4
  go_upto_region 6 with (first
    | refine wpList_load_mid rfl 27 (.tmp 4) rfl q 0 rfl (hdCs h) _ (Blk.all HBh) Tryd.underlying27 rfl (by rw [HLh.out]; exact HIhd.out) ?_
    | (go_at_call 13; (refine (HHR.out _).mono ?_; rintro e w5 ⟨rfl, b5⟩)))
  replace HBf := Blk.old HBf b5 (Blk.lt HBf)
  replace HBh := Blk.old HBh b5 (Blk.lt HBh)
  replace HBt := Blk.old HBt b5 (Blk.lt HBt)
  replace hb := below_step hb (Nat.le_refl _) b5
  clear b5
  go_upto_region 7 with (first
    | refine wpList_load_mid rfl 29 (.tmp 5) rfl r 0 rfl (stCs t) _ (Blk.all HBt) Tryd.underlying29 rfl (by rw [HLt.out]; exact HIst.out) ?_
    | (go_at_call 14; (refine (HSB.out _).mono ?_; rintro e w6 ⟨rfl, b6⟩)))
  replace HBf := Blk.old HBf b6 (Blk.lt HBf)
  replace HBh := Blk.old HBh b6 (Blk.lt HBh)
  replace HBt := Blk.old HBt b6 (Blk.lt HBt)
  replace hb := below_step hb (Nat.le_refl _) b6
  clear b6
  go_upto_region 8 with (first
    | refine wpList_load_mid rfl 29 (.tmp 5) rfl r 0 rfl (stCs t) _ (Blk.all HBt) Tryd.underlying29 rfl (by rw [HLt.out]; exact HIst.out) ?_
    | (go_at_call 15; (refine (HSR.out _).mono ?_; rintro e w7 ⟨rfl, b7⟩)))
  replace HBf := Blk.old HBf b7 (Blk.lt HBf)
  replace HBh := Blk.old HBh b7 (Blk.lt HBh)
  replace HBt := Blk.old HBt b7 (Blk.lt HBt)
  replace hb := below_step hb (Nat.le_refl _) b7
  clear b7
  clear HFB HFR HHB HHR HSB HSR
  obtain ⟨U, hU⟩ : ∃ U, U = w7 := ⟨_, rfl⟩
  subst hU
  have HKU : Hid (KT U) := Lib.hid (HKA.out.old hb)
  clear HKA
  go_upto_region 8 with fail
  try simp only [Act.put]
  refine wp_region_tab [RT.is (.string (fzT f)), RT.is (.string (fzT f)), RT.is (.bool false), RT.is (.bool false), RT.is (.int .i64 (fzZ f)), RT.is (.int .i64 (fzZ f)), RT.is (.bool false), RT.is (.bool false), RT.is (.bool false), RT.is (.string (hdG h)), RT.is (.string (hdG h)), RT.is (.bool false), RT.is (.bool false), RT.is (.bool false), RT.is (.int .i64 (hdZ h)), RT.is (.int .i64 (hdZ h)), RT.is (.bool false), RT.is (.bool false), RT.is (.bool false), RT.is (.string (stG t)), RT.is (.string (stG t)), RT.is (.bool false), RT.is (.bool false), RT.is (.bool false), RT.is (.int .i64 (stZ t)), RT.is (.int .i64 (stZ t)), RT.is (.bool false), RT.is (.bool false), RT.is (.bool false), RT.is (.agg (fzCs f).toArray), RT.is (sumV (fzLf f)), RT.is (.agg (fzCs f).toArray), RT.is (sumV (fzLf f)), RT.is (.bool false), RT.is (.bool false)] (by kernel_rfl) (by kernel_rfl) (by kernel_rfl) (by kernel_rfl) ⟨?_, ?_, ?_, ?_, ?_, ?_, ?_, ?_, ?_, ?_, ?_, ?_, ?_, ?_, ?_, ?_, ?_, ?_, ?_, ?_, ?_, ?_, ?_, ?_, ?_, ?_, ?_, ?_, ?_, ?_, ?_, ?_, ?_, ?_, ?_, trivial⟩ ?_
  · intro ac w' hF hL hP hU K hK
    have hB := below_undrew hL
    have e8 : ac.eval (.tmp 8) = .string (fzT f) := hF.at 8 (by kernel_rfl)
    exact rop_move _ rfl e8 (wanted_none rfl) (hK _ _ (le8_refl _) rfl)
  · intro ac w' hF hL hP hU K hK
    have hB := below_undrew hL
    have e10 : ac.eval (.tmp 10) = .string (fzT f) := hF.at 10 (by kernel_rfl)
    exact rop_move _ rfl e10 (wanted_none rfl) (hK _ _ (le8_refl _) rfl)
  · intro ac w' hF hL hP hU K hK
    have hB := below_undrew hL
    have e57 : ac.eval (.tmp 57) = .string (fzT f) := hP 0 (by kernel_rfl)
    have e58 : ac.eval (.tmp 58) = .string (fzT f) := hP 1 (by kernel_rfl)
    exact rop_bin _ _ _ _ _ rfl e57 e58 (guard_str _ _ _ _ _ _ w') (neq_str_f _ w') (wanted_none rfl) (hK _ _ (le8_refl _) rfl)
  · intro ac w' hF hL hP hU K hK
    have hB := below_undrew hL
    have e59 : ac.eval (.tmp 59) = .bool false := hP 2 (by kernel_rfl)
    exact rop_move _ rfl e59 (wanted_none rfl) (hK _ _ (le8_refl _) rfl)
  · intro ac w' hF hL hP hU K hK
    have hB := below_undrew hL
    have e9 : ac.eval (.tmp 9) = .int .i64 (fzZ f) := hF.at 9 (by kernel_rfl)
    have e60 : ac.eval (.tmp 60) = .bool false := hP 3 (by kernel_rfl)
    exact rop_move _ rfl e9 (wanted_of (j := 3) (b := false) rfl rfl e60) (hK _ _ (le8_refl _) rfl)
  · intro ac w' hF hL hP hU K hK
    have hB := below_undrew hL
    have e11 : ac.eval (.tmp 11) = .int .i64 (fzZ f) := hF.at 11 (by kernel_rfl)
    have e60 : ac.eval (.tmp 60) = .bool false := hP 3 (by kernel_rfl)
    exact rop_move _ rfl e11 (wanted_of (j := 3) (b := false) rfl rfl e60) (hK _ _ (le8_refl _) rfl)
  · intro ac w' hF hL hP hU K hK
    have hB := below_undrew hL
    have e61 : ac.eval (.tmp 61) = .int .i64 (fzZ f) := hP 4 (by kernel_rfl)
    have e62 : ac.eval (.tmp 62) = .int .i64 (fzZ f) := hP 5 (by kernel_rfl)
    have e60 : ac.eval (.tmp 60) = .bool false := hP 3 (by kernel_rfl)
    exact rop_bin _ _ _ _ _ rfl e61 e62 (guard_int _ _ _ _ _ _ _ w') (neq_err_f _ w') (wanted_of (j := 3) (b := false) rfl rfl e60) (hK _ _ (le8_refl _) rfl)
  · intro ac w' hF hL hP hU K hK
    have hB := below_undrew hL
    have e60 : ac.eval (.tmp 60) = .bool false := hP 3 (by kernel_rfl)
    have e63 : ac.eval (.tmp 63) = .bool false := hP 6 (by kernel_rfl)
    exact rop_pick _ _ _ rfl false e60 (by simpa using e63) (wanted_none rfl) (hK _ _ (le8_refl _) rfl)
  · intro ac w' hF hL hP hU K hK
    have hB := below_undrew hL
    have e64 : ac.eval (.tmp 64) = .bool false := hP 7 (by kernel_rfl)
    exact rop_move _ rfl e64 (wanted_none rfl) (hK _ _ (le8_refl _) rfl)
  · intro ac w' hF hL hP hU K hK
    have hB := below_undrew hL
    have e12 : ac.eval (.tmp 12) = .string (hdG h) := hF.at 12 (by kernel_rfl)
    have e65 : ac.eval (.tmp 65) = .bool false := hP 8 (by kernel_rfl)
    exact rop_move _ rfl e12 (wanted_of (j := 8) (b := false) rfl rfl e65) (hK _ _ (le8_refl _) rfl)
  · intro ac w' hF hL hP hU K hK
    have hB := below_undrew hL
    have e14 : ac.eval (.tmp 14) = .string (hdG h) := hF.at 14 (by kernel_rfl)
    have e65 : ac.eval (.tmp 65) = .bool false := hP 8 (by kernel_rfl)
    exact rop_move _ rfl e14 (wanted_of (j := 8) (b := false) rfl rfl e65) (hK _ _ (le8_refl _) rfl)
  · intro ac w' hF hL hP hU K hK
    have hB := below_undrew hL
    have e66 : ac.eval (.tmp 66) = .string (hdG h) := hP 9 (by kernel_rfl)
    have e67 : ac.eval (.tmp 67) = .string (hdG h) := hP 10 (by kernel_rfl)
    have e65 : ac.eval (.tmp 65) = .bool false := hP 8 (by kernel_rfl)
    exact rop_bin _ _ _ _ _ rfl e66 e67 (guard_str _ _ _ _ _ _ w') (neq_str_f _ w') (wanted_of (j := 8) (b := false) rfl rfl e65) (hK _ _ (le8_refl _) rfl)
  · intro ac w' hF hL hP hU K hK
    have hB := below_undrew hL
    have e65 : ac.eval (.tmp 65) = .bool false := hP 8 (by kernel_rfl)
    have e68 : ac.eval (.tmp 68) = .bool false := hP 11 (by kernel_rfl)
    exact rop_pick _ _ _ rfl false e65 (by simpa using e68) (wanted_none rfl) (hK _ _ (le8_refl _) rfl)
  · intro ac w' hF hL hP hU K hK
    have hB := below_undrew hL
    have e69 : ac.eval (.tmp 69) = .bool false := hP 12 (by kernel_rfl)
    exact rop_move _ rfl e69 (wanted_none rfl) (hK _ _ (le8_refl _) rfl)
  · intro ac w' hF hL hP hU K hK
    have hB := below_undrew hL
    have e13 : ac.eval (.tmp 13) = .int .i64 (hdZ h) := hF.at 13 (by kernel_rfl)
    have e70 : ac.eval (.tmp 70) = .bool false := hP 13 (by kernel_rfl)
    exact rop_move _ rfl e13 (wanted_of (j := 13) (b := false) rfl rfl e70) (hK _ _ (le8_refl _) rfl)
  · intro ac w' hF hL hP hU K hK
    have hB := below_undrew hL
    have e15 : ac.eval (.tmp 15) = .int .i64 (hdZ h) := hF.at 15 (by kernel_rfl)
    have e70 : ac.eval (.tmp 70) = .bool false := hP 13 (by kernel_rfl)
    exact rop_move _ rfl e15 (wanted_of (j := 13) (b := false) rfl rfl e70) (hK _ _ (le8_refl _) rfl)
  · intro ac w' hF hL hP hU K hK
    have hB := below_undrew hL
    have e71 : ac.eval (.tmp 71) = .int .i64 (hdZ h) := hP 14 (by kernel_rfl)
    have e72 : ac.eval (.tmp 72) = .int .i64 (hdZ h) := hP 15 (by kernel_rfl)
    have e70 : ac.eval (.tmp 70) = .bool false := hP 13 (by kernel_rfl)
    exact rop_bin _ _ _ _ _ rfl e71 e72 (guard_int _ _ _ _ _ _ _ w') (neq_err_f _ w') (wanted_of (j := 13) (b := false) rfl rfl e70) (hK _ _ (le8_refl _) rfl)
  · intro ac w' hF hL hP hU K hK
    have hB := below_undrew hL
    have e70 : ac.eval (.tmp 70) = .bool false := hP 13 (by kernel_rfl)
    have e73 : ac.eval (.tmp 73) = .bool false := hP 16 (by kernel_rfl)
    exact rop_pick _ _ _ rfl false e70 (by simpa using e73) (wanted_none rfl) (hK _ _ (le8_refl _) rfl)
  · intro ac w' hF hL hP hU K hK
    have hB := below_undrew hL
    have e74 : ac.eval (.tmp 74) = .bool false := hP 17 (by kernel_rfl)
    exact rop_move _ rfl e74 (wanted_none rfl) (hK _ _ (le8_refl _) rfl)
  · intro ac w' hF hL hP hU K hK
    have hB := below_undrew hL
    have e16 : ac.eval (.tmp 16) = .string (stG t) := hF.at 16 (by kernel_rfl)
    have e75 : ac.eval (.tmp 75) = .bool false := hP 18 (by kernel_rfl)
    exact rop_move _ rfl e16 (wanted_of (j := 18) (b := false) rfl rfl e75) (hK _ _ (le8_refl _) rfl)
  · intro ac w' hF hL hP hU K hK
    have hB := below_undrew hL
    have e18 : ac.eval (.tmp 18) = .string (stG t) := hF.at 18 (by kernel_rfl)
    have e75 : ac.eval (.tmp 75) = .bool false := hP 18 (by kernel_rfl)
    exact rop_move _ rfl e18 (wanted_of (j := 18) (b := false) rfl rfl e75) (hK _ _ (le8_refl _) rfl)
  · intro ac w' hF hL hP hU K hK
    have hB := below_undrew hL
    have e76 : ac.eval (.tmp 76) = .string (stG t) := hP 19 (by kernel_rfl)
    have e77 : ac.eval (.tmp 77) = .string (stG t) := hP 20 (by kernel_rfl)
    have e75 : ac.eval (.tmp 75) = .bool false := hP 18 (by kernel_rfl)
    exact rop_bin _ _ _ _ _ rfl e76 e77 (guard_str _ _ _ _ _ _ w') (neq_str_f _ w') (wanted_of (j := 18) (b := false) rfl rfl e75) (hK _ _ (le8_refl _) rfl)
  · intro ac w' hF hL hP hU K hK
    have hB := below_undrew hL
    have e75 : ac.eval (.tmp 75) = .bool false := hP 18 (by kernel_rfl)
    have e78 : ac.eval (.tmp 78) = .bool false := hP 21 (by kernel_rfl)
    exact rop_pick _ _ _ rfl false e75 (by simpa using e78) (wanted_none rfl) (hK _ _ (le8_refl _) rfl)
  · intro ac w' hF hL hP hU K hK
    have hB := below_undrew hL
    have e79 : ac.eval (.tmp 79) = .bool false := hP 22 (by kernel_rfl)
    exact rop_move _ rfl e79 (wanted_none rfl) (hK _ _ (le8_refl _) rfl)
  · intro ac w' hF hL hP hU K hK
    have hB := below_undrew hL
    have e17 : ac.eval (.tmp 17) = .int .i64 (stZ t) := hF.at 17 (by kernel_rfl)
    have e80 : ac.eval (.tmp 80) = .bool false := hP 23 (by kernel_rfl)
    exact rop_move _ rfl e17 (wanted_of (j := 23) (b := false) rfl rfl e80) (hK _ _ (le8_refl _) rfl)
  · intro ac w' hF hL hP hU K hK
    have hB := below_undrew hL
    have e19 : ac.eval (.tmp 19) = .int .i64 (stZ t) := hF.at 19 (by kernel_rfl)
    have e80 : ac.eval (.tmp 80) = .bool false := hP 23 (by kernel_rfl)
    exact rop_move _ rfl e19 (wanted_of (j := 23) (b := false) rfl rfl e80) (hK _ _ (le8_refl _) rfl)
  · intro ac w' hF hL hP hU K hK
    have hB := below_undrew hL
    have e81 : ac.eval (.tmp 81) = .int .i64 (stZ t) := hP 24 (by kernel_rfl)
    have e82 : ac.eval (.tmp 82) = .int .i64 (stZ t) := hP 25 (by kernel_rfl)
    have e80 : ac.eval (.tmp 80) = .bool false := hP 23 (by kernel_rfl)
    exact rop_bin _ _ _ _ _ rfl e81 e82 (guard_int _ _ _ _ _ _ _ w') (neq_err_f _ w') (wanted_of (j := 23) (b := false) rfl rfl e80) (hK _ _ (le8_refl _) rfl)
  · intro ac w' hF hL hP hU K hK
    have hB := below_undrew hL
    have e80 : ac.eval (.tmp 80) = .bool false := hP 23 (by kernel_rfl)
    have e83 : ac.eval (.tmp 83) = .bool false := hP 26 (by kernel_rfl)
    exact rop_pick _ _ _ rfl false e80 (by simpa using e83) (wanted_none rfl) (hK _ _ (le8_refl _) rfl)
  · intro ac w' hF hL hP hU K hK
    have hB := below_undrew hL
    have e84 : ac.eval (.tmp 84) = .bool false := hP 27 (by kernel_rfl)
    exact rop_move _ rfl e84 (wanted_none rfl) (hK _ _ (le8_refl _) rfl)
  · intro ac w' hF hL hP hU K hK
    have hB := below_undrew hL
    have e3 : ac.eval (.tmp 3) = .pointer (some ⟨p, 0, none⟩) := hF.at 3 (by kernel_rfl)
    have e85 : ac.eval (.tmp 85) = .bool false := hP 28 (by kernel_rfl)
    exact rop_ld _ _ rfl e3 (load_fzAt (below_range' hB (Blk.lt HBf) (Blk.all HBf)) OKf.out.root) (wanted_of (j := 28) (b := false) rfl rfl e85) (hK _ _ (le8_refl _) rfl)
  · intro ac w' hF hL hP hU K hK
    have hB := below_undrew hL
    have e86 : ac.eval (.tmp 86) = .agg (fzCs f).toArray := hP 29 (by kernel_rfl)
    have e85 : ac.eval (.tmp 85) = .bool false := hP 28 (by kernel_rfl)
    refine rop_call 16 _ _ rfl #[.agg (fzCs f).toArray] (by simp [e86]) (by kernel_rfl) (wanted_of (j := 28) (b := false) rfl rfl e85) ?_
    refine (HLP.out w' (HKU.out.old hB)).mono ?_
    rintro e w2 ⟨rfl, hb⟩
    exact ⟨_, rfl, hK _ _ hb rfl⟩
  · intro ac w' hF hL hP hU K hK
    have hB := below_undrew hL
    have e3 : ac.eval (.tmp 3) = .pointer (some ⟨p, 0, none⟩) := hF.at 3 (by kernel_rfl)
    have e85 : ac.eval (.tmp 85) = .bool false := hP 28 (by kernel_rfl)
    exact rop_ld _ _ rfl e3 (load_fzAt (below_range' hB (Blk.lt HBf) (Blk.all HBf)) OKf.out.root) (wanted_of (j := 28) (b := false) rfl rfl e85) (hK _ _ (le8_refl _) rfl)
  · intro ac w' hF hL hP hU K hK
    have hB := below_undrew hL
    have e88 : ac.eval (.tmp 88) = .agg (fzCs f).toArray := hP 31 (by kernel_rfl)
    have e85 : ac.eval (.tmp 85) = .bool false := hP 28 (by kernel_rfl)
    refine rop_call 17 _ _ rfl #[.agg (fzCs f).toArray] (by simp [e88]) (by kernel_rfl) (wanted_of (j := 28) (b := false) rfl rfl e85) ?_
    refine (HLR.out w').mono ?_
    rintro e w2 ⟨rfl, hb⟩
    exact ⟨_, rfl, hK _ _ hb rfl⟩
  · intro ac w' hF hL hP hU K hK
    have hB := below_undrew hL
    have e87 : ac.eval (.tmp 87) = sumV (fzLf f) := hP 30 (by kernel_rfl)
    have e89 : ac.eval (.tmp 89) = sumV (fzLf f) := hP 32 (by kernel_rfl)
    have e85 : ac.eval (.tmp 85) = .bool false := hP 28 (by kernel_rfl)
    exact rop_bin _ _ _ _ _ rfl e87 e89 (guard_run _ _ _ _ _ w') (neq_sum_s _ HDl.out w') (wanted_of (j := 28) (b := false) rfl rfl e85) (hK _ _ (le8_refl _) rfl)
  · intro ac w' hF hL hP hU K hK
    have hB := below_undrew hL
    have e85 : ac.eval (.tmp 85) = .bool false := hP 28 (by kernel_rfl)
    have e90 : ac.eval (.tmp 90) = .bool false := hP 33 (by kernel_rfl)
    exact rop_pick _ _ _ rfl false e85 (by simpa using e90) (wanted_none rfl) (hK _ _ (le8_refl _) rfl)
  · intro ac w' hF hB hT
    have e91 : ac.eval (.tmp 91) = .bool false := hT 34 (by decide)
    rw [hF.setsG [57, 58, 59, 60, 61, 62, 63, 64, 65, 66, 67, 68, 69, 70, 71, 72, 73, 74, 75, 76, 77, 78, 79, 80, 81, 82, 83, 84, 85, 86, 87, 88, 89, 90, 91] (by kernel_rfl)]
    simp only [List.foldl_cons, List.foldl_nil, List.setIfInBounds_toArray, List.set_cons_succ, List.set_cons_zero, e91]
    generalize ac.eval (.tmp 57) = u57
    generalize ac.eval (.tmp 58) = u58
    generalize ac.eval (.tmp 59) = u59
    generalize ac.eval (.tmp 60) = u60
    generalize ac.eval (.tmp 61) = u61
    generalize ac.eval (.tmp 62) = u62
    generalize ac.eval (.tmp 63) = u63
    generalize ac.eval (.tmp 64) = u64
    generalize ac.eval (.tmp 65) = u65
    generalize ac.eval (.tmp 66) = u66
    generalize ac.eval (.tmp 67) = u67
    generalize ac.eval (.tmp 68) = u68
    generalize ac.eval (.tmp 69) = u69
    generalize ac.eval (.tmp 70) = u70
    generalize ac.eval (.tmp 71) = u71
    generalize ac.eval (.tmp 72) = u72
    generalize ac.eval (.tmp 73) = u73
    generalize ac.eval (.tmp 74) = u74
    generalize ac.eval (.tmp 75) = u75
    generalize ac.eval (.tmp 76) = u76
    generalize ac.eval (.tmp 77) = u77
    generalize ac.eval (.tmp 78) = u78
    generalize ac.eval (.tmp 79) = u79
    generalize ac.eval (.tmp 80) = u80
    generalize ac.eval (.tmp 81) = u81
    generalize ac.eval (.tmp 82) = u82
    generalize ac.eval (.tmp 83) = u83
    generalize ac.eval (.tmp 84) = u84
    generalize ac.eval (.tmp 85) = u85
    generalize ac.eval (.tmp 86) = u86
    generalize ac.eval (.tmp 87) = u87
    generalize ac.eval (.tmp 88) = u88
    generalize ac.eval (.tmp 89) = u89
    generalize ac.eval (.tmp 90) = u90
    clear e91 hT hF ac
    replace HBf := Blk.old HBf hB (Blk.lt HBf)
    replace HBh := Blk.old HBh hB (Blk.lt HBh)
    replace HBt := Blk.old HBt hB (Blk.lt HBt)
    replace hb := below_step hb (Nat.le_refl _) hB
    clear hB HLP HLR HDl HKU
    go_upto_region 10 with fail
    go_upto_region 11 with (first
      | (go_at_call 18; (refine (HRfz.out _).mono ?_; rintro e w8 ⟨rfl, b8⟩))
      | refine wpList_store_mid (w := w8.alloc (.cells (fzCs fz0).toArray 25)) rfl 25 (.tmp 20) (.tmp 95) rfl w8.heap.size 0 (fzCs Gfz).toArray rfl rfl (by rw [HAfz.out]; exact Blk.there (Blk.alloc w8 25 (fzCs fz0)) (by rw [HZfz.out]; decide)) (by rw [HAfz.out]; exact HIfz.out) one_cells ?_)
    obtain ⟨xHXfz, hxHXfz⟩ : ∃ x, x = w8.heap.size := ⟨_, rfl⟩
    obtain ⟨V8, hV8⟩ : ∃ u, u = (w8.alloc (.cells (fzCs fz0).toArray 25)).setCells w8.heap.size 0 (fzCs Gfz) := ⟨_, rfl⟩
    change Code.wp _ _ _ _ ((w8.alloc (.cells (fzCs fz0).toArray 25)).setCells w8.heap.size 0 (fzCs Gfz))
    rw [← hV8, ← hxHXfz]
    have c8 : Below w8.heap.size w8 V8 := by rw [hV8]; exact below_setCells (Nat.le_refl _) _ _ _ (below_boxS _ _)
    have HXfz : Blk xHXfz 25 (fzCs Gfz) V8 := by rw [hV8, hxHXfz]; exact Blk.setAll (Blk.alloc w8 25 (fzCs fz0)) (by rw [HZfz.out, ← List.size_toArray]; exact HAfz.out)
    replace HBf := Blk.old HBf b8 (Blk.lt HBf)
    replace HBh := Blk.old HBh b8 (Blk.lt HBh)
    replace HBt := Blk.old HBt b8 (Blk.lt HBt)
    replace HBf := Blk.old HBf c8 (Blk.lt HBf)
    replace HBh := Blk.old HBh c8 (Blk.lt HBh)
    replace HBt := Blk.old HBt c8 (Blk.lt HBt)
    replace hb := below_step (below_step hb (Nat.le_refl _) b8) (Nat.le_refl _) c8
    clear hV8 hxHXfz b8 c8
    go_upto_region 12 with (first
      | (go_at_call 19; (refine (HRhd.out _).mono ?_; rintro e w9 ⟨rfl, b9⟩))
      | refine wpList_store_mid (w := w9.alloc (.cells (hdCs hd0).toArray 27)) rfl 27 (.tmp 22) (.tmp 100) rfl w9.heap.size 0 (hdCs Ghd).toArray rfl rfl (by rw [HAhd.out]; exact Blk.there (Blk.alloc w9 27 (hdCs hd0)) (by rw [HZhd.out]; decide)) (by rw [HAhd.out]; exact HIhd.out) one_hd ?_)
    obtain ⟨xHXhd, hxHXhd⟩ : ∃ x, x = w9.heap.size := ⟨_, rfl⟩
    obtain ⟨V9, hV9⟩ : ∃ u, u = (w9.alloc (.cells (hdCs hd0).toArray 27)).setCells w9.heap.size 0 (hdCs Ghd) := ⟨_, rfl⟩
    change Code.wp _ _ _ _ ((w9.alloc (.cells (hdCs hd0).toArray 27)).setCells w9.heap.size 0 (hdCs Ghd))
    rw [← hV9, ← hxHXhd]
    have c9 : Below w9.heap.size w9 V9 := by rw [hV9]; exact below_setCells (Nat.le_refl _) _ _ _ (below_boxS _ _)
    have HXhd : Blk xHXhd 27 (hdCs Ghd) V9 := by rw [hV9, hxHXhd]; exact Blk.setAll (Blk.alloc w9 27 (hdCs hd0)) (by rw [HZhd.out, ← List.size_toArray]; exact HAhd.out)
    replace HBf := Blk.old HBf b9 (Blk.lt HBf)
    replace HBh := Blk.old HBh b9 (Blk.lt HBh)
    replace HBt := Blk.old HBt b9 (Blk.lt HBt)
    replace HXfz := Blk.old HXfz b9 (Blk.lt HXfz)
    replace HBf := Blk.old HBf c9 (Blk.lt HBf)
    replace HBh := Blk.old HBh c9 (Blk.lt HBh)
    replace HBt := Blk.old HBt c9 (Blk.lt HBt)
    replace HXfz := Blk.old HXfz c9 (Blk.lt HXfz)
    replace hb := below_step (below_step hb (Nat.le_refl _) b9) (Nat.le_refl _) c9
    clear hV9 hxHXhd b9 c9
    go_upto_region 13 with (first
      | (go_at_call 20; (refine (HRst.out _).mono ?_; rintro e w10 ⟨rfl, b10⟩))
      | refine wpList_store_mid (w := w10.alloc (.cells (stCs st0).toArray 29)) rfl 29 (.tmp 24) (.tmp 105) rfl w10.heap.size 0 (stCs Gst).toArray rfl rfl (by rw [HAst.out]; exact Blk.there (Blk.alloc w10 29 (stCs st0)) (by rw [HZst.out]; decide)) (by rw [HAst.out]; exact HIst.out) one_st ?_)
    obtain ⟨xHXst, hxHXst⟩ : ∃ x, x = w10.heap.size := ⟨_, rfl⟩
    obtain ⟨V10, hV10⟩ : ∃ u, u = (w10.alloc (.cells (stCs st0).toArray 29)).setCells w10.heap.size 0 (stCs Gst) := ⟨_, rfl⟩
    change Code.wp _ _ _ _ ((w10.alloc (.cells (stCs st0).toArray 29)).setCells w10.heap.size 0 (stCs Gst))
    rw [← hV10, ← hxHXst]
    have c10 : Below w10.heap.size w10 V10 := by rw [hV10]; exact below_setCells (Nat.le_refl _) _ _ _ (below_boxS _ _)
    have HXst : Blk xHXst 29 (stCs Gst) V10 := by rw [hV10, hxHXst]; exact Blk.setAll (Blk.alloc w10 29 (stCs st0)) (by rw [HZst.out, ← List.size_toArray]; exact HAst.out)
    replace HBf := Blk.old HBf b10 (Blk.lt HBf)
    replace HBh := Blk.old HBh b10 (Blk.lt HBh)
    replace HBt := Blk.old HBt b10 (Blk.lt HBt)
    replace HXfz := Blk.old HXfz b10 (Blk.lt HXfz)
    replace HXhd := Blk.old HXhd b10 (Blk.lt HXhd)
    replace HBf := Blk.old HBf c10 (Blk.lt HBf)
    replace HBh := Blk.old HBh c10 (Blk.lt HBh)
    replace HBt := Blk.old HBt c10 (Blk.lt HBt)
    replace HXfz := Blk.old HXfz c10 (Blk.lt HXfz)
    replace HXhd := Blk.old HXhd c10 (Blk.lt HXhd)
    replace hb := below_step (below_step hb (Nat.le_refl _) b10) (Nat.le_refl _) c10
    clear hV10 hxHXst b10 c10
    go_upto_region 13 with fail
    by_cases z1 : fzB f = true
    · by_cases z2 : hdB h = true
      · by_cases z3 : stB t = true
        · skip
          try simp only [Act.put]
          refine wp_region_tab0 [RT.is (.bool true), RT.is (.bool true), RT.is (.int .i64 (fzZ f)), RT.is (.bool false), RT.is (.bool false), RT.is (.agg (fzCs Gfz).toArray), RT.is (.agg (fzCs f).toArray), RT.is (.bool true), RT.is (.bool true), RT.is (.int .i64 Zfz), RT.is (.bool true), RT.is (.bool true), RT.is (.bool true), RT.is (.bool true), RT.is (.bool true), RT.is (.int .i64 (hdZ h)), RT.is (.bool false), RT.is (.bool false), RT.is (.agg (hdCs Ghd).toArray), RT.is (.agg (hdCs h).toArray), RT.is (.bool true), RT.is (.bool true), RT.is (.int .i64 Zhd), RT.is (.bool true), RT.is (.bool true), RT.is (.bool true), RT.is (.bool true), RT.is (.bool true), RT.is (.int .i64 (stZ t)), RT.is (.bool false), RT.is (.bool false), RT.is (.agg (stCs Gst).toArray), RT.is (.agg (stCs t).toArray), RT.is (.bool true), RT.is (.bool true), RT.is (.int .i64 Zst), RT.is (.bool true), RT.is (.bool true), RT.is (.bool true), RT.is (.bool true), RT.is (.bool true)] (by kernel_rfl) (by kernel_rfl) (by kernel_rfl) ⟨?_, ?_, ?_, ?_, ?_, ?_, ?_, ?_, ?_, ?_, ?_, ?_, ?_, ?_, ?_, ?_, ?_, ?_, ?_, ?_, ?_, ?_, ?_, ?_, ?_, ?_, ?_, ?_, ?_, ?_, ?_, ?_, ?_, ?_, ?_, ?_, ?_, ?_, ?_, ?_, ?_, trivial⟩ ?_
          · intro ac w' hF hL hP hU K hK
            have hB : Below _ _ _ := hL
            have e7 : ac.eval (.tmp 7) = .bool true := hF.at 7 (by kernel_rfl)
            exact rop_move _ rfl e7 (wanted_none rfl) (hK _ _ (le8_refl _) rfl)
          · intro ac w' hF hL hP hU K hK
            have hB : Below _ _ _ := hL
            have e107 : ac.eval (.tmp 107) = .bool true := hP 0 (by kernel_rfl)
            exact rop_move _ rfl e107 (wanted_none rfl) (hK _ _ (le8_refl _) rfl)
          · intro ac w' hF hL hP hU K hK
            have hB : Below _ _ _ := hL
            have e9 : ac.eval (.tmp 9) = .int .i64 (fzZ f) := hF.at 9 (by kernel_rfl)
            have e108 : ac.eval (.tmp 108) = .bool true := hP 1 (by kernel_rfl)
            exact rop_move _ rfl e9 (wanted_of (j := 1) (b := true) rfl rfl e108) (hK _ _ (le8_refl _) rfl)
          · intro ac w' hF hL hP hU K hK
            have hB : Below _ _ _ := hL
            have e109 : ac.eval (.tmp 109) = .int .i64 (fzZ f) := hP 2 (by kernel_rfl)
            have e108 : ac.eval (.tmp 108) = .bool true := hP 1 (by kernel_rfl)
            exact rop_bin _ _ _ _ _ rfl e109 rfl (guard_int _ _ _ _ _ _ _ w') (neq_eq0 _ (if_pos z1) w') (wanted_of (j := 1) (b := true) rfl rfl e108) (hK _ _ (le8_refl _) rfl)
          · intro ac w' hF hL hP hU K hK
            have hB : Below _ _ _ := hL
            have e110 : ac.eval (.tmp 110) = .bool false := hP 3 (by kernel_rfl)
            have e108 : ac.eval (.tmp 108) = .bool true := hP 1 (by kernel_rfl)
            exact rop_move _ rfl e110 (wanted_of (j := 1) (b := true) rfl rfl e108) (hK _ _ (le8_refl _) rfl)
          · intro ac w' hF hL hP hU K hK
            have hB : Below _ _ _ := hL
            have e20 : ac.eval (.tmp 20) = .pointer (some ⟨xHXfz, 0, none⟩) := hF.at 20 (by kernel_rfl)
            have e111 : ac.eval (.tmp 111) = .bool false := hP 4 (by kernel_rfl)
            exact rop_ld _ _ rfl e20 (load_fzAt (below_range' hB (Blk.lt HXfz) (Blk.all HXfz)) HOKfz.out.root) (wanted_of (j := 4) (b := false) rfl rfl e111) (hK _ _ (le8_refl _) rfl)
          · intro ac w' hF hL hP hU K hK
            have hB : Below _ _ _ := hL
            have e3 : ac.eval (.tmp 3) = .pointer (some ⟨p, 0, none⟩) := hF.at 3 (by kernel_rfl)
            have e111 : ac.eval (.tmp 111) = .bool false := hP 4 (by kernel_rfl)
            exact rop_ld _ _ rfl e3 (load_fzAt (below_range' hB (Blk.lt HBf) (Blk.all HBf)) OKf.out.root) (wanted_of (j := 4) (b := false) rfl rfl e111) (hK _ _ (le8_refl _) rfl)
          · intro ac w' hF hL hP hU K hK
            have hB : Below _ _ _ := hL
            have e112 : ac.eval (.tmp 112) = .agg (fzCs Gfz).toArray := hP 5 (by kernel_rfl)
            have e113 : ac.eval (.tmp 113) = .agg (fzCs f).toArray := hP 6 (by kernel_rfl)
            have e111 : ac.eval (.tmp 111) = .bool false := hP 4 (by kernel_rfl)
            exact rop_bin _ _ _ _ _ rfl e112 e113 (guard_fz .eql _ _ _ _ w') ((eql_fz Gfz f HOKfz.out OKf.out w').trans (by rw [decide_eq_true (HGfz.out z1).1])) (wanted_of (j := 4) (b := false) rfl rfl e111) (hK _ _ (le8_refl _) rfl)
          · intro ac w' hF hL hP hU K hK
            have hB : Below _ _ _ := hL
            have e114 : ac.eval (.tmp 114) = .bool true := hP 7 (by kernel_rfl)
            have e111 : ac.eval (.tmp 111) = .bool false := hP 4 (by kernel_rfl)
            exact rop_move _ rfl e114 (wanted_of (j := 4) (b := false) rfl rfl e111) (hK _ _ (le8_refl _) rfl)
          · intro ac w' hF hL hP hU K hK
            have hB : Below _ _ _ := hL
            have e21 : ac.eval (.tmp 21) = .int .i64 Zfz := hF.at 21 (by kernel_rfl)
            have e115 : ac.eval (.tmp 115) = .bool true := hP 8 (by kernel_rfl)
            exact rop_move _ rfl e21 (wanted_of (j := 8) (b := true) rfl rfl e115) (hK _ _ (le8_refl _) rfl)
          · intro ac w' hF hL hP hU K hK
            have hB : Below _ _ _ := hL
            have e116 : ac.eval (.tmp 116) = .int .i64 Zfz := hP 9 (by kernel_rfl)
            have e115 : ac.eval (.tmp 115) = .bool true := hP 8 (by kernel_rfl)
            exact rop_bin _ _ _ _ _ rfl e116 rfl (guard_int _ _ _ _ _ _ _ w') (eql_err_z _ (HGfz.out z1).2 w') (wanted_of (j := 8) (b := true) rfl rfl e115) (hK _ _ (le8_refl _) rfl)
          · intro ac w' hF hL hP hU K hK
            have hB : Below _ _ _ := hL
            have e115 : ac.eval (.tmp 115) = .bool true := hP 8 (by kernel_rfl)
            have e117 : ac.eval (.tmp 117) = .bool true := hP 10 (by kernel_rfl)
            have e111 : ac.eval (.tmp 111) = .bool false := hP 4 (by kernel_rfl)
            exact rop_pick _ _ _ rfl true e115 (by simpa using e117) (wanted_of (j := 4) (b := false) rfl rfl e111) (hK _ _ (le8_refl _) rfl)
          · intro ac w' hF hL hP hU K hK
            have hB : Below _ _ _ := hL
            have e111 : ac.eval (.tmp 111) = .bool false := hP 4 (by kernel_rfl)
            have e118 : ac.eval (.tmp 118) = .bool true := hP 11 (by kernel_rfl)
            have e108 : ac.eval (.tmp 108) = .bool true := hP 1 (by kernel_rfl)
            exact rop_pick _ _ _ rfl false e111 (by simpa using e118) (wanted_of (j := 1) (b := true) rfl rfl e108) (hK _ _ (le8_refl _) rfl)
          · intro ac w' hF hL hP hU K hK
            have hB : Below _ _ _ := hL
            have e108 : ac.eval (.tmp 108) = .bool true := hP 1 (by kernel_rfl)
            have e119 : ac.eval (.tmp 119) = .bool true := hP 12 (by kernel_rfl)
            exact rop_pick _ _ _ rfl true e108 (by simpa using e119) (wanted_none rfl) (hK _ _ (le8_refl _) rfl)
          · intro ac w' hF hL hP hU K hK
            have hB : Below _ _ _ := hL
            have e120 : ac.eval (.tmp 120) = .bool true := hP 13 (by kernel_rfl)
            exact rop_move _ rfl e120 (wanted_none rfl) (hK _ _ (le8_refl _) rfl)
          · intro ac w' hF hL hP hU K hK
            have hB : Below _ _ _ := hL
            have e13 : ac.eval (.tmp 13) = .int .i64 (hdZ h) := hF.at 13 (by kernel_rfl)
            have e121 : ac.eval (.tmp 121) = .bool true := hP 14 (by kernel_rfl)
            exact rop_move _ rfl e13 (wanted_of (j := 14) (b := true) rfl rfl e121) (hK _ _ (le8_refl _) rfl)
          · intro ac w' hF hL hP hU K hK
            have hB : Below _ _ _ := hL
            have e122 : ac.eval (.tmp 122) = .int .i64 (hdZ h) := hP 15 (by kernel_rfl)
            have e121 : ac.eval (.tmp 121) = .bool true := hP 14 (by kernel_rfl)
            exact rop_bin _ _ _ _ _ rfl e122 rfl (guard_int _ _ _ _ _ _ _ w') (neq_eq0 _ (if_pos z2) w') (wanted_of (j := 14) (b := true) rfl rfl e121) (hK _ _ (le8_refl _) rfl)
          · intro ac w' hF hL hP hU K hK
            have hB : Below _ _ _ := hL
            have e123 : ac.eval (.tmp 123) = .bool false := hP 16 (by kernel_rfl)
            have e121 : ac.eval (.tmp 121) = .bool true := hP 14 (by kernel_rfl)
            exact rop_move _ rfl e123 (wanted_of (j := 14) (b := true) rfl rfl e121) (hK _ _ (le8_refl _) rfl)
          · intro ac w' hF hL hP hU K hK
            have hB : Below _ _ _ := hL
            have e22 : ac.eval (.tmp 22) = .pointer (some ⟨xHXhd, 0, none⟩) := hF.at 22 (by kernel_rfl)
            have e124 : ac.eval (.tmp 124) = .bool false := hP 17 (by kernel_rfl)
            exact rop_ld _ _ rfl e22 (load_hdAt (below_range' hB (Blk.lt HXhd) (Blk.all HXhd)) HOKhd.out.root HOKhd.out.mac) (wanted_of (j := 17) (b := false) rfl rfl e124) (hK _ _ (le8_refl _) rfl)
          · intro ac w' hF hL hP hU K hK
            have hB : Below _ _ _ := hL
            have e4 : ac.eval (.tmp 4) = .pointer (some ⟨q, 0, none⟩) := hF.at 4 (by kernel_rfl)
            have e124 : ac.eval (.tmp 124) = .bool false := hP 17 (by kernel_rfl)
            exact rop_ld _ _ rfl e4 (load_hdAt (below_range' hB (Blk.lt HBh) (Blk.all HBh)) OKh.out.root OKh.out.mac) (wanted_of (j := 17) (b := false) rfl rfl e124) (hK _ _ (le8_refl _) rfl)
          · intro ac w' hF hL hP hU K hK
            have hB : Below _ _ _ := hL
            have e125 : ac.eval (.tmp 125) = .agg (hdCs Ghd).toArray := hP 18 (by kernel_rfl)
            have e126 : ac.eval (.tmp 126) = .agg (hdCs h).toArray := hP 19 (by kernel_rfl)
            have e124 : ac.eval (.tmp 124) = .bool false := hP 17 (by kernel_rfl)
            exact rop_bin _ _ _ _ _ rfl e125 e126 (guard_hd .eql _ _ _ _ w') ((eql_hd Ghd h HOKhd.out OKh.out w').trans (by rw [decide_eq_true (HGhd.out z2).1])) (wanted_of (j := 17) (b := false) rfl rfl e124) (hK _ _ (le8_refl _) rfl)
          · intro ac w' hF hL hP hU K hK
            have hB : Below _ _ _ := hL
            have e127 : ac.eval (.tmp 127) = .bool true := hP 20 (by kernel_rfl)
            have e124 : ac.eval (.tmp 124) = .bool false := hP 17 (by kernel_rfl)
            exact rop_move _ rfl e127 (wanted_of (j := 17) (b := false) rfl rfl e124) (hK _ _ (le8_refl _) rfl)
          · intro ac w' hF hL hP hU K hK
            have hB : Below _ _ _ := hL
            have e23 : ac.eval (.tmp 23) = .int .i64 Zhd := hF.at 23 (by kernel_rfl)
            have e128 : ac.eval (.tmp 128) = .bool true := hP 21 (by kernel_rfl)
            exact rop_move _ rfl e23 (wanted_of (j := 21) (b := true) rfl rfl e128) (hK _ _ (le8_refl _) rfl)
          · intro ac w' hF hL hP hU K hK
            have hB : Below _ _ _ := hL
            have e129 : ac.eval (.tmp 129) = .int .i64 Zhd := hP 22 (by kernel_rfl)
            have e128 : ac.eval (.tmp 128) = .bool true := hP 21 (by kernel_rfl)
            exact rop_bin _ _ _ _ _ rfl e129 rfl (guard_int _ _ _ _ _ _ _ w') (eql_err_z _ (HGhd.out z2).2 w') (wanted_of (j := 21) (b := true) rfl rfl e128) (hK _ _ (le8_refl _) rfl)
          · intro ac w' hF hL hP hU K hK
            have hB : Below _ _ _ := hL
            have e128 : ac.eval (.tmp 128) = .bool true := hP 21 (by kernel_rfl)
            have e130 : ac.eval (.tmp 130) = .bool true := hP 23 (by kernel_rfl)
            have e124 : ac.eval (.tmp 124) = .bool false := hP 17 (by kernel_rfl)
            exact rop_pick _ _ _ rfl true e128 (by simpa using e130) (wanted_of (j := 17) (b := false) rfl rfl e124) (hK _ _ (le8_refl _) rfl)
          · intro ac w' hF hL hP hU K hK
            have hB : Below _ _ _ := hL
            have e124 : ac.eval (.tmp 124) = .bool false := hP 17 (by kernel_rfl)
            have e131 : ac.eval (.tmp 131) = .bool true := hP 24 (by kernel_rfl)
            have e121 : ac.eval (.tmp 121) = .bool true := hP 14 (by kernel_rfl)
            exact rop_pick _ _ _ rfl false e124 (by simpa using e131) (wanted_of (j := 14) (b := true) rfl rfl e121) (hK _ _ (le8_refl _) rfl)
          · intro ac w' hF hL hP hU K hK
            have hB : Below _ _ _ := hL
            have e121 : ac.eval (.tmp 121) = .bool true := hP 14 (by kernel_rfl)
            have e132 : ac.eval (.tmp 132) = .bool true := hP 25 (by kernel_rfl)
            exact rop_pick _ _ _ rfl true e121 (by simpa using e132) (wanted_none rfl) (hK _ _ (le8_refl _) rfl)
          · intro ac w' hF hL hP hU K hK
            have hB : Below _ _ _ := hL
            have e133 : ac.eval (.tmp 133) = .bool true := hP 26 (by kernel_rfl)
            exact rop_move _ rfl e133 (wanted_none rfl) (hK _ _ (le8_refl _) rfl)
          · intro ac w' hF hL hP hU K hK
            have hB : Below _ _ _ := hL
            have e17 : ac.eval (.tmp 17) = .int .i64 (stZ t) := hF.at 17 (by kernel_rfl)
            have e134 : ac.eval (.tmp 134) = .bool true := hP 27 (by kernel_rfl)
            exact rop_move _ rfl e17 (wanted_of (j := 27) (b := true) rfl rfl e134) (hK _ _ (le8_refl _) rfl)
          · intro ac w' hF hL hP hU K hK
            have hB : Below _ _ _ := hL
            have e135 : ac.eval (.tmp 135) = .int .i64 (stZ t) := hP 28 (by kernel_rfl)
            have e134 : ac.eval (.tmp 134) = .bool true := hP 27 (by kernel_rfl)
            exact rop_bin _ _ _ _ _ rfl e135 rfl (guard_int _ _ _ _ _ _ _ w') (neq_eq0 _ (if_pos z3) w') (wanted_of (j := 27) (b := true) rfl rfl e134) (hK _ _ (le8_refl _) rfl)
          · intro ac w' hF hL hP hU K hK
            have hB : Below _ _ _ := hL
            have e136 : ac.eval (.tmp 136) = .bool false := hP 29 (by kernel_rfl)
            have e134 : ac.eval (.tmp 134) = .bool true := hP 27 (by kernel_rfl)
            exact rop_move _ rfl e136 (wanted_of (j := 27) (b := true) rfl rfl e134) (hK _ _ (le8_refl _) rfl)
          · intro ac w' hF hL hP hU K hK
            have hB : Below _ _ _ := hL
            have e24 : ac.eval (.tmp 24) = .pointer (some ⟨xHXst, 0, none⟩) := hF.at 24 (by kernel_rfl)
            have e137 : ac.eval (.tmp 137) = .bool false := hP 30 (by kernel_rfl)
            exact rop_ld _ _ rfl e24 (load_stAt (below_range' hB (Blk.lt HXst) (Blk.all HXst)) HOKst.out.fz.root HOKst.out.mac) (wanted_of (j := 30) (b := false) rfl rfl e137) (hK _ _ (le8_refl _) rfl)
          · intro ac w' hF hL hP hU K hK
            have hB : Below _ _ _ := hL
            have e5 : ac.eval (.tmp 5) = .pointer (some ⟨r, 0, none⟩) := hF.at 5 (by kernel_rfl)
            have e137 : ac.eval (.tmp 137) = .bool false := hP 30 (by kernel_rfl)
            exact rop_ld _ _ rfl e5 (load_stAt (below_range' hB (Blk.lt HBt) (Blk.all HBt)) OKt.out.fz.root OKt.out.mac) (wanted_of (j := 30) (b := false) rfl rfl e137) (hK _ _ (le8_refl _) rfl)
          · intro ac w' hF hL hP hU K hK
            have hB : Below _ _ _ := hL
            have e138 : ac.eval (.tmp 138) = .agg (stCs Gst).toArray := hP 31 (by kernel_rfl)
            have e139 : ac.eval (.tmp 139) = .agg (stCs t).toArray := hP 32 (by kernel_rfl)
            have e137 : ac.eval (.tmp 137) = .bool false := hP 30 (by kernel_rfl)
            exact rop_bin _ _ _ _ _ rfl e138 e139 (guard_st .eql _ _ _ _ w') ((eql_st Gst t HOKst.out OKt.out w').trans (by rw [decide_eq_true (HGst.out z3).1])) (wanted_of (j := 30) (b := false) rfl rfl e137) (hK _ _ (le8_refl _) rfl)
          · intro ac w' hF hL hP hU K hK
            have hB : Below _ _ _ := hL
            have e140 : ac.eval (.tmp 140) = .bool true := hP 33 (by kernel_rfl)
            have e137 : ac.eval (.tmp 137) = .bool false := hP 30 (by kernel_rfl)
            exact rop_move _ rfl e140 (wanted_of (j := 30) (b := false) rfl rfl e137) (hK _ _ (le8_refl _) rfl)
          · intro ac w' hF hL hP hU K hK
            have hB : Below _ _ _ := hL
            have e25 : ac.eval (.tmp 25) = .int .i64 Zst := hF.at 25 (by kernel_rfl)
            have e141 : ac.eval (.tmp 141) = .bool true := hP 34 (by kernel_rfl)
            exact rop_move _ rfl e25 (wanted_of (j := 34) (b := true) rfl rfl e141) (hK _ _ (le8_refl _) rfl)
          · intro ac w' hF hL hP hU K hK
            have hB : Below _ _ _ := hL
            have e142 : ac.eval (.tmp 142) = .int .i64 Zst := hP 35 (by kernel_rfl)
            have e141 : ac.eval (.tmp 141) = .bool true := hP 34 (by kernel_rfl)
            exact rop_bin _ _ _ _ _ rfl e142 rfl (guard_int _ _ _ _ _ _ _ w') (eql_err_z _ (HGst.out z3).2 w') (wanted_of (j := 34) (b := true) rfl rfl e141) (hK _ _ (le8_refl _) rfl)
          · intro ac w' hF hL hP hU K hK
            have hB : Below _ _ _ := hL
            have e141 : ac.eval (.tmp 141) = .bool true := hP 34 (by kernel_rfl)
            have e143 : ac.eval (.tmp 143) = .bool true := hP 36 (by kernel_rfl)
            have e137 : ac.eval (.tmp 137) = .bool false := hP 30 (by kernel_rfl)
            exact rop_pick _ _ _ rfl true e141 (by simpa using e143) (wanted_of (j := 30) (b := false) rfl rfl e137) (hK _ _ (le8_refl _) rfl)
          · intro ac w' hF hL hP hU K hK
            have hB : Below _ _ _ := hL
            have e137 : ac.eval (.tmp 137) = .bool false := hP 30 (by kernel_rfl)
            have e144 : ac.eval (.tmp 144) = .bool true := hP 37 (by kernel_rfl)
            have e134 : ac.eval (.tmp 134) = .bool true := hP 27 (by kernel_rfl)
            exact rop_pick _ _ _ rfl false e137 (by simpa using e144) (wanted_of (j := 27) (b := true) rfl rfl e134) (hK _ _ (le8_refl _) rfl)
          · intro ac w' hF hL hP hU K hK
            have hB : Below _ _ _ := hL
            have e134 : ac.eval (.tmp 134) = .bool true := hP 27 (by kernel_rfl)
            have e145 : ac.eval (.tmp 145) = .bool true := hP 38 (by kernel_rfl)
            exact rop_pick _ _ _ rfl true e134 (by simpa using e145) (wanted_none rfl) (hK _ _ (le8_refl _) rfl)
          · intro ac w' hF hL hP hU K hK
            have hB : Below _ _ _ := hL
            have e146 : ac.eval (.tmp 146) = .bool true := hP 39 (by kernel_rfl)
            exact rop_assign _ rfl e146 (wanted_none rfl) (hK _ _ (le8_refl _) rfl)
          · intro ac w' hF hB hT
            have e6 : ac.eval (.tmp 6) = .bool true := hT 40 (by decide)
            rw [hF.setsG [107, 108, 109, 110, 111, 112, 113, 114, 115, 116, 117, 118, 119, 120, 121, 122, 123, 124, 125, 126, 127, 128, 129, 130, 131, 132, 133, 134, 135, 136, 137, 138, 139, 140, 141, 142, 143, 144, 145, 146, 6] (by kernel_rfl)]
            simp only [List.foldl_cons, List.foldl_nil, List.setIfInBounds_toArray, List.set_cons_succ, List.set_cons_zero, e6]
            generalize ac.eval (.tmp 107) = u107
            generalize ac.eval (.tmp 108) = u108
            generalize ac.eval (.tmp 109) = u109
            generalize ac.eval (.tmp 110) = u110
            generalize ac.eval (.tmp 111) = u111
            generalize ac.eval (.tmp 112) = u112
            generalize ac.eval (.tmp 113) = u113
            generalize ac.eval (.tmp 114) = u114
            generalize ac.eval (.tmp 115) = u115
            generalize ac.eval (.tmp 116) = u116
            generalize ac.eval (.tmp 117) = u117
            generalize ac.eval (.tmp 118) = u118
            generalize ac.eval (.tmp 119) = u119
            generalize ac.eval (.tmp 120) = u120
            generalize ac.eval (.tmp 121) = u121
            generalize ac.eval (.tmp 122) = u122
            generalize ac.eval (.tmp 123) = u123
            generalize ac.eval (.tmp 124) = u124
            generalize ac.eval (.tmp 125) = u125
            generalize ac.eval (.tmp 126) = u126
            generalize ac.eval (.tmp 127) = u127
            generalize ac.eval (.tmp 128) = u128
            generalize ac.eval (.tmp 129) = u129
            generalize ac.eval (.tmp 130) = u130
            generalize ac.eval (.tmp 131) = u131
            generalize ac.eval (.tmp 132) = u132
            generalize ac.eval (.tmp 133) = u133
            generalize ac.eval (.tmp 134) = u134
            generalize ac.eval (.tmp 135) = u135
            generalize ac.eval (.tmp 136) = u136
            generalize ac.eval (.tmp 137) = u137
            generalize ac.eval (.tmp 138) = u138
            generalize ac.eval (.tmp 139) = u139
            generalize ac.eval (.tmp 140) = u140
            generalize ac.eval (.tmp 141) = u141
            generalize ac.eval (.tmp 142) = u142
            generalize ac.eval (.tmp 143) = u143
            generalize ac.eval (.tmp 144) = u144
            generalize ac.eval (.tmp 145) = u145
            generalize ac.eval (.tmp 146) = u146
            clear e6 hT hF ac
            have hbw := below_step hb (Nat.le_refl _) hB
            clear hB
            go_wp2
            go_ret
            exact ⟨rfl, hbw⟩
        · skip
          try simp only [Act.put]
          refine wp_region_tab0 [RT.is (.bool true), RT.is (.bool true), RT.is (.int .i64 (fzZ f)), RT.is (.bool false), RT.is (.bool false), RT.is (.agg (fzCs Gfz).toArray), RT.is (.agg (fzCs f).toArray), RT.is (.bool true), RT.is (.bool true), RT.is (.int .i64 Zfz), RT.is (.bool true), RT.is (.bool true), RT.is (.bool true), RT.is (.bool true), RT.is (.bool true), RT.is (.int .i64 (hdZ h)), RT.is (.bool false), RT.is (.bool false), RT.is (.agg (hdCs Ghd).toArray), RT.is (.agg (hdCs h).toArray), RT.is (.bool true), RT.is (.bool true), RT.is (.int .i64 Zhd), RT.is (.bool true), RT.is (.bool true), RT.is (.bool true), RT.is (.bool true), RT.is (.bool true), RT.is (.int .i64 (stZ t)), RT.is (.bool true), RT.is (.bool true), RT.is undef, RT.is undef, RT.is undef, RT.is undef, RT.is undef, RT.is undef, RT.is undef, RT.is (.bool true), RT.is (.bool true), RT.is (.bool true)] (by kernel_rfl) (by kernel_rfl) (by kernel_rfl) ⟨?_, ?_, ?_, ?_, ?_, ?_, ?_, ?_, ?_, ?_, ?_, ?_, ?_, ?_, ?_, ?_, ?_, ?_, ?_, ?_, ?_, ?_, ?_, ?_, ?_, ?_, ?_, ?_, ?_, ?_, ?_, ?_, ?_, ?_, ?_, ?_, ?_, ?_, ?_, ?_, ?_, trivial⟩ ?_
          · intro ac w' hF hL hP hU K hK
            have hB : Below _ _ _ := hL
            have e7 : ac.eval (.tmp 7) = .bool true := hF.at 7 (by kernel_rfl)
            exact rop_move _ rfl e7 (wanted_none rfl) (hK _ _ (le8_refl _) rfl)
          · intro ac w' hF hL hP hU K hK
            have hB : Below _ _ _ := hL
            have e107 : ac.eval (.tmp 107) = .bool true := hP 0 (by kernel_rfl)
            exact rop_move _ rfl e107 (wanted_none rfl) (hK _ _ (le8_refl _) rfl)
          · intro ac w' hF hL hP hU K hK
            have hB : Below _ _ _ := hL
            have e9 : ac.eval (.tmp 9) = .int .i64 (fzZ f) := hF.at 9 (by kernel_rfl)
            have e108 : ac.eval (.tmp 108) = .bool true := hP 1 (by kernel_rfl)
            exact rop_move _ rfl e9 (wanted_of (j := 1) (b := true) rfl rfl e108) (hK _ _ (le8_refl _) rfl)
          · intro ac w' hF hL hP hU K hK
            have hB : Below _ _ _ := hL
            have e109 : ac.eval (.tmp 109) = .int .i64 (fzZ f) := hP 2 (by kernel_rfl)
            have e108 : ac.eval (.tmp 108) = .bool true := hP 1 (by kernel_rfl)
            exact rop_bin _ _ _ _ _ rfl e109 rfl (guard_int _ _ _ _ _ _ _ w') (neq_eq0 _ (if_pos z1) w') (wanted_of (j := 1) (b := true) rfl rfl e108) (hK _ _ (le8_refl _) rfl)
          · intro ac w' hF hL hP hU K hK
            have hB : Below _ _ _ := hL
            have e110 : ac.eval (.tmp 110) = .bool false := hP 3 (by kernel_rfl)
            have e108 : ac.eval (.tmp 108) = .bool true := hP 1 (by kernel_rfl)
            exact rop_move _ rfl e110 (wanted_of (j := 1) (b := true) rfl rfl e108) (hK _ _ (le8_refl _) rfl)
          · intro ac w' hF hL hP hU K hK
            have hB : Below _ _ _ := hL
            have e20 : ac.eval (.tmp 20) = .pointer (some ⟨xHXfz, 0, none⟩) := hF.at 20 (by kernel_rfl)
            have e111 : ac.eval (.tmp 111) = .bool false := hP 4 (by kernel_rfl)
            exact rop_ld _ _ rfl e20 (load_fzAt (below_range' hB (Blk.lt HXfz) (Blk.all HXfz)) HOKfz.out.root) (wanted_of (j := 4) (b := false) rfl rfl e111) (hK _ _ (le8_refl _) rfl)
          · intro ac w' hF hL hP hU K hK
            have hB : Below _ _ _ := hL
            have e3 : ac.eval (.tmp 3) = .pointer (some ⟨p, 0, none⟩) := hF.at 3 (by kernel_rfl)
            have e111 : ac.eval (.tmp 111) = .bool false := hP 4 (by kernel_rfl)
            exact rop_ld _ _ rfl e3 (load_fzAt (below_range' hB (Blk.lt HBf) (Blk.all HBf)) OKf.out.root) (wanted_of (j := 4) (b := false) rfl rfl e111) (hK _ _ (le8_refl _) rfl)
          · intro ac w' hF hL hP hU K hK
            have hB : Below _ _ _ := hL
            have e112 : ac.eval (.tmp 112) = .agg (fzCs Gfz).toArray := hP 5 (by kernel_rfl)
            have e113 : ac.eval (.tmp 113) = .agg (fzCs f).toArray := hP 6 (by kernel_rfl)
            have e111 : ac.eval (.tmp 111) = .bool false := hP 4 (by kernel_rfl)
            exact rop_bin _ _ _ _ _ rfl e112 e113 (guard_fz .eql _ _ _ _ w') ((eql_fz Gfz f HOKfz.out OKf.out w').trans (by rw [decide_eq_true (HGfz.out z1).1])) (wanted_of (j := 4) (b := false) rfl rfl e111) (hK _ _ (le8_refl _) rfl)
          · intro ac w' hF hL hP hU K hK
            have hB : Below _ _ _ := hL
            have e114 : ac.eval (.tmp 114) = .bool true := hP 7 (by kernel_rfl)
            have e111 : ac.eval (.tmp 111) = .bool false := hP 4 (by kernel_rfl)
            exact rop_move _ rfl e114 (wanted_of (j := 4) (b := false) rfl rfl e111) (hK _ _ (le8_refl _) rfl)
          · intro ac w' hF hL hP hU K hK
            have hB : Below _ _ _ := hL
            have e21 : ac.eval (.tmp 21) = .int .i64 Zfz := hF.at 21 (by kernel_rfl)
            have e115 : ac.eval (.tmp 115) = .bool true := hP 8 (by kernel_rfl)
            exact rop_move _ rfl e21 (wanted_of (j := 8) (b := true) rfl rfl e115) (hK _ _ (le8_refl _) rfl)
          · intro ac w' hF hL hP hU K hK
            have hB : Below _ _ _ := hL
            have e116 : ac.eval (.tmp 116) = .int .i64 Zfz := hP 9 (by kernel_rfl)
            have e115 : ac.eval (.tmp 115) = .bool true := hP 8 (by kernel_rfl)
            exact rop_bin _ _ _ _ _ rfl e116 rfl (guard_int _ _ _ _ _ _ _ w') (eql_err_z _ (HGfz.out z1).2 w') (wanted_of (j := 8) (b := true) rfl rfl e115) (hK _ _ (le8_refl _) rfl)
          · intro ac w' hF hL hP hU K hK
            have hB : Below _ _ _ := hL
            have e115 : ac.eval (.tmp 115) = .bool true := hP 8 (by kernel_rfl)
            have e117 : ac.eval (.tmp 117) = .bool true := hP 10 (by kernel_rfl)
            have e111 : ac.eval (.tmp 111) = .bool false := hP 4 (by kernel_rfl)
            exact rop_pick _ _ _ rfl true e115 (by simpa using e117) (wanted_of (j := 4) (b := false) rfl rfl e111) (hK _ _ (le8_refl _) rfl)
          · intro ac w' hF hL hP hU K hK
            have hB : Below _ _ _ := hL
            have e111 : ac.eval (.tmp 111) = .bool false := hP 4 (by kernel_rfl)
            have e118 : ac.eval (.tmp 118) = .bool true := hP 11 (by kernel_rfl)
            have e108 : ac.eval (.tmp 108) = .bool true := hP 1 (by kernel_rfl)
            exact rop_pick _ _ _ rfl false e111 (by simpa using e118) (wanted_of (j := 1) (b := true) rfl rfl e108) (hK _ _ (le8_refl _) rfl)
          · intro ac w' hF hL hP hU K hK
            have hB : Below _ _ _ := hL
            have e108 : ac.eval (.tmp 108) = .bool true := hP 1 (by kernel_rfl)
            have e119 : ac.eval (.tmp 119) = .bool true := hP 12 (by kernel_rfl)
            exact rop_pick _ _ _ rfl true e108 (by simpa using e119) (wanted_none rfl) (hK _ _ (le8_refl _) rfl)
          · intro ac w' hF hL hP hU K hK
            have hB : Below _ _ _ := hL
            have e120 : ac.eval (.tmp 120) = .bool true := hP 13 (by kernel_rfl)
            exact rop_move _ rfl e120 (wanted_none rfl) (hK _ _ (le8_refl _) rfl)
          · intro ac w' hF hL hP hU K hK
            have hB : Below _ _ _ := hL
            have e13 : ac.eval (.tmp 13) = .int .i64 (hdZ h) := hF.at 13 (by kernel_rfl)
            have e121 : ac.eval (.tmp 121) = .bool true := hP 14 (by kernel_rfl)
            exact rop_move _ rfl e13 (wanted_of (j := 14) (b := true) rfl rfl e121) (hK _ _ (le8_refl _) rfl)
          · intro ac w' hF hL hP hU K hK
            have hB : Below _ _ _ := hL
            have e122 : ac.eval (.tmp 122) = .int .i64 (hdZ h) := hP 15 (by kernel_rfl)
            have e121 : ac.eval (.tmp 121) = .bool true := hP 14 (by kernel_rfl)
            exact rop_bin _ _ _ _ _ rfl e122 rfl (guard_int _ _ _ _ _ _ _ w') (neq_eq0 _ (if_pos z2) w') (wanted_of (j := 14) (b := true) rfl rfl e121) (hK _ _ (le8_refl _) rfl)
          · intro ac w' hF hL hP hU K hK
            have hB : Below _ _ _ := hL
            have e123 : ac.eval (.tmp 123) = .bool false := hP 16 (by kernel_rfl)
            have e121 : ac.eval (.tmp 121) = .bool true := hP 14 (by kernel_rfl)
            exact rop_move _ rfl e123 (wanted_of (j := 14) (b := true) rfl rfl e121) (hK _ _ (le8_refl _) rfl)
          · intro ac w' hF hL hP hU K hK
            have hB : Below _ _ _ := hL
            have e22 : ac.eval (.tmp 22) = .pointer (some ⟨xHXhd, 0, none⟩) := hF.at 22 (by kernel_rfl)
            have e124 : ac.eval (.tmp 124) = .bool false := hP 17 (by kernel_rfl)
            exact rop_ld _ _ rfl e22 (load_hdAt (below_range' hB (Blk.lt HXhd) (Blk.all HXhd)) HOKhd.out.root HOKhd.out.mac) (wanted_of (j := 17) (b := false) rfl rfl e124) (hK _ _ (le8_refl _) rfl)
          · intro ac w' hF hL hP hU K hK
            have hB : Below _ _ _ := hL
            have e4 : ac.eval (.tmp 4) = .pointer (some ⟨q, 0, none⟩) := hF.at 4 (by kernel_rfl)
            have e124 : ac.eval (.tmp 124) = .bool false := hP 17 (by kernel_rfl)
            exact rop_ld _ _ rfl e4 (load_hdAt (below_range' hB (Blk.lt HBh) (Blk.all HBh)) OKh.out.root OKh.out.mac) (wanted_of (j := 17) (b := false) rfl rfl e124) (hK _ _ (le8_refl _) rfl)
          · intro ac w' hF hL hP hU K hK
            have hB : Below _ _ _ := hL
            have e125 : ac.eval (.tmp 125) = .agg (hdCs Ghd).toArray := hP 18 (by kernel_rfl)
            have e126 : ac.eval (.tmp 126) = .agg (hdCs h).toArray := hP 19 (by kernel_rfl)
            have e124 : ac.eval (.tmp 124) = .bool false := hP 17 (by kernel_rfl)
            exact rop_bin _ _ _ _ _ rfl e125 e126 (guard_hd .eql _ _ _ _ w') ((eql_hd Ghd h HOKhd.out OKh.out w').trans (by rw [decide_eq_true (HGhd.out z2).1])) (wanted_of (j := 17) (b := false) rfl rfl e124) (hK _ _ (le8_refl _) rfl)
          · intro ac w' hF hL hP hU K hK
            have hB : Below _ _ _ := hL
            have e127 : ac.eval (.tmp 127) = .bool true := hP 20 (by kernel_rfl)
            have e124 : ac.eval (.tmp 124) = .bool false := hP 17 (by kernel_rfl)
            exact rop_move _ rfl e127 (wanted_of (j := 17) (b := false) rfl rfl e124) (hK _ _ (le8_refl _) rfl)
          · intro ac w' hF hL hP hU K hK
            have hB : Below _ _ _ := hL
            have e23 : ac.eval (.tmp 23) = .int .i64 Zhd := hF.at 23 (by kernel_rfl)
            have e128 : ac.eval (.tmp 128) = .bool true := hP 21 (by kernel_rfl)
            exact rop_move _ rfl e23 (wanted_of (j := 21) (b := true) rfl rfl e128) (hK _ _ (le8_refl _) rfl)
          · intro ac w' hF hL hP hU K hK
            have hB : Below _ _ _ := hL
            have e129 : ac.eval (.tmp 129) = .int .i64 Zhd := hP 22 (by kernel_rfl)
            have e128 : ac.eval (.tmp 128) = .bool true := hP 21 (by kernel_rfl)
            exact rop_bin _ _ _ _ _ rfl e129 rfl (guard_int _ _ _ _ _ _ _ w') (eql_err_z _ (HGhd.out z2).2 w') (wanted_of (j := 21) (b := true) rfl rfl e128) (hK _ _ (le8_refl _) rfl)
          · intro ac w' hF hL hP hU K hK
            have hB : Below _ _ _ := hL
            have e128 : ac.eval (.tmp 128) = .bool true := hP 21 (by kernel_rfl)
            have e130 : ac.eval (.tmp 130) = .bool true := hP 23 (by kernel_rfl)
            have e124 : ac.eval (.tmp 124) = .bool false := hP 17 (by kernel_rfl)
            exact rop_pick _ _ _ rfl true e128 (by simpa using e130) (wanted_of (j := 17) (b := false) rfl rfl e124) (hK _ _ (le8_refl _) rfl)
          · intro ac w' hF hL hP hU K hK
            have hB : Below _ _ _ := hL
            have e124 : ac.eval (.tmp 124) = .bool false := hP 17 (by kernel_rfl)
            have e131 : ac.eval (.tmp 131) = .bool true := hP 24 (by kernel_rfl)
            have e121 : ac.eval (.tmp 121) = .bool true := hP 14 (by kernel_rfl)
            exact rop_pick _ _ _ rfl false e124 (by simpa using e131) (wanted_of (j := 14) (b := true) rfl rfl e121) (hK _ _ (le8_refl _) rfl)
          · intro ac w' hF hL hP hU K hK
            have hB : Below _ _ _ := hL
            have e121 : ac.eval (.tmp 121) = .bool true := hP 14 (by kernel_rfl)
            have e132 : ac.eval (.tmp 132) = .bool true := hP 25 (by kernel_rfl)
            exact rop_pick _ _ _ rfl true e121 (by simpa using e132) (wanted_none rfl) (hK _ _ (le8_refl _) rfl)
          · intro ac w' hF hL hP hU K hK
            have hB : Below _ _ _ := hL
            have e133 : ac.eval (.tmp 133) = .bool true := hP 26 (by kernel_rfl)
            exact rop_move _ rfl e133 (wanted_none rfl) (hK _ _ (le8_refl _) rfl)
          · intro ac w' hF hL hP hU K hK
            have hB : Below _ _ _ := hL
            have e17 : ac.eval (.tmp 17) = .int .i64 (stZ t) := hF.at 17 (by kernel_rfl)
            have e134 : ac.eval (.tmp 134) = .bool true := hP 27 (by kernel_rfl)
            exact rop_move _ rfl e17 (wanted_of (j := 27) (b := true) rfl rfl e134) (hK _ _ (le8_refl _) rfl)
          · intro ac w' hF hL hP hU K hK
            have hB : Below _ _ _ := hL
            have e135 : ac.eval (.tmp 135) = .int .i64 (stZ t) := hP 28 (by kernel_rfl)
            have e134 : ac.eval (.tmp 134) = .bool true := hP 27 (by kernel_rfl)
            exact rop_bin _ _ _ _ _ rfl e135 rfl (guard_int _ _ _ _ _ _ _ w') (neq_eq1 _ (if_neg z3) w') (wanted_of (j := 27) (b := true) rfl rfl e134) (hK _ _ (le8_refl _) rfl)
          · intro ac w' hF hL hP hU K hK
            have hB : Below _ _ _ := hL
            have e136 : ac.eval (.tmp 136) = .bool true := hP 29 (by kernel_rfl)
            have e134 : ac.eval (.tmp 134) = .bool true := hP 27 (by kernel_rfl)
            exact rop_move _ rfl e136 (wanted_of (j := 27) (b := true) rfl rfl e134) (hK _ _ (le8_refl _) rfl)
          · intro ac w' hF hL hP hU K hK
            have hB : Below _ _ _ := hL
            have e137 : ac.eval (.tmp 137) = .bool true := hP 30 (by kernel_rfl)
            exact rop_offG (j := 30) (b := false) rfl rfl e137 (by decide) (hK _ _ (le8_refl _) rfl)
          · intro ac w' hF hL hP hU K hK
            have hB : Below _ _ _ := hL
            have e137 : ac.eval (.tmp 137) = .bool true := hP 30 (by kernel_rfl)
            exact rop_offG (j := 30) (b := false) rfl rfl e137 (by decide) (hK _ _ (le8_refl _) rfl)
          · intro ac w' hF hL hP hU K hK
            have hB : Below _ _ _ := hL
            have e137 : ac.eval (.tmp 137) = .bool true := hP 30 (by kernel_rfl)
            exact rop_offG (j := 30) (b := false) rfl rfl e137 (by decide) (hK _ _ (le8_refl _) rfl)
          · intro ac w' hF hL hP hU K hK
            have hB : Below _ _ _ := hL
            have e137 : ac.eval (.tmp 137) = .bool true := hP 30 (by kernel_rfl)
            exact rop_offG (j := 30) (b := false) rfl rfl e137 (by decide) (hK _ _ (le8_refl _) rfl)
          · intro ac w' hF hL hP hU K hK
            have hB : Below _ _ _ := hL
            have e141 : ac.eval (.tmp 141) = undef := hP 34 (by kernel_rfl)
            exact rop_offU (j := 34) (b := true) rfl rfl e141 (hK _ _ (le8_refl _) rfl)
          · intro ac w' hF hL hP hU K hK
            have hB : Below _ _ _ := hL
            have e141 : ac.eval (.tmp 141) = undef := hP 34 (by kernel_rfl)
            exact rop_offU (j := 34) (b := true) rfl rfl e141 (hK _ _ (le8_refl _) rfl)
          · intro ac w' hF hL hP hU K hK
            have hB : Below _ _ _ := hL
            have e137 : ac.eval (.tmp 137) = .bool true := hP 30 (by kernel_rfl)
            exact rop_offG (j := 30) (b := false) rfl rfl e137 (by decide) (hK _ _ (le8_refl _) rfl)
          · intro ac w' hF hL hP hU K hK
            have hB : Below _ _ _ := hL
            have e137 : ac.eval (.tmp 137) = .bool true := hP 30 (by kernel_rfl)
            have e134 : ac.eval (.tmp 134) = .bool true := hP 27 (by kernel_rfl)
            exact rop_pick _ _ _ rfl true e137 (by rfl) (wanted_of (j := 27) (b := true) rfl rfl e134) (hK _ _ (le8_refl _) rfl)
          · intro ac w' hF hL hP hU K hK
            have hB : Below _ _ _ := hL
            have e134 : ac.eval (.tmp 134) = .bool true := hP 27 (by kernel_rfl)
            have e145 : ac.eval (.tmp 145) = .bool true := hP 38 (by kernel_rfl)
            exact rop_pick _ _ _ rfl true e134 (by simpa using e145) (wanted_none rfl) (hK _ _ (le8_refl _) rfl)
          · intro ac w' hF hL hP hU K hK
            have hB : Below _ _ _ := hL
            have e146 : ac.eval (.tmp 146) = .bool true := hP 39 (by kernel_rfl)
            exact rop_assign _ rfl e146 (wanted_none rfl) (hK _ _ (le8_refl _) rfl)
          · intro ac w' hF hB hT
            have e6 : ac.eval (.tmp 6) = .bool true := hT 40 (by decide)
            rw [hF.setsG [107, 108, 109, 110, 111, 112, 113, 114, 115, 116, 117, 118, 119, 120, 121, 122, 123, 124, 125, 126, 127, 128, 129, 130, 131, 132, 133, 134, 135, 136, 137, 138, 139, 140, 141, 142, 143, 144, 145, 146, 6] (by kernel_rfl)]
            simp only [List.foldl_cons, List.foldl_nil, List.setIfInBounds_toArray, List.set_cons_succ, List.set_cons_zero, e6]
            generalize ac.eval (.tmp 107) = u107
            generalize ac.eval (.tmp 108) = u108
            generalize ac.eval (.tmp 109) = u109
            generalize ac.eval (.tmp 110) = u110
            generalize ac.eval (.tmp 111) = u111
            generalize ac.eval (.tmp 112) = u112
            generalize ac.eval (.tmp 113) = u113
            generalize ac.eval (.tmp 114) = u114
            generalize ac.eval (.tmp 115) = u115
            generalize ac.eval (.tmp 116) = u116
            generalize ac.eval (.tmp 117) = u117
            generalize ac.eval (.tmp 118) = u118
            generalize ac.eval (.tmp 119) = u119
            generalize ac.eval (.tmp 120) = u120
            generalize ac.eval (.tmp 121) = u121
            generalize ac.eval (.tmp 122) = u122
            generalize ac.eval (.tmp 123) = u123
            generalize ac.eval (.tmp 124) = u124
            generalize ac.eval (.tmp 125) = u125
            generalize ac.eval (.tmp 126) = u126
            generalize ac.eval (.tmp 127) = u127
            generalize ac.eval (.tmp 128) = u128
            generalize ac.eval (.tmp 129) = u129
            generalize ac.eval (.tmp 130) = u130
            generalize ac.eval (.tmp 131) = u131
            generalize ac.eval (.tmp 132) = u132
            generalize ac.eval (.tmp 133) = u133
            generalize ac.eval (.tmp 134) = u134
            generalize ac.eval (.tmp 135) = u135
            generalize ac.eval (.tmp 136) = u136
            generalize ac.eval (.tmp 137) = u137
            generalize ac.eval (.tmp 138) = u138
            generalize ac.eval (.tmp 139) = u139
            generalize ac.eval (.tmp 140) = u140
            generalize ac.eval (.tmp 141) = u141
            generalize ac.eval (.tmp 142) = u142
            generalize ac.eval (.tmp 143) = u143
            generalize ac.eval (.tmp 144) = u144
            generalize ac.eval (.tmp 145) = u145
            generalize ac.eval (.tmp 146) = u146
            clear e6 hT hF ac
            have hbw := below_step hb (Nat.le_refl _) hB
            clear hB
            go_wp2
            go_ret
            exact ⟨rfl, hbw⟩
      · by_cases z3 : stB t = true
        · skip
          try simp only [Act.put]
          refine wp_region_tab0 [RT.is (.bool true), RT.is (.bool true), RT.is (.int .i64 (fzZ f)), RT.is (.bool false), RT.is (.bool false), RT.is (.agg (fzCs Gfz).toArray), RT.is (.agg (fzCs f).toArray), RT.is (.bool true), RT.is (.bool true), RT.is (.int .i64 Zfz), RT.is (.bool true), RT.is (.bool true), RT.is (.bool true), RT.is (.bool true), RT.is (.bool true), RT.is (.int .i64 (hdZ h)), RT.is (.bool true), RT.is (.bool true), RT.is undef, RT.is undef, RT.is undef, RT.is undef, RT.is undef, RT.is undef, RT.is undef, RT.is (.bool true), RT.is (.bool true), RT.is (.bool true), RT.is (.int .i64 (stZ t)), RT.is (.bool false), RT.is (.bool false), RT.is (.agg (stCs Gst).toArray), RT.is (.agg (stCs t).toArray), RT.is (.bool true), RT.is (.bool true), RT.is (.int .i64 Zst), RT.is (.bool true), RT.is (.bool true), RT.is (.bool true), RT.is (.bool true), RT.is (.bool true)] (by kernel_rfl) (by kernel_rfl) (by kernel_rfl) ⟨?_, ?_, ?_, ?_, ?_, ?_, ?_, ?_, ?_, ?_, ?_, ?_, ?_, ?_, ?_, ?_, ?_, ?_, ?_, ?_, ?_, ?_, ?_, ?_, ?_, ?_, ?_, ?_, ?_, ?_, ?_, ?_, ?_, ?_, ?_, ?_, ?_, ?_, ?_, ?_, ?_, trivial⟩ ?_
          · intro ac w' hF hL hP hU K hK
            have hB : Below _ _ _ := hL
            have e7 : ac.eval (.tmp 7) = .bool true := hF.at 7 (by kernel_rfl)
            exact rop_move _ rfl e7 (wanted_none rfl) (hK _ _ (le8_refl _) rfl)
          · intro ac w' hF hL hP hU K hK
            have hB : Below _ _ _ := hL
            have e107 : ac.eval (.tmp 107) = .bool true := hP 0 (by kernel_rfl)
            exact rop_move _ rfl e107 (wanted_none rfl) (hK _ _ (le8_refl _) rfl)
          · intro ac w' hF hL hP hU K hK
            have hB : Below _ _ _ := hL
            have e9 : ac.eval (.tmp 9) = .int .i64 (fzZ f) := hF.at 9 (by kernel_rfl)
            have e108 : ac.eval (.tmp 108) = .bool true := hP 1 (by kernel_rfl)
            exact rop_move _ rfl e9 (wanted_of (j := 1) (b := true) rfl rfl e108) (hK _ _ (le8_refl _) rfl)
          · intro ac w' hF hL hP hU K hK
            have hB : Below _ _ _ := hL
            have e109 : ac.eval (.tmp 109) = .int .i64 (fzZ f) := hP 2 (by kernel_rfl)
            have e108 : ac.eval (.tmp 108) = .bool true := hP 1 (by kernel_rfl)
            exact rop_bin _ _ _ _ _ rfl e109 rfl (guard_int _ _ _ _ _ _ _ w') (neq_eq0 _ (if_pos z1) w') (wanted_of (j := 1) (b := true) rfl rfl e108) (hK _ _ (le8_refl _) rfl)
          · intro ac w' hF hL hP hU K hK
            have hB : Below _ _ _ := hL
            have e110 : ac.eval (.tmp 110) = .bool false := hP 3 (by kernel_rfl)
            have e108 : ac.eval (.tmp 108) = .bool true := hP 1 (by kernel_rfl)
            exact rop_move _ rfl e110 (wanted_of (j := 1) (b := true) rfl rfl e108) (hK _ _ (le8_refl _) rfl)
          · intro ac w' hF hL hP hU K hK
            have hB : Below _ _ _ := hL
            have e20 : ac.eval (.tmp 20) = .pointer (some ⟨xHXfz, 0, none⟩) := hF.at 20 (by kernel_rfl)
            have e111 : ac.eval (.tmp 111) = .bool false := hP 4 (by kernel_rfl)
            exact rop_ld _ _ rfl e20 (load_fzAt (below_range' hB (Blk.lt HXfz) (Blk.all HXfz)) HOKfz.out.root) (wanted_of (j := 4) (b := false) rfl rfl e111) (hK _ _ (le8_refl _) rfl)
          · intro ac w' hF hL hP hU K hK
            have hB : Below _ _ _ := hL
            have e3 : ac.eval (.tmp 3) = .pointer (some ⟨p, 0, none⟩) := hF.at 3 (by kernel_rfl)
            have e111 : ac.eval (.tmp 111) = .bool false := hP 4 (by kernel_rfl)
            exact rop_ld _ _ rfl e3 (load_fzAt (below_range' hB (Blk.lt HBf) (Blk.all HBf)) OKf.out.root) (wanted_of (j := 4) (b := false) rfl rfl e111) (hK _ _ (le8_refl _) rfl)
          · intro ac w' hF hL hP hU K hK
            have hB : Below _ _ _ := hL
            have e112 : ac.eval (.tmp 112) = .agg (fzCs Gfz).toArray := hP 5 (by kernel_rfl)
            have e113 : ac.eval (.tmp 113) = .agg (fzCs f).toArray := hP 6 (by kernel_rfl)
            have e111 : ac.eval (.tmp 111) = .bool false := hP 4 (by kernel_rfl)
            exact rop_bin _ _ _ _ _ rfl e112 e113 (guard_fz .eql _ _ _ _ w') ((eql_fz Gfz f HOKfz.out OKf.out w').trans (by rw [decide_eq_true (HGfz.out z1).1])) (wanted_of (j := 4) (b := false) rfl rfl e111) (hK _ _ (le8_refl _) rfl)
          · intro ac w' hF hL hP hU K hK
            have hB : Below _ _ _ := hL
            have e114 : ac.eval (.tmp 114) = .bool true := hP 7 (by kernel_rfl)
            have e111 : ac.eval (.tmp 111) = .bool false := hP 4 (by kernel_rfl)
            exact rop_move _ rfl e114 (wanted_of (j := 4) (b := false) rfl rfl e111) (hK _ _ (le8_refl _) rfl)
          · intro ac w' hF hL hP hU K hK
            have hB : Below _ _ _ := hL
            have e21 : ac.eval (.tmp 21) = .int .i64 Zfz := hF.at 21 (by kernel_rfl)
            have e115 : ac.eval (.tmp 115) = .bool true := hP 8 (by kernel_rfl)
            exact rop_move _ rfl e21 (wanted_of (j := 8) (b := true) rfl rfl e115) (hK _ _ (le8_refl _) rfl)
          · intro ac w' hF hL hP hU K hK
            have hB : Below _ _ _ := hL
            have e116 : ac.eval (.tmp 116) = .int .i64 Zfz := hP 9 (by kernel_rfl)
            have e115 : ac.eval (.tmp 115) = .bool true := hP 8 (by kernel_rfl)
            exact rop_bin _ _ _ _ _ rfl e116 rfl (guard_int _ _ _ _ _ _ _ w') (eql_err_z _ (HGfz.out z1).2 w') (wanted_of (j := 8) (b := true) rfl rfl e115) (hK _ _ (le8_refl _) rfl)
          · intro ac w' hF hL hP hU K hK
            have hB : Below _ _ _ := hL
            have e115 : ac.eval (.tmp 115) = .bool true := hP 8 (by kernel_rfl)
            have e117 : ac.eval (.tmp 117) = .bool true := hP 10 (by kernel_rfl)
            have e111 : ac.eval (.tmp 111) = .bool false := hP 4 (by kernel_rfl)
            exact rop_pick _ _ _ rfl true e115 (by simpa using e117) (wanted_of (j := 4) (b := false) rfl rfl e111) (hK _ _ (le8_refl _) rfl)
          · intro ac w' hF hL hP hU K hK
            have hB : Below _ _ _ := hL
            have e111 : ac.eval (.tmp 111) = .bool false := hP 4 (by kernel_rfl)
            have e118 : ac.eval (.tmp 118) = .bool true := hP 11 (by kernel_rfl)
            have e108 : ac.eval (.tmp 108) = .bool true := hP 1 (by kernel_rfl)
            exact rop_pick _ _ _ rfl false e111 (by simpa using e118) (wanted_of (j := 1) (b := true) rfl rfl e108) (hK _ _ (le8_refl _) rfl)
          · intro ac w' hF hL hP hU K hK
            have hB : Below _ _ _ := hL
            have e108 : ac.eval (.tmp 108) = .bool true := hP 1 (by kernel_rfl)
            have e119 : ac.eval (.tmp 119) = .bool true := hP 12 (by kernel_rfl)
            exact rop_pick _ _ _ rfl true e108 (by simpa using e119) (wanted_none rfl) (hK _ _ (le8_refl _) rfl)
          · intro ac w' hF hL hP hU K hK
            have hB : Below _ _ _ := hL
            have e120 : ac.eval (.tmp 120) = .bool true := hP 13 (by kernel_rfl)
            exact rop_move _ rfl e120 (wanted_none rfl) (hK _ _ (le8_refl _) rfl)
          · intro ac w' hF hL hP hU K hK
            have hB : Below _ _ _ := hL
            have e13 : ac.eval (.tmp 13) = .int .i64 (hdZ h) := hF.at 13 (by kernel_rfl)
            have e121 : ac.eval (.tmp 121) = .bool true := hP 14 (by kernel_rfl)
            exact rop_move _ rfl e13 (wanted_of (j := 14) (b := true) rfl rfl e121) (hK _ _ (le8_refl _) rfl)
          · intro ac w' hF hL hP hU K hK
            have hB : Below _ _ _ := hL
            have e122 : ac.eval (.tmp 122) = .int .i64 (hdZ h) := hP 15 (by kernel_rfl)
            have e121 : ac.eval (.tmp 121) = .bool true := hP 14 (by kernel_rfl)
            exact rop_bin _ _ _ _ _ rfl e122 rfl (guard_int _ _ _ _ _ _ _ w') (neq_eq1 _ (if_neg z2) w') (wanted_of (j := 14) (b := true) rfl rfl e121) (hK _ _ (le8_refl _) rfl)
          · intro ac w' hF hL hP hU K hK
            have hB : Below _ _ _ := hL
            have e123 : ac.eval (.tmp 123) = .bool true := hP 16 (by kernel_rfl)
            have e121 : ac.eval (.tmp 121) = .bool true := hP 14 (by kernel_rfl)
            exact rop_move _ rfl e123 (wanted_of (j := 14) (b := true) rfl rfl e121) (hK _ _ (le8_refl _) rfl)
          · intro ac w' hF hL hP hU K hK
            have hB : Below _ _ _ := hL
            have e124 : ac.eval (.tmp 124) = .bool true := hP 17 (by kernel_rfl)
            exact rop_offG (j := 17) (b := false) rfl rfl e124 (by decide) (hK _ _ (le8_refl _) rfl)
          · intro ac w' hF hL hP hU K hK
            have hB : Below _ _ _ := hL
            have e124 : ac.eval (.tmp 124) = .bool true := hP 17 (by kernel_rfl)
            exact rop_offG (j := 17) (b := false) rfl rfl e124 (by decide) (hK _ _ (le8_refl _) rfl)
          · intro ac w' hF hL hP hU K hK
            have hB : Below _ _ _ := hL
            have e124 : ac.eval (.tmp 124) = .bool true := hP 17 (by kernel_rfl)
            exact rop_offG (j := 17) (b := false) rfl rfl e124 (by decide) (hK _ _ (le8_refl _) rfl)
          · intro ac w' hF hL hP hU K hK
            have hB : Below _ _ _ := hL
            have e124 : ac.eval (.tmp 124) = .bool true := hP 17 (by kernel_rfl)
            exact rop_offG (j := 17) (b := false) rfl rfl e124 (by decide) (hK _ _ (le8_refl _) rfl)
          · intro ac w' hF hL hP hU K hK
            have hB : Below _ _ _ := hL
            have e128 : ac.eval (.tmp 128) = undef := hP 21 (by kernel_rfl)
            exact rop_offU (j := 21) (b := true) rfl rfl e128 (hK _ _ (le8_refl _) rfl)
          · intro ac w' hF hL hP hU K hK
            have hB : Below _ _ _ := hL
            have e128 : ac.eval (.tmp 128) = undef := hP 21 (by kernel_rfl)
            exact rop_offU (j := 21) (b := true) rfl rfl e128 (hK _ _ (le8_refl _) rfl)
          · intro ac w' hF hL hP hU K hK
            have hB : Below _ _ _ := hL
            have e124 : ac.eval (.tmp 124) = .bool true := hP 17 (by kernel_rfl)
            exact rop_offG (j := 17) (b := false) rfl rfl e124 (by decide) (hK _ _ (le8_refl _) rfl)
          · intro ac w' hF hL hP hU K hK
            have hB : Below _ _ _ := hL
            have e124 : ac.eval (.tmp 124) = .bool true := hP 17 (by kernel_rfl)
            have e121 : ac.eval (.tmp 121) = .bool true := hP 14 (by kernel_rfl)
            exact rop_pick _ _ _ rfl true e124 (by rfl) (wanted_of (j := 14) (b := true) rfl rfl e121) (hK _ _ (le8_refl _) rfl)
          · intro ac w' hF hL hP hU K hK
            have hB : Below _ _ _ := hL
            have e121 : ac.eval (.tmp 121) = .bool true := hP 14 (by kernel_rfl)
            have e132 : ac.eval (.tmp 132) = .bool true := hP 25 (by kernel_rfl)
            exact rop_pick _ _ _ rfl true e121 (by simpa using e132) (wanted_none rfl) (hK _ _ (le8_refl _) rfl)
          · intro ac w' hF hL hP hU K hK
            have hB : Below _ _ _ := hL
            have e133 : ac.eval (.tmp 133) = .bool true := hP 26 (by kernel_rfl)
            exact rop_move _ rfl e133 (wanted_none rfl) (hK _ _ (le8_refl _) rfl)
          · intro ac w' hF hL hP hU K hK
            have hB : Below _ _ _ := hL
            have e17 : ac.eval (.tmp 17) = .int .i64 (stZ t) := hF.at 17 (by kernel_rfl)
            have e134 : ac.eval (.tmp 134) = .bool true := hP 27 (by kernel_rfl)
            exact rop_move _ rfl e17 (wanted_of (j := 27) (b := true) rfl rfl e134) (hK _ _ (le8_refl _) rfl)
          · intro ac w' hF hL hP hU K hK
            have hB : Below _ _ _ := hL
            have e135 : ac.eval (.tmp 135) = .int .i64 (stZ t) := hP 28 (by kernel_rfl)
            have e134 : ac.eval (.tmp 134) = .bool true := hP 27 (by kernel_rfl)
            exact rop_bin _ _ _ _ _ rfl e135 rfl (guard_int _ _ _ _ _ _ _ w') (neq_eq0 _ (if_pos z3) w') (wanted_of (j := 27) (b := true) rfl rfl e134) (hK _ _ (le8_refl _) rfl)
          · intro ac w' hF hL hP hU K hK
            have hB : Below _ _ _ := hL
            have e136 : ac.eval (.tmp 136) = .bool false := hP 29 (by kernel_rfl)
            have e134 : ac.eval (.tmp 134) = .bool true := hP 27 (by kernel_rfl)
            exact rop_move _ rfl e136 (wanted_of (j := 27) (b := true) rfl rfl e134) (hK _ _ (le8_refl _) rfl)
          · intro ac w' hF hL hP hU K hK
            have hB : Below _ _ _ := hL
            have e24 : ac.eval (.tmp 24) = .pointer (some ⟨xHXst, 0, none⟩) := hF.at 24 (by kernel_rfl)
            have e137 : ac.eval (.tmp 137) = .bool false := hP 30 (by kernel_rfl)
            exact rop_ld _ _ rfl e24 (load_stAt (below_range' hB (Blk.lt HXst) (Blk.all HXst)) HOKst.out.fz.root HOKst.out.mac) (wanted_of (j := 30) (b := false) rfl rfl e137) (hK _ _ (le8_refl _) rfl)
          · intro ac w' hF hL hP hU K hK
            have hB : Below _ _ _ := hL
            have e5 : ac.eval (.tmp 5) = .pointer (some ⟨r, 0, none⟩) := hF.at 5 (by kernel_rfl)
            have e137 : ac.eval (.tmp 137) = .bool false := hP 30 (by kernel_rfl)
            exact rop_ld _ _ rfl e5 (load_stAt (below_range' hB (Blk.lt HBt) (Blk.all HBt)) OKt.out.fz.root OKt.out.mac) (wanted_of (j := 30) (b := false) rfl rfl e137) (hK _ _ (le8_refl _) rfl)
          · intro ac w' hF hL hP hU K hK
            have hB : Below _ _ _ := hL
            have e138 : ac.eval (.tmp 138) = .agg (stCs Gst).toArray := hP 31 (by kernel_rfl)
            have e139 : ac.eval (.tmp 139) = .agg (stCs t).toArray := hP 32 (by kernel_rfl)
            have e137 : ac.eval (.tmp 137) = .bool false := hP 30 (by kernel_rfl)
            exact rop_bin _ _ _ _ _ rfl e138 e139 (guard_st .eql _ _ _ _ w') ((eql_st Gst t HOKst.out OKt.out w').trans (by rw [decide_eq_true (HGst.out z3).1])) (wanted_of (j := 30) (b := false) rfl rfl e137) (hK _ _ (le8_refl _) rfl)
          · intro ac w' hF hL hP hU K hK
            have hB : Below _ _ _ := hL
            have e140 : ac.eval (.tmp 140) = .bool true := hP 33 (by kernel_rfl)
            have e137 : ac.eval (.tmp 137) = .bool false := hP 30 (by kernel_rfl)
            exact rop_move _ rfl e140 (wanted_of (j := 30) (b := false) rfl rfl e137) (hK _ _ (le8_refl _) rfl)
          · intro ac w' hF hL hP hU K hK
            have hB : Below _ _ _ := hL
            have e25 : ac.eval (.tmp 25) = .int .i64 Zst := hF.at 25 (by kernel_rfl)
            have e141 : ac.eval (.tmp 141) = .bool true := hP 34 (by kernel_rfl)
            exact rop_move _ rfl e25 (wanted_of (j := 34) (b := true) rfl rfl e141) (hK _ _ (le8_refl _) rfl)
          · intro ac w' hF hL hP hU K hK
            have hB : Below _ _ _ := hL
            have e142 : ac.eval (.tmp 142) = .int .i64 Zst := hP 35 (by kernel_rfl)
            have e141 : ac.eval (.tmp 141) = .bool true := hP 34 (by kernel_rfl)
            exact rop_bin _ _ _ _ _ rfl e142 rfl (guard_int _ _ _ _ _ _ _ w') (eql_err_z _ (HGst.out z3).2 w') (wanted_of (j := 34) (b := true) rfl rfl e141) (hK _ _ (le8_refl _) rfl)
          · intro ac w' hF hL hP hU K hK
            have hB : Below _ _ _ := hL
            have e141 : ac.eval (.tmp 141) = .bool true := hP 34 (by kernel_rfl)
            have e143 : ac.eval (.tmp 143) = .bool true := hP 36 (by kernel_rfl)
            have e137 : ac.eval (.tmp 137) = .bool false := hP 30 (by kernel_rfl)
            exact rop_pick _ _ _ rfl true e141 (by simpa using e143) (wanted_of (j := 30) (b := false) rfl rfl e137) (hK _ _ (le8_refl _) rfl)
          · intro ac w' hF hL hP hU K hK
            have hB : Below _ _ _ := hL
            have e137 : ac.eval (.tmp 137) = .bool false := hP 30 (by kernel_rfl)
            have e144 : ac.eval (.tmp 144) = .bool true := hP 37 (by kernel_rfl)
            have e134 : ac.eval (.tmp 134) = .bool true := hP 27 (by kernel_rfl)
            exact rop_pick _ _ _ rfl false e137 (by simpa using e144) (wanted_of (j := 27) (b := true) rfl rfl e134) (hK _ _ (le8_refl _) rfl)
          · intro ac w' hF hL hP hU K hK
            have hB : Below _ _ _ := hL
            have e134 : ac.eval (.tmp 134) = .bool true := hP 27 (by kernel_rfl)
            have e145 : ac.eval (.tmp 145) = .bool true := hP 38 (by kernel_rfl)
            exact rop_pick _ _ _ rfl true e134 (by simpa using e145) (wanted_none rfl) (hK _ _ (le8_refl _) rfl)
          · intro ac w' hF hL hP hU K hK
            have hB : Below _ _ _ := hL
            have e146 : ac.eval (.tmp 146) = .bool true := hP 39 (by kernel_rfl)
            exact rop_assign _ rfl e146 (wanted_none rfl) (hK _ _ (le8_refl _) rfl)
          · intro ac w' hF hB hT
            have e6 : ac.eval (.tmp 6) = .bool true := hT 40 (by decide)
            rw [hF.setsG [107, 108, 109, 110, 111, 112, 113, 114, 115, 116, 117, 118, 119, 120, 121, 122, 123, 124, 125, 126, 127, 128, 129, 130, 131, 132, 133, 134, 135, 136, 137, 138, 139, 140, 141, 142, 143, 144, 145, 146, 6] (by kernel_rfl)]
            simp only [List.foldl_cons, List.foldl_nil, List.setIfInBounds_toArray, List.set_cons_succ, List.set_cons_zero, e6]
            generalize ac.eval (.tmp 107) = u107
            generalize ac.eval (.tmp 108) = u108
            generalize ac.eval (.tmp 109) = u109
            generalize ac.eval (.tmp 110) = u110
            generalize ac.eval (.tmp 111) = u111
            generalize ac.eval (.tmp 112) = u112
            generalize ac.eval (.tmp 113) = u113
            generalize ac.eval (.tmp 114) = u114
            generalize ac.eval (.tmp 115) = u115
            generalize ac.eval (.tmp 116) = u116
            generalize ac.eval (.tmp 117) = u117
            generalize ac.eval (.tmp 118) = u118
            generalize ac.eval (.tmp 119) = u119
            generalize ac.eval (.tmp 120) = u120
            generalize ac.eval (.tmp 121) = u121
            generalize ac.eval (.tmp 122) = u122
            generalize ac.eval (.tmp 123) = u123
            generalize ac.eval (.tmp 124) = u124
            generalize ac.eval (.tmp 125) = u125
            generalize ac.eval (.tmp 126) = u126
            generalize ac.eval (.tmp 127) = u127
            generalize ac.eval (.tmp 128) = u128
            generalize ac.eval (.tmp 129) = u129
            generalize ac.eval (.tmp 130) = u130
            generalize ac.eval (.tmp 131) = u131
            generalize ac.eval (.tmp 132) = u132
            generalize ac.eval (.tmp 133) = u133
            generalize ac.eval (.tmp 134) = u134
            generalize ac.eval (.tmp 135) = u135
            generalize ac.eval (.tmp 136) = u136
            generalize ac.eval (.tmp 137) = u137
            generalize ac.eval (.tmp 138) = u138
            generalize ac.eval (.tmp 139) = u139
            generalize ac.eval (.tmp 140) = u140
            generalize ac.eval (.tmp 141) = u141
            generalize ac.eval (.tmp 142) = u142
            generalize ac.eval (.tmp 143) = u143
            generalize ac.eval (.tmp 144) = u144
            generalize ac.eval (.tmp 145) = u145
            generalize ac.eval (.tmp 146) = u146
            clear e6 hT hF ac
            have hbw := below_step hb (Nat.le_refl _) hB
            clear hB
            go_wp2
            go_ret
            exact ⟨rfl, hbw⟩
        · skip
          try simp only [Act.put]
          refine wp_region_tab0 [RT.is (.bool true), RT.is (.bool true), RT.is (.int .i64 (fzZ f)), RT.is (.bool false), RT.is (.bool false), RT.is (.agg (fzCs Gfz).toArray), RT.is (.agg (fzCs f).toArray), RT.is (.bool true), RT.is (.bool true), RT.is (.int .i64 Zfz), RT.is (.bool true), RT.is (.bool true), RT.is (.bool true), RT.is (.bool true), RT.is (.bool true), RT.is (.int .i64 (hdZ h)), RT.is (.bool true), RT.is (.bool true), RT.is undef, RT.is undef, RT.is undef, RT.is undef, RT.is undef, RT.is undef, RT.is undef, RT.is (.bool true), RT.is (.bool true), RT.is (.bool true), RT.is (.int .i64 (stZ t)), RT.is (.bool true), RT.is (.bool true), RT.is undef, RT.is undef, RT.is undef, RT.is undef, RT.is undef, RT.is undef, RT.is undef, RT.is (.bool true), RT.is (.bool true), RT.is (.bool true)] (by kernel_rfl) (by kernel_rfl) (by kernel_rfl) ⟨?_, ?_, ?_, ?_, ?_, ?_, ?_, ?_, ?_, ?_, ?_, ?_, ?_, ?_, ?_, ?_, ?_, ?_, ?_, ?_, ?_, ?_, ?_, ?_, ?_, ?_, ?_, ?_, ?_, ?_, ?_, ?_, ?_, ?_, ?_, ?_, ?_, ?_, ?_, ?_, ?_, trivial⟩ ?_
          · intro ac w' hF hL hP hU K hK
            have hB : Below _ _ _ := hL
            have e7 : ac.eval (.tmp 7) = .bool true := hF.at 7 (by kernel_rfl)
            exact rop_move _ rfl e7 (wanted_none rfl) (hK _ _ (le8_refl _) rfl)
          · intro ac w' hF hL hP hU K hK
            have hB : Below _ _ _ := hL
            have e107 : ac.eval (.tmp 107) = .bool true := hP 0 (by kernel_rfl)
            exact rop_move _ rfl e107 (wanted_none rfl) (hK _ _ (le8_refl _) rfl)
          · intro ac w' hF hL hP hU K hK
            have hB : Below _ _ _ := hL
            have e9 : ac.eval (.tmp 9) = .int .i64 (fzZ f) := hF.at 9 (by kernel_rfl)
            have e108 : ac.eval (.tmp 108) = .bool true := hP 1 (by kernel_rfl)
            exact rop_move _ rfl e9 (wanted_of (j := 1) (b := true) rfl rfl e108) (hK _ _ (le8_refl _) rfl)
          · intro ac w' hF hL hP hU K hK
            have hB : Below _ _ _ := hL
            have e109 : ac.eval (.tmp 109) = .int .i64 (fzZ f) := hP 2 (by kernel_rfl)
            have e108 : ac.eval (.tmp 108) = .bool true := hP 1 (by kernel_rfl)
            exact rop_bin _ _ _ _ _ rfl e109 rfl (guard_int _ _ _ _ _ _ _ w') (neq_eq0 _ (if_pos z1) w') (wanted_of (j := 1) (b := true) rfl rfl e108) (hK _ _ (le8_refl _) rfl)
          · intro ac w' hF hL hP hU K hK
            have hB : Below _ _ _ := hL
            have e110 : ac.eval (.tmp 110) = .bool false := hP 3 (by kernel_rfl)
            have e108 : ac.eval (.tmp 108) = .bool true := hP 1 (by kernel_rfl)
            exact rop_move _ rfl e110 (wanted_of (j := 1) (b := true) rfl rfl e108) (hK _ _ (le8_refl _) rfl)
          · intro ac w' hF hL hP hU K hK
            have hB : Below _ _ _ := hL
            have e20 : ac.eval (.tmp 20) = .pointer (some ⟨xHXfz, 0, none⟩) := hF.at 20 (by kernel_rfl)
            have e111 : ac.eval (.tmp 111) = .bool false := hP 4 (by kernel_rfl)
            exact rop_ld _ _ rfl e20 (load_fzAt (below_range' hB (Blk.lt HXfz) (Blk.all HXfz)) HOKfz.out.root) (wanted_of (j := 4) (b := false) rfl rfl e111) (hK _ _ (le8_refl _) rfl)
          · intro ac w' hF hL hP hU K hK
            have hB : Below _ _ _ := hL
            have e3 : ac.eval (.tmp 3) = .pointer (some ⟨p, 0, none⟩) := hF.at 3 (by kernel_rfl)
            have e111 : ac.eval (.tmp 111) = .bool false := hP 4 (by kernel_rfl)
            exact rop_ld _ _ rfl e3 (load_fzAt (below_range' hB (Blk.lt HBf) (Blk.all HBf)) OKf.out.root) (wanted_of (j := 4) (b := false) rfl rfl e111) (hK _ _ (le8_refl _) rfl)
          · intro ac w' hF hL hP hU K hK
            have hB : Below _ _ _ := hL
            have e112 : ac.eval (.tmp 112) = .agg (fzCs Gfz).toArray := hP 5 (by kernel_rfl)
            have e113 : ac.eval (.tmp 113) = .agg (fzCs f).toArray := hP 6 (by kernel_rfl)
            have e111 : ac.eval (.tmp 111) = .bool false := hP 4 (by kernel_rfl)
            exact rop_bin _ _ _ _ _ rfl e112 e113 (guard_fz .eql _ _ _ _ w') ((eql_fz Gfz f HOKfz.out OKf.out w').trans (by rw [decide_eq_true (HGfz.out z1).1])) (wanted_of (j := 4) (b := false) rfl rfl e111) (hK _ _ (le8_refl _) rfl)
          · intro ac w' hF hL hP hU K hK
            have hB : Below _ _ _ := hL
            have e114 : ac.eval (.tmp 114) = .bool true := hP 7 (by kernel_rfl)
            have e111 : ac.eval (.tmp 111) = .bool false := hP 4 (by kernel_rfl)
            exact rop_move _ rfl e114 (wanted_of (j := 4) (b := false) rfl rfl e111) (hK _ _ (le8_refl _) rfl)
          · intro ac w' hF hL hP hU K hK
            have hB : Below _ _ _ := hL
            have e21 : ac.eval (.tmp 21) = .int .i64 Zfz := hF.at 21 (by kernel_rfl)
            have e115 : ac.eval (.tmp 115) = .bool true := hP 8 (by kernel_rfl)
            exact rop_move _ rfl e21 (wanted_of (j := 8) (b := true) rfl rfl e115) (hK _ _ (le8_refl _) rfl)
          · intro ac w' hF hL hP hU K hK
            have hB : Below _ _ _ := hL
            have e116 : ac.eval (.tmp 116) = .int .i64 Zfz := hP 9 (by kernel_rfl)
            have e115 : ac.eval (.tmp 115) = .bool true := hP 8 (by kernel_rfl)
            exact rop_bin _ _ _ _ _ rfl e116 rfl (guard_int _ _ _ _ _ _ _ w') (eql_err_z _ (HGfz.out z1).2 w') (wanted_of (j := 8) (b := true) rfl rfl e115) (hK _ _ (le8_refl _) rfl)
          · intro ac w' hF hL hP hU K hK
            have hB : Below _ _ _ := hL
            have e115 : ac.eval (.tmp 115) = .bool true := hP 8 (by kernel_rfl)
            have e117 : ac.eval (.tmp 117) = .bool true := hP 10 (by kernel_rfl)
            have e111 : ac.eval (.tmp 111) = .bool false := hP 4 (by kernel_rfl)
            exact rop_pick _ _ _ rfl true e115 (by simpa using e117) (wanted_of (j := 4) (b := false) rfl rfl e111) (hK _ _ (le8_refl _) rfl)
          · intro ac w' hF hL hP hU K hK
            have hB : Below _ _ _ := hL
            have e111 : ac.eval (.tmp 111) = .bool false := hP 4 (by kernel_rfl)
            have e118 : ac.eval (.tmp 118) = .bool true := hP 11 (by kernel_rfl)
            have e108 : ac.eval (.tmp 108) = .bool true := hP 1 (by kernel_rfl)
            exact rop_pick _ _ _ rfl false e111 (by simpa using e118) (wanted_of (j := 1) (b := true) rfl rfl e108) (hK _ _ (le8_refl _) rfl)
          · intro ac w' hF hL hP hU K hK
            have hB : Below _ _ _ := hL
            have e108 : ac.eval (.tmp 108) = .bool true := hP 1 (by kernel_rfl)
            have e119 : ac.eval (.tmp 119) = .bool true := hP 12 (by kernel_rfl)
            exact rop_pick _ _ _ rfl true e108 (by simpa using e119) (wanted_none rfl) (hK _ _ (le8_refl _) rfl)
          · intro ac w' hF hL hP hU K hK
            have hB : Below _ _ _ := hL
            have e120 : ac.eval (.tmp 120) = .bool true := hP 13 (by kernel_rfl)
            exact rop_move _ rfl e120 (wanted_none rfl) (hK _ _ (le8_refl _) rfl)
          · intro ac w' hF hL hP hU K hK
            have hB : Below _ _ _ := hL
            have e13 : ac.eval (.tmp 13) = .int .i64 (hdZ h) := hF.at 13 (by kernel_rfl)
            have e121 : ac.eval (.tmp 121) = .bool true := hP 14 (by kernel_rfl)
            exact rop_move _ rfl e13 (wanted_of (j := 14) (b := true) rfl rfl e121) (hK _ _ (le8_refl _) rfl)
          · intro ac w' hF hL hP hU K hK
            have hB : Below _ _ _ := hL
            have e122 : ac.eval (.tmp 122) = .int .i64 (hdZ h) := hP 15 (by kernel_rfl)
            have e121 : ac.eval (.tmp 121) = .bool true := hP 14 (by kernel_rfl)
            exact rop_bin _ _ _ _ _ rfl e122 rfl (guard_int _ _ _ _ _ _ _ w') (neq_eq1 _ (if_neg z2) w') (wanted_of (j := 14) (b := true) rfl rfl e121) (hK _ _ (le8_refl _) rfl)
          · intro ac w' hF hL hP hU K hK
            have hB : Below _ _ _ := hL
            have e123 : ac.eval (.tmp 123) = .bool true := hP 16 (by kernel_rfl)
            have e121 : ac.eval (.tmp 121) = .bool true := hP 14 (by kernel_rfl)
            exact rop_move _ rfl e123 (wanted_of (j := 14) (b := true) rfl rfl e121) (hK _ _ (le8_refl _) rfl)
          · intro ac w' hF hL hP hU K hK
            have hB : Below _ _ _ := hL
            have e124 : ac.eval (.tmp 124) = .bool true := hP 17 (by kernel_rfl)
            exact rop_offG (j := 17) (b := false) rfl rfl e124 (by decide) (hK _ _ (le8_refl _) rfl)
          · intro ac w' hF hL hP hU K hK
            have hB : Below _ _ _ := hL
            have e124 : ac.eval (.tmp 124) = .bool true := hP 17 (by kernel_rfl)
            exact rop_offG (j := 17) (b := false) rfl rfl e124 (by decide) (hK _ _ (le8_refl _) rfl)
          · intro ac w' hF hL hP hU K hK
            have hB : Below _ _ _ := hL
            have e124 : ac.eval (.tmp 124) = .bool true := hP 17 (by kernel_rfl)
            exact rop_offG (j := 17) (b := false) rfl rfl e124 (by decide) (hK _ _ (le8_refl _) rfl)
          · intro ac w' hF hL hP hU K hK
            have hB : Below _ _ _ := hL
            have e124 : ac.eval (.tmp 124) = .bool true := hP 17 (by kernel_rfl)
            exact rop_offG (j := 17) (b := false) rfl rfl e124 (by decide) (hK _ _ (le8_refl _) rfl)
          · intro ac w' hF hL hP hU K hK
            have hB : Below _ _ _ := hL
            have e128 : ac.eval (.tmp 128) = undef := hP 21 (by kernel_rfl)
            exact rop_offU (j := 21) (b := true) rfl rfl e128 (hK _ _ (le8_refl _) rfl)
          · intro ac w' hF hL hP hU K hK
            have hB : Below _ _ _ := hL
            have e128 : ac.eval (.tmp 128) = undef := hP 21 (by kernel_rfl)
            exact rop_offU (j := 21) (b := true) rfl rfl e128 (hK _ _ (le8_refl _) rfl)
          · intro ac w' hF hL hP hU K hK
            have hB : Below _ _ _ := hL
            have e124 : ac.eval (.tmp 124) = .bool true := hP 17 (by kernel_rfl)
            exact rop_offG (j := 17) (b := false) rfl rfl e124 (by decide) (hK _ _ (le8_refl _) rfl)
          · intro ac w' hF hL hP hU K hK
            have hB : Below _ _ _ := hL
            have e124 : ac.eval (.tmp 124) = .bool true := hP 17 (by kernel_rfl)
            have e121 : ac.eval (.tmp 121) = .bool true := hP 14 (by kernel_rfl)
            exact rop_pick _ _ _ rfl true e124 (by rfl) (wanted_of (j := 14) (b := true) rfl rfl e121) (hK _ _ (le8_refl _) rfl)
          · intro ac w' hF hL hP hU K hK
            have hB : Below _ _ _ := hL
            have e121 : ac.eval (.tmp 121) = .bool true := hP 14 (by kernel_rfl)
            have e132 : ac.eval (.tmp 132) = .bool true := hP 25 (by kernel_rfl)
            exact rop_pick _ _ _ rfl true e121 (by simpa using e132) (wanted_none rfl) (hK _ _ (le8_refl _) rfl)
          · intro ac w' hF hL hP hU K hK
            have hB : Below _ _ _ := hL
            have e133 : ac.eval (.tmp 133) = .bool true := hP 26 (by kernel_rfl)
            exact rop_move _ rfl e133 (wanted_none rfl) (hK _ _ (le8_refl _) rfl)
          · intro ac w' hF hL hP hU K hK
            have hB : Below _ _ _ := hL
            have e17 : ac.eval (.tmp 17) = .int .i64 (stZ t) := hF.at 17 (by kernel_rfl)
            have e134 : ac.eval (.tmp 134) = .bool true := hP 27 (by kernel_rfl)
            exact rop_move _ rfl e17 (wanted_of (j := 27) (b := true) rfl rfl e134) (hK _ _ (le8_refl _) rfl)
          · intro ac w' hF hL hP hU K hK
            have hB : Below _ _ _ := hL
            have e135 : ac.eval (.tmp 135) = .int .i64 (stZ t) := hP 28 (by kernel_rfl)
            have e134 : ac.eval (.tmp 134) = .bool true := hP 27 (by kernel_rfl)
            exact rop_bin _ _ _ _ _ rfl e135 rfl (guard_int _ _ _ _ _ _ _ w') (neq_eq1 _ (if_neg z3) w') (wanted_of (j := 27) (b := true) rfl rfl e134) (hK _ _ (le8_refl _) rfl)
          · intro ac w' hF hL hP hU K hK
            have hB : Below _ _ _ := hL
            have e136 : ac.eval (.tmp 136) = .bool true := hP 29 (by kernel_rfl)
            have e134 : ac.eval (.tmp 134) = .bool true := hP 27 (by kernel_rfl)
            exact rop_move _ rfl e136 (wanted_of (j := 27) (b := true) rfl rfl e134) (hK _ _ (le8_refl _) rfl)
          · intro ac w' hF hL hP hU K hK
            have hB : Below _ _ _ := hL
            have e137 : ac.eval (.tmp 137) = .bool true := hP 30 (by kernel_rfl)
            exact rop_offG (j := 30) (b := false) rfl rfl e137 (by decide) (hK _ _ (le8_refl _) rfl)
          · intro ac w' hF hL hP hU K hK
            have hB : Below _ _ _ := hL
            have e137 : ac.eval (.tmp 137) = .bool true := hP 30 (by kernel_rfl)
            exact rop_offG (j := 30) (b := false) rfl rfl e137 (by decide) (hK _ _ (le8_refl _) rfl)
          · intro ac w' hF hL hP hU K hK
            have hB : Below _ _ _ := hL
            have e137 : ac.eval (.tmp 137) = .bool true := hP 30 (by kernel_rfl)
            exact rop_offG (j := 30) (b := false) rfl rfl e137 (by decide) (hK _ _ (le8_refl _) rfl)
          · intro ac w' hF hL hP hU K hK
            have hB : Below _ _ _ := hL
            have e137 : ac.eval (.tmp 137) = .bool true := hP 30 (by kernel_rfl)
            exact rop_offG (j := 30) (b := false) rfl rfl e137 (by decide) (hK _ _ (le8_refl _) rfl)
          · intro ac w' hF hL hP hU K hK
            have hB : Below _ _ _ := hL
            have e141 : ac.eval (.tmp 141) = undef := hP 34 (by kernel_rfl)
            exact rop_offU (j := 34) (b := true) rfl rfl e141 (hK _ _ (le8_refl _) rfl)
          · intro ac w' hF hL hP hU K hK
            have hB : Below _ _ _ := hL
            have e141 : ac.eval (.tmp 141) = undef := hP 34 (by kernel_rfl)
            exact rop_offU (j := 34) (b := true) rfl rfl e141 (hK _ _ (le8_refl _) rfl)
          · intro ac w' hF hL hP hU K hK
            have hB : Below _ _ _ := hL
            have e137 : ac.eval (.tmp 137) = .bool true := hP 30 (by kernel_rfl)
            exact rop_offG (j := 30) (b := false) rfl rfl e137 (by decide) (hK _ _ (le8_refl _) rfl)
          · intro ac w' hF hL hP hU K hK
            have hB : Below _ _ _ := hL
            have e137 : ac.eval (.tmp 137) = .bool true := hP 30 (by kernel_rfl)
            have e134 : ac.eval (.tmp 134) = .bool true := hP 27 (by kernel_rfl)
            exact rop_pick _ _ _ rfl true e137 (by rfl) (wanted_of (j := 27) (b := true) rfl rfl e134) (hK _ _ (le8_refl _) rfl)
          · intro ac w' hF hL hP hU K hK
            have hB : Below _ _ _ := hL
            have e134 : ac.eval (.tmp 134) = .bool true := hP 27 (by kernel_rfl)
            have e145 : ac.eval (.tmp 145) = .bool true := hP 38 (by kernel_rfl)
            exact rop_pick _ _ _ rfl true e134 (by simpa using e145) (wanted_none rfl) (hK _ _ (le8_refl _) rfl)
          · intro ac w' hF hL hP hU K hK
            have hB : Below _ _ _ := hL
            have e146 : ac.eval (.tmp 146) = .bool true := hP 39 (by kernel_rfl)
            exact rop_assign _ rfl e146 (wanted_none rfl) (hK _ _ (le8_refl _) rfl)
          · intro ac w' hF hB hT
            have e6 : ac.eval (.tmp 6) = .bool true := hT 40 (by decide)
            rw [hF.setsG [107, 108, 109, 110, 111, 112, 113, 114, 115, 116, 117, 118, 119, 120, 121, 122, 123, 124, 125, 126, 127, 128, 129, 130, 131, 132, 133, 134, 135, 136, 137, 138, 139, 140, 141, 142, 143, 144, 145, 146, 6] (by kernel_rfl)]
            simp only [List.foldl_cons, List.foldl_nil, List.setIfInBounds_toArray, List.set_cons_succ, List.set_cons_zero, e6]
            generalize ac.eval (.tmp 107) = u107
            generalize ac.eval (.tmp 108) = u108
            generalize ac.eval (.tmp 109) = u109
            generalize ac.eval (.tmp 110) = u110
            generalize ac.eval (.tmp 111) = u111
            generalize ac.eval (.tmp 112) = u112
            generalize ac.eval (.tmp 113) = u113
            generalize ac.eval (.tmp 114) = u114
            generalize ac.eval (.tmp 115) = u115
            generalize ac.eval (.tmp 116) = u116
            generalize ac.eval (.tmp 117) = u117
            generalize ac.eval (.tmp 118) = u118
            generalize ac.eval (.tmp 119) = u119
            generalize ac.eval (.tmp 120) = u120
            generalize ac.eval (.tmp 121) = u121
            generalize ac.eval (.tmp 122) = u122
            generalize ac.eval (.tmp 123) = u123
            generalize ac.eval (.tmp 124) = u124
            generalize ac.eval (.tmp 125) = u125
            generalize ac.eval (.tmp 126) = u126
            generalize ac.eval (.tmp 127) = u127
            generalize ac.eval (.tmp 128) = u128
            generalize ac.eval (.tmp 129) = u129
            generalize ac.eval (.tmp 130) = u130
            generalize ac.eval (.tmp 131) = u131
            generalize ac.eval (.tmp 132) = u132
            generalize ac.eval (.tmp 133) = u133
            generalize ac.eval (.tmp 134) = u134
            generalize ac.eval (.tmp 135) = u135
            generalize ac.eval (.tmp 136) = u136
            generalize ac.eval (.tmp 137) = u137
            generalize ac.eval (.tmp 138) = u138
            generalize ac.eval (.tmp 139) = u139
            generalize ac.eval (.tmp 140) = u140
            generalize ac.eval (.tmp 141) = u141
            generalize ac.eval (.tmp 142) = u142
            generalize ac.eval (.tmp 143) = u143
            generalize ac.eval (.tmp 144) = u144
            generalize ac.eval (.tmp 145) = u145
            generalize ac.eval (.tmp 146) = u146
            clear e6 hT hF ac
            have hbw := below_step hb (Nat.le_refl _) hB
            clear hB
            go_wp2
            go_ret
            exact ⟨rfl, hbw⟩
    · by_cases z2 : hdB h = true
      · by_cases z3 : stB t = true
        · skip
          try simp only [Act.put]
          refine wp_region_tab0 [RT.is (.bool true), RT.is (.bool true), RT.is (.int .i64 (fzZ f)), RT.is (.bool true), RT.is (.bool true), RT.is undef, RT.is undef, RT.is undef, RT.is undef, RT.is undef, RT.is undef, RT.is undef, RT.is (.bool true), RT.is (.bool true), RT.is (.bool true), RT.is (.int .i64 (hdZ h)), RT.is (.bool false), RT.is (.bool false), RT.is (.agg (hdCs Ghd).toArray), RT.is (.agg (hdCs h).toArray), RT.is (.bool true), RT.is (.bool true), RT.is (.int .i64 Zhd), RT.is (.bool true), RT.is (.bool true), RT.is (.bool true), RT.is (.bool true), RT.is (.bool true), RT.is (.int .i64 (stZ t)), RT.is (.bool false), RT.is (.bool false), RT.is (.agg (stCs Gst).toArray), RT.is (.agg (stCs t).toArray), RT.is (.bool true), RT.is (.bool true), RT.is (.int .i64 Zst), RT.is (.bool true), RT.is (.bool true), RT.is (.bool true), RT.is (.bool true), RT.is (.bool true)] (by kernel_rfl) (by kernel_rfl) (by kernel_rfl) ⟨?_, ?_, ?_, ?_, ?_, ?_, ?_, ?_, ?_, ?_, ?_, ?_, ?_, ?_, ?_, ?_, ?_, ?_, ?_, ?_, ?_, ?_, ?_, ?_, ?_, ?_, ?_, ?_, ?_, ?_, ?_, ?_, ?_, ?_, ?_, ?_, ?_, ?_, ?_, ?_, ?_, trivial⟩ ?_
          · intro ac w' hF hL hP hU K hK
            have hB : Below _ _ _ := hL
            have e7 : ac.eval (.tmp 7) = .bool true := hF.at 7 (by kernel_rfl)
            exact rop_move _ rfl e7 (wanted_none rfl) (hK _ _ (le8_refl _) rfl)
          · intro ac w' hF hL hP hU K hK
            have hB : Below _ _ _ := hL
            have e107 : ac.eval (.tmp 107) = .bool true := hP 0 (by kernel_rfl)
            exact rop_move _ rfl e107 (wanted_none rfl) (hK _ _ (le8_refl _) rfl)
          · intro ac w' hF hL hP hU K hK
            have hB : Below _ _ _ := hL
            have e9 : ac.eval (.tmp 9) = .int .i64 (fzZ f) := hF.at 9 (by kernel_rfl)
            have e108 : ac.eval (.tmp 108) = .bool true := hP 1 (by kernel_rfl)
            exact rop_move _ rfl e9 (wanted_of (j := 1) (b := true) rfl rfl e108) (hK _ _ (le8_refl _) rfl)
          · intro ac w' hF hL hP hU K hK
            have hB : Below _ _ _ := hL
            have e109 : ac.eval (.tmp 109) = .int .i64 (fzZ f) := hP 2 (by kernel_rfl)
            have e108 : ac.eval (.tmp 108) = .bool true := hP 1 (by kernel_rfl)
            exact rop_bin _ _ _ _ _ rfl e109 rfl (guard_int _ _ _ _ _ _ _ w') (neq_eq1 _ (if_neg z1) w') (wanted_of (j := 1) (b := true) rfl rfl e108) (hK _ _ (le8_refl _) rfl)
          · intro ac w' hF hL hP hU K hK
            have hB : Below _ _ _ := hL
            have e110 : ac.eval (.tmp 110) = .bool true := hP 3 (by kernel_rfl)
            have e108 : ac.eval (.tmp 108) = .bool true := hP 1 (by kernel_rfl)
            exact rop_move _ rfl e110 (wanted_of (j := 1) (b := true) rfl rfl e108) (hK _ _ (le8_refl _) rfl)
          · intro ac w' hF hL hP hU K hK
            have hB : Below _ _ _ := hL
            have e111 : ac.eval (.tmp 111) = .bool true := hP 4 (by kernel_rfl)
            exact rop_offG (j := 4) (b := false) rfl rfl e111 (by decide) (hK _ _ (le8_refl _) rfl)
          · intro ac w' hF hL hP hU K hK
            have hB : Below _ _ _ := hL
            have e111 : ac.eval (.tmp 111) = .bool true := hP 4 (by kernel_rfl)
            exact rop_offG (j := 4) (b := false) rfl rfl e111 (by decide) (hK _ _ (le8_refl _) rfl)
          · intro ac w' hF hL hP hU K hK
            have hB : Below _ _ _ := hL
            have e111 : ac.eval (.tmp 111) = .bool true := hP 4 (by kernel_rfl)
            exact rop_offG (j := 4) (b := false) rfl rfl e111 (by decide) (hK _ _ (le8_refl _) rfl)
          · intro ac w' hF hL hP hU K hK
            have hB : Below _ _ _ := hL
            have e111 : ac.eval (.tmp 111) = .bool true := hP 4 (by kernel_rfl)
            exact rop_offG (j := 4) (b := false) rfl rfl e111 (by decide) (hK _ _ (le8_refl _) rfl)
          · intro ac w' hF hL hP hU K hK
            have hB : Below _ _ _ := hL
            have e115 : ac.eval (.tmp 115) = undef := hP 8 (by kernel_rfl)
            exact rop_offU (j := 8) (b := true) rfl rfl e115 (hK _ _ (le8_refl _) rfl)
          · intro ac w' hF hL hP hU K hK
            have hB : Below _ _ _ := hL
            have e115 : ac.eval (.tmp 115) = undef := hP 8 (by kernel_rfl)
            exact rop_offU (j := 8) (b := true) rfl rfl e115 (hK _ _ (le8_refl _) rfl)
          · intro ac w' hF hL hP hU K hK
            have hB : Below _ _ _ := hL
            have e111 : ac.eval (.tmp 111) = .bool true := hP 4 (by kernel_rfl)
            exact rop_offG (j := 4) (b := false) rfl rfl e111 (by decide) (hK _ _ (le8_refl _) rfl)
          · intro ac w' hF hL hP hU K hK
            have hB : Below _ _ _ := hL
            have e111 : ac.eval (.tmp 111) = .bool true := hP 4 (by kernel_rfl)
            have e108 : ac.eval (.tmp 108) = .bool true := hP 1 (by kernel_rfl)
            exact rop_pick _ _ _ rfl true e111 (by rfl) (wanted_of (j := 1) (b := true) rfl rfl e108) (hK _ _ (le8_refl _) rfl)
          · intro ac w' hF hL hP hU K hK
            have hB : Below _ _ _ := hL
            have e108 : ac.eval (.tmp 108) = .bool true := hP 1 (by kernel_rfl)
            have e119 : ac.eval (.tmp 119) = .bool true := hP 12 (by kernel_rfl)
            exact rop_pick _ _ _ rfl true e108 (by simpa using e119) (wanted_none rfl) (hK _ _ (le8_refl _) rfl)
          · intro ac w' hF hL hP hU K hK
            have hB : Below _ _ _ := hL
            have e120 : ac.eval (.tmp 120) = .bool true := hP 13 (by kernel_rfl)
            exact rop_move _ rfl e120 (wanted_none rfl) (hK _ _ (le8_refl _) rfl)
          · intro ac w' hF hL hP hU K hK
            have hB : Below _ _ _ := hL
            have e13 : ac.eval (.tmp 13) = .int .i64 (hdZ h) := hF.at 13 (by kernel_rfl)
            have e121 : ac.eval (.tmp 121) = .bool true := hP 14 (by kernel_rfl)
            exact rop_move _ rfl e13 (wanted_of (j := 14) (b := true) rfl rfl e121) (hK _ _ (le8_refl _) rfl)
          · intro ac w' hF hL hP hU K hK
            have hB : Below _ _ _ := hL
            have e122 : ac.eval (.tmp 122) = .int .i64 (hdZ h) := hP 15 (by kernel_rfl)
            have e121 : ac.eval (.tmp 121) = .bool true := hP 14 (by kernel_rfl)
            exact rop_bin _ _ _ _ _ rfl e122 rfl (guard_int _ _ _ _ _ _ _ w') (neq_eq0 _ (if_pos z2) w') (wanted_of (j := 14) (b := true) rfl rfl e121) (hK _ _ (le8_refl _) rfl)
          · intro ac w' hF hL hP hU K hK
            have hB : Below _ _ _ := hL
            have e123 : ac.eval (.tmp 123) = .bool false := hP 16 (by kernel_rfl)
            have e121 : ac.eval (.tmp 121) = .bool true := hP 14 (by kernel_rfl)
            exact rop_move _ rfl e123 (wanted_of (j := 14) (b := true) rfl rfl e121) (hK _ _ (le8_refl _) rfl)
          · intro ac w' hF hL hP hU K hK
            have hB : Below _ _ _ := hL
            have e22 : ac.eval (.tmp 22) = .pointer (some ⟨xHXhd, 0, none⟩) := hF.at 22 (by kernel_rfl)
            have e124 : ac.eval (.tmp 124) = .bool false := hP 17 (by kernel_rfl)
            exact rop_ld _ _ rfl e22 (load_hdAt (below_range' hB (Blk.lt HXhd) (Blk.all HXhd)) HOKhd.out.root HOKhd.out.mac) (wanted_of (j := 17) (b := false) rfl rfl e124) (hK _ _ (le8_refl _) rfl)
          · intro ac w' hF hL hP hU K hK
            have hB : Below _ _ _ := hL
            have e4 : ac.eval (.tmp 4) = .pointer (some ⟨q, 0, none⟩) := hF.at 4 (by kernel_rfl)
            have e124 : ac.eval (.tmp 124) = .bool false := hP 17 (by kernel_rfl)
            exact rop_ld _ _ rfl e4 (load_hdAt (below_range' hB (Blk.lt HBh) (Blk.all HBh)) OKh.out.root OKh.out.mac) (wanted_of (j := 17) (b := false) rfl rfl e124) (hK _ _ (le8_refl _) rfl)
          · intro ac w' hF hL hP hU K hK
            have hB : Below _ _ _ := hL
            have e125 : ac.eval (.tmp 125) = .agg (hdCs Ghd).toArray := hP 18 (by kernel_rfl)
            have e126 : ac.eval (.tmp 126) = .agg (hdCs h).toArray := hP 19 (by kernel_rfl)
            have e124 : ac.eval (.tmp 124) = .bool false := hP 17 (by kernel_rfl)
            exact rop_bin _ _ _ _ _ rfl e125 e126 (guard_hd .eql _ _ _ _ w') ((eql_hd Ghd h HOKhd.out OKh.out w').trans (by rw [decide_eq_true (HGhd.out z2).1])) (wanted_of (j := 17) (b := false) rfl rfl e124) (hK _ _ (le8_refl _) rfl)
          · intro ac w' hF hL hP hU K hK
            have hB : Below _ _ _ := hL
            have e127 : ac.eval (.tmp 127) = .bool true := hP 20 (by kernel_rfl)
            have e124 : ac.eval (.tmp 124) = .bool false := hP 17 (by kernel_rfl)
            exact rop_move _ rfl e127 (wanted_of (j := 17) (b := false) rfl rfl e124) (hK _ _ (le8_refl _) rfl)
          · intro ac w' hF hL hP hU K hK
            have hB : Below _ _ _ := hL
            have e23 : ac.eval (.tmp 23) = .int .i64 Zhd := hF.at 23 (by kernel_rfl)
            have e128 : ac.eval (.tmp 128) = .bool true := hP 21 (by kernel_rfl)
            exact rop_move _ rfl e23 (wanted_of (j := 21) (b := true) rfl rfl e128) (hK _ _ (le8_refl _) rfl)
          · intro ac w' hF hL hP hU K hK
            have hB : Below _ _ _ := hL
            have e129 : ac.eval (.tmp 129) = .int .i64 Zhd := hP 22 (by kernel_rfl)
            have e128 : ac.eval (.tmp 128) = .bool true := hP 21 (by kernel_rfl)
            exact rop_bin _ _ _ _ _ rfl e129 rfl (guard_int _ _ _ _ _ _ _ w') (eql_err_z _ (HGhd.out z2).2 w') (wanted_of (j := 21) (b := true) rfl rfl e128) (hK _ _ (le8_refl _) rfl)
          · intro ac w' hF hL hP hU K hK
            have hB : Below _ _ _ := hL
            have e128 : ac.eval (.tmp 128) = .bool true := hP 21 (by kernel_rfl)
            have e130 : ac.eval (.tmp 130) = .bool true := hP 23 (by kernel_rfl)
            have e124 : ac.eval (.tmp 124) = .bool false := hP 17 (by kernel_rfl)
            exact rop_pick _ _ _ rfl true e128 (by simpa using e130) (wanted_of (j := 17) (b := false) rfl rfl e124) (hK _ _ (le8_refl _) rfl)
          · intro ac w' hF hL hP hU K hK
            have hB : Below _ _ _ := hL
            have e124 : ac.eval (.tmp 124) = .bool false := hP 17 (by kernel_rfl)
            have e131 : ac.eval (.tmp 131) = .bool true := hP 24 (by kernel_rfl)
            have e121 : ac.eval (.tmp 121) = .bool true := hP 14 (by kernel_rfl)
            exact rop_pick _ _ _ rfl false e124 (by simpa using e131) (wanted_of (j := 14) (b := true) rfl rfl e121) (hK _ _ (le8_refl _) rfl)
          · intro ac w' hF hL hP hU K hK
            have hB : Below _ _ _ := hL
            have e121 : ac.eval (.tmp 121) = .bool true := hP 14 (by kernel_rfl)
            have e132 : ac.eval (.tmp 132) = .bool true := hP 25 (by kernel_rfl)
            exact rop_pick _ _ _ rfl true e121 (by simpa using e132) (wanted_none rfl) (hK _ _ (le8_refl _) rfl)
          · intro ac w' hF hL hP hU K hK
            have hB : Below _ _ _ := hL
            have e133 : ac.eval (.tmp 133) = .bool true := hP 26 (by kernel_rfl)
            exact rop_move _ rfl e133 (wanted_none rfl) (hK _ _ (le8_refl _) rfl)
          · intro ac w' hF hL hP hU K hK
            have hB : Below _ _ _ := hL
            have e17 : ac.eval (.tmp 17) = .int .i64 (stZ t) := hF.at 17 (by kernel_rfl)
            have e134 : ac.eval (.tmp 134) = .bool true := hP 27 (by kernel_rfl)
            exact rop_move _ rfl e17 (wanted_of (j := 27) (b := true) rfl rfl e134) (hK _ _ (le8_refl _) rfl)
          · intro ac w' hF hL hP hU K hK
            have hB : Below _ _ _ := hL
            have e135 : ac.eval (.tmp 135) = .int .i64 (stZ t) := hP 28 (by kernel_rfl)
            have e134 : ac.eval (.tmp 134) = .bool true := hP 27 (by kernel_rfl)
            exact rop_bin _ _ _ _ _ rfl e135 rfl (guard_int _ _ _ _ _ _ _ w') (neq_eq0 _ (if_pos z3) w') (wanted_of (j := 27) (b := true) rfl rfl e134) (hK _ _ (le8_refl _) rfl)
          · intro ac w' hF hL hP hU K hK
            have hB : Below _ _ _ := hL
            have e136 : ac.eval (.tmp 136) = .bool false := hP 29 (by kernel_rfl)
            have e134 : ac.eval (.tmp 134) = .bool true := hP 27 (by kernel_rfl)
            exact rop_move _ rfl e136 (wanted_of (j := 27) (b := true) rfl rfl e134) (hK _ _ (le8_refl _) rfl)
          · intro ac w' hF hL hP hU K hK
            have hB : Below _ _ _ := hL
            have e24 : ac.eval (.tmp 24) = .pointer (some ⟨xHXst, 0, none⟩) := hF.at 24 (by kernel_rfl)
            have e137 : ac.eval (.tmp 137) = .bool false := hP 30 (by kernel_rfl)
            exact rop_ld _ _ rfl e24 (load_stAt (below_range' hB (Blk.lt HXst) (Blk.all HXst)) HOKst.out.fz.root HOKst.out.mac) (wanted_of (j := 30) (b := false) rfl rfl e137) (hK _ _ (le8_refl _) rfl)
          · intro ac w' hF hL hP hU K hK
            have hB : Below _ _ _ := hL
            have e5 : ac.eval (.tmp 5) = .pointer (some ⟨r, 0, none⟩) := hF.at 5 (by kernel_rfl)
            have e137 : ac.eval (.tmp 137) = .bool false := hP 30 (by kernel_rfl)
            exact rop_ld _ _ rfl e5 (load_stAt (below_range' hB (Blk.lt HBt) (Blk.all HBt)) OKt.out.fz.root OKt.out.mac) (wanted_of (j := 30) (b := false) rfl rfl e137) (hK _ _ (le8_refl _) rfl)
          · intro ac w' hF hL hP hU K hK
            have hB : Below _ _ _ := hL
            have e138 : ac.eval (.tmp 138) = .agg (stCs Gst).toArray := hP 31 (by kernel_rfl)
            have e139 : ac.eval (.tmp 139) = .agg (stCs t).toArray := hP 32 (by kernel_rfl)
            have e137 : ac.eval (.tmp 137) = .bool false := hP 30 (by kernel_rfl)
            exact rop_bin _ _ _ _ _ rfl e138 e139 (guard_st .eql _ _ _ _ w') ((eql_st Gst t HOKst.out OKt.out w').trans (by rw [decide_eq_true (HGst.out z3).1])) (wanted_of (j := 30) (b := false) rfl rfl e137) (hK _ _ (le8_refl _) rfl)
          · intro ac w' hF hL hP hU K hK
            have hB : Below _ _ _ := hL
            have e140 : ac.eval (.tmp 140) = .bool true := hP 33 (by kernel_rfl)
            have e137 : ac.eval (.tmp 137) = .bool false := hP 30 (by kernel_rfl)
            exact rop_move _ rfl e140 (wanted_of (j := 30) (b := false) rfl rfl e137) (hK _ _ (le8_refl _) rfl)
          · intro ac w' hF hL hP hU K hK
            have hB : Below _ _ _ := hL
            have e25 : ac.eval (.tmp 25) = .int .i64 Zst := hF.at 25 (by kernel_rfl)
            have e141 : ac.eval (.tmp 141) = .bool true := hP 34 (by kernel_rfl)
            exact rop_move _ rfl e25 (wanted_of (j := 34) (b := true) rfl rfl e141) (hK _ _ (le8_refl _) rfl)
          · intro ac w' hF hL hP hU K hK
            have hB : Below _ _ _ := hL
            have e142 : ac.eval (.tmp 142) = .int .i64 Zst := hP 35 (by kernel_rfl)
            have e141 : ac.eval (.tmp 141) = .bool true := hP 34 (by kernel_rfl)
            exact rop_bin _ _ _ _ _ rfl e142 rfl (guard_int _ _ _ _ _ _ _ w') (eql_err_z _ (HGst.out z3).2 w') (wanted_of (j := 34) (b := true) rfl rfl e141) (hK _ _ (le8_refl _) rfl)
          · intro ac w' hF hL hP hU K hK
            have hB : Below _ _ _ := hL
            have e141 : ac.eval (.tmp 141) = .bool true := hP 34 (by kernel_rfl)
            have e143 : ac.eval (.tmp 143) = .bool true := hP 36 (by kernel_rfl)
            have e137 : ac.eval (.tmp 137) = .bool false := hP 30 (by kernel_rfl)
            exact rop_pick _ _ _ rfl true e141 (by simpa using e143) (wanted_of (j := 30) (b := false) rfl rfl e137) (hK _ _ (le8_refl _) rfl)
          · intro ac w' hF hL hP hU K hK
            have hB : Below _ _ _ := hL
            have e137 : ac.eval (.tmp 137) = .bool false := hP 30 (by kernel_rfl)
            have e144 : ac.eval (.tmp 144) = .bool true := hP 37 (by kernel_rfl)
            have e134 : ac.eval (.tmp 134) = .bool true := hP 27 (by kernel_rfl)
            exact rop_pick _ _ _ rfl false e137 (by simpa using e144) (wanted_of (j := 27) (b := true) rfl rfl e134) (hK _ _ (le8_refl _) rfl)
          · intro ac w' hF hL hP hU K hK
            have hB : Below _ _ _ := hL
            have e134 : ac.eval (.tmp 134) = .bool true := hP 27 (by kernel_rfl)
            have e145 : ac.eval (.tmp 145) = .bool true := hP 38 (by kernel_rfl)
            exact rop_pick _ _ _ rfl true e134 (by simpa using e145) (wanted_none rfl) (hK _ _ (le8_refl _) rfl)
          · intro ac w' hF hL hP hU K hK
            have hB : Below _ _ _ := hL
            have e146 : ac.eval (.tmp 146) = .bool true := hP 39 (by kernel_rfl)
            exact rop_assign _ rfl e146 (wanted_none rfl) (hK _ _ (le8_refl _) rfl)
          · intro ac w' hF hB hT
            have e6 : ac.eval (.tmp 6) = .bool true := hT 40 (by decide)
            rw [hF.setsG [107, 108, 109, 110, 111, 112, 113, 114, 115, 116, 117, 118, 119, 120, 121, 122, 123, 124, 125, 126, 127, 128, 129, 130, 131, 132, 133, 134, 135, 136, 137, 138, 139, 140, 141, 142, 143, 144, 145, 146, 6] (by kernel_rfl)]
            simp only [List.foldl_cons, List.foldl_nil, List.setIfInBounds_toArray, List.set_cons_succ, List.set_cons_zero, e6]
            generalize ac.eval (.tmp 107) = u107
            generalize ac.eval (.tmp 108) = u108
            generalize ac.eval (.tmp 109) = u109
            generalize ac.eval (.tmp 110) = u110
            generalize ac.eval (.tmp 111) = u111
            generalize ac.eval (.tmp 112) = u112
            generalize ac.eval (.tmp 113) = u113
            generalize ac.eval (.tmp 114) = u114
            generalize ac.eval (.tmp 115) = u115
            generalize ac.eval (.tmp 116) = u116
            generalize ac.eval (.tmp 117) = u117
            generalize ac.eval (.tmp 118) = u118
            generalize ac.eval (.tmp 119) = u119
            generalize ac.eval (.tmp 120) = u120
            generalize ac.eval (.tmp 121) = u121
            generalize ac.eval (.tmp 122) = u122
            generalize ac.eval (.tmp 123) = u123
            generalize ac.eval (.tmp 124) = u124
            generalize ac.eval (.tmp 125) = u125
            generalize ac.eval (.tmp 126) = u126
            generalize ac.eval (.tmp 127) = u127
            generalize ac.eval (.tmp 128) = u128
            generalize ac.eval (.tmp 129) = u129
            generalize ac.eval (.tmp 130) = u130
            generalize ac.eval (.tmp 131) = u131
            generalize ac.eval (.tmp 132) = u132
            generalize ac.eval (.tmp 133) = u133
            generalize ac.eval (.tmp 134) = u134
            generalize ac.eval (.tmp 135) = u135
            generalize ac.eval (.tmp 136) = u136
            generalize ac.eval (.tmp 137) = u137
            generalize ac.eval (.tmp 138) = u138
            generalize ac.eval (.tmp 139) = u139
            generalize ac.eval (.tmp 140) = u140
            generalize ac.eval (.tmp 141) = u141
            generalize ac.eval (.tmp 142) = u142
            generalize ac.eval (.tmp 143) = u143
            generalize ac.eval (.tmp 144) = u144
            generalize ac.eval (.tmp 145) = u145
            generalize ac.eval (.tmp 146) = u146
            clear e6 hT hF ac
            have hbw := below_step hb (Nat.le_refl _) hB
            clear hB
            go_wp2
            go_ret
            exact ⟨rfl, hbw⟩
        · skip
          try simp only [Act.put]
          refine wp_region_tab0 [RT.is (.bool true), RT.is (.bool true), RT.is (.int .i64 (fzZ f)), RT.is (.bool true), RT.is (.bool true), RT.is undef, RT.is undef, RT.is undef, RT.is undef, RT.is undef, RT.is undef, RT.is undef, RT.is (.bool true), RT.is (.bool true), RT.is (.bool true), RT.is (.int .i64 (hdZ h)), RT.is (.bool false), RT.is (.bool false), RT.is (.agg (hdCs Ghd).toArray), RT.is (.agg (hdCs h).toArray), RT.is (.bool true), RT.is (.bool true), RT.is (.int .i64 Zhd), RT.is (.bool true), RT.is (.bool true), RT.is (.bool true), RT.is (.bool true), RT.is (.bool true), RT.is (.int .i64 (stZ t)), RT.is (.bool true), RT.is (.bool true), RT.is undef, RT.is undef, RT.is undef, RT.is undef, RT.is undef, RT.is undef, RT.is undef, RT.is (.bool true), RT.is (.bool true), RT.is (.bool true)] (by kernel_rfl) (by kernel_rfl) (by kernel_rfl) ⟨?_, ?_, ?_, ?_, ?_, ?_, ?_, ?_, ?_, ?_, ?_, ?_, ?_, ?_, ?_, ?_, ?_, ?_, ?_, ?_, ?_, ?_, ?_, ?_, ?_, ?_, ?_, ?_, ?_, ?_, ?_, ?_, ?_, ?_, ?_, ?_, ?_, ?_, ?_, ?_, ?_, trivial⟩ ?_
          · intro ac w' hF hL hP hU K hK
            have hB : Below _ _ _ := hL
            have e7 : ac.eval (.tmp 7) = .bool true := hF.at 7 (by kernel_rfl)
            exact rop_move _ rfl e7 (wanted_none rfl) (hK _ _ (le8_refl _) rfl)
          · intro ac w' hF hL hP hU K hK
            have hB : Below _ _ _ := hL
            have e107 : ac.eval (.tmp 107) = .bool true := hP 0 (by kernel_rfl)
            exact rop_move _ rfl e107 (wanted_none rfl) (hK _ _ (le8_refl _) rfl)
          · intro ac w' hF hL hP hU K hK
            have hB : Below _ _ _ := hL
            have e9 : ac.eval (.tmp 9) = .int .i64 (fzZ f) := hF.at 9 (by kernel_rfl)
            have e108 : ac.eval (.tmp 108) = .bool true := hP 1 (by kernel_rfl)
            exact rop_move _ rfl e9 (wanted_of (j := 1) (b := true) rfl rfl e108) (hK _ _ (le8_refl _) rfl)
          · intro ac w' hF hL hP hU K hK
            have hB : Below _ _ _ := hL
            have e109 : ac.eval (.tmp 109) = .int .i64 (fzZ f) := hP 2 (by kernel_rfl)
            have e108 : ac.eval (.tmp 108) = .bool true := hP 1 (by kernel_rfl)
            exact rop_bin _ _ _ _ _ rfl e109 rfl (guard_int _ _ _ _ _ _ _ w') (neq_eq1 _ (if_neg z1) w') (wanted_of (j := 1) (b := true) rfl rfl e108) (hK _ _ (le8_refl _) rfl)
          · intro ac w' hF hL hP hU K hK
            have hB : Below _ _ _ := hL
            have e110 : ac.eval (.tmp 110) = .bool true := hP 3 (by kernel_rfl)
            have e108 : ac.eval (.tmp 108) = .bool true := hP 1 (by kernel_rfl)
            exact rop_move _ rfl e110 (wanted_of (j := 1) (b := true) rfl rfl e108) (hK _ _ (le8_refl _) rfl)
          · intro ac w' hF hL hP hU K hK
            have hB : Below _ _ _ := hL
            have e111 : ac.eval (.tmp 111) = .bool true := hP 4 (by kernel_rfl)
            exact rop_offG (j := 4) (b := false) rfl rfl e111 (by decide) (hK _ _ (le8_refl _) rfl)
          · intro ac w' hF hL hP hU K hK
            have hB : Below _ _ _ := hL
            have e111 : ac.eval (.tmp 111) = .bool true := hP 4 (by kernel_rfl)
            exact rop_offG (j := 4) (b := false) rfl rfl e111 (by decide) (hK _ _ (le8_refl _) rfl)
          · intro ac w' hF hL hP hU K hK
            have hB : Below _ _ _ := hL
            have e111 : ac.eval (.tmp 111) = .bool true := hP 4 (by kernel_rfl)
            exact rop_offG (j := 4) (b := false) rfl rfl e111 (by decide) (hK _ _ (le8_refl _) rfl)
          · intro ac w' hF hL hP hU K hK
            have hB : Below _ _ _ := hL
            have e111 : ac.eval (.tmp 111) = .bool true := hP 4 (by kernel_rfl)
            exact rop_offG (j := 4) (b := false) rfl rfl e111 (by decide) (hK _ _ (le8_refl _) rfl)
          · intro ac w' hF hL hP hU K hK
            have hB : Below _ _ _ := hL
            have e115 : ac.eval (.tmp 115) = undef := hP 8 (by kernel_rfl)
            exact rop_offU (j := 8) (b := true) rfl rfl e115 (hK _ _ (le8_refl _) rfl)
          · intro ac w' hF hL hP hU K hK
            have hB : Below _ _ _ := hL
            have e115 : ac.eval (.tmp 115) = undef := hP 8 (by kernel_rfl)
            exact rop_offU (j := 8) (b := true) rfl rfl e115 (hK _ _ (le8_refl _) rfl)
          · intro ac w' hF hL hP hU K hK
            have hB : Below _ _ _ := hL
            have e111 : ac.eval (.tmp 111) = .bool true := hP 4 (by kernel_rfl)
            exact rop_offG (j := 4) (b := false) rfl rfl e111 (by decide) (hK _ _ (le8_refl _) rfl)
          · intro ac w' hF hL hP hU K hK
            have hB : Below _ _ _ := hL
            have e111 : ac.eval (.tmp 111) = .bool true := hP 4 (by kernel_rfl)
            have e108 : ac.eval (.tmp 108) = .bool true := hP 1 (by kernel_rfl)
            exact rop_pick _ _ _ rfl true e111 (by rfl) (wanted_of (j := 1) (b := true) rfl rfl e108) (hK _ _ (le8_refl _) rfl)
          · intro ac w' hF hL hP hU K hK
            have hB : Below _ _ _ := hL
            have e108 : ac.eval (.tmp 108) = .bool true := hP 1 (by kernel_rfl)
            have e119 : ac.eval (.tmp 119) = .bool true := hP 12 (by kernel_rfl)
            exact rop_pick _ _ _ rfl true e108 (by simpa using e119) (wanted_none rfl) (hK _ _ (le8_refl _) rfl)
          · intro ac w' hF hL hP hU K hK
            have hB : Below _ _ _ := hL
            have e120 : ac.eval (.tmp 120) = .bool true := hP 13 (by kernel_rfl)
            exact rop_move _ rfl e120 (wanted_none rfl) (hK _ _ (le8_refl _) rfl)
          · intro ac w' hF hL hP hU K hK
            have hB : Below _ _ _ := hL
            have e13 : ac.eval (.tmp 13) = .int .i64 (hdZ h) := hF.at 13 (by kernel_rfl)
            have e121 : ac.eval (.tmp 121) = .bool true := hP 14 (by kernel_rfl)
            exact rop_move _ rfl e13 (wanted_of (j := 14) (b := true) rfl rfl e121) (hK _ _ (le8_refl _) rfl)
          · intro ac w' hF hL hP hU K hK
            have hB : Below _ _ _ := hL
            have e122 : ac.eval (.tmp 122) = .int .i64 (hdZ h) := hP 15 (by kernel_rfl)
            have e121 : ac.eval (.tmp 121) = .bool true := hP 14 (by kernel_rfl)
            exact rop_bin _ _ _ _ _ rfl e122 rfl (guard_int _ _ _ _ _ _ _ w') (neq_eq0 _ (if_pos z2) w') (wanted_of (j := 14) (b := true) rfl rfl e121) (hK _ _ (le8_refl _) rfl)
          · intro ac w' hF hL hP hU K hK
            have hB : Below _ _ _ := hL
            have e123 : ac.eval (.tmp 123) = .bool false := hP 16 (by kernel_rfl)
            have e121 : ac.eval (.tmp 121) = .bool true := hP 14 (by kernel_rfl)
            exact rop_move _ rfl e123 (wanted_of (j := 14) (b := true) rfl rfl e121) (hK _ _ (le8_refl _) rfl)
          · intro ac w' hF hL hP hU K hK
            have hB : Below _ _ _ := hL
            have e22 : ac.eval (.tmp 22) = .pointer (some ⟨xHXhd, 0, none⟩) := hF.at 22 (by kernel_rfl)
            have e124 : ac.eval (.tmp 124) = .bool false := hP 17 (by kernel_rfl)
            exact rop_ld _ _ rfl e22 (load_hdAt (below_range' hB (Blk.lt HXhd) (Blk.all HXhd)) HOKhd.out.root HOKhd.out.mac) (wanted_of (j := 17) (b := false) rfl rfl e124) (hK _ _ (le8_refl _) rfl)
          · intro ac w' hF hL hP hU K hK
            have hB : Below _ _ _ := hL
            have e4 : ac.eval (.tmp 4) = .pointer (some ⟨q, 0, none⟩) := hF.at 4 (by kernel_rfl)
            have e124 : ac.eval (.tmp 124) = .bool false := hP 17 (by kernel_rfl)
            exact rop_ld _ _ rfl e4 (load_hdAt (below_range' hB (Blk.lt HBh) (Blk.all HBh)) OKh.out.root OKh.out.mac) (wanted_of (j := 17) (b := false) rfl rfl e124) (hK _ _ (le8_refl _) rfl)
          · intro ac w' hF hL hP hU K hK
            have hB : Below _ _ _ := hL
            have e125 : ac.eval (.tmp 125) = .agg (hdCs Ghd).toArray := hP 18 (by kernel_rfl)
            have e126 : ac.eval (.tmp 126) = .agg (hdCs h).toArray := hP 19 (by kernel_rfl)
            have e124 : ac.eval (.tmp 124) = .bool false := hP 17 (by kernel_rfl)
            exact rop_bin _ _ _ _ _ rfl e125 e126 (guard_hd .eql _ _ _ _ w') ((eql_hd Ghd h HOKhd.out OKh.out w').trans (by rw [decide_eq_true (HGhd.out z2).1])) (wanted_of (j := 17) (b := false) rfl rfl e124) (hK _ _ (le8_refl _) rfl)
          · intro ac w' hF hL hP hU K hK
            have hB : Below _ _ _ := hL
            have e127 : ac.eval (.tmp 127) = .bool true := hP 20 (by kernel_rfl)
            have e124 : ac.eval (.tmp 124) = .bool false := hP 17 (by kernel_rfl)
            exact rop_move _ rfl e127 (wanted_of (j := 17) (b := false) rfl rfl e124) (hK _ _ (le8_refl _) rfl)
          · intro ac w' hF hL hP hU K hK
            have hB : Below _ _ _ := hL
            have e23 : ac.eval (.tmp 23) = .int .i64 Zhd := hF.at 23 (by kernel_rfl)
            have e128 : ac.eval (.tmp 128) = .bool true := hP 21 (by kernel_rfl)
            exact rop_move _ rfl e23 (wanted_of (j := 21) (b := true) rfl rfl e128) (hK _ _ (le8_refl _) rfl)
          · intro ac w' hF hL hP hU K hK
            have hB : Below _ _ _ := hL
            have e129 : ac.eval (.tmp 129) = .int .i64 Zhd := hP 22 (by kernel_rfl)
            have e128 : ac.eval (.tmp 128) = .bool true := hP 21 (by kernel_rfl)
            exact rop_bin _ _ _ _ _ rfl e129 rfl (guard_int _ _ _ _ _ _ _ w') (eql_err_z _ (HGhd.out z2).2 w') (wanted_of (j := 21) (b := true) rfl rfl e128) (hK _ _ (le8_refl _) rfl)
          · intro ac w' hF hL hP hU K hK
            have hB : Below _ _ _ := hL
            have e128 : ac.eval (.tmp 128) = .bool true := hP 21 (by kernel_rfl)
            have e130 : ac.eval (.tmp 130) = .bool true := hP 23 (by kernel_rfl)
            have e124 : ac.eval (.tmp 124) = .bool false := hP 17 (by kernel_rfl)
            exact rop_pick _ _ _ rfl true e128 (by simpa using e130) (wanted_of (j := 17) (b := false) rfl rfl e124) (hK _ _ (le8_refl _) rfl)
          · intro ac w' hF hL hP hU K hK
            have hB : Below _ _ _ := hL
            have e124 : ac.eval (.tmp 124) = .bool false := hP 17 (by kernel_rfl)
            have e131 : ac.eval (.tmp 131) = .bool true := hP 24 (by kernel_rfl)
            have e121 : ac.eval (.tmp 121) = .bool true := hP 14 (by kernel_rfl)
            exact rop_pick _ _ _ rfl false e124 (by simpa using e131) (wanted_of (j := 14) (b := true) rfl rfl e121) (hK _ _ (le8_refl _) rfl)
          · intro ac w' hF hL hP hU K hK
            have hB : Below _ _ _ := hL
            have e121 : ac.eval (.tmp 121) = .bool true := hP 14 (by kernel_rfl)
            have e132 : ac.eval (.tmp 132) = .bool true := hP 25 (by kernel_rfl)
            exact rop_pick _ _ _ rfl true e121 (by simpa using e132) (wanted_none rfl) (hK _ _ (le8_refl _) rfl)
          · intro ac w' hF hL hP hU K hK
            have hB : Below _ _ _ := hL
            have e133 : ac.eval (.tmp 133) = .bool true := hP 26 (by kernel_rfl)
            exact rop_move _ rfl e133 (wanted_none rfl) (hK _ _ (le8_refl _) rfl)
          · intro ac w' hF hL hP hU K hK
            have hB : Below _ _ _ := hL
            have e17 : ac.eval (.tmp 17) = .int .i64 (stZ t) := hF.at 17 (by kernel_rfl)
            have e134 : ac.eval (.tmp 134) = .bool true := hP 27 (by kernel_rfl)
            exact rop_move _ rfl e17 (wanted_of (j := 27) (b := true) rfl rfl e134) (hK _ _ (le8_refl _) rfl)
          · intro ac w' hF hL hP hU K hK
            have hB : Below _ _ _ := hL
            have e135 : ac.eval (.tmp 135) = .int .i64 (stZ t) := hP 28 (by kernel_rfl)
            have e134 : ac.eval (.tmp 134) = .bool true := hP 27 (by kernel_rfl)
            exact rop_bin _ _ _ _ _ rfl e135 rfl (guard_int _ _ _ _ _ _ _ w') (neq_eq1 _ (if_neg z3) w') (wanted_of (j := 27) (b := true) rfl rfl e134) (hK _ _ (le8_refl _) rfl)
          · intro ac w' hF hL hP hU K hK
            have hB : Below _ _ _ := hL
            have e136 : ac.eval (.tmp 136) = .bool true := hP 29 (by kernel_rfl)
            have e134 : ac.eval (.tmp 134) = .bool true := hP 27 (by kernel_rfl)
            exact rop_move _ rfl e136 (wanted_of (j := 27) (b := true) rfl rfl e134) (hK _ _ (le8_refl _) rfl)
          · intro ac w' hF hL hP hU K hK
            have hB : Below _ _ _ := hL
            have e137 : ac.eval (.tmp 137) = .bool true := hP 30 (by kernel_rfl)
            exact rop_offG (j := 30) (b := false) rfl rfl e137 (by decide) (hK _ _ (le8_refl _) rfl)
          · intro ac w' hF hL hP hU K hK
            have hB : Below _ _ _ := hL
            have e137 : ac.eval (.tmp 137) = .bool true := hP 30 (by kernel_rfl)
            exact rop_offG (j := 30) (b := false) rfl rfl e137 (by decide) (hK _ _ (le8_refl _) rfl)
          · intro ac w' hF hL hP hU K hK
            have hB : Below _ _ _ := hL
            have e137 : ac.eval (.tmp 137) = .bool true := hP 30 (by kernel_rfl)
            exact rop_offG (j := 30) (b := false) rfl rfl e137 (by decide) (hK _ _ (le8_refl _) rfl)
          · intro ac w' hF hL hP hU K hK
            have hB : Below _ _ _ := hL
            have e137 : ac.eval (.tmp 137) = .bool true := hP 30 (by kernel_rfl)
            exact rop_offG (j := 30) (b := false) rfl rfl e137 (by decide) (hK _ _ (le8_refl _) rfl)
          · intro ac w' hF hL hP hU K hK
            have hB : Below _ _ _ := hL
            have e141 : ac.eval (.tmp 141) = undef := hP 34 (by kernel_rfl)
            exact rop_offU (j := 34) (b := true) rfl rfl e141 (hK _ _ (le8_refl _) rfl)
          · intro ac w' hF hL hP hU K hK
            have hB : Below _ _ _ := hL
            have e141 : ac.eval (.tmp 141) = undef := hP 34 (by kernel_rfl)
            exact rop_offU (j := 34) (b := true) rfl rfl e141 (hK _ _ (le8_refl _) rfl)
          · intro ac w' hF hL hP hU K hK
            have hB : Below _ _ _ := hL
            have e137 : ac.eval (.tmp 137) = .bool true := hP 30 (by kernel_rfl)
            exact rop_offG (j := 30) (b := false) rfl rfl e137 (by decide) (hK _ _ (le8_refl _) rfl)
          · intro ac w' hF hL hP hU K hK
            have hB : Below _ _ _ := hL
            have e137 : ac.eval (.tmp 137) = .bool true := hP 30 (by kernel_rfl)
            have e134 : ac.eval (.tmp 134) = .bool true := hP 27 (by kernel_rfl)
            exact rop_pick _ _ _ rfl true e137 (by rfl) (wanted_of (j := 27) (b := true) rfl rfl e134) (hK _ _ (le8_refl _) rfl)
          · intro ac w' hF hL hP hU K hK
            have hB : Below _ _ _ := hL
            have e134 : ac.eval (.tmp 134) = .bool true := hP 27 (by kernel_rfl)
            have e145 : ac.eval (.tmp 145) = .bool true := hP 38 (by kernel_rfl)
            exact rop_pick _ _ _ rfl true e134 (by simpa using e145) (wanted_none rfl) (hK _ _ (le8_refl _) rfl)
          · intro ac w' hF hL hP hU K hK
            have hB : Below _ _ _ := hL
            have e146 : ac.eval (.tmp 146) = .bool true := hP 39 (by kernel_rfl)
            exact rop_assign _ rfl e146 (wanted_none rfl) (hK _ _ (le8_refl _) rfl)
          · intro ac w' hF hB hT
            have e6 : ac.eval (.tmp 6) = .bool true := hT 40 (by decide)
            rw [hF.setsG [107, 108, 109, 110, 111, 112, 113, 114, 115, 116, 117, 118, 119, 120, 121, 122, 123, 124, 125, 126, 127, 128, 129, 130, 131, 132, 133, 134, 135, 136, 137, 138, 139, 140, 141, 142, 143, 144, 145, 146, 6] (by kernel_rfl)]
            simp only [List.foldl_cons, List.foldl_nil, List.setIfInBounds_toArray, List.set_cons_succ, List.set_cons_zero, e6]
            generalize ac.eval (.tmp 107) = u107
            generalize ac.eval (.tmp 108) = u108
            generalize ac.eval (.tmp 109) = u109
            generalize ac.eval (.tmp 110) = u110
            generalize ac.eval (.tmp 111) = u111
            generalize ac.eval (.tmp 112) = u112
            generalize ac.eval (.tmp 113) = u113
            generalize ac.eval (.tmp 114) = u114
            generalize ac.eval (.tmp 115) = u115
            generalize ac.eval (.tmp 116) = u116
            generalize ac.eval (.tmp 117) = u117
            generalize ac.eval (.tmp 118) = u118
            generalize ac.eval (.tmp 119) = u119
            generalize ac.eval (.tmp 120) = u120
            generalize ac.eval (.tmp 121) = u121
            generalize ac.eval (.tmp 122) = u122
            generalize ac.eval (.tmp 123) = u123
            generalize ac.eval (.tmp 124) = u124
            generalize ac.eval (.tmp 125) = u125
            generalize ac.eval (.tmp 126) = u126
            generalize ac.eval (.tmp 127) = u127
            generalize ac.eval (.tmp 128) = u128
            generalize ac.eval (.tmp 129) = u129
            generalize ac.eval (.tmp 130) = u130
            generalize ac.eval (.tmp 131) = u131
            generalize ac.eval (.tmp 132) = u132
            generalize ac.eval (.tmp 133) = u133
            generalize ac.eval (.tmp 134) = u134
            generalize ac.eval (.tmp 135) = u135
            generalize ac.eval (.tmp 136) = u136
            generalize ac.eval (.tmp 137) = u137
            generalize ac.eval (.tmp 138) = u138
            generalize ac.eval (.tmp 139) = u139
            generalize ac.eval (.tmp 140) = u140
            generalize ac.eval (.tmp 141) = u141
            generalize ac.eval (.tmp 142) = u142
            generalize ac.eval (.tmp 143) = u143
            generalize ac.eval (.tmp 144) = u144
            generalize ac.eval (.tmp 145) = u145
            generalize ac.eval (.tmp 146) = u146
            clear e6 hT hF ac
            have hbw := below_step hb (Nat.le_refl _) hB
            clear hB
            go_wp2
            go_ret
            exact ⟨rfl, hbw⟩
      · by_cases z3 : stB t = true
        · skip
          try simp only [Act.put]
          refine wp_region_tab0 [RT.is (.bool true), RT.is (.bool true), RT.is (.int .i64 (fzZ f)), RT.is (.bool true), RT.is (.bool true), RT.is undef, RT.is undef, RT.is undef, RT.is undef, RT.is undef, RT.is undef, RT.is undef, RT.is (.bool true), RT.is (.bool true), RT.is (.bool true), RT.is (.int .i64 (hdZ h)), RT.is (.bool true), RT.is (.bool true), RT.is undef, RT.is undef, RT.is undef, RT.is undef, RT.is undef, RT.is undef, RT.is undef, RT.is (.bool true), RT.is (.bool true), RT.is (.bool true), RT.is (.int .i64 (stZ t)), RT.is (.bool false), RT.is (.bool false), RT.is (.agg (stCs Gst).toArray), RT.is (.agg (stCs t).toArray), RT.is (.bool true), RT.is (.bool true), RT.is (.int .i64 Zst), RT.is (.bool true), RT.is (.bool true), RT.is (.bool true), RT.is (.bool true), RT.is (.bool true)] (by kernel_rfl) (by kernel_rfl) (by kernel_rfl) ⟨?_, ?_, ?_, ?_, ?_, ?_, ?_, ?_, ?_, ?_, ?_, ?_, ?_, ?_, ?_, ?_, ?_, ?_, ?_, ?_, ?_, ?_, ?_, ?_, ?_, ?_, ?_, ?_, ?_, ?_, ?_, ?_, ?_, ?_, ?_, ?_, ?_, ?_, ?_, ?_, ?_, trivial⟩ ?_
          · intro ac w' hF hL hP hU K hK
            have hB : Below _ _ _ := hL
            have e7 : ac.eval (.tmp 7) = .bool true := hF.at 7 (by kernel_rfl)
            exact rop_move _ rfl e7 (wanted_none rfl) (hK _ _ (le8_refl _) rfl)
          · intro ac w' hF hL hP hU K hK
            have hB : Below _ _ _ := hL
            have e107 : ac.eval (.tmp 107) = .bool true := hP 0 (by kernel_rfl)
            exact rop_move _ rfl e107 (wanted_none rfl) (hK _ _ (le8_refl _) rfl)
          · intro ac w' hF hL hP hU K hK
            have hB : Below _ _ _ := hL
            have e9 : ac.eval (.tmp 9) = .int .i64 (fzZ f) := hF.at 9 (by kernel_rfl)
            have e108 : ac.eval (.tmp 108) = .bool true := hP 1 (by kernel_rfl)
            exact rop_move _ rfl e9 (wanted_of (j := 1) (b := true) rfl rfl e108) (hK _ _ (le8_refl _) rfl)
          · intro ac w' hF hL hP hU K hK
            have hB : Below _ _ _ := hL
            have e109 : ac.eval (.tmp 109) = .int .i64 (fzZ f) := hP 2 (by kernel_rfl)
            have e108 : ac.eval (.tmp 108) = .bool true := hP 1 (by kernel_rfl)
            exact rop_bin _ _ _ _ _ rfl e109 rfl (guard_int _ _ _ _ _ _ _ w') (neq_eq1 _ (if_neg z1) w') (wanted_of (j := 1) (b := true) rfl rfl e108) (hK _ _ (le8_refl _) rfl)
          · intro ac w' hF hL hP hU K hK
            have hB : Below _ _ _ := hL
            have e110 : ac.eval (.tmp 110) = .bool true := hP 3 (by kernel_rfl)
            have e108 : ac.eval (.tmp 108) = .bool true := hP 1 (by kernel_rfl)
            exact rop_move _ rfl e110 (wanted_of (j := 1) (b := true) rfl rfl e108) (hK _ _ (le8_refl _) rfl)
          · intro ac w' hF hL hP hU K hK
            have hB : Below _ _ _ := hL
            have e111 : ac.eval (.tmp 111) = .bool true := hP 4 (by kernel_rfl)
            exact rop_offG (j := 4) (b := false) rfl rfl e111 (by decide) (hK _ _ (le8_refl _) rfl)
          · intro ac w' hF hL hP hU K hK
            have hB : Below _ _ _ := hL
            have e111 : ac.eval (.tmp 111) = .bool true := hP 4 (by kernel_rfl)
            exact rop_offG (j := 4) (b := false) rfl rfl e111 (by decide) (hK _ _ (le8_refl _) rfl)
          · intro ac w' hF hL hP hU K hK
            have hB : Below _ _ _ := hL
            have e111 : ac.eval (.tmp 111) = .bool true := hP 4 (by kernel_rfl)
            exact rop_offG (j := 4) (b := false) rfl rfl e111 (by decide) (hK _ _ (le8_refl _) rfl)
          · intro ac w' hF hL hP hU K hK
            have hB : Below _ _ _ := hL
            have e111 : ac.eval (.tmp 111) = .bool true := hP 4 (by kernel_rfl)
            exact rop_offG (j := 4) (b := false) rfl rfl e111 (by decide) (hK _ _ (le8_refl _) rfl)
          · intro ac w' hF hL hP hU K hK
            have hB : Below _ _ _ := hL
            have e115 : ac.eval (.tmp 115) = undef := hP 8 (by kernel_rfl)
            exact rop_offU (j := 8) (b := true) rfl rfl e115 (hK _ _ (le8_refl _) rfl)
          · intro ac w' hF hL hP hU K hK
            have hB : Below _ _ _ := hL
            have e115 : ac.eval (.tmp 115) = undef := hP 8 (by kernel_rfl)
            exact rop_offU (j := 8) (b := true) rfl rfl e115 (hK _ _ (le8_refl _) rfl)
          · intro ac w' hF hL hP hU K hK
            have hB : Below _ _ _ := hL
            have e111 : ac.eval (.tmp 111) = .bool true := hP 4 (by kernel_rfl)
            exact rop_offG (j := 4) (b := false) rfl rfl e111 (by decide) (hK _ _ (le8_refl _) rfl)
          · intro ac w' hF hL hP hU K hK
            have hB : Below _ _ _ := hL
            have e111 : ac.eval (.tmp 111) = .bool true := hP 4 (by kernel_rfl)
            have e108 : ac.eval (.tmp 108) = .bool true := hP 1 (by kernel_rfl)
            exact rop_pick _ _ _ rfl true e111 (by rfl) (wanted_of (j := 1) (b := true) rfl rfl e108) (hK _ _ (le8_refl _) rfl)
          · intro ac w' hF hL hP hU K hK
            have hB : Below _ _ _ := hL
            have e108 : ac.eval (.tmp 108) = .bool true := hP 1 (by kernel_rfl)
            have e119 : ac.eval (.tmp 119) = .bool true := hP 12 (by kernel_rfl)
            exact rop_pick _ _ _ rfl true e108 (by simpa using e119) (wanted_none rfl) (hK _ _ (le8_refl _) rfl)
          · intro ac w' hF hL hP hU K hK
            have hB : Below _ _ _ := hL
            have e120 : ac.eval (.tmp 120) = .bool true := hP 13 (by kernel_rfl)
            exact rop_move _ rfl e120 (wanted_none rfl) (hK _ _ (le8_refl _) rfl)
          · intro ac w' hF hL hP hU K hK
            have hB : Below _ _ _ := hL
            have e13 : ac.eval (.tmp 13) = .int .i64 (hdZ h) := hF.at 13 (by kernel_rfl)
            have e121 : ac.eval (.tmp 121) = .bool true := hP 14 (by kernel_rfl)
            exact rop_move _ rfl e13 (wanted_of (j := 14) (b := true) rfl rfl e121) (hK _ _ (le8_refl _) rfl)
          · intro ac w' hF hL hP hU K hK
            have hB : Below _ _ _ := hL
            have e122 : ac.eval (.tmp 122) = .int .i64 (hdZ h) := hP 15 (by kernel_rfl)
            have e121 : ac.eval (.tmp 121) = .bool true := hP 14 (by kernel_rfl)
            exact rop_bin _ _ _ _ _ rfl e122 rfl (guard_int _ _ _ _ _ _ _ w') (neq_eq1 _ (if_neg z2) w') (wanted_of (j := 14) (b := true) rfl rfl e121) (hK _ _ (le8_refl _) rfl)
          · intro ac w' hF hL hP hU K hK
            have hB : Below _ _ _ := hL
            have e123 : ac.eval (.tmp 123) = .bool true := hP 16 (by kernel_rfl)
            have e121 : ac.eval (.tmp 121) = .bool true := hP 14 (by kernel_rfl)
            exact rop_move _ rfl e123 (wanted_of (j := 14) (b := true) rfl rfl e121) (hK _ _ (le8_refl _) rfl)
          · intro ac w' hF hL hP hU K hK
            have hB : Below _ _ _ := hL
            have e124 : ac.eval (.tmp 124) = .bool true := hP 17 (by kernel_rfl)
            exact rop_offG (j := 17) (b := false) rfl rfl e124 (by decide) (hK _ _ (le8_refl _) rfl)
          · intro ac w' hF hL hP hU K hK
            have hB : Below _ _ _ := hL
            have e124 : ac.eval (.tmp 124) = .bool true := hP 17 (by kernel_rfl)
            exact rop_offG (j := 17) (b := false) rfl rfl e124 (by decide) (hK _ _ (le8_refl _) rfl)
          · intro ac w' hF hL hP hU K hK
            have hB : Below _ _ _ := hL
            have e124 : ac.eval (.tmp 124) = .bool true := hP 17 (by kernel_rfl)
            exact rop_offG (j := 17) (b := false) rfl rfl e124 (by decide) (hK _ _ (le8_refl _) rfl)
          · intro ac w' hF hL hP hU K hK
            have hB : Below _ _ _ := hL
            have e124 : ac.eval (.tmp 124) = .bool true := hP 17 (by kernel_rfl)
            exact rop_offG (j := 17) (b := false) rfl rfl e124 (by decide) (hK _ _ (le8_refl _) rfl)
          · intro ac w' hF hL hP hU K hK
            have hB : Below _ _ _ := hL
            have e128 : ac.eval (.tmp 128) = undef := hP 21 (by kernel_rfl)
            exact rop_offU (j := 21) (b := true) rfl rfl e128 (hK _ _ (le8_refl _) rfl)
          · intro ac w' hF hL hP hU K hK
            have hB : Below _ _ _ := hL
            have e128 : ac.eval (.tmp 128) = undef := hP 21 (by kernel_rfl)
            exact rop_offU (j := 21) (b := true) rfl rfl e128 (hK _ _ (le8_refl _) rfl)
          · intro ac w' hF hL hP hU K hK
            have hB : Below _ _ _ := hL
            have e124 : ac.eval (.tmp 124) = .bool true := hP 17 (by kernel_rfl)
            exact rop_offG (j := 17) (b := false) rfl rfl e124 (by decide) (hK _ _ (le8_refl _) rfl)
          · intro ac w' hF hL hP hU K hK
            have hB : Below _ _ _ := hL
            have e124 : ac.eval (.tmp 124) = .bool true := hP 17 (by kernel_rfl)
            have e121 : ac.eval (.tmp 121) = .bool true := hP 14 (by kernel_rfl)
            exact rop_pick _ _ _ rfl true e124 (by rfl) (wanted_of (j := 14) (b := true) rfl rfl e121) (hK _ _ (le8_refl _) rfl)
          · intro ac w' hF hL hP hU K hK
            have hB : Below _ _ _ := hL
            have e121 : ac.eval (.tmp 121) = .bool true := hP 14 (by kernel_rfl)
            have e132 : ac.eval (.tmp 132) = .bool true := hP 25 (by kernel_rfl)
            exact rop_pick _ _ _ rfl true e121 (by simpa using e132) (wanted_none rfl) (hK _ _ (le8_refl _) rfl)
          · intro ac w' hF hL hP hU K hK
            have hB : Below _ _ _ := hL
            have e133 : ac.eval (.tmp 133) = .bool true := hP 26 (by kernel_rfl)
            exact rop_move _ rfl e133 (wanted_none rfl) (hK _ _ (le8_refl _) rfl)
          · intro ac w' hF hL hP hU K hK
            have hB : Below _ _ _ := hL
            have e17 : ac.eval (.tmp 17) = .int .i64 (stZ t) := hF.at 17 (by kernel_rfl)
            have e134 : ac.eval (.tmp 134) = .bool true := hP 27 (by kernel_rfl)
            exact rop_move _ rfl e17 (wanted_of (j := 27) (b := true) rfl rfl e134) (hK _ _ (le8_refl _) rfl)
          · intro ac w' hF hL hP hU K hK
            have hB : Below _ _ _ := hL
            have e135 : ac.eval (.tmp 135) = .int .i64 (stZ t) := hP 28 (by kernel_rfl)
            have e134 : ac.eval (.tmp 134) = .bool true := hP 27 (by kernel_rfl)
            exact rop_bin _ _ _ _ _ rfl e135 rfl (guard_int _ _ _ _ _ _ _ w') (neq_eq0 _ (if_pos z3) w') (wanted_of (j := 27) (b := true) rfl rfl e134) (hK _ _ (le8_refl _) rfl)
          · intro ac w' hF hL hP hU K hK
            have hB : Below _ _ _ := hL
            have e136 : ac.eval (.tmp 136) = .bool false := hP 29 (by kernel_rfl)
            have e134 : ac.eval (.tmp 134) = .bool true := hP 27 (by kernel_rfl)
            exact rop_move _ rfl e136 (wanted_of (j := 27) (b := true) rfl rfl e134) (hK _ _ (le8_refl _) rfl)
          · intro ac w' hF hL hP hU K hK
            have hB : Below _ _ _ := hL
            have e24 : ac.eval (.tmp 24) = .pointer (some ⟨xHXst, 0, none⟩) := hF.at 24 (by kernel_rfl)
            have e137 : ac.eval (.tmp 137) = .bool false := hP 30 (by kernel_rfl)
            exact rop_ld _ _ rfl e24 (load_stAt (below_range' hB (Blk.lt HXst) (Blk.all HXst)) HOKst.out.fz.root HOKst.out.mac) (wanted_of (j := 30) (b := false) rfl rfl e137) (hK _ _ (le8_refl _) rfl)
          · intro ac w' hF hL hP hU K hK
            have hB : Below _ _ _ := hL
            have e5 : ac.eval (.tmp 5) = .pointer (some ⟨r, 0, none⟩) := hF.at 5 (by kernel_rfl)
            have e137 : ac.eval (.tmp 137) = .bool false := hP 30 (by kernel_rfl)
            exact rop_ld _ _ rfl e5 (load_stAt (below_range' hB (Blk.lt HBt) (Blk.all HBt)) OKt.out.fz.root OKt.out.mac) (wanted_of (j := 30) (b := false) rfl rfl e137) (hK _ _ (le8_refl _) rfl)
          · intro ac w' hF hL hP hU K hK
            have hB : Below _ _ _ := hL
            have e138 : ac.eval (.tmp 138) = .agg (stCs Gst).toArray := hP 31 (by kernel_rfl)
            have e139 : ac.eval (.tmp 139) = .agg (stCs t).toArray := hP 32 (by kernel_rfl)
            have e137 : ac.eval (.tmp 137) = .bool false := hP 30 (by kernel_rfl)
            exact rop_bin _ _ _ _ _ rfl e138 e139 (guard_st .eql _ _ _ _ w') ((eql_st Gst t HOKst.out OKt.out w').trans (by rw [decide_eq_true (HGst.out z3).1])) (wanted_of (j := 30) (b := false) rfl rfl e137) (hK _ _ (le8_refl _) rfl)
          · intro ac w' hF hL hP hU K hK
            have hB : Below _ _ _ := hL
            have e140 : ac.eval (.tmp 140) = .bool true := hP 33 (by kernel_rfl)
            have e137 : ac.eval (.tmp 137) = .bool false := hP 30 (by kernel_rfl)
            exact rop_move _ rfl e140 (wanted_of (j := 30) (b := false) rfl rfl e137) (hK _ _ (le8_refl _) rfl)
          · intro ac w' hF hL hP hU K hK
            have hB : Below _ _ _ := hL
            have e25 : ac.eval (.tmp 25) = .int .i64 Zst := hF.at 25 (by kernel_rfl)
            have e141 : ac.eval (.tmp 141) = .bool true := hP 34 (by kernel_rfl)
            exact rop_move _ rfl e25 (wanted_of (j := 34) (b := true) rfl rfl e141) (hK _ _ (le8_refl _) rfl)
          · intro ac w' hF hL hP hU K hK
            have hB : Below _ _ _ := hL
            have e142 : ac.eval (.tmp 142) = .int .i64 Zst := hP 35 (by kernel_rfl)
            have e141 : ac.eval (.tmp 141) = .bool true := hP 34 (by kernel_rfl)
            exact rop_bin _ _ _ _ _ rfl e142 rfl (guard_int _ _ _ _ _ _ _ w') (eql_err_z _ (HGst.out z3).2 w') (wanted_of (j := 34) (b := true) rfl rfl e141) (hK _ _ (le8_refl _) rfl)
          · intro ac w' hF hL hP hU K hK
            have hB : Below _ _ _ := hL
            have e141 : ac.eval (.tmp 141) = .bool true := hP 34 (by kernel_rfl)
            have e143 : ac.eval (.tmp 143) = .bool true := hP 36 (by kernel_rfl)
            have e137 : ac.eval (.tmp 137) = .bool false := hP 30 (by kernel_rfl)
            exact rop_pick _ _ _ rfl true e141 (by simpa using e143) (wanted_of (j := 30) (b := false) rfl rfl e137) (hK _ _ (le8_refl _) rfl)
          · intro ac w' hF hL hP hU K hK
            have hB : Below _ _ _ := hL
            have e137 : ac.eval (.tmp 137) = .bool false := hP 30 (by kernel_rfl)
            have e144 : ac.eval (.tmp 144) = .bool true := hP 37 (by kernel_rfl)
            have e134 : ac.eval (.tmp 134) = .bool true := hP 27 (by kernel_rfl)
            exact rop_pick _ _ _ rfl false e137 (by simpa using e144) (wanted_of (j := 27) (b := true) rfl rfl e134) (hK _ _ (le8_refl _) rfl)
          · intro ac w' hF hL hP hU K hK
            have hB : Below _ _ _ := hL
            have e134 : ac.eval (.tmp 134) = .bool true := hP 27 (by kernel_rfl)
            have e145 : ac.eval (.tmp 145) = .bool true := hP 38 (by kernel_rfl)
            exact rop_pick _ _ _ rfl true e134 (by simpa using e145) (wanted_none rfl) (hK _ _ (le8_refl _) rfl)
          · intro ac w' hF hL hP hU K hK
            have hB : Below _ _ _ := hL
            have e146 : ac.eval (.tmp 146) = .bool true := hP 39 (by kernel_rfl)
            exact rop_assign _ rfl e146 (wanted_none rfl) (hK _ _ (le8_refl _) rfl)
          · intro ac w' hF hB hT
            have e6 : ac.eval (.tmp 6) = .bool true := hT 40 (by decide)
            rw [hF.setsG [107, 108, 109, 110, 111, 112, 113, 114, 115, 116, 117, 118, 119, 120, 121, 122, 123, 124, 125, 126, 127, 128, 129, 130, 131, 132, 133, 134, 135, 136, 137, 138, 139, 140, 141, 142, 143, 144, 145, 146, 6] (by kernel_rfl)]
            simp only [List.foldl_cons, List.foldl_nil, List.setIfInBounds_toArray, List.set_cons_succ, List.set_cons_zero, e6]
            generalize ac.eval (.tmp 107) = u107
            generalize ac.eval (.tmp 108) = u108
            generalize ac.eval (.tmp 109) = u109
            generalize ac.eval (.tmp 110) = u110
            generalize ac.eval (.tmp 111) = u111
            generalize ac.eval (.tmp 112) = u112
            generalize ac.eval (.tmp 113) = u113
            generalize ac.eval (.tmp 114) = u114
            generalize ac.eval (.tmp 115) = u115
            generalize ac.eval (.tmp 116) = u116
            generalize ac.eval (.tmp 117) = u117
            generalize ac.eval (.tmp 118) = u118
            generalize ac.eval (.tmp 119) = u119
            generalize ac.eval (.tmp 120) = u120
            generalize ac.eval (.tmp 121) = u121
            generalize ac.eval (.tmp 122) = u122
            generalize ac.eval (.tmp 123) = u123
            generalize ac.eval (.tmp 124) = u124
            generalize ac.eval (.tmp 125) = u125
            generalize ac.eval (.tmp 126) = u126
            generalize ac.eval (.tmp 127) = u127
            generalize ac.eval (.tmp 128) = u128
            generalize ac.eval (.tmp 129) = u129
            generalize ac.eval (.tmp 130) = u130
            generalize ac.eval (.tmp 131) = u131
            generalize ac.eval (.tmp 132) = u132
            generalize ac.eval (.tmp 133) = u133
            generalize ac.eval (.tmp 134) = u134
            generalize ac.eval (.tmp 135) = u135
            generalize ac.eval (.tmp 136) = u136
            generalize ac.eval (.tmp 137) = u137
            generalize ac.eval (.tmp 138) = u138
            generalize ac.eval (.tmp 139) = u139
            generalize ac.eval (.tmp 140) = u140
            generalize ac.eval (.tmp 141) = u141
            generalize ac.eval (.tmp 142) = u142
            generalize ac.eval (.tmp 143) = u143
            generalize ac.eval (.tmp 144) = u144
            generalize ac.eval (.tmp 145) = u145
            generalize ac.eval (.tmp 146) = u146
            clear e6 hT hF ac
            have hbw := below_step hb (Nat.le_refl _) hB
            clear hB
            go_wp2
            go_ret
            exact ⟨rfl, hbw⟩
        · skip
          try simp only [Act.put]
          refine wp_region_tab0 [RT.is (.bool true), RT.is (.bool true), RT.is (.int .i64 (fzZ f)), RT.is (.bool true), RT.is (.bool true), RT.is undef, RT.is undef, RT.is undef, RT.is undef, RT.is undef, RT.is undef, RT.is undef, RT.is (.bool true), RT.is (.bool true), RT.is (.bool true), RT.is (.int .i64 (hdZ h)), RT.is (.bool true), RT.is (.bool true), RT.is undef, RT.is undef, RT.is undef, RT.is undef, RT.is undef, RT.is undef, RT.is undef, RT.is (.bool true), RT.is (.bool true), RT.is (.bool true), RT.is (.int .i64 (stZ t)), RT.is (.bool true), RT.is (.bool true), RT.is undef, RT.is undef, RT.is undef, RT.is undef, RT.is undef, RT.is undef, RT.is undef, RT.is (.bool true), RT.is (.bool true), RT.is (.bool true)] (by kernel_rfl) (by kernel_rfl) (by kernel_rfl) ⟨?_, ?_, ?_, ?_, ?_, ?_, ?_, ?_, ?_, ?_, ?_, ?_, ?_, ?_, ?_, ?_, ?_, ?_, ?_, ?_, ?_, ?_, ?_, ?_, ?_, ?_, ?_, ?_, ?_, ?_, ?_, ?_, ?_, ?_, ?_, ?_, ?_, ?_, ?_, ?_, ?_, trivial⟩ ?_
          · intro ac w' hF hL hP hU K hK
            have hB : Below _ _ _ := hL
            have e7 : ac.eval (.tmp 7) = .bool true := hF.at 7 (by kernel_rfl)
            exact rop_move _ rfl e7 (wanted_none rfl) (hK _ _ (le8_refl _) rfl)
          · intro ac w' hF hL hP hU K hK
            have hB : Below _ _ _ := hL
            have e107 : ac.eval (.tmp 107) = .bool true := hP 0 (by kernel_rfl)
            exact rop_move _ rfl e107 (wanted_none rfl) (hK _ _ (le8_refl _) rfl)
          · intro ac w' hF hL hP hU K hK
            have hB : Below _ _ _ := hL
            have e9 : ac.eval (.tmp 9) = .int .i64 (fzZ f) := hF.at 9 (by kernel_rfl)
            have e108 : ac.eval (.tmp 108) = .bool true := hP 1 (by kernel_rfl)
            exact rop_move _ rfl e9 (wanted_of (j := 1) (b := true) rfl rfl e108) (hK _ _ (le8_refl _) rfl)
          · intro ac w' hF hL hP hU K hK
            have hB : Below _ _ _ := hL
            have e109 : ac.eval (.tmp 109) = .int .i64 (fzZ f) := hP 2 (by kernel_rfl)
            have e108 : ac.eval (.tmp 108) = .bool true := hP 1 (by kernel_rfl)
            exact rop_bin _ _ _ _ _ rfl e109 rfl (guard_int _ _ _ _ _ _ _ w') (neq_eq1 _ (if_neg z1) w') (wanted_of (j := 1) (b := true) rfl rfl e108) (hK _ _ (le8_refl _) rfl)
          · intro ac w' hF hL hP hU K hK
            have hB : Below _ _ _ := hL
            have e110 : ac.eval (.tmp 110) = .bool true := hP 3 (by kernel_rfl)
            have e108 : ac.eval (.tmp 108) = .bool true := hP 1 (by kernel_rfl)
            exact rop_move _ rfl e110 (wanted_of (j := 1) (b := true) rfl rfl e108) (hK _ _ (le8_refl _) rfl)
          · intro ac w' hF hL hP hU K hK
            have hB : Below _ _ _ := hL
            have e111 : ac.eval (.tmp 111) = .bool true := hP 4 (by kernel_rfl)
            exact rop_offG (j := 4) (b := false) rfl rfl e111 (by decide) (hK _ _ (le8_refl _) rfl)
          · intro ac w' hF hL hP hU K hK
            have hB : Below _ _ _ := hL
            have e111 : ac.eval (.tmp 111) = .bool true := hP 4 (by kernel_rfl)
            exact rop_offG (j := 4) (b := false) rfl rfl e111 (by decide) (hK _ _ (le8_refl _) rfl)
          · intro ac w' hF hL hP hU K hK
            have hB : Below _ _ _ := hL
            have e111 : ac.eval (.tmp 111) = .bool true := hP 4 (by kernel_rfl)
            exact rop_offG (j := 4) (b := false) rfl rfl e111 (by decide) (hK _ _ (le8_refl _) rfl)
          · intro ac w' hF hL hP hU K hK
            have hB : Below _ _ _ := hL
            have e111 : ac.eval (.tmp 111) = .bool true := hP 4 (by kernel_rfl)
            exact rop_offG (j := 4) (b := false) rfl rfl e111 (by decide) (hK _ _ (le8_refl _) rfl)
          · intro ac w' hF hL hP hU K hK
            have hB : Below _ _ _ := hL
            have e115 : ac.eval (.tmp 115) = undef := hP 8 (by kernel_rfl)
            exact rop_offU (j := 8) (b := true) rfl rfl e115 (hK _ _ (le8_refl _) rfl)
          · intro ac w' hF hL hP hU K hK
            have hB : Below _ _ _ := hL
            have e115 : ac.eval (.tmp 115) = undef := hP 8 (by kernel_rfl)
            exact rop_offU (j := 8) (b := true) rfl rfl e115 (hK _ _ (le8_refl _) rfl)
          · intro ac w' hF hL hP hU K hK
            have hB : Below _ _ _ := hL
            have e111 : ac.eval (.tmp 111) = .bool true := hP 4 (by kernel_rfl)
            exact rop_offG (j := 4) (b := false) rfl rfl e111 (by decide) (hK _ _ (le8_refl _) rfl)
          · intro ac w' hF hL hP hU K hK
            have hB : Below _ _ _ := hL
            have e111 : ac.eval (.tmp 111) = .bool true := hP 4 (by kernel_rfl)
            have e108 : ac.eval (.tmp 108) = .bool true := hP 1 (by kernel_rfl)
            exact rop_pick _ _ _ rfl true e111 (by rfl) (wanted_of (j := 1) (b := true) rfl rfl e108) (hK _ _ (le8_refl _) rfl)
          · intro ac w' hF hL hP hU K hK
            have hB : Below _ _ _ := hL
            have e108 : ac.eval (.tmp 108) = .bool true := hP 1 (by kernel_rfl)
            have e119 : ac.eval (.tmp 119) = .bool true := hP 12 (by kernel_rfl)
            exact rop_pick _ _ _ rfl true e108 (by simpa using e119) (wanted_none rfl) (hK _ _ (le8_refl _) rfl)
          · intro ac w' hF hL hP hU K hK
            have hB : Below _ _ _ := hL
            have e120 : ac.eval (.tmp 120) = .bool true := hP 13 (by kernel_rfl)
            exact rop_move _ rfl e120 (wanted_none rfl) (hK _ _ (le8_refl _) rfl)
          · intro ac w' hF hL hP hU K hK
            have hB : Below _ _ _ := hL
            have e13 : ac.eval (.tmp 13) = .int .i64 (hdZ h) := hF.at 13 (by kernel_rfl)
            have e121 : ac.eval (.tmp 121) = .bool true := hP 14 (by kernel_rfl)
            exact rop_move _ rfl e13 (wanted_of (j := 14) (b := true) rfl rfl e121) (hK _ _ (le8_refl _) rfl)
          · intro ac w' hF hL hP hU K hK
            have hB : Below _ _ _ := hL
            have e122 : ac.eval (.tmp 122) = .int .i64 (hdZ h) := hP 15 (by kernel_rfl)
            have e121 : ac.eval (.tmp 121) = .bool true := hP 14 (by kernel_rfl)
            exact rop_bin _ _ _ _ _ rfl e122 rfl (guard_int _ _ _ _ _ _ _ w') (neq_eq1 _ (if_neg z2) w') (wanted_of (j := 14) (b := true) rfl rfl e121) (hK _ _ (le8_refl _) rfl)
          · intro ac w' hF hL hP hU K hK
            have hB : Below _ _ _ := hL
            have e123 : ac.eval (.tmp 123) = .bool true := hP 16 (by kernel_rfl)
            have e121 : ac.eval (.tmp 121) = .bool true := hP 14 (by kernel_rfl)
            exact rop_move _ rfl e123 (wanted_of (j := 14) (b := true) rfl rfl e121) (hK _ _ (le8_refl _) rfl)
          · intro ac w' hF hL hP hU K hK
            have hB : Below _ _ _ := hL
            have e124 : ac.eval (.tmp 124) = .bool true := hP 17 (by kernel_rfl)
            exact rop_offG (j := 17) (b := false) rfl rfl e124 (by decide) (hK _ _ (le8_refl _) rfl)
          · intro ac w' hF hL hP hU K hK
            have hB : Below _ _ _ := hL
            have e124 : ac.eval (.tmp 124) = .bool true := hP 17 (by kernel_rfl)
            exact rop_offG (j := 17) (b := false) rfl rfl e124 (by decide) (hK _ _ (le8_refl _) rfl)
          · intro ac w' hF hL hP hU K hK
            have hB : Below _ _ _ := hL
            have e124 : ac.eval (.tmp 124) = .bool true := hP 17 (by kernel_rfl)
            exact rop_offG (j := 17) (b := false) rfl rfl e124 (by decide) (hK _ _ (le8_refl _) rfl)
          · intro ac w' hF hL hP hU K hK
            have hB : Below _ _ _ := hL
            have e124 : ac.eval (.tmp 124) = .bool true := hP 17 (by kernel_rfl)
            exact rop_offG (j := 17) (b := false) rfl rfl e124 (by decide) (hK _ _ (le8_refl _) rfl)
          · intro ac w' hF hL hP hU K hK
            have hB : Below _ _ _ := hL
            have e128 : ac.eval (.tmp 128) = undef := hP 21 (by kernel_rfl)
            exact rop_offU (j := 21) (b := true) rfl rfl e128 (hK _ _ (le8_refl _) rfl)
          · intro ac w' hF hL hP hU K hK
            have hB : Below _ _ _ := hL
            have e128 : ac.eval (.tmp 128) = undef := hP 21 (by kernel_rfl)
            exact rop_offU (j := 21) (b := true) rfl rfl e128 (hK _ _ (le8_refl _) rfl)
          · intro ac w' hF hL hP hU K hK
            have hB : Below _ _ _ := hL
            have e124 : ac.eval (.tmp 124) = .bool true := hP 17 (by kernel_rfl)
            exact rop_offG (j := 17) (b := false) rfl rfl e124 (by decide) (hK _ _ (le8_refl _) rfl)
          · intro ac w' hF hL hP hU K hK
            have hB : Below _ _ _ := hL
            have e124 : ac.eval (.tmp 124) = .bool true := hP 17 (by kernel_rfl)
            have e121 : ac.eval (.tmp 121) = .bool true := hP 14 (by kernel_rfl)
            exact rop_pick _ _ _ rfl true e124 (by rfl) (wanted_of (j := 14) (b := true) rfl rfl e121) (hK _ _ (le8_refl _) rfl)
          · intro ac w' hF hL hP hU K hK
            have hB : Below _ _ _ := hL
            have e121 : ac.eval (.tmp 121) = .bool true := hP 14 (by kernel_rfl)
            have e132 : ac.eval (.tmp 132) = .bool true := hP 25 (by kernel_rfl)
            exact rop_pick _ _ _ rfl true e121 (by simpa using e132) (wanted_none rfl) (hK _ _ (le8_refl _) rfl)
          · intro ac w' hF hL hP hU K hK
            have hB : Below _ _ _ := hL
            have e133 : ac.eval (.tmp 133) = .bool true := hP 26 (by kernel_rfl)
            exact rop_move _ rfl e133 (wanted_none rfl) (hK _ _ (le8_refl _) rfl)
          · intro ac w' hF hL hP hU K hK
            have hB : Below _ _ _ := hL
            have e17 : ac.eval (.tmp 17) = .int .i64 (stZ t) := hF.at 17 (by kernel_rfl)
            have e134 : ac.eval (.tmp 134) = .bool true := hP 27 (by kernel_rfl)
            exact rop_move _ rfl e17 (wanted_of (j := 27) (b := true) rfl rfl e134) (hK _ _ (le8_refl _) rfl)
          · intro ac w' hF hL hP hU K hK
            have hB : Below _ _ _ := hL
            have e135 : ac.eval (.tmp 135) = .int .i64 (stZ t) := hP 28 (by kernel_rfl)
            have e134 : ac.eval (.tmp 134) = .bool true := hP 27 (by kernel_rfl)
            exact rop_bin _ _ _ _ _ rfl e135 rfl (guard_int _ _ _ _ _ _ _ w') (neq_eq1 _ (if_neg z3) w') (wanted_of (j := 27) (b := true) rfl rfl e134) (hK _ _ (le8_refl _) rfl)
          · intro ac w' hF hL hP hU K hK
            have hB : Below _ _ _ := hL
            have e136 : ac.eval (.tmp 136) = .bool true := hP 29 (by kernel_rfl)
            have e134 : ac.eval (.tmp 134) = .bool true := hP 27 (by kernel_rfl)
            exact rop_move _ rfl e136 (wanted_of (j := 27) (b := true) rfl rfl e134) (hK _ _ (le8_refl _) rfl)
          · intro ac w' hF hL hP hU K hK
            have hB : Below _ _ _ := hL
            have e137 : ac.eval (.tmp 137) = .bool true := hP 30 (by kernel_rfl)
            exact rop_offG (j := 30) (b := false) rfl rfl e137 (by decide) (hK _ _ (le8_refl _) rfl)
          · intro ac w' hF hL hP hU K hK
            have hB : Below _ _ _ := hL
            have e137 : ac.eval (.tmp 137) = .bool true := hP 30 (by kernel_rfl)
            exact rop_offG (j := 30) (b := false) rfl rfl e137 (by decide) (hK _ _ (le8_refl _) rfl)
          · intro ac w' hF hL hP hU K hK
            have hB : Below _ _ _ := hL
            have e137 : ac.eval (.tmp 137) = .bool true := hP 30 (by kernel_rfl)
            exact rop_offG (j := 30) (b := false) rfl rfl e137 (by decide) (hK _ _ (le8_refl _) rfl)
          · intro ac w' hF hL hP hU K hK
            have hB : Below _ _ _ := hL
            have e137 : ac.eval (.tmp 137) = .bool true := hP 30 (by kernel_rfl)
            exact rop_offG (j := 30) (b := false) rfl rfl e137 (by decide) (hK _ _ (le8_refl _) rfl)
          · intro ac w' hF hL hP hU K hK
            have hB : Below _ _ _ := hL
            have e141 : ac.eval (.tmp 141) = undef := hP 34 (by kernel_rfl)
            exact rop_offU (j := 34) (b := true) rfl rfl e141 (hK _ _ (le8_refl _) rfl)
          · intro ac w' hF hL hP hU K hK
            have hB : Below _ _ _ := hL
            have e141 : ac.eval (.tmp 141) = undef := hP 34 (by kernel_rfl)
            exact rop_offU (j := 34) (b := true) rfl rfl e141 (hK _ _ (le8_refl _) rfl)
          · intro ac w' hF hL hP hU K hK
            have hB : Below _ _ _ := hL
            have e137 : ac.eval (.tmp 137) = .bool true := hP 30 (by kernel_rfl)
            exact rop_offG (j := 30) (b := false) rfl rfl e137 (by decide) (hK _ _ (le8_refl _) rfl)
          · intro ac w' hF hL hP hU K hK
            have hB : Below _ _ _ := hL
            have e137 : ac.eval (.tmp 137) = .bool true := hP 30 (by kernel_rfl)
            have e134 : ac.eval (.tmp 134) = .bool true := hP 27 (by kernel_rfl)
            exact rop_pick _ _ _ rfl true e137 (by rfl) (wanted_of (j := 27) (b := true) rfl rfl e134) (hK _ _ (le8_refl _) rfl)
          · intro ac w' hF hL hP hU K hK
            have hB : Below _ _ _ := hL
            have e134 : ac.eval (.tmp 134) = .bool true := hP 27 (by kernel_rfl)
            have e145 : ac.eval (.tmp 145) = .bool true := hP 38 (by kernel_rfl)
            exact rop_pick _ _ _ rfl true e134 (by simpa using e145) (wanted_none rfl) (hK _ _ (le8_refl _) rfl)
          · intro ac w' hF hL hP hU K hK
            have hB : Below _ _ _ := hL
            have e146 : ac.eval (.tmp 146) = .bool true := hP 39 (by kernel_rfl)
            exact rop_assign _ rfl e146 (wanted_none rfl) (hK _ _ (le8_refl _) rfl)
          · intro ac w' hF hB hT
            have e6 : ac.eval (.tmp 6) = .bool true := hT 40 (by decide)
            rw [hF.setsG [107, 108, 109, 110, 111, 112, 113, 114, 115, 116, 117, 118, 119, 120, 121, 122, 123, 124, 125, 126, 127, 128, 129, 130, 131, 132, 133, 134, 135, 136, 137, 138, 139, 140, 141, 142, 143, 144, 145, 146, 6] (by kernel_rfl)]
            simp only [List.foldl_cons, List.foldl_nil, List.setIfInBounds_toArray, List.set_cons_succ, List.set_cons_zero, e6]
            generalize ac.eval (.tmp 107) = u107
            generalize ac.eval (.tmp 108) = u108
            generalize ac.eval (.tmp 109) = u109
            generalize ac.eval (.tmp 110) = u110
            generalize ac.eval (.tmp 111) = u111
            generalize ac.eval (.tmp 112) = u112
            generalize ac.eval (.tmp 113) = u113
            generalize ac.eval (.tmp 114) = u114
            generalize ac.eval (.tmp 115) = u115
            generalize ac.eval (.tmp 116) = u116
            generalize ac.eval (.tmp 117) = u117
            generalize ac.eval (.tmp 118) = u118
            generalize ac.eval (.tmp 119) = u119
            generalize ac.eval (.tmp 120) = u120
            generalize ac.eval (.tmp 121) = u121
            generalize ac.eval (.tmp 122) = u122
            generalize ac.eval (.tmp 123) = u123
            generalize ac.eval (.tmp 124) = u124
            generalize ac.eval (.tmp 125) = u125
            generalize ac.eval (.tmp 126) = u126
            generalize ac.eval (.tmp 127) = u127
            generalize ac.eval (.tmp 128) = u128
            generalize ac.eval (.tmp 129) = u129
            generalize ac.eval (.tmp 130) = u130
            generalize ac.eval (.tmp 131) = u131
            generalize ac.eval (.tmp 132) = u132
            generalize ac.eval (.tmp 133) = u133
            generalize ac.eval (.tmp 134) = u134
            generalize ac.eval (.tmp 135) = u135
            generalize ac.eval (.tmp 136) = u136
            generalize ac.eval (.tmp 137) = u137
            generalize ac.eval (.tmp 138) = u138
            generalize ac.eval (.tmp 139) = u139
            generalize ac.eval (.tmp 140) = u140
            generalize ac.eval (.tmp 141) = u141
            generalize ac.eval (.tmp 142) = u142
            generalize ac.eval (.tmp 143) = u143
            generalize ac.eval (.tmp 144) = u144
            generalize ac.eval (.tmp 145) = u145
            generalize ac.eval (.tmp 146) = u146
            clear e6 hT hF ac
            have hbw := below_step hb (Nat.le_refl _) hB
            clear hB
            go_wp2
            go_ret
            exact ⟨rfl, hbw⟩
set_option maxRecDepth 100000 in
theorem lifted (os : Os) (started : os.Started) (H : Type) (enc : TypeId × Value → H) :
    ReturnsInHanded {} Tryd.checked os 3 .any (fun w args => (Rows.sealBytesSpec.pre enc Tryd.prog Tryd.f3 [] false w args ∧ laidMetH Tryd.prog [("scrinium/sha.k", Rows.laid_scrinium_sha_k)] w) ∧ sizedMet enc Tryd.prog Tryd.f3 (OpenSpec.ofChange Rows.sealBytesSpec) false w args)
      (Rows.sealBytesSpec.post enc Tryd.prog Tryd.f3 false true false false) := by
  refine returnsInHanded_of_change_and (C := Tryd.checked) (X := fun w _ => laidMetH Tryd.prog [("scrinium/sha.k", Rows.laid_scrinium_sha_k)] w) (fun _ _ _ hh h => h.of_heap hh) lawOwn started (by kernel_rfl) Tryd.func3
    (ChangeSpec.witness_shaped (enc := enc) (C := Tryd.checked) (os := os) (X := fun w _ => laidMetH Tryd.prog [("scrinium/sha.k", Rows.laid_scrinium_sha_k)] w) false (World.doorLaid Tryd.prog 400 os) #[.agg (fzCs fz0).toArray, .agg (hdCs hd0).toArray, .agg (stCs st0).toArray] 8 rfl (World.shaped_of_RefB (by kernel_rfl) (by kernel_rfl)) (by kernel_rfl) (by kernel_rfl) (by kernel_rfl) (door_met os _)) ?_
  intro W base args ds gs before hval0 hW _ _ hL _
  have hval : ∀ (j : Nat) t v, Tryd.f3.params[j]? = some t → args[j]? = some v → Value.okWide Tryd.prog W .any base t v := hval0
  have hW' := hW
  obtain ⟨p, q, hA0, hV, rfl, hfz, hnd⟩ := hW
  have hA : DataW.TrodAll enc Tryd.prog W 0 (fun _ => true) true Tryd.f3.params.toList args.toList ds p := hA0
  rw [Tryd.params3] at hA hval
  obtain ⟨v0, vs0, d0, ds0, p0, q0, hargs, rfl, rfl, h0, r0⟩ := trodAll_cons hA
  obtain ⟨v1, vs1, d1, ds1, p1, q1, rfl, rfl, rfl, h1, r1⟩ := trodAll_cons r0
  obtain ⟨v2, vs2, d2, ds2, p2, q2, rfl, rfl, rfl, h2, r2⟩ := trodAll_cons r1
  obtain ⟨rfl, rfl, rfl⟩ := trodAll_nil r2
  obtain rfl : args = #[v0, v1, v2] := by cases args; simp_all
  obtain ⟨rfl, rfl⟩ := trodVars_none hV
  have hKT := KT_of_laid hL
  obtain ⟨f0, rfl, w0⟩ := fz_arg (hval 0 25 v0 rfl rfl) h0
  obtain ⟨f1, rfl, w1⟩ := hd_arg (hval 1 27 v1 rfl rfl) h1
  obtain ⟨f2, rfl, w2⟩ := st_arg (hval 2 29 v2 rfl rfl) h2
  clear hA0 hval0
  refine (walk (w := W) hKT f0 w0 f1 w1 f2 w2).mono fun e W' ⟨he, bel⟩ => ?_
  subst he
  exact ⟨_, rfl, law_post rfl rfl (by kernel_rfl) hW' rfl bel⟩

theorem row_holds : Rows.SealBytesSaid :=
  OpenClaim.holds_of_wide 3 Tryd.f3 rfl rfl rfl rfl rfl rfl rfl ⟨rfl, rfl, rfl, rfl, rfl⟩ rfl rfl rfl rfl rfl (by kernel_rfl) Tryd.func3 (by kernel_rfl)
    (of_decide_eq_true (by kernel_rfl)) (by unfold Func.isWrapper; first | (rw [if_pos (by decide +kernel)]; kernel_rfl) | (rw [if_neg (by decide +kernel)]; exact ⟨rfl, rfl⟩))
    (fun os started H enc _ => lifted os started H enc)

theorem holds : Rows.SealBytesCardSaid :=
  Claim7.holds_tied_plain_at .later [] [.data] true Rows.sealBytesCard.stood.harness false
    row_holds (fun _ h => by cases h) (by kernel_rfl) (fun _ h => by cases h) sealBytes_row_tie rfl ⟨rfl, rfl⟩ (by kernel_rfl) rfl
    (fun f fn hf hfn => by
      obtain rfl : f = 3 := Option.some.inj ((show Tryd.prog.funcNamed "scrinium/scriniumlaw16.SealBytes" = some 3 by kernel_rfl).symm.trans hf) |>.symm
      obtain rfl : fn = Tryd.f3 := (Option.some.inj (Tryd.func3.symm.trans hfn)).symm
      exact ⟨by kernel_rfl, fun j t ht => by
        rw [Tryd.params3] at ht
        have hm : t ∈ [25, 27, 29] := by simpa using Array.mem_of_getElem? ht
        have hall : ([25, 27, 29].all fun u => !Tryd.prog.wantsStandIn u) = true := by kernel_rfl
        exact (show Tryd.prog.wantsStandIn t = false by simpa using List.all_eq_true.1 hall t hm)⟩)
    (by kernel_rfl)
end Go.Proofs.YtlcljjapeigaeaaDoor.sealBytes

theorem Go.Proofs.YtlcljjapeigaeaaDoor.sealBytes_holds : Go.Proofs.YtlcljjapeigaeaaDoor.Rows.SealBytesCardSaid := Go.Proofs.YtlcljjapeigaeaaDoor.sealBytes.holds
#print axioms Go.Proofs.YtlcljjapeigaeaaDoor.sealBytes_holds
