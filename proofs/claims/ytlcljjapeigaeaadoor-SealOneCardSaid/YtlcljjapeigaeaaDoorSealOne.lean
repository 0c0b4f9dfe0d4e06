/-
  SealOne: no two freezes, heads, or stones that may be have the same bytes, nor do a freeze, a head and a stone. For every two of each; the numbers K of the package sha are as the program's own start lays them.
-/
import Derived.Test.YtlcljjapeigaeaaDoorSelLaw
namespace Go.Proofs.YtlcljjapeigaeaaDoor.sealOne
open Go.ChangeShapes Go.WideShapes Go.ChangeAt Go.RowKit

theorem one_fz (a b : FzR) (ha : a.root.length = 32) (hb : b.root.length = 32) (za : fzB a = true) (zb : fzB b = true) : decide (fzL a = fzL b) = decide (a = b) := by
  rw [decide_eq_decide]
  refine ⟨fun e => ?_, fun e => by rw [e]⟩
  have h1 := (fzRd_iff (fzL a) a).2 ⟨za, ha, rfl⟩
  have h2 := (fzRd_iff (fzL b) b).2 ⟨zb, hb, rfl⟩
  rw [e, h2] at h1
  exact (Option.some.inj h1).symm
theorem one_hdd (a b : HdR) (ha : HdOk a) (hb : HdOk b) (za : hdB a = true) (zb : hdB b = true) : decide (hdF a = hdF b) = decide (a = b) := by
  rw [decide_eq_decide]
  refine ⟨fun e => ?_, fun e => by rw [e]⟩
  have h1 := (hdRd_iff (hdF a) a).2 ⟨za, ha.root, ha.mac, rfl⟩
  have h2 := (hdRd_iff (hdF b) b).2 ⟨zb, hb.root, hb.mac, rfl⟩
  rw [e, h2] at h1
  exact (Option.some.inj h1).symm
theorem one_stt (a b : StR) (ha : StOk a) (hb : StOk b) (za : stB a = true) (zb : stB b = true) : decide (stF a = stF b) = decide (a = b) := by
  rw [decide_eq_decide]
  refine ⟨fun e => ?_, fun e => by rw [e]⟩
  have h1 := (stRd_iff (stF a) a).2 ⟨za, ha.fz.root, ha.mac, rfl⟩
  have h2 := (stRd_iff (stF b) b).2 ⟨zb, hb.fz.root, hb.mac, rfl⟩
  rw [e, h2] at h1
  exact (Option.some.inj h1).symm
theorem far1 (f : FzR) (h : HdR) : fzL f ≠ hdF h := fun e => by rw [hdF_eq] at e; unfold fzL at e; injection e with e; exact absurd e (by decide)
theorem far2 (f : FzR) (t : StR) : fzL f ≠ stF t := fun e => by rw [stF_eq] at e; unfold fzL at e; injection e with e; exact absurd e (by decide)
theorem far3 (h : HdR) (t : StR) : hdF h ≠ stF t := fun e => by rw [hdF_eq, stF_eq] at e; injection e with e; exact absurd e (by decide)
theorem neq_eq0 (z : Int) (h : z = 0) (w : World) : (binOp .neq 31 (.int .i64 z) (.int .i64 0)).run Tryd.prog w = .ok (.bool false) w := by subst h; exact neq_err0S w
theorem neq_eq1 (z : Int) (h : z = 1) (w : World) : (binOp .neq 31 (.int .i64 z) (.int .i64 0)).run Tryd.prog w = .ok (.bool true) w := by subst h; exact neq_err1S w
theorem eql_tx (S T : ByteArray) (a b : List UInt8) (hS : S = tB a) (hT : T = tB b) (w : World) : (binOp .eql 9 (.string S) (.string T)).run Tryd.prog w = .ok (.bool (decide (a = b))) w := by
  subst hS hT
  rw [eql_str]
  congr 2
  exact decide_eq_decide.2 tB_inj
theorem neq_tx (S T : ByteArray) (a b : List UInt8) (hS : S = tB a) (hT : T = tB b) (h : a ≠ b) (w : World) : (binOp .neq 9 (.string S) (.string T)).run Tryd.prog w = .ok (.bool true) w := by
  subst hS hT
  exact neq_txt_t a b h w
theorem idx_fz2 (p : Nat) (w : World) : (Instr.indexAt 54 (.pointer (some ⟨p, 0, none⟩)) (.int .i64 0)).run Tryd.prog w = .ok (.pointer (some ⟨p, 0, none⟩)) w ∧ (Instr.indexAt 54 (.pointer (some ⟨p, 0, none⟩)) (.int .i64 1)).run Tryd.prog w = .ok (.pointer (some ⟨p, 34, none⟩)) w := by
  constructor <;> go_simp
theorem idx_hd2 (p : Nat) (w : World) : (Instr.indexAt 55 (.pointer (some ⟨p, 0, none⟩)) (.int .i64 0)).run Tryd.prog w = .ok (.pointer (some ⟨p, 0, none⟩)) w ∧ (Instr.indexAt 55 (.pointer (some ⟨p, 0, none⟩)) (.int .i64 1)).run Tryd.prog w = .ok (.pointer (some ⟨p, 66, none⟩)) w := by
  constructor <;> go_simp
theorem idx_st2 (p : Nat) (w : World) : (Instr.indexAt 56 (.pointer (some ⟨p, 0, none⟩)) (.int .i64 0)).run Tryd.prog w = .ok (.pointer (some ⟨p, 0, none⟩)) w ∧ (Instr.indexAt 56 (.pointer (some ⟨p, 0, none⟩)) (.int .i64 1)).run Tryd.prog w = .ok (.pointer (some ⟨p, 67, none⟩)) w := by
  constructor <;> go_simp
theorem two0 {p : Nat} {T : TypeId} {x y : List Value} {w : World} (h : Blk p T (x ++ y) w) : w.rangeAt p 0 x := (range_split h).1
theorem two1 {p n : Nat} {T : TypeId} {x y : List Value} {w : World} (h : Blk p T (x ++ y) w) (hn : x.length = n) : w.rangeAt p n y := by have := (range_split h).2; rw [hn] at this; exact this
set_option maxHeartbeats 12800000 in
set_option maxRecDepth 100000 in
theorem walk {w : World} (hK : KT w) (f : FzR) (hf : FzOk f) (f' : FzR) (hf' : FzOk f') (h : HdR) (hh : HdOk h) (h' : HdR) (hh' : HdOk h') (t : StR) (ht : StOk t) (t' : StR) (ht' : StOk t') :
    Calls Tryd.prog 7 #[.agg (fzCs f ++ fzCs f').toArray, .agg (hdCs h ++ hdCs h').toArray, .agg (stCs t ++ stCs t').toArray] w fun e w' => e = .returned (.bool true) ∧ Below w.heap.size w w' := by
  have HF0 := Lib.hid fun u => fzBytes_any f hf.root u
  have HF1 := Lib.hid fun u => fzBytes_any f' hf'.root u
  have HH0 := Lib.hid fun u => hdBytes_any h hh.root hh.mac u
  have HH1 := Lib.hid fun u => hdBytes_any h' hh'.root hh'.mac u
  have HT0 := Lib.hid fun u => stBytes_any t ht.fz.root ht.mac u
  have HT1 := Lib.hid fun u => stBytes_any t' ht'.fz.root ht'.mac u
  have HAW := Lib.hid fun u hu => awake16_any u hu
  have HLf0 : Hid ((fzCs f).length = 34) := Lib.hid (fzCs_length hf.root)
  have HLf1 : Hid ((fzCs f').length = 34) := Lib.hid (fzCs_length hf'.root)
  have HLh0 : Hid ((hdCs h).length = 66) := Lib.hid (hdCs_length hh.root hh.mac)
  have HLh1 : Hid ((hdCs h').length = 66) := Lib.hid (hdCs_length hh'.root hh'.mac)
  have HLt0 : Hid ((stCs t).length = 67) := Lib.hid (stCs_length ht.fz.root ht.mac)
  have HLt1 : Hid ((stCs t').length = 67) := Lib.hid (stCs_length ht'.fz.root ht'.mac)
  have OF0 := Lib.hid hf
  have OF1 := Lib.hid hf'
  have OH0 := Lib.hid hh
  have OH1 := Lib.hid hh'
  have OT0 := Lib.hid ht
  have OT1 := Lib.hid ht'
  clear hf hf' hh hh' ht ht' 
  have HIfz : Hid ((Tryd.prog.info? 25).map (·.size) = some 34) := Lib.hid (size_of info_fz)
  have HZfz : Hid ((fzCs fz0).length = 34) := Lib.hid rfl
  have HIhd : Hid ((Tryd.prog.info? 27).map (·.size) = some 66) := Lib.hid (size_of info_hd)
  have HZhd : Hid ((hdCs hd0).length = 66) := Lib.hid rfl
  have HIst : Hid ((Tryd.prog.info? 29).map (·.size) = some 67) := Lib.hid (size_of info_st)
  have HZst : Hid ((stCs st0).length = 67) := Lib.hid rfl
  obtain ⟨p, hp⟩ : ∃ p, p = w.heap.size := ⟨_, rfl⟩
  obtain ⟨q, hq⟩ : ∃ q, q = p + 1 := ⟨_, rfl⟩
  obtain ⟨r, hr⟩ : ∃ r, r = q + 1 := ⟨_, rfl⟩
  obtain ⟨A1, hA1⟩ : ∃ W, W = w.alloc (.cells (fzCs f ++ fzCs f').toArray 54) := ⟨_, rfl⟩
  obtain ⟨A2, hA2⟩ : ∃ W, W = A1.alloc (.cells (hdCs h ++ hdCs h').toArray 55) := ⟨_, rfl⟩
  obtain ⟨A3, hA3⟩ : ∃ W, W = A2.alloc (.cells (stCs t ++ stCs t').toArray 56) := ⟨_, rfl⟩
  have s1 : A1.heap.size = q := by rw [hA1, hq, hp]; simp
  have s2 : A2.heap.size = r := by rw [hA2, hr, ← s1]; simp
  have a1 : Below w.heap.size w A1 := by rw [hA1]; exact below_boxS _ _
  have a2 : Below A1.heap.size A1 A2 := by rw [hA2]; exact below_boxS _ _
  have a3 : Below A2.heap.size A2 A3 := by rw [hA3]; exact below_boxS _ _
  have HBf : Blk p 54 (fzCs f ++ fzCs f') A1 := by rw [hA1, hp]; exact Blk.alloc _ _ _
  replace HBf := (HBf.old a2 HBf.lt).old a3 (Nat.lt_of_lt_of_le HBf.lt a2.size)
  have HBh : Blk q 55 (hdCs h ++ hdCs h') A2 := by rw [hA2, ← s1]; exact Blk.alloc _ _ _
  replace HBh := HBh.old a3 HBh.lt
  have HBt : Blk r 56 (stCs t ++ stCs t') A3 := by rw [hA3, ← s2]; exact Blk.alloc _ _ _
  have hb := below_step (below_step a1 (Nat.le_refl _) a2) (Nat.le_refl _) a3
  have H1 := Lib.hid hA1
  have H2 := Lib.hid hA2
  have H3 := Lib.hid hA3
  have HP := Lib.hid hp
  have HQ := Lib.hid hq
  have HR := Lib.hid hr
  have HKA := Lib.hid (hK.old hb)
  clear hA1 hA2 hA3 hp hq hr s1 s2 a1 a2 a3 hK
  go_enter Tryd.func7, Tryd.ntmps7
  go_upto_region 1 with fail
  rw [← H1.out, ← HP.out, ← H2.out, ← H3.out, ← HQ.out, ← HR.out]
  clear H1 H2 H3 HP HQ HR
  go_upto_region 2 with (first
    | (go_at_call 9; (refine (HAW.out _ HKA.out).mono ?_; rintro e w1 ⟨rfl, b1⟩)))
  replace HBf := Blk.old HBf b1 (Blk.lt HBf)
  replace HBh := Blk.old HBh b1 (Blk.lt HBh)
  replace HBt := Blk.old HBt b1 (Blk.lt HBt)
  replace hb := below_step hb (Nat.le_refl _) b1
  clear b1
  clear HAW HKA
  go_upto_region 3 with (first
    | refine wpList_load_mid rfl 25 (.tmp 26) rfl p 0 rfl (fzCs f) _ (two0 HBf) Tryd.underlying25 rfl (by rw [HLf0.out]; exact HIfz.out) ?_
    | (go_at_call 10; (refine (HF0.out _).mono ?_; rintro e w2 ⟨rfl, b2⟩)))
  replace HBf := Blk.old HBf b2 (Blk.lt HBf)
  replace HBh := Blk.old HBh b2 (Blk.lt HBh)
  replace HBt := Blk.old HBt b2 (Blk.lt HBt)
  replace hb := below_step hb (Nat.le_refl _) b2
  clear b2
  go_upto_region 4 with (first
    | refine wpList_load_mid rfl 25 (.tmp 32) rfl p 34 rfl (fzCs f') _ (two1 HBf HLf0.out) Tryd.underlying25 rfl (by rw [HLf1.out]; exact HIfz.out) ?_
    | (go_at_call 10; (refine (HF1.out _).mono ?_; rintro e w3 ⟨rfl, b3⟩)))
  replace HBf := Blk.old HBf b3 (Blk.lt HBf)
  replace HBh := Blk.old HBh b3 (Blk.lt HBh)
  replace HBt := Blk.old HBt b3 (Blk.lt HBt)
  replace hb := below_step hb (Nat.le_refl _) b3
  clear b3
  go_upto_region 5 with (first
    | refine wpList_load_mid rfl 27 (.tmp 38) rfl q 0 rfl (hdCs h) _ (two0 HBh) Tryd.underlying27 rfl (by rw [HLh0.out]; exact HIhd.out) ?_
    | (go_at_call 12; (refine (HH0.out _).mono ?_; rintro e w4 ⟨rfl, b4⟩)))
  replace HBf := Blk.old HBf b4 (Blk.lt HBf)
  replace HBh := Blk.old HBh b4 (Blk.lt HBh)
  replace HBt := Blk.old HBt b4 (Blk.lt HBt)
  replace hb := below_step hb (Nat.le_refl _) b4
  clear b4
  go_upto_region 6 with (first
    | refine wpList_load_mid rfl 27 (.tmp 44) rfl q 66 rfl (hdCs h') _ (two1 HBh HLh0.out) Tryd.underlying27 rfl (by rw [HLh1.out]; exact HIhd.out) ?_
    | (go_at_call 12; (refine (HH1.out _).mono ?_; rintro e w5 ⟨rfl, b5⟩)))
  replace HBf := Blk.old HBf b5 (Blk.lt HBf)
  replace HBh := Blk.old HBh b5 (Blk.lt HBh)
  replace HBt := Blk.old HBt b5 (Blk.lt HBt)
  replace hb := below_step hb (Nat.le_refl _) b5
  clear b5
  go_upto_region 7 with (first
    | refine wpList_load_mid rfl 29 (.tmp 50) rfl r 0 rfl (stCs t) _ (two0 HBt) Tryd.underlying29 rfl (by rw [HLt0.out]; exact HIst.out) ?_
    | (go_at_call 14; (refine (HT0.out _).mono ?_; rintro e w6 ⟨rfl, b6⟩)))
  replace HBf := Blk.old HBf b6 (Blk.lt HBf)
  replace HBh := Blk.old HBh b6 (Blk.lt HBh)
  replace HBt := Blk.old HBt b6 (Blk.lt HBt)
  replace hb := below_step hb (Nat.le_refl _) b6
  clear b6
  go_upto_region 8 with (first
    | refine wpList_load_mid rfl 29 (.tmp 56) rfl r 67 rfl (stCs t') _ (two1 HBt HLt0.out) Tryd.underlying29 rfl (by rw [HLt1.out]; exact HIst.out) ?_
    | (go_at_call 14; (refine (HT1.out _).mono ?_; rintro e w7 ⟨rfl, b7⟩)))
  replace HBf := Blk.old HBf b7 (Blk.lt HBf)
  replace HBh := Blk.old HBh b7 (Blk.lt HBh)
  replace HBt := Blk.old HBt b7 (Blk.lt HBt)
  replace hb := below_step hb (Nat.le_refl _) b7
  clear b7
  clear HF0 HF1 HH0 HH1 HT0 HT1
  obtain ⟨U0, hU⟩ : ∃ U, U = w7 := ⟨_, rfl⟩
  subst hU
  go_upto_region 8 with fail
  go_cut [20] from 61 to 77 (fun s wx => s = .bool true ∧ Below U0.heap.size U0 wx)
  case first =>
    by_cases za : fzB f = true
    · by_cases zb : fzB f' = true
      · skip
        try simp only [Act.put]
        refine wp_region_tab0 [RT.is (.int .i64 (fzZ f)), RT.is (.bool false), RT.is (.bool false), RT.is (.int .i64 (fzZ f')), RT.is (.bool false), RT.is (.bool false), RT.is (.bool false), RT.is (.string (fzT f)), RT.is (.string (fzT f')), RT.is (.bool (decide (fzL f = fzL f'))), RT.is (.pointer (some ⟨p, 0, none⟩)), RT.is (.agg (fzCs f).toArray), RT.is (.pointer (some ⟨p, 34, none⟩)), RT.is (.agg (fzCs f').toArray), RT.is (.bool (decide (f = f'))), RT.is (.bool true), RT.is (.bool true), RT.is (.bool true)] (by kernel_rfl) (by kernel_rfl) (by kernel_rfl) ⟨?_, ?_, ?_, ?_, ?_, ?_, ?_, ?_, ?_, ?_, ?_, ?_, ?_, ?_, ?_, ?_, ?_, ?_, trivial⟩ ?_
        · intro ac w' hF hL hP hU K hK
          have hB : Below _ _ _ := hL
          have e9 : ac.eval (.tmp 9) = .int .i64 (fzZ f) := hF.at 9 (by kernel_rfl)
          exact rop_move _ rfl e9 (wanted_none rfl) (hK _ _ (le8_refl _) rfl)
        · intro ac w' hF hL hP hU K hK
          have hB : Below _ _ _ := hL
          have e61 : ac.eval (.tmp 61) = .int .i64 (fzZ f) := hP 0 (by kernel_rfl)
          exact rop_bin _ _ _ _ _ rfl e61 rfl (guard_int _ _ _ _ _ _ _ w') (neq_eq0 _ (if_pos za) w') (wanted_none rfl) (hK _ _ (le8_refl _) rfl)
        · intro ac w' hF hL hP hU K hK
          have hB : Below _ _ _ := hL
          have e62 : ac.eval (.tmp 62) = .bool false := hP 1 (by kernel_rfl)
          exact rop_move _ rfl e62 (wanted_none rfl) (hK _ _ (le8_refl _) rfl)
        · intro ac w' hF hL hP hU K hK
          have hB : Below _ _ _ := hL
          have e11 : ac.eval (.tmp 11) = .int .i64 (fzZ f') := hF.at 11 (by kernel_rfl)
          have e63 : ac.eval (.tmp 63) = .bool false := hP 2 (by kernel_rfl)
          exact rop_move _ rfl e11 (wanted_of (j := 2) (b := false) rfl rfl e63) (hK _ _ (le8_refl _) rfl)
        · intro ac w' hF hL hP hU K hK
          have hB : Below _ _ _ := hL
          have e64 : ac.eval (.tmp 64) = .int .i64 (fzZ f') := hP 3 (by kernel_rfl)
          have e63 : ac.eval (.tmp 63) = .bool false := hP 2 (by kernel_rfl)
          exact rop_bin _ _ _ _ _ rfl e64 rfl (guard_int _ _ _ _ _ _ _ w') (neq_eq0 _ (if_pos zb) w') (wanted_of (j := 2) (b := false) rfl rfl e63) (hK _ _ (le8_refl _) rfl)
        · intro ac w' hF hL hP hU K hK
          have hB : Below _ _ _ := hL
          have e63 : ac.eval (.tmp 63) = .bool false := hP 2 (by kernel_rfl)
          have e65 : ac.eval (.tmp 65) = .bool false := hP 4 (by kernel_rfl)
          exact rop_pick _ _ _ rfl false e63 (by simpa using e65) (wanted_none rfl) (hK _ _ (le8_refl _) rfl)
        · intro ac w' hF hL hP hU K hK
          have hB : Below _ _ _ := hL
          have e66 : ac.eval (.tmp 66) = .bool false := hP 5 (by kernel_rfl)
          exact rop_move _ rfl e66 (wanted_none rfl) (hK _ _ (le8_refl _) rfl)
        · intro ac w' hF hL hP hU K hK
          have hB : Below _ _ _ := hL
          have e8 : ac.eval (.tmp 8) = .string (fzT f) := hF.at 8 (by kernel_rfl)
          have e67 : ac.eval (.tmp 67) = .bool false := hP 6 (by kernel_rfl)
          exact rop_move _ rfl e8 (wanted_of (j := 6) (b := false) rfl rfl e67) (hK _ _ (le8_refl _) rfl)
        · intro ac w' hF hL hP hU K hK
          have hB : Below _ _ _ := hL
          have e10 : ac.eval (.tmp 10) = .string (fzT f') := hF.at 10 (by kernel_rfl)
          have e67 : ac.eval (.tmp 67) = .bool false := hP 6 (by kernel_rfl)
          exact rop_move _ rfl e10 (wanted_of (j := 6) (b := false) rfl rfl e67) (hK _ _ (le8_refl _) rfl)
        · intro ac w' hF hL hP hU K hK
          have hB : Below _ _ _ := hL
          have e68 : ac.eval (.tmp 68) = .string (fzT f) := hP 7 (by kernel_rfl)
          have e69 : ac.eval (.tmp 69) = .string (fzT f') := hP 8 (by kernel_rfl)
          have e67 : ac.eval (.tmp 67) = .bool false := hP 6 (by kernel_rfl)
          exact rop_bin _ _ _ _ _ rfl e68 e69 (guard_str _ _ _ _ _ _ w') (eql_tx _ _ _ _ (if_pos za) (if_pos zb) w') (wanted_of (j := 6) (b := false) rfl rfl e67) (hK _ _ (le8_refl _) rfl)
        · intro ac w' hF hL hP hU K hK
          have hB : Below _ _ _ := hL
          have e3 : ac.eval (.tmp 3) = .pointer (some ⟨p, 0, none⟩) := hF.at 3 (by kernel_rfl)
          have e67 : ac.eval (.tmp 67) = .bool false := hP 6 (by kernel_rfl)
          exact rop_idx _ _ _ rfl e3 rfl ((idx_fz2 p w').1) (wanted_of (j := 6) (b := false) rfl rfl e67) (hK _ _ (le8_refl _) rfl)
        · intro ac w' hF hL hP hU K hK
          have hB : Below _ _ _ := hL
          have e71 : ac.eval (.tmp 71) = .pointer (some ⟨p, 0, none⟩) := hP 10 (by kernel_rfl)
          have e67 : ac.eval (.tmp 67) = .bool false := hP 6 (by kernel_rfl)
          exact rop_ld _ _ rfl e71 (load_fzAt (two0 (Blk.old HBf hB (Blk.lt HBf))) OF0.out.root) (wanted_of (j := 6) (b := false) rfl rfl e67) (hK _ _ (le8_refl _) rfl)
        · intro ac w' hF hL hP hU K hK
          have hB : Below _ _ _ := hL
          have e3 : ac.eval (.tmp 3) = .pointer (some ⟨p, 0, none⟩) := hF.at 3 (by kernel_rfl)
          have e67 : ac.eval (.tmp 67) = .bool false := hP 6 (by kernel_rfl)
          exact rop_idx _ _ _ rfl e3 rfl ((idx_fz2 p w').2) (wanted_of (j := 6) (b := false) rfl rfl e67) (hK _ _ (le8_refl _) rfl)
        · intro ac w' hF hL hP hU K hK
          have hB : Below _ _ _ := hL
          have e73 : ac.eval (.tmp 73) = .pointer (some ⟨p, 34, none⟩) := hP 12 (by kernel_rfl)
          have e67 : ac.eval (.tmp 67) = .bool false := hP 6 (by kernel_rfl)
          exact rop_ld _ _ rfl e73 (load_fzAt (two1 (Blk.old HBf hB (Blk.lt HBf)) HLf0.out) OF1.out.root) (wanted_of (j := 6) (b := false) rfl rfl e67) (hK _ _ (le8_refl _) rfl)
        · intro ac w' hF hL hP hU K hK
          have hB : Below _ _ _ := hL
          have e72 : ac.eval (.tmp 72) = .agg (fzCs f).toArray := hP 11 (by kernel_rfl)
          have e74 : ac.eval (.tmp 74) = .agg (fzCs f').toArray := hP 13 (by kernel_rfl)
          have e67 : ac.eval (.tmp 67) = .bool false := hP 6 (by kernel_rfl)
          exact rop_bin _ _ _ _ _ rfl e72 e74 (guard_fz .eql _ _ _ _ w') (eql_fz f f' OF0.out OF1.out w') (wanted_of (j := 6) (b := false) rfl rfl e67) (hK _ _ (le8_refl _) rfl)
        · intro ac w' hF hL hP hU K hK
          have hB : Below _ _ _ := hL
          have e70 : ac.eval (.tmp 70) = .bool (decide (fzL f = fzL f')) := hP 9 (by kernel_rfl)
          have e75 : ac.eval (.tmp 75) = .bool (decide (f = f')) := hP 14 (by kernel_rfl)
          have e67 : ac.eval (.tmp 67) = .bool false := hP 6 (by kernel_rfl)
          exact rop_bin _ _ _ _ _ rfl e70 e75 (guard_boolS _ _ _ _ _ _ w') ((eql_bool_d _ _ w').trans (by rw [one_fz f f' OF0.out.root OF1.out.root za zb]; simp)) (wanted_of (j := 6) (b := false) rfl rfl e67) (hK _ _ (le8_refl _) rfl)
        · intro ac w' hF hL hP hU K hK
          have hB : Below _ _ _ := hL
          have e67 : ac.eval (.tmp 67) = .bool false := hP 6 (by kernel_rfl)
          have e76 : ac.eval (.tmp 76) = .bool true := hP 15 (by kernel_rfl)
          exact rop_pick _ _ _ rfl false e67 (by simpa using e76) (wanted_none rfl) (hK _ _ (le8_refl _) rfl)
        · intro ac w' hF hL hP hU K hK
          have hB : Below _ _ _ := hL
          have e77 : ac.eval (.tmp 77) = .bool true := hP 16 (by kernel_rfl)
          exact rop_assign _ rfl e77 (wanted_none rfl) (hK _ _ (le8_refl _) rfl)
        · intro ac w' hF hB hT
          have e20 : ac.eval (.tmp 20) = .bool true := hT 17 (by decide)
          rw [hF.setsG [61, 62, 63, 64, 65, 66, 67, 68, 69, 70, 71, 72, 73, 74, 75, 76, 77, 20] (by kernel_rfl)]
          simp only [List.foldl_cons, List.foldl_nil, List.setIfInBounds_toArray, List.set_cons_succ, List.set_cons_zero, e20]
          generalize ac.eval (.tmp 61) = u61
          generalize ac.eval (.tmp 62) = u62
          generalize ac.eval (.tmp 63) = u63
          generalize ac.eval (.tmp 64) = u64
          generalize ac.eval (.tmp 65) = u65
          generalize ac.eval (.tmp 66) = u66
          generalize ac.eval (.tmp 67) = u67
          generalize ac.eval (.tmp 68) = u68
          generalize ac.eval (.tmp 69) = u69
          generalize ac.eval (.tmp 70) = u70
          generalize ac.eval (.tmp 71) = u71
          generalize ac.eval (.tmp 72) = u72
          generalize ac.eval (.tmp 73) = u73
          generalize ac.eval (.tmp 74) = u74
          generalize ac.eval (.tmp 75) = u75
          generalize ac.eval (.tmp 76) = u76
          generalize ac.eval (.tmp 77) = u77
          clear e20 hT hF ac
          go_wp2_with fail
          go_meet
          exact ⟨rfl, hB⟩
      · skip
        try simp only [Act.put]
        refine wp_region_tab0 [RT.is (.int .i64 (fzZ f)), RT.is (.bool false), RT.is (.bool false), RT.is (.int .i64 (fzZ f')), RT.is (.bool true), RT.is (.bool true), RT.is (.bool true), RT.is undef, RT.is undef, RT.is undef, RT.is undef, RT.is undef, RT.is undef, RT.is undef, RT.is undef, RT.is undef, RT.is (.bool true), RT.is (.bool true)] (by kernel_rfl) (by kernel_rfl) (by kernel_rfl) ⟨?_, ?_, ?_, ?_, ?_, ?_, ?_, ?_, ?_, ?_, ?_, ?_, ?_, ?_, ?_, ?_, ?_, ?_, trivial⟩ ?_
        · intro ac w' hF hL hP hU K hK
          have hB : Below _ _ _ := hL
          have e9 : ac.eval (.tmp 9) = .int .i64 (fzZ f) := hF.at 9 (by kernel_rfl)
          exact rop_move _ rfl e9 (wanted_none rfl) (hK _ _ (le8_refl _) rfl)
        · intro ac w' hF hL hP hU K hK
          have hB : Below _ _ _ := hL
          have e61 : ac.eval (.tmp 61) = .int .i64 (fzZ f) := hP 0 (by kernel_rfl)
          exact rop_bin _ _ _ _ _ rfl e61 rfl (guard_int _ _ _ _ _ _ _ w') (neq_eq0 _ (if_pos za) w') (wanted_none rfl) (hK _ _ (le8_refl _) rfl)
        · intro ac w' hF hL hP hU K hK
          have hB : Below _ _ _ := hL
          have e62 : ac.eval (.tmp 62) = .bool false := hP 1 (by kernel_rfl)
          exact rop_move _ rfl e62 (wanted_none rfl) (hK _ _ (le8_refl _) rfl)
        · intro ac w' hF hL hP hU K hK
          have hB : Below _ _ _ := hL
          have e11 : ac.eval (.tmp 11) = .int .i64 (fzZ f') := hF.at 11 (by kernel_rfl)
          have e63 : ac.eval (.tmp 63) = .bool false := hP 2 (by kernel_rfl)
          exact rop_move _ rfl e11 (wanted_of (j := 2) (b := false) rfl rfl e63) (hK _ _ (le8_refl _) rfl)
        · intro ac w' hF hL hP hU K hK
          have hB : Below _ _ _ := hL
          have e64 : ac.eval (.tmp 64) = .int .i64 (fzZ f') := hP 3 (by kernel_rfl)
          have e63 : ac.eval (.tmp 63) = .bool false := hP 2 (by kernel_rfl)
          exact rop_bin _ _ _ _ _ rfl e64 rfl (guard_int _ _ _ _ _ _ _ w') (neq_eq1 _ (if_neg zb) w') (wanted_of (j := 2) (b := false) rfl rfl e63) (hK _ _ (le8_refl _) rfl)
        · intro ac w' hF hL hP hU K hK
          have hB : Below _ _ _ := hL
          have e63 : ac.eval (.tmp 63) = .bool false := hP 2 (by kernel_rfl)
          have e65 : ac.eval (.tmp 65) = .bool true := hP 4 (by kernel_rfl)
          exact rop_pick _ _ _ rfl false e63 (by simpa using e65) (wanted_none rfl) (hK _ _ (le8_refl _) rfl)
        · intro ac w' hF hL hP hU K hK
          have hB : Below _ _ _ := hL
          have e66 : ac.eval (.tmp 66) = .bool true := hP 5 (by kernel_rfl)
          exact rop_move _ rfl e66 (wanted_none rfl) (hK _ _ (le8_refl _) rfl)
        · intro ac w' hF hL hP hU K hK
          have hB : Below _ _ _ := hL
          have e67 : ac.eval (.tmp 67) = .bool true := hP 6 (by kernel_rfl)
          exact rop_offG (j := 6) (b := false) rfl rfl e67 (by decide) (hK _ _ (le8_refl _) rfl)
        · intro ac w' hF hL hP hU K hK
          have hB : Below _ _ _ := hL
          have e67 : ac.eval (.tmp 67) = .bool true := hP 6 (by kernel_rfl)
          exact rop_offG (j := 6) (b := false) rfl rfl e67 (by decide) (hK _ _ (le8_refl _) rfl)
        · intro ac w' hF hL hP hU K hK
          have hB : Below _ _ _ := hL
          have e67 : ac.eval (.tmp 67) = .bool true := hP 6 (by kernel_rfl)
          exact rop_offG (j := 6) (b := false) rfl rfl e67 (by decide) (hK _ _ (le8_refl _) rfl)
        · intro ac w' hF hL hP hU K hK
          have hB : Below _ _ _ := hL
          have e67 : ac.eval (.tmp 67) = .bool true := hP 6 (by kernel_rfl)
          exact rop_offG (j := 6) (b := false) rfl rfl e67 (by decide) (hK _ _ (le8_refl _) rfl)
        · intro ac w' hF hL hP hU K hK
          have hB : Below _ _ _ := hL
          have e67 : ac.eval (.tmp 67) = .bool true := hP 6 (by kernel_rfl)
          exact rop_offG (j := 6) (b := false) rfl rfl e67 (by decide) (hK _ _ (le8_refl _) rfl)
        · intro ac w' hF hL hP hU K hK
          have hB : Below _ _ _ := hL
          have e67 : ac.eval (.tmp 67) = .bool true := hP 6 (by kernel_rfl)
          exact rop_offG (j := 6) (b := false) rfl rfl e67 (by decide) (hK _ _ (le8_refl _) rfl)
        · intro ac w' hF hL hP hU K hK
          have hB : Below _ _ _ := hL
          have e67 : ac.eval (.tmp 67) = .bool true := hP 6 (by kernel_rfl)
          exact rop_offG (j := 6) (b := false) rfl rfl e67 (by decide) (hK _ _ (le8_refl _) rfl)
        · intro ac w' hF hL hP hU K hK
          have hB : Below _ _ _ := hL
          have e67 : ac.eval (.tmp 67) = .bool true := hP 6 (by kernel_rfl)
          exact rop_offG (j := 6) (b := false) rfl rfl e67 (by decide) (hK _ _ (le8_refl _) rfl)
        · intro ac w' hF hL hP hU K hK
          have hB : Below _ _ _ := hL
          have e67 : ac.eval (.tmp 67) = .bool true := hP 6 (by kernel_rfl)
          exact rop_offG (j := 6) (b := false) rfl rfl e67 (by decide) (hK _ _ (le8_refl _) rfl)
        · intro ac w' hF hL hP hU K hK
          have hB : Below _ _ _ := hL
          have e67 : ac.eval (.tmp 67) = .bool true := hP 6 (by kernel_rfl)
          exact rop_pick _ _ _ rfl true e67 (by rfl) (wanted_none rfl) (hK _ _ (le8_refl _) rfl)
        · intro ac w' hF hL hP hU K hK
          have hB : Below _ _ _ := hL
          have e77 : ac.eval (.tmp 77) = .bool true := hP 16 (by kernel_rfl)
          exact rop_assign _ rfl e77 (wanted_none rfl) (hK _ _ (le8_refl _) rfl)
        · intro ac w' hF hB hT
          have e20 : ac.eval (.tmp 20) = .bool true := hT 17 (by decide)
          rw [hF.setsG [61, 62, 63, 64, 65, 66, 67, 68, 69, 70, 71, 72, 73, 74, 75, 76, 77, 20] (by kernel_rfl)]
          simp only [List.foldl_cons, List.foldl_nil, List.setIfInBounds_toArray, List.set_cons_succ, List.set_cons_zero, e20]
          generalize ac.eval (.tmp 61) = u61
          generalize ac.eval (.tmp 62) = u62
          generalize ac.eval (.tmp 63) = u63
          generalize ac.eval (.tmp 64) = u64
          generalize ac.eval (.tmp 65) = u65
          generalize ac.eval (.tmp 66) = u66
          generalize ac.eval (.tmp 67) = u67
          generalize ac.eval (.tmp 68) = u68
          generalize ac.eval (.tmp 69) = u69
          generalize ac.eval (.tmp 70) = u70
          generalize ac.eval (.tmp 71) = u71
          generalize ac.eval (.tmp 72) = u72
          generalize ac.eval (.tmp 73) = u73
          generalize ac.eval (.tmp 74) = u74
          generalize ac.eval (.tmp 75) = u75
          generalize ac.eval (.tmp 76) = u76
          generalize ac.eval (.tmp 77) = u77
          clear e20 hT hF ac
          go_wp2_with fail
          go_meet
          exact ⟨rfl, hB⟩
    · skip
      try simp only [Act.put]
      refine wp_region_tab0 [RT.is (.int .i64 (fzZ f)), RT.is (.bool true), RT.is (.bool true), RT.is undef, RT.is undef, RT.is (.bool true), RT.is (.bool true), RT.is undef, RT.is undef, RT.is undef, RT.is undef, RT.is undef, RT.is undef, RT.is undef, RT.is undef, RT.is undef, RT.is (.bool true), RT.is (.bool true)] (by kernel_rfl) (by kernel_rfl) (by kernel_rfl) ⟨?_, ?_, ?_, ?_, ?_, ?_, ?_, ?_, ?_, ?_, ?_, ?_, ?_, ?_, ?_, ?_, ?_, ?_, trivial⟩ ?_
      · intro ac w' hF hL hP hU K hK
        have hB : Below _ _ _ := hL
        have e9 : ac.eval (.tmp 9) = .int .i64 (fzZ f) := hF.at 9 (by kernel_rfl)
        exact rop_move _ rfl e9 (wanted_none rfl) (hK _ _ (le8_refl _) rfl)
      · intro ac w' hF hL hP hU K hK
        have hB : Below _ _ _ := hL
        have e61 : ac.eval (.tmp 61) = .int .i64 (fzZ f) := hP 0 (by kernel_rfl)
        exact rop_bin _ _ _ _ _ rfl e61 rfl (guard_int _ _ _ _ _ _ _ w') (neq_eq1 _ (if_neg za) w') (wanted_none rfl) (hK _ _ (le8_refl _) rfl)
      · intro ac w' hF hL hP hU K hK
        have hB : Below _ _ _ := hL
        have e62 : ac.eval (.tmp 62) = .bool true := hP 1 (by kernel_rfl)
        exact rop_move _ rfl e62 (wanted_none rfl) (hK _ _ (le8_refl _) rfl)
      · intro ac w' hF hL hP hU K hK
        have hB : Below _ _ _ := hL
        have e63 : ac.eval (.tmp 63) = .bool true := hP 2 (by kernel_rfl)
        exact rop_offG (j := 2) (b := false) rfl rfl e63 (by decide) (hK _ _ (le8_refl _) rfl)
      · intro ac w' hF hL hP hU K hK
        have hB : Below _ _ _ := hL
        have e63 : ac.eval (.tmp 63) = .bool true := hP 2 (by kernel_rfl)
        exact rop_offG (j := 2) (b := false) rfl rfl e63 (by decide) (hK _ _ (le8_refl _) rfl)
      · intro ac w' hF hL hP hU K hK
        have hB : Below _ _ _ := hL
        have e63 : ac.eval (.tmp 63) = .bool true := hP 2 (by kernel_rfl)
        exact rop_pick _ _ _ rfl true e63 (by rfl) (wanted_none rfl) (hK _ _ (le8_refl _) rfl)
      · intro ac w' hF hL hP hU K hK
        have hB : Below _ _ _ := hL
        have e66 : ac.eval (.tmp 66) = .bool true := hP 5 (by kernel_rfl)
        exact rop_move _ rfl e66 (wanted_none rfl) (hK _ _ (le8_refl _) rfl)
      · intro ac w' hF hL hP hU K hK
        have hB : Below _ _ _ := hL
        have e67 : ac.eval (.tmp 67) = .bool true := hP 6 (by kernel_rfl)
        exact rop_offG (j := 6) (b := false) rfl rfl e67 (by decide) (hK _ _ (le8_refl _) rfl)
      · intro ac w' hF hL hP hU K hK
        have hB : Below _ _ _ := hL
        have e67 : ac.eval (.tmp 67) = .bool true := hP 6 (by kernel_rfl)
        exact rop_offG (j := 6) (b := false) rfl rfl e67 (by decide) (hK _ _ (le8_refl _) rfl)
      · intro ac w' hF hL hP hU K hK
        have hB : Below _ _ _ := hL
        have e67 : ac.eval (.tmp 67) = .bool true := hP 6 (by kernel_rfl)
        exact rop_offG (j := 6) (b := false) rfl rfl e67 (by decide) (hK _ _ (le8_refl _) rfl)
      · intro ac w' hF hL hP hU K hK
        have hB : Below _ _ _ := hL
        have e67 : ac.eval (.tmp 67) = .bool true := hP 6 (by kernel_rfl)
        exact rop_offG (j := 6) (b := false) rfl rfl e67 (by decide) (hK _ _ (le8_refl _) rfl)
      · intro ac w' hF hL hP hU K hK
        have hB : Below _ _ _ := hL
        have e67 : ac.eval (.tmp 67) = .bool true := hP 6 (by kernel_rfl)
        exact rop_offG (j := 6) (b := false) rfl rfl e67 (by decide) (hK _ _ (le8_refl _) rfl)
      · intro ac w' hF hL hP hU K hK
        have hB : Below _ _ _ := hL
        have e67 : ac.eval (.tmp 67) = .bool true := hP 6 (by kernel_rfl)
        exact rop_offG (j := 6) (b := false) rfl rfl e67 (by decide) (hK _ _ (le8_refl _) rfl)
      · intro ac w' hF hL hP hU K hK
        have hB : Below _ _ _ := hL
        have e67 : ac.eval (.tmp 67) = .bool true := hP 6 (by kernel_rfl)
        exact rop_offG (j := 6) (b := false) rfl rfl e67 (by decide) (hK _ _ (le8_refl _) rfl)
      · intro ac w' hF hL hP hU K hK
        have hB : Below _ _ _ := hL
        have e67 : ac.eval (.tmp 67) = .bool true := hP 6 (by kernel_rfl)
        exact rop_offG (j := 6) (b := false) rfl rfl e67 (by decide) (hK _ _ (le8_refl _) rfl)
      · intro ac w' hF hL hP hU K hK
        have hB : Below _ _ _ := hL
        have e67 : ac.eval (.tmp 67) = .bool true := hP 6 (by kernel_rfl)
        exact rop_offG (j := 6) (b := false) rfl rfl e67 (by decide) (hK _ _ (le8_refl _) rfl)
      · intro ac w' hF hL hP hU K hK
        have hB : Below _ _ _ := hL
        have e67 : ac.eval (.tmp 67) = .bool true := hP 6 (by kernel_rfl)
        exact rop_pick _ _ _ rfl true e67 (by rfl) (wanted_none rfl) (hK _ _ (le8_refl _) rfl)
      · intro ac w' hF hL hP hU K hK
        have hB : Below _ _ _ := hL
        have e77 : ac.eval (.tmp 77) = .bool true := hP 16 (by kernel_rfl)
        exact rop_assign _ rfl e77 (wanted_none rfl) (hK _ _ (le8_refl _) rfl)
      · intro ac w' hF hB hT
        have e20 : ac.eval (.tmp 20) = .bool true := hT 17 (by decide)
        rw [hF.setsG [61, 62, 63, 64, 65, 66, 67, 68, 69, 70, 71, 72, 73, 74, 75, 76, 77, 20] (by kernel_rfl)]
        simp only [List.foldl_cons, List.foldl_nil, List.setIfInBounds_toArray, List.set_cons_succ, List.set_cons_zero, e20]
        generalize ac.eval (.tmp 61) = u61
        generalize ac.eval (.tmp 62) = u62
        generalize ac.eval (.tmp 63) = u63
        generalize ac.eval (.tmp 64) = u64
        generalize ac.eval (.tmp 65) = u65
        generalize ac.eval (.tmp 66) = u66
        generalize ac.eval (.tmp 67) = u67
        generalize ac.eval (.tmp 68) = u68
        generalize ac.eval (.tmp 69) = u69
        generalize ac.eval (.tmp 70) = u70
        generalize ac.eval (.tmp 71) = u71
        generalize ac.eval (.tmp 72) = u72
        generalize ac.eval (.tmp 73) = u73
        generalize ac.eval (.tmp 74) = u74
        generalize ac.eval (.tmp 75) = u75
        generalize ac.eval (.tmp 76) = u76
        generalize ac.eval (.tmp 77) = u77
        clear e20 hT hF ac
        go_wp2_with fail
        go_meet
        exact ⟨rfl, hB⟩
  case rest =>
  obtain ⟨rfl, hBc⟩ := hcut
  replace HBf := Blk.old HBf hBc (Blk.lt HBf)
  replace HBh := Blk.old HBh hBc (Blk.lt HBh)
  replace HBt := Blk.old HBt hBc (Blk.lt HBt)
  replace hb := below_step hb (Nat.le_refl _) hBc
  clear hBc
  obtain ⟨U1, hU⟩ : ∃ U, U = wc := ⟨_, rfl⟩
  subst hU
  go_upto_region 9 with fail
  go_cut [21] from 78 to 94 (fun s wx => s = .bool true ∧ Below U1.heap.size U1 wx)
  case first =>
    by_cases za : hdB h = true
    · by_cases zb : hdB h' = true
      · skip
        try simp only [Act.put]
        refine wp_region_tab0 [RT.is (.int .i64 (hdZ h)), RT.is (.bool false), RT.is (.bool false), RT.is (.int .i64 (hdZ h')), RT.is (.bool false), RT.is (.bool false), RT.is (.bool false), RT.is (.string (hdG h)), RT.is (.string (hdG h')), RT.is (.bool (decide (hdF h = hdF h'))), RT.is (.pointer (some ⟨q, 0, none⟩)), RT.is (.agg (hdCs h).toArray), RT.is (.pointer (some ⟨q, 66, none⟩)), RT.is (.agg (hdCs h').toArray), RT.is (.bool (decide (h = h'))), RT.is (.bool true), RT.is (.bool true), RT.is (.bool true)] (by kernel_rfl) (by kernel_rfl) (by kernel_rfl) ⟨?_, ?_, ?_, ?_, ?_, ?_, ?_, ?_, ?_, ?_, ?_, ?_, ?_, ?_, ?_, ?_, ?_, ?_, trivial⟩ ?_
        · intro ac w' hF hL hP hU K hK
          have hB : Below _ _ _ := hL
          have e13 : ac.eval (.tmp 13) = .int .i64 (hdZ h) := hF.at 13 (by kernel_rfl)
          exact rop_move _ rfl e13 (wanted_none rfl) (hK _ _ (le8_refl _) rfl)
        · intro ac w' hF hL hP hU K hK
          have hB : Below _ _ _ := hL
          have e78 : ac.eval (.tmp 78) = .int .i64 (hdZ h) := hP 0 (by kernel_rfl)
          exact rop_bin _ _ _ _ _ rfl e78 rfl (guard_int _ _ _ _ _ _ _ w') (neq_eq0 _ (if_pos za) w') (wanted_none rfl) (hK _ _ (le8_refl _) rfl)
        · intro ac w' hF hL hP hU K hK
          have hB : Below _ _ _ := hL
          have e79 : ac.eval (.tmp 79) = .bool false := hP 1 (by kernel_rfl)
          exact rop_move _ rfl e79 (wanted_none rfl) (hK _ _ (le8_refl _) rfl)
        · intro ac w' hF hL hP hU K hK
          have hB : Below _ _ _ := hL
          have e15 : ac.eval (.tmp 15) = .int .i64 (hdZ h') := hF.at 15 (by kernel_rfl)
          have e80 : ac.eval (.tmp 80) = .bool false := hP 2 (by kernel_rfl)
          exact rop_move _ rfl e15 (wanted_of (j := 2) (b := false) rfl rfl e80) (hK _ _ (le8_refl _) rfl)
        · intro ac w' hF hL hP hU K hK
          have hB : Below _ _ _ := hL
          have e81 : ac.eval (.tmp 81) = .int .i64 (hdZ h') := hP 3 (by kernel_rfl)
          have e80 : ac.eval (.tmp 80) = .bool false := hP 2 (by kernel_rfl)
          exact rop_bin _ _ _ _ _ rfl e81 rfl (guard_int _ _ _ _ _ _ _ w') (neq_eq0 _ (if_pos zb) w') (wanted_of (j := 2) (b := false) rfl rfl e80) (hK _ _ (le8_refl _) rfl)
        · intro ac w' hF hL hP hU K hK
          have hB : Below _ _ _ := hL
          have e80 : ac.eval (.tmp 80) = .bool false := hP 2 (by kernel_rfl)
          have e82 : ac.eval (.tmp 82) = .bool false := hP 4 (by kernel_rfl)
          exact rop_pick _ _ _ rfl false e80 (by simpa using e82) (wanted_none rfl) (hK _ _ (le8_refl _) rfl)
        · intro ac w' hF hL hP hU K hK
          have hB : Below _ _ _ := hL
          have e83 : ac.eval (.tmp 83) = .bool false := hP 5 (by kernel_rfl)
          exact rop_move _ rfl e83 (wanted_none rfl) (hK _ _ (le8_refl _) rfl)
        · intro ac w' hF hL hP hU K hK
          have hB : Below _ _ _ := hL
          have e12 : ac.eval (.tmp 12) = .string (hdG h) := hF.at 12 (by kernel_rfl)
          have e84 : ac.eval (.tmp 84) = .bool false := hP 6 (by kernel_rfl)
          exact rop_move _ rfl e12 (wanted_of (j := 6) (b := false) rfl rfl e84) (hK _ _ (le8_refl _) rfl)
        · intro ac w' hF hL hP hU K hK
          have hB : Below _ _ _ := hL
          have e14 : ac.eval (.tmp 14) = .string (hdG h') := hF.at 14 (by kernel_rfl)
          have e84 : ac.eval (.tmp 84) = .bool false := hP 6 (by kernel_rfl)
          exact rop_move _ rfl e14 (wanted_of (j := 6) (b := false) rfl rfl e84) (hK _ _ (le8_refl _) rfl)
        · intro ac w' hF hL hP hU K hK
          have hB : Below _ _ _ := hL
          have e85 : ac.eval (.tmp 85) = .string (hdG h) := hP 7 (by kernel_rfl)
          have e86 : ac.eval (.tmp 86) = .string (hdG h') := hP 8 (by kernel_rfl)
          have e84 : ac.eval (.tmp 84) = .bool false := hP 6 (by kernel_rfl)
          exact rop_bin _ _ _ _ _ rfl e85 e86 (guard_str _ _ _ _ _ _ w') (eql_tx _ _ _ _ (if_pos za) (if_pos zb) w') (wanted_of (j := 6) (b := false) rfl rfl e84) (hK _ _ (le8_refl _) rfl)
        · intro ac w' hF hL hP hU K hK
          have hB : Below _ _ _ := hL
          have e4 : ac.eval (.tmp 4) = .pointer (some ⟨q, 0, none⟩) := hF.at 4 (by kernel_rfl)
          have e84 : ac.eval (.tmp 84) = .bool false := hP 6 (by kernel_rfl)
          exact rop_idx _ _ _ rfl e4 rfl ((idx_hd2 q w').1) (wanted_of (j := 6) (b := false) rfl rfl e84) (hK _ _ (le8_refl _) rfl)
        · intro ac w' hF hL hP hU K hK
          have hB : Below _ _ _ := hL
          have e88 : ac.eval (.tmp 88) = .pointer (some ⟨q, 0, none⟩) := hP 10 (by kernel_rfl)
          have e84 : ac.eval (.tmp 84) = .bool false := hP 6 (by kernel_rfl)
          exact rop_ld _ _ rfl e88 (load_hdAt (two0 (Blk.old HBh hB (Blk.lt HBh))) OH0.out.root OH0.out.mac) (wanted_of (j := 6) (b := false) rfl rfl e84) (hK _ _ (le8_refl _) rfl)
        · intro ac w' hF hL hP hU K hK
          have hB : Below _ _ _ := hL
          have e4 : ac.eval (.tmp 4) = .pointer (some ⟨q, 0, none⟩) := hF.at 4 (by kernel_rfl)
          have e84 : ac.eval (.tmp 84) = .bool false := hP 6 (by kernel_rfl)
          exact rop_idx _ _ _ rfl e4 rfl ((idx_hd2 q w').2) (wanted_of (j := 6) (b := false) rfl rfl e84) (hK _ _ (le8_refl _) rfl)
        · intro ac w' hF hL hP hU K hK
          have hB : Below _ _ _ := hL
          have e90 : ac.eval (.tmp 90) = .pointer (some ⟨q, 66, none⟩) := hP 12 (by kernel_rfl)
          have e84 : ac.eval (.tmp 84) = .bool false := hP 6 (by kernel_rfl)
          exact rop_ld _ _ rfl e90 (load_hdAt (two1 (Blk.old HBh hB (Blk.lt HBh)) HLh0.out) OH1.out.root OH1.out.mac) (wanted_of (j := 6) (b := false) rfl rfl e84) (hK _ _ (le8_refl _) rfl)
        · intro ac w' hF hL hP hU K hK
          have hB : Below _ _ _ := hL
          have e89 : ac.eval (.tmp 89) = .agg (hdCs h).toArray := hP 11 (by kernel_rfl)
          have e91 : ac.eval (.tmp 91) = .agg (hdCs h').toArray := hP 13 (by kernel_rfl)
          have e84 : ac.eval (.tmp 84) = .bool false := hP 6 (by kernel_rfl)
          exact rop_bin _ _ _ _ _ rfl e89 e91 (guard_hd .eql _ _ _ _ w') (eql_hd h h' OH0.out OH1.out w') (wanted_of (j := 6) (b := false) rfl rfl e84) (hK _ _ (le8_refl _) rfl)
        · intro ac w' hF hL hP hU K hK
          have hB : Below _ _ _ := hL
          have e87 : ac.eval (.tmp 87) = .bool (decide (hdF h = hdF h')) := hP 9 (by kernel_rfl)
          have e92 : ac.eval (.tmp 92) = .bool (decide (h = h')) := hP 14 (by kernel_rfl)
          have e84 : ac.eval (.tmp 84) = .bool false := hP 6 (by kernel_rfl)
          exact rop_bin _ _ _ _ _ rfl e87 e92 (guard_boolS _ _ _ _ _ _ w') ((eql_bool_d _ _ w').trans (by rw [one_hdd h h' OH0.out OH1.out za zb]; simp)) (wanted_of (j := 6) (b := false) rfl rfl e84) (hK _ _ (le8_refl _) rfl)
        · intro ac w' hF hL hP hU K hK
          have hB : Below _ _ _ := hL
          have e84 : ac.eval (.tmp 84) = .bool false := hP 6 (by kernel_rfl)
          have e93 : ac.eval (.tmp 93) = .bool true := hP 15 (by kernel_rfl)
          exact rop_pick _ _ _ rfl false e84 (by simpa using e93) (wanted_none rfl) (hK _ _ (le8_refl _) rfl)
        · intro ac w' hF hL hP hU K hK
          have hB : Below _ _ _ := hL
          have e94 : ac.eval (.tmp 94) = .bool true := hP 16 (by kernel_rfl)
          exact rop_assign _ rfl e94 (wanted_none rfl) (hK _ _ (le8_refl _) rfl)
        · intro ac w' hF hB hT
          have e21 : ac.eval (.tmp 21) = .bool true := hT 17 (by decide)
          rw [hF.setsG [78, 79, 80, 81, 82, 83, 84, 85, 86, 87, 88, 89, 90, 91, 92, 93, 94, 21] (by kernel_rfl)]
          simp only [List.foldl_cons, List.foldl_nil, List.setIfInBounds_toArray, List.set_cons_succ, List.set_cons_zero, e21]
          generalize ac.eval (.tmp 78) = u78
          generalize ac.eval (.tmp 79) = u79
          generalize ac.eval (.tmp 80) = u80
          generalize ac.eval (.tmp 81) = u81
          generalize ac.eval (.tmp 82) = u82
          generalize ac.eval (.tmp 83) = u83
          generalize ac.eval (.tmp 84) = u84
          generalize ac.eval (.tmp 85) = u85
          generalize ac.eval (.tmp 86) = u86
          generalize ac.eval (.tmp 87) = u87
          generalize ac.eval (.tmp 88) = u88
          generalize ac.eval (.tmp 89) = u89
          generalize ac.eval (.tmp 90) = u90
          generalize ac.eval (.tmp 91) = u91
          generalize ac.eval (.tmp 92) = u92
          generalize ac.eval (.tmp 93) = u93
          generalize ac.eval (.tmp 94) = u94
          clear e21 hT hF ac
          go_wp2_with fail
          go_meet
          exact ⟨rfl, hB⟩
      · skip
        try simp only [Act.put]
        refine wp_region_tab0 [RT.is (.int .i64 (hdZ h)), RT.is (.bool false), RT.is (.bool false), RT.is (.int .i64 (hdZ h')), RT.is (.bool true), RT.is (.bool true), RT.is (.bool true), RT.is undef, RT.is undef, RT.is undef, RT.is undef, RT.is undef, RT.is undef, RT.is undef, RT.is undef, RT.is undef, RT.is (.bool true), RT.is (.bool true)] (by kernel_rfl) (by kernel_rfl) (by kernel_rfl) ⟨?_, ?_, ?_, ?_, ?_, ?_, ?_, ?_, ?_, ?_, ?_, ?_, ?_, ?_, ?_, ?_, ?_, ?_, trivial⟩ ?_
        · intro ac w' hF hL hP hU K hK
          have hB : Below _ _ _ := hL
          have e13 : ac.eval (.tmp 13) = .int .i64 (hdZ h) := hF.at 13 (by kernel_rfl)
          exact rop_move _ rfl e13 (wanted_none rfl) (hK _ _ (le8_refl _) rfl)
        · intro ac w' hF hL hP hU K hK
          have hB : Below _ _ _ := hL
          have e78 : ac.eval (.tmp 78) = .int .i64 (hdZ h) := hP 0 (by kernel_rfl)
          exact rop_bin _ _ _ _ _ rfl e78 rfl (guard_int _ _ _ _ _ _ _ w') (neq_eq0 _ (if_pos za) w') (wanted_none rfl) (hK _ _ (le8_refl _) rfl)
        · intro ac w' hF hL hP hU K hK
          have hB : Below _ _ _ := hL
          have e79 : ac.eval (.tmp 79) = .bool false := hP 1 (by kernel_rfl)
          exact rop_move _ rfl e79 (wanted_none rfl) (hK _ _ (le8_refl _) rfl)
        · intro ac w' hF hL hP hU K hK
          have hB : Below _ _ _ := hL
          have e15 : ac.eval (.tmp 15) = .int .i64 (hdZ h') := hF.at 15 (by kernel_rfl)
          have e80 : ac.eval (.tmp 80) = .bool false := hP 2 (by kernel_rfl)
          exact rop_move _ rfl e15 (wanted_of (j := 2) (b := false) rfl rfl e80) (hK _ _ (le8_refl _) rfl)
        · intro ac w' hF hL hP hU K hK
          have hB : Below _ _ _ := hL
          have e81 : ac.eval (.tmp 81) = .int .i64 (hdZ h') := hP 3 (by kernel_rfl)
          have e80 : ac.eval (.tmp 80) = .bool false := hP 2 (by kernel_rfl)
          exact rop_bin _ _ _ _ _ rfl e81 rfl (guard_int _ _ _ _ _ _ _ w') (neq_eq1 _ (if_neg zb) w') (wanted_of (j := 2) (b := false) rfl rfl e80) (hK _ _ (le8_refl _) rfl)
        · intro ac w' hF hL hP hU K hK
          have hB : Below _ _ _ := hL
          have e80 : ac.eval (.tmp 80) = .bool false := hP 2 (by kernel_rfl)
          have e82 : ac.eval (.tmp 82) = .bool true := hP 4 (by kernel_rfl)
          exact rop_pick _ _ _ rfl false e80 (by simpa using e82) (wanted_none rfl) (hK _ _ (le8_refl _) rfl)
        · intro ac w' hF hL hP hU K hK
          have hB : Below _ _ _ := hL
          have e83 : ac.eval (.tmp 83) = .bool true := hP 5 (by kernel_rfl)
          exact rop_move _ rfl e83 (wanted_none rfl) (hK _ _ (le8_refl _) rfl)
        · intro ac w' hF hL hP hU K hK
          have hB : Below _ _ _ := hL
          have e84 : ac.eval (.tmp 84) = .bool true := hP 6 (by kernel_rfl)
          exact rop_offG (j := 6) (b := false) rfl rfl e84 (by decide) (hK _ _ (le8_refl _) rfl)
        · intro ac w' hF hL hP hU K hK
          have hB : Below _ _ _ := hL
          have e84 : ac.eval (.tmp 84) = .bool true := hP 6 (by kernel_rfl)
          exact rop_offG (j := 6) (b := false) rfl rfl e84 (by decide) (hK _ _ (le8_refl _) rfl)
        · intro ac w' hF hL hP hU K hK
          have hB : Below _ _ _ := hL
          have e84 : ac.eval (.tmp 84) = .bool true := hP 6 (by kernel_rfl)
          exact rop_offG (j := 6) (b := false) rfl rfl e84 (by decide) (hK _ _ (le8_refl _) rfl)
        · intro ac w' hF hL hP hU K hK
          have hB : Below _ _ _ := hL
          have e84 : ac.eval (.tmp 84) = .bool true := hP 6 (by kernel_rfl)
          exact rop_offG (j := 6) (b := false) rfl rfl e84 (by decide) (hK _ _ (le8_refl _) rfl)
        · intro ac w' hF hL hP hU K hK
          have hB : Below _ _ _ := hL
          have e84 : ac.eval (.tmp 84) = .bool true := hP 6 (by kernel_rfl)
          exact rop_offG (j := 6) (b := false) rfl rfl e84 (by decide) (hK _ _ (le8_refl _) rfl)
        · intro ac w' hF hL hP hU K hK
          have hB : Below _ _ _ := hL
          have e84 : ac.eval (.tmp 84) = .bool true := hP 6 (by kernel_rfl)
          exact rop_offG (j := 6) (b := false) rfl rfl e84 (by decide) (hK _ _ (le8_refl _) rfl)
        · intro ac w' hF hL hP hU K hK
          have hB : Below _ _ _ := hL
          have e84 : ac.eval (.tmp 84) = .bool true := hP 6 (by kernel_rfl)
          exact rop_offG (j := 6) (b := false) rfl rfl e84 (by decide) (hK _ _ (le8_refl _) rfl)
        · intro ac w' hF hL hP hU K hK
          have hB : Below _ _ _ := hL
          have e84 : ac.eval (.tmp 84) = .bool true := hP 6 (by kernel_rfl)
          exact rop_offG (j := 6) (b := false) rfl rfl e84 (by decide) (hK _ _ (le8_refl _) rfl)
        · intro ac w' hF hL hP hU K hK
          have hB : Below _ _ _ := hL
          have e84 : ac.eval (.tmp 84) = .bool true := hP 6 (by kernel_rfl)
          exact rop_offG (j := 6) (b := false) rfl rfl e84 (by decide) (hK _ _ (le8_refl _) rfl)
        · intro ac w' hF hL hP hU K hK
          have hB : Below _ _ _ := hL
          have e84 : ac.eval (.tmp 84) = .bool true := hP 6 (by kernel_rfl)
          exact rop_pick _ _ _ rfl true e84 (by rfl) (wanted_none rfl) (hK _ _ (le8_refl _) rfl)
        · intro ac w' hF hL hP hU K hK
          have hB : Below _ _ _ := hL
          have e94 : ac.eval (.tmp 94) = .bool true := hP 16 (by kernel_rfl)
          exact rop_assign _ rfl e94 (wanted_none rfl) (hK _ _ (le8_refl _) rfl)
        · intro ac w' hF hB hT
          have e21 : ac.eval (.tmp 21) = .bool true := hT 17 (by decide)
          rw [hF.setsG [78, 79, 80, 81, 82, 83, 84, 85, 86, 87, 88, 89, 90, 91, 92, 93, 94, 21] (by kernel_rfl)]
          simp only [List.foldl_cons, List.foldl_nil, List.setIfInBounds_toArray, List.set_cons_succ, List.set_cons_zero, e21]
          generalize ac.eval (.tmp 78) = u78
          generalize ac.eval (.tmp 79) = u79
          generalize ac.eval (.tmp 80) = u80
          generalize ac.eval (.tmp 81) = u81
          generalize ac.eval (.tmp 82) = u82
          generalize ac.eval (.tmp 83) = u83
          generalize ac.eval (.tmp 84) = u84
          generalize ac.eval (.tmp 85) = u85
          generalize ac.eval (.tmp 86) = u86
          generalize ac.eval (.tmp 87) = u87
          generalize ac.eval (.tmp 88) = u88
          generalize ac.eval (.tmp 89) = u89
          generalize ac.eval (.tmp 90) = u90
          generalize ac.eval (.tmp 91) = u91
          generalize ac.eval (.tmp 92) = u92
          generalize ac.eval (.tmp 93) = u93
          generalize ac.eval (.tmp 94) = u94
          clear e21 hT hF ac
          go_wp2_with fail
          go_meet
          exact ⟨rfl, hB⟩
    · skip
      try simp only [Act.put]
      refine wp_region_tab0 [RT.is (.int .i64 (hdZ h)), RT.is (.bool true), RT.is (.bool true), RT.is undef, RT.is undef, RT.is (.bool true), RT.is (.bool true), RT.is undef, RT.is undef, RT.is undef, RT.is undef, RT.is undef, RT.is undef, RT.is undef, RT.is undef, RT.is undef, RT.is (.bool true), RT.is (.bool true)] (by kernel_rfl) (by kernel_rfl) (by kernel_rfl) ⟨?_, ?_, ?_, ?_, ?_, ?_, ?_, ?_, ?_, ?_, ?_, ?_, ?_, ?_, ?_, ?_, ?_, ?_, trivial⟩ ?_
      · intro ac w' hF hL hP hU K hK
        have hB : Below _ _ _ := hL
        have e13 : ac.eval (.tmp 13) = .int .i64 (hdZ h) := hF.at 13 (by kernel_rfl)
        exact rop_move _ rfl e13 (wanted_none rfl) (hK _ _ (le8_refl _) rfl)
      · intro ac w' hF hL hP hU K hK
        have hB : Below _ _ _ := hL
        have e78 : ac.eval (.tmp 78) = .int .i64 (hdZ h) := hP 0 (by kernel_rfl)
        exact rop_bin _ _ _ _ _ rfl e78 rfl (guard_int _ _ _ _ _ _ _ w') (neq_eq1 _ (if_neg za) w') (wanted_none rfl) (hK _ _ (le8_refl _) rfl)
      · intro ac w' hF hL hP hU K hK
        have hB : Below _ _ _ := hL
        have e79 : ac.eval (.tmp 79) = .bool true := hP 1 (by kernel_rfl)
        exact rop_move _ rfl e79 (wanted_none rfl) (hK _ _ (le8_refl _) rfl)
      · intro ac w' hF hL hP hU K hK
        have hB : Below _ _ _ := hL
        have e80 : ac.eval (.tmp 80) = .bool true := hP 2 (by kernel_rfl)
        exact rop_offG (j := 2) (b := false) rfl rfl e80 (by decide) (hK _ _ (le8_refl _) rfl)
      · intro ac w' hF hL hP hU K hK
        have hB : Below _ _ _ := hL
        have e80 : ac.eval (.tmp 80) = .bool true := hP 2 (by kernel_rfl)
        exact rop_offG (j := 2) (b := false) rfl rfl e80 (by decide) (hK _ _ (le8_refl _) rfl)
      · intro ac w' hF hL hP hU K hK
        have hB : Below _ _ _ := hL
        have e80 : ac.eval (.tmp 80) = .bool true := hP 2 (by kernel_rfl)
        exact rop_pick _ _ _ rfl true e80 (by rfl) (wanted_none rfl) (hK _ _ (le8_refl _) rfl)
      · intro ac w' hF hL hP hU K hK
        have hB : Below _ _ _ := hL
        have e83 : ac.eval (.tmp 83) = .bool true := hP 5 (by kernel_rfl)
        exact rop_move _ rfl e83 (wanted_none rfl) (hK _ _ (le8_refl _) rfl)
      · intro ac w' hF hL hP hU K hK
        have hB : Below _ _ _ := hL
        have e84 : ac.eval (.tmp 84) = .bool true := hP 6 (by kernel_rfl)
        exact rop_offG (j := 6) (b := false) rfl rfl e84 (by decide) (hK _ _ (le8_refl _) rfl)
      · intro ac w' hF hL hP hU K hK
        have hB : Below _ _ _ := hL
        have e84 : ac.eval (.tmp 84) = .bool true := hP 6 (by kernel_rfl)
        exact rop_offG (j := 6) (b := false) rfl rfl e84 (by decide) (hK _ _ (le8_refl _) rfl)
      · intro ac w' hF hL hP hU K hK
        have hB : Below _ _ _ := hL
        have e84 : ac.eval (.tmp 84) = .bool true := hP 6 (by kernel_rfl)
        exact rop_offG (j := 6) (b := false) rfl rfl e84 (by decide) (hK _ _ (le8_refl _) rfl)
      · intro ac w' hF hL hP hU K hK
        have hB : Below _ _ _ := hL
        have e84 : ac.eval (.tmp 84) = .bool true := hP 6 (by kernel_rfl)
        exact rop_offG (j := 6) (b := false) rfl rfl e84 (by decide) (hK _ _ (le8_refl _) rfl)
      · intro ac w' hF hL hP hU K hK
        have hB : Below _ _ _ := hL
        have e84 : ac.eval (.tmp 84) = .bool true := hP 6 (by kernel_rfl)
        exact rop_offG (j := 6) (b := false) rfl rfl e84 (by decide) (hK _ _ (le8_refl _) rfl)
      · intro ac w' hF hL hP hU K hK
        have hB : Below _ _ _ := hL
        have e84 : ac.eval (.tmp 84) = .bool true := hP 6 (by kernel_rfl)
        exact rop_offG (j := 6) (b := false) rfl rfl e84 (by decide) (hK _ _ (le8_refl _) rfl)
      · intro ac w' hF hL hP hU K hK
        have hB : Below _ _ _ := hL
        have e84 : ac.eval (.tmp 84) = .bool true := hP 6 (by kernel_rfl)
        exact rop_offG (j := 6) (b := false) rfl rfl e84 (by decide) (hK _ _ (le8_refl _) rfl)
      · intro ac w' hF hL hP hU K hK
        have hB : Below _ _ _ := hL
        have e84 : ac.eval (.tmp 84) = .bool true := hP 6 (by kernel_rfl)
        exact rop_offG (j := 6) (b := false) rfl rfl e84 (by decide) (hK _ _ (le8_refl _) rfl)
      · intro ac w' hF hL hP hU K hK
        have hB : Below _ _ _ := hL
        have e84 : ac.eval (.tmp 84) = .bool true := hP 6 (by kernel_rfl)
        exact rop_offG (j := 6) (b := false) rfl rfl e84 (by decide) (hK _ _ (le8_refl _) rfl)
      · intro ac w' hF hL hP hU K hK
        have hB : Below _ _ _ := hL
        have e84 : ac.eval (.tmp 84) = .bool true := hP 6 (by kernel_rfl)
        exact rop_pick _ _ _ rfl true e84 (by rfl) (wanted_none rfl) (hK _ _ (le8_refl _) rfl)
      · intro ac w' hF hL hP hU K hK
        have hB : Below _ _ _ := hL
        have e94 : ac.eval (.tmp 94) = .bool true := hP 16 (by kernel_rfl)
        exact rop_assign _ rfl e94 (wanted_none rfl) (hK _ _ (le8_refl _) rfl)
      · intro ac w' hF hB hT
        have e21 : ac.eval (.tmp 21) = .bool true := hT 17 (by decide)
        rw [hF.setsG [78, 79, 80, 81, 82, 83, 84, 85, 86, 87, 88, 89, 90, 91, 92, 93, 94, 21] (by kernel_rfl)]
        simp only [List.foldl_cons, List.foldl_nil, List.setIfInBounds_toArray, List.set_cons_succ, List.set_cons_zero, e21]
        generalize ac.eval (.tmp 78) = u78
        generalize ac.eval (.tmp 79) = u79
        generalize ac.eval (.tmp 80) = u80
        generalize ac.eval (.tmp 81) = u81
        generalize ac.eval (.tmp 82) = u82
        generalize ac.eval (.tmp 83) = u83
        generalize ac.eval (.tmp 84) = u84
        generalize ac.eval (.tmp 85) = u85
        generalize ac.eval (.tmp 86) = u86
        generalize ac.eval (.tmp 87) = u87
        generalize ac.eval (.tmp 88) = u88
        generalize ac.eval (.tmp 89) = u89
        generalize ac.eval (.tmp 90) = u90
        generalize ac.eval (.tmp 91) = u91
        generalize ac.eval (.tmp 92) = u92
        generalize ac.eval (.tmp 93) = u93
        generalize ac.eval (.tmp 94) = u94
        clear e21 hT hF ac
        go_wp2_with fail
        go_meet
        exact ⟨rfl, hB⟩
  case rest =>
  obtain ⟨rfl, hBc⟩ := hcut
  replace HBf := Blk.old HBf hBc (Blk.lt HBf)
  replace HBh := Blk.old HBh hBc (Blk.lt HBh)
  replace HBt := Blk.old HBt hBc (Blk.lt HBt)
  replace hb := below_step hb (Nat.le_refl _) hBc
  clear hBc
  obtain ⟨U2, hU⟩ : ∃ U, U = wc := ⟨_, rfl⟩
  subst hU
  go_upto_region 10 with fail
  go_cut [22] from 95 to 111 (fun s wx => s = .bool true ∧ Below U2.heap.size U2 wx)
  case first =>
    by_cases za : stB t = true
    · by_cases zb : stB t' = true
      · skip
        try simp only [Act.put]
        refine wp_region_tab0 [RT.is (.int .i64 (stZ t)), RT.is (.bool false), RT.is (.bool false), RT.is (.int .i64 (stZ t')), RT.is (.bool false), RT.is (.bool false), RT.is (.bool false), RT.is (.string (stG t)), RT.is (.string (stG t')), RT.is (.bool (decide (stF t = stF t'))), RT.is (.pointer (some ⟨r, 0, none⟩)), RT.is (.agg (stCs t).toArray), RT.is (.pointer (some ⟨r, 67, none⟩)), RT.is (.agg (stCs t').toArray), RT.is (.bool (decide (t = t'))), RT.is (.bool true), RT.is (.bool true), RT.is (.bool true)] (by kernel_rfl) (by kernel_rfl) (by kernel_rfl) ⟨?_, ?_, ?_, ?_, ?_, ?_, ?_, ?_, ?_, ?_, ?_, ?_, ?_, ?_, ?_, ?_, ?_, ?_, trivial⟩ ?_
        · intro ac w' hF hL hP hU K hK
          have hB : Below _ _ _ := hL
          have e17 : ac.eval (.tmp 17) = .int .i64 (stZ t) := hF.at 17 (by kernel_rfl)
          exact rop_move _ rfl e17 (wanted_none rfl) (hK _ _ (le8_refl _) rfl)
        · intro ac w' hF hL hP hU K hK
          have hB : Below _ _ _ := hL
          have e95 : ac.eval (.tmp 95) = .int .i64 (stZ t) := hP 0 (by kernel_rfl)
          exact rop_bin _ _ _ _ _ rfl e95 rfl (guard_int _ _ _ _ _ _ _ w') (neq_eq0 _ (if_pos za) w') (wanted_none rfl) (hK _ _ (le8_refl _) rfl)
        · intro ac w' hF hL hP hU K hK
          have hB : Below _ _ _ := hL
          have e96 : ac.eval (.tmp 96) = .bool false := hP 1 (by kernel_rfl)
          exact rop_move _ rfl e96 (wanted_none rfl) (hK _ _ (le8_refl _) rfl)
        · intro ac w' hF hL hP hU K hK
          have hB : Below _ _ _ := hL
          have e19 : ac.eval (.tmp 19) = .int .i64 (stZ t') := hF.at 19 (by kernel_rfl)
          have e97 : ac.eval (.tmp 97) = .bool false := hP 2 (by kernel_rfl)
          exact rop_move _ rfl e19 (wanted_of (j := 2) (b := false) rfl rfl e97) (hK _ _ (le8_refl _) rfl)
        · intro ac w' hF hL hP hU K hK
          have hB : Below _ _ _ := hL
          have e98 : ac.eval (.tmp 98) = .int .i64 (stZ t') := hP 3 (by kernel_rfl)
          have e97 : ac.eval (.tmp 97) = .bool false := hP 2 (by kernel_rfl)
          exact rop_bin _ _ _ _ _ rfl e98 rfl (guard_int _ _ _ _ _ _ _ w') (neq_eq0 _ (if_pos zb) w') (wanted_of (j := 2) (b := false) rfl rfl e97) (hK _ _ (le8_refl _) rfl)
        · intro ac w' hF hL hP hU K hK
          have hB : Below _ _ _ := hL
          have e97 : ac.eval (.tmp 97) = .bool false := hP 2 (by kernel_rfl)
          have e99 : ac.eval (.tmp 99) = .bool false := hP 4 (by kernel_rfl)
          exact rop_pick _ _ _ rfl false e97 (by simpa using e99) (wanted_none rfl) (hK _ _ (le8_refl _) rfl)
        · intro ac w' hF hL hP hU K hK
          have hB : Below _ _ _ := hL
          have e100 : ac.eval (.tmp 100) = .bool false := hP 5 (by kernel_rfl)
          exact rop_move _ rfl e100 (wanted_none rfl) (hK _ _ (le8_refl _) rfl)
        · intro ac w' hF hL hP hU K hK
          have hB : Below _ _ _ := hL
          have e16 : ac.eval (.tmp 16) = .string (stG t) := hF.at 16 (by kernel_rfl)
          have e101 : ac.eval (.tmp 101) = .bool false := hP 6 (by kernel_rfl)
          exact rop_move _ rfl e16 (wanted_of (j := 6) (b := false) rfl rfl e101) (hK _ _ (le8_refl _) rfl)
        · intro ac w' hF hL hP hU K hK
          have hB : Below _ _ _ := hL
          have e18 : ac.eval (.tmp 18) = .string (stG t') := hF.at 18 (by kernel_rfl)
          have e101 : ac.eval (.tmp 101) = .bool false := hP 6 (by kernel_rfl)
          exact rop_move _ rfl e18 (wanted_of (j := 6) (b := false) rfl rfl e101) (hK _ _ (le8_refl _) rfl)
        · intro ac w' hF hL hP hU K hK
          have hB : Below _ _ _ := hL
          have e102 : ac.eval (.tmp 102) = .string (stG t) := hP 7 (by kernel_rfl)
          have e103 : ac.eval (.tmp 103) = .string (stG t') := hP 8 (by kernel_rfl)
          have e101 : ac.eval (.tmp 101) = .bool false := hP 6 (by kernel_rfl)
          exact rop_bin _ _ _ _ _ rfl e102 e103 (guard_str _ _ _ _ _ _ w') (eql_tx _ _ _ _ (if_pos za) (if_pos zb) w') (wanted_of (j := 6) (b := false) rfl rfl e101) (hK _ _ (le8_refl _) rfl)
        · intro ac w' hF hL hP hU K hK
          have hB : Below _ _ _ := hL
          have e5 : ac.eval (.tmp 5) = .pointer (some ⟨r, 0, none⟩) := hF.at 5 (by kernel_rfl)
          have e101 : ac.eval (.tmp 101) = .bool false := hP 6 (by kernel_rfl)
          exact rop_idx _ _ _ rfl e5 rfl ((idx_st2 r w').1) (wanted_of (j := 6) (b := false) rfl rfl e101) (hK _ _ (le8_refl _) rfl)
        · intro ac w' hF hL hP hU K hK
          have hB : Below _ _ _ := hL
          have e105 : ac.eval (.tmp 105) = .pointer (some ⟨r, 0, none⟩) := hP 10 (by kernel_rfl)
          have e101 : ac.eval (.tmp 101) = .bool false := hP 6 (by kernel_rfl)
          exact rop_ld _ _ rfl e105 (load_stAt (two0 (Blk.old HBt hB (Blk.lt HBt))) OT0.out.fz.root OT0.out.mac) (wanted_of (j := 6) (b := false) rfl rfl e101) (hK _ _ (le8_refl _) rfl)
        · intro ac w' hF hL hP hU K hK
          have hB : Below _ _ _ := hL
          have e5 : ac.eval (.tmp 5) = .pointer (some ⟨r, 0, none⟩) := hF.at 5 (by kernel_rfl)
          have e101 : ac.eval (.tmp 101) = .bool false := hP 6 (by kernel_rfl)
          exact rop_idx _ _ _ rfl e5 rfl ((idx_st2 r w').2) (wanted_of (j := 6) (b := false) rfl rfl e101) (hK _ _ (le8_refl _) rfl)
        · intro ac w' hF hL hP hU K hK
          have hB : Below _ _ _ := hL
          have e107 : ac.eval (.tmp 107) = .pointer (some ⟨r, 67, none⟩) := hP 12 (by kernel_rfl)
          have e101 : ac.eval (.tmp 101) = .bool false := hP 6 (by kernel_rfl)
          exact rop_ld _ _ rfl e107 (load_stAt (two1 (Blk.old HBt hB (Blk.lt HBt)) HLt0.out) OT1.out.fz.root OT1.out.mac) (wanted_of (j := 6) (b := false) rfl rfl e101) (hK _ _ (le8_refl _) rfl)
        · intro ac w' hF hL hP hU K hK
          have hB : Below _ _ _ := hL
          have e106 : ac.eval (.tmp 106) = .agg (stCs t).toArray := hP 11 (by kernel_rfl)
          have e108 : ac.eval (.tmp 108) = .agg (stCs t').toArray := hP 13 (by kernel_rfl)
          have e101 : ac.eval (.tmp 101) = .bool false := hP 6 (by kernel_rfl)
          exact rop_bin _ _ _ _ _ rfl e106 e108 (guard_st .eql _ _ _ _ w') (eql_st t t' OT0.out OT1.out w') (wanted_of (j := 6) (b := false) rfl rfl e101) (hK _ _ (le8_refl _) rfl)
        · intro ac w' hF hL hP hU K hK
          have hB : Below _ _ _ := hL
          have e104 : ac.eval (.tmp 104) = .bool (decide (stF t = stF t')) := hP 9 (by kernel_rfl)
          have e109 : ac.eval (.tmp 109) = .bool (decide (t = t')) := hP 14 (by kernel_rfl)
          have e101 : ac.eval (.tmp 101) = .bool false := hP 6 (by kernel_rfl)
          exact rop_bin _ _ _ _ _ rfl e104 e109 (guard_boolS _ _ _ _ _ _ w') ((eql_bool_d _ _ w').trans (by rw [one_stt t t' OT0.out OT1.out za zb]; simp)) (wanted_of (j := 6) (b := false) rfl rfl e101) (hK _ _ (le8_refl _) rfl)
        · intro ac w' hF hL hP hU K hK
          have hB : Below _ _ _ := hL
          have e101 : ac.eval (.tmp 101) = .bool false := hP 6 (by kernel_rfl)
          have e110 : ac.eval (.tmp 110) = .bool true := hP 15 (by kernel_rfl)
          exact rop_pick _ _ _ rfl false e101 (by simpa using e110) (wanted_none rfl) (hK _ _ (le8_refl _) rfl)
        · intro ac w' hF hL hP hU K hK
          have hB : Below _ _ _ := hL
          have e111 : ac.eval (.tmp 111) = .bool true := hP 16 (by kernel_rfl)
          exact rop_assign _ rfl e111 (wanted_none rfl) (hK _ _ (le8_refl _) rfl)
        · intro ac w' hF hB hT
          have e22 : ac.eval (.tmp 22) = .bool true := hT 17 (by decide)
          rw [hF.setsG [95, 96, 97, 98, 99, 100, 101, 102, 103, 104, 105, 106, 107, 108, 109, 110, 111, 22] (by kernel_rfl)]
          simp only [List.foldl_cons, List.foldl_nil, List.setIfInBounds_toArray, List.set_cons_succ, List.set_cons_zero, e22]
          generalize ac.eval (.tmp 95) = u95
          generalize ac.eval (.tmp 96) = u96
          generalize ac.eval (.tmp 97) = u97
          generalize ac.eval (.tmp 98) = u98
          generalize ac.eval (.tmp 99) = u99
          generalize ac.eval (.tmp 100) = u100
          generalize ac.eval (.tmp 101) = u101
          generalize ac.eval (.tmp 102) = u102
          generalize ac.eval (.tmp 103) = u103
          generalize ac.eval (.tmp 104) = u104
          generalize ac.eval (.tmp 105) = u105
          generalize ac.eval (.tmp 106) = u106
          generalize ac.eval (.tmp 107) = u107
          generalize ac.eval (.tmp 108) = u108
          generalize ac.eval (.tmp 109) = u109
          generalize ac.eval (.tmp 110) = u110
          generalize ac.eval (.tmp 111) = u111
          clear e22 hT hF ac
          go_wp2_with fail
          go_meet
          exact ⟨rfl, hB⟩
      · skip
        try simp only [Act.put]
        refine wp_region_tab0 [RT.is (.int .i64 (stZ t)), RT.is (.bool false), RT.is (.bool false), RT.is (.int .i64 (stZ t')), RT.is (.bool true), RT.is (.bool true), RT.is (.bool true), RT.is undef, RT.is undef, RT.is undef, RT.is undef, RT.is undef, RT.is undef, RT.is undef, RT.is undef, RT.is undef, RT.is (.bool true), RT.is (.bool true)] (by kernel_rfl) (by kernel_rfl) (by kernel_rfl) ⟨?_, ?_, ?_, ?_, ?_, ?_, ?_, ?_, ?_, ?_, ?_, ?_, ?_, ?_, ?_, ?_, ?_, ?_, trivial⟩ ?_
        · intro ac w' hF hL hP hU K hK
          have hB : Below _ _ _ := hL
          have e17 : ac.eval (.tmp 17) = .int .i64 (stZ t) := hF.at 17 (by kernel_rfl)
          exact rop_move _ rfl e17 (wanted_none rfl) (hK _ _ (le8_refl _) rfl)
        · intro ac w' hF hL hP hU K hK
          have hB : Below _ _ _ := hL
          have e95 : ac.eval (.tmp 95) = .int .i64 (stZ t) := hP 0 (by kernel_rfl)
          exact rop_bin _ _ _ _ _ rfl e95 rfl (guard_int _ _ _ _ _ _ _ w') (neq_eq0 _ (if_pos za) w') (wanted_none rfl) (hK _ _ (le8_refl _) rfl)
        · intro ac w' hF hL hP hU K hK
          have hB : Below _ _ _ := hL
          have e96 : ac.eval (.tmp 96) = .bool false := hP 1 (by kernel_rfl)
          exact rop_move _ rfl e96 (wanted_none rfl) (hK _ _ (le8_refl _) rfl)
        · intro ac w' hF hL hP hU K hK
          have hB : Below _ _ _ := hL
          have e19 : ac.eval (.tmp 19) = .int .i64 (stZ t') := hF.at 19 (by kernel_rfl)
          have e97 : ac.eval (.tmp 97) = .bool false := hP 2 (by kernel_rfl)
          exact rop_move _ rfl e19 (wanted_of (j := 2) (b := false) rfl rfl e97) (hK _ _ (le8_refl _) rfl)
        · intro ac w' hF hL hP hU K hK
          have hB : Below _ _ _ := hL
          have e98 : ac.eval (.tmp 98) = .int .i64 (stZ t') := hP 3 (by kernel_rfl)
          have e97 : ac.eval (.tmp 97) = .bool false := hP 2 (by kernel_rfl)
          exact rop_bin _ _ _ _ _ rfl e98 rfl (guard_int _ _ _ _ _ _ _ w') (neq_eq1 _ (if_neg zb) w') (wanted_of (j := 2) (b := false) rfl rfl e97) (hK _ _ (le8_refl _) rfl)
        · intro ac w' hF hL hP hU K hK
          have hB : Below _ _ _ := hL
          have e97 : ac.eval (.tmp 97) = .bool false := hP 2 (by kernel_rfl)
          have e99 : ac.eval (.tmp 99) = .bool true := hP 4 (by kernel_rfl)
          exact rop_pick _ _ _ rfl false e97 (by simpa using e99) (wanted_none rfl) (hK _ _ (le8_refl _) rfl)
        · intro ac w' hF hL hP hU K hK
          have hB : Below _ _ _ := hL
          have e100 : ac.eval (.tmp 100) = .bool true := hP 5 (by kernel_rfl)
          exact rop_move _ rfl e100 (wanted_none rfl) (hK _ _ (le8_refl _) rfl)
        · intro ac w' hF hL hP hU K hK
          have hB : Below _ _ _ := hL
          have e101 : ac.eval (.tmp 101) = .bool true := hP 6 (by kernel_rfl)
          exact rop_offG (j := 6) (b := false) rfl rfl e101 (by decide) (hK _ _ (le8_refl _) rfl)
        · intro ac w' hF hL hP hU K hK
          have hB : Below _ _ _ := hL
          have e101 : ac.eval (.tmp 101) = .bool true := hP 6 (by kernel_rfl)
          exact rop_offG (j := 6) (b := false) rfl rfl e101 (by decide) (hK _ _ (le8_refl _) rfl)
        · intro ac w' hF hL hP hU K hK
          have hB : Below _ _ _ := hL
          have e101 : ac.eval (.tmp 101) = .bool true := hP 6 (by kernel_rfl)
          exact rop_offG (j := 6) (b := false) rfl rfl e101 (by decide) (hK _ _ (le8_refl _) rfl)
        · intro ac w' hF hL hP hU K hK
          have hB : Below _ _ _ := hL
          have e101 : ac.eval (.tmp 101) = .bool true := hP 6 (by kernel_rfl)
          exact rop_offG (j := 6) (b := false) rfl rfl e101 (by decide) (hK _ _ (le8_refl _) rfl)
        · intro ac w' hF hL hP hU K hK
          have hB : Below _ _ _ := hL
          have e101 : ac.eval (.tmp 101) = .bool true := hP 6 (by kernel_rfl)
          exact rop_offG (j := 6) (b := false) rfl rfl e101 (by decide) (hK _ _ (le8_refl _) rfl)
        · intro ac w' hF hL hP hU K hK
          have hB : Below _ _ _ := hL
          have e101 : ac.eval (.tmp 101) = .bool true := hP 6 (by kernel_rfl)
          exact rop_offG (j := 6) (b := false) rfl rfl e101 (by decide) (hK _ _ (le8_refl _) rfl)
        · intro ac w' hF hL hP hU K hK
          have hB : Below _ _ _ := hL
          have e101 : ac.eval (.tmp 101) = .bool true := hP 6 (by kernel_rfl)
          exact rop_offG (j := 6) (b := false) rfl rfl e101 (by decide) (hK _ _ (le8_refl _) rfl)
        · intro ac w' hF hL hP hU K hK
          have hB : Below _ _ _ := hL
          have e101 : ac.eval (.tmp 101) = .bool true := hP 6 (by kernel_rfl)
          exact rop_offG (j := 6) (b := false) rfl rfl e101 (by decide) (hK _ _ (le8_refl _) rfl)
        · intro ac w' hF hL hP hU K hK
          have hB : Below _ _ _ := hL
          have e101 : ac.eval (.tmp 101) = .bool true := hP 6 (by kernel_rfl)
          exact rop_offG (j := 6) (b := false) rfl rfl e101 (by decide) (hK _ _ (le8_refl _) rfl)
        · intro ac w' hF hL hP hU K hK
          have hB : Below _ _ _ := hL
          have e101 : ac.eval (.tmp 101) = .bool true := hP 6 (by kernel_rfl)
          exact rop_pick _ _ _ rfl true e101 (by rfl) (wanted_none rfl) (hK _ _ (le8_refl _) rfl)
        · intro ac w' hF hL hP hU K hK
          have hB : Below _ _ _ := hL
          have e111 : ac.eval (.tmp 111) = .bool true := hP 16 (by kernel_rfl)
          exact rop_assign _ rfl e111 (wanted_none rfl) (hK _ _ (le8_refl _) rfl)
        · intro ac w' hF hB hT
          have e22 : ac.eval (.tmp 22) = .bool true := hT 17 (by decide)
          rw [hF.setsG [95, 96, 97, 98, 99, 100, 101, 102, 103, 104, 105, 106, 107, 108, 109, 110, 111, 22] (by kernel_rfl)]
          simp only [List.foldl_cons, List.foldl_nil, List.setIfInBounds_toArray, List.set_cons_succ, List.set_cons_zero, e22]
          generalize ac.eval (.tmp 95) = u95
          generalize ac.eval (.tmp 96) = u96
          generalize ac.eval (.tmp 97) = u97
          generalize ac.eval (.tmp 98) = u98
          generalize ac.eval (.tmp 99) = u99
          generalize ac.eval (.tmp 100) = u100
          generalize ac.eval (.tmp 101) = u101
          generalize ac.eval (.tmp 102) = u102
          generalize ac.eval (.tmp 103) = u103
          generalize ac.eval (.tmp 104) = u104
          generalize ac.eval (.tmp 105) = u105
          generalize ac.eval (.tmp 106) = u106
          generalize ac.eval (.tmp 107) = u107
          generalize ac.eval (.tmp 108) = u108
          generalize ac.eval (.tmp 109) = u109
          generalize ac.eval (.tmp 110) = u110
          generalize ac.eval (.tmp 111) = u111
          clear e22 hT hF ac
          go_wp2_with fail
          go_meet
          exact ⟨rfl, hB⟩
    · skip
      try simp only [Act.put]
      refine wp_region_tab0 [RT.is (.int .i64 (stZ t)), RT.is (.bool true), RT.is (.bool true), RT.is undef, RT.is undef, RT.is (.bool true), RT.is (.bool true), RT.is undef, RT.is undef, RT.is undef, RT.is undef, RT.is undef, RT.is undef, RT.is undef, RT.is undef, RT.is undef, RT.is (.bool true), RT.is (.bool true)] (by kernel_rfl) (by kernel_rfl) (by kernel_rfl) ⟨?_, ?_, ?_, ?_, ?_, ?_, ?_, ?_, ?_, ?_, ?_, ?_, ?_, ?_, ?_, ?_, ?_, ?_, trivial⟩ ?_
      · intro ac w' hF hL hP hU K hK
        have hB : Below _ _ _ := hL
        have e17 : ac.eval (.tmp 17) = .int .i64 (stZ t) := hF.at 17 (by kernel_rfl)
        exact rop_move _ rfl e17 (wanted_none rfl) (hK _ _ (le8_refl _) rfl)
      · intro ac w' hF hL hP hU K hK
        have hB : Below _ _ _ := hL
        have e95 : ac.eval (.tmp 95) = .int .i64 (stZ t) := hP 0 (by kernel_rfl)
        exact rop_bin _ _ _ _ _ rfl e95 rfl (guard_int _ _ _ _ _ _ _ w') (neq_eq1 _ (if_neg za) w') (wanted_none rfl) (hK _ _ (le8_refl _) rfl)
      · intro ac w' hF hL hP hU K hK
        have hB : Below _ _ _ := hL
        have e96 : ac.eval (.tmp 96) = .bool true := hP 1 (by kernel_rfl)
        exact rop_move _ rfl e96 (wanted_none rfl) (hK _ _ (le8_refl _) rfl)
      · intro ac w' hF hL hP hU K hK
        have hB : Below _ _ _ := hL
        have e97 : ac.eval (.tmp 97) = .bool true := hP 2 (by kernel_rfl)
        exact rop_offG (j := 2) (b := false) rfl rfl e97 (by decide) (hK _ _ (le8_refl _) rfl)
      · intro ac w' hF hL hP hU K hK
        have hB : Below _ _ _ := hL
        have e97 : ac.eval (.tmp 97) = .bool true := hP 2 (by kernel_rfl)
        exact rop_offG (j := 2) (b := false) rfl rfl e97 (by decide) (hK _ _ (le8_refl _) rfl)
      · intro ac w' hF hL hP hU K hK
        have hB : Below _ _ _ := hL
        have e97 : ac.eval (.tmp 97) = .bool true := hP 2 (by kernel_rfl)
        exact rop_pick _ _ _ rfl true e97 (by rfl) (wanted_none rfl) (hK _ _ (le8_refl _) rfl)
      · intro ac w' hF hL hP hU K hK
        have hB : Below _ _ _ := hL
        have e100 : ac.eval (.tmp 100) = .bool true := hP 5 (by kernel_rfl)
        exact rop_move _ rfl e100 (wanted_none rfl) (hK _ _ (le8_refl _) rfl)
      · intro ac w' hF hL hP hU K hK
        have hB : Below _ _ _ := hL
        have e101 : ac.eval (.tmp 101) = .bool true := hP 6 (by kernel_rfl)
        exact rop_offG (j := 6) (b := false) rfl rfl e101 (by decide) (hK _ _ (le8_refl _) rfl)
      · intro ac w' hF hL hP hU K hK
        have hB : Below _ _ _ := hL
        have e101 : ac.eval (.tmp 101) = .bool true := hP 6 (by kernel_rfl)
        exact rop_offG (j := 6) (b := false) rfl rfl e101 (by decide) (hK _ _ (le8_refl _) rfl)
      · intro ac w' hF hL hP hU K hK
        have hB : Below _ _ _ := hL
        have e101 : ac.eval (.tmp 101) = .bool true := hP 6 (by kernel_rfl)
        exact rop_offG (j := 6) (b := false) rfl rfl e101 (by decide) (hK _ _ (le8_refl _) rfl)
      · intro ac w' hF hL hP hU K hK
        have hB : Below _ _ _ := hL
        have e101 : ac.eval (.tmp 101) = .bool true := hP 6 (by kernel_rfl)
        exact rop_offG (j := 6) (b := false) rfl rfl e101 (by decide) (hK _ _ (le8_refl _) rfl)
      · intro ac w' hF hL hP hU K hK
        have hB : Below _ _ _ := hL
        have e101 : ac.eval (.tmp 101) = .bool true := hP 6 (by kernel_rfl)
        exact rop_offG (j := 6) (b := false) rfl rfl e101 (by decide) (hK _ _ (le8_refl _) rfl)
      · intro ac w' hF hL hP hU K hK
        have hB : Below _ _ _ := hL
        have e101 : ac.eval (.tmp 101) = .bool true := hP 6 (by kernel_rfl)
        exact rop_offG (j := 6) (b := false) rfl rfl e101 (by decide) (hK _ _ (le8_refl _) rfl)
      · intro ac w' hF hL hP hU K hK
        have hB : Below _ _ _ := hL
        have e101 : ac.eval (.tmp 101) = .bool true := hP 6 (by kernel_rfl)
        exact rop_offG (j := 6) (b := false) rfl rfl e101 (by decide) (hK _ _ (le8_refl _) rfl)
      · intro ac w' hF hL hP hU K hK
        have hB : Below _ _ _ := hL
        have e101 : ac.eval (.tmp 101) = .bool true := hP 6 (by kernel_rfl)
        exact rop_offG (j := 6) (b := false) rfl rfl e101 (by decide) (hK _ _ (le8_refl _) rfl)
      · intro ac w' hF hL hP hU K hK
        have hB : Below _ _ _ := hL
        have e101 : ac.eval (.tmp 101) = .bool true := hP 6 (by kernel_rfl)
        exact rop_offG (j := 6) (b := false) rfl rfl e101 (by decide) (hK _ _ (le8_refl _) rfl)
      · intro ac w' hF hL hP hU K hK
        have hB : Below _ _ _ := hL
        have e101 : ac.eval (.tmp 101) = .bool true := hP 6 (by kernel_rfl)
        exact rop_pick _ _ _ rfl true e101 (by rfl) (wanted_none rfl) (hK _ _ (le8_refl _) rfl)
      · intro ac w' hF hL hP hU K hK
        have hB : Below _ _ _ := hL
        have e111 : ac.eval (.tmp 111) = .bool true := hP 16 (by kernel_rfl)
        exact rop_assign _ rfl e111 (wanted_none rfl) (hK _ _ (le8_refl _) rfl)
      · intro ac w' hF hB hT
        have e22 : ac.eval (.tmp 22) = .bool true := hT 17 (by decide)
        rw [hF.setsG [95, 96, 97, 98, 99, 100, 101, 102, 103, 104, 105, 106, 107, 108, 109, 110, 111, 22] (by kernel_rfl)]
        simp only [List.foldl_cons, List.foldl_nil, List.setIfInBounds_toArray, List.set_cons_succ, List.set_cons_zero, e22]
        generalize ac.eval (.tmp 95) = u95
        generalize ac.eval (.tmp 96) = u96
        generalize ac.eval (.tmp 97) = u97
        generalize ac.eval (.tmp 98) = u98
        generalize ac.eval (.tmp 99) = u99
        generalize ac.eval (.tmp 100) = u100
        generalize ac.eval (.tmp 101) = u101
        generalize ac.eval (.tmp 102) = u102
        generalize ac.eval (.tmp 103) = u103
        generalize ac.eval (.tmp 104) = u104
        generalize ac.eval (.tmp 105) = u105
        generalize ac.eval (.tmp 106) = u106
        generalize ac.eval (.tmp 107) = u107
        generalize ac.eval (.tmp 108) = u108
        generalize ac.eval (.tmp 109) = u109
        generalize ac.eval (.tmp 110) = u110
        generalize ac.eval (.tmp 111) = u111
        clear e22 hT hF ac
        go_wp2_with fail
        go_meet
        exact ⟨rfl, hB⟩
  case rest =>
  obtain ⟨rfl, hBc⟩ := hcut
  replace HBf := Blk.old HBf hBc (Blk.lt HBf)
  replace HBh := Blk.old HBh hBc (Blk.lt HBh)
  replace HBt := Blk.old HBt hBc (Blk.lt HBt)
  replace hb := below_step hb (Nat.le_refl _) hBc
  clear hBc
  obtain ⟨U3, hU⟩ : ∃ U, U = wc := ⟨_, rfl⟩
  subst hU
  go_upto_region 11 with fail
  go_cut [23] from 112 to 136 (fun s wx => s = .bool true ∧ Below U3.heap.size U3 wx)
  case first =>
    by_cases z1 : fzB f = true
    · by_cases z2 : hdB h = true
      · by_cases z3 : stB t = true
        · skip
          try simp only [Act.put]
          refine wp_region_tab0 [RT.is (.int .i64 (fzZ f)), RT.is (.bool false), RT.is (.bool false), RT.is (.int .i64 (hdZ h)), RT.is (.bool false), RT.is (.bool false), RT.is (.bool false), RT.is (.int .i64 (stZ t)), RT.is (.bool false), RT.is (.bool false), RT.is (.bool false), RT.is (.string (fzT f)), RT.is (.string (hdG h)), RT.is (.bool true), RT.is (.bool true), RT.is (.string (fzT f)), RT.is (.string (stG t)), RT.is (.bool true), RT.is (.bool true), RT.is (.bool true), RT.is (.string (hdG h)), RT.is (.string (stG t)), RT.is (.bool true), RT.is (.bool true), RT.is (.bool true), RT.is (.bool true)] (by kernel_rfl) (by kernel_rfl) (by kernel_rfl) ⟨?_, ?_, ?_, ?_, ?_, ?_, ?_, ?_, ?_, ?_, ?_, ?_, ?_, ?_, ?_, ?_, ?_, ?_, ?_, ?_, ?_, ?_, ?_, ?_, ?_, ?_, trivial⟩ ?_
          · intro ac w' hF hL hP hU K hK
            have hB : Below _ _ _ := hL
            have e9 : ac.eval (.tmp 9) = .int .i64 (fzZ f) := hF.at 9 (by kernel_rfl)
            exact rop_move _ rfl e9 (wanted_none rfl) (hK _ _ (le8_refl _) rfl)
          · intro ac w' hF hL hP hU K hK
            have hB : Below _ _ _ := hL
            have e112 : ac.eval (.tmp 112) = .int .i64 (fzZ f) := hP 0 (by kernel_rfl)
            exact rop_bin _ _ _ _ _ rfl e112 rfl (guard_int _ _ _ _ _ _ _ w') (neq_eq0 _ (if_pos z1) w') (wanted_none rfl) (hK _ _ (le8_refl _) rfl)
          · intro ac w' hF hL hP hU K hK
            have hB : Below _ _ _ := hL
            have e113 : ac.eval (.tmp 113) = .bool false := hP 1 (by kernel_rfl)
            exact rop_move _ rfl e113 (wanted_none rfl) (hK _ _ (le8_refl _) rfl)
          · intro ac w' hF hL hP hU K hK
            have hB : Below _ _ _ := hL
            have e13 : ac.eval (.tmp 13) = .int .i64 (hdZ h) := hF.at 13 (by kernel_rfl)
            have e114 : ac.eval (.tmp 114) = .bool false := hP 2 (by kernel_rfl)
            exact rop_move _ rfl e13 (wanted_of (j := 2) (b := false) rfl rfl e114) (hK _ _ (le8_refl _) rfl)
          · intro ac w' hF hL hP hU K hK
            have hB : Below _ _ _ := hL
            have e115 : ac.eval (.tmp 115) = .int .i64 (hdZ h) := hP 3 (by kernel_rfl)
            have e114 : ac.eval (.tmp 114) = .bool false := hP 2 (by kernel_rfl)
            exact rop_bin _ _ _ _ _ rfl e115 rfl (guard_int _ _ _ _ _ _ _ w') (neq_eq0 _ (if_pos z2) w') (wanted_of (j := 2) (b := false) rfl rfl e114) (hK _ _ (le8_refl _) rfl)
          · intro ac w' hF hL hP hU K hK
            have hB : Below _ _ _ := hL
            have e114 : ac.eval (.tmp 114) = .bool false := hP 2 (by kernel_rfl)
            have e116 : ac.eval (.tmp 116) = .bool false := hP 4 (by kernel_rfl)
            exact rop_pick _ _ _ rfl false e114 (by simpa using e116) (wanted_none rfl) (hK _ _ (le8_refl _) rfl)
          · intro ac w' hF hL hP hU K hK
            have hB : Below _ _ _ := hL
            have e117 : ac.eval (.tmp 117) = .bool false := hP 5 (by kernel_rfl)
            exact rop_move _ rfl e117 (wanted_none rfl) (hK _ _ (le8_refl _) rfl)
          · intro ac w' hF hL hP hU K hK
            have hB : Below _ _ _ := hL
            have e17 : ac.eval (.tmp 17) = .int .i64 (stZ t) := hF.at 17 (by kernel_rfl)
            have e118 : ac.eval (.tmp 118) = .bool false := hP 6 (by kernel_rfl)
            exact rop_move _ rfl e17 (wanted_of (j := 6) (b := false) rfl rfl e118) (hK _ _ (le8_refl _) rfl)
          · intro ac w' hF hL hP hU K hK
            have hB : Below _ _ _ := hL
            have e119 : ac.eval (.tmp 119) = .int .i64 (stZ t) := hP 7 (by kernel_rfl)
            have e118 : ac.eval (.tmp 118) = .bool false := hP 6 (by kernel_rfl)
            exact rop_bin _ _ _ _ _ rfl e119 rfl (guard_int _ _ _ _ _ _ _ w') (neq_eq0 _ (if_pos z3) w') (wanted_of (j := 6) (b := false) rfl rfl e118) (hK _ _ (le8_refl _) rfl)
          · intro ac w' hF hL hP hU K hK
            have hB : Below _ _ _ := hL
            have e118 : ac.eval (.tmp 118) = .bool false := hP 6 (by kernel_rfl)
            have e120 : ac.eval (.tmp 120) = .bool false := hP 8 (by kernel_rfl)
            exact rop_pick _ _ _ rfl false e118 (by simpa using e120) (wanted_none rfl) (hK _ _ (le8_refl _) rfl)
          · intro ac w' hF hL hP hU K hK
            have hB : Below _ _ _ := hL
            have e121 : ac.eval (.tmp 121) = .bool false := hP 9 (by kernel_rfl)
            exact rop_move _ rfl e121 (wanted_none rfl) (hK _ _ (le8_refl _) rfl)
          · intro ac w' hF hL hP hU K hK
            have hB : Below _ _ _ := hL
            have e8 : ac.eval (.tmp 8) = .string (fzT f) := hF.at 8 (by kernel_rfl)
            have e122 : ac.eval (.tmp 122) = .bool false := hP 10 (by kernel_rfl)
            exact rop_move _ rfl e8 (wanted_of (j := 10) (b := false) rfl rfl e122) (hK _ _ (le8_refl _) rfl)
          · intro ac w' hF hL hP hU K hK
            have hB : Below _ _ _ := hL
            have e12 : ac.eval (.tmp 12) = .string (hdG h) := hF.at 12 (by kernel_rfl)
            have e122 : ac.eval (.tmp 122) = .bool false := hP 10 (by kernel_rfl)
            exact rop_move _ rfl e12 (wanted_of (j := 10) (b := false) rfl rfl e122) (hK _ _ (le8_refl _) rfl)
          · intro ac w' hF hL hP hU K hK
            have hB : Below _ _ _ := hL
            have e123 : ac.eval (.tmp 123) = .string (fzT f) := hP 11 (by kernel_rfl)
            have e124 : ac.eval (.tmp 124) = .string (hdG h) := hP 12 (by kernel_rfl)
            have e122 : ac.eval (.tmp 122) = .bool false := hP 10 (by kernel_rfl)
            exact rop_bin _ _ _ _ _ rfl e123 e124 (guard_str _ _ _ _ _ _ w') (neq_tx _ _ _ _ (if_pos z1) (if_pos z2) (far1 f h) w') (wanted_of (j := 10) (b := false) rfl rfl e122) (hK _ _ (le8_refl _) rfl)
          · intro ac w' hF hL hP hU K hK
            have hB : Below _ _ _ := hL
            have e125 : ac.eval (.tmp 125) = .bool true := hP 13 (by kernel_rfl)
            have e122 : ac.eval (.tmp 122) = .bool false := hP 10 (by kernel_rfl)
            exact rop_move _ rfl e125 (wanted_of (j := 10) (b := false) rfl rfl e122) (hK _ _ (le8_refl _) rfl)
          · intro ac w' hF hL hP hU K hK
            have hB : Below _ _ _ := hL
            have e8 : ac.eval (.tmp 8) = .string (fzT f) := hF.at 8 (by kernel_rfl)
            have e126 : ac.eval (.tmp 126) = .bool true := hP 14 (by kernel_rfl)
            exact rop_move _ rfl e8 (wanted_of (j := 14) (b := true) rfl rfl e126) (hK _ _ (le8_refl _) rfl)
          · intro ac w' hF hL hP hU K hK
            have hB : Below _ _ _ := hL
            have e16 : ac.eval (.tmp 16) = .string (stG t) := hF.at 16 (by kernel_rfl)
            have e126 : ac.eval (.tmp 126) = .bool true := hP 14 (by kernel_rfl)
            exact rop_move _ rfl e16 (wanted_of (j := 14) (b := true) rfl rfl e126) (hK _ _ (le8_refl _) rfl)
          · intro ac w' hF hL hP hU K hK
            have hB : Below _ _ _ := hL
            have e127 : ac.eval (.tmp 127) = .string (fzT f) := hP 15 (by kernel_rfl)
            have e128 : ac.eval (.tmp 128) = .string (stG t) := hP 16 (by kernel_rfl)
            have e126 : ac.eval (.tmp 126) = .bool true := hP 14 (by kernel_rfl)
            exact rop_bin _ _ _ _ _ rfl e127 e128 (guard_str _ _ _ _ _ _ w') (neq_tx _ _ _ _ (if_pos z1) (if_pos z3) (far2 f t) w') (wanted_of (j := 14) (b := true) rfl rfl e126) (hK _ _ (le8_refl _) rfl)
          · intro ac w' hF hL hP hU K hK
            have hB : Below _ _ _ := hL
            have e126 : ac.eval (.tmp 126) = .bool true := hP 14 (by kernel_rfl)
            have e129 : ac.eval (.tmp 129) = .bool true := hP 17 (by kernel_rfl)
            have e122 : ac.eval (.tmp 122) = .bool false := hP 10 (by kernel_rfl)
            exact rop_pick _ _ _ rfl true e126 (by simpa using e129) (wanted_of (j := 10) (b := false) rfl rfl e122) (hK _ _ (le8_refl _) rfl)
          · intro ac w' hF hL hP hU K hK
            have hB : Below _ _ _ := hL
            have e130 : ac.eval (.tmp 130) = .bool true := hP 18 (by kernel_rfl)
            have e122 : ac.eval (.tmp 122) = .bool false := hP 10 (by kernel_rfl)
            exact rop_move _ rfl e130 (wanted_of (j := 10) (b := false) rfl rfl e122) (hK _ _ (le8_refl _) rfl)
          · intro ac w' hF hL hP hU K hK
            have hB : Below _ _ _ := hL
            have e12 : ac.eval (.tmp 12) = .string (hdG h) := hF.at 12 (by kernel_rfl)
            have e131 : ac.eval (.tmp 131) = .bool true := hP 19 (by kernel_rfl)
            exact rop_move _ rfl e12 (wanted_of (j := 19) (b := true) rfl rfl e131) (hK _ _ (le8_refl _) rfl)
          · intro ac w' hF hL hP hU K hK
            have hB : Below _ _ _ := hL
            have e16 : ac.eval (.tmp 16) = .string (stG t) := hF.at 16 (by kernel_rfl)
            have e131 : ac.eval (.tmp 131) = .bool true := hP 19 (by kernel_rfl)
            exact rop_move _ rfl e16 (wanted_of (j := 19) (b := true) rfl rfl e131) (hK _ _ (le8_refl _) rfl)
          · intro ac w' hF hL hP hU K hK
            have hB : Below _ _ _ := hL
            have e132 : ac.eval (.tmp 132) = .string (hdG h) := hP 20 (by kernel_rfl)
            have e133 : ac.eval (.tmp 133) = .string (stG t) := hP 21 (by kernel_rfl)
            have e131 : ac.eval (.tmp 131) = .bool true := hP 19 (by kernel_rfl)
            exact rop_bin _ _ _ _ _ rfl e132 e133 (guard_str _ _ _ _ _ _ w') (neq_tx _ _ _ _ (if_pos z2) (if_pos z3) (far3 h t) w') (wanted_of (j := 19) (b := true) rfl rfl e131) (hK _ _ (le8_refl _) rfl)
          · intro ac w' hF hL hP hU K hK
            have hB : Below _ _ _ := hL
            have e131 : ac.eval (.tmp 131) = .bool true := hP 19 (by kernel_rfl)
            have e134 : ac.eval (.tmp 134) = .bool true := hP 22 (by kernel_rfl)
            have e122 : ac.eval (.tmp 122) = .bool false := hP 10 (by kernel_rfl)
            exact rop_pick _ _ _ rfl true e131 (by simpa using e134) (wanted_of (j := 10) (b := false) rfl rfl e122) (hK _ _ (le8_refl _) rfl)
          · intro ac w' hF hL hP hU K hK
            have hB : Below _ _ _ := hL
            have e122 : ac.eval (.tmp 122) = .bool false := hP 10 (by kernel_rfl)
            have e135 : ac.eval (.tmp 135) = .bool true := hP 23 (by kernel_rfl)
            exact rop_pick _ _ _ rfl false e122 (by simpa using e135) (wanted_none rfl) (hK _ _ (le8_refl _) rfl)
          · intro ac w' hF hL hP hU K hK
            have hB : Below _ _ _ := hL
            have e136 : ac.eval (.tmp 136) = .bool true := hP 24 (by kernel_rfl)
            exact rop_assign _ rfl e136 (wanted_none rfl) (hK _ _ (le8_refl _) rfl)
          · intro ac w' hF hB hT
            have e23 : ac.eval (.tmp 23) = .bool true := hT 25 (by decide)
            rw [hF.setsG [112, 113, 114, 115, 116, 117, 118, 119, 120, 121, 122, 123, 124, 125, 126, 127, 128, 129, 130, 131, 132, 133, 134, 135, 136, 23] (by kernel_rfl)]
            simp only [List.foldl_cons, List.foldl_nil, List.setIfInBounds_toArray, List.set_cons_succ, List.set_cons_zero, e23]
            generalize ac.eval (.tmp 112) = u112
            generalize ac.eval (.tmp 113) = u113
            generalize ac.eval (.tmp 114) = u114
            generalize ac.eval (.tmp 115) = u115
            generalize ac.eval (.tmp 116) = u116
            generalize ac.eval (.tmp 117) = u117
            generalize ac.eval (.tmp 118) = u118
            generalize ac.eval (.tmp 119) = u119
            generalize ac.eval (.tmp 120) = u120
            generalize ac.eval (.tmp 121) = u121
            generalize ac.eval (.tmp 122) = u122
            generalize ac.eval (.tmp 123) = u123
            generalize ac.eval (.tmp 124) = u124
            generalize ac.eval (.tmp 125) = u125
            generalize ac.eval (.tmp 126) = u126
            generalize ac.eval (.tmp 127) = u127
            generalize ac.eval (.tmp 128) = u128
            generalize ac.eval (.tmp 129) = u129
            generalize ac.eval (.tmp 130) = u130
            generalize ac.eval (.tmp 131) = u131
            generalize ac.eval (.tmp 132) = u132
            generalize ac.eval (.tmp 133) = u133
            generalize ac.eval (.tmp 134) = u134
            generalize ac.eval (.tmp 135) = u135
            generalize ac.eval (.tmp 136) = u136
            clear e23 hT hF ac
            go_wp2_with fail
            go_meet
            exact ⟨rfl, hB⟩
        · skip
          try simp only [Act.put]
          refine wp_region_tab0 [RT.is (.int .i64 (fzZ f)), RT.is (.bool false), RT.is (.bool false), RT.is (.int .i64 (hdZ h)), RT.is (.bool false), RT.is (.bool false), RT.is (.bool false), RT.is (.int .i64 (stZ t)), RT.is (.bool true), RT.is (.bool true), RT.is (.bool true), RT.is undef, RT.is undef, RT.is undef, RT.is undef, RT.is undef, RT.is undef, RT.is undef, RT.is undef, RT.is undef, RT.is undef, RT.is undef, RT.is undef, RT.is undef, RT.is (.bool true), RT.is (.bool true)] (by kernel_rfl) (by kernel_rfl) (by kernel_rfl) ⟨?_, ?_, ?_, ?_, ?_, ?_, ?_, ?_, ?_, ?_, ?_, ?_, ?_, ?_, ?_, ?_, ?_, ?_, ?_, ?_, ?_, ?_, ?_, ?_, ?_, ?_, trivial⟩ ?_
          · intro ac w' hF hL hP hU K hK
            have hB : Below _ _ _ := hL
            have e9 : ac.eval (.tmp 9) = .int .i64 (fzZ f) := hF.at 9 (by kernel_rfl)
            exact rop_move _ rfl e9 (wanted_none rfl) (hK _ _ (le8_refl _) rfl)
          · intro ac w' hF hL hP hU K hK
            have hB : Below _ _ _ := hL
            have e112 : ac.eval (.tmp 112) = .int .i64 (fzZ f) := hP 0 (by kernel_rfl)
            exact rop_bin _ _ _ _ _ rfl e112 rfl (guard_int _ _ _ _ _ _ _ w') (neq_eq0 _ (if_pos z1) w') (wanted_none rfl) (hK _ _ (le8_refl _) rfl)
          · intro ac w' hF hL hP hU K hK
            have hB : Below _ _ _ := hL
            have e113 : ac.eval (.tmp 113) = .bool false := hP 1 (by kernel_rfl)
            exact rop_move _ rfl e113 (wanted_none rfl) (hK _ _ (le8_refl _) rfl)
          · intro ac w' hF hL hP hU K hK
            have hB : Below _ _ _ := hL
            have e13 : ac.eval (.tmp 13) = .int .i64 (hdZ h) := hF.at 13 (by kernel_rfl)
            have e114 : ac.eval (.tmp 114) = .bool false := hP 2 (by kernel_rfl)
            exact rop_move _ rfl e13 (wanted_of (j := 2) (b := false) rfl rfl e114) (hK _ _ (le8_refl _) rfl)
          · intro ac w' hF hL hP hU K hK
            have hB : Below _ _ _ := hL
            have e115 : ac.eval (.tmp 115) = .int .i64 (hdZ h) := hP 3 (by kernel_rfl)
            have e114 : ac.eval (.tmp 114) = .bool false := hP 2 (by kernel_rfl)
            exact rop_bin _ _ _ _ _ rfl e115 rfl (guard_int _ _ _ _ _ _ _ w') (neq_eq0 _ (if_pos z2) w') (wanted_of (j := 2) (b := false) rfl rfl e114) (hK _ _ (le8_refl _) rfl)
          · intro ac w' hF hL hP hU K hK
            have hB : Below _ _ _ := hL
            have e114 : ac.eval (.tmp 114) = .bool false := hP 2 (by kernel_rfl)
            have e116 : ac.eval (.tmp 116) = .bool false := hP 4 (by kernel_rfl)
            exact rop_pick _ _ _ rfl false e114 (by simpa using e116) (wanted_none rfl) (hK _ _ (le8_refl _) rfl)
          · intro ac w' hF hL hP hU K hK
            have hB : Below _ _ _ := hL
            have e117 : ac.eval (.tmp 117) = .bool false := hP 5 (by kernel_rfl)
            exact rop_move _ rfl e117 (wanted_none rfl) (hK _ _ (le8_refl _) rfl)
          · intro ac w' hF hL hP hU K hK
            have hB : Below _ _ _ := hL
            have e17 : ac.eval (.tmp 17) = .int .i64 (stZ t) := hF.at 17 (by kernel_rfl)
            have e118 : ac.eval (.tmp 118) = .bool false := hP 6 (by kernel_rfl)
            exact rop_move _ rfl e17 (wanted_of (j := 6) (b := false) rfl rfl e118) (hK _ _ (le8_refl _) rfl)
          · intro ac w' hF hL hP hU K hK
            have hB : Below _ _ _ := hL
            have e119 : ac.eval (.tmp 119) = .int .i64 (stZ t) := hP 7 (by kernel_rfl)
            have e118 : ac.eval (.tmp 118) = .bool false := hP 6 (by kernel_rfl)
            exact rop_bin _ _ _ _ _ rfl e119 rfl (guard_int _ _ _ _ _ _ _ w') (neq_eq1 _ (if_neg z3) w') (wanted_of (j := 6) (b := false) rfl rfl e118) (hK _ _ (le8_refl _) rfl)
          · intro ac w' hF hL hP hU K hK
            have hB : Below _ _ _ := hL
            have e118 : ac.eval (.tmp 118) = .bool false := hP 6 (by kernel_rfl)
            have e120 : ac.eval (.tmp 120) = .bool true := hP 8 (by kernel_rfl)
            exact rop_pick _ _ _ rfl false e118 (by simpa using e120) (wanted_none rfl) (hK _ _ (le8_refl _) rfl)
          · intro ac w' hF hL hP hU K hK
            have hB : Below _ _ _ := hL
            have e121 : ac.eval (.tmp 121) = .bool true := hP 9 (by kernel_rfl)
            exact rop_move _ rfl e121 (wanted_none rfl) (hK _ _ (le8_refl _) rfl)
          · intro ac w' hF hL hP hU K hK
            have hB : Below _ _ _ := hL
            have e122 : ac.eval (.tmp 122) = .bool true := hP 10 (by kernel_rfl)
            exact rop_offG (j := 10) (b := false) rfl rfl e122 (by decide) (hK _ _ (le8_refl _) rfl)
          · intro ac w' hF hL hP hU K hK
            have hB : Below _ _ _ := hL
            have e122 : ac.eval (.tmp 122) = .bool true := hP 10 (by kernel_rfl)
            exact rop_offG (j := 10) (b := false) rfl rfl e122 (by decide) (hK _ _ (le8_refl _) rfl)
          · intro ac w' hF hL hP hU K hK
            have hB : Below _ _ _ := hL
            have e122 : ac.eval (.tmp 122) = .bool true := hP 10 (by kernel_rfl)
            exact rop_offG (j := 10) (b := false) rfl rfl e122 (by decide) (hK _ _ (le8_refl _) rfl)
          · intro ac w' hF hL hP hU K hK
            have hB : Below _ _ _ := hL
            have e122 : ac.eval (.tmp 122) = .bool true := hP 10 (by kernel_rfl)
            exact rop_offG (j := 10) (b := false) rfl rfl e122 (by decide) (hK _ _ (le8_refl _) rfl)
          · intro ac w' hF hL hP hU K hK
            have hB : Below _ _ _ := hL
            have e126 : ac.eval (.tmp 126) = undef := hP 14 (by kernel_rfl)
            exact rop_offU (j := 14) (b := true) rfl rfl e126 (hK _ _ (le8_refl _) rfl)
          · intro ac w' hF hL hP hU K hK
            have hB : Below _ _ _ := hL
            have e126 : ac.eval (.tmp 126) = undef := hP 14 (by kernel_rfl)
            exact rop_offU (j := 14) (b := true) rfl rfl e126 (hK _ _ (le8_refl _) rfl)
          · intro ac w' hF hL hP hU K hK
            have hB : Below _ _ _ := hL
            have e126 : ac.eval (.tmp 126) = undef := hP 14 (by kernel_rfl)
            exact rop_offU (j := 14) (b := true) rfl rfl e126 (hK _ _ (le8_refl _) rfl)
          · intro ac w' hF hL hP hU K hK
            have hB : Below _ _ _ := hL
            have e122 : ac.eval (.tmp 122) = .bool true := hP 10 (by kernel_rfl)
            exact rop_offG (j := 10) (b := false) rfl rfl e122 (by decide) (hK _ _ (le8_refl _) rfl)
          · intro ac w' hF hL hP hU K hK
            have hB : Below _ _ _ := hL
            have e122 : ac.eval (.tmp 122) = .bool true := hP 10 (by kernel_rfl)
            exact rop_offG (j := 10) (b := false) rfl rfl e122 (by decide) (hK _ _ (le8_refl _) rfl)
          · intro ac w' hF hL hP hU K hK
            have hB : Below _ _ _ := hL
            have e131 : ac.eval (.tmp 131) = undef := hP 19 (by kernel_rfl)
            exact rop_offU (j := 19) (b := true) rfl rfl e131 (hK _ _ (le8_refl _) rfl)
          · intro ac w' hF hL hP hU K hK
            have hB : Below _ _ _ := hL
            have e131 : ac.eval (.tmp 131) = undef := hP 19 (by kernel_rfl)
            exact rop_offU (j := 19) (b := true) rfl rfl e131 (hK _ _ (le8_refl _) rfl)
          · intro ac w' hF hL hP hU K hK
            have hB : Below _ _ _ := hL
            have e131 : ac.eval (.tmp 131) = undef := hP 19 (by kernel_rfl)
            exact rop_offU (j := 19) (b := true) rfl rfl e131 (hK _ _ (le8_refl _) rfl)
          · intro ac w' hF hL hP hU K hK
            have hB : Below _ _ _ := hL
            have e122 : ac.eval (.tmp 122) = .bool true := hP 10 (by kernel_rfl)
            exact rop_offG (j := 10) (b := false) rfl rfl e122 (by decide) (hK _ _ (le8_refl _) rfl)
          · intro ac w' hF hL hP hU K hK
            have hB : Below _ _ _ := hL
            have e122 : ac.eval (.tmp 122) = .bool true := hP 10 (by kernel_rfl)
            exact rop_pick _ _ _ rfl true e122 (by rfl) (wanted_none rfl) (hK _ _ (le8_refl _) rfl)
          · intro ac w' hF hL hP hU K hK
            have hB : Below _ _ _ := hL
            have e136 : ac.eval (.tmp 136) = .bool true := hP 24 (by kernel_rfl)
            exact rop_assign _ rfl e136 (wanted_none rfl) (hK _ _ (le8_refl _) rfl)
          · intro ac w' hF hB hT
            have e23 : ac.eval (.tmp 23) = .bool true := hT 25 (by decide)
            rw [hF.setsG [112, 113, 114, 115, 116, 117, 118, 119, 120, 121, 122, 123, 124, 125, 126, 127, 128, 129, 130, 131, 132, 133, 134, 135, 136, 23] (by kernel_rfl)]
            simp only [List.foldl_cons, List.foldl_nil, List.setIfInBounds_toArray, List.set_cons_succ, List.set_cons_zero, e23]
            generalize ac.eval (.tmp 112) = u112
            generalize ac.eval (.tmp 113) = u113
            generalize ac.eval (.tmp 114) = u114
            generalize ac.eval (.tmp 115) = u115
            generalize ac.eval (.tmp 116) = u116
            generalize ac.eval (.tmp 117) = u117
            generalize ac.eval (.tmp 118) = u118
            generalize ac.eval (.tmp 119) = u119
            generalize ac.eval (.tmp 120) = u120
            generalize ac.eval (.tmp 121) = u121
            generalize ac.eval (.tmp 122) = u122
            generalize ac.eval (.tmp 123) = u123
            generalize ac.eval (.tmp 124) = u124
            generalize ac.eval (.tmp 125) = u125
            generalize ac.eval (.tmp 126) = u126
            generalize ac.eval (.tmp 127) = u127
            generalize ac.eval (.tmp 128) = u128
            generalize ac.eval (.tmp 129) = u129
            generalize ac.eval (.tmp 130) = u130
            generalize ac.eval (.tmp 131) = u131
            generalize ac.eval (.tmp 132) = u132
            generalize ac.eval (.tmp 133) = u133
            generalize ac.eval (.tmp 134) = u134
            generalize ac.eval (.tmp 135) = u135
            generalize ac.eval (.tmp 136) = u136
            clear e23 hT hF ac
            go_wp2_with fail
            go_meet
            exact ⟨rfl, hB⟩
      · skip
        try simp only [Act.put]
        refine wp_region_tab0 [RT.is (.int .i64 (fzZ f)), RT.is (.bool false), RT.is (.bool false), RT.is (.int .i64 (hdZ h)), RT.is (.bool true), RT.is (.bool true), RT.is (.bool true), RT.is undef, RT.is undef, RT.is (.bool true), RT.is (.bool true), RT.is undef, RT.is undef, RT.is undef, RT.is undef, RT.is undef, RT.is undef, RT.is undef, RT.is undef, RT.is undef, RT.is undef, RT.is undef, RT.is undef, RT.is undef, RT.is (.bool true), RT.is (.bool true)] (by kernel_rfl) (by kernel_rfl) (by kernel_rfl) ⟨?_, ?_, ?_, ?_, ?_, ?_, ?_, ?_, ?_, ?_, ?_, ?_, ?_, ?_, ?_, ?_, ?_, ?_, ?_, ?_, ?_, ?_, ?_, ?_, ?_, ?_, trivial⟩ ?_
        · intro ac w' hF hL hP hU K hK
          have hB : Below _ _ _ := hL
          have e9 : ac.eval (.tmp 9) = .int .i64 (fzZ f) := hF.at 9 (by kernel_rfl)
          exact rop_move _ rfl e9 (wanted_none rfl) (hK _ _ (le8_refl _) rfl)
        · intro ac w' hF hL hP hU K hK
          have hB : Below _ _ _ := hL
          have e112 : ac.eval (.tmp 112) = .int .i64 (fzZ f) := hP 0 (by kernel_rfl)
          exact rop_bin _ _ _ _ _ rfl e112 rfl (guard_int _ _ _ _ _ _ _ w') (neq_eq0 _ (if_pos z1) w') (wanted_none rfl) (hK _ _ (le8_refl _) rfl)
        · intro ac w' hF hL hP hU K hK
          have hB : Below _ _ _ := hL
          have e113 : ac.eval (.tmp 113) = .bool false := hP 1 (by kernel_rfl)
          exact rop_move _ rfl e113 (wanted_none rfl) (hK _ _ (le8_refl _) rfl)
        · intro ac w' hF hL hP hU K hK
          have hB : Below _ _ _ := hL
          have e13 : ac.eval (.tmp 13) = .int .i64 (hdZ h) := hF.at 13 (by kernel_rfl)
          have e114 : ac.eval (.tmp 114) = .bool false := hP 2 (by kernel_rfl)
          exact rop_move _ rfl e13 (wanted_of (j := 2) (b := false) rfl rfl e114) (hK _ _ (le8_refl _) rfl)
        · intro ac w' hF hL hP hU K hK
          have hB : Below _ _ _ := hL
          have e115 : ac.eval (.tmp 115) = .int .i64 (hdZ h) := hP 3 (by kernel_rfl)
          have e114 : ac.eval (.tmp 114) = .bool false := hP 2 (by kernel_rfl)
          exact rop_bin _ _ _ _ _ rfl e115 rfl (guard_int _ _ _ _ _ _ _ w') (neq_eq1 _ (if_neg z2) w') (wanted_of (j := 2) (b := false) rfl rfl e114) (hK _ _ (le8_refl _) rfl)
        · intro ac w' hF hL hP hU K hK
          have hB : Below _ _ _ := hL
          have e114 : ac.eval (.tmp 114) = .bool false := hP 2 (by kernel_rfl)
          have e116 : ac.eval (.tmp 116) = .bool true := hP 4 (by kernel_rfl)
          exact rop_pick _ _ _ rfl false e114 (by simpa using e116) (wanted_none rfl) (hK _ _ (le8_refl _) rfl)
        · intro ac w' hF hL hP hU K hK
          have hB : Below _ _ _ := hL
          have e117 : ac.eval (.tmp 117) = .bool true := hP 5 (by kernel_rfl)
          exact rop_move _ rfl e117 (wanted_none rfl) (hK _ _ (le8_refl _) rfl)
        · intro ac w' hF hL hP hU K hK
          have hB : Below _ _ _ := hL
          have e118 : ac.eval (.tmp 118) = .bool true := hP 6 (by kernel_rfl)
          exact rop_offG (j := 6) (b := false) rfl rfl e118 (by decide) (hK _ _ (le8_refl _) rfl)
        · intro ac w' hF hL hP hU K hK
          have hB : Below _ _ _ := hL
          have e118 : ac.eval (.tmp 118) = .bool true := hP 6 (by kernel_rfl)
          exact rop_offG (j := 6) (b := false) rfl rfl e118 (by decide) (hK _ _ (le8_refl _) rfl)
        · intro ac w' hF hL hP hU K hK
          have hB : Below _ _ _ := hL
          have e118 : ac.eval (.tmp 118) = .bool true := hP 6 (by kernel_rfl)
          exact rop_pick _ _ _ rfl true e118 (by rfl) (wanted_none rfl) (hK _ _ (le8_refl _) rfl)
        · intro ac w' hF hL hP hU K hK
          have hB : Below _ _ _ := hL
          have e121 : ac.eval (.tmp 121) = .bool true := hP 9 (by kernel_rfl)
          exact rop_move _ rfl e121 (wanted_none rfl) (hK _ _ (le8_refl _) rfl)
        · intro ac w' hF hL hP hU K hK
          have hB : Below _ _ _ := hL
          have e122 : ac.eval (.tmp 122) = .bool true := hP 10 (by kernel_rfl)
          exact rop_offG (j := 10) (b := false) rfl rfl e122 (by decide) (hK _ _ (le8_refl _) rfl)
        · intro ac w' hF hL hP hU K hK
          have hB : Below _ _ _ := hL
          have e122 : ac.eval (.tmp 122) = .bool true := hP 10 (by kernel_rfl)
          exact rop_offG (j := 10) (b := false) rfl rfl e122 (by decide) (hK _ _ (le8_refl _) rfl)
        · intro ac w' hF hL hP hU K hK
          have hB : Below _ _ _ := hL
          have e122 : ac.eval (.tmp 122) = .bool true := hP 10 (by kernel_rfl)
          exact rop_offG (j := 10) (b := false) rfl rfl e122 (by decide) (hK _ _ (le8_refl _) rfl)
        · intro ac w' hF hL hP hU K hK
          have hB : Below _ _ _ := hL
          have e122 : ac.eval (.tmp 122) = .bool true := hP 10 (by kernel_rfl)
          exact rop_offG (j := 10) (b := false) rfl rfl e122 (by decide) (hK _ _ (le8_refl _) rfl)
        · intro ac w' hF hL hP hU K hK
          have hB : Below _ _ _ := hL
          have e126 : ac.eval (.tmp 126) = undef := hP 14 (by kernel_rfl)
          exact rop_offU (j := 14) (b := true) rfl rfl e126 (hK _ _ (le8_refl _) rfl)
        · intro ac w' hF hL hP hU K hK
          have hB : Below _ _ _ := hL
          have e126 : ac.eval (.tmp 126) = undef := hP 14 (by kernel_rfl)
          exact rop_offU (j := 14) (b := true) rfl rfl e126 (hK _ _ (le8_refl _) rfl)
        · intro ac w' hF hL hP hU K hK
          have hB : Below _ _ _ := hL
          have e126 : ac.eval (.tmp 126) = undef := hP 14 (by kernel_rfl)
          exact rop_offU (j := 14) (b := true) rfl rfl e126 (hK _ _ (le8_refl _) rfl)
        · intro ac w' hF hL hP hU K hK
          have hB : Below _ _ _ := hL
          have e122 : ac.eval (.tmp 122) = .bool true := hP 10 (by kernel_rfl)
          exact rop_offG (j := 10) (b := false) rfl rfl e122 (by decide) (hK _ _ (le8_refl _) rfl)
        · intro ac w' hF hL hP hU K hK
          have hB : Below _ _ _ := hL
          have e122 : ac.eval (.tmp 122) = .bool true := hP 10 (by kernel_rfl)
          exact rop_offG (j := 10) (b := false) rfl rfl e122 (by decide) (hK _ _ (le8_refl _) rfl)
        · intro ac w' hF hL hP hU K hK
          have hB : Below _ _ _ := hL
          have e131 : ac.eval (.tmp 131) = undef := hP 19 (by kernel_rfl)
          exact rop_offU (j := 19) (b := true) rfl rfl e131 (hK _ _ (le8_refl _) rfl)
        · intro ac w' hF hL hP hU K hK
          have hB : Below _ _ _ := hL
          have e131 : ac.eval (.tmp 131) = undef := hP 19 (by kernel_rfl)
          exact rop_offU (j := 19) (b := true) rfl rfl e131 (hK _ _ (le8_refl _) rfl)
        · intro ac w' hF hL hP hU K hK
          have hB : Below _ _ _ := hL
          have e131 : ac.eval (.tmp 131) = undef := hP 19 (by kernel_rfl)
          exact rop_offU (j := 19) (b := true) rfl rfl e131 (hK _ _ (le8_refl _) rfl)
        · intro ac w' hF hL hP hU K hK
          have hB : Below _ _ _ := hL
          have e122 : ac.eval (.tmp 122) = .bool true := hP 10 (by kernel_rfl)
          exact rop_offG (j := 10) (b := false) rfl rfl e122 (by decide) (hK _ _ (le8_refl _) rfl)
        · intro ac w' hF hL hP hU K hK
          have hB : Below _ _ _ := hL
          have e122 : ac.eval (.tmp 122) = .bool true := hP 10 (by kernel_rfl)
          exact rop_pick _ _ _ rfl true e122 (by rfl) (wanted_none rfl) (hK _ _ (le8_refl _) rfl)
        · intro ac w' hF hL hP hU K hK
          have hB : Below _ _ _ := hL
          have e136 : ac.eval (.tmp 136) = .bool true := hP 24 (by kernel_rfl)
          exact rop_assign _ rfl e136 (wanted_none rfl) (hK _ _ (le8_refl _) rfl)
        · intro ac w' hF hB hT
          have e23 : ac.eval (.tmp 23) = .bool true := hT 25 (by decide)
          rw [hF.setsG [112, 113, 114, 115, 116, 117, 118, 119, 120, 121, 122, 123, 124, 125, 126, 127, 128, 129, 130, 131, 132, 133, 134, 135, 136, 23] (by kernel_rfl)]
          simp only [List.foldl_cons, List.foldl_nil, List.setIfInBounds_toArray, List.set_cons_succ, List.set_cons_zero, e23]
          generalize ac.eval (.tmp 112) = u112
          generalize ac.eval (.tmp 113) = u113
          generalize ac.eval (.tmp 114) = u114
          generalize ac.eval (.tmp 115) = u115
          generalize ac.eval (.tmp 116) = u116
          generalize ac.eval (.tmp 117) = u117
          generalize ac.eval (.tmp 118) = u118
          generalize ac.eval (.tmp 119) = u119
          generalize ac.eval (.tmp 120) = u120
          generalize ac.eval (.tmp 121) = u121
          generalize ac.eval (.tmp 122) = u122
          generalize ac.eval (.tmp 123) = u123
          generalize ac.eval (.tmp 124) = u124
          generalize ac.eval (.tmp 125) = u125
          generalize ac.eval (.tmp 126) = u126
          generalize ac.eval (.tmp 127) = u127
          generalize ac.eval (.tmp 128) = u128
          generalize ac.eval (.tmp 129) = u129
          generalize ac.eval (.tmp 130) = u130
          generalize ac.eval (.tmp 131) = u131
          generalize ac.eval (.tmp 132) = u132
          generalize ac.eval (.tmp 133) = u133
          generalize ac.eval (.tmp 134) = u134
          generalize ac.eval (.tmp 135) = u135
          generalize ac.eval (.tmp 136) = u136
          clear e23 hT hF ac
          go_wp2_with fail
          go_meet
          exact ⟨rfl, hB⟩
    · skip
      try simp only [Act.put]
      refine wp_region_tab0 [RT.is (.int .i64 (fzZ f)), RT.is (.bool true), RT.is (.bool true), RT.is undef, RT.is undef, RT.is (.bool true), RT.is (.bool true), RT.is undef, RT.is undef, RT.is (.bool true), RT.is (.bool true), RT.is undef, RT.is undef, RT.is undef, RT.is undef, RT.is undef, RT.is undef, RT.is undef, RT.is undef, RT.is undef, RT.is undef, RT.is undef, RT.is undef, RT.is undef, RT.is (.bool true), RT.is (.bool true)] (by kernel_rfl) (by kernel_rfl) (by kernel_rfl) ⟨?_, ?_, ?_, ?_, ?_, ?_, ?_, ?_, ?_, ?_, ?_, ?_, ?_, ?_, ?_, ?_, ?_, ?_, ?_, ?_, ?_, ?_, ?_, ?_, ?_, ?_, trivial⟩ ?_
      · intro ac w' hF hL hP hU K hK
        have hB : Below _ _ _ := hL
        have e9 : ac.eval (.tmp 9) = .int .i64 (fzZ f) := hF.at 9 (by kernel_rfl)
        exact rop_move _ rfl e9 (wanted_none rfl) (hK _ _ (le8_refl _) rfl)
      · intro ac w' hF hL hP hU K hK
        have hB : Below _ _ _ := hL
        have e112 : ac.eval (.tmp 112) = .int .i64 (fzZ f) := hP 0 (by kernel_rfl)
        exact rop_bin _ _ _ _ _ rfl e112 rfl (guard_int _ _ _ _ _ _ _ w') (neq_eq1 _ (if_neg z1) w') (wanted_none rfl) (hK _ _ (le8_refl _) rfl)
      · intro ac w' hF hL hP hU K hK
        have hB : Below _ _ _ := hL
        have e113 : ac.eval (.tmp 113) = .bool true := hP 1 (by kernel_rfl)
        exact rop_move _ rfl e113 (wanted_none rfl) (hK _ _ (le8_refl _) rfl)
      · intro ac w' hF hL hP hU K hK
        have hB : Below _ _ _ := hL
        have e114 : ac.eval (.tmp 114) = .bool true := hP 2 (by kernel_rfl)
        exact rop_offG (j := 2) (b := false) rfl rfl e114 (by decide) (hK _ _ (le8_refl _) rfl)
      · intro ac w' hF hL hP hU K hK
        have hB : Below _ _ _ := hL
        have e114 : ac.eval (.tmp 114) = .bool true := hP 2 (by kernel_rfl)
        exact rop_offG (j := 2) (b := false) rfl rfl e114 (by decide) (hK _ _ (le8_refl _) rfl)
      · intro ac w' hF hL hP hU K hK
        have hB : Below _ _ _ := hL
        have e114 : ac.eval (.tmp 114) = .bool true := hP 2 (by kernel_rfl)
        exact rop_pick _ _ _ rfl true e114 (by rfl) (wanted_none rfl) (hK _ _ (le8_refl _) rfl)
      · intro ac w' hF hL hP hU K hK
        have hB : Below _ _ _ := hL
        have e117 : ac.eval (.tmp 117) = .bool true := hP 5 (by kernel_rfl)
        exact rop_move _ rfl e117 (wanted_none rfl) (hK _ _ (le8_refl _) rfl)
      · intro ac w' hF hL hP hU K hK
        have hB : Below _ _ _ := hL
        have e118 : ac.eval (.tmp 118) = .bool true := hP 6 (by kernel_rfl)
        exact rop_offG (j := 6) (b := false) rfl rfl e118 (by decide) (hK _ _ (le8_refl _) rfl)
      · intro ac w' hF hL hP hU K hK
        have hB : Below _ _ _ := hL
        have e118 : ac.eval (.tmp 118) = .bool true := hP 6 (by kernel_rfl)
        exact rop_offG (j := 6) (b := false) rfl rfl e118 (by decide) (hK _ _ (le8_refl _) rfl)
      · intro ac w' hF hL hP hU K hK
        have hB : Below _ _ _ := hL
        have e118 : ac.eval (.tmp 118) = .bool true := hP 6 (by kernel_rfl)
        exact rop_pick _ _ _ rfl true e118 (by rfl) (wanted_none rfl) (hK _ _ (le8_refl _) rfl)
      · intro ac w' hF hL hP hU K hK
        have hB : Below _ _ _ := hL
        have e121 : ac.eval (.tmp 121) = .bool true := hP 9 (by kernel_rfl)
        exact rop_move _ rfl e121 (wanted_none rfl) (hK _ _ (le8_refl _) rfl)
      · intro ac w' hF hL hP hU K hK
        have hB : Below _ _ _ := hL
        have e122 : ac.eval (.tmp 122) = .bool true := hP 10 (by kernel_rfl)
        exact rop_offG (j := 10) (b := false) rfl rfl e122 (by decide) (hK _ _ (le8_refl _) rfl)
      · intro ac w' hF hL hP hU K hK
        have hB : Below _ _ _ := hL
        have e122 : ac.eval (.tmp 122) = .bool true := hP 10 (by kernel_rfl)
        exact rop_offG (j := 10) (b := false) rfl rfl e122 (by decide) (hK _ _ (le8_refl _) rfl)
      · intro ac w' hF hL hP hU K hK
        have hB : Below _ _ _ := hL
        have e122 : ac.eval (.tmp 122) = .bool true := hP 10 (by kernel_rfl)
        exact rop_offG (j := 10) (b := false) rfl rfl e122 (by decide) (hK _ _ (le8_refl _) rfl)
      · intro ac w' hF hL hP hU K hK
        have hB : Below _ _ _ := hL
        have e122 : ac.eval (.tmp 122) = .bool true := hP 10 (by kernel_rfl)
        exact rop_offG (j := 10) (b := false) rfl rfl e122 (by decide) (hK _ _ (le8_refl _) rfl)
      · intro ac w' hF hL hP hU K hK
        have hB : Below _ _ _ := hL
        have e126 : ac.eval (.tmp 126) = undef := hP 14 (by kernel_rfl)
        exact rop_offU (j := 14) (b := true) rfl rfl e126 (hK _ _ (le8_refl _) rfl)
      · intro ac w' hF hL hP hU K hK
        have hB : Below _ _ _ := hL
        have e126 : ac.eval (.tmp 126) = undef := hP 14 (by kernel_rfl)
        exact rop_offU (j := 14) (b := true) rfl rfl e126 (hK _ _ (le8_refl _) rfl)
      · intro ac w' hF hL hP hU K hK
        have hB : Below _ _ _ := hL
        have e126 : ac.eval (.tmp 126) = undef := hP 14 (by kernel_rfl)
        exact rop_offU (j := 14) (b := true) rfl rfl e126 (hK _ _ (le8_refl _) rfl)
      · intro ac w' hF hL hP hU K hK
        have hB : Below _ _ _ := hL
        have e122 : ac.eval (.tmp 122) = .bool true := hP 10 (by kernel_rfl)
        exact rop_offG (j := 10) (b := false) rfl rfl e122 (by decide) (hK _ _ (le8_refl _) rfl)
      · intro ac w' hF hL hP hU K hK
        have hB : Below _ _ _ := hL
        have e122 : ac.eval (.tmp 122) = .bool true := hP 10 (by kernel_rfl)
        exact rop_offG (j := 10) (b := false) rfl rfl e122 (by decide) (hK _ _ (le8_refl _) rfl)
      · intro ac w' hF hL hP hU K hK
        have hB : Below _ _ _ := hL
        have e131 : ac.eval (.tmp 131) = undef := hP 19 (by kernel_rfl)
        exact rop_offU (j := 19) (b := true) rfl rfl e131 (hK _ _ (le8_refl _) rfl)
      · intro ac w' hF hL hP hU K hK
        have hB : Below _ _ _ := hL
        have e131 : ac.eval (.tmp 131) = undef := hP 19 (by kernel_rfl)
        exact rop_offU (j := 19) (b := true) rfl rfl e131 (hK _ _ (le8_refl _) rfl)
      · intro ac w' hF hL hP hU K hK
        have hB : Below _ _ _ := hL
        have e131 : ac.eval (.tmp 131) = undef := hP 19 (by kernel_rfl)
        exact rop_offU (j := 19) (b := true) rfl rfl e131 (hK _ _ (le8_refl _) rfl)
      · intro ac w' hF hL hP hU K hK
        have hB : Below _ _ _ := hL
        have e122 : ac.eval (.tmp 122) = .bool true := hP 10 (by kernel_rfl)
        exact rop_offG (j := 10) (b := false) rfl rfl e122 (by decide) (hK _ _ (le8_refl _) rfl)
      · intro ac w' hF hL hP hU K hK
        have hB : Below _ _ _ := hL
        have e122 : ac.eval (.tmp 122) = .bool true := hP 10 (by kernel_rfl)
        exact rop_pick _ _ _ rfl true e122 (by rfl) (wanted_none rfl) (hK _ _ (le8_refl _) rfl)
      · intro ac w' hF hL hP hU K hK
        have hB : Below _ _ _ := hL
        have e136 : ac.eval (.tmp 136) = .bool true := hP 24 (by kernel_rfl)
        exact rop_assign _ rfl e136 (wanted_none rfl) (hK _ _ (le8_refl _) rfl)
      · intro ac w' hF hB hT
        have e23 : ac.eval (.tmp 23) = .bool true := hT 25 (by decide)
        rw [hF.setsG [112, 113, 114, 115, 116, 117, 118, 119, 120, 121, 122, 123, 124, 125, 126, 127, 128, 129, 130, 131, 132, 133, 134, 135, 136, 23] (by kernel_rfl)]
        simp only [List.foldl_cons, List.foldl_nil, List.setIfInBounds_toArray, List.set_cons_succ, List.set_cons_zero, e23]
        generalize ac.eval (.tmp 112) = u112
        generalize ac.eval (.tmp 113) = u113
        generalize ac.eval (.tmp 114) = u114
        generalize ac.eval (.tmp 115) = u115
        generalize ac.eval (.tmp 116) = u116
        generalize ac.eval (.tmp 117) = u117
        generalize ac.eval (.tmp 118) = u118
        generalize ac.eval (.tmp 119) = u119
        generalize ac.eval (.tmp 120) = u120
        generalize ac.eval (.tmp 121) = u121
        generalize ac.eval (.tmp 122) = u122
        generalize ac.eval (.tmp 123) = u123
        generalize ac.eval (.tmp 124) = u124
        generalize ac.eval (.tmp 125) = u125
        generalize ac.eval (.tmp 126) = u126
        generalize ac.eval (.tmp 127) = u127
        generalize ac.eval (.tmp 128) = u128
        generalize ac.eval (.tmp 129) = u129
        generalize ac.eval (.tmp 130) = u130
        generalize ac.eval (.tmp 131) = u131
        generalize ac.eval (.tmp 132) = u132
        generalize ac.eval (.tmp 133) = u133
        generalize ac.eval (.tmp 134) = u134
        generalize ac.eval (.tmp 135) = u135
        generalize ac.eval (.tmp 136) = u136
        clear e23 hT hF ac
        go_wp2_with fail
        go_meet
        exact ⟨rfl, hB⟩
  case rest =>
  obtain ⟨rfl, hBc⟩ := hcut
  replace hb := below_step hb (Nat.le_refl _) hBc
  clear hBc
  go_upto_region 12 with fail
  try simp only [Act.put]
  refine wp_region_tab0 [RT.is (.bool true), RT.is (.bool true), RT.is (.bool true), RT.is (.bool true), RT.is (.bool true), RT.is (.bool true), RT.is (.bool true), RT.is (.bool true), RT.is (.bool true), RT.is (.bool true), RT.is (.bool true), RT.is (.bool true), RT.is (.bool true), RT.is (.bool true)] (by kernel_rfl) (by kernel_rfl) (by kernel_rfl) ⟨?_, ?_, ?_, ?_, ?_, ?_, ?_, ?_, ?_, ?_, ?_, ?_, ?_, ?_, trivial⟩ ?_
  · intro ac w' hF hL hP hU K hK
    have hB : Below _ _ _ := hL
    have e7 : ac.eval (.tmp 7) = .bool true := hF.at 7 (by kernel_rfl)
    exact rop_move _ rfl e7 (wanted_none rfl) (hK _ _ (le8_refl _) rfl)
  · intro ac w' hF hL hP hU K hK
    have hB : Below _ _ _ := hL
    have e137 : ac.eval (.tmp 137) = .bool true := hP 0 (by kernel_rfl)
    exact rop_move _ rfl e137 (wanted_none rfl) (hK _ _ (le8_refl _) rfl)
  · intro ac w' hF hL hP hU K hK
    have hB : Below _ _ _ := hL
    have e20 : ac.eval (.tmp 20) = .bool true := hF.at 20 (by kernel_rfl)
    have e138 : ac.eval (.tmp 138) = .bool true := hP 1 (by kernel_rfl)
    exact rop_move _ rfl e20 (wanted_of (j := 1) (b := true) rfl rfl e138) (hK _ _ (le8_refl _) rfl)
  · intro ac w' hF hL hP hU K hK
    have hB : Below _ _ _ := hL
    have e138 : ac.eval (.tmp 138) = .bool true := hP 1 (by kernel_rfl)
    have e139 : ac.eval (.tmp 139) = .bool true := hP 2 (by kernel_rfl)
    exact rop_pick _ _ _ rfl true e138 (by simpa using e139) (wanted_none rfl) (hK _ _ (le8_refl _) rfl)
  · intro ac w' hF hL hP hU K hK
    have hB : Below _ _ _ := hL
    have e140 : ac.eval (.tmp 140) = .bool true := hP 3 (by kernel_rfl)
    exact rop_move _ rfl e140 (wanted_none rfl) (hK _ _ (le8_refl _) rfl)
  · intro ac w' hF hL hP hU K hK
    have hB : Below _ _ _ := hL
    have e21 : ac.eval (.tmp 21) = .bool true := hF.at 21 (by kernel_rfl)
    have e141 : ac.eval (.tmp 141) = .bool true := hP 4 (by kernel_rfl)
    exact rop_move _ rfl e21 (wanted_of (j := 4) (b := true) rfl rfl e141) (hK _ _ (le8_refl _) rfl)
  · intro ac w' hF hL hP hU K hK
    have hB : Below _ _ _ := hL
    have e141 : ac.eval (.tmp 141) = .bool true := hP 4 (by kernel_rfl)
    have e142 : ac.eval (.tmp 142) = .bool true := hP 5 (by kernel_rfl)
    exact rop_pick _ _ _ rfl true e141 (by simpa using e142) (wanted_none rfl) (hK _ _ (le8_refl _) rfl)
  · intro ac w' hF hL hP hU K hK
    have hB : Below _ _ _ := hL
    have e143 : ac.eval (.tmp 143) = .bool true := hP 6 (by kernel_rfl)
    exact rop_move _ rfl e143 (wanted_none rfl) (hK _ _ (le8_refl _) rfl)
  · intro ac w' hF hL hP hU K hK
    have hB : Below _ _ _ := hL
    have e22 : ac.eval (.tmp 22) = .bool true := hF.at 22 (by kernel_rfl)
    have e144 : ac.eval (.tmp 144) = .bool true := hP 7 (by kernel_rfl)
    exact rop_move _ rfl e22 (wanted_of (j := 7) (b := true) rfl rfl e144) (hK _ _ (le8_refl _) rfl)
  · intro ac w' hF hL hP hU K hK
    have hB : Below _ _ _ := hL
    have e144 : ac.eval (.tmp 144) = .bool true := hP 7 (by kernel_rfl)
    have e145 : ac.eval (.tmp 145) = .bool true := hP 8 (by kernel_rfl)
    exact rop_pick _ _ _ rfl true e144 (by simpa using e145) (wanted_none rfl) (hK _ _ (le8_refl _) rfl)
  · intro ac w' hF hL hP hU K hK
    have hB : Below _ _ _ := hL
    have e146 : ac.eval (.tmp 146) = .bool true := hP 9 (by kernel_rfl)
    exact rop_move _ rfl e146 (wanted_none rfl) (hK _ _ (le8_refl _) rfl)
  · intro ac w' hF hL hP hU K hK
    have hB : Below _ _ _ := hL
    have e23 : ac.eval (.tmp 23) = .bool true := hF.at 23 (by kernel_rfl)
    have e147 : ac.eval (.tmp 147) = .bool true := hP 10 (by kernel_rfl)
    exact rop_move _ rfl e23 (wanted_of (j := 10) (b := true) rfl rfl e147) (hK _ _ (le8_refl _) rfl)
  · intro ac w' hF hL hP hU K hK
    have hB : Below _ _ _ := hL
    have e147 : ac.eval (.tmp 147) = .bool true := hP 10 (by kernel_rfl)
    have e148 : ac.eval (.tmp 148) = .bool true := hP 11 (by kernel_rfl)
    exact rop_pick _ _ _ rfl true e147 (by simpa using e148) (wanted_none rfl) (hK _ _ (le8_refl _) rfl)
  · intro ac w' hF hL hP hU K hK
    have hB : Below _ _ _ := hL
    have e149 : ac.eval (.tmp 149) = .bool true := hP 12 (by kernel_rfl)
    exact rop_assign _ rfl e149 (wanted_none rfl) (hK _ _ (le8_refl _) rfl)
  · intro ac w' hF hB hT
    have e6 : ac.eval (.tmp 6) = .bool true := hT 13 (by decide)
    rw [hF.setsG [137, 138, 139, 140, 141, 142, 143, 144, 145, 146, 147, 148, 149, 6] (by kernel_rfl)]
    simp only [List.foldl_cons, List.foldl_nil, List.setIfInBounds_toArray, List.set_cons_succ, List.set_cons_zero, e6]
    generalize ac.eval (.tmp 137) = u137
    generalize ac.eval (.tmp 138) = u138
    generalize ac.eval (.tmp 139) = u139
    generalize ac.eval (.tmp 140) = u140
    generalize ac.eval (.tmp 141) = u141
    generalize ac.eval (.tmp 142) = u142
    generalize ac.eval (.tmp 143) = u143
    generalize ac.eval (.tmp 144) = u144
    generalize ac.eval (.tmp 145) = u145
    generalize ac.eval (.tmp 146) = u146
    generalize ac.eval (.tmp 147) = u147
    generalize ac.eval (.tmp 148) = u148
    generalize ac.eval (.tmp 149) = u149
    clear e6 hT hF ac
    have hbw := below_step hb (Nat.le_refl _) hB
    clear hB
    go_wp2
    go_ret
    exact ⟨rfl, hbw⟩

set_option maxRecDepth 100000 in
theorem lifted (os : Os) (started : os.Started) (H : Type) (enc : TypeId × Value → H) :
    ReturnsInHanded {} Tryd.checked os 7 .any (fun w args => (Rows.sealOneSpec.pre enc Tryd.prog Tryd.f7 [] false w args ∧ laidMetH Tryd.prog [("scrinium/sha.k", Rows.laid_scrinium_sha_k)] w) ∧ sizedMet enc Tryd.prog Tryd.f7 (OpenSpec.ofChange Rows.sealOneSpec) false w args)
      (Rows.sealOneSpec.post enc Tryd.prog Tryd.f7 false true false false) := by
  refine returnsInHanded_of_change_and (C := Tryd.checked) (X := fun w _ => laidMetH Tryd.prog [("scrinium/sha.k", Rows.laid_scrinium_sha_k)] w) (fun _ _ _ hh h => h.of_heap hh) lawOwn started (by kernel_rfl) Tryd.func7
    (ChangeSpec.witness_shaped (enc := enc) (C := Tryd.checked) (os := os) (X := fun w _ => laidMetH Tryd.prog [("scrinium/sha.k", Rows.laid_scrinium_sha_k)] w) false (World.doorLaid Tryd.prog 400 os) #[.agg (fzCs fz0 ++ fzCs fz0).toArray, .agg (hdCs hd0 ++ hdCs hd0).toArray, .agg (stCs st0 ++ stCs st0).toArray] 8 rfl (World.shaped_of_RefB (by kernel_rfl) (by kernel_rfl)) (by kernel_rfl) (by kernel_rfl) (by kernel_rfl) (door_met os _)) ?_
  intro W base args ds gs before hval0 hW _ _ hL _
  have hval : ∀ (j : Nat) t v, Tryd.f7.params[j]? = some t → args[j]? = some v → Value.okWide Tryd.prog W .any base t v := hval0
  have hW' := hW
  obtain ⟨p, q, hA0, hV, rfl, hfz, hnd⟩ := hW
  have hA : DataW.TrodAll enc Tryd.prog W 0 (fun _ => true) true Tryd.f7.params.toList args.toList ds p := hA0
  rw [Tryd.params7] at hA hval
  obtain ⟨v0, vs0, d0, ds0, p0, q0, hargs, rfl, rfl, h0, r0⟩ := trodAll_cons hA
  obtain ⟨v1, vs1, d1, ds1, p1, q1, rfl, rfl, rfl, h1, r1⟩ := trodAll_cons r0
  obtain ⟨v2, vs2, d2, ds2, p2, q2, rfl, rfl, rfl, h2, r2⟩ := trodAll_cons r1
  obtain ⟨rfl, rfl, rfl⟩ := trodAll_nil r2
  obtain rfl : args = #[v0, v1, v2] := by cases args; simp_all
  obtain ⟨rfl, rfl⟩ := trodVars_none hV
  have hKT := KT_of_laid hL
  obtain ⟨f0, t0, rfl, w0, u0⟩ := two_arg Tryd.underlying54 (by kernel_rfl) kcFz fz_cells (hval 0 54 v0 rfl rfl) h0
  obtain ⟨f1, t1, rfl, w1, u1⟩ := two_arg Tryd.underlying55 (by kernel_rfl) kcHd hd_cells (hval 1 55 v1 rfl rfl) h1
  obtain ⟨f2, t2, rfl, w2, u2⟩ := two_arg Tryd.underlying56 (by kernel_rfl) kcSt st_cells (hval 2 56 v2 rfl rfl) h2
  clear hA0 hval0
  refine (walk (w := W) hKT f0 w0 t0 u0 f1 w1 t1 u1 f2 w2 t2 u2).mono fun e W' ⟨he, bel⟩ => ?_
  subst he
  exact ⟨_, rfl, law_post rfl rfl (by kernel_rfl) hW' rfl bel⟩

theorem row_holds : Rows.SealOneSaid :=
  OpenClaim.holds_of_wide 7 Tryd.f7 rfl rfl rfl rfl rfl rfl rfl ⟨rfl, rfl, rfl, rfl, rfl⟩ rfl rfl rfl rfl rfl (by kernel_rfl) Tryd.func7 (by kernel_rfl)
    (of_decide_eq_true (by kernel_rfl)) (by unfold Func.isWrapper; first | (rw [if_pos (by decide +kernel)]; kernel_rfl) | (rw [if_neg (by decide +kernel)]; exact ⟨rfl, rfl⟩))
    (fun os started H enc _ => lifted os started H enc)

theorem holds : Rows.SealOneCardSaid :=
  Claim7.holds_tied_plain_at .later [] [.data] true Rows.sealOneCard.stood.harness false
    row_holds (fun _ h => by cases h) (by kernel_rfl) (fun _ h => by cases h) sealOne_row_tie rfl ⟨rfl, rfl⟩ (by kernel_rfl) rfl
    (fun f fn hf hfn => by
      obtain rfl : f = 7 := Option.some.inj ((show Tryd.prog.funcNamed "scrinium/scriniumlaw16.SealOne" = some 7 by kernel_rfl).symm.trans hf) |>.symm
      obtain rfl : fn = Tryd.f7 := (Option.some.inj (Tryd.func7.symm.trans hfn)).symm
      exact ⟨by kernel_rfl, fun j t ht => by
        rw [Tryd.params7] at ht
        have hm : t ∈ [54, 55, 56] := by simpa using Array.mem_of_getElem? ht
        have hall : ([54, 55, 56].all fun u => !Tryd.prog.wantsStandIn u) = true := by kernel_rfl
        exact (show Tryd.prog.wantsStandIn t = false by simpa using List.all_eq_true.1 hall t hm)⟩)
    (by kernel_rfl)
end Go.Proofs.YtlcljjapeigaeaaDoor.sealOne

theorem Go.Proofs.YtlcljjapeigaeaaDoor.sealOne_holds : Go.Proofs.YtlcljjapeigaeaaDoor.Rows.SealOneCardSaid := Go.Proofs.YtlcljjapeigaeaaDoor.sealOne.holds
#print axioms Go.Proofs.YtlcljjapeigaeaaDoor.sealOne_holds
