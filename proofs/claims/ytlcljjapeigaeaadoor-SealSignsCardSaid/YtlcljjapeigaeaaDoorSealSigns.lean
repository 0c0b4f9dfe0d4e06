/-
  SealSigns: heads and stones are signed, and told right or not, as the document says. For every key (of a longer one the first 100 bytes), every head, every stone; the numbers K of the package sha are as the program's own start lays them.
-/
import Derived.Test.YtlcljjapeigaeaaDoorSelLaw
namespace Go.Proofs.YtlcljjapeigaeaaDoor.sealSigns
open Go.ChangeShapes Go.WideShapes Go.ChangeAt Go.RowKit

theorem eql_bool_same (a : Bool) (w : World) : (binOp .eql 4 (.bool a) (.bool a)).run Tryd.prog w = .ok (.bool true) w := eql_bool_t a a rfl w
theorem dec_comm (a b : List UInt8) : decide (a = b) = decide (b = a) := by rw [decide_eq_decide]; exact ⟨fun h => h.symm, fun h => h.symm⟩
theorem hdMk_ok {h : HdR} (hh : HdOk h) (L : List UInt8) : HdOk (hdMk L h.size h.root h.clock) := ⟨hh.size, hh.root, hh.clock, sgn_length _ _ _⟩
theorem stMk_ok {t : StR} (ht : StOk t) (L : List UInt8) : StOk (stMk L t.fz t.tim) := ⟨ht.fz, ht.tim, sgn_length _ _ _⟩
set_option maxHeartbeats 12800000 in
set_option maxRecDepth 100000 in
theorem walk {w : World} (hK : KT w) (s : ByteArray) (_hs : s.size ≤ maxLen) (h : HdR) (hh : HdOk h) (t : StR) (ht : StOk t) :
    Calls Tryd.prog 5 #[.string s, .agg (hdCs h).toArray, .agg (stCs t).toArray] w fun e w' => e = .returned (.bool true) ∧ Below w.heap.size w w' := by
  have HAW := Lib.hid fun u hu => awake16_any u hu
  have HSH := Lib.hid fun u => short16_any s 100 100 rfl u
  have hl := shortB_size s 100
  obtain ⟨S, hS⟩ : ∃ S, S = shortB s 100 := ⟨_, rfl⟩
  rw [← hS] at hl HSH
  clear hS _hs
  have hk : S.size ≤ 1000000 := by omega
  obtain ⟨GA, hGA⟩ : ∃ g, g = hdMk S.data.toList h.size h.root h.clock := ⟨_, rfl⟩
  obtain ⟨GB, hGB⟩ : ∃ g, g = stMk S.data.toList t.fz t.tim := ⟨_, rfl⟩
  have hoA : HdOk GA := by rw [hGA]; exact hdMk_ok hh _
  have hoB : StOk GB := by rw [hGB]; exact stMk_ok ht _
  have HMA : Hid (∀ u, KT u → Calls Tryd.prog 25 #[.string S, .int .i64 h.size, .agg (h.root.map u8V).toArray, .int .i64 h.clock] u fun e w' => e = .returned (.agg (hdCs GA).toArray) ∧ Below u.heap.size u w') := Lib.hid fun u hu => by rw [hGA]; exact hdMake_any S hk h.size h.root hh.root h.clock u hu
  have HMB : Hid (∀ u, KT u → Calls Tryd.prog 26 #[.string S, .agg (fzCs t.fz).toArray, .int .i64 t.tim] u fun e w' => e = .returned (.agg (stCs GB).toArray) ∧ Below u.heap.size u w') := Lib.hid fun u hu => by rw [hGB]; exact stMake_any S hk t.fz ht.fz.root t.tim u hu
  have HNA : Hid (∀ u, Calls Tryd.prog 27 #[.string S, .int .i64 h.size, sumV h.root, .int .i64 h.clock] u fun e w' => e = .returned (.agg (hdCs GA).toArray) ∧ Below u.heap.size u w') := Lib.hid fun u => by rw [hGA]; exact rhdMake_any S hk h.size h.root hh.root h.clock u
  have HNB : Hid (∀ u, Calls Tryd.prog 28 #[.string S, .agg (fzCs t.fz).toArray, .int .i64 t.tim] u fun e w' => e = .returned (.agg (stCs GB).toArray) ∧ Below u.heap.size u w') := Lib.hid fun u => by rw [hGB]; exact rstMake_any S hk t.fz ht.fz.root t.tim u
  obtain ⟨b1, hb1⟩ : ∃ b, b = (hdB h && decide (Mac.mac S.data.toList (hdL h) = h.mac)) := ⟨_, rfl⟩
  have HP1 : Hid (∀ u, KT u → Calls Tryd.prog 29 #[.string S, .agg (hdCs h).toArray] u fun e w' => e = .returned (.bool b1) ∧ Below u.heap.size u w') := Lib.hid fun u hu => by rw [hb1]; exact hdRight_any S hk h hh.root hh.mac u hu
  have HQ1 : Hid (∀ u, Calls Tryd.prog 30 #[.string S, .agg (hdCs h).toArray] u fun e w' => e = .returned (.bool b1) ∧ Below u.heap.size u w') := Lib.hid fun u => by rw [hb1, dec_comm]; exact rhdRight_any S hk h hh.root hh.mac u
  clear hb1
  obtain ⟨b2, hb2⟩ : ∃ b, b = (stB t && decide (Mac.mac S.data.toList (stL t) = t.mac)) := ⟨_, rfl⟩
  have HP2 : Hid (∀ u, KT u → Calls Tryd.prog 31 #[.string S, .agg (stCs t).toArray] u fun e w' => e = .returned (.bool b2) ∧ Below u.heap.size u w') := Lib.hid fun u hu => by rw [hb2]; exact stRight_any S hk t ht.fz.root ht.mac u hu
  have HQ2 : Hid (∀ u, Calls Tryd.prog 32 #[.string S, .agg (stCs t).toArray] u fun e w' => e = .returned (.bool b2) ∧ Below u.heap.size u w') := Lib.hid fun u => by rw [hb2, dec_comm]; exact rstRight_any S hk t ht.fz.root ht.mac u
  clear hb2
  obtain ⟨b3, hb3⟩ : ∃ b, b = (hdB GA && decide (Mac.mac S.data.toList (hdL GA) = GA.mac)) := ⟨_, rfl⟩
  have HP3 : Hid (∀ u, KT u → Calls Tryd.prog 29 #[.string S, .agg (hdCs GA).toArray] u fun e w' => e = .returned (.bool b3) ∧ Below u.heap.size u w') := Lib.hid fun u hu => by rw [hb3]; exact hdRight_any S hk GA hoA.root hoA.mac u hu
  have HQ3 : Hid (∀ u, Calls Tryd.prog 30 #[.string S, .agg (hdCs GA).toArray] u fun e w' => e = .returned (.bool b3) ∧ Below u.heap.size u w') := Lib.hid fun u => by rw [hb3, dec_comm]; exact rhdRight_any S hk GA hoA.root hoA.mac u
  clear hb3
  obtain ⟨b4, hb4⟩ : ∃ b, b = (stB GB && decide (Mac.mac S.data.toList (stL GB) = GB.mac)) := ⟨_, rfl⟩
  have HP4 : Hid (∀ u, KT u → Calls Tryd.prog 31 #[.string S, .agg (stCs GB).toArray] u fun e w' => e = .returned (.bool b4) ∧ Below u.heap.size u w') := Lib.hid fun u hu => by rw [hb4]; exact stRight_any S hk GB hoB.fz.root hoB.mac u hu
  have HQ4 : Hid (∀ u, Calls Tryd.prog 32 #[.string S, .agg (stCs GB).toArray] u fun e w' => e = .returned (.bool b4) ∧ Below u.heap.size u w') := Lib.hid fun u => by rw [hb4, dec_comm]; exact rstRight_any S hk GB hoB.fz.root hoB.mac u
  clear hb4
  have HIfz : Hid ((Tryd.prog.info? 25).map (·.size) = some 34) := Lib.hid (size_of info_fz)
  have HZfz : Hid ((fzCs fz0).length = 34) := Lib.hid rfl
  have HIhd : Hid ((Tryd.prog.info? 27).map (·.size) = some 66) := Lib.hid (size_of info_hd)
  have HZhd : Hid ((hdCs hd0).length = 66) := Lib.hid rfl
  have HIst : Hid ((Tryd.prog.info? 29).map (·.size) = some 67) := Lib.hid (size_of info_st)
  have HZst : Hid ((stCs st0).length = 67) := Lib.hid rfl
  have HAA : Hid ((hdCs GA).toArray.size = 66) := Lib.hid (by rw [List.size_toArray]; exact hdCs_length hoA.root hoA.mac)
  have HAB : Hid ((stCs GB).toArray.size = 67) := Lib.hid (by rw [List.size_toArray]; exact stCs_length hoB.fz.root hoB.mac)
  have OKh := Lib.hid hh
  have OKt := Lib.hid ht
  have OKA := Lib.hid hoA
  have OKB := Lib.hid hoB
  have HLz : Hid ((Tryd.prog.info? 25).map (·.size) = some (fzCs t.fz).length) := Lib.hid (by rw [fzCs_length ht.fz.root]; exact size_fz)
  clear hl hk hh ht hoA hoB hGA hGB
  obtain ⟨q, hq⟩ : ∃ q, q = w.heap.size := ⟨_, rfl⟩
  obtain ⟨r, hr⟩ : ∃ r, r = q + 1 := ⟨_, rfl⟩
  obtain ⟨A2, hA2⟩ : ∃ W, W = w.alloc (.cells (hdCs h).toArray 27) := ⟨_, rfl⟩
  obtain ⟨A3, hA3⟩ : ∃ W, W = A2.alloc (.cells (stCs t).toArray 29) := ⟨_, rfl⟩
  have s2 : A2.heap.size = r := by rw [hA2, hr, hq]; simp
  have a2 : Below w.heap.size w A2 := by rw [hA2]; exact below_boxS _ _
  have a3 : Below A2.heap.size A2 A3 := by rw [hA3]; exact below_boxS _ _
  have HBh : Blk q 27 (hdCs h) A2 := by rw [hA2, hq]; exact Blk.alloc _ _ _
  replace HBh := HBh.old a3 HBh.lt
  have HBt : Blk r 29 (stCs t) A3 := by rw [hA3, ← s2]; exact Blk.alloc _ _ _
  have hb := below_step a2 (Nat.le_refl _) a3
  have H2 := Lib.hid hA2
  have H3 := Lib.hid hA3
  have HQ := Lib.hid hq
  have HR := Lib.hid hr
  have HKA := Lib.hid hK
  clear hA2 hA3 hq hr s2 a2 a3 hK
  go_enter Tryd.func5, Tryd.ntmps5
  go_upto_region 1 with fail
  rw [← H2.out, ← HQ.out, ← H3.out, ← HR.out]
  clear H2 H3 HQ HR
  go_upto_region 2 with (first
    | (go_at_call 9; (refine (HAW.out _ (HKA.out.old hb)).mono ?_; rintro e w1 ⟨rfl, b1⟩)))
  replace HBh := Blk.old HBh b1 (Blk.lt HBh)
  replace HBt := Blk.old HBt b1 (Blk.lt HBt)
  replace hb := below_step hb (Nat.le_refl _) b1
  clear b1
  clear HAW
  go_upto_region 3 with (go_at_call 21; (refine (HSH.out _).mono ?_; rintro e w00 ⟨rfl, rfl⟩))
  clear HSH
  have c0 := HdAt.size (show HdAt q h _ from HBh)
  have c33 := HdAt.clock (show HdAt q h _ from HBh) OKh.out.root
  have HRr := Lib.hid (HdAt.root (show HdAt q h _ from HBh))
  go_upto_region 4 with (first
    | refine wpList_load_mid rfl 23 (.tmp 19) rfl q 1 rfl (h.root.map u8V) _ HRr.out Tryd.underlying23 rfl (sum_info' OKh.out.root) ?_
    | (go_at_call 25; (refine (HMA.out _ (HKA.out.old hb)).mono ?_; rintro e w2 ⟨rfl, b2⟩))
    | refine wpList_store_mid (w := w2.alloc (.cells (hdCs hd0).toArray 27)) rfl 27 (.tmp 8) (.tmp 23) rfl w2.heap.size 0 (hdCs GA).toArray rfl rfl (by rw [HAA.out]; exact Blk.there (Blk.alloc w2 27 (hdCs hd0)) (by rw [HZhd.out]; decide)) (by rw [HAA.out]; exact HIhd.out) one_hd ?_)
  obtain ⟨xHXA, hxHXA⟩ : ∃ x, x = w2.heap.size := ⟨_, rfl⟩
  obtain ⟨V2, hV2⟩ : ∃ u, u = (w2.alloc (.cells (hdCs hd0).toArray 27)).setCells w2.heap.size 0 (hdCs GA) := ⟨_, rfl⟩
  change Code.wp _ _ _ _ ((w2.alloc (.cells (hdCs hd0).toArray 27)).setCells w2.heap.size 0 (hdCs GA))
  rw [← hV2, ← hxHXA]
  have c2 : Below w2.heap.size w2 V2 := by rw [hV2]; exact below_setCells (Nat.le_refl _) _ _ _ (below_boxS _ _)
  have HXA : Blk xHXA 27 (hdCs GA) V2 := by rw [hV2, hxHXA]; exact Blk.setAll (Blk.alloc w2 27 (hdCs hd0)) (by rw [HZhd.out, ← List.size_toArray]; exact HAA.out)
  replace HBh := Blk.old HBh b2 (Blk.lt HBh)
  replace HBt := Blk.old HBt b2 (Blk.lt HBt)
  replace HBh := Blk.old HBh c2 (Blk.lt HBh)
  replace HBt := Blk.old HBt c2 (Blk.lt HBt)
  replace hb := below_step (below_step hb (Nat.le_refl _) b2) (Nat.le_refl _) c2
  clear hV2 hxHXA b2 c2
  clear c0 c33 HRr HMA
  have c34 := StAt.tim (show StAt r t _ from HBt) OKt.out.fz.root
  have HRr := Lib.hid (StAt.fz (show StAt r t _ from HBt))
  go_upto_region 5 with (first
    | refine wpList_load_mid rfl 25 (.tmp 25) rfl r 0 rfl (fzCs t.fz) _ HRr.out Tryd.underlying25 rfl HLz.out ?_
    | (go_at_call 26; (refine (HMB.out _ (HKA.out.old hb)).mono ?_; rintro e w3 ⟨rfl, b3⟩))
    | refine wpList_store_mid (w := w3.alloc (.cells (stCs st0).toArray 29)) rfl 29 (.tmp 9) (.tmp 29) rfl w3.heap.size 0 (stCs GB).toArray rfl rfl (by rw [HAB.out]; exact Blk.there (Blk.alloc w3 29 (stCs st0)) (by rw [HZst.out]; decide)) (by rw [HAB.out]; exact HIst.out) one_st ?_)
  obtain ⟨xHXB, hxHXB⟩ : ∃ x, x = w3.heap.size := ⟨_, rfl⟩
  obtain ⟨V3, hV3⟩ : ∃ u, u = (w3.alloc (.cells (stCs st0).toArray 29)).setCells w3.heap.size 0 (stCs GB) := ⟨_, rfl⟩
  change Code.wp _ _ _ _ ((w3.alloc (.cells (stCs st0).toArray 29)).setCells w3.heap.size 0 (stCs GB))
  rw [← hV3, ← hxHXB]
  have c3 : Below w3.heap.size w3 V3 := by rw [hV3]; exact below_setCells (Nat.le_refl _) _ _ _ (below_boxS _ _)
  have HXB : Blk xHXB 29 (stCs GB) V3 := by rw [hV3, hxHXB]; exact Blk.setAll (Blk.alloc w3 29 (stCs st0)) (by rw [HZst.out, ← List.size_toArray]; exact HAB.out)
  replace HBh := Blk.old HBh b3 (Blk.lt HBh)
  replace HBt := Blk.old HBt b3 (Blk.lt HBt)
  replace HXA := Blk.old HXA b3 (Blk.lt HXA)
  replace HBh := Blk.old HBh c3 (Blk.lt HBh)
  replace HBt := Blk.old HBt c3 (Blk.lt HBt)
  replace HXA := Blk.old HXA c3 (Blk.lt HXA)
  replace hb := below_step (below_step hb (Nat.le_refl _) b3) (Nat.le_refl _) c3
  clear hV3 hxHXB b3 c3
  clear c34 HRr HMB HLz
  skip
  obtain ⟨U5, hU⟩ : ∃ U, U = V3 := ⟨_, rfl⟩
  subst hU
  have HK5 : Hid (KT U5) := Lib.hid (HKA.out.old hb)
  try simp only [Act.put]
  refine wp_region_tab [RT.is (.agg (hdCs GA).toArray), RT.is (.string S), RT.is (.pointer (some ⟨q, 0, none⟩)), RT.is (.int .i64 h.size), RT.is (.pointer (some ⟨q, 1, none⟩)), RT.is (sumV h.root), RT.is (.pointer (some ⟨q, 33, none⟩)), RT.is (.int .i64 h.clock), RT.is (.agg (hdCs GA).toArray), RT.is (.bool true), RT.is (.bool true), RT.is (.agg (stCs GB).toArray), RT.is (.string S), RT.is (.pointer (some ⟨r, 0, none⟩)), RT.is (.agg (fzCs t.fz).toArray), RT.is (.pointer (some ⟨r, 34, none⟩)), RT.is (.int .i64 t.tim), RT.is (.agg (stCs GB).toArray), RT.is (.bool true), RT.is (.bool true), RT.is (.bool true)] (by kernel_rfl) (by kernel_rfl) (by kernel_rfl) (by kernel_rfl) ⟨?_, ?_, ?_, ?_, ?_, ?_, ?_, ?_, ?_, ?_, ?_, ?_, ?_, ?_, ?_, ?_, ?_, ?_, ?_, ?_, ?_, trivial⟩ ?_
  · intro ac w' hF hL hP hU K hK
    have hB := below_undrew hL
    have e8 : ac.eval (.tmp 8) = .pointer (some ⟨xHXA, 0, none⟩) := hF.at 8 (by kernel_rfl)
    exact rop_ld _ _ rfl e8 (load_hdAt (below_range' hB (Blk.lt HXA) (Blk.all HXA)) OKA.out.root OKA.out.mac) (wanted_none rfl) (hK _ _ (le8_refl _) rfl)
  · intro ac w' hF hL hP hU K hK
    have hB := below_undrew hL
    have e0 : ac.eval (.tmp 0) = .string S := hF.at 0 (by kernel_rfl)
    exact rop_move _ rfl e0 (wanted_none rfl) (hK _ _ (le8_refl _) rfl)
  · intro ac w' hF hL hP hU K hK
    have hB := below_undrew hL
    have e4 : ac.eval (.tmp 4) = .pointer (some ⟨q, 0, none⟩) := hF.at 4 (by kernel_rfl)
    exact rop_fld _ _ _ rfl e4 ((fld_hd0 q _).1) (wanted_none rfl) (hK _ _ (le8_refl _) rfl)
  · intro ac w' hF hL hP hU K hK
    have hB := below_undrew hL
    have e32 : ac.eval (.tmp 32) = .pointer (some ⟨q, 0, none⟩) := hP 2 (by kernel_rfl)
    exact rop_ld _ _ rfl e32 (load_intS (HdAt.size (show HdAt q h _ from Blk.old HBh hB (Blk.lt HBh)))) (wanted_none rfl) (hK _ _ (le8_refl _) rfl)
  · intro ac w' hF hL hP hU K hK
    have hB := below_undrew hL
    have e4 : ac.eval (.tmp 4) = .pointer (some ⟨q, 0, none⟩) := hF.at 4 (by kernel_rfl)
    exact rop_fld _ _ _ rfl e4 ((fld_hd0 q _).2.1) (wanted_none rfl) (hK _ _ (le8_refl _) rfl)
  · intro ac w' hF hL hP hU K hK
    have hB := below_undrew hL
    have e34 : ac.eval (.tmp 34) = .pointer (some ⟨q, 1, none⟩) := hP 4 (by kernel_rfl)
    exact rop_ld _ _ rfl e34 (load_sumAt (HdAt.root (show HdAt q h _ from Blk.old HBh hB (Blk.lt HBh))) OKh.out.root) (wanted_none rfl) (hK _ _ (le8_refl _) rfl)
  · intro ac w' hF hL hP hU K hK
    have hB := below_undrew hL
    have e4 : ac.eval (.tmp 4) = .pointer (some ⟨q, 0, none⟩) := hF.at 4 (by kernel_rfl)
    exact rop_fld _ _ _ rfl e4 ((fld_hd0 q _).2.2.1) (wanted_none rfl) (hK _ _ (le8_refl _) rfl)
  · intro ac w' hF hL hP hU K hK
    have hB := below_undrew hL
    have e36 : ac.eval (.tmp 36) = .pointer (some ⟨q, 33, none⟩) := hP 6 (by kernel_rfl)
    exact rop_ld _ _ rfl e36 (load_intS (HdAt.clock (show HdAt q h _ from Blk.old HBh hB (Blk.lt HBh)) OKh.out.root)) (wanted_none rfl) (hK _ _ (le8_refl _) rfl)
  · intro ac w' hF hL hP hU K hK
    have hB := below_undrew hL
    have e31 : ac.eval (.tmp 31) = .string S := hP 1 (by kernel_rfl)
    have e33 : ac.eval (.tmp 33) = .int .i64 h.size := hP 3 (by kernel_rfl)
    have e35 : ac.eval (.tmp 35) = sumV h.root := hP 5 (by kernel_rfl)
    have e37 : ac.eval (.tmp 37) = .int .i64 h.clock := hP 7 (by kernel_rfl)
    refine rop_call 27 _ _ rfl #[.string S, .int .i64 h.size, sumV h.root, .int .i64 h.clock] (by simp [e31, e33, e35, e37]) (by kernel_rfl) (wanted_none rfl) ?_
    refine (HNA.out w').mono ?_
    rintro e w2 ⟨rfl, hb⟩
    exact ⟨_, rfl, hK _ _ hb rfl⟩
  · intro ac w' hF hL hP hU K hK
    have hB := below_undrew hL
    have e30 : ac.eval (.tmp 30) = .agg (hdCs GA).toArray := hP 0 (by kernel_rfl)
    have e38 : ac.eval (.tmp 38) = .agg (hdCs GA).toArray := hP 8 (by kernel_rfl)
    exact rop_bin _ _ _ _ _ rfl e30 e38 (guard_hd .eql _ _ _ _ w') (eql_hd_t GA OKA.out w') (wanted_none rfl) (hK _ _ (le8_refl _) rfl)
  · intro ac w' hF hL hP hU K hK
    have hB := below_undrew hL
    have e39 : ac.eval (.tmp 39) = .bool true := hP 9 (by kernel_rfl)
    exact rop_move _ rfl e39 (wanted_none rfl) (hK _ _ (le8_refl _) rfl)
  · intro ac w' hF hL hP hU K hK
    have hB := below_undrew hL
    have e9 : ac.eval (.tmp 9) = .pointer (some ⟨xHXB, 0, none⟩) := hF.at 9 (by kernel_rfl)
    have e40 : ac.eval (.tmp 40) = .bool true := hP 10 (by kernel_rfl)
    exact rop_ld _ _ rfl e9 (load_stAt (below_range' hB (Blk.lt HXB) (Blk.all HXB)) OKB.out.fz.root OKB.out.mac) (wanted_of (j := 10) (b := true) rfl rfl e40) (hK _ _ (le8_refl _) rfl)
  · intro ac w' hF hL hP hU K hK
    have hB := below_undrew hL
    have e0 : ac.eval (.tmp 0) = .string S := hF.at 0 (by kernel_rfl)
    have e40 : ac.eval (.tmp 40) = .bool true := hP 10 (by kernel_rfl)
    exact rop_move _ rfl e0 (wanted_of (j := 10) (b := true) rfl rfl e40) (hK _ _ (le8_refl _) rfl)
  · intro ac w' hF hL hP hU K hK
    have hB := below_undrew hL
    have e5 : ac.eval (.tmp 5) = .pointer (some ⟨r, 0, none⟩) := hF.at 5 (by kernel_rfl)
    have e40 : ac.eval (.tmp 40) = .bool true := hP 10 (by kernel_rfl)
    exact rop_fld _ _ _ rfl e5 ((fld_st0 r _).1) (wanted_of (j := 10) (b := true) rfl rfl e40) (hK _ _ (le8_refl _) rfl)
  · intro ac w' hF hL hP hU K hK
    have hB := below_undrew hL
    have e43 : ac.eval (.tmp 43) = .pointer (some ⟨r, 0, none⟩) := hP 13 (by kernel_rfl)
    have e40 : ac.eval (.tmp 40) = .bool true := hP 10 (by kernel_rfl)
    exact rop_ld _ _ rfl e43 (load_fzAt (StAt.fz (show StAt r t _ from Blk.old HBt hB (Blk.lt HBt))) OKt.out.fz.root) (wanted_of (j := 10) (b := true) rfl rfl e40) (hK _ _ (le8_refl _) rfl)
  · intro ac w' hF hL hP hU K hK
    have hB := below_undrew hL
    have e5 : ac.eval (.tmp 5) = .pointer (some ⟨r, 0, none⟩) := hF.at 5 (by kernel_rfl)
    have e40 : ac.eval (.tmp 40) = .bool true := hP 10 (by kernel_rfl)
    exact rop_fld _ _ _ rfl e5 ((fld_st0 r _).2.1) (wanted_of (j := 10) (b := true) rfl rfl e40) (hK _ _ (le8_refl _) rfl)
  · intro ac w' hF hL hP hU K hK
    have hB := below_undrew hL
    have e45 : ac.eval (.tmp 45) = .pointer (some ⟨r, 34, none⟩) := hP 15 (by kernel_rfl)
    have e40 : ac.eval (.tmp 40) = .bool true := hP 10 (by kernel_rfl)
    exact rop_ld _ _ rfl e45 (load_intS (StAt.tim (show StAt r t _ from Blk.old HBt hB (Blk.lt HBt)) OKt.out.fz.root)) (wanted_of (j := 10) (b := true) rfl rfl e40) (hK _ _ (le8_refl _) rfl)
  · intro ac w' hF hL hP hU K hK
    have hB := below_undrew hL
    have e42 : ac.eval (.tmp 42) = .string S := hP 12 (by kernel_rfl)
    have e44 : ac.eval (.tmp 44) = .agg (fzCs t.fz).toArray := hP 14 (by kernel_rfl)
    have e46 : ac.eval (.tmp 46) = .int .i64 t.tim := hP 16 (by kernel_rfl)
    have e40 : ac.eval (.tmp 40) = .bool true := hP 10 (by kernel_rfl)
    refine rop_call 28 _ _ rfl #[.string S, .agg (fzCs t.fz).toArray, .int .i64 t.tim] (by simp [e42, e44, e46]) (by kernel_rfl) (wanted_of (j := 10) (b := true) rfl rfl e40) ?_
    refine (HNB.out w').mono ?_
    rintro e w2 ⟨rfl, hb⟩
    exact ⟨_, rfl, hK _ _ hb rfl⟩
  · intro ac w' hF hL hP hU K hK
    have hB := below_undrew hL
    have e41 : ac.eval (.tmp 41) = .agg (stCs GB).toArray := hP 11 (by kernel_rfl)
    have e47 : ac.eval (.tmp 47) = .agg (stCs GB).toArray := hP 17 (by kernel_rfl)
    have e40 : ac.eval (.tmp 40) = .bool true := hP 10 (by kernel_rfl)
    exact rop_bin _ _ _ _ _ rfl e41 e47 (guard_st .eql _ _ _ _ w') (eql_st_t GB OKB.out w') (wanted_of (j := 10) (b := true) rfl rfl e40) (hK _ _ (le8_refl _) rfl)
  · intro ac w' hF hL hP hU K hK
    have hB := below_undrew hL
    have e40 : ac.eval (.tmp 40) = .bool true := hP 10 (by kernel_rfl)
    have e48 : ac.eval (.tmp 48) = .bool true := hP 18 (by kernel_rfl)
    exact rop_pick _ _ _ rfl true e40 (by simpa using e48) (wanted_none rfl) (hK _ _ (le8_refl _) rfl)
  · intro ac w' hF hL hP hU K hK
    have hB := below_undrew hL
    have e49 : ac.eval (.tmp 49) = .bool true := hP 19 (by kernel_rfl)
    exact rop_assign _ rfl e49 (wanted_none rfl) (hK _ _ (le8_refl _) rfl)
  · intro ac w' hF hB hT
    have e10 : ac.eval (.tmp 10) = .bool true := hT 20 (by decide)
    rw [hF.setsG [30, 31, 32, 33, 34, 35, 36, 37, 38, 39, 40, 41, 42, 43, 44, 45, 46, 47, 48, 49, 10] (by kernel_rfl)]
    simp only [List.foldl_cons, List.foldl_nil, List.setIfInBounds_toArray, List.set_cons_succ, List.set_cons_zero, e10]
    generalize ac.eval (.tmp 30) = u30
    generalize ac.eval (.tmp 31) = u31
    generalize ac.eval (.tmp 32) = u32
    generalize ac.eval (.tmp 33) = u33
    generalize ac.eval (.tmp 34) = u34
    generalize ac.eval (.tmp 35) = u35
    generalize ac.eval (.tmp 36) = u36
    generalize ac.eval (.tmp 37) = u37
    generalize ac.eval (.tmp 38) = u38
    generalize ac.eval (.tmp 39) = u39
    generalize ac.eval (.tmp 40) = u40
    generalize ac.eval (.tmp 41) = u41
    generalize ac.eval (.tmp 42) = u42
    generalize ac.eval (.tmp 43) = u43
    generalize ac.eval (.tmp 44) = u44
    generalize ac.eval (.tmp 45) = u45
    generalize ac.eval (.tmp 46) = u46
    generalize ac.eval (.tmp 47) = u47
    generalize ac.eval (.tmp 48) = u48
    generalize ac.eval (.tmp 49) = u49
    clear e10 hT hF ac
    replace HBh := Blk.old HBh hB (Blk.lt HBh)
    replace HBt := Blk.old HBt hB (Blk.lt HBt)
    replace HXA := Blk.old HXA hB (Blk.lt HXA)
    replace HXB := Blk.old HXB hB (Blk.lt HXB)
    replace hb := below_step hb (Nat.le_refl _) hB
    clear hB HK5
    clear HNA HNB
    obtain ⟨U6, hU⟩ : ∃ U, U = w' := ⟨_, rfl⟩
    subst hU
    have HK6 : Hid (KT U6) := Lib.hid (HKA.out.old hb)
    go_upto_region 6 with fail
    try simp only [Act.put]
    refine wp_region_tab [RT.is (.string S), RT.is (.agg (hdCs h).toArray), RT.is (.bool b1), RT.is (.string S), RT.is (.agg (hdCs h).toArray), RT.is (.bool b1), RT.is (.bool true), RT.is (.bool true), RT.is (.string S), RT.is (.agg (stCs t).toArray), RT.is (.bool b2), RT.is (.string S), RT.is (.agg (stCs t).toArray), RT.is (.bool b2), RT.is (.bool true), RT.is (.bool true), RT.is (.bool true)] (by kernel_rfl) (by kernel_rfl) (by kernel_rfl) (by kernel_rfl) ⟨?_, ?_, ?_, ?_, ?_, ?_, ?_, ?_, ?_, ?_, ?_, ?_, ?_, ?_, ?_, ?_, ?_, trivial⟩ ?_
    · intro ac w' hF hL hP hU K hK
      have hB := below_undrew hL
      have e0 : ac.eval (.tmp 0) = .string S := hF.at 0 (by kernel_rfl)
      exact rop_move _ rfl e0 (wanted_none rfl) (hK _ _ (le8_refl _) rfl)
    · intro ac w' hF hL hP hU K hK
      have hB := below_undrew hL
      have e4 : ac.eval (.tmp 4) = .pointer (some ⟨q, 0, none⟩) := hF.at 4 (by kernel_rfl)
      exact rop_ld _ _ rfl e4 (load_hdAt (below_range' hB (Blk.lt HBh) (Blk.all HBh)) OKh.out.root OKh.out.mac) (wanted_none rfl) (hK _ _ (le8_refl _) rfl)
    · intro ac w' hF hL hP hU K hK
      have hB := below_undrew hL
      have e50 : ac.eval (.tmp 50) = .string S := hP 0 (by kernel_rfl)
      have e51 : ac.eval (.tmp 51) = .agg (hdCs h).toArray := hP 1 (by kernel_rfl)
      refine rop_call 29 _ _ rfl #[.string S, .agg (hdCs h).toArray] (by simp [e50, e51]) (by kernel_rfl) (wanted_none rfl) ?_
      refine (HP1.out w' (HK6.out.old hB)).mono ?_
      rintro e w2 ⟨rfl, hb⟩
      exact ⟨_, rfl, hK _ _ hb rfl⟩
    · intro ac w' hF hL hP hU K hK
      have hB := below_undrew hL
      have e0 : ac.eval (.tmp 0) = .string S := hF.at 0 (by kernel_rfl)
      exact rop_move _ rfl e0 (wanted_none rfl) (hK _ _ (le8_refl _) rfl)
    · intro ac w' hF hL hP hU K hK
      have hB := below_undrew hL
      have e4 : ac.eval (.tmp 4) = .pointer (some ⟨q, 0, none⟩) := hF.at 4 (by kernel_rfl)
      exact rop_ld _ _ rfl e4 (load_hdAt (below_range' hB (Blk.lt HBh) (Blk.all HBh)) OKh.out.root OKh.out.mac) (wanted_none rfl) (hK _ _ (le8_refl _) rfl)
    · intro ac w' hF hL hP hU K hK
      have hB := below_undrew hL
      have e53 : ac.eval (.tmp 53) = .string S := hP 3 (by kernel_rfl)
      have e54 : ac.eval (.tmp 54) = .agg (hdCs h).toArray := hP 4 (by kernel_rfl)
      refine rop_call 30 _ _ rfl #[.string S, .agg (hdCs h).toArray] (by simp [e53, e54]) (by kernel_rfl) (wanted_none rfl) ?_
      refine (HQ1.out w').mono ?_
      rintro e w2 ⟨rfl, hb⟩
      exact ⟨_, rfl, hK _ _ hb rfl⟩
    · intro ac w' hF hL hP hU K hK
      have hB := below_undrew hL
      have e52 : ac.eval (.tmp 52) = .bool b1 := hP 2 (by kernel_rfl)
      have e55 : ac.eval (.tmp 55) = .bool b1 := hP 5 (by kernel_rfl)
      exact rop_bin _ _ _ _ _ rfl e52 e55 (guard_boolS _ _ _ _ _ _ w') (eql_bool_same _ w') (wanted_none rfl) (hK _ _ (le8_refl _) rfl)
    · intro ac w' hF hL hP hU K hK
      have hB := below_undrew hL
      have e56 : ac.eval (.tmp 56) = .bool true := hP 6 (by kernel_rfl)
      exact rop_move _ rfl e56 (wanted_none rfl) (hK _ _ (le8_refl _) rfl)
    · intro ac w' hF hL hP hU K hK
      have hB := below_undrew hL
      have e0 : ac.eval (.tmp 0) = .string S := hF.at 0 (by kernel_rfl)
      have e57 : ac.eval (.tmp 57) = .bool true := hP 7 (by kernel_rfl)
      exact rop_move _ rfl e0 (wanted_of (j := 7) (b := true) rfl rfl e57) (hK _ _ (le8_refl _) rfl)
    · intro ac w' hF hL hP hU K hK
      have hB := below_undrew hL
      have e5 : ac.eval (.tmp 5) = .pointer (some ⟨r, 0, none⟩) := hF.at 5 (by kernel_rfl)
      have e57 : ac.eval (.tmp 57) = .bool true := hP 7 (by kernel_rfl)
      exact rop_ld _ _ rfl e5 (load_stAt (below_range' hB (Blk.lt HBt) (Blk.all HBt)) OKt.out.fz.root OKt.out.mac) (wanted_of (j := 7) (b := true) rfl rfl e57) (hK _ _ (le8_refl _) rfl)
    · intro ac w' hF hL hP hU K hK
      have hB := below_undrew hL
      have e58 : ac.eval (.tmp 58) = .string S := hP 8 (by kernel_rfl)
      have e59 : ac.eval (.tmp 59) = .agg (stCs t).toArray := hP 9 (by kernel_rfl)
      have e57 : ac.eval (.tmp 57) = .bool true := hP 7 (by kernel_rfl)
      refine rop_call 31 _ _ rfl #[.string S, .agg (stCs t).toArray] (by simp [e58, e59]) (by kernel_rfl) (wanted_of (j := 7) (b := true) rfl rfl e57) ?_
      refine (HP2.out w' (HK6.out.old hB)).mono ?_
      rintro e w2 ⟨rfl, hb⟩
      exact ⟨_, rfl, hK _ _ hb rfl⟩
    · intro ac w' hF hL hP hU K hK
      have hB := below_undrew hL
      have e0 : ac.eval (.tmp 0) = .string S := hF.at 0 (by kernel_rfl)
      have e57 : ac.eval (.tmp 57) = .bool true := hP 7 (by kernel_rfl)
      exact rop_move _ rfl e0 (wanted_of (j := 7) (b := true) rfl rfl e57) (hK _ _ (le8_refl _) rfl)
    · intro ac w' hF hL hP hU K hK
      have hB := below_undrew hL
      have e5 : ac.eval (.tmp 5) = .pointer (some ⟨r, 0, none⟩) := hF.at 5 (by kernel_rfl)
      have e57 : ac.eval (.tmp 57) = .bool true := hP 7 (by kernel_rfl)
      exact rop_ld _ _ rfl e5 (load_stAt (below_range' hB (Blk.lt HBt) (Blk.all HBt)) OKt.out.fz.root OKt.out.mac) (wanted_of (j := 7) (b := true) rfl rfl e57) (hK _ _ (le8_refl _) rfl)
    · intro ac w' hF hL hP hU K hK
      have hB := below_undrew hL
      have e61 : ac.eval (.tmp 61) = .string S := hP 11 (by kernel_rfl)
      have e62 : ac.eval (.tmp 62) = .agg (stCs t).toArray := hP 12 (by kernel_rfl)
      have e57 : ac.eval (.tmp 57) = .bool true := hP 7 (by kernel_rfl)
      refine rop_call 32 _ _ rfl #[.string S, .agg (stCs t).toArray] (by simp [e61, e62]) (by kernel_rfl) (wanted_of (j := 7) (b := true) rfl rfl e57) ?_
      refine (HQ2.out w').mono ?_
      rintro e w2 ⟨rfl, hb⟩
      exact ⟨_, rfl, hK _ _ hb rfl⟩
    · intro ac w' hF hL hP hU K hK
      have hB := below_undrew hL
      have e60 : ac.eval (.tmp 60) = .bool b2 := hP 10 (by kernel_rfl)
      have e63 : ac.eval (.tmp 63) = .bool b2 := hP 13 (by kernel_rfl)
      have e57 : ac.eval (.tmp 57) = .bool true := hP 7 (by kernel_rfl)
      exact rop_bin _ _ _ _ _ rfl e60 e63 (guard_boolS _ _ _ _ _ _ w') (eql_bool_same _ w') (wanted_of (j := 7) (b := true) rfl rfl e57) (hK _ _ (le8_refl _) rfl)
    · intro ac w' hF hL hP hU K hK
      have hB := below_undrew hL
      have e57 : ac.eval (.tmp 57) = .bool true := hP 7 (by kernel_rfl)
      have e64 : ac.eval (.tmp 64) = .bool true := hP 14 (by kernel_rfl)
      exact rop_pick _ _ _ rfl true e57 (by simpa using e64) (wanted_none rfl) (hK _ _ (le8_refl _) rfl)
    · intro ac w' hF hL hP hU K hK
      have hB := below_undrew hL
      have e65 : ac.eval (.tmp 65) = .bool true := hP 15 (by kernel_rfl)
      exact rop_assign _ rfl e65 (wanted_none rfl) (hK _ _ (le8_refl _) rfl)
    · intro ac w' hF hB hT
      have e11 : ac.eval (.tmp 11) = .bool true := hT 16 (by decide)
      rw [hF.setsG [50, 51, 52, 53, 54, 55, 56, 57, 58, 59, 60, 61, 62, 63, 64, 65, 11] (by kernel_rfl)]
      simp only [List.foldl_cons, List.foldl_nil, List.setIfInBounds_toArray, List.set_cons_succ, List.set_cons_zero, e11]
      generalize ac.eval (.tmp 50) = u50
      generalize ac.eval (.tmp 51) = u51
      generalize ac.eval (.tmp 52) = u52
      generalize ac.eval (.tmp 53) = u53
      generalize ac.eval (.tmp 54) = u54
      generalize ac.eval (.tmp 55) = u55
      generalize ac.eval (.tmp 56) = u56
      generalize ac.eval (.tmp 57) = u57
      generalize ac.eval (.tmp 58) = u58
      generalize ac.eval (.tmp 59) = u59
      generalize ac.eval (.tmp 60) = u60
      generalize ac.eval (.tmp 61) = u61
      generalize ac.eval (.tmp 62) = u62
      generalize ac.eval (.tmp 63) = u63
      generalize ac.eval (.tmp 64) = u64
      generalize ac.eval (.tmp 65) = u65
      clear e11 hT hF ac
      replace HBh := Blk.old HBh hB (Blk.lt HBh)
      replace HBt := Blk.old HBt hB (Blk.lt HBt)
      replace HXA := Blk.old HXA hB (Blk.lt HXA)
      replace HXB := Blk.old HXB hB (Blk.lt HXB)
      replace hb := below_step hb (Nat.le_refl _) hB
      clear hB HK6
      clear HP1 HQ1 HP2 HQ2
      obtain ⟨U7, hU⟩ : ∃ U, U = w' := ⟨_, rfl⟩
      subst hU
      have HK7 : Hid (KT U7) := Lib.hid (HKA.out.old hb)
      go_upto_region 7 with fail
      try simp only [Act.put]
      refine wp_region_tab [RT.is (.string S), RT.is (.agg (hdCs GA).toArray), RT.is (.bool b3), RT.is (.string S), RT.is (.agg (hdCs GA).toArray), RT.is (.bool b3), RT.is (.bool true), RT.is (.bool true), RT.is (.string S), RT.is (.agg (stCs GB).toArray), RT.is (.bool b4), RT.is (.string S), RT.is (.agg (stCs GB).toArray), RT.is (.bool b4), RT.is (.bool true), RT.is (.bool true), RT.is (.bool true)] (by kernel_rfl) (by kernel_rfl) (by kernel_rfl) (by kernel_rfl) ⟨?_, ?_, ?_, ?_, ?_, ?_, ?_, ?_, ?_, ?_, ?_, ?_, ?_, ?_, ?_, ?_, ?_, trivial⟩ ?_
      · intro ac w' hF hL hP hU K hK
        have hB := below_undrew hL
        have e0 : ac.eval (.tmp 0) = .string S := hF.at 0 (by kernel_rfl)
        exact rop_move _ rfl e0 (wanted_none rfl) (hK _ _ (le8_refl _) rfl)
      · intro ac w' hF hL hP hU K hK
        have hB := below_undrew hL
        have e8 : ac.eval (.tmp 8) = .pointer (some ⟨xHXA, 0, none⟩) := hF.at 8 (by kernel_rfl)
        exact rop_ld _ _ rfl e8 (load_hdAt (below_range' hB (Blk.lt HXA) (Blk.all HXA)) OKA.out.root OKA.out.mac) (wanted_none rfl) (hK _ _ (le8_refl _) rfl)
      · intro ac w' hF hL hP hU K hK
        have hB := below_undrew hL
        have e66 : ac.eval (.tmp 66) = .string S := hP 0 (by kernel_rfl)
        have e67 : ac.eval (.tmp 67) = .agg (hdCs GA).toArray := hP 1 (by kernel_rfl)
        refine rop_call 29 _ _ rfl #[.string S, .agg (hdCs GA).toArray] (by simp [e66, e67]) (by kernel_rfl) (wanted_none rfl) ?_
        refine (HP3.out w' (HK7.out.old hB)).mono ?_
        rintro e w2 ⟨rfl, hb⟩
        exact ⟨_, rfl, hK _ _ hb rfl⟩
      · intro ac w' hF hL hP hU K hK
        have hB := below_undrew hL
        have e0 : ac.eval (.tmp 0) = .string S := hF.at 0 (by kernel_rfl)
        exact rop_move _ rfl e0 (wanted_none rfl) (hK _ _ (le8_refl _) rfl)
      · intro ac w' hF hL hP hU K hK
        have hB := below_undrew hL
        have e8 : ac.eval (.tmp 8) = .pointer (some ⟨xHXA, 0, none⟩) := hF.at 8 (by kernel_rfl)
        exact rop_ld _ _ rfl e8 (load_hdAt (below_range' hB (Blk.lt HXA) (Blk.all HXA)) OKA.out.root OKA.out.mac) (wanted_none rfl) (hK _ _ (le8_refl _) rfl)
      · intro ac w' hF hL hP hU K hK
        have hB := below_undrew hL
        have e69 : ac.eval (.tmp 69) = .string S := hP 3 (by kernel_rfl)
        have e70 : ac.eval (.tmp 70) = .agg (hdCs GA).toArray := hP 4 (by kernel_rfl)
        refine rop_call 30 _ _ rfl #[.string S, .agg (hdCs GA).toArray] (by simp [e69, e70]) (by kernel_rfl) (wanted_none rfl) ?_
        refine (HQ3.out w').mono ?_
        rintro e w2 ⟨rfl, hb⟩
        exact ⟨_, rfl, hK _ _ hb rfl⟩
      · intro ac w' hF hL hP hU K hK
        have hB := below_undrew hL
        have e68 : ac.eval (.tmp 68) = .bool b3 := hP 2 (by kernel_rfl)
        have e71 : ac.eval (.tmp 71) = .bool b3 := hP 5 (by kernel_rfl)
        exact rop_bin _ _ _ _ _ rfl e68 e71 (guard_boolS _ _ _ _ _ _ w') (eql_bool_same _ w') (wanted_none rfl) (hK _ _ (le8_refl _) rfl)
      · intro ac w' hF hL hP hU K hK
        have hB := below_undrew hL
        have e72 : ac.eval (.tmp 72) = .bool true := hP 6 (by kernel_rfl)
        exact rop_move _ rfl e72 (wanted_none rfl) (hK _ _ (le8_refl _) rfl)
      · intro ac w' hF hL hP hU K hK
        have hB := below_undrew hL
        have e0 : ac.eval (.tmp 0) = .string S := hF.at 0 (by kernel_rfl)
        have e73 : ac.eval (.tmp 73) = .bool true := hP 7 (by kernel_rfl)
        exact rop_move _ rfl e0 (wanted_of (j := 7) (b := true) rfl rfl e73) (hK _ _ (le8_refl _) rfl)
      · intro ac w' hF hL hP hU K hK
        have hB := below_undrew hL
        have e9 : ac.eval (.tmp 9) = .pointer (some ⟨xHXB, 0, none⟩) := hF.at 9 (by kernel_rfl)
        have e73 : ac.eval (.tmp 73) = .bool true := hP 7 (by kernel_rfl)
        exact rop_ld _ _ rfl e9 (load_stAt (below_range' hB (Blk.lt HXB) (Blk.all HXB)) OKB.out.fz.root OKB.out.mac) (wanted_of (j := 7) (b := true) rfl rfl e73) (hK _ _ (le8_refl _) rfl)
      · intro ac w' hF hL hP hU K hK
        have hB := below_undrew hL
        have e74 : ac.eval (.tmp 74) = .string S := hP 8 (by kernel_rfl)
        have e75 : ac.eval (.tmp 75) = .agg (stCs GB).toArray := hP 9 (by kernel_rfl)
        have e73 : ac.eval (.tmp 73) = .bool true := hP 7 (by kernel_rfl)
        refine rop_call 31 _ _ rfl #[.string S, .agg (stCs GB).toArray] (by simp [e74, e75]) (by kernel_rfl) (wanted_of (j := 7) (b := true) rfl rfl e73) ?_
        refine (HP4.out w' (HK7.out.old hB)).mono ?_
        rintro e w2 ⟨rfl, hb⟩
        exact ⟨_, rfl, hK _ _ hb rfl⟩
      · intro ac w' hF hL hP hU K hK
        have hB := below_undrew hL
        have e0 : ac.eval (.tmp 0) = .string S := hF.at 0 (by kernel_rfl)
        have e73 : ac.eval (.tmp 73) = .bool true := hP 7 (by kernel_rfl)
        exact rop_move _ rfl e0 (wanted_of (j := 7) (b := true) rfl rfl e73) (hK _ _ (le8_refl _) rfl)
      · intro ac w' hF hL hP hU K hK
        have hB := below_undrew hL
        have e9 : ac.eval (.tmp 9) = .pointer (some ⟨xHXB, 0, none⟩) := hF.at 9 (by kernel_rfl)
        have e73 : ac.eval (.tmp 73) = .bool true := hP 7 (by kernel_rfl)
        exact rop_ld _ _ rfl e9 (load_stAt (below_range' hB (Blk.lt HXB) (Blk.all HXB)) OKB.out.fz.root OKB.out.mac) (wanted_of (j := 7) (b := true) rfl rfl e73) (hK _ _ (le8_refl _) rfl)
      · intro ac w' hF hL hP hU K hK
        have hB := below_undrew hL
        have e77 : ac.eval (.tmp 77) = .string S := hP 11 (by kernel_rfl)
        have e78 : ac.eval (.tmp 78) = .agg (stCs GB).toArray := hP 12 (by kernel_rfl)
        have e73 : ac.eval (.tmp 73) = .bool true := hP 7 (by kernel_rfl)
        refine rop_call 32 _ _ rfl #[.string S, .agg (stCs GB).toArray] (by simp [e77, e78]) (by kernel_rfl) (wanted_of (j := 7) (b := true) rfl rfl e73) ?_
        refine (HQ4.out w').mono ?_
        rintro e w2 ⟨rfl, hb⟩
        exact ⟨_, rfl, hK _ _ hb rfl⟩
      · intro ac w' hF hL hP hU K hK
        have hB := below_undrew hL
        have e76 : ac.eval (.tmp 76) = .bool b4 := hP 10 (by kernel_rfl)
        have e79 : ac.eval (.tmp 79) = .bool b4 := hP 13 (by kernel_rfl)
        have e73 : ac.eval (.tmp 73) = .bool true := hP 7 (by kernel_rfl)
        exact rop_bin _ _ _ _ _ rfl e76 e79 (guard_boolS _ _ _ _ _ _ w') (eql_bool_same _ w') (wanted_of (j := 7) (b := true) rfl rfl e73) (hK _ _ (le8_refl _) rfl)
      · intro ac w' hF hL hP hU K hK
        have hB := below_undrew hL
        have e73 : ac.eval (.tmp 73) = .bool true := hP 7 (by kernel_rfl)
        have e80 : ac.eval (.tmp 80) = .bool true := hP 14 (by kernel_rfl)
        exact rop_pick _ _ _ rfl true e73 (by simpa using e80) (wanted_none rfl) (hK _ _ (le8_refl _) rfl)
      · intro ac w' hF hL hP hU K hK
        have hB := below_undrew hL
        have e81 : ac.eval (.tmp 81) = .bool true := hP 15 (by kernel_rfl)
        exact rop_assign _ rfl e81 (wanted_none rfl) (hK _ _ (le8_refl _) rfl)
      · intro ac w' hF hB hT
        have e12 : ac.eval (.tmp 12) = .bool true := hT 16 (by decide)
        rw [hF.setsG [66, 67, 68, 69, 70, 71, 72, 73, 74, 75, 76, 77, 78, 79, 80, 81, 12] (by kernel_rfl)]
        simp only [List.foldl_cons, List.foldl_nil, List.setIfInBounds_toArray, List.set_cons_succ, List.set_cons_zero, e12]
        generalize ac.eval (.tmp 66) = u66
        generalize ac.eval (.tmp 67) = u67
        generalize ac.eval (.tmp 68) = u68
        generalize ac.eval (.tmp 69) = u69
        generalize ac.eval (.tmp 70) = u70
        generalize ac.eval (.tmp 71) = u71
        generalize ac.eval (.tmp 72) = u72
        generalize ac.eval (.tmp 73) = u73
        generalize ac.eval (.tmp 74) = u74
        generalize ac.eval (.tmp 75) = u75
        generalize ac.eval (.tmp 76) = u76
        generalize ac.eval (.tmp 77) = u77
        generalize ac.eval (.tmp 78) = u78
        generalize ac.eval (.tmp 79) = u79
        generalize ac.eval (.tmp 80) = u80
        generalize ac.eval (.tmp 81) = u81
        clear e12 hT hF ac
        replace HBh := Blk.old HBh hB (Blk.lt HBh)
        replace HBt := Blk.old HBt hB (Blk.lt HBt)
        replace HXA := Blk.old HXA hB (Blk.lt HXA)
        replace HXB := Blk.old HXB hB (Blk.lt HXB)
        replace hb := below_step hb (Nat.le_refl _) hB
        clear hB HK7
        clear HP3 HQ3 HP4 HQ4
        go_upto_region 8 with fail
        try simp only [Act.put]
        refine wp_region_tab0 [RT.is (.bool true), RT.is (.bool true), RT.is (.bool true), RT.is (.bool true), RT.is (.bool true), RT.is (.bool true), RT.is (.bool true), RT.is (.bool true), RT.is (.bool true), RT.is (.bool true), RT.is (.bool true)] (by kernel_rfl) (by kernel_rfl) (by kernel_rfl) ⟨?_, ?_, ?_, ?_, ?_, ?_, ?_, ?_, ?_, ?_, ?_, trivial⟩ ?_
        · intro ac w' hF hL hP hU K hK
          have hB : Below _ _ _ := hL
          have e7 : ac.eval (.tmp 7) = .bool true := hF.at 7 (by kernel_rfl)
          exact rop_move _ rfl e7 (wanted_none rfl) (hK _ _ (le8_refl _) rfl)
        · intro ac w' hF hL hP hU K hK
          have hB : Below _ _ _ := hL
          have e82 : ac.eval (.tmp 82) = .bool true := hP 0 (by kernel_rfl)
          exact rop_move _ rfl e82 (wanted_none rfl) (hK _ _ (le8_refl _) rfl)
        · intro ac w' hF hL hP hU K hK
          have hB : Below _ _ _ := hL
          have e10 : ac.eval (.tmp 10) = .bool true := hF.at 10 (by kernel_rfl)
          have e83 : ac.eval (.tmp 83) = .bool true := hP 1 (by kernel_rfl)
          exact rop_move _ rfl e10 (wanted_of (j := 1) (b := true) rfl rfl e83) (hK _ _ (le8_refl _) rfl)
        · intro ac w' hF hL hP hU K hK
          have hB : Below _ _ _ := hL
          have e83 : ac.eval (.tmp 83) = .bool true := hP 1 (by kernel_rfl)
          have e84 : ac.eval (.tmp 84) = .bool true := hP 2 (by kernel_rfl)
          exact rop_pick _ _ _ rfl true e83 (by simpa using e84) (wanted_none rfl) (hK _ _ (le8_refl _) rfl)
        · intro ac w' hF hL hP hU K hK
          have hB : Below _ _ _ := hL
          have e85 : ac.eval (.tmp 85) = .bool true := hP 3 (by kernel_rfl)
          exact rop_move _ rfl e85 (wanted_none rfl) (hK _ _ (le8_refl _) rfl)
        · intro ac w' hF hL hP hU K hK
          have hB : Below _ _ _ := hL
          have e11 : ac.eval (.tmp 11) = .bool true := hF.at 11 (by kernel_rfl)
          have e86 : ac.eval (.tmp 86) = .bool true := hP 4 (by kernel_rfl)
          exact rop_move _ rfl e11 (wanted_of (j := 4) (b := true) rfl rfl e86) (hK _ _ (le8_refl _) rfl)
        · intro ac w' hF hL hP hU K hK
          have hB : Below _ _ _ := hL
          have e86 : ac.eval (.tmp 86) = .bool true := hP 4 (by kernel_rfl)
          have e87 : ac.eval (.tmp 87) = .bool true := hP 5 (by kernel_rfl)
          exact rop_pick _ _ _ rfl true e86 (by simpa using e87) (wanted_none rfl) (hK _ _ (le8_refl _) rfl)
        · intro ac w' hF hL hP hU K hK
          have hB : Below _ _ _ := hL
          have e88 : ac.eval (.tmp 88) = .bool true := hP 6 (by kernel_rfl)
          exact rop_move _ rfl e88 (wanted_none rfl) (hK _ _ (le8_refl _) rfl)
        · intro ac w' hF hL hP hU K hK
          have hB : Below _ _ _ := hL
          have e12 : ac.eval (.tmp 12) = .bool true := hF.at 12 (by kernel_rfl)
          have e89 : ac.eval (.tmp 89) = .bool true := hP 7 (by kernel_rfl)
          exact rop_move _ rfl e12 (wanted_of (j := 7) (b := true) rfl rfl e89) (hK _ _ (le8_refl _) rfl)
        · intro ac w' hF hL hP hU K hK
          have hB : Below _ _ _ := hL
          have e89 : ac.eval (.tmp 89) = .bool true := hP 7 (by kernel_rfl)
          have e90 : ac.eval (.tmp 90) = .bool true := hP 8 (by kernel_rfl)
          exact rop_pick _ _ _ rfl true e89 (by simpa using e90) (wanted_none rfl) (hK _ _ (le8_refl _) rfl)
        · intro ac w' hF hL hP hU K hK
          have hB : Below _ _ _ := hL
          have e91 : ac.eval (.tmp 91) = .bool true := hP 9 (by kernel_rfl)
          exact rop_assign _ rfl e91 (wanted_none rfl) (hK _ _ (le8_refl _) rfl)
        · intro ac w' hF hB hT
          have e6 : ac.eval (.tmp 6) = .bool true := hT 10 (by decide)
          rw [hF.setsG [82, 83, 84, 85, 86, 87, 88, 89, 90, 91, 6] (by kernel_rfl)]
          simp only [List.foldl_cons, List.foldl_nil, List.setIfInBounds_toArray, List.set_cons_succ, List.set_cons_zero, e6]
          generalize ac.eval (.tmp 82) = u82
          generalize ac.eval (.tmp 83) = u83
          generalize ac.eval (.tmp 84) = u84
          generalize ac.eval (.tmp 85) = u85
          generalize ac.eval (.tmp 86) = u86
          generalize ac.eval (.tmp 87) = u87
          generalize ac.eval (.tmp 88) = u88
          generalize ac.eval (.tmp 89) = u89
          generalize ac.eval (.tmp 90) = u90
          generalize ac.eval (.tmp 91) = u91
          clear e6 hT hF ac
          have hbw := below_step hb (Nat.le_refl _) hB
          clear hB
          go_wp2
          go_ret
          exact ⟨rfl, hbw⟩
set_option maxRecDepth 100000 in
theorem lifted (os : Os) (started : os.Started) (H : Type) (enc : TypeId × Value → H) :
    ReturnsInHanded {} Tryd.checked os 5 .any (fun w args => (Rows.sealSignsSpec.pre enc Tryd.prog Tryd.f5 [] false w args ∧ laidMetH Tryd.prog [("scrinium/sha.k", Rows.laid_scrinium_sha_k)] w) ∧ sizedMet enc Tryd.prog Tryd.f5 (OpenSpec.ofChange Rows.sealSignsSpec) false w args)
      (Rows.sealSignsSpec.post enc Tryd.prog Tryd.f5 false true false false) := by
  refine returnsInHanded_of_change_and (C := Tryd.checked) (X := fun w _ => laidMetH Tryd.prog [("scrinium/sha.k", Rows.laid_scrinium_sha_k)] w) (fun _ _ _ hh h => h.of_heap hh) lawOwn started (by kernel_rfl) Tryd.func5
    (ChangeSpec.witness_shaped (enc := enc) (C := Tryd.checked) (os := os) (X := fun w _ => laidMetH Tryd.prog [("scrinium/sha.k", Rows.laid_scrinium_sha_k)] w) false (World.doorLaid Tryd.prog 400 os) #[.string .empty, .agg (hdCs hd0).toArray, .agg (stCs st0).toArray] 8 rfl (World.shaped_of_RefB (by kernel_rfl) (by kernel_rfl)) (by kernel_rfl) (by kernel_rfl) (by kernel_rfl) (door_met os _)) ?_
  intro W base args ds gs before hval0 hW _ _ hL _
  have hval : ∀ (j : Nat) t v, Tryd.f5.params[j]? = some t → args[j]? = some v → Value.okWide Tryd.prog W .any base t v := hval0
  have hW' := hW
  obtain ⟨p, q, hA0, hV, rfl, hfz, hnd⟩ := hW
  have hA : DataW.TrodAll enc Tryd.prog W 0 (fun _ => true) true Tryd.f5.params.toList args.toList ds p := hA0
  rw [Tryd.params5] at hA hval
  obtain ⟨v0, vs0, d0, ds0, p0, q0, hargs, rfl, rfl, h0, r0⟩ := trodAll_cons hA
  obtain ⟨v1, vs1, d1, ds1, p1, q1, rfl, rfl, rfl, h1, r1⟩ := trodAll_cons r0
  obtain ⟨v2, vs2, d2, ds2, p2, q2, rfl, rfl, rfl, h2, r2⟩ := trodAll_cons r1
  obtain ⟨rfl, rfl, rfl⟩ := trodAll_nil r2
  obtain rfl : args = #[v0, v1, v2] := by cases args; simp_all
  obtain ⟨rfl, rfl⟩ := trodVars_none hV
  have hKT := KT_of_laid hL
  obtain ⟨s0, rfl, rfl, rfl, w0⟩ := Go.ChangeMaps.open_string Tryd.underlying9 (hval 0 9 v0 rfl rfl) h0
  obtain ⟨f1, rfl, w1⟩ := hd_arg (hval 1 27 v1 rfl rfl) h1
  obtain ⟨f2, rfl, w2⟩ := st_arg (hval 2 29 v2 rfl rfl) h2
  clear hA0 hval0
  refine (walk (w := W) hKT s0 w0 f1 w1 f2 w2).mono fun e W' ⟨he, bel⟩ => ?_
  subst he
  exact ⟨_, rfl, law_post rfl rfl (by kernel_rfl) hW' rfl bel⟩

theorem row_holds : Rows.SealSignsSaid :=
  OpenClaim.holds_of_wide 5 Tryd.f5 rfl rfl rfl rfl rfl rfl rfl ⟨rfl, rfl, rfl, rfl, rfl⟩ rfl rfl rfl rfl rfl (by kernel_rfl) Tryd.func5 (by kernel_rfl)
    (of_decide_eq_true (by kernel_rfl)) (by unfold Func.isWrapper; first | (rw [if_pos (by decide +kernel)]; kernel_rfl) | (rw [if_neg (by decide +kernel)]; exact ⟨rfl, rfl⟩))
    (fun os started H enc _ => lifted os started H enc)

theorem holds : Rows.SealSignsCardSaid :=
  Claim7.holds_tied_plain_at .later [] [.data] true Rows.sealSignsCard.stood.harness false
    row_holds (fun _ h => by cases h) (by kernel_rfl) (fun _ h => by cases h) sealSigns_row_tie rfl ⟨rfl, rfl⟩ (by kernel_rfl) rfl
    (fun f fn hf hfn => by
      obtain rfl : f = 5 := Option.some.inj ((show Tryd.prog.funcNamed "scrinium/scriniumlaw16.SealSigns" = some 5 by kernel_rfl).symm.trans hf) |>.symm
      obtain rfl : fn = Tryd.f5 := (Option.some.inj (Tryd.func5.symm.trans hfn)).symm
      exact ⟨by kernel_rfl, fun j t ht => by
        rw [Tryd.params5] at ht
        have hm : t ∈ [9, 27, 29] := by simpa using Array.mem_of_getElem? ht
        have hall : ([9, 27, 29].all fun u => !Tryd.prog.wantsStandIn u) = true := by kernel_rfl
        exact (show Tryd.prog.wantsStandIn t = false by simpa using List.all_eq_true.1 hall t hm)⟩)
    (by kernel_rfl)
end Go.Proofs.YtlcljjapeigaeaaDoor.sealSigns

theorem Go.Proofs.YtlcljjapeigaeaaDoor.sealSigns_holds : Go.Proofs.YtlcljjapeigaeaaDoor.Rows.SealSignsCardSaid := Go.Proofs.YtlcljjapeigaeaaDoor.sealSigns.holds
#print axioms Go.Proofs.YtlcljjapeigaeaaDoor.sealSigns_holds
