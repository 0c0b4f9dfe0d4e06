/-
  SealReads: any bytes are read as the freeze, head or stone that they are, or refused, as the document says. For every text (of a longer one the first 300 bytes); the numbers K of the package sha are as the program's own start lays them.
-/
import Derived.Test.YtlcljjapeigaeaaDoorSelLaw
namespace Go.Proofs.YtlcljjapeigaeaaDoor.sealReads
open Go.ChangeShapes Go.WideShapes Go.ChangeAt Go.RowKit

set_option maxHeartbeats 12800000 in
set_option maxRecDepth 100000 in
theorem walk {w : World} (hK : KT w) (s : ByteArray) (_hs : s.size ≤ maxLen) :
    Calls Tryd.prog 4 #[.string s] w fun e w' => e = .returned (.bool true) ∧ Below w.heap.size w w' := by
  have HAW := Lib.hid (awake16_any w hK)
  have HSH := Lib.hid fun u => short16_any s 300 300 rfl u
  have hl := shortB_size s 300
  obtain ⟨S, hS⟩ : ∃ S, S = shortB s 300 := ⟨_, rfl⟩
  rw [← hS] at hl HSH
  clear hS _hs hK
  obtain ⟨Gfz, hGfz⟩ : ∃ G, G = (fzRd S.data.toList).getD fz0 := ⟨_, rfl⟩
  obtain ⟨Zfz, hZfz⟩ : ∃ Z, Z = rdZ (fzRd S.data.toList) := ⟨_, rfl⟩
  have HPfz : Hid (∀ u : World, Calls Tryd.prog 18 #[.string S] u fun e w' => e = .returned (.tuple #[.agg (fzCs Gfz).toArray, .int .i64 Zfz]) ∧ Below u.heap.size u w') := Lib.hid fun u => by rw [hGfz, hZfz]; exact fzRead_any S u (by omega)
  have HQfz : Hid (∀ u : World, Calls Tryd.prog 22 #[.string S] u fun e w' => e = .returned (.tuple #[.agg (fzCs Gfz).toArray, .int .i64 Zfz]) ∧ Below u.heap.size u w') := Lib.hid fun u => by
    rw [hGfz, hZfz, ← fz_same]; exact rfzRead_any S u (by omega)
  have hokfz : FzOk Gfz := by rw [hGfz]; exact fzRd_ok _
  have HAfz : Hid ((fzCs Gfz).toArray.size = 34) := Lib.hid (by rw [List.size_toArray]; exact fzCs_length hokfz.root)
  have HOKfz := Lib.hid hokfz
  clear hGfz hZfz hokfz
  obtain ⟨Ghd, hGhd⟩ : ∃ G, G = (hdRd S.data.toList).getD hd0 := ⟨_, rfl⟩
  obtain ⟨Zhd, hZhd⟩ : ∃ Z, Z = rdZ (hdRd S.data.toList) := ⟨_, rfl⟩
  have HPhd : Hid (∀ u : World, Calls Tryd.prog 19 #[.string S] u fun e w' => e = .returned (.tuple #[.agg (hdCs Ghd).toArray, .int .i64 Zhd]) ∧ Below u.heap.size u w') := Lib.hid fun u => by rw [hGhd, hZhd]; exact hdRead_any S u (by omega)
  have HQhd : Hid (∀ u : World, Calls Tryd.prog 23 #[.string S] u fun e w' => e = .returned (.tuple #[.agg (hdCs Ghd).toArray, .int .i64 Zhd]) ∧ Below u.heap.size u w') := Lib.hid fun u => by
    rw [hGhd, hZhd, ← hd_same]; exact rhdRead_any S u (by omega)
  have hokhd : HdOk Ghd := by rw [hGhd]; exact hdRd_ok _
  have HAhd : Hid ((hdCs Ghd).toArray.size = 66) := Lib.hid (by rw [List.size_toArray]; exact hdCs_length hokhd.root hokhd.mac)
  have HOKhd := Lib.hid hokhd
  clear hGhd hZhd hokhd
  obtain ⟨Gst, hGst⟩ : ∃ G, G = (stRd S.data.toList).getD st0 := ⟨_, rfl⟩
  obtain ⟨Zst, hZst⟩ : ∃ Z, Z = rdZ (stRd S.data.toList) := ⟨_, rfl⟩
  have HPst : Hid (∀ u : World, Calls Tryd.prog 20 #[.string S] u fun e w' => e = .returned (.tuple #[.agg (stCs Gst).toArray, .int .i64 Zst]) ∧ Below u.heap.size u w') := Lib.hid fun u => by rw [hGst, hZst]; exact stRead_any S u (by omega)
  have HQst : Hid (∀ u : World, Calls Tryd.prog 24 #[.string S] u fun e w' => e = .returned (.tuple #[.agg (stCs Gst).toArray, .int .i64 Zst]) ∧ Below u.heap.size u w') := Lib.hid fun u => by
    rw [hGst, hZst, ← st_same]; exact rstRead_any S u (by omega)
  have hokst : StOk Gst := by rw [hGst]; exact stRd_ok _
  have HAst : Hid ((stCs Gst).toArray.size = 67) := Lib.hid (by rw [List.size_toArray]; exact stCs_length hokst.fz.root hokst.mac)
  have HOKst := Lib.hid hokst
  clear hGst hZst hokst
  have HIfz : Hid ((Tryd.prog.info? 25).map (·.size) = some 34) := Lib.hid (size_of info_fz)
  have HZfz : Hid ((fzCs fz0).length = 34) := Lib.hid rfl
  have HIhd : Hid ((Tryd.prog.info? 27).map (·.size) = some 66) := Lib.hid (size_of info_hd)
  have HZhd : Hid ((hdCs hd0).length = 66) := Lib.hid rfl
  have HIst : Hid ((Tryd.prog.info? 29).map (·.size) = some 67) := Lib.hid (size_of info_st)
  have HZst : Hid ((stCs st0).length = 67) := Lib.hid rfl
  clear hl
  have hb : Below w.heap.size w w := Below.refl _ _
  go_enter Tryd.func4, Tryd.ntmps4
  go_upto_region 2 with (go_at_call 9; (refine HAW.out.mono ?_; rintro e w0 ⟨rfl, b0⟩))
  replace hb := below_step hb (Nat.le_refl _) b0
  clear b0 HAW
  go_upto_region 3 with (go_at_call 21; (refine (HSH.out _).mono ?_; rintro e w00 ⟨rfl, rfl⟩))
  clear HSH
  go_upto_region 4 with (first
    | (go_at_call 18; (refine (HPfz.out _).mono ?_; rintro e w1 ⟨rfl, b1⟩))
    | refine wpList_store_mid (w := w1.alloc (.cells (fzCs fz0).toArray 25)) rfl 25 (.tmp 4) (.tmp 22) rfl w1.heap.size 0 (fzCs Gfz).toArray rfl rfl (by rw [HAfz.out]; exact Blk.there (Blk.alloc w1 25 (fzCs fz0)) (by rw [HZfz.out]; decide)) (by rw [HAfz.out]; exact HIfz.out) one_cells ?_)
  obtain ⟨xHfza, hxHfza⟩ : ∃ x, x = w1.heap.size := ⟨_, rfl⟩
  obtain ⟨V1, hV1⟩ : ∃ u, u = (w1.alloc (.cells (fzCs fz0).toArray 25)).setCells w1.heap.size 0 (fzCs Gfz) := ⟨_, rfl⟩
  change Code.wp _ _ _ _ ((w1.alloc (.cells (fzCs fz0).toArray 25)).setCells w1.heap.size 0 (fzCs Gfz))
  rw [← hV1, ← hxHfza]
  have c1 : Below w1.heap.size w1 V1 := by rw [hV1]; exact below_setCells (Nat.le_refl _) _ _ _ (below_boxS _ _)
  have Hfza : Blk xHfza 25 (fzCs Gfz) V1 := by rw [hV1, hxHfza]; exact Blk.setAll (Blk.alloc w1 25 (fzCs fz0)) (by rw [HZfz.out, ← List.size_toArray]; exact HAfz.out)
  replace hb := below_step (below_step hb (Nat.le_refl _) b1) (Nat.le_refl _) c1
  clear hV1 hxHfza b1 c1
  go_upto_region 5 with (first
    | (go_at_call 22; (refine (HQfz.out _).mono ?_; rintro e w2 ⟨rfl, b2⟩))
    | refine wpList_store_mid (w := w2.alloc (.cells (fzCs fz0).toArray 25)) rfl 25 (.tmp 6) (.tmp 27) rfl w2.heap.size 0 (fzCs Gfz).toArray rfl rfl (by rw [HAfz.out]; exact Blk.there (Blk.alloc w2 25 (fzCs fz0)) (by rw [HZfz.out]; decide)) (by rw [HAfz.out]; exact HIfz.out) one_cells ?_)
  obtain ⟨xHfzb, hxHfzb⟩ : ∃ x, x = w2.heap.size := ⟨_, rfl⟩
  obtain ⟨V2, hV2⟩ : ∃ u, u = (w2.alloc (.cells (fzCs fz0).toArray 25)).setCells w2.heap.size 0 (fzCs Gfz) := ⟨_, rfl⟩
  change Code.wp _ _ _ _ ((w2.alloc (.cells (fzCs fz0).toArray 25)).setCells w2.heap.size 0 (fzCs Gfz))
  rw [← hV2, ← hxHfzb]
  have c2 : Below w2.heap.size w2 V2 := by rw [hV2]; exact below_setCells (Nat.le_refl _) _ _ _ (below_boxS _ _)
  have Hfzb : Blk xHfzb 25 (fzCs Gfz) V2 := by rw [hV2, hxHfzb]; exact Blk.setAll (Blk.alloc w2 25 (fzCs fz0)) (by rw [HZfz.out, ← List.size_toArray]; exact HAfz.out)
  replace Hfza := Blk.old Hfza b2 (Blk.lt Hfza)
  replace Hfza := Blk.old Hfza c2 (Blk.lt Hfza)
  replace hb := below_step (below_step hb (Nat.le_refl _) b2) (Nat.le_refl _) c2
  clear hV2 hxHfzb b2 c2
  go_upto_region 6 with (first
    | (go_at_call 19; (refine (HPhd.out _).mono ?_; rintro e w3 ⟨rfl, b3⟩))
    | refine wpList_store_mid (w := w3.alloc (.cells (hdCs hd0).toArray 27)) rfl 27 (.tmp 8) (.tmp 32) rfl w3.heap.size 0 (hdCs Ghd).toArray rfl rfl (by rw [HAhd.out]; exact Blk.there (Blk.alloc w3 27 (hdCs hd0)) (by rw [HZhd.out]; decide)) (by rw [HAhd.out]; exact HIhd.out) one_hd ?_)
  obtain ⟨xHhda, hxHhda⟩ : ∃ x, x = w3.heap.size := ⟨_, rfl⟩
  obtain ⟨V3, hV3⟩ : ∃ u, u = (w3.alloc (.cells (hdCs hd0).toArray 27)).setCells w3.heap.size 0 (hdCs Ghd) := ⟨_, rfl⟩
  change Code.wp _ _ _ _ ((w3.alloc (.cells (hdCs hd0).toArray 27)).setCells w3.heap.size 0 (hdCs Ghd))
  rw [← hV3, ← hxHhda]
  have c3 : Below w3.heap.size w3 V3 := by rw [hV3]; exact below_setCells (Nat.le_refl _) _ _ _ (below_boxS _ _)
  have Hhda : Blk xHhda 27 (hdCs Ghd) V3 := by rw [hV3, hxHhda]; exact Blk.setAll (Blk.alloc w3 27 (hdCs hd0)) (by rw [HZhd.out, ← List.size_toArray]; exact HAhd.out)
  replace Hfza := Blk.old Hfza b3 (Blk.lt Hfza)
  replace Hfzb := Blk.old Hfzb b3 (Blk.lt Hfzb)
  replace Hfza := Blk.old Hfza c3 (Blk.lt Hfza)
  replace Hfzb := Blk.old Hfzb c3 (Blk.lt Hfzb)
  replace hb := below_step (below_step hb (Nat.le_refl _) b3) (Nat.le_refl _) c3
  clear hV3 hxHhda b3 c3
  go_upto_region 7 with (first
    | (go_at_call 23; (refine (HQhd.out _).mono ?_; rintro e w4 ⟨rfl, b4⟩))
    | refine wpList_store_mid (w := w4.alloc (.cells (hdCs hd0).toArray 27)) rfl 27 (.tmp 10) (.tmp 37) rfl w4.heap.size 0 (hdCs Ghd).toArray rfl rfl (by rw [HAhd.out]; exact Blk.there (Blk.alloc w4 27 (hdCs hd0)) (by rw [HZhd.out]; decide)) (by rw [HAhd.out]; exact HIhd.out) one_hd ?_)
  obtain ⟨xHhdb, hxHhdb⟩ : ∃ x, x = w4.heap.size := ⟨_, rfl⟩
  obtain ⟨V4, hV4⟩ : ∃ u, u = (w4.alloc (.cells (hdCs hd0).toArray 27)).setCells w4.heap.size 0 (hdCs Ghd) := ⟨_, rfl⟩
  change Code.wp _ _ _ _ ((w4.alloc (.cells (hdCs hd0).toArray 27)).setCells w4.heap.size 0 (hdCs Ghd))
  rw [← hV4, ← hxHhdb]
  have c4 : Below w4.heap.size w4 V4 := by rw [hV4]; exact below_setCells (Nat.le_refl _) _ _ _ (below_boxS _ _)
  have Hhdb : Blk xHhdb 27 (hdCs Ghd) V4 := by rw [hV4, hxHhdb]; exact Blk.setAll (Blk.alloc w4 27 (hdCs hd0)) (by rw [HZhd.out, ← List.size_toArray]; exact HAhd.out)
  replace Hfza := Blk.old Hfza b4 (Blk.lt Hfza)
  replace Hfzb := Blk.old Hfzb b4 (Blk.lt Hfzb)
  replace Hhda := Blk.old Hhda b4 (Blk.lt Hhda)
  replace Hfza := Blk.old Hfza c4 (Blk.lt Hfza)
  replace Hfzb := Blk.old Hfzb c4 (Blk.lt Hfzb)
  replace Hhda := Blk.old Hhda c4 (Blk.lt Hhda)
  replace hb := below_step (below_step hb (Nat.le_refl _) b4) (Nat.le_refl _) c4
  clear hV4 hxHhdb b4 c4
  go_upto_region 8 with (first
    | (go_at_call 20; (refine (HPst.out _).mono ?_; rintro e w5 ⟨rfl, b5⟩))
    | refine wpList_store_mid (w := w5.alloc (.cells (stCs st0).toArray 29)) rfl 29 (.tmp 12) (.tmp 42) rfl w5.heap.size 0 (stCs Gst).toArray rfl rfl (by rw [HAst.out]; exact Blk.there (Blk.alloc w5 29 (stCs st0)) (by rw [HZst.out]; decide)) (by rw [HAst.out]; exact HIst.out) one_st ?_)
  obtain ⟨xHsta, hxHsta⟩ : ∃ x, x = w5.heap.size := ⟨_, rfl⟩
  obtain ⟨V5, hV5⟩ : ∃ u, u = (w5.alloc (.cells (stCs st0).toArray 29)).setCells w5.heap.size 0 (stCs Gst) := ⟨_, rfl⟩
  change Code.wp _ _ _ _ ((w5.alloc (.cells (stCs st0).toArray 29)).setCells w5.heap.size 0 (stCs Gst))
  rw [← hV5, ← hxHsta]
  have c5 : Below w5.heap.size w5 V5 := by rw [hV5]; exact below_setCells (Nat.le_refl _) _ _ _ (below_boxS _ _)
  have Hsta : Blk xHsta 29 (stCs Gst) V5 := by rw [hV5, hxHsta]; exact Blk.setAll (Blk.alloc w5 29 (stCs st0)) (by rw [HZst.out, ← List.size_toArray]; exact HAst.out)
  replace Hfza := Blk.old Hfza b5 (Blk.lt Hfza)
  replace Hfzb := Blk.old Hfzb b5 (Blk.lt Hfzb)
  replace Hhda := Blk.old Hhda b5 (Blk.lt Hhda)
  replace Hhdb := Blk.old Hhdb b5 (Blk.lt Hhdb)
  replace Hfza := Blk.old Hfza c5 (Blk.lt Hfza)
  replace Hfzb := Blk.old Hfzb c5 (Blk.lt Hfzb)
  replace Hhda := Blk.old Hhda c5 (Blk.lt Hhda)
  replace Hhdb := Blk.old Hhdb c5 (Blk.lt Hhdb)
  replace hb := below_step (below_step hb (Nat.le_refl _) b5) (Nat.le_refl _) c5
  clear hV5 hxHsta b5 c5
  go_upto_region 9 with (first
    | (go_at_call 24; (refine (HQst.out _).mono ?_; rintro e w6 ⟨rfl, b6⟩))
    | refine wpList_store_mid (w := w6.alloc (.cells (stCs st0).toArray 29)) rfl 29 (.tmp 14) (.tmp 47) rfl w6.heap.size 0 (stCs Gst).toArray rfl rfl (by rw [HAst.out]; exact Blk.there (Blk.alloc w6 29 (stCs st0)) (by rw [HZst.out]; decide)) (by rw [HAst.out]; exact HIst.out) one_st ?_)
  obtain ⟨xHstb, hxHstb⟩ : ∃ x, x = w6.heap.size := ⟨_, rfl⟩
  obtain ⟨V6, hV6⟩ : ∃ u, u = (w6.alloc (.cells (stCs st0).toArray 29)).setCells w6.heap.size 0 (stCs Gst) := ⟨_, rfl⟩
  change Code.wp _ _ _ _ ((w6.alloc (.cells (stCs st0).toArray 29)).setCells w6.heap.size 0 (stCs Gst))
  rw [← hV6, ← hxHstb]
  have c6 : Below w6.heap.size w6 V6 := by rw [hV6]; exact below_setCells (Nat.le_refl _) _ _ _ (below_boxS _ _)
  have Hstb : Blk xHstb 29 (stCs Gst) V6 := by rw [hV6, hxHstb]; exact Blk.setAll (Blk.alloc w6 29 (stCs st0)) (by rw [HZst.out, ← List.size_toArray]; exact HAst.out)
  replace Hfza := Blk.old Hfza b6 (Blk.lt Hfza)
  replace Hfzb := Blk.old Hfzb b6 (Blk.lt Hfzb)
  replace Hhda := Blk.old Hhda b6 (Blk.lt Hhda)
  replace Hhdb := Blk.old Hhdb b6 (Blk.lt Hhdb)
  replace Hsta := Blk.old Hsta b6 (Blk.lt Hsta)
  replace Hfza := Blk.old Hfza c6 (Blk.lt Hfza)
  replace Hfzb := Blk.old Hfzb c6 (Blk.lt Hfzb)
  replace Hhda := Blk.old Hhda c6 (Blk.lt Hhda)
  replace Hhdb := Blk.old Hhdb c6 (Blk.lt Hhdb)
  replace Hsta := Blk.old Hsta c6 (Blk.lt Hsta)
  replace hb := below_step (below_step hb (Nat.le_refl _) b6) (Nat.le_refl _) c6
  clear hV6 hxHstb b6 c6
  try simp only [Act.put]
  refine wp_region_tab0 [RT.is (.bool true), RT.is (.bool true), RT.is (.agg (fzCs Gfz).toArray), RT.is (.agg (fzCs Gfz).toArray), RT.is (.bool true), RT.is (.bool true), RT.is (.bool true), RT.is (.int .i64 Zfz), RT.is (.int .i64 Zfz), RT.is (.bool true), RT.is (.bool true), RT.is (.bool true), RT.is (.agg (hdCs Ghd).toArray), RT.is (.agg (hdCs Ghd).toArray), RT.is (.bool true), RT.is (.bool true), RT.is (.bool true), RT.is (.int .i64 Zhd), RT.is (.int .i64 Zhd), RT.is (.bool true), RT.is (.bool true), RT.is (.bool true), RT.is (.agg (stCs Gst).toArray), RT.is (.agg (stCs Gst).toArray), RT.is (.bool true), RT.is (.bool true), RT.is (.bool true), RT.is (.int .i64 Zst), RT.is (.int .i64 Zst), RT.is (.bool true), RT.is (.bool true), RT.is (.bool true)] (by kernel_rfl) (by kernel_rfl) (by kernel_rfl) ⟨?_, ?_, ?_, ?_, ?_, ?_, ?_, ?_, ?_, ?_, ?_, ?_, ?_, ?_, ?_, ?_, ?_, ?_, ?_, ?_, ?_, ?_, ?_, ?_, ?_, ?_, ?_, ?_, ?_, ?_, ?_, ?_, trivial⟩ ?_
  · intro ac w' hF hL hP hU K hK
    have hB : Below _ _ _ := hL
    have e3 : ac.eval (.tmp 3) = .bool true := hF.at 3 (by kernel_rfl)
    exact rop_move _ rfl e3 (wanted_none rfl) (hK _ _ (le8_refl _) rfl)
  · intro ac w' hF hL hP hU K hK
    have hB : Below _ _ _ := hL
    have e49 : ac.eval (.tmp 49) = .bool true := hP 0 (by kernel_rfl)
    exact rop_move _ rfl e49 (wanted_none rfl) (hK _ _ (le8_refl _) rfl)
  · intro ac w' hF hL hP hU K hK
    have hB : Below _ _ _ := hL
    have e4 : ac.eval (.tmp 4) = .pointer (some ⟨xHfza, 0, none⟩) := hF.at 4 (by kernel_rfl)
    have e50 : ac.eval (.tmp 50) = .bool true := hP 1 (by kernel_rfl)
    exact rop_ld _ _ rfl e4 (load_fzAt (below_range' hB (Blk.lt Hfza) (Blk.all Hfza)) HOKfz.out.root) (wanted_of (j := 1) (b := true) rfl rfl e50) (hK _ _ (le8_refl _) rfl)
  · intro ac w' hF hL hP hU K hK
    have hB : Below _ _ _ := hL
    have e6 : ac.eval (.tmp 6) = .pointer (some ⟨xHfzb, 0, none⟩) := hF.at 6 (by kernel_rfl)
    have e50 : ac.eval (.tmp 50) = .bool true := hP 1 (by kernel_rfl)
    exact rop_ld _ _ rfl e6 (load_fzAt (below_range' hB (Blk.lt Hfzb) (Blk.all Hfzb)) HOKfz.out.root) (wanted_of (j := 1) (b := true) rfl rfl e50) (hK _ _ (le8_refl _) rfl)
  · intro ac w' hF hL hP hU K hK
    have hB : Below _ _ _ := hL
    have e51 : ac.eval (.tmp 51) = .agg (fzCs Gfz).toArray := hP 2 (by kernel_rfl)
    have e52 : ac.eval (.tmp 52) = .agg (fzCs Gfz).toArray := hP 3 (by kernel_rfl)
    have e50 : ac.eval (.tmp 50) = .bool true := hP 1 (by kernel_rfl)
    exact rop_bin _ _ _ _ _ rfl e51 e52 (guard_fz .eql _ _ _ _ w') (eql_fz_t Gfz HOKfz.out w') (wanted_of (j := 1) (b := true) rfl rfl e50) (hK _ _ (le8_refl _) rfl)
  · intro ac w' hF hL hP hU K hK
    have hB : Below _ _ _ := hL
    have e50 : ac.eval (.tmp 50) = .bool true := hP 1 (by kernel_rfl)
    have e53 : ac.eval (.tmp 53) = .bool true := hP 4 (by kernel_rfl)
    exact rop_pick _ _ _ rfl true e50 (by simpa using e53) (wanted_none rfl) (hK _ _ (le8_refl _) rfl)
  · intro ac w' hF hL hP hU K hK
    have hB : Below _ _ _ := hL
    have e54 : ac.eval (.tmp 54) = .bool true := hP 5 (by kernel_rfl)
    exact rop_move _ rfl e54 (wanted_none rfl) (hK _ _ (le8_refl _) rfl)
  · intro ac w' hF hL hP hU K hK
    have hB : Below _ _ _ := hL
    have e5 : ac.eval (.tmp 5) = .int .i64 Zfz := hF.at 5 (by kernel_rfl)
    have e55 : ac.eval (.tmp 55) = .bool true := hP 6 (by kernel_rfl)
    exact rop_move _ rfl e5 (wanted_of (j := 6) (b := true) rfl rfl e55) (hK _ _ (le8_refl _) rfl)
  · intro ac w' hF hL hP hU K hK
    have hB : Below _ _ _ := hL
    have e7 : ac.eval (.tmp 7) = .int .i64 Zfz := hF.at 7 (by kernel_rfl)
    have e55 : ac.eval (.tmp 55) = .bool true := hP 6 (by kernel_rfl)
    exact rop_move _ rfl e7 (wanted_of (j := 6) (b := true) rfl rfl e55) (hK _ _ (le8_refl _) rfl)
  · intro ac w' hF hL hP hU K hK
    have hB : Below _ _ _ := hL
    have e56 : ac.eval (.tmp 56) = .int .i64 Zfz := hP 7 (by kernel_rfl)
    have e57 : ac.eval (.tmp 57) = .int .i64 Zfz := hP 8 (by kernel_rfl)
    have e55 : ac.eval (.tmp 55) = .bool true := hP 6 (by kernel_rfl)
    exact rop_bin _ _ _ _ _ rfl e56 e57 (guard_int _ _ _ _ _ _ _ w') (eql_err_t _ w') (wanted_of (j := 6) (b := true) rfl rfl e55) (hK _ _ (le8_refl _) rfl)
  · intro ac w' hF hL hP hU K hK
    have hB : Below _ _ _ := hL
    have e55 : ac.eval (.tmp 55) = .bool true := hP 6 (by kernel_rfl)
    have e58 : ac.eval (.tmp 58) = .bool true := hP 9 (by kernel_rfl)
    exact rop_pick _ _ _ rfl true e55 (by simpa using e58) (wanted_none rfl) (hK _ _ (le8_refl _) rfl)
  · intro ac w' hF hL hP hU K hK
    have hB : Below _ _ _ := hL
    have e59 : ac.eval (.tmp 59) = .bool true := hP 10 (by kernel_rfl)
    exact rop_move _ rfl e59 (wanted_none rfl) (hK _ _ (le8_refl _) rfl)
  · intro ac w' hF hL hP hU K hK
    have hB : Below _ _ _ := hL
    have e8 : ac.eval (.tmp 8) = .pointer (some ⟨xHhda, 0, none⟩) := hF.at 8 (by kernel_rfl)
    have e60 : ac.eval (.tmp 60) = .bool true := hP 11 (by kernel_rfl)
    exact rop_ld _ _ rfl e8 (load_hdAt (below_range' hB (Blk.lt Hhda) (Blk.all Hhda)) HOKhd.out.root HOKhd.out.mac) (wanted_of (j := 11) (b := true) rfl rfl e60) (hK _ _ (le8_refl _) rfl)
  · intro ac w' hF hL hP hU K hK
    have hB : Below _ _ _ := hL
    have e10 : ac.eval (.tmp 10) = .pointer (some ⟨xHhdb, 0, none⟩) := hF.at 10 (by kernel_rfl)
    have e60 : ac.eval (.tmp 60) = .bool true := hP 11 (by kernel_rfl)
    exact rop_ld _ _ rfl e10 (load_hdAt (below_range' hB (Blk.lt Hhdb) (Blk.all Hhdb)) HOKhd.out.root HOKhd.out.mac) (wanted_of (j := 11) (b := true) rfl rfl e60) (hK _ _ (le8_refl _) rfl)
  · intro ac w' hF hL hP hU K hK
    have hB : Below _ _ _ := hL
    have e61 : ac.eval (.tmp 61) = .agg (hdCs Ghd).toArray := hP 12 (by kernel_rfl)
    have e62 : ac.eval (.tmp 62) = .agg (hdCs Ghd).toArray := hP 13 (by kernel_rfl)
    have e60 : ac.eval (.tmp 60) = .bool true := hP 11 (by kernel_rfl)
    exact rop_bin _ _ _ _ _ rfl e61 e62 (guard_hd .eql _ _ _ _ w') (eql_hd_t Ghd HOKhd.out w') (wanted_of (j := 11) (b := true) rfl rfl e60) (hK _ _ (le8_refl _) rfl)
  · intro ac w' hF hL hP hU K hK
    have hB : Below _ _ _ := hL
    have e60 : ac.eval (.tmp 60) = .bool true := hP 11 (by kernel_rfl)
    have e63 : ac.eval (.tmp 63) = .bool true := hP 14 (by kernel_rfl)
    exact rop_pick _ _ _ rfl true e60 (by simpa using e63) (wanted_none rfl) (hK _ _ (le8_refl _) rfl)
  · intro ac w' hF hL hP hU K hK
    have hB : Below _ _ _ := hL
    have e64 : ac.eval (.tmp 64) = .bool true := hP 15 (by kernel_rfl)
    exact rop_move _ rfl e64 (wanted_none rfl) (hK _ _ (le8_refl _) rfl)
  · intro ac w' hF hL hP hU K hK
    have hB : Below _ _ _ := hL
    have e9 : ac.eval (.tmp 9) = .int .i64 Zhd := hF.at 9 (by kernel_rfl)
    have e65 : ac.eval (.tmp 65) = .bool true := hP 16 (by kernel_rfl)
    exact rop_move _ rfl e9 (wanted_of (j := 16) (b := true) rfl rfl e65) (hK _ _ (le8_refl _) rfl)
  · intro ac w' hF hL hP hU K hK
    have hB : Below _ _ _ := hL
    have e11 : ac.eval (.tmp 11) = .int .i64 Zhd := hF.at 11 (by kernel_rfl)
    have e65 : ac.eval (.tmp 65) = .bool true := hP 16 (by kernel_rfl)
    exact rop_move _ rfl e11 (wanted_of (j := 16) (b := true) rfl rfl e65) (hK _ _ (le8_refl _) rfl)
  · intro ac w' hF hL hP hU K hK
    have hB : Below _ _ _ := hL
    have e66 : ac.eval (.tmp 66) = .int .i64 Zhd := hP 17 (by kernel_rfl)
    have e67 : ac.eval (.tmp 67) = .int .i64 Zhd := hP 18 (by kernel_rfl)
    have e65 : ac.eval (.tmp 65) = .bool true := hP 16 (by kernel_rfl)
    exact rop_bin _ _ _ _ _ rfl e66 e67 (guard_int _ _ _ _ _ _ _ w') (eql_err_t _ w') (wanted_of (j := 16) (b := true) rfl rfl e65) (hK _ _ (le8_refl _) rfl)
  · intro ac w' hF hL hP hU K hK
    have hB : Below _ _ _ := hL
    have e65 : ac.eval (.tmp 65) = .bool true := hP 16 (by kernel_rfl)
    have e68 : ac.eval (.tmp 68) = .bool true := hP 19 (by kernel_rfl)
    exact rop_pick _ _ _ rfl true e65 (by simpa using e68) (wanted_none rfl) (hK _ _ (le8_refl _) rfl)
  · intro ac w' hF hL hP hU K hK
    have hB : Below _ _ _ := hL
    have e69 : ac.eval (.tmp 69) = .bool true := hP 20 (by kernel_rfl)
    exact rop_move _ rfl e69 (wanted_none rfl) (hK _ _ (le8_refl _) rfl)
  · intro ac w' hF hL hP hU K hK
    have hB : Below _ _ _ := hL
    have e12 : ac.eval (.tmp 12) = .pointer (some ⟨xHsta, 0, none⟩) := hF.at 12 (by kernel_rfl)
    have e70 : ac.eval (.tmp 70) = .bool true := hP 21 (by kernel_rfl)
    exact rop_ld _ _ rfl e12 (load_stAt (below_range' hB (Blk.lt Hsta) (Blk.all Hsta)) HOKst.out.fz.root HOKst.out.mac) (wanted_of (j := 21) (b := true) rfl rfl e70) (hK _ _ (le8_refl _) rfl)
  · intro ac w' hF hL hP hU K hK
    have hB : Below _ _ _ := hL
    have e14 : ac.eval (.tmp 14) = .pointer (some ⟨xHstb, 0, none⟩) := hF.at 14 (by kernel_rfl)
    have e70 : ac.eval (.tmp 70) = .bool true := hP 21 (by kernel_rfl)
    exact rop_ld _ _ rfl e14 (load_stAt (below_range' hB (Blk.lt Hstb) (Blk.all Hstb)) HOKst.out.fz.root HOKst.out.mac) (wanted_of (j := 21) (b := true) rfl rfl e70) (hK _ _ (le8_refl _) rfl)
  · intro ac w' hF hL hP hU K hK
    have hB : Below _ _ _ := hL
    have e71 : ac.eval (.tmp 71) = .agg (stCs Gst).toArray := hP 22 (by kernel_rfl)
    have e72 : ac.eval (.tmp 72) = .agg (stCs Gst).toArray := hP 23 (by kernel_rfl)
    have e70 : ac.eval (.tmp 70) = .bool true := hP 21 (by kernel_rfl)
    exact rop_bin _ _ _ _ _ rfl e71 e72 (guard_st .eql _ _ _ _ w') (eql_st_t Gst HOKst.out w') (wanted_of (j := 21) (b := true) rfl rfl e70) (hK _ _ (le8_refl _) rfl)
  · intro ac w' hF hL hP hU K hK
    have hB : Below _ _ _ := hL
    have e70 : ac.eval (.tmp 70) = .bool true := hP 21 (by kernel_rfl)
    have e73 : ac.eval (.tmp 73) = .bool true := hP 24 (by kernel_rfl)
    exact rop_pick _ _ _ rfl true e70 (by simpa using e73) (wanted_none rfl) (hK _ _ (le8_refl _) rfl)
  · intro ac w' hF hL hP hU K hK
    have hB : Below _ _ _ := hL
    have e74 : ac.eval (.tmp 74) = .bool true := hP 25 (by kernel_rfl)
    exact rop_move _ rfl e74 (wanted_none rfl) (hK _ _ (le8_refl _) rfl)
  · intro ac w' hF hL hP hU K hK
    have hB : Below _ _ _ := hL
    have e13 : ac.eval (.tmp 13) = .int .i64 Zst := hF.at 13 (by kernel_rfl)
    have e75 : ac.eval (.tmp 75) = .bool true := hP 26 (by kernel_rfl)
    exact rop_move _ rfl e13 (wanted_of (j := 26) (b := true) rfl rfl e75) (hK _ _ (le8_refl _) rfl)
  · intro ac w' hF hL hP hU K hK
    have hB : Below _ _ _ := hL
    have e15 : ac.eval (.tmp 15) = .int .i64 Zst := hF.at 15 (by kernel_rfl)
    have e75 : ac.eval (.tmp 75) = .bool true := hP 26 (by kernel_rfl)
    exact rop_move _ rfl e15 (wanted_of (j := 26) (b := true) rfl rfl e75) (hK _ _ (le8_refl _) rfl)
  · intro ac w' hF hL hP hU K hK
    have hB : Below _ _ _ := hL
    have e76 : ac.eval (.tmp 76) = .int .i64 Zst := hP 27 (by kernel_rfl)
    have e77 : ac.eval (.tmp 77) = .int .i64 Zst := hP 28 (by kernel_rfl)
    have e75 : ac.eval (.tmp 75) = .bool true := hP 26 (by kernel_rfl)
    exact rop_bin _ _ _ _ _ rfl e76 e77 (guard_int _ _ _ _ _ _ _ w') (eql_err_t _ w') (wanted_of (j := 26) (b := true) rfl rfl e75) (hK _ _ (le8_refl _) rfl)
  · intro ac w' hF hL hP hU K hK
    have hB : Below _ _ _ := hL
    have e75 : ac.eval (.tmp 75) = .bool true := hP 26 (by kernel_rfl)
    have e78 : ac.eval (.tmp 78) = .bool true := hP 29 (by kernel_rfl)
    exact rop_pick _ _ _ rfl true e75 (by simpa using e78) (wanted_none rfl) (hK _ _ (le8_refl _) rfl)
  · intro ac w' hF hL hP hU K hK
    have hB : Below _ _ _ := hL
    have e79 : ac.eval (.tmp 79) = .bool true := hP 30 (by kernel_rfl)
    exact rop_assign _ rfl e79 (wanted_none rfl) (hK _ _ (le8_refl _) rfl)
  · intro ac w' hF hB hT
    have e2 : ac.eval (.tmp 2) = .bool true := hT 31 (by decide)
    rw [hF.setsG [49, 50, 51, 52, 53, 54, 55, 56, 57, 58, 59, 60, 61, 62, 63, 64, 65, 66, 67, 68, 69, 70, 71, 72, 73, 74, 75, 76, 77, 78, 79, 2] (by kernel_rfl)]
    simp only [List.foldl_cons, List.foldl_nil, List.setIfInBounds_toArray, List.set_cons_succ, List.set_cons_zero, e2]
    generalize ac.eval (.tmp 49) = u49
    generalize ac.eval (.tmp 50) = u50
    generalize ac.eval (.tmp 51) = u51
    generalize ac.eval (.tmp 52) = u52
    generalize ac.eval (.tmp 53) = u53
    generalize ac.eval (.tmp 54) = u54
    generalize ac.eval (.tmp 55) = u55
    generalize ac.eval (.tmp 56) = u56
    generalize ac.eval (.tmp 57) = u57
    generalize ac.eval (.tmp 58) = u58
    generalize ac.eval (.tmp 59) = u59
    generalize ac.eval (.tmp 60) = u60
    generalize ac.eval (.tmp 61) = u61
    generalize ac.eval (.tmp 62) = u62
    generalize ac.eval (.tmp 63) = u63
    generalize ac.eval (.tmp 64) = u64
    generalize ac.eval (.tmp 65) = u65
    generalize ac.eval (.tmp 66) = u66
    generalize ac.eval (.tmp 67) = u67
    generalize ac.eval (.tmp 68) = u68
    generalize ac.eval (.tmp 69) = u69
    generalize ac.eval (.tmp 70) = u70
    generalize ac.eval (.tmp 71) = u71
    generalize ac.eval (.tmp 72) = u72
    generalize ac.eval (.tmp 73) = u73
    generalize ac.eval (.tmp 74) = u74
    generalize ac.eval (.tmp 75) = u75
    generalize ac.eval (.tmp 76) = u76
    generalize ac.eval (.tmp 77) = u77
    generalize ac.eval (.tmp 78) = u78
    generalize ac.eval (.tmp 79) = u79
    clear e2 hT hF ac
    have hbw := below_step hb (Nat.le_refl _) hB
    clear hB
    go_wp2
    go_ret
    exact ⟨rfl, hbw⟩

set_option maxRecDepth 100000 in
theorem lifted (os : Os) (started : os.Started) (H : Type) (enc : TypeId × Value → H) :
    ReturnsInHanded {} Tryd.checked os 4 .any (fun w args => (Rows.sealReadsSpec.pre enc Tryd.prog Tryd.f4 [] false w args ∧ laidMetH Tryd.prog [("scrinium/sha.k", Rows.laid_scrinium_sha_k)] w) ∧ sizedMet enc Tryd.prog Tryd.f4 (OpenSpec.ofChange Rows.sealReadsSpec) false w args)
      (Rows.sealReadsSpec.post enc Tryd.prog Tryd.f4 false true false false) := by
  refine returnsInHanded_of_change_and (C := Tryd.checked) (X := fun w _ => laidMetH Tryd.prog [("scrinium/sha.k", Rows.laid_scrinium_sha_k)] w) (fun _ _ _ hh h => h.of_heap hh) lawOwn started (by kernel_rfl) Tryd.func4
    (ChangeSpec.witness_shaped (enc := enc) (C := Tryd.checked) (os := os) (X := fun w _ => laidMetH Tryd.prog [("scrinium/sha.k", Rows.laid_scrinium_sha_k)] w) false (World.doorLaid Tryd.prog 400 os) #[.string .empty] 8 rfl (World.shaped_of_RefB (by kernel_rfl) (by kernel_rfl)) (by kernel_rfl) (by kernel_rfl) (by kernel_rfl) (door_met os _)) ?_
  intro W base args ds gs before hval0 hW _ _ hL _
  have hval : ∀ (j : Nat) t v, Tryd.f4.params[j]? = some t → args[j]? = some v → Value.okWide Tryd.prog W .any base t v := hval0
  have hW' := hW
  obtain ⟨p, q, hA0, hV, rfl, hfz, hnd⟩ := hW
  have hA : DataW.TrodAll enc Tryd.prog W 0 (fun _ => true) true Tryd.f4.params.toList args.toList ds p := hA0
  rw [Tryd.params4] at hA hval
  obtain ⟨v0, vs0, d0, ds0, p0, q0, hargs, rfl, rfl, h0, r0⟩ := trodAll_cons hA
  obtain ⟨rfl, rfl, rfl⟩ := trodAll_nil r0
  obtain rfl : args = #[v0] := by cases args; simp_all
  obtain ⟨rfl, rfl⟩ := trodVars_none hV
  have hKT := KT_of_laid hL
  obtain ⟨s0, rfl, rfl, rfl, w0⟩ := Go.ChangeMaps.open_string Tryd.underlying9 (hval 0 9 v0 rfl rfl) h0
  clear hA0 hval0
  refine (walk (w := W) hKT s0 w0).mono fun e W' ⟨he, bel⟩ => ?_
  subst he
  exact ⟨_, rfl, law_post rfl rfl (by kernel_rfl) hW' rfl bel⟩

theorem row_holds : Rows.SealReadsSaid :=
  OpenClaim.holds_of_wide 4 Tryd.f4 rfl rfl rfl rfl rfl rfl rfl ⟨rfl, rfl, rfl, rfl, rfl⟩ rfl rfl rfl rfl rfl (by kernel_rfl) Tryd.func4 (by kernel_rfl)
    (of_decide_eq_true (by kernel_rfl)) (by unfold Func.isWrapper; first | (rw [if_pos (by decide +kernel)]; kernel_rfl) | (rw [if_neg (by decide +kernel)]; exact ⟨rfl, rfl⟩))
    (fun os started H enc _ => lifted os started H enc)

theorem holds : Rows.SealReadsCardSaid :=
  Claim7.holds_tied_plain_at .later [] [.data] true Rows.sealReadsCard.stood.harness false
    row_holds (fun _ h => by cases h) (by kernel_rfl) (fun _ h => by cases h) sealReads_row_tie rfl ⟨rfl, rfl⟩ (by kernel_rfl) rfl
    (fun f fn hf hfn => by
      obtain rfl : f = 4 := Option.some.inj ((show Tryd.prog.funcNamed "scrinium/scriniumlaw16.SealReads" = some 4 by kernel_rfl).symm.trans hf) |>.symm
      obtain rfl : fn = Tryd.f4 := (Option.some.inj (Tryd.func4.symm.trans hfn)).symm
      exact ⟨by kernel_rfl, fun j t ht => by
        rw [Tryd.params4] at ht
        have hm : t ∈ [9] := by simpa using Array.mem_of_getElem? ht
        have hall : ([9].all fun u => !Tryd.prog.wantsStandIn u) = true := by kernel_rfl
        exact (show Tryd.prog.wantsStandIn t = false by simpa using List.all_eq_true.1 hall t hm)⟩)
    (by kernel_rfl)
end Go.Proofs.YtlcljjapeigaeaaDoor.sealReads

theorem Go.Proofs.YtlcljjapeigaeaaDoor.sealReads_holds : Go.Proofs.YtlcljjapeigaeaaDoor.Rows.SealReadsCardSaid := Go.Proofs.YtlcljjapeigaeaaDoor.sealReads.holds
#print axioms Go.Proofs.YtlcljjapeigaeaaDoor.sealReads_holds
