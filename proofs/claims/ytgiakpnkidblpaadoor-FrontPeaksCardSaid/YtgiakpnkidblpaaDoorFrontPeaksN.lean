/-
  FrontPeaks, the numbers below nothing: there are as many peaks as the number of leaves has bits that are 1; of a power of two the one is the root. For every number (taken modulo 71), and every hash; the numbers K of the package sha are as the program's own start lays them.
-/
import Derived.Test.YtgiakpnkidblpaaDoorFrontAwake
namespace Go.Proofs.YtgiakpnkidblpaaDoor.frontPeaks
open Go.ChangeShapes Go.WideShapes Go.ChangeAt Go.RowKit

theorem place71 (a : Int) : ∃ r : Int, a.tmod 71 = r ∧ ∃ m : Nat, m < 71 ∧ ((r < 0 ∧ r = -(m : Int)) ∨ (¬ r < 0 ∧ r = (m : Int))) := by
  have h1 := Int.lt_tmod_of_pos a (show (0 : Int) < 71 by decide)
  have h2 := Int.tmod_lt_of_pos a (show (0 : Int) < 71 by decide)
  refine ⟨_, rfl, (a.tmod 71).natAbs, by omega, ?_⟩
  by_cases hr : a.tmod 71 < 0
  · exact .inl ⟨hr, by omega⟩
  · exact .inr ⟨hr, by omega⟩
theorem index_sums0 (va : Option Addr) (b off o vc : Nat) (hva : va = some ⟨b, off, none⟩) (h : 0 < o) (w : World) : (Instr.indexAt 22 (.slice va o vc) (.int .i64 0)).run Tryd.prog w = .ok (.pointer (some ⟨b, off + 0 * 32, none⟩)) w := by
  subst hva
  exact index_sums b off o vc 0 h w
theorem wrap64_natP (d : Nat) (h : d ≤ 1099511627776) : wrap64 (d : Int) = (d : Int) := by unfold wrap64; omega
set_option maxHeartbeats 8000000 in
set_option maxRecDepth 100000 in
theorem walkN {w : World} (hK : KT w) (a : Int) (_ : -9223372036854775808 ≤ a) (_ : a ≤ 9223372036854775807) (x : List UInt8) (hx : x.length = 32) (z : Int) (hzz : a.tmod 71 = z) (k : Nat) (hk : k < 71) (hzk : z < 0 ∧ z = -(k : Int)) :
    Calls Tryd.prog 6 #[.int .i64 a, sumV x] w fun e w' => e = .returned (.bool true) ∧ Below w.heap.size w w' := by
  unfold sumV
  obtain ⟨V, hV⟩ : ∃ V, V = w.alloc (.cells (x.map u8V).toArray 31) := ⟨_, rfl⟩
  obtain ⟨q, hq⟩ : ∃ q, q = w.heap.size := ⟨_, rfl⟩
  have b0 : Below w.heap.size w V := by rw [hV]; exact (Below.refl _ _).alloc (Nat.le_refl _) _
  have hz : V.heap[q]? = some (.cells (x.map u8V).toArray 31 (0, 0)) := by rw [hV, hq]; exact heap_alloc_last _ _
  have HAW := Lib.hid (awake11_any V (hK.old b0))
  have hpos : 0 < w.heap.size := hK.pos
  obtain ⟨l, hl⟩ : ∃ l, l = List.replicate k x := ⟨_, rfl⟩
  have hll : l.length = k := by rw [hl, List.length_replicate]
  have hli : ∀ i (h : i < l.length), l[i] = x := fun i h => by subst hl; exact List.getElem_replicate _
  have hlo : all32 l := by intro y hy; rw [hl] at hy; rw [List.eq_of_mem_replicate hy]; exact hx
  have Hll := Lib.hid hll
  have Hli := Lib.hid hli
  have Hlo := Lib.hid hlo
  have Hpos := Lib.hid hpos
  have HKW := Lib.hid hK
  have HX := Lib.hid hx
  have HZ := Lib.hid hz
  have B0 := Lib.hid b0
  have Hq := Lib.hid hq
  clear hl hll hli hlo hK hx hz b0 hq hpos
  go_enter Tryd.func6, Tryd.ntmps6
  go_upto_region 1 with (fail)
  change Code.wp _ _ _ _ (w.alloc (.cells (x.map u8V).toArray 31))
  rw [← hV, ← Hq.out]
  clear hV
  have hk9 := IntWalk.i64_in (k : Int) (by omega)
  obtain ⟨hz0, rfl⟩ := hzk
  (go_wp2_with (first
    | (go_at_call 9; ((with_reducible refine HAW.out.mono ?_); rintro e w1 ⟨rfl, b1⟩))
    | (go_at_call 11; refine (new_fp _ (Nat.lt_of_lt_of_le Hpos.out (Nat.le_trans B0.out.size b1.size))).mono ?_; rintro e w2 ⟨rfl, f2, d2⟩))
   obtain ⟨fb, hfb⟩ : ∃ fb, fb = w1.heap.size := ⟨_, rfl⟩
   rw [← hfb] at f2 d2 ⊢
   have hqf : q < fb := by rw [hfb]; exact Nat.lt_of_lt_of_le (Array.getElem?_eq_some_iff.1 HZ.out).1 b1.size
   have b2 : Below w.heap.size w w2 := (below_step B0.out (Nat.le_refl _) b1).trans (d2.mono (by rw [hfb]; exact Nat.le_trans B0.out.size b1.size))
   have z2 := (d2.block q hqf).trans ((b1.block q (Array.getElem?_eq_some_iff.1 HZ.out).1).trans HZ.out)
   have hwf : w.heap.size ≤ fb := by rw [← Hq.out]; omega
   have Hwf := Lib.hid hwf
   have Hqf := Lib.hid hqf
   have F2 : Hid (FP fb 0 (Tree.peaks (l.take 0)) w2) := Lib.hid f2
   have B2 := Lib.hid b2
   have Z2 := Lib.hid z2
   clear f2 d2 hqf b2 z2 hwf hfb b1 HAW
   go_loopw [8] (fun s8 wr => ∃ i : Nat, s8 = .int .i64 (i : Int) ∧ i ≤ k ∧ FP fb i (Tree.peaks (l.take i)) wr ∧ Below w.heap.size w wr ∧ wr.heap[q]? = some (.cells (x.map u8V).toArray 31 (0, 0))) (fun s8 _ => k - (intOf s8).toNat)
   case atStart => exact ⟨0, rfl, Nat.zero_le _, F2.out, B2.out, Z2.out⟩
   case round =>
     obtain ⟨i, rfl, hik, hf, hb, hzq⟩ := hrel
     have HF := Lib.hid hf
     have HB := Lib.hid hb
     have HZQ := Lib.hid hzq
     clear hf hb hzq
     by_cases hlt : i < k
     · have hlt' : (i : Int) < (k : Int) := by omega
       have hw1 := IntWalk.i64_in ((i : Int) + 1) (by omega)
       have hnx : Tree.addP i (Tree.peaks (l.take i)) x = Tree.peaks (l.take (i + 1)) := by
         have := addP_take l i (by rw [Hll.out]; exact hlt)
         rwa [Hli.out i (by rw [Hll.out]; exact hlt)] at this
       have HAD : Hid (Calls Tryd.prog 20 #[.pointer (some ⟨fb, 0, none⟩), .agg (x.map u8V).toArray] wr fun e w' => e = .returned (.int .i64 ((i + 1 : Nat) : Int)) ∧ FP fb (i + 1) (Tree.peaks (l.take (i + 1))) w' ∧ Only fb wr w') := Lib.hid (by
         rw [← hnx]
         exact add_fp fb i _ x wr HF.out (by omega) HX.out (HKW.out.old HB.out))
       clear hnx
       go_wp2_with (first
         | refine wpList_load_mid rfl 31 (.tmp 3) rfl q 0 rfl (x.map u8V) _ (range_of HZQ.out) Tryd.underlying31 rfl (sum_info' HX.out) ?_
         | (go_at_call 20; ((with_reducible refine HAD.out.mono ?_); rintro e w9 ⟨rfl, f9, o9⟩)))
       go_roundw
       case rel => exact ⟨i + 1, by go_num, by omega, f9, below_onlyF HB.out o9 Hwf.out (Nat.le_refl _), (o9.block q (Array.getElem?_eq_some_iff.1 HZQ.out).1 (by have := Hqf.out; omega)).trans HZQ.out⟩
       case measure => simp [intOf]; omega
     · have hi' : i = k := by omega
       subst hi'
       have hlt' : ¬ (i : Int) < (i : Int) := by omega
       obtain ⟨W, hW⟩ : ∃ W, W = wr := ⟨_, rfl⟩
       subst hW
       have HF2 : Hid (FP fb i (Tree.peaks l) W) := Lib.hid (by have := HF.out; rwa [List.take_of_length_le (by rw [Hll.out]; exact Nat.le_refl _)] at this)
       obtain ⟨P, hP⟩ : ∃ P, P = Tree.peaks l := ⟨_, rfl⟩
       rw [← hP] at HF2
       obtain ⟨o, ho⟩ : ∃ o, o = Tree.ones i := ⟨_, rfl⟩
       have hPl : P.length = o := by rw [HF2.out.len, ho]
       have Ho := Lib.hid ho
       have HPL := Lib.hid hPl
       clear hP ho hPl HF
       go_wp2
       go_loopw [9, 10] (fun s9 s10 wx => ∃ m c : Nat, s10 = .int .i64 (m : Int) ∧ s9 = .int .i64 (c : Int) ∧ c + Tree.ones m = o ∧ m ≤ i ∧ wx = W) (fun _ s10 _ => (intOf s10).toNat)
       case atStart => exact ⟨i, 0, rfl, rfl, by rw [Ho.out, Nat.zero_add], Nat.le_refl _, rfl⟩
       case round =>
         obtain ⟨m, c, rfl, rfl, hmo, hmn, hwx⟩ := hrel
         obtain rfl := hwx.symm
         by_cases hm0 : 0 < m
         · have hm0' : (0 : Int) < (m : Int) := by omega
           have hrem : (m : Int).tmod 2 = ((m % 2 : Nat) : Int) := by rw [Int.tmod_eq_emod_of_nonneg (by omega)]; omega
           have hquo : (m : Int).tdiv 2 = ((m / 2 : Nat) : Int) := by rw [Int.tdiv_eq_ediv_of_nonneg (by omega)]; omega
           obtain ⟨r, hr⟩ : ∃ r, r = m % 2 := ⟨_, rfl⟩
           obtain ⟨d, hd⟩ : ∃ d, d = m / 2 := ⟨_, rfl⟩
           rw [← hr] at hrem
           rw [← hd] at hquo
           have hst := Tree.ones_step m
           rw [← hr, ← hd] at hst
           have hdm : d < m := by rw [hd]; exact Nat.div_lt_self hm0 (by decide)
           have hkk : c + r + Tree.ones d = o := by rw [← hmo, hst, Nat.add_assoc]
           have ho40 : o ≤ 40 := by rw [← HPL.out]; exact HF2.out.len40
           have hcr : c + r ≤ 40 := by clear hst hmo hrem hquo hr hd; omega
           have hadd := IntWalk.i64_in ((c : Int) + (r : Int)) (by clear hst hmo hrem hquo hr hd hkk; omega)
           have hq3 := wrap64_natP d (by clear hst hmo hrem hquo hr hd hkk hadd; omega)
           have HKK := Lib.hid hkk
           clear hr hd hst hmo hkk
           go_wp2
           rw [hq3]
           exact ⟨⟨d, c + r, rfl, by congr 1, HKK.out, Nat.le_trans (Nat.le_of_lt hdm) hmn, trivial⟩, by simpa [intOf] using hdm⟩
         · have hm0' : ¬ (0 : Int) < (m : Int) := by omega
           have hco : c = o := by
             obtain rfl : m = 0 := by omega
             rw [Tree.ones_zero] at hmo
             omega
           subst hco
           have HPK : Hid (Calls Tryd.prog 14 #[.pointer (some ⟨fb, 0, none⟩)] W fun e w' => ∃ va vc, e = .returned (.slice va c vc) ∧ Sums w' (.slice va c vc) P ∧ Below W.heap.size W w') := Lib.hid ((peaks_fp fb i P W HF2.out).mono (by
             rintro e w' ⟨v', rfl, ho, hb⟩
             have hs := ho.sums
             obtain ⟨va, vc, rfl, -, -⟩ := hs.slice
             rw [HPL.out] at hs ⊢
             exact ⟨va, vc, rfl, hs, hb⟩))
           clear hmo hm0 hmn
           go_upto_region 18 with (go_at_call 14; ((with_reducible refine HPK.out.mono ?_); rintro e w4 ⟨va, vc, rfl, hs4, b4⟩))
           have F4 := Lib.hid (HF2.out.old b4)
           have BW := Lib.hid (below_step HB.out (Nat.le_refl _) b4)
           have HSZ : Hid (∀ u, Below w4.heap.size w4 u → Calls Tryd.prog 15 #[.pointer (some ⟨fb, 0, none⟩)] u fun e w' => e = .returned (.int .i64 (i : Int)) ∧ Below u.heap.size u w') := Lib.hid fun u hu => (size_fp fb i P u (F4.out.old hu)).mono fun e w' ⟨h1, h2⟩ => ⟨h1, h2 ▸ Below.refl _ _⟩
           by_cases h1 : c = 1
           · have ho1 : (c : Int) = 1 := by omega
             have hpo : 0 < c := by omega
             obtain ⟨p, hp⟩ : ∃ p, P = [p] := List.length_eq_one_iff.1 (by rw [HPL.out]; exact h1)
             have hpl : p.length = 32 := F4.out.ok p (by rw [hp]; simp)
             have hs5 := hs4
             obtain ⟨b, off, hva, hbl, -, hr⟩ := hs5.at 0 (by rw [HPL.out]; exact hpo)
             rw [show P[0]'(by rw [HPL.out]; exact hpo) = p by simp [hp]] at hr
             have HRT : Hid (∀ u, Below w4.heap.size w4 u → Calls Tryd.prog 16 #[.pointer (some ⟨fb, 0, none⟩)] u fun e w' => e = .returned (sumV p) ∧ Below u.heap.size u w') := Lib.hid fun u hu => by
               have := root_fp fb i P u (F4.out.old hu) (HKW.out.old (below_step BW.out (Nat.le_refl _) hu))
               rw [hp] at this
               exact this
             have HPl := Lib.hid hpl
             have HBl := Lib.hid hbl
             have HRp := Lib.hid hr
             clear h1 hp hpl hs4 hs5 hbl hr b4
             try simp only [Act.put]
             refine wp_region_tab [RT.is (.bool true), RT.is (.bool true), RT.is (.slice va c vc), RT.is (.int .i64 (c : Int)), RT.is (.int .i64 (c : Int)), RT.is (.bool true), RT.is (.bool true), RT.is (.bool true), RT.is (.int .i64 (c : Int)), RT.is (.bool false), RT.is (.bool false), RT.is (.slice va c vc), RT.is (.pointer (some ⟨b, off + 0 * 32, none⟩)), RT.is (sumV p), RT.is (.pointer (some ⟨fb, 0, none⟩)), RT.is (sumV p), RT.is (.bool true), RT.is (.bool true), RT.is (.bool true), RT.is (.bool true), RT.is (.pointer (some ⟨fb, 0, none⟩)), RT.is (.int .i64 (i : Int)), RT.is (.int .i64 (i : Int)), RT.is (.bool true), RT.is (.bool true), RT.is (.bool true)] (by kernel_rfl) (by kernel_rfl) (by kernel_rfl) (by kernel_rfl) ⟨?_, ?_, ?_, ?_, ?_, ?_, ?_, ?_, ?_, ?_, ?_, ?_, ?_, ?_, ?_, ?_, ?_, ?_, ?_, ?_, ?_, ?_, ?_, ?_, ?_, ?_, trivial⟩ ?_
             · intro ac w' hF hL hP hU K hK
               have hB := below_undrew hL
               have e5 : ac.eval (.tmp 5) = .bool true := hF.at 5 (by kernel_rfl)
               exact rop_move _ rfl e5 (wanted_none rfl) (hK _ _ (le8_refl _) rfl)
             · intro ac w' hF hL hP hU K hK
               have hB := below_undrew hL
               have e41 : ac.eval (.tmp 41) = .bool true := hP 0 (by kernel_rfl)
               exact rop_move _ rfl e41 (wanted_none rfl) (hK _ _ (le8_refl _) rfl)
             · intro ac w' hF hL hP hU K hK
               have hB := below_undrew hL
               have e11 : ac.eval (.tmp 11) = .slice va c vc := hF.at 11 (by kernel_rfl)
               have e42 : ac.eval (.tmp 42) = .bool true := hP 1 (by kernel_rfl)
               exact rop_move _ rfl e11 (wanted_of (j := 1) (b := true) rfl rfl e42) (hK _ _ (le8_refl _) rfl)
             · intro ac w' hF hL hP hU K hK
               have hB := below_undrew hL
               have e43 : ac.eval (.tmp 43) = .slice va c vc := hP 2 (by kernel_rfl)
               have e42 : ac.eval (.tmp 42) = .bool true := hP 1 (by kernel_rfl)
               exact rop_lenG _ Tryd.underlying22 rfl e43 (wanted_of (j := 1) (b := true) rfl rfl e42) (hK _ _ (le8_refl _) rfl)
             · intro ac w' hF hL hP hU K hK
               have hB := below_undrew hL
               have e9 : ac.eval (.tmp 9) = .int .i64 (c : Int) := hF.at 9 (by kernel_rfl)
               have e42 : ac.eval (.tmp 42) = .bool true := hP 1 (by kernel_rfl)
               exact rop_move _ rfl e9 (wanted_of (j := 1) (b := true) rfl rfl e42) (hK _ _ (le8_refl _) rfl)
             · intro ac w' hF hL hP hU K hK
               have hB := below_undrew hL
               have e44 : ac.eval (.tmp 44) = .int .i64 (c : Int) := hP 3 (by kernel_rfl)
               have e45 : ac.eval (.tmp 45) = .int .i64 (c : Int) := hP 4 (by kernel_rfl)
               have e42 : ac.eval (.tmp 42) = .bool true := hP 1 (by kernel_rfl)
               exact rop_bin _ _ _ _ _ rfl e44 e45 (guard_int _ _ _ _ _ _ _ w') (eql_iT _ w') (wanted_of (j := 1) (b := true) rfl rfl e42) (hK _ _ (le8_refl _) rfl)
             · intro ac w' hF hL hP hU K hK
               have hB := below_undrew hL
               have e42 : ac.eval (.tmp 42) = .bool true := hP 1 (by kernel_rfl)
               have e46 : ac.eval (.tmp 46) = .bool true := hP 5 (by kernel_rfl)
               exact rop_pick _ _ _ rfl true e42 (by simpa using e46) (wanted_none rfl) (hK _ _ (le8_refl _) rfl)
             · intro ac w' hF hL hP hU K hK
               have hB := below_undrew hL
               have e47 : ac.eval (.tmp 47) = .bool true := hP 6 (by kernel_rfl)
               exact rop_move _ rfl e47 (wanted_none rfl) (hK _ _ (le8_refl _) rfl)
             · intro ac w' hF hL hP hU K hK
               have hB := below_undrew hL
               have e9 : ac.eval (.tmp 9) = .int .i64 (c : Int) := hF.at 9 (by kernel_rfl)
               have e48 : ac.eval (.tmp 48) = .bool true := hP 7 (by kernel_rfl)
               exact rop_move _ rfl e9 (wanted_of (j := 7) (b := true) rfl rfl e48) (hK _ _ (le8_refl _) rfl)
             · intro ac w' hF hL hP hU K hK
               have hB := below_undrew hL
               have e49 : ac.eval (.tmp 49) = .int .i64 (c : Int) := hP 8 (by kernel_rfl)
               have e48 : ac.eval (.tmp 48) = .bool true := hP 7 (by kernel_rfl)
               exact rop_bin _ _ _ _ _ rfl e49 rfl (guard_int _ _ _ _ _ _ _ w') (neq_iT _ _ ho1 w') (wanted_of (j := 7) (b := true) rfl rfl e48) (hK _ _ (le8_refl _) rfl)
             · intro ac w' hF hL hP hU K hK
               have hB := below_undrew hL
               have e50 : ac.eval (.tmp 50) = .bool false := hP 9 (by kernel_rfl)
               have e48 : ac.eval (.tmp 48) = .bool true := hP 7 (by kernel_rfl)
               exact rop_move _ rfl e50 (wanted_of (j := 7) (b := true) rfl rfl e48) (hK _ _ (le8_refl _) rfl)
             · intro ac w' hF hL hP hU K hK
               have hB := below_undrew hL
               have e11 : ac.eval (.tmp 11) = .slice va c vc := hF.at 11 (by kernel_rfl)
               have e51 : ac.eval (.tmp 51) = .bool false := hP 10 (by kernel_rfl)
               exact rop_move _ rfl e11 (wanted_of (j := 10) (b := false) rfl rfl e51) (hK _ _ (le8_refl _) rfl)
             · intro ac w' hF hL hP hU K hK
               have hB := below_undrew hL
               have e52 : ac.eval (.tmp 52) = .slice va c vc := hP 11 (by kernel_rfl)
               have e51 : ac.eval (.tmp 51) = .bool false := hP 10 (by kernel_rfl)
               exact rop_idx _ _ _ rfl e52 rfl (index_sums0 va b off c vc hva hpo w') (wanted_of (j := 10) (b := false) rfl rfl e51) (hK _ _ (le8_refl _) rfl)
             · intro ac w' hF hL hP hU K hK
               have hB := below_undrew hL
               have e53 : ac.eval (.tmp 53) = .pointer (some ⟨b, off + 0 * 32, none⟩) := hP 12 (by kernel_rfl)
               have e51 : ac.eval (.tmp 51) = .bool false := hP 10 (by kernel_rfl)
               exact rop_ld _ _ rfl e53 (run_loadAt_mid _ _ _ _ _ _ (below_range hB HBl.out HRp.out) Tryd.underlying31 rfl (sum_info' HPl.out)) (wanted_of (j := 10) (b := false) rfl rfl e51) (hK _ _ (le8_refl _) rfl)
             · intro ac w' hF hL hP hU K hK
               have hB := below_undrew hL
               have e7 : ac.eval (.tmp 7) = .pointer (some ⟨fb, 0, none⟩) := hF.at 7 (by kernel_rfl)
               have e51 : ac.eval (.tmp 51) = .bool false := hP 10 (by kernel_rfl)
               exact rop_move _ rfl e7 (wanted_of (j := 10) (b := false) rfl rfl e51) (hK _ _ (le8_refl _) rfl)
             · intro ac w' hF hL hP hU K hK
               have hB := below_undrew hL
               have e55 : ac.eval (.tmp 55) = .pointer (some ⟨fb, 0, none⟩) := hP 14 (by kernel_rfl)
               have e51 : ac.eval (.tmp 51) = .bool false := hP 10 (by kernel_rfl)
               refine rop_call 16 _ _ rfl #[.pointer (some ⟨fb, 0, none⟩)] (by simp [e55]) (by kernel_rfl) (wanted_of (j := 10) (b := false) rfl rfl e51) ?_
               refine (HRT.out w' hB).mono ?_
               rintro e w2 ⟨rfl, hb⟩
               exact ⟨_, rfl, hK _ _ hb rfl⟩
             · intro ac w' hF hL hP hU K hK
               have hB := below_undrew hL
               have e54 : ac.eval (.tmp 54) = sumV p := hP 13 (by kernel_rfl)
               have e56 : ac.eval (.tmp 56) = sumV p := hP 15 (by kernel_rfl)
               have e51 : ac.eval (.tmp 51) = .bool false := hP 10 (by kernel_rfl)
               exact rop_bin _ _ _ _ _ rfl e54 e56 (guard_run .eql _ _ _ _ w') (eql_sum_tt p p HPl.out HPl.out rfl w') (wanted_of (j := 10) (b := false) rfl rfl e51) (hK _ _ (le8_refl _) rfl)
             · intro ac w' hF hL hP hU K hK
               have hB := below_undrew hL
               have e51 : ac.eval (.tmp 51) = .bool false := hP 10 (by kernel_rfl)
               have e57 : ac.eval (.tmp 57) = .bool true := hP 16 (by kernel_rfl)
               have e48 : ac.eval (.tmp 48) = .bool true := hP 7 (by kernel_rfl)
               exact rop_pick _ _ _ rfl false e51 (by simpa using e57) (wanted_of (j := 7) (b := true) rfl rfl e48) (hK _ _ (le8_refl _) rfl)
             · intro ac w' hF hL hP hU K hK
               have hB := below_undrew hL
               have e48 : ac.eval (.tmp 48) = .bool true := hP 7 (by kernel_rfl)
               have e58 : ac.eval (.tmp 58) = .bool true := hP 17 (by kernel_rfl)
               exact rop_pick _ _ _ rfl true e48 (by simpa using e58) (wanted_none rfl) (hK _ _ (le8_refl _) rfl)
             · intro ac w' hF hL hP hU K hK
               have hB := below_undrew hL
               have e59 : ac.eval (.tmp 59) = .bool true := hP 18 (by kernel_rfl)
               exact rop_move _ rfl e59 (wanted_none rfl) (hK _ _ (le8_refl _) rfl)
             · intro ac w' hF hL hP hU K hK
               have hB := below_undrew hL
               have e7 : ac.eval (.tmp 7) = .pointer (some ⟨fb, 0, none⟩) := hF.at 7 (by kernel_rfl)
               have e60 : ac.eval (.tmp 60) = .bool true := hP 19 (by kernel_rfl)
               exact rop_move _ rfl e7 (wanted_of (j := 19) (b := true) rfl rfl e60) (hK _ _ (le8_refl _) rfl)
             · intro ac w' hF hL hP hU K hK
               have hB := below_undrew hL
               have e61 : ac.eval (.tmp 61) = .pointer (some ⟨fb, 0, none⟩) := hP 20 (by kernel_rfl)
               have e60 : ac.eval (.tmp 60) = .bool true := hP 19 (by kernel_rfl)
               refine rop_call 15 _ _ rfl #[.pointer (some ⟨fb, 0, none⟩)] (by simp [e61]) (by kernel_rfl) (wanted_of (j := 19) (b := true) rfl rfl e60) ?_
               refine (HSZ.out w' hB).mono ?_
               rintro e w2 ⟨rfl, hb⟩
               exact ⟨_, rfl, hK _ _ hb rfl⟩
             · intro ac w' hF hL hP hU K hK
               have hB := below_undrew hL
               have e6 : ac.eval (.tmp 6) = .int .i64 (i : Int) := hF.at 6 (by kernel_rfl)
               have e60 : ac.eval (.tmp 60) = .bool true := hP 19 (by kernel_rfl)
               exact rop_move _ rfl e6 (wanted_of (j := 19) (b := true) rfl rfl e60) (hK _ _ (le8_refl _) rfl)
             · intro ac w' hF hL hP hU K hK
               have hB := below_undrew hL
               have e62 : ac.eval (.tmp 62) = .int .i64 (i : Int) := hP 21 (by kernel_rfl)
               have e63 : ac.eval (.tmp 63) = .int .i64 (i : Int) := hP 22 (by kernel_rfl)
               have e60 : ac.eval (.tmp 60) = .bool true := hP 19 (by kernel_rfl)
               exact rop_bin _ _ _ _ _ rfl e62 e63 (guard_int _ _ _ _ _ _ _ w') (eql_iT _ w') (wanted_of (j := 19) (b := true) rfl rfl e60) (hK _ _ (le8_refl _) rfl)
             · intro ac w' hF hL hP hU K hK
               have hB := below_undrew hL
               have e60 : ac.eval (.tmp 60) = .bool true := hP 19 (by kernel_rfl)
               have e64 : ac.eval (.tmp 64) = .bool true := hP 23 (by kernel_rfl)
               exact rop_pick _ _ _ rfl true e60 (by simpa using e64) (wanted_none rfl) (hK _ _ (le8_refl _) rfl)
             · intro ac w' hF hL hP hU K hK
               have hB := below_undrew hL
               have e65 : ac.eval (.tmp 65) = .bool true := hP 24 (by kernel_rfl)
               exact rop_assign _ rfl e65 (wanted_none rfl) (hK _ _ (le8_refl _) rfl)
             · intro ac w' hF hB hT
               have e4 : ac.eval (.tmp 4) = .bool true := hT 25 (by decide)
               rw [hF.setsG [41, 42, 43, 44, 45, 46, 47, 48, 49, 50, 51, 52, 53, 54, 55, 56, 57, 58, 59, 60, 61, 62, 63, 64, 65, 4] (by kernel_rfl)]
               simp only [List.foldl_cons, List.foldl_nil, List.setIfInBounds_toArray, List.set_cons_succ, List.set_cons_zero, e4]
               generalize ac.eval (.tmp 41) = u41
               generalize ac.eval (.tmp 42) = u42
               generalize ac.eval (.tmp 43) = u43
               generalize ac.eval (.tmp 44) = u44
               generalize ac.eval (.tmp 45) = u45
               generalize ac.eval (.tmp 46) = u46
               generalize ac.eval (.tmp 47) = u47
               generalize ac.eval (.tmp 48) = u48
               generalize ac.eval (.tmp 49) = u49
               generalize ac.eval (.tmp 50) = u50
               generalize ac.eval (.tmp 51) = u51
               generalize ac.eval (.tmp 52) = u52
               generalize ac.eval (.tmp 53) = u53
               generalize ac.eval (.tmp 54) = u54
               generalize ac.eval (.tmp 55) = u55
               generalize ac.eval (.tmp 56) = u56
               generalize ac.eval (.tmp 57) = u57
               generalize ac.eval (.tmp 58) = u58
               generalize ac.eval (.tmp 59) = u59
               generalize ac.eval (.tmp 60) = u60
               generalize ac.eval (.tmp 61) = u61
               generalize ac.eval (.tmp 62) = u62
               generalize ac.eval (.tmp 63) = u63
               generalize ac.eval (.tmp 64) = u64
               generalize ac.eval (.tmp 65) = u65
               clear e4 hT hF ac
               go_wp2
               go_ret
               exact ⟨rfl, below_step BW.out (Nat.le_refl _) hB⟩
           · have ho1 : ¬ (c : Int) = 1 := by omega
             clear h1 hs4 b4
             try simp only [Act.put]
             refine wp_region_tab [RT.is (.bool true), RT.is (.bool true), RT.is (.slice va c vc), RT.is (.int .i64 (c : Int)), RT.is (.int .i64 (c : Int)), RT.is (.bool true), RT.is (.bool true), RT.is (.bool true), RT.is (.int .i64 (c : Int)), RT.is (.bool true), RT.is (.bool true), RT.any, RT.any, RT.any, RT.any, RT.any, RT.any, RT.is (.bool true), RT.is (.bool true), RT.is (.bool true), RT.is (.pointer (some ⟨fb, 0, none⟩)), RT.is (.int .i64 (i : Int)), RT.is (.int .i64 (i : Int)), RT.is (.bool true), RT.is (.bool true), RT.is (.bool true)] (by kernel_rfl) (by kernel_rfl) (by kernel_rfl) (by kernel_rfl) ⟨?_, ?_, ?_, ?_, ?_, ?_, ?_, ?_, ?_, ?_, ?_, ?_, ?_, ?_, ?_, ?_, ?_, ?_, ?_, ?_, ?_, ?_, ?_, ?_, ?_, ?_, trivial⟩ ?_
             · intro ac w' hF hL hP hU K hK
               have hB := below_undrew hL
               have e5 : ac.eval (.tmp 5) = .bool true := hF.at 5 (by kernel_rfl)
               exact rop_move _ rfl e5 (wanted_none rfl) (hK _ _ (le8_refl _) rfl)
             · intro ac w' hF hL hP hU K hK
               have hB := below_undrew hL
               have e41 : ac.eval (.tmp 41) = .bool true := hP 0 (by kernel_rfl)
               exact rop_move _ rfl e41 (wanted_none rfl) (hK _ _ (le8_refl _) rfl)
             · intro ac w' hF hL hP hU K hK
               have hB := below_undrew hL
               have e11 : ac.eval (.tmp 11) = .slice va c vc := hF.at 11 (by kernel_rfl)
               have e42 : ac.eval (.tmp 42) = .bool true := hP 1 (by kernel_rfl)
               exact rop_move _ rfl e11 (wanted_of (j := 1) (b := true) rfl rfl e42) (hK _ _ (le8_refl _) rfl)
             · intro ac w' hF hL hP hU K hK
               have hB := below_undrew hL
               have e43 : ac.eval (.tmp 43) = .slice va c vc := hP 2 (by kernel_rfl)
               have e42 : ac.eval (.tmp 42) = .bool true := hP 1 (by kernel_rfl)
               exact rop_lenG _ Tryd.underlying22 rfl e43 (wanted_of (j := 1) (b := true) rfl rfl e42) (hK _ _ (le8_refl _) rfl)
             · intro ac w' hF hL hP hU K hK
               have hB := below_undrew hL
               have e9 : ac.eval (.tmp 9) = .int .i64 (c : Int) := hF.at 9 (by kernel_rfl)
               have e42 : ac.eval (.tmp 42) = .bool true := hP 1 (by kernel_rfl)
               exact rop_move _ rfl e9 (wanted_of (j := 1) (b := true) rfl rfl e42) (hK _ _ (le8_refl _) rfl)
             · intro ac w' hF hL hP hU K hK
               have hB := below_undrew hL
               have e44 : ac.eval (.tmp 44) = .int .i64 (c : Int) := hP 3 (by kernel_rfl)
               have e45 : ac.eval (.tmp 45) = .int .i64 (c : Int) := hP 4 (by kernel_rfl)
               have e42 : ac.eval (.tmp 42) = .bool true := hP 1 (by kernel_rfl)
               exact rop_bin _ _ _ _ _ rfl e44 e45 (guard_int _ _ _ _ _ _ _ w') (eql_iT _ w') (wanted_of (j := 1) (b := true) rfl rfl e42) (hK _ _ (le8_refl _) rfl)
             · intro ac w' hF hL hP hU K hK
               have hB := below_undrew hL
               have e42 : ac.eval (.tmp 42) = .bool true := hP 1 (by kernel_rfl)
               have e46 : ac.eval (.tmp 46) = .bool true := hP 5 (by kernel_rfl)
               exact rop_pick _ _ _ rfl true e42 (by simpa using e46) (wanted_none rfl) (hK _ _ (le8_refl _) rfl)
             · intro ac w' hF hL hP hU K hK
               have hB := below_undrew hL
               have e47 : ac.eval (.tmp 47) = .bool true := hP 6 (by kernel_rfl)
               exact rop_move _ rfl e47 (wanted_none rfl) (hK _ _ (le8_refl _) rfl)
             · intro ac w' hF hL hP hU K hK
               have hB := below_undrew hL
               have e9 : ac.eval (.tmp 9) = .int .i64 (c : Int) := hF.at 9 (by kernel_rfl)
               have e48 : ac.eval (.tmp 48) = .bool true := hP 7 (by kernel_rfl)
               exact rop_move _ rfl e9 (wanted_of (j := 7) (b := true) rfl rfl e48) (hK _ _ (le8_refl _) rfl)
             · intro ac w' hF hL hP hU K hK
               have hB := below_undrew hL
               have e49 : ac.eval (.tmp 49) = .int .i64 (c : Int) := hP 8 (by kernel_rfl)
               have e48 : ac.eval (.tmp 48) = .bool true := hP 7 (by kernel_rfl)
               exact rop_bin _ _ _ _ _ rfl e49 rfl (guard_int _ _ _ _ _ _ _ w') (neq_iF _ _ ho1 w') (wanted_of (j := 7) (b := true) rfl rfl e48) (hK _ _ (le8_refl _) rfl)
             · intro ac w' hF hL hP hU K hK
               have hB := below_undrew hL
               have e50 : ac.eval (.tmp 50) = .bool true := hP 9 (by kernel_rfl)
               have e48 : ac.eval (.tmp 48) = .bool true := hP 7 (by kernel_rfl)
               exact rop_move _ rfl e50 (wanted_of (j := 7) (b := true) rfl rfl e48) (hK _ _ (le8_refl _) rfl)
             · intro ac w' hF hL hP hU K hK
               have hB := below_undrew hL
               have e51 : ac.eval (.tmp 51) = .bool true := hP 10 (by kernel_rfl)
               exact rop_offG (j := 10) (b := false) rfl rfl e51 (by decide) (hK _ _ (le8_refl _) trivial)
             · intro ac w' hF hL hP hU K hK
               have hB := below_undrew hL
               have e51 : ac.eval (.tmp 51) = .bool true := hP 10 (by kernel_rfl)
               exact rop_offG (j := 10) (b := false) rfl rfl e51 (by decide) (hK _ _ (le8_refl _) trivial)
             · intro ac w' hF hL hP hU K hK
               have hB := below_undrew hL
               have e51 : ac.eval (.tmp 51) = .bool true := hP 10 (by kernel_rfl)
               exact rop_offG (j := 10) (b := false) rfl rfl e51 (by decide) (hK _ _ (le8_refl _) trivial)
             · intro ac w' hF hL hP hU K hK
               have hB := below_undrew hL
               have e51 : ac.eval (.tmp 51) = .bool true := hP 10 (by kernel_rfl)
               exact rop_offG (j := 10) (b := false) rfl rfl e51 (by decide) (hK _ _ (le8_refl _) trivial)
             · intro ac w' hF hL hP hU K hK
               have hB := below_undrew hL
               have e51 : ac.eval (.tmp 51) = .bool true := hP 10 (by kernel_rfl)
               exact rop_offG (j := 10) (b := false) rfl rfl e51 (by decide) (hK _ _ (le8_refl _) trivial)
             · intro ac w' hF hL hP hU K hK
               have hB := below_undrew hL
               have e51 : ac.eval (.tmp 51) = .bool true := hP 10 (by kernel_rfl)
               exact rop_offG (j := 10) (b := false) rfl rfl e51 (by decide) (hK _ _ (le8_refl _) trivial)
             · intro ac w' hF hL hP hU K hK
               have hB := below_undrew hL
               have e51 : ac.eval (.tmp 51) = .bool true := hP 10 (by kernel_rfl)
               have e48 : ac.eval (.tmp 48) = .bool true := hP 7 (by kernel_rfl)
               exact rop_pick _ _ _ rfl true e51 (by rfl) (wanted_of (j := 7) (b := true) rfl rfl e48) (hK _ _ (le8_refl _) rfl)
             · intro ac w' hF hL hP hU K hK
               have hB := below_undrew hL
               have e48 : ac.eval (.tmp 48) = .bool true := hP 7 (by kernel_rfl)
               have e58 : ac.eval (.tmp 58) = .bool true := hP 17 (by kernel_rfl)
               exact rop_pick _ _ _ rfl true e48 (by simpa using e58) (wanted_none rfl) (hK _ _ (le8_refl _) rfl)
             · intro ac w' hF hL hP hU K hK
               have hB := below_undrew hL
               have e59 : ac.eval (.tmp 59) = .bool true := hP 18 (by kernel_rfl)
               exact rop_move _ rfl e59 (wanted_none rfl) (hK _ _ (le8_refl _) rfl)
             · intro ac w' hF hL hP hU K hK
               have hB := below_undrew hL
               have e7 : ac.eval (.tmp 7) = .pointer (some ⟨fb, 0, none⟩) := hF.at 7 (by kernel_rfl)
               have e60 : ac.eval (.tmp 60) = .bool true := hP 19 (by kernel_rfl)
               exact rop_move _ rfl e7 (wanted_of (j := 19) (b := true) rfl rfl e60) (hK _ _ (le8_refl _) rfl)
             · intro ac w' hF hL hP hU K hK
               have hB := below_undrew hL
               have e61 : ac.eval (.tmp 61) = .pointer (some ⟨fb, 0, none⟩) := hP 20 (by kernel_rfl)
               have e60 : ac.eval (.tmp 60) = .bool true := hP 19 (by kernel_rfl)
               refine rop_call 15 _ _ rfl #[.pointer (some ⟨fb, 0, none⟩)] (by simp [e61]) (by kernel_rfl) (wanted_of (j := 19) (b := true) rfl rfl e60) ?_
               refine (HSZ.out w' hB).mono ?_
               rintro e w2 ⟨rfl, hb⟩
               exact ⟨_, rfl, hK _ _ hb rfl⟩
             · intro ac w' hF hL hP hU K hK
               have hB := below_undrew hL
               have e6 : ac.eval (.tmp 6) = .int .i64 (i : Int) := hF.at 6 (by kernel_rfl)
               have e60 : ac.eval (.tmp 60) = .bool true := hP 19 (by kernel_rfl)
               exact rop_move _ rfl e6 (wanted_of (j := 19) (b := true) rfl rfl e60) (hK _ _ (le8_refl _) rfl)
             · intro ac w' hF hL hP hU K hK
               have hB := below_undrew hL
               have e62 : ac.eval (.tmp 62) = .int .i64 (i : Int) := hP 21 (by kernel_rfl)
               have e63 : ac.eval (.tmp 63) = .int .i64 (i : Int) := hP 22 (by kernel_rfl)
               have e60 : ac.eval (.tmp 60) = .bool true := hP 19 (by kernel_rfl)
               exact rop_bin _ _ _ _ _ rfl e62 e63 (guard_int _ _ _ _ _ _ _ w') (eql_iT _ w') (wanted_of (j := 19) (b := true) rfl rfl e60) (hK _ _ (le8_refl _) rfl)
             · intro ac w' hF hL hP hU K hK
               have hB := below_undrew hL
               have e60 : ac.eval (.tmp 60) = .bool true := hP 19 (by kernel_rfl)
               have e64 : ac.eval (.tmp 64) = .bool true := hP 23 (by kernel_rfl)
               exact rop_pick _ _ _ rfl true e60 (by simpa using e64) (wanted_none rfl) (hK _ _ (le8_refl _) rfl)
             · intro ac w' hF hL hP hU K hK
               have hB := below_undrew hL
               have e65 : ac.eval (.tmp 65) = .bool true := hP 24 (by kernel_rfl)
               exact rop_assign _ rfl e65 (wanted_none rfl) (hK _ _ (le8_refl _) rfl)
             · intro ac w' hF hB hT
               have e4 : ac.eval (.tmp 4) = .bool true := hT 25 (by decide)
               rw [hF.setsG [41, 42, 43, 44, 45, 46, 47, 48, 49, 50, 51, 52, 53, 54, 55, 56, 57, 58, 59, 60, 61, 62, 63, 64, 65, 4] (by kernel_rfl)]
               simp only [List.foldl_cons, List.foldl_nil, List.setIfInBounds_toArray, List.set_cons_succ, List.set_cons_zero, e4]
               generalize ac.eval (.tmp 41) = u41
               generalize ac.eval (.tmp 42) = u42
               generalize ac.eval (.tmp 43) = u43
               generalize ac.eval (.tmp 44) = u44
               generalize ac.eval (.tmp 45) = u45
               generalize ac.eval (.tmp 46) = u46
               generalize ac.eval (.tmp 47) = u47
               generalize ac.eval (.tmp 48) = u48
               generalize ac.eval (.tmp 49) = u49
               generalize ac.eval (.tmp 50) = u50
               generalize ac.eval (.tmp 51) = u51
               generalize ac.eval (.tmp 52) = u52
               generalize ac.eval (.tmp 53) = u53
               generalize ac.eval (.tmp 54) = u54
               generalize ac.eval (.tmp 55) = u55
               generalize ac.eval (.tmp 56) = u56
               generalize ac.eval (.tmp 57) = u57
               generalize ac.eval (.tmp 58) = u58
               generalize ac.eval (.tmp 59) = u59
               generalize ac.eval (.tmp 60) = u60
               generalize ac.eval (.tmp 61) = u61
               generalize ac.eval (.tmp 62) = u62
               generalize ac.eval (.tmp 63) = u63
               generalize ac.eval (.tmp 64) = u64
               generalize ac.eval (.tmp 65) = u65
               clear e4 hT hF ac
               go_wp2
               go_ret
               exact ⟨rfl, below_step BW.out (Nat.le_refl _) hB⟩)
end Go.Proofs.YtgiakpnkidblpaaDoor.frontPeaks
