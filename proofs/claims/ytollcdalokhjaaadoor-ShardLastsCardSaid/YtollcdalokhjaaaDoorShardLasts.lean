/-
  ShardLasts: leaves, the root and the paths of the first ones never change, however a shard goes on, is closed, pruned and stripped. For all calls (the first 12 of them, and 12 more, of longer texts the first 60 bytes) and every number; the numbers K of the package sha are as the program's own start lays them.
-/
import Derived.Test.YtollcdalokhjaaaDoorMShdD
namespace Go.Proofs.YtollcdalokhjaaaDoor.shardLasts
open Go.ChangeShapes Go.WideShapes Go.ChangeAt Go.RowKit

/-- What a shard answers whose first leaves are X's. -/
theorem path_first {S : Nat → Prop} {b : Nat} {Z : ShR} {W : World} (h : Shd S b Z W) (hK : KT W) (l : Hs) (m J : Nat) (hl : l.length = m) (ht : Z.lvs.take m = l) (hm : m ≤ Z.lvs.length) (hJ : J < m) :
    Calls Tryd.prog 12 #[.pointer (some ⟨b, 0, none⟩), .int .i64 (J : Int), .int .i64 (m : Int)] W fun e w' => ∃ v', e = .returned (.tuple #[v', .int .i64 0]) ∧ OwnS W.heap.size w' v' (Tree.path l J) ∧ Below W.heap.size W w' := by
  have := shPath_ok h (J : Int) m (by omega) hm ⟨by omega, by omega⟩ hK
  rw [ht, Int.toNat_natCast] at this
  exact this
theorem leaves_of {S : Nat → Prop} {b : Nat} {Z : ShR} {W : World} (h : Shd S b Z W) (N J : Nat) (x0 : List UInt8) (hN : Z.lvs.length = N) (hx : Z.lvs[J]? = some x0) :
    Calls Tryd.prog 11 #[.pointer (some ⟨b, 0, none⟩)] W fun e w' => ∃ g o lc, e = .returned (.slice (some ⟨g, o, none⟩) N lc) ∧ OwnS W.heap.size w' (.slice (some ⟨g, o, none⟩) N lc) Z.lvs ∧ Below W.heap.size W w' := by
  refine (shLeaves_any h).mono fun e w' ⟨v', he, ho, hb⟩ => ?_
  obtain ⟨va, vc, rfl, -, -⟩ := ho.sums.slice
  rw [hN] at he ho
  have hs := ho.sums
  obtain ⟨g, o, rfl, -⟩ := hs.at0 hx
  exact ⟨g, o, vc, he, ho, hb⟩
theorem addE7 {Y : ShR} (P : ByteArray) (h0 : Y.st = 0) (hw : Y.win = 7) (hl : Y.lvs.length ≤ 100) (hP : P.size ≤ 2000) : addE Y 1023 P = 0 := by
  unfold addE
  rw [if_neg (by rw [h0]; simp), if_neg (by omega), hw]
  exact chk_of ⟨by decide, by omega, by decide, hP⟩
set_option maxHeartbeats 25600000 in
set_option maxRecDepth 100000 in
theorem walk {w : World} (hK : KT w) (v : Value) (l : List RecR) (hv : RowR w v l) (_hl : ∀ r ∈ l, RecOk r) (v2 : Value) (l2 : List RecR) (hv2 : RowR w v2 l2) (_hl2 : ∀ r ∈ l2, RecOk r) (a : Int) (_ha1 : -9223372036854775808 ≤ a) (_ha2 : a ≤ 9223372036854775807) :
    Calls Tryd.prog 3 #[v, v2, .int .i64 a] w fun e w' => e = .returned (.bool true) ∧ Below w.heap.size w w' := by
  have HAW := Lib.hid (awake17_any w hK)
  have HGR : Hid (∀ u, Below w.heap.size w u → Calls Tryd.prog 9 #[.int .i64 7, v] u fun e w' => e = .returned (.pointer (some ⟨u.heap.size, 0, none⟩)) ∧ Shd (fun j => u.heap.size ≤ j) u.heap.size (grX 7 l (min 12 l.length)) w' ∧ Below u.heap.size u w') := Lib.hid fun u hu => grown_any 7 v l u (hv.old hu) (hK.old hu)
  obtain ⟨m, hm⟩ : ∃ m, m = min 12 l.length := ⟨_, rfl⟩
  have hm12 : m ≤ 12 := by omega
  obtain ⟨X, hX⟩ : ∃ X, X = grX 7 l m := ⟨_, rfl⟩
  rw [← hm, ← hX] at HGR
  have hlv : X.lvs.length = m := by rw [hX]; exact gr_lvs 7 l m
  have hst : X.st = 0 := by rw [hX]; rfl
  have hwn : X.win = 7 := by rw [hX]; rfl
  have h32 : all32 X.lvs := by rw [hX]; exact gr_all32 7 l m
  obtain ⟨a1, cap, rfl⟩ := hv.slice
  obtain ⟨n, hn⟩ : ∃ n, n = l.length := ⟨_, rfl⟩
  rw [← hn] at hv HGR ⊢
  obtain ⟨a2, cap2, rfl⟩ := hv2.slice
  obtain ⟨n2, hn2⟩ : ∃ n, n = l2.length := ⟨_, rfl⟩
  rw [← hn2] at hv2 ⊢
  have HV := Lib.hid hv2
  have HN := Lib.hid hn2
  have HLV := Lib.hid hlv
  have HST := Lib.hid hst
  have HWN := Lib.hid hwn
  have H32 := Lib.hid h32
  have HKW := Lib.hid hK
  have HIF : Hid ((Tryd.prog.info? 44).map (·.size) = some 34) := Lib.hid (size_of info_fz)
  clear hm hX hlv hst hwn h32 hn hn2 hK hv hv2 _hl _hl2 _ha1 _ha2
  go_enter Tryd.func3, Tryd.ntmps3
  go_upto_region 5 with (first
    | (go_at_call 8; (refine HAW.out.mono ?_; rintro e w1 ⟨rfl, b1⟩))
    | (go_at_call 9; (refine (HGR.out _ b1).mono ?_; rintro e w2 ⟨rfl, hs2, b2⟩)))
  obtain ⟨B, hB⟩ : ∃ B, B = w1.heap.size := ⟨_, rfl⟩
  rw [← hB] at hs2
  obtain ⟨W2, hW2⟩ : ∃ u, u = w2 := ⟨_, rfl⟩
  rw [← hW2, ← hB]
  rw [← hW2] at hs2 b2
  have hb2 : Below w.heap.size w W2 := below_step b1 (Nat.le_refl _) b2
  have hwB : w.heap.size ≤ B := by rw [hB]; exact b1.size
  have hst2 := hs2.tight
  obtain ⟨C, hC⟩ : ∃ C, C = W2.heap.size := ⟨_, rfl⟩
  rw [← hC] at hst2
  have HC := Lib.hid hC
  have HS2 := Lib.hid hst2
  have HB2 := Lib.hid hb2
  have HWB := Lib.hid hwB
  clear hs2 b1 b2 hB hW2 hb2 hwB hst2 hC HAW HGR
  have HCN : Hid (Calls Tryd.prog 10 #[.pointer (some ⟨B, 0, none⟩)] W2 fun e w' => e = .returned (.int .i64 (m : Int)) ∧ W2 = w') := Lib.hid (by have := shCount_any HS2.out; rwa [HLV.out] at this)
  rcases Nat.eq_zero_or_pos m with h0 | h0
  · subst h0
    go_wp2_with (go_at_call 10; (refine HCN.out.mono ?_; rintro e w3 ⟨rfl, rfl⟩))
    go_ret
    exact ⟨rfl, HB2.out⟩
  · have h0' : ¬ (m : Int) = 0 := by omega
    have h0b : ((m : Int) == 0) = false := by simpa using h0'
    obtain ⟨r0, hr0, hr0a, hr0b, -⟩ := place17 a m h0
    go_upto_region 8 with (go_at_call 10; (refine HCN.out.mono ?_; rintro e w3 ⟨rfl, rfl⟩))
    go_upto_region 9 with fail
    clear hr0
    go_upto_if 37 with fail
    go_cut [10] (fun s10 wx => W2 = wx ∧ ∃ J : Nat, s10 = .int .i64 (J : Int) ∧ J < m)
    case first =>
      by_cases hneg : r0 < 0
      · go_wp2
        go_meet
        case rel => exact ⟨rfl, (-r0).toNat, by rw [show (((-r0).toNat : Nat) : Int) = -r0 by omega], by omega⟩
      · go_wp2
        go_meet
        case rel => exact ⟨rfl, r0.toNat, by rw [show ((r0.toNat : Nat) : Int) = r0 by omega], by omega⟩
    case rest =>
    obtain ⟨rfl, J, rfl, hJ⟩ := hcut
    clear hr0a hr0b h0' h0b HCN
    obtain ⟨x0, hx0⟩ : ∃ x0, X.lvs[J]? = some x0 := ⟨_, List.getElem?_eq_getElem (by rw [HLV.out]; omega)⟩
    have hx32 : x0.length = 32 := H32.out x0 (List.mem_of_getElem? hx0)
    obtain ⟨k5, hk5e⟩ : ∃ k, k = Tree.long J m := ⟨_, rfl⟩
    have okp : okP (J : Int) (m : Int) = true := by simp [okP]; omega
    obtain ⟨P, hP⟩ : ∃ P, P = Tree.path X.lvs J := ⟨_, rfl⟩
    obtain ⟨D, hD⟩ : ∃ D, D = Tree.root X.lvs := ⟨_, rfl⟩
    have hDl : D.length = 32 := by rw [hD]; exact Tree.root_length _ H32.out
    have hPl : P.length = k5 := by rw [hP, Tree.path_length _ _ _ (Nat.le_refl _), HLV.out, ← hk5e]
    have hP5 : P.length ≤ 1000 := by rw [hPl, hk5e]; have := long_lt J m (by omega); omega
    have hfold : foldZ x0 (J : Int) (m : Int) P = (D, true) := by
      have e1 : foldLen (J : Int) (m : Int) P = true := by
        rw [foldLen_eq, if_pos okp, hPl, hk5e]
        simp
      unfold foldZ
      rw [e1, if_pos rfl]
      have e2 : turnsZ (J : Int) (m : Int) = Tree.turns J m := by unfold turnsZ; rw [if_pos okp]; rfl
      have e3 := Tree.path_folds _ X.lvs J x0 hx0 (Nat.le_refl _)
      rw [HLV.out] at e3
      rw [e2, hP, e3, hD]
    have hk2 := HKW.out.old HB2.out
    have HLE : Hid (Calls Tryd.prog 11 #[.pointer (some ⟨B, 0, none⟩)] W2 fun e w' => ∃ g o lc, e = .returned (.slice (some ⟨g, o, none⟩) m lc) ∧ OwnS C w' (.slice (some ⟨g, o, none⟩) m lc) X.lvs ∧ Below W2.heap.size W2 w') := Lib.hid (by rw [HC.out]; exact leaves_of HS2.out m J x0 HLV.out hx0)
    have HPA : Hid (∀ u, Below W2.heap.size W2 u → Calls Tryd.prog 12 #[.pointer (some ⟨B, 0, none⟩), .int .i64 (J : Int), .int .i64 (m : Int)] u fun e w' => ∃ v', e = .returned (.tuple #[v', .int .i64 0]) ∧ OwnS u.heap.size w' v' P ∧ Below u.heap.size u w') := Lib.hid fun u hu => by
      rw [hP]
      exact path_first (HS2.out.old hu) (hk2.old hu) X.lvs m J HLV.out (List.take_of_length_le (by rw [HLV.out]; exact Nat.le_refl _)) (by rw [HLV.out]; exact Nat.le_refl _) hJ
    have HRO : Hid (∀ u, Below W2.heap.size W2 u → Calls Tryd.prog 13 #[.pointer (some ⟨B, 0, none⟩)] u fun e w' => e = .returned (sumV D) ∧ Below u.heap.size u w') := Lib.hid fun u hu => by
      rw [hD]
      exact shRoot_any (HS2.out.old hu) (hk2.old hu)
    have HX0 := Lib.hid hx32
    have HX0E := Lib.hid hx0
    have HDL := Lib.hid hDl
    have HD := Lib.hid hD
    have HPE := Lib.hid hP
    have HP5 := Lib.hid hP5
    have HFO := Lib.hid hfold
    clear hx0 hx32 hk5e okp hP hD hDl hPl hP5 hfold hk2
    go_upto_region 12 with (go_at_call 11; (refine HLE.out.mono ?_; rintro e w3 ⟨g, o, lc, rfl, ho3, b3⟩))
    go_upto_region 13 with (go_at_call 12; (refine (HPA.out _ b3).mono ?_; rintro e w4 ⟨v4, rfl, ho4, b4⟩))
    go_upto_region 14 with (first
      | (go_at_call 13; (refine (HRO.out _ (below_step b3 (Nat.le_refl _) b4)).mono ?_; rintro e w5 ⟨rfl, b5⟩))
      | refine wpList_store_mid rfl 33 (.tmp 14) (.tmp 50) rfl w5.heap.size 0 (D.map u8V).toArray rfl rfl (sum_there (heap_alloc_last w5 _) HDL.out) (sum_info HDL.out) (sum_one D) ?_)
    obtain ⟨W5, hW5⟩ : ∃ u, u = (w5.alloc (.cells ((List.replicate 32 (0 : UInt8)).map u8V).toArray 33)).setCells w5.heap.size 0 (D.map u8V) := ⟨_, rfl⟩
    have c5 : Below w5.heap.size w5 W5 := by rw [hW5]; exact below_setCells (Nat.le_refl _) _ _ _ ((Below.refl _ _).alloc (Nat.le_refl _) _)
    have h5 : W5.heap[w5.heap.size]? = some (.cells (D.map u8V).toArray 33 (0, 0)) := by
      rw [hW5]; exact heap_setCells_all w5 ((List.replicate 32 (0 : UInt8)).map u8V) (D.map u8V) (by rw [List.length_map, List.length_map, HDL.out]; rfl)
    change Code.wp _ _ _ _ ((w5.alloc (.cells ((List.replicate 32 (0 : UInt8)).map u8V).toArray 33)).setCells w5.heap.size 0 (D.map u8V))
    rw [← hW5]
    obtain ⟨rt, hrt⟩ : ∃ x, x = w5.heap.size := ⟨_, rfl⟩
    rw [← hrt] at h5 ⊢
    have d45 := below_step b5 (Nat.le_refl _) c5
    have d35 := below_step b4 (Nat.le_refl _) d45
    have d25 := below_step b3 (Nat.le_refl _) d35
    have ho5 := ho3.kept d35
    have hp5 : OwnS C W5 v4 P := (ho4.kept d45).lower (by have := b3.size; have := HC.out; omega)
    have hrl : rt < W5.heap.size := (Array.getElem?_eq_some_iff.1 h5).1
    have hrc : C ≤ rt := by have := (below_step (below_step b3 (Nat.le_refl _) b4) (Nat.le_refl _) b5).size; have := HC.out; omega
    obtain ⟨_, _, e2, hgl, -, hrx⟩ := ho5.sums.at0 HX0E.out
    injection e2 with e2
    injection e2 with e3 e4 _
    subst e3 e4
    have HRI : Hid (∀ u, Below W5.heap.size W5 u → Calls Tryd.prog 14 #[sumV D, sumV x0, .int .i64 (J : Int), .int .i64 (m : Int), v4] u fun e w' => e = .returned (.bool true) ∧ Below u.heap.size u w') := Lib.hid fun u hu => by
      have := rRight_any D x0 HDL.out HX0.out (J : Int) (m : Int) (by omega) (by omega) _ P u (hp5.sums.old hu) HP5.out
      rw [HFO.out] at this
      simpa using this
    have HGL := Lib.hid hgl
    have HRX := Lib.hid hrx
    have HRTL := Lib.hid hrl
    have HRTR : Hid (W5.rangeAt rt 0 (D.map u8V)) := Lib.hid (range_of h5)
    have HRC := Lib.hid hrc
    have HH5 := Lib.hid h5
    have HO5 := Lib.hid ho5
    have HP5' := Lib.hid hp5
    have HS5 := Lib.hid (HS2.out.old d25)
    have HB5 := Lib.hid (below_step HB2.out (Nat.le_refl _) d25)
    have HC5 : Hid (C ≤ W5.heap.size) := Lib.hid (by have := d25.size; have := HC.out; omega)
    clear hW5 c5 h5 hrt d45 d35 d25 ho5 hp5 hrl hrc hgl hrx b3 b4 b5 ho3 ho4 HLE HPA HRO HS2 HB2
    try simp only [Act.put]
    refine wp_region_tab [RT.is (.int .i64 0), RT.is (.bool false), RT.is (.bool false), RT.is (sumV D), RT.is (.slice (some ⟨g, o, none⟩) m lc), RT.is (.int .i64 (J : Int)), RT.is (.pointer (some ⟨g, o + J * 32, none⟩)), RT.is (sumV x0), RT.is (.int .i64 (J : Int)), RT.is (.int .i64 (m : Int)), RT.is (v4), RT.is (.bool true), RT.is (.bool false), RT.is (.bool false)] (by kernel_rfl) (by kernel_rfl) (by kernel_rfl) (by kernel_rfl) ⟨?_, ?_, ?_, ?_, ?_, ?_, ?_, ?_, ?_, ?_, ?_, ?_, ?_, ?_, trivial⟩ ?_
    · intro ac w' hF hL hP hU K hK
      have hB := below_undrew hL
      have e13 : ac.eval (.tmp 13) = .int .i64 0 := hF.at 13 (by kernel_rfl)
      exact rop_move _ rfl e13 (wanted_none rfl) (hK _ _ (le8_refl _) rfl)
    · intro ac w' hF hL hP hU K hK
      have hB := below_undrew hL
      have e51 : ac.eval (.tmp 51) = .int .i64 0 := hP 0 (by kernel_rfl)
      exact rop_bin _ _ _ _ _ rfl e51 rfl (guard_int _ _ _ _ _ _ _ w') (neq_errS 0 w') (wanted_none rfl) (hK _ _ (le8_refl _) rfl)
    · intro ac w' hF hL hP hU K hK
      have hB := below_undrew hL
      have e52 : ac.eval (.tmp 52) = .bool false := hP 1 (by kernel_rfl)
      exact rop_move _ rfl e52 (wanted_none rfl) (hK _ _ (le8_refl _) rfl)
    · intro ac w' hF hL hP hU K hK
      have hB := below_undrew hL
      have e14 : ac.eval (.tmp 14) = .pointer (some ⟨rt, 0, none⟩) := hF.at 14 (by kernel_rfl)
      have e53 : ac.eval (.tmp 53) = .bool false := hP 2 (by kernel_rfl)
      exact rop_ld _ _ rfl e14 (load_sumP HDL.out (below_range hB HRTL.out HRTR.out)) (wanted_of (j := 2) (b := false) rfl rfl e53) (hK _ _ (le8_refl _) rfl)
    · intro ac w' hF hL hP hU K hK
      have hB := below_undrew hL
      have e11 : ac.eval (.tmp 11) = .slice (some ⟨g, o, none⟩) m lc := hF.at 11 (by kernel_rfl)
      have e53 : ac.eval (.tmp 53) = .bool false := hP 2 (by kernel_rfl)
      exact rop_move _ rfl e11 (wanted_of (j := 2) (b := false) rfl rfl e53) (hK _ _ (le8_refl _) rfl)
    · intro ac w' hF hL hP hU K hK
      have hB := below_undrew hL
      have e10 : ac.eval (.tmp 10) = .int .i64 (J : Int) := hF.at 10 (by kernel_rfl)
      have e53 : ac.eval (.tmp 53) = .bool false := hP 2 (by kernel_rfl)
      exact rop_move _ rfl e10 (wanted_of (j := 2) (b := false) rfl rfl e53) (hK _ _ (le8_refl _) rfl)
    · intro ac w' hF hL hP hU K hK
      have hB := below_undrew hL
      have e55 : ac.eval (.tmp 55) = .slice (some ⟨g, o, none⟩) m lc := hP 4 (by kernel_rfl)
      have e56 : ac.eval (.tmp 56) = .int .i64 (J : Int) := hP 5 (by kernel_rfl)
      have e53 : ac.eval (.tmp 53) = .bool false := hP 2 (by kernel_rfl)
      exact rop_idx _ _ _ rfl e55 e56 (index_sums g o m lc J (by omega) w') (wanted_of (j := 2) (b := false) rfl rfl e53) (hK _ _ (le8_refl _) rfl)
    · intro ac w' hF hL hP hU K hK
      have hB := below_undrew hL
      have e57 : ac.eval (.tmp 57) = .pointer (some ⟨g, o + J * 32, none⟩) := hP 6 (by kernel_rfl)
      have e53 : ac.eval (.tmp 53) = .bool false := hP 2 (by kernel_rfl)
      exact rop_ld _ _ rfl e57 (load_sumP HX0.out (below_range hB HGL.out HRX.out)) (wanted_of (j := 2) (b := false) rfl rfl e53) (hK _ _ (le8_refl _) rfl)
    · intro ac w' hF hL hP hU K hK
      have hB := below_undrew hL
      have e10 : ac.eval (.tmp 10) = .int .i64 (J : Int) := hF.at 10 (by kernel_rfl)
      have e53 : ac.eval (.tmp 53) = .bool false := hP 2 (by kernel_rfl)
      exact rop_move _ rfl e10 (wanted_of (j := 2) (b := false) rfl rfl e53) (hK _ _ (le8_refl _) rfl)
    · intro ac w' hF hL hP hU K hK
      have hB := below_undrew hL
      have e9 : ac.eval (.tmp 9) = .int .i64 (m : Int) := hF.at 9 (by kernel_rfl)
      have e53 : ac.eval (.tmp 53) = .bool false := hP 2 (by kernel_rfl)
      exact rop_move _ rfl e9 (wanted_of (j := 2) (b := false) rfl rfl e53) (hK _ _ (le8_refl _) rfl)
    · intro ac w' hF hL hP hU K hK
      have hB := below_undrew hL
      have e12 : ac.eval (.tmp 12) = v4 := hF.at 12 (by kernel_rfl)
      have e53 : ac.eval (.tmp 53) = .bool false := hP 2 (by kernel_rfl)
      exact rop_move _ rfl e12 (wanted_of (j := 2) (b := false) rfl rfl e53) (hK _ _ (le8_refl _) rfl)
    · intro ac w' hF hL hP hU K hK
      have hB := below_undrew hL
      have e54 : ac.eval (.tmp 54) = sumV D := hP 3 (by kernel_rfl)
      have e58 : ac.eval (.tmp 58) = sumV x0 := hP 7 (by kernel_rfl)
      have e59 : ac.eval (.tmp 59) = .int .i64 (J : Int) := hP 8 (by kernel_rfl)
      have e60 : ac.eval (.tmp 60) = .int .i64 (m : Int) := hP 9 (by kernel_rfl)
      have e61 : ac.eval (.tmp 61) = v4 := hP 10 (by kernel_rfl)
      have e53 : ac.eval (.tmp 53) = .bool false := hP 2 (by kernel_rfl)
      refine rop_call 14 _ _ rfl #[sumV D, sumV x0, .int .i64 (J : Int), .int .i64 (m : Int), v4] (by simp [e54, e58, e59, e60, e61]) (by kernel_rfl) (wanted_of (j := 2) (b := false) rfl rfl e53) ?_
      refine (HRI.out w' hB).mono ?_
      rintro e w2 ⟨rfl, hb⟩
      exact ⟨_, rfl, hK _ _ hb rfl⟩
    · intro ac w' hF hL hP hU K hK
      have hB := below_undrew hL
      have e62 : ac.eval (.tmp 62) = .bool true := hP 11 (by kernel_rfl)
      have e53 : ac.eval (.tmp 53) = .bool false := hP 2 (by kernel_rfl)
      exact rop_not _ _ rfl true e62 (wanted_of (j := 2) (b := false) rfl rfl e53) (hK _ _ (le8_refl _) rfl)
    · intro ac w' hF hL hP hU K hK
      have hB := below_undrew hL
      have e53 : ac.eval (.tmp 53) = .bool false := hP 2 (by kernel_rfl)
      have e63 : ac.eval (.tmp 63) = .bool false := hP 12 (by kernel_rfl)
      exact rop_pick _ _ _ rfl false e53 (by simpa using e63) (wanted_none rfl) (hK _ _ (le8_refl _) rfl)
    · intro ac w' hF hB hT
      have e64 : ac.eval (.tmp 64) = .bool false := hT 13 (by decide)
      rw [hF.setsG [51, 52, 53, 54, 55, 56, 57, 58, 59, 60, 61, 62, 63, 64] (by kernel_rfl)]
      simp only [List.foldl_cons, List.foldl_nil, List.setIfInBounds_toArray, List.set_cons_succ, List.set_cons_zero, e64]
      generalize ac.eval (.tmp 51) = u51
      generalize ac.eval (.tmp 52) = u52
      generalize ac.eval (.tmp 53) = u53
      generalize ac.eval (.tmp 54) = u54
      generalize ac.eval (.tmp 55) = u55
      generalize ac.eval (.tmp 56) = u56
      generalize ac.eval (.tmp 57) = u57
      generalize ac.eval (.tmp 58) = u58
      generalize ac.eval (.tmp 59) = u59
      generalize ac.eval (.tmp 60) = u60
      generalize ac.eval (.tmp 61) = u61
      generalize ac.eval (.tmp 62) = u62
      generalize ac.eval (.tmp 63) = u63
      clear e64 hT hF ac
      obtain ⟨W6, hW6⟩ : ∃ u, u = w' := ⟨_, rfl⟩
      subst hW6
      obtain ⟨N6, hN6⟩ : ∃ x, x = W6.heap.size := ⟨_, rfl⟩
      have h56 : W5.heap.size ≤ N6 := by rw [hN6]; exact hB.size
      obtain ⟨S, hS⟩ : ∃ S : Nat → Prop, S = fun k => (B ≤ k ∧ k < C) ∨ N6 ≤ k := ⟨_, rfl⟩
      have hb6 := below_step HB5.out (Nat.le_refl _) hB
      have hs6 : Shd S B X W6 := (HS5.out.old hB).mono (fun k _ hk => by rw [hS]; exact .inl hk) (by
        rw [hS]
        rintro (h | h)
        · exact HS5.out.sk.2 h
        · have := HKW.out.pos; have := hb6.size; omega)
      have HSW : Hid (∀ k, S k → w.heap.size ≤ k) := Lib.hid fun k hk => by
        rw [hS] at hk
        have h1 := HWB.out; have h2 := hb6.size
        rcases hk with hk | hk <;> omega
      have HSN : Hid (∀ k, N6 ≤ k → S k) := Lib.hid fun k hk => by rw [hS]; exact .inr hk
      have HSC : Hid (∀ k, C ≤ k → k < N6 → ¬ S k) := Lib.hid fun k h1 h2 hk => by
        rw [hS] at hk
        rcases hk with hk | hk <;> omega
      have HO6 := Lib.hid (HO5.out.kept hB)
      have HP6 := Lib.hid (HP5'.out.kept hB)
      have HH6 : Hid (W6.heap[rt]? = some (.cells (D.map u8V).toArray 33 (0, 0))) := Lib.hid ((hB.block rt HRTL.out).trans HH5.out)
      have HR6 : Hid (rt < N6) := Lib.hid (Nat.lt_of_lt_of_le HRTL.out h56)
      have HN6 := Lib.hid hN6
      have HS6 := Lib.hid hs6
      have HB6 := Lib.hid hb6
      clear hN6 h56 hS hb6 hs6 hB HO5 HP5' HH5 HS5 HB5 HC5 HRI HGL HRX HRTL HRTR
      go_upto_region 17 with fail
      go_loopw [15] (fun s15 wr => ∃ (k : Nat) (Y : ShR), k ≤ 12 ∧ k ≤ n2 ∧ s15 = .int .i64 k ∧ Shd S B Y wr ∧ OnlyS S W6 wr ∧ Y.st = 0 ∧ Y.win = 7 ∧ Y.lvs.length = m + k ∧ Y.lvs.take m = X.lvs) (fun s15 _ => 12 - (intOf s15).toNat)
      case atStart => exact ⟨0, X, by omega, by omega, rfl, HS6.out, OnlyS.refl _ _, HST.out, HWN.out, by rw [HLV.out]; rfl, List.take_of_length_le (by rw [HLV.out]; exact Nat.le_refl _)⟩
      case round =>
        obtain ⟨k, Y, hk12, hkn', rfl, hs, ho, hy0, hy7, hyl, hyt⟩ := hrel
        have HS := Lib.hid hs
        have HO := Lib.hid ho
        have HY0 := Lib.hid hy0
        have HY7 := Lib.hid hy7
        have HYL := Lib.hid hyl
        have HYT := Lib.hid hyt
        have hN6w : N6 ≤ wr.heap.size := by rw [HN6.out]; exact ho.size
        have HBR := Lib.hid (HB6.out.trans (ho.below HSW.out HB6.out.size))
        clear hs ho hy0 hy7 hyl hyt HS6
        go_upto_region 17 with fail
        go_cut [72] (fun sc wx => wr = wx ∧ sc = .bool (decide (k < n2 ∧ k < 12)))
        case first =>
          by_cases hlt : k < n2
          · have hlt' : (k : Int) < (n2 : Int) := by omega
            by_cases h12 : k < 12
            · have h12' : (k : Int) < 12 := by omega
              go_wp2
              go_meet
              case rel => exact ⟨rfl, by simp [hlt, h12]⟩
            · have h12' : ¬ (k : Int) < 12 := by omega
              go_wp2
              go_meet
              case rel => exact ⟨rfl, by simp [h12]⟩
          · have hlt' : ¬ (k : Int) < (n2 : Int) := by omega
            go_wp2
            go_meet
            case rel => exact ⟨rfl, by simp [hlt]⟩
        case rest =>
        obtain ⟨rfl, rfl⟩ := hcut
        by_cases hc : k < n2 ∧ k < 12
        · rw [decide_eq_true hc]
          obtain ⟨hkn, h12⟩ := hc
          have hw1 := IntWalk.i64_in ((k : Int) + 1) (by omega)
          obtain ⟨r, hr⟩ : ∃ r, l2[k]? = some r := ⟨l2[k]'(by rw [← HN.out]; exact hkn), List.getElem?_eq_getElem _⟩
          obtain ⟨b0, off, rfl, hbl0, _, _, _, c3⟩ := HV.out.at k r hr
          have hbl : b0 < wr.heap.size := Nat.lt_of_lt_of_le hbl0 HBR.out.size
          replace c3 := (HBR.out.cell (p := ⟨b0, _, none⟩) hbl0).trans c3
          obtain ⟨knd, idx, mor, pay⟩ := r
          simp only at c3
          obtain ⟨P, hP⟩ : ∃ P, P = shortB pay 60 := ⟨_, rfl⟩
          have HSH : Hid (∀ u, Calls Tryd.prog 16 #[.string pay, .int .i64 60] u fun e w' => e = .returned (.string P) ∧ u = w') := Lib.hid fun u => by rw [hP]; exact short17_any pay 60 60 rfl u
          have hE : addE Y 1023 P = 0 := addE7 P HY0.out HY7.out (by rw [HYL.out]; omega) (by rw [hP]; have := shortB_size pay 60; omega)
          have HADD : Hid (∀ u, Below wr.heap.size wr u → Calls Tryd.prog 15 #[.pointer (some ⟨B, 0, none⟩), .int .i64 1023, .string P] u fun e w' => e = .returned (.tuple #[.int .i64 (Y.lvs.length : Int), .int .i64 0]) ∧ Shd S B (shAdd Y 1023 P) w' ∧ OnlyS S u w') := Lib.hid fun u hu => shAdd_ok (HS.out.old hu) 1023 P hE (fun j hj => HSN.out j (by have := hu.size; omega)) (HKW.out.old (below_step HBR.out (Nat.le_refl _) hu))
          clear hr hP hE hbl0
          go_upto_region 19 with fail
          try simp only [Act.put]
          refine wp_region_ph0 (Lx := GLf 0) [RXP.is (.pointer (some ⟨B, 0, none⟩)), RXP.is (.slice (some ⟨b0, off, none⟩) n2 cap2), RXP.is (.int .i64 (k : Int)), RXP.is (.pointer (some ⟨b0, off + k * 4, none⟩)), RXP.is (.pointer (some ⟨b0, off + k * 4 + 3, none⟩)), RXP.is (.string pay), RXP.is (.string P), RXP.is (.tuple #[.int .i64 (Y.lvs.length : Int), .int .i64 0])] [6, 7] (fun i w' => (i ≤ 1 → Below wr.heap.size wr w') ∧ (i = 2 → Shd S B (shAdd Y 1023 P) w' ∧ ∃ u, Below wr.heap.size wr u ∧ OnlyS S u w')) (by kernel_rfl) (by kernel_rfl) (by kernel_rfl) (by kernel_rfl) (by kernel_rfl) (⟨fun _ => Below.refl _ _, (fun h => absurd h (by decide))⟩) ⟨?_, ?_, ?_, ?_, ?_, ?_, ?_, ?_, trivial⟩ ?_
          · intro ac w' ph hF hPh hlt hP hU K hK0
            have e8 : ac.eval (.tmp 8) = .pointer (some ⟨B, 0, none⟩) := hF.at 8 (by kernel_rfl)
            exact rop_move _ rfl e8 (wanted_none rfl) (hK0 _ _ GLf.same hPh rfl)
          · intro ac w' ph hF hPh hlt hP hU K hK0
            have e1 : ac.eval (.tmp 1) = .slice (some ⟨b0, off, none⟩) n2 cap2 := hF.at 1 (by kernel_rfl)
            exact rop_move _ rfl e1 (wanted_none rfl) (hK0 _ _ GLf.same hPh rfl)
          · intro ac w' ph hF hPh hlt hP hU K hK0
            have e15 : ac.eval (.tmp 15) = .int .i64 (k : Int) := hF.at 15 (by kernel_rfl)
            exact rop_move _ rfl e15 (wanted_none rfl) (hK0 _ _ GLf.same hPh rfl)
          · intro ac w' ph hF hPh hlt hP hU K hK0
            have e76 : ac.eval (.tmp 76) = .slice (some ⟨b0, off, none⟩) n2 cap2 := hP 1 (by kernel_rfl)
            have e77 : ac.eval (.tmp 77) = .int .i64 (k : Int) := hP 2 (by kernel_rfl)
            exact rop_idx _ _ _ rfl e76 e77 (index_op b0 off n2 cap2 k hkn w') (wanted_none rfl) (hK0 _ _ GLf.same hPh rfl)
          · intro ac w' ph hF hPh hlt hP hU K hK0
            have e78 : ac.eval (.tmp 78) = .pointer (some ⟨b0, off + k * 4, none⟩) := hP 3 (by kernel_rfl)
            exact rop_fld _ _ _ rfl e78 ((opFld b0 (off + k * 4) _).2.2.2) (wanted_none rfl) (hK0 _ _ GLf.same hPh rfl)
          · intro ac w' ph hF hPh hlt hP hU K hK0
            have hph : ph ≤ 0 := (hlt 0 6 rfl).2 (by kernel_rfl)
            have e79 : ac.eval (.tmp 79) = .pointer (some ⟨b0, off + k * 4 + 3, none⟩) := hP 4 (by kernel_rfl)
            exact rop_ld _ _ rfl e79 (load_strR (((hPh.1 (by omega)).cell (p := ⟨b0, _, none⟩) hbl).trans c3)) (wanted_none rfl) (hK0 _ _ GLf.same hPh rfl)
          · intro ac w' ph hF hPh hlt hP hU K hK0
            obtain rfl : ph = 0 := (hlt 0 6 rfl).1 rfl
            have e80 : ac.eval (.tmp 80) = .string pay := hP 5 (by kernel_rfl)
            have hB := hPh.1 (by decide)
            refine rop_call 16 _ _ rfl #[.string pay, .int .i64 60] (by simp [e80, eval_const]) (by kernel_rfl) (wanted_none rfl) ?_
            refine (HSH.out w').mono ?_
            rintro e w2 ⟨rfl, rfl⟩
            exact ⟨_, rfl, hK0 _ _ (GLf.own (by decide)) ⟨fun _ => hB, (fun h => absurd h (by decide))⟩ rfl⟩
          · intro ac w' ph hF hPh hlt hP hU K hK0
            obtain rfl : ph = 1 := (hlt 1 7 rfl).1 rfl
            have e75 : ac.eval (.tmp 75) = .pointer (some ⟨B, 0, none⟩) := hP 0 (by kernel_rfl)
            have e81 : ac.eval (.tmp 81) = .string P := hP 6 (by kernel_rfl)
            have hB := hPh.1 (by decide)
            refine rop_call 15 _ _ rfl #[.pointer (some ⟨B, 0, none⟩), .int .i64 1023, .string P] (by simp [e75, e81, eval_const]) (by kernel_rfl) (wanted_none rfl) ?_
            refine (HADD.out w' hB).mono ?_
            rintro e w2 ⟨rfl, hs, ho⟩
            exact ⟨_, rfl, hK0 _ _ (GLf.own (by decide)) ⟨(fun h => absurd h (by decide)), fun _ => ⟨hs, w', hB, ho⟩⟩ rfl⟩
          · intro ac w' hF hPh hT
            rw [hF.setsG [75, 76, 77, 78, 79, 80, 81, 82] (by kernel_rfl)]
            simp only [List.foldl_cons, List.foldl_nil, List.setIfInBounds_toArray, List.set_cons_succ, List.set_cons_zero]
            generalize ac.eval (.tmp 75) = u75
            generalize ac.eval (.tmp 76) = u76
            generalize ac.eval (.tmp 77) = u77
            generalize ac.eval (.tmp 78) = u78
            generalize ac.eval (.tmp 79) = u79
            generalize ac.eval (.tmp 80) = u80
            generalize ac.eval (.tmp 81) = u81
            generalize ac.eval (.tmp 82) = u82
            clear  hT hF ac
            obtain ⟨hs9, u, hu, ho9⟩ := hPh.2 rfl
            have hoF := (HO.out.trans (OnlyS.of_below hu)).trans ho9
            have hY0 : (shAdd Y 1023 P).st = 0 := HY0.out
            have hY7 : (shAdd Y 1023 P).win = 7 := HY7.out
            have hYL : (shAdd Y 1023 P).lvs.length = m + (k + 1) := by show (Y.lvs ++ [_]).length = _; rw [List.length_append, HYL.out]; rfl
            have hYT : (shAdd Y 1023 P).lvs.take m = X.lvs := by show (Y.lvs ++ [_]).take m = _; rw [List.take_append_of_le_length (by rw [HYL.out]; omega)]; exact HYT.out
            clear hPh ho9 hu c3 hbl HSH HADD
            go_wp2
            go_roundw
            case rel => exact ⟨k + 1, shAdd Y 1023 P, by omega, by omega, by go_num, hs9, hoF, hY0, hY7, hYL, hYT⟩
            case measure => simp [intOf]; omega
        · rw [decide_eq_false hc]
          obtain ⟨N, hN⟩ : ∃ N, N = m + k := ⟨_, rfl⟩
          have hNl : Y.lvs.length = N := by rw [HYL.out, hN]
          have hN24 : N ≤ 24 := by omega
          have hmN : m ≤ N := by omega
          have HNL := Lib.hid hNl
          clear hN hNl hc
          go_upto_region 21 with fail
          go_loopw [16, 17, 18, 19, 20, 21, 22] (fun s16 _ _ _ _ _ _ wr2 => ∃ (t : Nat) (Z : ShR), t ≤ 3 ∧ s16 = .int .i64 t ∧ Shd S B Z wr2 ∧ OnlyS S W6 wr2 ∧ Z.lvs = Y.lvs ∧ (t = 0 → Z.st = 0 ∧ Z.win = 7) ∧ (1 ≤ t → Z.st = 2)) (fun s16 _ _ _ _ _ _ _ => 3 - (intOf s16).toNat)
          case atStart => exact ⟨0, Y, by omega, rfl, HS.out, HO.out, rfl, fun _ => ⟨HY0.out, HY7.out⟩, fun h => absurd h (by decide)⟩
          case round =>
            clear HS HO HBR hN6w
            obtain ⟨t, Z, ht3, rfl, hs, ho, hzl, hz0, hz2⟩ := hrel
            obtain ⟨W7, hW7⟩ : ∃ u, u = wr := ⟨_, rfl⟩
            rw [← hW7] at hs ho
            have hb7 := HB6.out.trans (ho.below HSW.out HB6.out.size)
            by_cases hc : t < 3
            · have hc1 : (t : Int) < 3 := by omega
              have hw1 := IntWalk.i64_in ((t : Int) + 1) (by omega)
              have hk7 := HKW.out.old hb7
              have hZL : Z.lvs.length = N := by rw [hzl]; exact HNL.out
              have hZT : Z.lvs.take m = X.lvs := by rw [hzl]; exact HYT.out
              have hZx : Z.lvs[J]? = some x0 := by
                have e := HX0E.out
                rw [← hZT, List.getElem?_take, if_pos hJ] at e
                exact e
              have HPA : Hid (Calls Tryd.prog 12 #[.pointer (some ⟨B, 0, none⟩), .int .i64 (J : Int), .int .i64 (m : Int)] W7 fun e w' => ∃ v', e = .returned (.tuple #[v', .int .i64 0]) ∧ OwnS W7.heap.size w' v' P ∧ Below W7.heap.size W7 w') := Lib.hid (by
                rw [HPE.out]
                exact path_first hs hk7 X.lvs m J HLV.out hZT (by rw [hZL]; exact hmN) hJ)
              have HLE : Hid (∀ u, Below W7.heap.size W7 u → Calls Tryd.prog 11 #[.pointer (some ⟨B, 0, none⟩)] u fun e w' => ∃ g o lc, e = .returned (.slice (some ⟨g, o, none⟩) N lc) ∧ OwnS u.heap.size w' (.slice (some ⟨g, o, none⟩) N lc) Z.lvs ∧ Below u.heap.size u w') := Lib.hid fun u hu => leaves_of (hs.old hu) N J x0 hZL hZx
              have HSM : Hid (∀ u va vb, Sums u va P → Sums u vb P → Calls Tryd.prog 17 #[va, vb] u fun e w' => e = .returned (.bool true) ∧ Below u.heap.size u w') := Lib.hid fun u va vb h1 h2 => by
                have := same_any va vb P P u h1 h2 HP5.out
                simpa using this
              have HO7 := Lib.hid (Sums.onlyS' HO6.out ho (fun j h1 h2 => HSC.out j h1 (by rw [HN6.out]; exact h2)))
              have HP7 := Lib.hid (Sums.onlyS' HP6.out ho (fun j h1 h2 => HSC.out j h1 (by rw [HN6.out]; exact h2)))
              have HH7 : Hid (W7.heap[rt]? = some (.cells (D.map u8V).toArray 33 (0, 0))) := Lib.hid ((ho.block rt (by rw [← HN6.out]; exact HR6.out) (HSC.out rt HRC.out HR6.out)).trans HH6.out)
              have HS7 := Lib.hid hs
              have HO := Lib.hid ho
              have HB7 := Lib.hid hb7
              have HZL := Lib.hid hZL
              have HZT := Lib.hid hZT
              have HZX := Lib.hid hZx
              have HZY := Lib.hid hzl
              have HZ0 := Lib.hid hz0
              have HZ2 := Lib.hid hz2
              have h7s : W7.heap.size = wr.heap.size := by rw [hW7]
              clear hs ho hzl hz0 hz2 hb7 hk7 hZL hZT hZx hc
              go_upto_region 23 with fail
              rw [← hW7]
              clear hW7 h7s
              go_upto_region 26 with (first
                | (go_at_call 12; (refine HPA.out.mono ?_; rintro e w8 ⟨v8, rfl, ho8, b8⟩; have hq8 := Lib.hid ho8.sums; clear ho8))
                | (go_at_call 11; (refine (HLE.out _ b8).mono ?_; rintro e w9 ⟨g2, o2, lc2, rfl, ho9, b9⟩))
                | (go_at_call 17; (refine (HSM.out _ _ _ (HP7.out.sums.old (below_step b8 (Nat.le_refl _) b9)) (hq8.out.old b9)).mono ?_; rintro e w10 ⟨rfl, b10⟩)))
              obtain ⟨W10, hW10⟩ : ∃ u, u = w10 := ⟨_, rfl⟩
              subst hW10
              have d10 := below_step (below_step b8 (Nat.le_refl _) b9) (Nat.le_refl _) b10
              have hl10 := (ho9.kept b10).sums
              have hh10 := (HO7.out.kept d10).sums
              obtain ⟨_, _, e2, hgl2, -, hrx2⟩ := hl10.at0 HZX.out
              injection e2 with e2
              injection e2 with e3 e4 _
              subst e3 e4
              obtain ⟨_, _, e2, hgl, -, hrx⟩ := hh10.at0 HX0E.out
              injection e2 with e2
              injection e2 with e3 e4 _
              subst e3 e4
              have hmc : m ≤ lc2 := by have := hl10.len.2.1; rw [HZL.out] at this; omega
              have HR2 : Hid (∀ u, Below W10.heap.size W10 u → Calls Tryd.prog 18 #[.slice (some ⟨g2, o2, none⟩) m lc2] u fun e w' => e = .returned (sumV D) ∧ Below u.heap.size u w') := Lib.hid fun u hu => by
                have := rleafRoot_any _ _ _ u rfl (by rw [HZT.out, HLV.out]; omega) ((hl10.old hu).head m (by rw [HZL.out]; exact hmN))
                rw [HZT.out, ← HD.out] at this
                exact this
              have HMC := Lib.hid hmc
              have HGL := Lib.hid hgl
              have HRX := Lib.hid hrx
              have HGL2 := Lib.hid hgl2
              have HRX2 := Lib.hid hrx2
              have HRTL : Hid (rt < W10.heap.size) := Lib.hid (Nat.lt_of_lt_of_le (Array.getElem?_eq_some_iff.1 HH7.out).1 d10.size)
              have HRTR : Hid (W10.rangeAt rt 0 (D.map u8V)) := Lib.hid (range_of ((d10.block rt (Array.getElem?_eq_some_iff.1 HH7.out).1).trans HH7.out))
              have HS10 := Lib.hid (HS7.out.old d10)
              have HO10 := Lib.hid (HO.out.trans (OnlyS.of_below d10))
              have HB10 := Lib.hid (below_step HB7.out (Nat.le_refl _) d10)
              clear d10 hl10 hh10 hgl2 hrx2 hgl hrx hmc b8 b9 b10 ho9 hq8 HPA HLE HSM HO7 HP7 HH7 HS7 HO HB7
              try simp only [Act.put]
              refine wp_region_tab [RT.is (.bool true), RT.is (.bool false), RT.is (.bool false), RT.is (.int .i64 0), RT.is (.bool false), RT.is (.bool false), RT.is (.bool false), RT.is (.slice (some ⟨g2, o2, none⟩) N lc2), RT.is (.int .i64 (N : Int)), RT.is (.int .i64 (m : Int)), RT.is (.bool false), RT.is (.bool false), RT.is (.bool false), RT.is (.slice (some ⟨g2, o2, none⟩) N lc2), RT.is (.int .i64 (J : Int)), RT.is (.pointer (some ⟨g2, o2 + J * 32, none⟩)), RT.is (sumV x0), RT.is (.slice (some ⟨g, o, none⟩) m lc), RT.is (.int .i64 (J : Int)), RT.is (.pointer (some ⟨g, o + J * 32, none⟩)), RT.is (sumV x0), RT.is (.bool false), RT.is (.bool false), RT.is (.bool false), RT.is (.slice (some ⟨g2, o2, none⟩) N lc2), RT.is (.int .i64 (m : Int)), RT.is (.slice (some ⟨g2, o2, none⟩) m lc2), RT.is (sumV D), RT.is (sumV D), RT.is (.bool false), RT.is (.bool false)] (by kernel_rfl) (by kernel_rfl) (by kernel_rfl) (by kernel_rfl) ⟨?_, ?_, ?_, ?_, ?_, ?_, ?_, ?_, ?_, ?_, ?_, ?_, ?_, ?_, ?_, ?_, ?_, ?_, ?_, ?_, ?_, ?_, ?_, ?_, ?_, ?_, ?_, ?_, ?_, ?_, ?_, trivial⟩ ?_
              · intro ac w' hF hL hP hU K hK
                have hB := below_undrew hL
                have e20 : ac.eval (.tmp 20) = .bool true := hF.at 20 (by kernel_rfl)
                exact rop_move _ rfl e20 (wanted_none rfl) (hK _ _ (le8_refl _) rfl)
              · intro ac w' hF hL hP hU K hK
                have hB := below_undrew hL
                have e99 : ac.eval (.tmp 99) = .bool true := hP 0 (by kernel_rfl)
                exact rop_not _ _ rfl true e99 (wanted_none rfl) (hK _ _ (le8_refl _) rfl)
              · intro ac w' hF hL hP hU K hK
                have hB := below_undrew hL
                have e100 : ac.eval (.tmp 100) = .bool false := hP 1 (by kernel_rfl)
                exact rop_move _ rfl e100 (wanted_none rfl) (hK _ _ (le8_refl _) rfl)
              · intro ac w' hF hL hP hU K hK
                have hB := below_undrew hL
                have e18 : ac.eval (.tmp 18) = .int .i64 0 := hF.at 18 (by kernel_rfl)
                have e101 : ac.eval (.tmp 101) = .bool false := hP 2 (by kernel_rfl)
                exact rop_move _ rfl e18 (wanted_of (j := 2) (b := false) rfl rfl e101) (hK _ _ (le8_refl _) rfl)
              · intro ac w' hF hL hP hU K hK
                have hB := below_undrew hL
                have e102 : ac.eval (.tmp 102) = .int .i64 0 := hP 3 (by kernel_rfl)
                have e101 : ac.eval (.tmp 101) = .bool false := hP 2 (by kernel_rfl)
                exact rop_bin _ _ _ _ _ rfl e102 rfl (guard_int _ _ _ _ _ _ _ w') (neq_errS 0 w') (wanted_of (j := 2) (b := false) rfl rfl e101) (hK _ _ (le8_refl _) rfl)
              · intro ac w' hF hL hP hU K hK
                have hB := below_undrew hL
                have e101 : ac.eval (.tmp 101) = .bool false := hP 2 (by kernel_rfl)
                have e103 : ac.eval (.tmp 103) = .bool false := hP 4 (by kernel_rfl)
                exact rop_pick _ _ _ rfl false e101 (by simpa using e103) (wanted_none rfl) (hK _ _ (le8_refl _) rfl)
              · intro ac w' hF hL hP hU K hK
                have hB := below_undrew hL
                have e104 : ac.eval (.tmp 104) = .bool false := hP 5 (by kernel_rfl)
                exact rop_move _ rfl e104 (wanted_none rfl) (hK _ _ (le8_refl _) rfl)
              · intro ac w' hF hL hP hU K hK
                have hB := below_undrew hL
                have e19 : ac.eval (.tmp 19) = .slice (some ⟨g2, o2, none⟩) N lc2 := hF.at 19 (by kernel_rfl)
                have e105 : ac.eval (.tmp 105) = .bool false := hP 6 (by kernel_rfl)
                exact rop_move _ rfl e19 (wanted_of (j := 6) (b := false) rfl rfl e105) (hK _ _ (le8_refl _) rfl)
              · intro ac w' hF hL hP hU K hK
                have hB := below_undrew hL
                have e106 : ac.eval (.tmp 106) = .slice (some ⟨g2, o2, none⟩) N lc2 := hP 7 (by kernel_rfl)
                have e105 : ac.eval (.tmp 105) = .bool false := hP 6 (by kernel_rfl)
                exact rop_lenG _ Tryd.underlying27 rfl e106 (wanted_of (j := 6) (b := false) rfl rfl e105) (hK _ _ (le8_refl _) rfl)
              · intro ac w' hF hL hP hU K hK
                have hB := below_undrew hL
                have e9 : ac.eval (.tmp 9) = .int .i64 (m : Int) := hF.at 9 (by kernel_rfl)
                have e105 : ac.eval (.tmp 105) = .bool false := hP 6 (by kernel_rfl)
                exact rop_move _ rfl e9 (wanted_of (j := 6) (b := false) rfl rfl e105) (hK _ _ (le8_refl _) rfl)
              · intro ac w' hF hL hP hU K hK
                have hB := below_undrew hL
                have e107 : ac.eval (.tmp 107) = .int .i64 (N : Int) := hP 8 (by kernel_rfl)
                have e108 : ac.eval (.tmp 108) = .int .i64 (m : Int) := hP 9 (by kernel_rfl)
                have e105 : ac.eval (.tmp 105) = .bool false := hP 6 (by kernel_rfl)
                exact rop_bin _ _ _ _ _ rfl e107 e108 (guard_int _ _ _ _ _ _ _ w') (lss_iG _ _ false (by simp; omega) w') (wanted_of (j := 6) (b := false) rfl rfl e105) (hK _ _ (le8_refl _) rfl)
              · intro ac w' hF hL hP hU K hK
                have hB := below_undrew hL
                have e105 : ac.eval (.tmp 105) = .bool false := hP 6 (by kernel_rfl)
                have e109 : ac.eval (.tmp 109) = .bool false := hP 10 (by kernel_rfl)
                exact rop_pick _ _ _ rfl false e105 (by simpa using e109) (wanted_none rfl) (hK _ _ (le8_refl _) rfl)
              · intro ac w' hF hL hP hU K hK
                have hB := below_undrew hL
                have e110 : ac.eval (.tmp 110) = .bool false := hP 11 (by kernel_rfl)
                exact rop_move _ rfl e110 (wanted_none rfl) (hK _ _ (le8_refl _) rfl)
              · intro ac w' hF hL hP hU K hK
                have hB := below_undrew hL
                have e19 : ac.eval (.tmp 19) = .slice (some ⟨g2, o2, none⟩) N lc2 := hF.at 19 (by kernel_rfl)
                have e111 : ac.eval (.tmp 111) = .bool false := hP 12 (by kernel_rfl)
                exact rop_move _ rfl e19 (wanted_of (j := 12) (b := false) rfl rfl e111) (hK _ _ (le8_refl _) rfl)
              · intro ac w' hF hL hP hU K hK
                have hB := below_undrew hL
                have e10 : ac.eval (.tmp 10) = .int .i64 (J : Int) := hF.at 10 (by kernel_rfl)
                have e111 : ac.eval (.tmp 111) = .bool false := hP 12 (by kernel_rfl)
                exact rop_move _ rfl e10 (wanted_of (j := 12) (b := false) rfl rfl e111) (hK _ _ (le8_refl _) rfl)
              · intro ac w' hF hL hP hU K hK
                have hB := below_undrew hL
                have e112 : ac.eval (.tmp 112) = .slice (some ⟨g2, o2, none⟩) N lc2 := hP 13 (by kernel_rfl)
                have e113 : ac.eval (.tmp 113) = .int .i64 (J : Int) := hP 14 (by kernel_rfl)
                have e111 : ac.eval (.tmp 111) = .bool false := hP 12 (by kernel_rfl)
                exact rop_idx _ _ _ rfl e112 e113 (index_sums g2 o2 N lc2 J (by omega) w') (wanted_of (j := 12) (b := false) rfl rfl e111) (hK _ _ (le8_refl _) rfl)
              · intro ac w' hF hL hP hU K hK
                have hB := below_undrew hL
                have e114 : ac.eval (.tmp 114) = .pointer (some ⟨g2, o2 + J * 32, none⟩) := hP 15 (by kernel_rfl)
                have e111 : ac.eval (.tmp 111) = .bool false := hP 12 (by kernel_rfl)
                exact rop_ld _ _ rfl e114 (load_sumP HX0.out (below_range hB HGL2.out HRX2.out)) (wanted_of (j := 12) (b := false) rfl rfl e111) (hK _ _ (le8_refl _) rfl)
              · intro ac w' hF hL hP hU K hK
                have hB := below_undrew hL
                have e11 : ac.eval (.tmp 11) = .slice (some ⟨g, o, none⟩) m lc := hF.at 11 (by kernel_rfl)
                have e111 : ac.eval (.tmp 111) = .bool false := hP 12 (by kernel_rfl)
                exact rop_move _ rfl e11 (wanted_of (j := 12) (b := false) rfl rfl e111) (hK _ _ (le8_refl _) rfl)
              · intro ac w' hF hL hP hU K hK
                have hB := below_undrew hL
                have e10 : ac.eval (.tmp 10) = .int .i64 (J : Int) := hF.at 10 (by kernel_rfl)
                have e111 : ac.eval (.tmp 111) = .bool false := hP 12 (by kernel_rfl)
                exact rop_move _ rfl e10 (wanted_of (j := 12) (b := false) rfl rfl e111) (hK _ _ (le8_refl _) rfl)
              · intro ac w' hF hL hP hU K hK
                have hB := below_undrew hL
                have e116 : ac.eval (.tmp 116) = .slice (some ⟨g, o, none⟩) m lc := hP 17 (by kernel_rfl)
                have e117 : ac.eval (.tmp 117) = .int .i64 (J : Int) := hP 18 (by kernel_rfl)
                have e111 : ac.eval (.tmp 111) = .bool false := hP 12 (by kernel_rfl)
                exact rop_idx _ _ _ rfl e116 e117 (index_sums g o m lc J (by omega) w') (wanted_of (j := 12) (b := false) rfl rfl e111) (hK _ _ (le8_refl _) rfl)
              · intro ac w' hF hL hP hU K hK
                have hB := below_undrew hL
                have e118 : ac.eval (.tmp 118) = .pointer (some ⟨g, o + J * 32, none⟩) := hP 19 (by kernel_rfl)
                have e111 : ac.eval (.tmp 111) = .bool false := hP 12 (by kernel_rfl)
                exact rop_ld _ _ rfl e118 (load_sumP HX0.out (below_range hB HGL.out HRX.out)) (wanted_of (j := 12) (b := false) rfl rfl e111) (hK _ _ (le8_refl _) rfl)
              · intro ac w' hF hL hP hU K hK
                have hB := below_undrew hL
                have e115 : ac.eval (.tmp 115) = sumV x0 := hP 16 (by kernel_rfl)
                have e119 : ac.eval (.tmp 119) = sumV x0 := hP 20 (by kernel_rfl)
                have e111 : ac.eval (.tmp 111) = .bool false := hP 12 (by kernel_rfl)
                exact rop_bin _ _ _ _ _ rfl e115 e119 (guard_run _ _ _ _ _ w') (neq_sum_ff x0 x0 HX0.out HX0.out rfl w') (wanted_of (j := 12) (b := false) rfl rfl e111) (hK _ _ (le8_refl _) rfl)
              · intro ac w' hF hL hP hU K hK
                have hB := below_undrew hL
                have e111 : ac.eval (.tmp 111) = .bool false := hP 12 (by kernel_rfl)
                have e120 : ac.eval (.tmp 120) = .bool false := hP 21 (by kernel_rfl)
                exact rop_pick _ _ _ rfl false e111 (by simpa using e120) (wanted_none rfl) (hK _ _ (le8_refl _) rfl)
              · intro ac w' hF hL hP hU K hK
                have hB := below_undrew hL
                have e121 : ac.eval (.tmp 121) = .bool false := hP 22 (by kernel_rfl)
                exact rop_move _ rfl e121 (wanted_none rfl) (hK _ _ (le8_refl _) rfl)
              · intro ac w' hF hL hP hU K hK
                have hB := below_undrew hL
                have e19 : ac.eval (.tmp 19) = .slice (some ⟨g2, o2, none⟩) N lc2 := hF.at 19 (by kernel_rfl)
                have e122 : ac.eval (.tmp 122) = .bool false := hP 23 (by kernel_rfl)
                exact rop_move _ rfl e19 (wanted_of (j := 23) (b := false) rfl rfl e122) (hK _ _ (le8_refl _) rfl)
              · intro ac w' hF hL hP hU K hK
                have hB := below_undrew hL
                have e9 : ac.eval (.tmp 9) = .int .i64 (m : Int) := hF.at 9 (by kernel_rfl)
                have e122 : ac.eval (.tmp 122) = .bool false := hP 23 (by kernel_rfl)
                exact rop_move _ rfl e9 (wanted_of (j := 23) (b := false) rfl rfl e122) (hK _ _ (le8_refl _) rfl)
              · intro ac w' hF hL hP hU K hK
                have hB := below_undrew hL
                have e123 : ac.eval (.tmp 123) = .slice (some ⟨g2, o2, none⟩) N lc2 := hP 24 (by kernel_rfl)
                have e124 : ac.eval (.tmp 124) = .int .i64 (m : Int) := hP 25 (by kernel_rfl)
                have e122 : ac.eval (.tmp 122) = .bool false := hP 23 (by kernel_rfl)
                exact rop_sliceG _ _ _ _ _ rfl e123 rfl (by simp [e124]) rfl (scut_h (some ⟨g2, o2, none⟩) N lc2 m HMC.out w') (wanted_of (j := 23) (b := false) rfl rfl e122) (hK _ _ (le8_refl _) rfl)
              · intro ac w' hF hL hP hU K hK
                have hB := below_undrew hL
                have e125 : ac.eval (.tmp 125) = .slice (some ⟨g2, o2, none⟩) m lc2 := hP 26 (by kernel_rfl)
                have e122 : ac.eval (.tmp 122) = .bool false := hP 23 (by kernel_rfl)
                refine rop_call 18 _ _ rfl #[.slice (some ⟨g2, o2, none⟩) m lc2] (by simp [e125]) (by kernel_rfl) (wanted_of (j := 23) (b := false) rfl rfl e122) ?_
                refine (HR2.out w' hB).mono ?_
                rintro e w2 ⟨rfl, hb⟩
                exact ⟨_, rfl, hK _ _ hb rfl⟩
              · intro ac w' hF hL hP hU K hK
                have hB := below_undrew hL
                have e14 : ac.eval (.tmp 14) = .pointer (some ⟨rt, 0, none⟩) := hF.at 14 (by kernel_rfl)
                have e122 : ac.eval (.tmp 122) = .bool false := hP 23 (by kernel_rfl)
                exact rop_ld _ _ rfl e14 (load_sumP HDL.out (below_range hB HRTL.out HRTR.out)) (wanted_of (j := 23) (b := false) rfl rfl e122) (hK _ _ (le8_refl _) rfl)
              · intro ac w' hF hL hP hU K hK
                have hB := below_undrew hL
                have e126 : ac.eval (.tmp 126) = sumV D := hP 27 (by kernel_rfl)
                have e127 : ac.eval (.tmp 127) = sumV D := hP 28 (by kernel_rfl)
                have e122 : ac.eval (.tmp 122) = .bool false := hP 23 (by kernel_rfl)
                exact rop_bin _ _ _ _ _ rfl e126 e127 (guard_run _ _ _ _ _ w') (neq_sum_ff D D HDL.out HDL.out rfl w') (wanted_of (j := 23) (b := false) rfl rfl e122) (hK _ _ (le8_refl _) rfl)
              · intro ac w' hF hL hP hU K hK
                have hB := below_undrew hL
                have e122 : ac.eval (.tmp 122) = .bool false := hP 23 (by kernel_rfl)
                have e128 : ac.eval (.tmp 128) = .bool false := hP 29 (by kernel_rfl)
                exact rop_pick _ _ _ rfl false e122 (by simpa using e128) (wanted_none rfl) (hK _ _ (le8_refl _) rfl)
              · intro ac w' hF hB hT
                have e129 : ac.eval (.tmp 129) = .bool false := hT 30 (by decide)
                rw [hF.setsG [99, 100, 101, 102, 103, 104, 105, 106, 107, 108, 109, 110, 111, 112, 113, 114, 115, 116, 117, 118, 119, 120, 121, 122, 123, 124, 125, 126, 127, 128, 129] (by kernel_rfl)]
                simp only [List.foldl_cons, List.foldl_nil, List.setIfInBounds_toArray, List.set_cons_succ, List.set_cons_zero, e129]
                generalize ac.eval (.tmp 99) = u99
                generalize ac.eval (.tmp 100) = u100
                generalize ac.eval (.tmp 101) = u101
                generalize ac.eval (.tmp 102) = u102
                generalize ac.eval (.tmp 103) = u103
                generalize ac.eval (.tmp 104) = u104
                generalize ac.eval (.tmp 105) = u105
                generalize ac.eval (.tmp 106) = u106
                generalize ac.eval (.tmp 107) = u107
                generalize ac.eval (.tmp 108) = u108
                generalize ac.eval (.tmp 109) = u109
                generalize ac.eval (.tmp 110) = u110
                generalize ac.eval (.tmp 111) = u111
                generalize ac.eval (.tmp 112) = u112
                generalize ac.eval (.tmp 113) = u113
                generalize ac.eval (.tmp 114) = u114
                generalize ac.eval (.tmp 115) = u115
                generalize ac.eval (.tmp 116) = u116
                generalize ac.eval (.tmp 117) = u117
                generalize ac.eval (.tmp 118) = u118
                generalize ac.eval (.tmp 119) = u119
                generalize ac.eval (.tmp 120) = u120
                generalize ac.eval (.tmp 121) = u121
                generalize ac.eval (.tmp 122) = u122
                generalize ac.eval (.tmp 123) = u123
                generalize ac.eval (.tmp 124) = u124
                generalize ac.eval (.tmp 125) = u125
                generalize ac.eval (.tmp 126) = u126
                generalize ac.eval (.tmp 127) = u127
                generalize ac.eval (.tmp 128) = u128
                clear e129 hT hF ac
                obtain ⟨W11, hW11⟩ : ∃ u, u = w' := ⟨_, rfl⟩
                subst hW11
                have HS11 := Lib.hid (HS10.out.old hB)
                have HO11 := Lib.hid (HO10.out.trans (OnlyS.of_below hB))
                have HB11 := Lib.hid (below_step HB10.out (Nat.le_refl _) hB)
                clear hB HS10 HO10 HB10 HR2 HMC HGL HRX HGL2 HRX2 HRTL HRTR
                rcases Nat.eq_zero_or_pos t with ht0 | ht0
                · subst ht0
                  obtain ⟨hz0, hz7⟩ := HZ0.out rfl
                  obtain ⟨G, hG⟩ : ∃ G, G = shFz Z := ⟨_, rfl⟩
                  have hGw : G.win = 7 := by rw [hG]; exact hz7
                  have hGc : G.cnt = (N : Int) := by rw [hG]; show (Z.lvs.length : Int) = N; rw [HZL.out]
                  have hGr : G.root.length = 32 := by rw [hG]; exact shFz_root (by obtain ⟨_, _, _, hv⟩ := HS11.out; exact hv.l32)
                  have hokG : FzOk G := ⟨by rw [hGw]; unfold i64R; decide, by rw [hGc]; unfold i64R; omega, hGr⟩
                  have HCL := Lib.hid (shClose_ok HS11.out hz0 (fun e => by have := HZL.out; rw [e] at this; simp at this; omega) (HKW.out.old HB11.out))
                  rw [← hG] at HCL
                  obtain ⟨X2, hX2⟩ : ∃ Y : ShR, Y = ⟨Z.win, 1, Z.lvs, Z.rows, Z.stn⟩ := ⟨_, rfl⟩
                  rw [← hX2] at HCL
                  obtain ⟨T, hT⟩ : ∃ T, T = stMk [107, 101, 121] G 2000 := ⟨_, rfl⟩
                  have hTo : StOk T := by rw [hT]; exact stMk_okA _ _ _ hokG (by unfold i64R; decide)
                  have HSN2 : Hid (∀ u, Calls Tryd.prog 21 #[.string ⟨#[107, 101, 121]⟩, .agg (fzCs G).toArray, .int .i64 2000] u fun e w' => e = .returned (.agg (stCs T).toArray) ∧ Below u.heap.size u w') := Lib.hid fun u => by rw [hT]; exact rstMake_any ⟨#[107, 101, 121]⟩ (by decide) G hGr 2000 u
                  have HPR : Hid (∀ u, Shd S B X2 u → KT u → Calls Tryd.prog 20 #[.pointer (some ⟨B, 0, none⟩), .agg (stCs T).toArray] u fun e w' => e = .returned (.int .i64 0) ∧ Shd S B ⟨Z.win, 2, Z.lvs, Z.rows, T⟩ w' ∧ Only B u w') := Lib.hid fun u hs hk => by
                    have := shPrune_ok hs T hTo (by rw [hX2]) (by rw [hT, hG, hX2]; rfl) (by
                      rw [hT]
                      refine (stB_iff _).2 ⟨(fzB_iff _).2 ?_, (by show (0 : Int) ≤ 2000 ∧ (2000 : Int) ≤ 1125899906842624; decide)⟩
                      show (0 ≤ G.win ∧ G.win ≤ _) ∧ 1 ≤ G.cnt ∧ G.cnt ≤ 4000
                      rw [hGw, hGc]; omega) hk
                    rw [hX2] at this
                    exact this
                  have HGL : Hid ((fzCs G).toArray.size = 34) := Lib.hid (by rw [List.size_toArray]; exact fzCs_length hGr)
                  have HGR : Hid (G.root.length = 32) := Lib.hid hGr
                  have HGL2 : Hid ((fzCs G).length = 34) := Lib.hid (fzCs_length hGr)
                  clear hG hGw hGc hGr hokG hX2 hT hTo hz0 hz7
                  go_upto_region 30 with (first
                    | (go_at_call 19; (refine HCL.out.mono ?_; rintro e w6 ⟨rfl, hs6, o6⟩))
                    | refine wpList_store_mid (w := w6.alloc (.cells (fzCs fz0).toArray 44)) rfl 44 (.tmp 21) (.tmp 135) rfl w6.heap.size 0 (fzCs G).toArray rfl rfl (by rw [HGL.out]; exact Blk.there (Blk.alloc w6 44 (fzCs fz0)) (by rw [show (fzCs fz0).length = 34 from rfl]; decide)) (by rw [HGL.out]; exact HIF.out) one_cells ?_)
                  obtain ⟨f, hf⟩ : ∃ x, x = w6.heap.size := ⟨_, rfl⟩
                  obtain ⟨V6, hV6⟩ : ∃ u, u = (w6.alloc (.cells (fzCs fz0).toArray 44)).setCells w6.heap.size 0 (fzCs G) := ⟨_, rfl⟩
                  change Code.wp _ _ _ _ ((w6.alloc (.cells (fzCs fz0).toArray 44)).setCells w6.heap.size 0 (fzCs G))
                  rw [← hV6, ← hf]
                  have c6 : Below w6.heap.size w6 V6 := by rw [hV6]; exact below_setCells (Nat.le_refl _) _ _ _ (below_boxS _ _)
                  have hF : FzAt f G V6 := by rw [hV6, hf]; exact Blk.setAll (Blk.alloc w6 44 (fzCs fz0)) (by rw [HGL2.out]; rfl)
                  have hs6' := hs6.old c6
                  have hSB : S B := hs6.sk.1
                  have ho6 := (HO11.out.trans (OnlyS.of_only o6 hSB)).trans (OnlyS.of_below c6)
                  have hb6 := HB6.out.trans (ho6.below HSW.out HB6.out.size)
                  have HFR : Hid (∀ u, Below V6.heap.size V6 u → u.rangeAt f 0 (fzCs G)) := Lib.hid fun u hu => below_range' hu (Blk.lt hF) (Blk.all hF)
                  have HS6 := Lib.hid hs6'
                  have HO6' := Lib.hid ho6
                  have HSB := Lib.hid hSB
                  have HK6 := Lib.hid (HKW.out.old hb6)
                  clear hV6 hf c6 hF hb6 ho6 hs6' hs6 o6 hSB HCL HS11 HO11 HB11
                  go_upto_region 30 with fail
                  try simp only [Act.put]
                  refine wp_region_ph0 (Lx := GLf 0) [RXP.is (.int .i64 0), RXP.is (.bool false), RXP.is (.bool false), RXP.is (.pointer (some ⟨B, 0, none⟩)), RXP.is (.agg (fzCs G).toArray), RXP.is (.agg (stCs T).toArray), RXP.is (.int .i64 0), RXP.is (.bool false), RXP.is (.bool false)] [5, 6] (fun k w' => (k ≤ 1 → Below V6.heap.size V6 w') ∧ (k = 2 → Shd S B ⟨Z.win, 2, Z.lvs, Z.rows, T⟩ w' ∧ ∃ u, Below V6.heap.size V6 u ∧ Only B u w')) (by kernel_rfl) (by kernel_rfl) (by kernel_rfl) (by kernel_rfl) (by kernel_rfl) (⟨fun _ => Below.refl _ _, (fun h => absurd h (by decide))⟩) ⟨?_, ?_, ?_, ?_, ?_, ?_, ?_, ?_, ?_, trivial⟩ ?_
                  · intro ac w' ph hF hPh hlt hP hU K hK0
                    have e22 : ac.eval (.tmp 22) = .int .i64 0 := hF.at 22 (by kernel_rfl)
                    exact rop_move _ rfl e22 (wanted_none rfl) (hK0 _ _ GLf.same hPh rfl)
                  · intro ac w' ph hF hPh hlt hP hU K hK0
                    have e137 : ac.eval (.tmp 137) = .int .i64 0 := hP 0 (by kernel_rfl)
                    exact rop_bin _ _ _ _ _ rfl e137 rfl (guard_int _ _ _ _ _ _ _ w') (neq_errS 0 w') (wanted_none rfl) (hK0 _ _ GLf.same hPh rfl)
                  · intro ac w' ph hF hPh hlt hP hU K hK0
                    have e138 : ac.eval (.tmp 138) = .bool false := hP 1 (by kernel_rfl)
                    exact rop_move _ rfl e138 (wanted_none rfl) (hK0 _ _ GLf.same hPh rfl)
                  · intro ac w' ph hF hPh hlt hP hU K hK0
                    have e8 : ac.eval (.tmp 8) = .pointer (some ⟨B, 0, none⟩) := hF.at 8 (by kernel_rfl)
                    have e139 : ac.eval (.tmp 139) = .bool false := hP 2 (by kernel_rfl)
                    exact rop_move _ rfl e8 (wanted_of (j := 2) (b := false) rfl rfl e139) (hK0 _ _ GLf.same hPh rfl)
                  · intro ac w' ph hF hPh hlt hP hU K hK0
                    have hph : ph ≤ 0 := (hlt 0 5 rfl).2 (by kernel_rfl)
                    have e21 : ac.eval (.tmp 21) = .pointer (some ⟨f, 0, none⟩) := hF.at 21 (by kernel_rfl)
                    have e139 : ac.eval (.tmp 139) = .bool false := hP 2 (by kernel_rfl)
                    exact rop_ld _ _ rfl e21 (load_fzAt (HFR.out w' (hPh.1 (by omega))) HGR.out) (wanted_of (j := 2) (b := false) rfl rfl e139) (hK0 _ _ GLf.same hPh rfl)
                  · intro ac w' ph hF hPh hlt hP hU K hK0
                    obtain rfl : ph = 0 := (hlt 0 5 rfl).1 rfl
                    have e141 : ac.eval (.tmp 141) = .agg (fzCs G).toArray := hP 4 (by kernel_rfl)
                    have e139 : ac.eval (.tmp 139) = .bool false := hP 2 (by kernel_rfl)
                    have hB := hPh.1 (by decide)
                    refine rop_call 21 _ _ rfl #[.string ⟨#[107, 101, 121]⟩, .agg (fzCs G).toArray, .int .i64 2000] (by simp [e141, eval_const]) (by kernel_rfl) (wanted_of (j := 2) (b := false) rfl rfl e139) ?_
                    refine (HSN2.out w').mono ?_
                    rintro e w2 ⟨rfl, hb⟩
                    exact ⟨_, rfl, hK0 _ _ (GLf.own (by decide)) ⟨fun _ => below_step hB (Nat.le_refl _) hb, (fun h => absurd h (by decide))⟩ rfl⟩
                  · intro ac w' ph hF hPh hlt hP hU K hK0
                    obtain rfl : ph = 1 := (hlt 1 6 rfl).1 rfl
                    have e140 : ac.eval (.tmp 140) = .pointer (some ⟨B, 0, none⟩) := hP 3 (by kernel_rfl)
                    have e142 : ac.eval (.tmp 142) = .agg (stCs T).toArray := hP 5 (by kernel_rfl)
                    have e139 : ac.eval (.tmp 139) = .bool false := hP 2 (by kernel_rfl)
                    have hB := hPh.1 (by decide)
                    refine rop_call 20 _ _ rfl #[.pointer (some ⟨B, 0, none⟩), .agg (stCs T).toArray] (by simp [e140, e142]) (by kernel_rfl) (wanted_of (j := 2) (b := false) rfl rfl e139) ?_
                    refine (HPR.out w' (HS6.out.old hB) (HK6.out.old hB)).mono ?_
                    rintro e w2 ⟨rfl, hs, ho⟩
                    exact ⟨_, rfl, hK0 _ _ (GLf.own (by decide)) ⟨(fun h => absurd h (by decide)), fun _ => ⟨hs, w', hB, ho⟩⟩ rfl⟩
                  · intro ac w' ph hF hPh hlt hP hU K hK0
                    have e143 : ac.eval (.tmp 143) = .int .i64 0 := hP 6 (by kernel_rfl)
                    have e139 : ac.eval (.tmp 139) = .bool false := hP 2 (by kernel_rfl)
                    exact rop_bin _ _ _ _ _ rfl e143 rfl (guard_int _ _ _ _ _ _ _ w') (neq_errS 0 w') (wanted_of (j := 2) (b := false) rfl rfl e139) (hK0 _ _ GLf.same hPh rfl)
                  · intro ac w' ph hF hPh hlt hP hU K hK0
                    have e139 : ac.eval (.tmp 139) = .bool false := hP 2 (by kernel_rfl)
                    have e144 : ac.eval (.tmp 144) = .bool false := hP 7 (by kernel_rfl)
                    exact rop_pick _ _ _ rfl false e139 (by simpa using e144) (wanted_none rfl) (hK0 _ _ GLf.same hPh rfl)
                  · intro ac w' hF hPh hT
                    have e145 : ac.eval (.tmp 145) = .bool false := hT 8 (by decide)
                    rw [hF.setsG [137, 138, 139, 140, 141, 142, 143, 144, 145] (by kernel_rfl)]
                    simp only [List.foldl_cons, List.foldl_nil, List.setIfInBounds_toArray, List.set_cons_succ, List.set_cons_zero, e145]
                    generalize ac.eval (.tmp 137) = u137
                    generalize ac.eval (.tmp 138) = u138
                    generalize ac.eval (.tmp 139) = u139
                    generalize ac.eval (.tmp 140) = u140
                    generalize ac.eval (.tmp 141) = u141
                    generalize ac.eval (.tmp 142) = u142
                    generalize ac.eval (.tmp 143) = u143
                    generalize ac.eval (.tmp 144) = u144
                    clear e145 hT hF ac
                    obtain ⟨hs9, u8, b8, o9⟩ := hPh.2 rfl
                    have hoF := (HO6'.out.trans (OnlyS.of_below b8)).trans (OnlyS.of_only o9 HSB.out)
                    have hzF : Z.lvs = Y.lvs := HZY.out
                    obtain ⟨W12, hW12⟩ : ∃ u, u = w' := ⟨_, rfl⟩
                    subst hW12
                    clear hPh b8 o9 HFR HS6 HO6' HSN2 HPR HK6
                    have HSF := Lib.hid hs9
                    have HOF := Lib.hid hoF
                    have HZF := Lib.hid hzF
                    clear hs9 hoF hzF
                    go_wp2
                    go_roundw
                    case rel => exact ⟨1, ⟨Z.win, 2, Z.lvs, Z.rows, T⟩, by omega, by go_num, HSF.out, HOF.out, HZF.out, (fun h => absurd h (by decide)), fun _ => rfl⟩
                    case measure => simp [intOf]
                · have ht0' : ¬ (t : Int) = 0 := by omega
                  have ht0b : ((t : Int) == 0) = false := by simpa using ht0'
                  have hwJ := IntWalk.i64_in (1 + (J : Int)) (by omega)
                  have hz2 := HZ2.out ht0
                  have HST := Lib.hid (shStrip_any HS11.out hz2 (1 + (J : Int)))
                  clear hz2
                  go_upto_region 22 with (go_at_call 22; (refine HST.out.mono ?_; rintro e w12 ⟨rfl, hs12, o12⟩))
                  have HSF := Lib.hid hs12
                  have HOF := Lib.hid (HO11.out.trans o12)
                  have HZ2F := Lib.hid (HZ2.out ht0)
                  clear hs12 o12 HS11 HO11 HB11
                  go_wp2
                  go_roundw
                  case rel => exact ⟨t + 1, _, by omega, by go_num, HSF.out, HOF.out, HZY.out, (fun h => absurd h (by omega)), fun _ => HZ2F.out⟩
                  case measure => simp [intOf]; omega
            · have hc1 : ¬ (t : Int) < 3 := by omega
              rw [hW7] at hb7
              have HBF := Lib.hid hb7
              clear hs ho hb7 hW7
              go_wp2
              go_ret
              exact ⟨rfl, HBF.out⟩
set_option maxRecDepth 100000 in
theorem lifted (os : Os) (started : os.Started) (H : Type) (enc : TypeId × Value → H) :
    ReturnsInHanded {} Tryd.checked os 3 .any (fun w args => (Rows.shardLastsSpec.pre enc Tryd.prog Tryd.f3 [] false w args ∧ laidMetH Tryd.prog [("scrinium/sha.k", Rows.laid_scrinium_sha_k)] w) ∧ sizedMet enc Tryd.prog Tryd.f3 (OpenSpec.ofChange Rows.shardLastsSpec) false w args)
      (Rows.shardLastsSpec.post enc Tryd.prog Tryd.f3 false true false false) := by
  refine returnsInHanded_of_change_and (C := Tryd.checked) (X := fun w _ => laidMetH Tryd.prog [("scrinium/sha.k", Rows.laid_scrinium_sha_k)] w) (fun _ _ _ hh h => h.of_heap hh) lawOwn started (by kernel_rfl) Tryd.func3
    (ChangeSpec.witness_shaped (enc := enc) (C := Tryd.checked) (os := os) (X := fun w _ => laidMetH Tryd.prog [("scrinium/sha.k", Rows.laid_scrinium_sha_k)] w) false (World.doorLaid Tryd.prog 400 os) #[.slice none 0 0, .slice none 0 0, .int .i64 0] 8 rfl (World.shaped_of_RefB (by kernel_rfl) (by kernel_rfl)) (by kernel_rfl) (by kernel_rfl) (by kernel_rfl) (door_met os _)) ?_
  intro W base args ds gs before hval0 hW _ _ hL _
  have hval : ∀ (j : Nat) t v, Tryd.f3.params[j]? = some t → args[j]? = some v → Value.okWide Tryd.prog W .any base t v := hval0
  have hW' := hW
  obtain ⟨p, q, hA0, hV, rfl, hfz, hnd⟩ := hW
  have hA : DataW.TrodAll enc Tryd.prog W 0 (fun _ => true) true Tryd.f3.params.toList args.toList ds p := hA0
  rw [Tryd.params3] at hA hval
  obtain ⟨v0, vs0, d0, ds0, p0, q0, hargs, rfl, rfl, h0, r0⟩ := trodAll_cons hA
  obtain ⟨v1, vs1, d1, ds1, p1, q1, rfl, rfl, rfl, h1, r1⟩ := trodAll_cons r0
  obtain ⟨v2, vs2, d2, ds2, p2, q2, rfl, rfl, rfl, h2, r2⟩ := trodAll_cons r1
  obtain ⟨rfl, rfl, rfl⟩ := trodAll_nil r2
  obtain rfl : args = #[v0, v1, v2] := by cases args; simp_all
  obtain ⟨rfl, rfl⟩ := trodVars_none hV
  have hKT := KT_of_laid hL
  obtain ⟨a0, len0, cap0, rfl⟩ := okWide_slice Tryd.underlying22 (hval 0 22 v0 rfl rfl)
  obtain ⟨l0, w0, k0⟩ := ops17_of h0
  obtain ⟨a1, len1, cap1, rfl⟩ := okWide_slice Tryd.underlying22 (hval 1 22 v1 rfl rfl)
  obtain ⟨l1, w1, k1⟩ := ops17_of h1
  obtain ⟨a2, rfl, rfl, rfl, w2⟩ := open_int Tryd.underlying3 (hval 2 3 v2 rfl rfl) h2
  clear hA0 hval0
  obtain ⟨l2, m2⟩ := i64_bounds w2
  refine (walk (w := W) hKT _ l0 w0 k0 _ l1 w1 k1 a2 l2 m2).mono fun e W' ⟨he, bel⟩ => ?_
  subst he
  exact ⟨_, rfl, law_post rfl rfl (by kernel_rfl) hW' rfl bel⟩

theorem row_holds : Rows.ShardLastsSaid :=
  OpenClaim.holds_of_wide 3 Tryd.f3 rfl rfl rfl rfl rfl rfl rfl ⟨rfl, rfl, rfl, rfl, rfl⟩ rfl rfl rfl rfl rfl (by kernel_rfl) Tryd.func3 (by kernel_rfl)
    (of_decide_eq_true (by kernel_rfl)) (by unfold Func.isWrapper; first | (rw [if_pos (by decide +kernel)]; kernel_rfl) | (rw [if_neg (by decide +kernel)]; exact ⟨rfl, rfl⟩))
    (fun os started H enc _ => lifted os started H enc)

theorem holds : Rows.ShardLastsCardSaid :=
  Claim7.holds_tied_plain_at .later [] [.data] true Rows.shardLastsCard.stood.harness false
    row_holds (fun _ h => by cases h) (by kernel_rfl) (fun _ h => by cases h) shardLasts_row_tie rfl ⟨rfl, rfl⟩ (by kernel_rfl) rfl
    (fun f fn hf hfn => by
      obtain rfl : f = 3 := Option.some.inj ((show Tryd.prog.funcNamed "scrinium/scriniumlaw17.ShardLasts" = some 3 by kernel_rfl).symm.trans hf) |>.symm
      obtain rfl : fn = Tryd.f3 := (Option.some.inj (Tryd.func3.symm.trans hfn)).symm
      exact ⟨by kernel_rfl, fun j t ht => by
        rw [Tryd.params3] at ht
        have hm : t ∈ [22, 22, 3] := by simpa using Array.mem_of_getElem? ht
        have hall : ([22, 22, 3].all fun u => !Tryd.prog.wantsStandIn u) = true := by kernel_rfl
        exact (show Tryd.prog.wantsStandIn t = false by simpa using List.all_eq_true.1 hall t hm)⟩)
    (by kernel_rfl)
end Go.Proofs.YtollcdalokhjaaaDoor.shardLasts

theorem Go.Proofs.YtollcdalokhjaaaDoor.shardLasts_holds : Go.Proofs.YtollcdalokhjaaaDoor.Rows.ShardLastsCardSaid := Go.Proofs.YtollcdalokhjaaaDoor.shardLasts.holds
#print axioms Go.Proofs.YtollcdalokhjaaaDoor.shardLasts_holds
