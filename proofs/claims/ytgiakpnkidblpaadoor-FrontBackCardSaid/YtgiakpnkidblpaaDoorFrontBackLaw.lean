/-
  FrontBack: what was written is read, and goes on as what was written does; a copy goes its own way. For all hashes (the first 20 of them), every number (taken modulo one more than they are) and one hash more; the numbers K of the package sha are as the program's own start lays them.
-/
import Derived.Test.YtgiakpnkidblpaaDoorFrontAwake
namespace Go.Proofs.YtgiakpnkidblpaaDoor.frontBack
open Go.ChangeShapes Go.WideShapes Go.ChangeAt Go.RowKit

theorem place1 (a : Int) (n : Nat) : ∃ r : Int, a.tmod ((n : Int) + 1) = r ∧ ∃ m : Nat, m ≤ n ∧ ((r < 0 ∧ r = -(m : Int)) ∨ (¬ r < 0 ∧ r = (m : Int))) := by
  have h1 := Int.lt_tmod_of_pos a (show (0 : Int) < (n : Int) + 1 by omega)
  have h2 := Int.tmod_lt_of_pos a (show (0 : Int) < (n : Int) + 1 by omega)
  refine ⟨_, rfl, (a.tmod ((n : Int) + 1)).natAbs, by omega, ?_⟩
  by_cases hr : a.tmod ((n : Int) + 1) < 0
  · exact .inl ⟨hr, by omega⟩
  · exact .inr ⟨hr, by omega⟩
theorem add_iF (a b : Int) (h : IntKind.i64.wrap (a + b) = a + b) (w : World) : (binOp .add 3 (.int .i64 a) (.int .i64 b)).run Tryd.prog w = .ok (.int .i64 (a + b)) w := by
  go_simp
/-- What lasts all along. -/
structure BBase (w w1 : World) (fb : Nat) (u : World) : Prop where
  kt : KT u
  be : Below fb w1 u
  bw : Below w.heap.size w u
theorem BBase.old {w w1 : World} {fb : Nat} {u v : World} (h : BBase w w1 fb u) (k : Below u.heap.size u v) (h1 : fb ≤ u.heap.size) (_ : w.heap.size ≤ fb) : BBase w w1 fb v :=
  ⟨h.kt.old k, h.be.trans (k.mono h1), below_step h.bw (Nat.le_refl _) k⟩
theorem BBase.drew {w w1 : World} {fb : Nat} {u : World} (h : BBase w w1 fb u) (h1 : fb ≤ u.heap.size) (h2 : w.heap.size ≤ fb) : BBase w w1 fb u.drew := h.old (below_drew (Below.refl _ _)) h1 h2
theorem BBase.only {w w1 : World} {fb b : Nat} {u v : World} (h : BBase w w1 fb u) (k : Only b u v) (h0 : b ≠ 0) (hb : fb ≤ b) (h1 : fb ≤ u.heap.size) (h2 : w.heap.size ≤ fb) : BBase w w1 fb v :=
  ⟨h.kt.only k h0, h.be.trans (k.below hb h1), below_onlyF h.bw k (Nat.le_trans h2 hb) (Nat.le_refl _)⟩
set_option maxHeartbeats 8000000 in
set_option maxRecDepth 100000 in
theorem walk {w : World} (hK : KT w) (v : Value) (l : Hs) (hv : Sums w v l) (a : Int) (_ : -9223372036854775808 ≤ a) (_ : a ≤ 9223372036854775807) (y : List UInt8) (hy : y.length = 32) :
    Calls Tryd.prog 5 #[v, .int .i64 a, sumV y] w fun e w' => e = .returned (.bool true) ∧ Below w.heap.size w w' := by
  unfold sumV
  obtain ⟨V, hV⟩ : ∃ V, V = w.alloc (.cells (y.map u8V).toArray 31) := ⟨_, rfl⟩
  obtain ⟨q, hq⟩ : ∃ q, q = w.heap.size := ⟨_, rfl⟩
  have b0 : Below w.heap.size w V := by rw [hV]; exact (Below.refl _ _).alloc (Nat.le_refl _) _
  have hz : V.heap[q]? = some (.cells (y.map u8V).toArray 31 (0, 0)) := by rw [hV, hq]; exact heap_alloc_last _ _
  have HAW := Lib.hid (awake11_any V (hK.old b0))
  have HV := Lib.hid (hv.old b0)
  obtain ⟨r, hr⟩ : ∃ r, r = l.take 20 := ⟨_, rfl⟩
  have hrl : r.length ≤ 20 := by rw [hr, List.length_take]; omega
  have hro : all32 r := by rw [hr]; exact hv.ok.take 20
  obtain ⟨n, hn⟩ : ∃ n, n = r.length := ⟨_, rfl⟩
  have hn20 : n ≤ 20 := by omega
  obtain ⟨z, hzz, k, hk, hzk⟩ := place1 a n
  have hpos : 0 < w.heap.size := hK.pos
  have hnw := IntWalk.i64_in ((n : Int) + 1) (by omega)
  have hk9 := IntWalk.i64_in (k : Int) (by omega)
  have hk1w := IntWalk.i64_in ((k : Int) + 1) (by omega)
  have hn0 : ¬ (n : Int) + 1 = 0 := by omega
  have Hr := Lib.hid hr
  have Hro := Lib.hid hro
  have Hn := Lib.hid hn
  have HKW := Lib.hid hK
  have Hpos := Lib.hid hpos
  have HY := Lib.hid hy
  have HZ := Lib.hid hz
  have B0 := Lib.hid b0
  have Hq := Lib.hid hq
  clear hrl hr hn hv hK hro hpos hy hz b0 hq
  go_enter Tryd.func5, Tryd.ntmps5
  go_upto_region 1 with (fail)
  change Code.wp _ _ _ _ (w.alloc (.cells (y.map u8V).toArray 31))
  rw [← hV, ← Hq.out]
  clear hV
  rcases hzk with ⟨hz0, rfl⟩ | ⟨hz0, rfl⟩ <;>
  (go_wp2_with (first
    | (go_at_call 9; ((with_reducible refine HAW.out.mono ?_); rintro e w1 ⟨rfl, b1⟩))
    | (go_at_call 10; refine (few11_any _ l _ (HV.out.old b1)).mono ?_; rintro e w2 ⟨v8, rfl, h8, rfl⟩; rw [← Hr.out] at h8; have H8 := Lib.hid h8.1; obtain ⟨a8, c8, rfl, hc8, _⟩ := h8.1.slice; rw [← Hn.out] at H8 hc8 ⊢; clear h8)
    | (go_at_call 11; refine (new_fp _ (Nat.lt_of_lt_of_le Hpos.out (Nat.le_trans B0.out.size b1.size))).mono ?_; rintro e w3 ⟨rfl, f3, d3⟩))
   obtain ⟨fb, hfb⟩ : ∃ fb, fb = w1.heap.size := ⟨_, rfl⟩
   rw [← hfb] at f3 d3 ⊢
   have hqf : q < fb := by rw [hfb]; exact Nat.lt_of_lt_of_le (Array.getElem?_eq_some_iff.1 HZ.out).1 b1.size
   have b01 : Below w.heap.size w w1 := below_step B0.out (Nat.le_refl _) b1
   have hwf : w.heap.size ≤ fb := by rw [hfb]; exact b01.size
   have z1 := (b1.block q (Array.getElem?_eq_some_iff.1 HZ.out).1).trans HZ.out
   have HBB3 : Hid (BBase w w1 fb w3) := Lib.hid ⟨HKW.out.old (b01.trans (d3.mono hwf)), d3, b01.trans (d3.mono hwf)⟩
   have F3 : Hid (FP fb 0 (Tree.peaks (r.take 0)) w3) := Lib.hid f3
   have D3 : Hid (∀ u : World, Below fb w1 u → Sums u (.slice a8 n c8) r) := Lib.hid fun u hu => H8.out.old (by rw [← hfb]; exact hu)
   have Z1 : Hid (∀ u : World, Below fb w1 u → u.heap[q]? = some (.cells (y.map u8V).toArray 31 (0, 0))) := Lib.hid fun u hu => (hu.block q hqf).trans z1
   have H8b : Hid (∀ b off, a8 = some ⟨b, off, none⟩ → 0 < n → b < fb) := Lib.hid fun b off e hp => by
     obtain ⟨b', off', e', hb', -, -⟩ := H8.out.at 0 (by rw [← Hn.out]; exact hp)
     rw [e] at e'
     injection e' with e'
     injection e' with e1 _ _
     rw [hfb]; omega
   have Hwf := Lib.hid hwf
   have Hfb0 : Hid (fb ≠ 0) := Lib.hid F3.out.2.1
   clear f3 d3 hqf b01 hwf z1 hfb b1 HAW HV
   go_loopw [11] (fun s11 wr => ∃ i : Nat, s11 = .int .i64 (i : Int) ∧ i ≤ k ∧ FP fb i (Tree.peaks (r.take i)) wr ∧ BBase w w1 fb wr) (fun s11 _ => k - (intOf s11).toNat)
   case atStart => exact ⟨0, rfl, Nat.zero_le _, F3.out, HBB3.out⟩
   case round =>
     obtain ⟨i, rfl, hik, hf, hbb⟩ := hrel
     have HF := Lib.hid hf
     have HBB := Lib.hid hbb
     clear hf hbb
     by_cases hlt : i < k
     · have hlt' : (i : Int) < (k : Int) := by omega
       have hw1 := IntWalk.i64_in ((i : Int) + 1) (by omega)
       have hin : i < n := by omega
       obtain ⟨b, off, hab, hbl, -, hr4⟩ := (D3.out wr HBB.out.be).at i (by rw [← Hn.out]; exact hin)
       obtain ⟨x, hx⟩ : ∃ x, x = r[i]'(by rw [← Hn.out]; exact hin) := ⟨_, rfl⟩
       rw [← hx] at hr4
       have hxl : x.length = 32 := by rw [hx]; exact Hro.out _ (List.getElem_mem _)
       have hnx : Tree.addP i (Tree.peaks (r.take i)) x = Tree.peaks (r.take (i + 1)) := by
         rw [hx]
         exact addP_take r i (by rw [← Hn.out]; exact hin)
       have HAD : Hid (Calls Tryd.prog 20 #[.pointer (some ⟨fb, 0, none⟩), .agg (x.map u8V).toArray] wr fun e w' => e = .returned (.int .i64 ((i : Int) + 1)) ∧ FP fb (i + 1) (Tree.peaks (r.take (i + 1))) w' ∧ Only fb wr w') := Lib.hid (by
         rw [← hnx]
         exact add_fp fb i _ x wr HF.out (by omega) hxl HBB.out.kt)
       have hidx : ∀ u : World, (Instr.indexAt 22 (.slice a8 n c8) (.int .i64 (i : Int))).run Tryd.prog u = .ok (.pointer (some ⟨b, off + i * 32, none⟩)) u := fun u => by rw [hab]; exact index_sums b off n c8 i hin u
       have HXl := Lib.hid hxl
       have HR4 := Lib.hid hr4
       clear hx hr4 hxl hnx hbl hab
       go_wp2_with (first
         | refine wpList_load_mid rfl 31 (.tmp 40) rfl b (off + i * 32) rfl (x.map u8V) _ HR4.out Tryd.underlying31 rfl (sum_info' HXl.out) ?_
         | (go_at_call 20; ((with_reducible refine HAD.out.mono ?_); rintro e w9 ⟨rfl, f9, o9⟩)))
       go_roundw
       case rel => exact ⟨i + 1, by go_num, by omega, f9, HBB.out.only o9 Hfb0.out (Nat.le_refl _) (Nat.le_of_lt HF.out.lt) Hwf.out⟩
       case measure => simp [intOf]; omega
     · have hi' : i = k := by omega
       subst hi'
       have hlt' : ¬ (i : Int) < (i : Int) := by omega
       obtain ⟨P0, hP0⟩ : ∃ P0, P0 = Tree.peaks (r.take i) := ⟨_, rfl⟩
       have hf := HF.out
       rw [← hP0] at hf
       have HFk := Lib.hid hf
       have HP0 := Lib.hid hP0
       obtain ⟨S0, hS0⟩ : ∃ S0, S0 = frontB i P0 := ⟨_, rfl⟩
       have HBY : Hid (Calls Tryd.prog 18 #[.pointer (some ⟨fb, 0, none⟩)] wr fun e w' => e = .returned (.string S0) ∧ Below wr.heap.size wr w') := Lib.hid (by rw [hS0]; exact bytes_fp fb i P0 wr HFk.out)
       have HRD : Hid (∀ u : World, 0 < u.heap.size → Calls Tryd.prog 21 #[.string S0] u fun e w' => ∃ b, e = .returned (.tuple #[.pointer (some ⟨b, 0, none⟩), .int .i64 0]) ∧ u.heap.size ≤ b ∧ FP b i P0 w' ∧ Below u.heap.size u w') := Lib.hid fun u hu => by
         rw [hS0]
         exact read_fp i P0 u HFk.out.1 HFk.out.len HFk.out.ok hu
       have HCP : Hid (∀ u, FP fb i P0 u → Calls Tryd.prog 24 #[.pointer (some ⟨fb, 0, none⟩)] u fun e w' => e = .returned (.pointer (some ⟨u.heap.size, 0, none⟩)) ∧ FP u.heap.size i P0 w' ∧ Below u.heap.size u w') := Lib.hid fun u h => copy_fp fb i P0 u h
       clear hf hP0 hS0 HF F3 HBB3
       go_upto_region 15 with (first
         | (go_at_call 18; ((with_reducible refine HBY.out.mono ?_); rintro e w4 ⟨rfl, b4⟩))
         | (go_at_call 21; ((with_reducible refine (HRD.out _ (Nat.lt_of_lt_of_le (Nat.lt_of_le_of_lt (Nat.zero_le _) HFk.out.lt) b4.size)).mono ?_); rintro e w5 ⟨gb, rfl, hgb, g5, b5⟩; have F5 := Lib.hid ((HFk.out.old b4).old b5); have G5 := Lib.hid g5; have BB5 := Lib.hid ((HBB.out.old b4 (Nat.le_of_lt HFk.out.lt) Hwf.out).old b5 (Nat.le_of_lt (HFk.out.old b4).lt) Hwf.out); have Hgf : Hid (gb ≠ fb) := Lib.hid (by have := (HFk.out.old b4).lt; omega); have Hfg : Hid (fb ≤ gb) := Lib.hid (by have := (HFk.out.old b4).lt; omega); clear g5 hgb b4 b5))
         | (go_at_call 24; ((with_reducible refine (HCP.out _ F5.out).mono ?_); rintro e w6 ⟨rfl, c6, b6⟩)))
       obtain ⟨cb, hcb⟩ : ∃ cb, cb = w5.heap.size := ⟨_, rfl⟩
       rw [← hcb] at c6 ⊢
       have C6 := Lib.hid c6
       have F6 := Lib.hid (F5.out.old b6)
       have G6 := Lib.hid (G5.out.old b6)
       have BB6 := Lib.hid (BB5.out.old b6 (Nat.le_of_lt F5.out.lt) Hwf.out)
       have Hcf : Hid (cb ≠ fb) := Lib.hid (by have := F5.out.lt; omega)
       have Hcg : Hid (cb ≠ gb) := Lib.hid (by have := G5.out.lt; omega)
       have Hfc : Hid (fb ≤ cb) := Lib.hid (by have := F5.out.lt; omega)
       clear hcb c6 b6 F5 G5 BB5 HBB HFk
       try simp only [Act.put]
       refine wp_region_tab0 [RT.is (.pointer (some ⟨gb, 0, none⟩)), RT.is (.bool false), RT.is (.bool false), RT.is (.pointer (some ⟨cb, 0, none⟩)), RT.is (.bool false), RT.is (.bool false), RT.is (.bool false), RT.is (.int .i64 0), RT.is (.bool false), RT.is (.bool false)] (by kernel_rfl) (by kernel_rfl) (by kernel_rfl) ⟨?_, ?_, ?_, ?_, ?_, ?_, ?_, ?_, ?_, ?_, trivial⟩ ?_
       · intro ac w' hF hL hP hU K hK
         have hB : Below _ _ _ := hL
         have e12 : ac.eval (.tmp 12) = .pointer (some ⟨gb, 0, none⟩) := hF.at 12 (by kernel_rfl)
         exact rop_move _ rfl e12 (wanted_none rfl) (hK _ _ (le8_refl _) rfl)
       · intro ac w' hF hL hP hU K hK
         have hB : Below _ _ _ := hL
         have e51 : ac.eval (.tmp 51) = .pointer (some ⟨gb, 0, none⟩) := hP 0 (by kernel_rfl)
         exact rop_bin _ _ _ _ _ rfl e51 rfl (guard_ptr _ _ _ _ _ _ w') (eql_ptr_none gb w') (wanted_none rfl) (hK _ _ (le8_refl _) rfl)
       · intro ac w' hF hL hP hU K hK
         have hB : Below _ _ _ := hL
         have e52 : ac.eval (.tmp 52) = .bool false := hP 1 (by kernel_rfl)
         exact rop_move _ rfl e52 (wanted_none rfl) (hK _ _ (le8_refl _) rfl)
       · intro ac w' hF hL hP hU K hK
         have hB : Below _ _ _ := hL
         have e14 : ac.eval (.tmp 14) = .pointer (some ⟨cb, 0, none⟩) := hF.at 14 (by kernel_rfl)
         have e53 : ac.eval (.tmp 53) = .bool false := hP 2 (by kernel_rfl)
         exact rop_move _ rfl e14 (wanted_of (j := 2) (b := false) rfl rfl e53) (hK _ _ (le8_refl _) rfl)
       · intro ac w' hF hL hP hU K hK
         have hB : Below _ _ _ := hL
         have e54 : ac.eval (.tmp 54) = .pointer (some ⟨cb, 0, none⟩) := hP 3 (by kernel_rfl)
         have e53 : ac.eval (.tmp 53) = .bool false := hP 2 (by kernel_rfl)
         exact rop_bin _ _ _ _ _ rfl e54 rfl (guard_ptr _ _ _ _ _ _ w') (eql_ptr_none cb w') (wanted_of (j := 2) (b := false) rfl rfl e53) (hK _ _ (le8_refl _) rfl)
       · intro ac w' hF hL hP hU K hK
         have hB : Below _ _ _ := hL
         have e53 : ac.eval (.tmp 53) = .bool false := hP 2 (by kernel_rfl)
         have e55 : ac.eval (.tmp 55) = .bool false := hP 4 (by kernel_rfl)
         exact rop_pick _ _ _ rfl false e53 (by simpa using e55) (wanted_none rfl) (hK _ _ (le8_refl _) rfl)
       · intro ac w' hF hL hP hU K hK
         have hB : Below _ _ _ := hL
         have e56 : ac.eval (.tmp 56) = .bool false := hP 5 (by kernel_rfl)
         exact rop_move _ rfl e56 (wanted_none rfl) (hK _ _ (le8_refl _) rfl)
       · intro ac w' hF hL hP hU K hK
         have hB : Below _ _ _ := hL
         have e13 : ac.eval (.tmp 13) = .int .i64 0 := hF.at 13 (by kernel_rfl)
         have e57 : ac.eval (.tmp 57) = .bool false := hP 6 (by kernel_rfl)
         exact rop_move _ rfl e13 (wanted_of (j := 6) (b := false) rfl rfl e57) (hK _ _ (le8_refl _) rfl)
       · intro ac w' hF hL hP hU K hK
         have hB : Below _ _ _ := hL
         have e58 : ac.eval (.tmp 58) = .int .i64 0 := hP 7 (by kernel_rfl)
         have e57 : ac.eval (.tmp 57) = .bool false := hP 6 (by kernel_rfl)
         exact rop_bin _ _ _ _ _ rfl e58 rfl (guard_int _ _ _ _ _ _ _ w') (neq_errT _ w') (wanted_of (j := 6) (b := false) rfl rfl e57) (hK _ _ (le8_refl _) rfl)
       · intro ac w' hF hL hP hU K hK
         have hB : Below _ _ _ := hL
         have e57 : ac.eval (.tmp 57) = .bool false := hP 6 (by kernel_rfl)
         have e59 : ac.eval (.tmp 59) = .bool false := hP 8 (by kernel_rfl)
         exact rop_pick _ _ _ rfl false e57 (by simpa using e59) (wanted_none rfl) (hK _ _ (le8_refl _) rfl)
       · intro ac w' hF hB hT
         have e60 : ac.eval (.tmp 60) = .bool false := hT 9 (by decide)
         rw [hF.setsG [51, 52, 53, 54, 55, 56, 57, 58, 59, 60] (by kernel_rfl)]
         simp only [List.foldl_cons, List.foldl_nil, List.setIfInBounds_toArray, List.set_cons_succ, List.set_cons_zero, e60]
         generalize ac.eval (.tmp 51) = u51
         generalize ac.eval (.tmp 52) = u52
         generalize ac.eval (.tmp 53) = u53
         generalize ac.eval (.tmp 54) = u54
         generalize ac.eval (.tmp 55) = u55
         generalize ac.eval (.tmp 56) = u56
         generalize ac.eval (.tmp 57) = u57
         generalize ac.eval (.tmp 58) = u58
         generalize ac.eval (.tmp 59) = u59
         clear e60 hT hF ac
         obtain ⟨w7, h7⟩ : ∃ u, u = w' := ⟨_, rfl⟩
         subst h7
         have F7 := Lib.hid (F6.out.old hB)
         have G7 := Lib.hid (G6.out.old hB)
         have C7 := Lib.hid (C6.out.old hB)
         have BB7 := Lib.hid (BB6.out.old hB (Nat.le_of_lt F6.out.lt) Hwf.out)
         clear hB F6 G6 C6 BB6
         obtain ⟨D, hD⟩ : ∃ D, D = Tree.rootP P0 := ⟨_, rfl⟩
         have hDl : D.length = 32 := by rw [hD]; exact Tree.rootP_length _ F7.out.ok
         have HR0 : Hid (∀ u, FP fb i P0 u → KT u → Calls Tryd.prog 16 #[.pointer (some ⟨fb, 0, none⟩)] u fun e w' => e = .returned (sumV D) ∧ Below u.heap.size u w') := Lib.hid fun u h hk => by rw [hD]; exact root_fp fb i P0 u h hk
         have HDl := Lib.hid hDl
         clear hD hDl
         go_upto_region 18 with (first
           | (go_at_call 16; ((with_reducible refine (HR0.out _ F7.out BB7.out.kt).mono ?_); rintro e w8 ⟨rfl, b8⟩; have t8 := heap_alloc_last w8 zSum; obtain ⟨z8, y8⟩ := var_sumF w8 D HDl.out))
           | refine wpList_store_mid rfl 31 (.tmp 15) (.tmp 62) rfl w8.heap.size 0 (D.map u8V).toArray rfl rfl (sum_there t8 HDl.out) (sum_info HDl.out) (sum_one D) ?_)
         change Code.wp _ _ _ _ ((w8.alloc zSum).setCells w8.heap.size 0 (D.map u8V))
         obtain ⟨qh, hqh⟩ : ∃ q, q = w8.heap.size := ⟨_, rfl⟩
         obtain ⟨w9, hw9⟩ : ∃ u, u = (w8.alloc zSum).setCells w8.heap.size 0 (D.map u8V) := ⟨_, rfl⟩
         rw [← hw9] at z8 y8 ⊢
         have k9 := below_step b8 (Nat.le_refl _) y8
         rw [← hqh] at z8 ⊢
         have F9 := Lib.hid (F7.out.old k9)
         have G9 := Lib.hid (G7.out.old k9)
         have C9 := Lib.hid (C7.out.old k9)
         have BB9 := Lib.hid (BB7.out.old k9 (Nat.le_of_lt F7.out.lt) Hwf.out)
         have Z9 := Lib.hid z8
         have Hqc : Hid (qh ≠ cb) := Lib.hid (by have := C7.out.lt; have := b8.size; omega)
         have HZy := Lib.hid (Z1.out w9 BB9.out.be)
         have HAC : Hid (Calls Tryd.prog 20 #[.pointer (some ⟨cb, 0, none⟩), .agg (y.map u8V).toArray] w9 fun e w' => e = .returned (.int .i64 ((i + 1 : Nat) : Int)) ∧ FP cb (i + 1) (Tree.addP i P0 y) w' ∧ Only cb w9 w') := Lib.hid (add_fp cb i P0 y w9 C9.out (by omega) HY.out BB9.out.kt)
         clear hqh hw9 z8 y8 k9 t8 b8 F7 G7 C7 BB7
         go_upto_region 19 with (first
           | refine wpList_load_mid rfl 31 (.tmp 5) rfl q 0 rfl (y.map u8V) _ (range_of HZy.out) Tryd.underlying31 rfl (sum_info' HY.out) ?_
           | (go_at_call 20; ((with_reducible refine HAC.out.mono ?_); rintro e x1 ⟨rfl, c1, o1⟩)))
         have F1 := Lib.hid (F9.out.kept o1 (Ne.symm Hcf.out))
         have G1 := Lib.hid (G9.out.kept o1 (Ne.symm Hcg.out))
         have C1 := Lib.hid c1
         have BB1 := Lib.hid (BB9.out.only o1 C9.out.2.1 Hfc.out (Nat.le_of_lt F9.out.lt) Hwf.out)
         have HRh := Lib.hid (range_of ((o1.block qh (Array.getElem?_eq_some_iff.1 Z9.out).1 Hqc.out).trans Z9.out))
         have HQh : Hid (qh < x1.heap.size) := Lib.hid (Nat.lt_of_lt_of_le (Array.getElem?_eq_some_iff.1 Z9.out).1 o1.size)
         have HRT : Hid (∀ u, Below x1.heap.size x1 u → Calls Tryd.prog 16 #[.pointer (some ⟨fb, 0, none⟩)] u fun e w' => e = .returned (sumV D) ∧ Below u.heap.size u w') := Lib.hid fun u hu => HR0.out u (F1.out.old hu) (BB1.out.kt.old hu)
         have HSF : Hid (∀ u, Below x1.heap.size x1 u → Calls Tryd.prog 15 #[.pointer (some ⟨fb, 0, none⟩)] u fun e w' => e = .returned (.int .i64 (i : Int)) ∧ Below u.heap.size u w') := Lib.hid fun u hu => (size_fp fb i P0 u (F1.out.old hu)).mono fun e w' ⟨h1, h2⟩ => ⟨h1, h2 ▸ Below.refl _ _⟩
         have HSC : Hid (∀ u, Below x1.heap.size x1 u → Calls Tryd.prog 15 #[.pointer (some ⟨cb, 0, none⟩)] u fun e w' => e = .returned (.int .i64 ((i : Int) + 1)) ∧ Below u.heap.size u w') := Lib.hid fun u hu => (size_fp cb (i + 1) _ u (C1.out.old hu)).mono fun e w' ⟨h1, h2⟩ => ⟨h1, h2 ▸ Below.refl _ _⟩
         clear c1 o1 F9 G9 C9 BB9 Z9 HZy HAC
         try simp only [Act.put]
         refine wp_region_tab [RT.is (.pointer (some ⟨fb, 0, none⟩)), RT.is (sumV D), RT.is (sumV D), RT.is (.bool false), RT.is (.bool false), RT.is (.pointer (some ⟨fb, 0, none⟩)), RT.is (.int .i64 (i : Int)), RT.is (.int .i64 (i : Int)), RT.is (.bool false), RT.is (.bool false), RT.is (.bool false), RT.is (.pointer (some ⟨cb, 0, none⟩)), RT.is (.int .i64 ((i : Int) + 1)), RT.is (.int .i64 (i : Int)), RT.is (.int .i64 ((i : Int) + 1)), RT.is (.bool false), RT.is (.bool false)] (by kernel_rfl) (by kernel_rfl) (by kernel_rfl) (by kernel_rfl) ⟨?_, ?_, ?_, ?_, ?_, ?_, ?_, ?_, ?_, ?_, ?_, ?_, ?_, ?_, ?_, ?_, ?_, trivial⟩ ?_
         · intro ac w' hF hL hP hU K hK
           have hB := below_undrew hL
           have e10 : ac.eval (.tmp 10) = .pointer (some ⟨fb, 0, none⟩) := hF.at 10 (by kernel_rfl)
           exact rop_move _ rfl e10 (wanted_none rfl) (hK _ _ (le8_refl _) rfl)
         · intro ac w' hF hL hP hU K hK
           have hB := below_undrew hL
           have e66 : ac.eval (.tmp 66) = .pointer (some ⟨fb, 0, none⟩) := hP 0 (by kernel_rfl)
           refine rop_call 16 _ _ rfl #[.pointer (some ⟨fb, 0, none⟩)] (by simp [e66]) (by kernel_rfl) (wanted_none rfl) ?_
           refine (HRT.out w' hB).mono ?_
           rintro e w2 ⟨rfl, hb⟩
           exact ⟨_, rfl, hK _ _ hb rfl⟩
         · intro ac w' hF hL hP hU K hK
           have hB := below_undrew hL
           have e15 : ac.eval (.tmp 15) = .pointer (some ⟨qh, 0, none⟩) := hF.at 15 (by kernel_rfl)
           exact rop_ld _ _ rfl e15 (run_loadAt_mid _ _ _ _ _ _ (below_range hB HQh.out HRh.out) Tryd.underlying31 rfl (sum_info' HDl.out)) (wanted_none rfl) (hK _ _ (le8_refl _) rfl)
         · intro ac w' hF hL hP hU K hK
           have hB := below_undrew hL
           have e67 : ac.eval (.tmp 67) = sumV D := hP 1 (by kernel_rfl)
           have e68 : ac.eval (.tmp 68) = sumV D := hP 2 (by kernel_rfl)
           exact rop_bin _ _ _ _ _ rfl e67 e68 (guard_run .neq _ _ _ _ w') (neq_sum_ff D D HDl.out HDl.out rfl w') (wanted_none rfl) (hK _ _ (le8_refl _) rfl)
         · intro ac w' hF hL hP hU K hK
           have hB := below_undrew hL
           have e69 : ac.eval (.tmp 69) = .bool false := hP 3 (by kernel_rfl)
           exact rop_move _ rfl e69 (wanted_none rfl) (hK _ _ (le8_refl _) rfl)
         · intro ac w' hF hL hP hU K hK
           have hB := below_undrew hL
           have e10 : ac.eval (.tmp 10) = .pointer (some ⟨fb, 0, none⟩) := hF.at 10 (by kernel_rfl)
           have e70 : ac.eval (.tmp 70) = .bool false := hP 4 (by kernel_rfl)
           exact rop_move _ rfl e10 (wanted_of (j := 4) (b := false) rfl rfl e70) (hK _ _ (le8_refl _) rfl)
         · intro ac w' hF hL hP hU K hK
           have hB := below_undrew hL
           have e71 : ac.eval (.tmp 71) = .pointer (some ⟨fb, 0, none⟩) := hP 5 (by kernel_rfl)
           have e70 : ac.eval (.tmp 70) = .bool false := hP 4 (by kernel_rfl)
           refine rop_call 15 _ _ rfl #[.pointer (some ⟨fb, 0, none⟩)] (by simp [e71]) (by kernel_rfl) (wanted_of (j := 4) (b := false) rfl rfl e70) ?_
           refine (HSF.out w' hB).mono ?_
           rintro e w2 ⟨rfl, hb⟩
           exact ⟨_, rfl, hK _ _ hb rfl⟩
         · intro ac w' hF hL hP hU K hK
           have hB := below_undrew hL
           have e9 : ac.eval (.tmp 9) = .int .i64 (i : Int) := hF.at 9 (by kernel_rfl)
           have e70 : ac.eval (.tmp 70) = .bool false := hP 4 (by kernel_rfl)
           exact rop_move _ rfl e9 (wanted_of (j := 4) (b := false) rfl rfl e70) (hK _ _ (le8_refl _) rfl)
         · intro ac w' hF hL hP hU K hK
           have hB := below_undrew hL
           have e72 : ac.eval (.tmp 72) = .int .i64 (i : Int) := hP 6 (by kernel_rfl)
           have e73 : ac.eval (.tmp 73) = .int .i64 (i : Int) := hP 7 (by kernel_rfl)
           have e70 : ac.eval (.tmp 70) = .bool false := hP 4 (by kernel_rfl)
           exact rop_bin _ _ _ _ _ rfl e72 e73 (guard_int _ _ _ _ _ _ _ w') (neq_iT _ _ rfl w') (wanted_of (j := 4) (b := false) rfl rfl e70) (hK _ _ (le8_refl _) rfl)
         · intro ac w' hF hL hP hU K hK
           have hB := below_undrew hL
           have e70 : ac.eval (.tmp 70) = .bool false := hP 4 (by kernel_rfl)
           have e74 : ac.eval (.tmp 74) = .bool false := hP 8 (by kernel_rfl)
           exact rop_pick _ _ _ rfl false e70 (by simpa using e74) (wanted_none rfl) (hK _ _ (le8_refl _) rfl)
         · intro ac w' hF hL hP hU K hK
           have hB := below_undrew hL
           have e75 : ac.eval (.tmp 75) = .bool false := hP 9 (by kernel_rfl)
           exact rop_move _ rfl e75 (wanted_none rfl) (hK _ _ (le8_refl _) rfl)
         · intro ac w' hF hL hP hU K hK
           have hB := below_undrew hL
           have e14 : ac.eval (.tmp 14) = .pointer (some ⟨cb, 0, none⟩) := hF.at 14 (by kernel_rfl)
           have e76 : ac.eval (.tmp 76) = .bool false := hP 10 (by kernel_rfl)
           exact rop_move _ rfl e14 (wanted_of (j := 10) (b := false) rfl rfl e76) (hK _ _ (le8_refl _) rfl)
         · intro ac w' hF hL hP hU K hK
           have hB := below_undrew hL
           have e77 : ac.eval (.tmp 77) = .pointer (some ⟨cb, 0, none⟩) := hP 11 (by kernel_rfl)
           have e76 : ac.eval (.tmp 76) = .bool false := hP 10 (by kernel_rfl)
           refine rop_call 15 _ _ rfl #[.pointer (some ⟨cb, 0, none⟩)] (by simp [e77]) (by kernel_rfl) (wanted_of (j := 10) (b := false) rfl rfl e76) ?_
           refine (HSC.out w' hB).mono ?_
           rintro e w2 ⟨rfl, hb⟩
           exact ⟨_, rfl, hK _ _ hb rfl⟩
         · intro ac w' hF hL hP hU K hK
           have hB := below_undrew hL
           have e9 : ac.eval (.tmp 9) = .int .i64 (i : Int) := hF.at 9 (by kernel_rfl)
           have e76 : ac.eval (.tmp 76) = .bool false := hP 10 (by kernel_rfl)
           exact rop_move _ rfl e9 (wanted_of (j := 10) (b := false) rfl rfl e76) (hK _ _ (le8_refl _) rfl)
         · intro ac w' hF hL hP hU K hK
           have hB := below_undrew hL
           have e79 : ac.eval (.tmp 79) = .int .i64 (i : Int) := hP 13 (by kernel_rfl)
           have e76 : ac.eval (.tmp 76) = .bool false := hP 10 (by kernel_rfl)
           exact rop_bin _ _ _ _ _ rfl e79 rfl (guard_int _ _ _ _ _ _ _ w') (add_iF _ _ hk1w w') (wanted_of (j := 10) (b := false) rfl rfl e76) (hK _ _ (le8_refl _) rfl)
         · intro ac w' hF hL hP hU K hK
           have hB := below_undrew hL
           have e78 : ac.eval (.tmp 78) = .int .i64 ((i : Int) + 1) := hP 12 (by kernel_rfl)
           have e80 : ac.eval (.tmp 80) = .int .i64 ((i : Int) + 1) := hP 14 (by kernel_rfl)
           have e76 : ac.eval (.tmp 76) = .bool false := hP 10 (by kernel_rfl)
           exact rop_bin _ _ _ _ _ rfl e78 e80 (guard_int _ _ _ _ _ _ _ w') (neq_iT _ _ rfl w') (wanted_of (j := 10) (b := false) rfl rfl e76) (hK _ _ (le8_refl _) rfl)
         · intro ac w' hF hL hP hU K hK
           have hB := below_undrew hL
           have e76 : ac.eval (.tmp 76) = .bool false := hP 10 (by kernel_rfl)
           have e81 : ac.eval (.tmp 81) = .bool false := hP 15 (by kernel_rfl)
           exact rop_pick _ _ _ rfl false e76 (by simpa using e81) (wanted_none rfl) (hK _ _ (le8_refl _) rfl)
         · intro ac w' hF hB hT
           have e82 : ac.eval (.tmp 82) = .bool false := hT 16 (by decide)
           rw [hF.setsG [66, 67, 68, 69, 70, 71, 72, 73, 74, 75, 76, 77, 78, 79, 80, 81, 82] (by kernel_rfl)]
           simp only [List.foldl_cons, List.foldl_nil, List.setIfInBounds_toArray, List.set_cons_succ, List.set_cons_zero, e82]
           generalize ac.eval (.tmp 66) = u66
           generalize ac.eval (.tmp 67) = u67
           generalize ac.eval (.tmp 68) = u68
           generalize ac.eval (.tmp 69) = u69
           generalize ac.eval (.tmp 70) = u70
           generalize ac.eval (.tmp 71) = u71
           generalize ac.eval (.tmp 72) = u72
           generalize ac.eval (.tmp 73) = u73
           generalize ac.eval (.tmp 74) = u74
           generalize ac.eval (.tmp 75) = u75
           generalize ac.eval (.tmp 76) = u76
           generalize ac.eval (.tmp 77) = u77
           generalize ac.eval (.tmp 78) = u78
           generalize ac.eval (.tmp 79) = u79
           generalize ac.eval (.tmp 80) = u80
           generalize ac.eval (.tmp 81) = u81
           clear e82 hT hF ac
           obtain ⟨x2, h2⟩ : ∃ u, u = w' := ⟨_, rfl⟩
           subst h2
           have F2 : Hid (FP fb i (Tree.peaks (r.take i)) x2) := Lib.hid (by rw [← HP0.out]; exact F1.out.old hB)
           have G2 : Hid (FP gb i (Tree.peaks (r.take i)) x2) := Lib.hid (by rw [← HP0.out]; exact G1.out.old hB)
           have BB2 := Lib.hid (BB1.out.old hB (Nat.le_of_lt F1.out.lt) Hwf.out)
           clear hB F1 G1 C1 BB1 HRT HSF HSC HRh HQh HR0
           have Hgb0 : Hid (gb ≠ 0) := Lib.hid G2.out.2.1
           obtain ⟨k, hki⟩ : ∃ k, k = i := ⟨_, rfl⟩
           subst hki
           go_wp2
           go_loopw [16] (fun s16 wx => ∃ i : Nat, s16 = .int .i64 (i : Int) ∧ i ≤ n ∧ FP fb i (Tree.peaks (r.take i)) wx ∧ FP gb i (Tree.peaks (r.take i)) wx ∧ BBase w w1 fb wx) (fun s16 _ => n - (intOf s16).toNat)
           case atStart => exact ⟨k, rfl, hk, F2.out, G2.out, BB2.out⟩
           case round =>
             obtain ⟨i, rfl, hik2, hf, hg, hbb⟩ := hrel
             have HFx := Lib.hid hf
             have HGx := Lib.hid hg
             have HBB := Lib.hid hbb
             clear hf hg hbb
             by_cases hin : i < n
             · have hin' : (i : Int) < (n : Int) := by omega
               have hw1 := IntWalk.i64_in ((i : Int) + 1) (by omega)
               obtain ⟨b, off, hab, hbl, -, hr4⟩ := (D3.out wr HBB.out.be).at i (by rw [← Hn.out]; exact hin)
               obtain ⟨x, hx⟩ : ∃ x, x = r[i]'(by rw [← Hn.out]; exact hin) := ⟨_, rfl⟩
               obtain ⟨b', off', hab', -, -, hrI⟩ := (D3.out w1 (Below.refl _ _)).at i (by rw [← Hn.out]; exact hin)
               rw [hab] at hab'
               injection hab' with hab'
               injection hab' with q1 q2 _
               subst q1 q2
               rw [← hx] at hrI
               have hxl : x.length = 32 := by rw [hx]; exact Hro.out _ (List.getElem_mem _)
               obtain ⟨P, hP⟩ : ∃ P, P = Tree.peaks (r.take i) := ⟨_, rfl⟩
               obtain ⟨P2, hP2⟩ : ∃ P2, P2 = Tree.peaks (r.take (i + 1)) := ⟨_, rfl⟩
               have hnx : Tree.addP i P x = P2 := by
                 rw [hP, hP2, hx]
                 exact addP_take r i (by rw [← Hn.out]; exact hin)
               have hf := HFx.out
               have hg := HGx.out
               rw [← hP] at hf hg
               have HAD : Hid (∀ b u, FP b i P u → KT u → Calls Tryd.prog 20 #[.pointer (some ⟨b, 0, none⟩), sumV x] u fun e w' => e = .returned (.int .i64 ((i : Int) + 1)) ∧ FP b (i + 1) P2 w' ∧ Only b u w') := Lib.hid fun b u h hk => by
                 rw [← hnx]
                 exact add_fp b i P x u h (by omega) hxl hk
               obtain ⟨D2, hD2⟩ : ∃ D2, D2 = Tree.rootP P2 := ⟨_, rfl⟩
               obtain ⟨S2, hS2⟩ : ∃ S2, S2 = frontB (i + 1) P2 := ⟨_, rfl⟩
               have hP2o : all32 P2 := by rw [hP2]; exact Tree.peaks_all _ _ (Nat.le_refl _) (Hro.out.take _)
               have HD2l : Hid (D2.length = 32) := Lib.hid (by rw [hD2]; exact Tree.rootP_length _ hP2o)
               have HR2 : Hid (∀ b u, FP b (i + 1) P2 u → KT u → Calls Tryd.prog 16 #[.pointer (some ⟨b, 0, none⟩)] u fun e w' => e = .returned (sumV D2) ∧ Below u.heap.size u w') := Lib.hid fun b u h hk => by rw [hD2]; exact root_fp b (i + 1) P2 u h hk
               have HY2 : Hid (∀ b u, FP b (i + 1) P2 u → Calls Tryd.prog 18 #[.pointer (some ⟨b, 0, none⟩)] u fun e w' => e = .returned (.string S2) ∧ Below u.heap.size u w') := Lib.hid fun b u h => by rw [hS2]; exact bytes_fp b (i + 1) P2 u h
               have HbF := Lib.hid (H8b.out b off hab (by omega))
               have HRI := Lib.hid hrI
               have HXl := Lib.hid hxl
               have HFi := Lib.hid hf
               have HGi := Lib.hid hg
               have HPP2 := Lib.hid hP2
               have Hfl := Lib.hid (Nat.le_of_lt hf.lt)
               subst hab
               clear hx hr4 hrI hxl hP hP2 hnx hf hg hD2 hS2 hP2o hbl
               go_upto_region 24 with (fail)
               try simp only [Act.put]
               refine wp_region_ph (Lx := fun _ _ _ _ => True) [RXP.is (.pointer (some ⟨fb, 0, none⟩)), RXP.is (.slice (some ⟨b, off, none⟩) n c8), RXP.is (.int .i64 (i : Int)), RXP.is (.pointer (some ⟨b, off + i * 32, none⟩)), RXP.is (sumV x), RXP.is (.int .i64 ((i : Int) + 1)), RXP.is (.pointer (some ⟨gb, 0, none⟩)), RXP.is (.slice (some ⟨b, off, none⟩) n c8), RXP.is (.int .i64 (i : Int)), RXP.is (.pointer (some ⟨b, off + i * 32, none⟩)), RXP.is (sumV x), RXP.is (.int .i64 ((i : Int) + 1)), RXP.is (.bool false), RXP.is (.bool false), RXP.is (.pointer (some ⟨fb, 0, none⟩)), RXP.is (sumV D2), RXP.is (.pointer (some ⟨gb, 0, none⟩)), RXP.is (sumV D2), RXP.is (.bool false), RXP.is (.bool false), RXP.is (.bool false), RXP.is (.pointer (some ⟨fb, 0, none⟩)), RXP.is (.string S2), RXP.is (.pointer (some ⟨gb, 0, none⟩)), RXP.is (.string S2), RXP.is (.bool false), RXP.is (.bool false)] [5, 11, 13, 15, 17, 20, 22, 24] (fun k w' => BBase w w1 fb w' ∧ (k = 0 → FP fb i P w' ∧ FP gb i P w') ∧ (k = 1 → FP fb (i + 1) P2 w' ∧ FP gb i P w') ∧ (2 ≤ k → FP fb (i + 1) P2 w' ∧ FP gb (i + 1) P2 w')) (by kernel_rfl) (by kernel_rfl) (by kernel_rfl) (by kernel_rfl) (by kernel_rfl) (⟨HBB.out.drew Hfl.out Hwf.out, fun _ => ⟨HFi.out.old (below_drew (Below.refl _ _)), HGi.out.old (below_drew (Below.refl _ _))⟩, fun h => absurd h (by decide), fun h => absurd h (by decide)⟩) ⟨?_, ?_, ?_, ?_, ?_, ?_, ?_, ?_, ?_, ?_, ?_, ?_, ?_, ?_, ?_, ?_, ?_, ?_, ?_, ?_, ?_, ?_, ?_, ?_, ?_, ?_, ?_, trivial⟩ ?_
               · intro ac w' ph hF hPh hlt hP hU K hK0
                 have e10 : ac.eval (.tmp 10) = .pointer (some ⟨fb, 0, none⟩) := hF.at 10 (by kernel_rfl)
                 exact rop_move _ rfl e10 (wanted_none rfl) (hK0 _ _ trivial hPh rfl)
               · intro ac w' ph hF hPh hlt hP hU K hK0
                 have e8 : ac.eval (.tmp 8) = .slice (some ⟨b, off, none⟩) n c8 := hF.at 8 (by kernel_rfl)
                 exact rop_move _ rfl e8 (wanted_none rfl) (hK0 _ _ trivial hPh rfl)
               · intro ac w' ph hF hPh hlt hP hU K hK0
                 have e16 : ac.eval (.tmp 16) = .int .i64 (i : Int) := hF.at 16 (by kernel_rfl)
                 exact rop_move _ rfl e16 (wanted_none rfl) (hK0 _ _ trivial hPh rfl)
               · intro ac w' ph hF hPh hlt hP hU K hK0
                 have e91 : ac.eval (.tmp 91) = .slice (some ⟨b, off, none⟩) n c8 := hP 1 (by kernel_rfl)
                 have e92 : ac.eval (.tmp 92) = .int .i64 (i : Int) := hP 2 (by kernel_rfl)
                 exact rop_idx _ _ _ rfl e91 e92 (index_sums b off n c8 i hin w') (wanted_none rfl) (hK0 _ _ trivial hPh rfl)
               · intro ac w' ph hF hPh hlt hP hU K hK0
                 have e93 : ac.eval (.tmp 93) = .pointer (some ⟨b, off + i * 32, none⟩) := hP 3 (by kernel_rfl)
                 exact rop_ld _ _ rfl e93 (run_loadAt_mid _ _ _ _ _ _ (below_range' hPh.1.be HbF.out HRI.out) Tryd.underlying31 rfl (sum_info' HXl.out)) (wanted_none rfl) (hK0 _ _ trivial hPh rfl)
               · intro ac w' ph hF hPh hlt hP hU K hK0
                 obtain rfl : ph = 0 := (hlt 0 5 rfl).1 rfl
                 have e90 : ac.eval (.tmp 90) = .pointer (some ⟨fb, 0, none⟩) := hP 0 (by kernel_rfl)
                 have e94 : ac.eval (.tmp 94) = sumV x := hP 4 (by kernel_rfl)
                 refine rop_call 20 _ _ rfl #[.pointer (some ⟨fb, 0, none⟩), sumV x] (by simp [e90, e94]) (by kernel_rfl) (wanted_none rfl) ?_
                 refine (HAD.out fb w' (hPh.2.1 rfl).1 hPh.1.kt).mono ?_
                 rintro e w2 ⟨rfl, hf, ho⟩
                 exact ⟨_, rfl, hK0 _ _ trivial ⟨hPh.1.only ho Hfb0.out (Nat.le_refl _) (Nat.le_of_lt (hPh.2.1 rfl).1.lt) Hwf.out, fun h => absurd h (by decide), fun _ => ⟨hf, (hPh.2.1 rfl).2.kept ho Hgf.out⟩, fun h => absurd h (by decide)⟩ rfl⟩
               · intro ac w' ph hF hPh hlt hP hU K hK0
                 have e12 : ac.eval (.tmp 12) = .pointer (some ⟨gb, 0, none⟩) := hF.at 12 (by kernel_rfl)
                 exact rop_move _ rfl e12 (wanted_none rfl) (hK0 _ _ trivial hPh rfl)
               · intro ac w' ph hF hPh hlt hP hU K hK0
                 have e8 : ac.eval (.tmp 8) = .slice (some ⟨b, off, none⟩) n c8 := hF.at 8 (by kernel_rfl)
                 exact rop_move _ rfl e8 (wanted_none rfl) (hK0 _ _ trivial hPh rfl)
               · intro ac w' ph hF hPh hlt hP hU K hK0
                 have e16 : ac.eval (.tmp 16) = .int .i64 (i : Int) := hF.at 16 (by kernel_rfl)
                 exact rop_move _ rfl e16 (wanted_none rfl) (hK0 _ _ trivial hPh rfl)
               · intro ac w' ph hF hPh hlt hP hU K hK0
                 have e97 : ac.eval (.tmp 97) = .slice (some ⟨b, off, none⟩) n c8 := hP 7 (by kernel_rfl)
                 have e98 : ac.eval (.tmp 98) = .int .i64 (i : Int) := hP 8 (by kernel_rfl)
                 exact rop_idx _ _ _ rfl e97 e98 (index_sums b off n c8 i hin w') (wanted_none rfl) (hK0 _ _ trivial hPh rfl)
               · intro ac w' ph hF hPh hlt hP hU K hK0
                 have e99 : ac.eval (.tmp 99) = .pointer (some ⟨b, off + i * 32, none⟩) := hP 9 (by kernel_rfl)
                 exact rop_ld _ _ rfl e99 (run_loadAt_mid _ _ _ _ _ _ (below_range' hPh.1.be HbF.out HRI.out) Tryd.underlying31 rfl (sum_info' HXl.out)) (wanted_none rfl) (hK0 _ _ trivial hPh rfl)
               · intro ac w' ph hF hPh hlt hP hU K hK0
                 obtain rfl : ph = 1 := (hlt 1 11 rfl).1 rfl
                 have e96 : ac.eval (.tmp 96) = .pointer (some ⟨gb, 0, none⟩) := hP 6 (by kernel_rfl)
                 have e100 : ac.eval (.tmp 100) = sumV x := hP 10 (by kernel_rfl)
                 refine rop_call 20 _ _ rfl #[.pointer (some ⟨gb, 0, none⟩), sumV x] (by simp [e96, e100]) (by kernel_rfl) (wanted_none rfl) ?_
                 refine (HAD.out gb w' (hPh.2.2.1 rfl).2 hPh.1.kt).mono ?_
                 rintro e w2 ⟨rfl, hf, ho⟩
                 exact ⟨_, rfl, hK0 _ _ trivial ⟨hPh.1.only ho Hgb0.out Hfg.out (Nat.le_of_lt (hPh.2.2.1 rfl).1.lt) Hwf.out, fun h => absurd h (by decide), fun h => absurd h (by decide), fun _ => ⟨(hPh.2.2.1 rfl).1.kept ho (Ne.symm Hgf.out), hf⟩⟩ rfl⟩
               · intro ac w' ph hF hPh hlt hP hU K hK0
                 have e95 : ac.eval (.tmp 95) = .int .i64 ((i : Int) + 1) := hP 5 (by kernel_rfl)
                 have e101 : ac.eval (.tmp 101) = .int .i64 ((i : Int) + 1) := hP 11 (by kernel_rfl)
                 exact rop_bin _ _ _ _ _ rfl e95 e101 (guard_int _ _ _ _ _ _ _ w') (neq_iT _ _ rfl w') (wanted_none rfl) (hK0 _ _ trivial hPh rfl)
               · intro ac w' ph hF hPh hlt hP hU K hK0
                 obtain rfl : ph = 2 := (hlt 2 13 rfl).1 rfl
                 have e102 : ac.eval (.tmp 102) = .bool false := hP 12 (by kernel_rfl)
                 exact rop_move _ rfl e102 (wanted_none rfl) (hK0 _ _ trivial ⟨hPh.1, fun h => absurd h (by decide), fun h => absurd h (by decide), fun _ => hPh.2.2.2 (by decide)⟩ rfl)
               · intro ac w' ph hF hPh hlt hP hU K hK0
                 have e10 : ac.eval (.tmp 10) = .pointer (some ⟨fb, 0, none⟩) := hF.at 10 (by kernel_rfl)
                 have e103 : ac.eval (.tmp 103) = .bool false := hP 13 (by kernel_rfl)
                 exact rop_move _ rfl e10 (wanted_of (j := 13) (b := false) rfl rfl e103) (hK0 _ _ trivial hPh rfl)
               · intro ac w' ph hF hPh hlt hP hU K hK0
                 obtain rfl : ph = 3 := (hlt 3 15 rfl).1 rfl
                 have e104 : ac.eval (.tmp 104) = .pointer (some ⟨fb, 0, none⟩) := hP 14 (by kernel_rfl)
                 have e103 : ac.eval (.tmp 103) = .bool false := hP 13 (by kernel_rfl)
                 refine rop_call 16 _ _ rfl #[.pointer (some ⟨fb, 0, none⟩)] (by simp [e104]) (by kernel_rfl) (wanted_of (j := 13) (b := false) rfl rfl e103) ?_
                 refine (HR2.out fb w' (hPh.2.2.2 (by decide)).1 hPh.1.kt).mono ?_
                 rintro e w2 ⟨rfl, hb⟩
                 exact ⟨_, rfl, hK0 _ _ trivial ⟨hPh.1.old hb (Nat.le_of_lt (hPh.2.2.2 (by decide)).1.lt) Hwf.out, fun h => absurd h (by decide), fun h => absurd h (by decide), fun _ => ⟨(hPh.2.2.2 (by decide)).1.old hb, (hPh.2.2.2 (by decide)).2.old hb⟩⟩ rfl⟩
               · intro ac w' ph hF hPh hlt hP hU K hK0
                 have e12 : ac.eval (.tmp 12) = .pointer (some ⟨gb, 0, none⟩) := hF.at 12 (by kernel_rfl)
                 have e103 : ac.eval (.tmp 103) = .bool false := hP 13 (by kernel_rfl)
                 exact rop_move _ rfl e12 (wanted_of (j := 13) (b := false) rfl rfl e103) (hK0 _ _ trivial hPh rfl)
               · intro ac w' ph hF hPh hlt hP hU K hK0
                 obtain rfl : ph = 4 := (hlt 4 17 rfl).1 rfl
                 have e106 : ac.eval (.tmp 106) = .pointer (some ⟨gb, 0, none⟩) := hP 16 (by kernel_rfl)
                 have e103 : ac.eval (.tmp 103) = .bool false := hP 13 (by kernel_rfl)
                 refine rop_call 16 _ _ rfl #[.pointer (some ⟨gb, 0, none⟩)] (by simp [e106]) (by kernel_rfl) (wanted_of (j := 13) (b := false) rfl rfl e103) ?_
                 refine (HR2.out gb w' (hPh.2.2.2 (by decide)).2 hPh.1.kt).mono ?_
                 rintro e w2 ⟨rfl, hb⟩
                 exact ⟨_, rfl, hK0 _ _ trivial ⟨hPh.1.old hb (Nat.le_of_lt (hPh.2.2.2 (by decide)).1.lt) Hwf.out, fun h => absurd h (by decide), fun h => absurd h (by decide), fun _ => ⟨(hPh.2.2.2 (by decide)).1.old hb, (hPh.2.2.2 (by decide)).2.old hb⟩⟩ rfl⟩
               · intro ac w' ph hF hPh hlt hP hU K hK0
                 have e105 : ac.eval (.tmp 105) = sumV D2 := hP 15 (by kernel_rfl)
                 have e107 : ac.eval (.tmp 107) = sumV D2 := hP 17 (by kernel_rfl)
                 have e103 : ac.eval (.tmp 103) = .bool false := hP 13 (by kernel_rfl)
                 exact rop_bin _ _ _ _ _ rfl e105 e107 (guard_run .neq _ _ _ _ w') (neq_sum_ff D2 D2 HD2l.out HD2l.out rfl w') (wanted_of (j := 13) (b := false) rfl rfl e103) (hK0 _ _ trivial hPh rfl)
               · intro ac w' ph hF hPh hlt hP hU K hK0
                 have e103 : ac.eval (.tmp 103) = .bool false := hP 13 (by kernel_rfl)
                 have e108 : ac.eval (.tmp 108) = .bool false := hP 18 (by kernel_rfl)
                 exact rop_pick _ _ _ rfl false e103 (by simpa using e108) (wanted_none rfl) (hK0 _ _ trivial hPh rfl)
               · intro ac w' ph hF hPh hlt hP hU K hK0
                 obtain rfl : ph = 5 := (hlt 5 20 rfl).1 rfl
                 have e109 : ac.eval (.tmp 109) = .bool false := hP 19 (by kernel_rfl)
                 exact rop_move _ rfl e109 (wanted_none rfl) (hK0 _ _ trivial ⟨hPh.1, fun h => absurd h (by decide), fun h => absurd h (by decide), fun _ => hPh.2.2.2 (by decide)⟩ rfl)
               · intro ac w' ph hF hPh hlt hP hU K hK0
                 have e10 : ac.eval (.tmp 10) = .pointer (some ⟨fb, 0, none⟩) := hF.at 10 (by kernel_rfl)
                 have e110 : ac.eval (.tmp 110) = .bool false := hP 20 (by kernel_rfl)
                 exact rop_move _ rfl e10 (wanted_of (j := 20) (b := false) rfl rfl e110) (hK0 _ _ trivial hPh rfl)
               · intro ac w' ph hF hPh hlt hP hU K hK0
                 obtain rfl : ph = 6 := (hlt 6 22 rfl).1 rfl
                 have e111 : ac.eval (.tmp 111) = .pointer (some ⟨fb, 0, none⟩) := hP 21 (by kernel_rfl)
                 have e110 : ac.eval (.tmp 110) = .bool false := hP 20 (by kernel_rfl)
                 refine rop_call 18 _ _ rfl #[.pointer (some ⟨fb, 0, none⟩)] (by simp [e111]) (by kernel_rfl) (wanted_of (j := 20) (b := false) rfl rfl e110) ?_
                 refine (HY2.out fb w' (hPh.2.2.2 (by decide)).1).mono ?_
                 rintro e w2 ⟨rfl, hb⟩
                 exact ⟨_, rfl, hK0 _ _ trivial ⟨hPh.1.old hb (Nat.le_of_lt (hPh.2.2.2 (by decide)).1.lt) Hwf.out, fun h => absurd h (by decide), fun h => absurd h (by decide), fun _ => ⟨(hPh.2.2.2 (by decide)).1.old hb, (hPh.2.2.2 (by decide)).2.old hb⟩⟩ rfl⟩
               · intro ac w' ph hF hPh hlt hP hU K hK0
                 have e12 : ac.eval (.tmp 12) = .pointer (some ⟨gb, 0, none⟩) := hF.at 12 (by kernel_rfl)
                 have e110 : ac.eval (.tmp 110) = .bool false := hP 20 (by kernel_rfl)
                 exact rop_move _ rfl e12 (wanted_of (j := 20) (b := false) rfl rfl e110) (hK0 _ _ trivial hPh rfl)
               · intro ac w' ph hF hPh hlt hP hU K hK0
                 obtain rfl : ph = 7 := (hlt 7 24 rfl).1 rfl
                 have e113 : ac.eval (.tmp 113) = .pointer (some ⟨gb, 0, none⟩) := hP 23 (by kernel_rfl)
                 have e110 : ac.eval (.tmp 110) = .bool false := hP 20 (by kernel_rfl)
                 refine rop_call 18 _ _ rfl #[.pointer (some ⟨gb, 0, none⟩)] (by simp [e113]) (by kernel_rfl) (wanted_of (j := 20) (b := false) rfl rfl e110) ?_
                 refine (HY2.out gb w' (hPh.2.2.2 (by decide)).2).mono ?_
                 rintro e w2 ⟨rfl, hb⟩
                 exact ⟨_, rfl, hK0 _ _ trivial ⟨hPh.1.old hb (Nat.le_of_lt (hPh.2.2.2 (by decide)).1.lt) Hwf.out, fun h => absurd h (by decide), fun h => absurd h (by decide), fun _ => ⟨(hPh.2.2.2 (by decide)).1.old hb, (hPh.2.2.2 (by decide)).2.old hb⟩⟩ rfl⟩
               · intro ac w' ph hF hPh hlt hP hU K hK0
                 have e112 : ac.eval (.tmp 112) = .string S2 := hP 22 (by kernel_rfl)
                 have e114 : ac.eval (.tmp 114) = .string S2 := hP 24 (by kernel_rfl)
                 have e110 : ac.eval (.tmp 110) = .bool false := hP 20 (by kernel_rfl)
                 exact rop_bin _ _ _ _ _ rfl e112 e114 (guard_str _ _ _ _ _ _ w') (neq_str_f _ w') (wanted_of (j := 20) (b := false) rfl rfl e110) (hK0 _ _ trivial hPh rfl)
               · intro ac w' ph hF hPh hlt hP hU K hK0
                 have e110 : ac.eval (.tmp 110) = .bool false := hP 20 (by kernel_rfl)
                 have e115 : ac.eval (.tmp 115) = .bool false := hP 25 (by kernel_rfl)
                 exact rop_pick _ _ _ rfl false e110 (by simpa using e115) (wanted_none rfl) (hK0 _ _ trivial hPh rfl)
               · intro ac w' hF hPh hT
                 have e116 : ac.eval (.tmp 116) = .bool false := hT 26 (by decide)
                 rw [hF.setsG [90, 91, 92, 93, 94, 95, 96, 97, 98, 99, 100, 101, 102, 103, 104, 105, 106, 107, 108, 109, 110, 111, 112, 113, 114, 115, 116] (by kernel_rfl)]
                 simp only [List.foldl_cons, List.foldl_nil, List.setIfInBounds_toArray, List.set_cons_succ, List.set_cons_zero, e116]
                 generalize ac.eval (.tmp 90) = u90
                 generalize ac.eval (.tmp 91) = u91
                 generalize ac.eval (.tmp 92) = u92
                 generalize ac.eval (.tmp 93) = u93
                 generalize ac.eval (.tmp 94) = u94
                 generalize ac.eval (.tmp 95) = u95
                 generalize ac.eval (.tmp 96) = u96
                 generalize ac.eval (.tmp 97) = u97
                 generalize ac.eval (.tmp 98) = u98
                 generalize ac.eval (.tmp 99) = u99
                 generalize ac.eval (.tmp 100) = u100
                 generalize ac.eval (.tmp 101) = u101
                 generalize ac.eval (.tmp 102) = u102
                 generalize ac.eval (.tmp 103) = u103
                 generalize ac.eval (.tmp 104) = u104
                 generalize ac.eval (.tmp 105) = u105
                 generalize ac.eval (.tmp 106) = u106
                 generalize ac.eval (.tmp 107) = u107
                 generalize ac.eval (.tmp 108) = u108
                 generalize ac.eval (.tmp 109) = u109
                 generalize ac.eval (.tmp 110) = u110
                 generalize ac.eval (.tmp 111) = u111
                 generalize ac.eval (.tmp 112) = u112
                 generalize ac.eval (.tmp 113) = u113
                 generalize ac.eval (.tmp 114) = u114
                 generalize ac.eval (.tmp 115) = u115
                 clear e116 hT hF ac
                 obtain ⟨hbb9, -, -, h9⟩ := hPh
                 have f9 := (h9 (by decide)).1
                 have g9 := (h9 (by decide)).2
                 clear h9
                 rw [HPP2.out] at f9 g9
                 go_wp2
                 go_roundw
                 case rel => exact ⟨i + 1, by go_num, by omega, f9, g9, hbb9⟩
                 case measure => simp [intOf]; omega
             · have hi2 : i = n := by omega
               subst hi2
               have hin' : ¬ (i : Int) < (i : Int) := by omega
               have HSN : Hid (∀ u, Below wr.heap.size wr u → Calls Tryd.prog 15 #[.pointer (some ⟨fb, 0, none⟩)] u fun e w' => e = .returned (.int .i64 (i : Int)) ∧ Below u.heap.size u w') := Lib.hid fun u hu => (size_fp fb i _ u (HFx.out.old hu)).mono fun e w' ⟨h1, h2⟩ => ⟨h1, h2 ▸ Below.refl _ _⟩
               go_upto_region 26 with (fail)
               try simp only [Act.put]
               refine wp_region_tab0 [RT.is (.bool true), RT.is (.bool true), RT.is (.pointer (some ⟨fb, 0, none⟩)), RT.is (.int .i64 (i : Int)), RT.is (.slice a8 i c8), RT.is (.int .i64 (i : Int)), RT.is (.bool true), RT.is (.bool true), RT.is (.bool true)] (by kernel_rfl) (by kernel_rfl) (by kernel_rfl) ⟨?_, ?_, ?_, ?_, ?_, ?_, ?_, ?_, ?_, trivial⟩ ?_
               · intro ac w' hF hL hP hU K hK
                 have hB : Below _ _ _ := hL
                 have e7 : ac.eval (.tmp 7) = .bool true := hF.at 7 (by kernel_rfl)
                 exact rop_move _ rfl e7 (wanted_none rfl) (hK _ _ (le8_refl _) rfl)
               · intro ac w' hF hL hP hU K hK
                 have hB : Below _ _ _ := hL
                 have e117 : ac.eval (.tmp 117) = .bool true := hP 0 (by kernel_rfl)
                 exact rop_move _ rfl e117 (wanted_none rfl) (hK _ _ (le8_refl _) rfl)
               · intro ac w' hF hL hP hU K hK
                 have hB : Below _ _ _ := hL
                 have e10 : ac.eval (.tmp 10) = .pointer (some ⟨fb, 0, none⟩) := hF.at 10 (by kernel_rfl)
                 have e118 : ac.eval (.tmp 118) = .bool true := hP 1 (by kernel_rfl)
                 exact rop_move _ rfl e10 (wanted_of (j := 1) (b := true) rfl rfl e118) (hK _ _ (le8_refl _) rfl)
               · intro ac w' hF hL hP hU K hK
                 have hB : Below _ _ _ := hL
                 have e119 : ac.eval (.tmp 119) = .pointer (some ⟨fb, 0, none⟩) := hP 2 (by kernel_rfl)
                 have e118 : ac.eval (.tmp 118) = .bool true := hP 1 (by kernel_rfl)
                 refine rop_call 15 _ _ rfl #[.pointer (some ⟨fb, 0, none⟩)] (by simp [e119]) (by kernel_rfl) (wanted_of (j := 1) (b := true) rfl rfl e118) ?_
                 refine (HSN.out w' hB).mono ?_
                 rintro e w2 ⟨rfl, hb⟩
                 exact ⟨_, rfl, hK _ _ hb rfl⟩
               · intro ac w' hF hL hP hU K hK
                 have hB : Below _ _ _ := hL
                 have e8 : ac.eval (.tmp 8) = .slice a8 i c8 := hF.at 8 (by kernel_rfl)
                 have e118 : ac.eval (.tmp 118) = .bool true := hP 1 (by kernel_rfl)
                 exact rop_move _ rfl e8 (wanted_of (j := 1) (b := true) rfl rfl e118) (hK _ _ (le8_refl _) rfl)
               · intro ac w' hF hL hP hU K hK
                 have hB : Below _ _ _ := hL
                 have e121 : ac.eval (.tmp 121) = .slice a8 i c8 := hP 4 (by kernel_rfl)
                 have e118 : ac.eval (.tmp 118) = .bool true := hP 1 (by kernel_rfl)
                 exact rop_lenG _ Tryd.underlying22 rfl e121 (wanted_of (j := 1) (b := true) rfl rfl e118) (hK _ _ (le8_refl _) rfl)
               · intro ac w' hF hL hP hU K hK
                 have hB : Below _ _ _ := hL
                 have e120 : ac.eval (.tmp 120) = .int .i64 (i : Int) := hP 3 (by kernel_rfl)
                 have e122 : ac.eval (.tmp 122) = .int .i64 (i : Int) := hP 5 (by kernel_rfl)
                 have e118 : ac.eval (.tmp 118) = .bool true := hP 1 (by kernel_rfl)
                 exact rop_bin _ _ _ _ _ rfl e120 e122 (guard_int _ _ _ _ _ _ _ w') (eql_iT _ w') (wanted_of (j := 1) (b := true) rfl rfl e118) (hK _ _ (le8_refl _) rfl)
               · intro ac w' hF hL hP hU K hK
                 have hB : Below _ _ _ := hL
                 have e118 : ac.eval (.tmp 118) = .bool true := hP 1 (by kernel_rfl)
                 have e123 : ac.eval (.tmp 123) = .bool true := hP 6 (by kernel_rfl)
                 exact rop_pick _ _ _ rfl true e118 (by simpa using e123) (wanted_none rfl) (hK _ _ (le8_refl _) rfl)
               · intro ac w' hF hL hP hU K hK
                 have hB : Below _ _ _ := hL
                 have e124 : ac.eval (.tmp 124) = .bool true := hP 7 (by kernel_rfl)
                 exact rop_assign _ rfl e124 (wanted_none rfl) (hK _ _ (le8_refl _) rfl)
               · intro ac w' hF hB hT
                 have e6 : ac.eval (.tmp 6) = .bool true := hT 8 (by decide)
                 rw [hF.setsG [117, 118, 119, 120, 121, 122, 123, 124, 6] (by kernel_rfl)]
                 simp only [List.foldl_cons, List.foldl_nil, List.setIfInBounds_toArray, List.set_cons_succ, List.set_cons_zero, e6]
                 generalize ac.eval (.tmp 117) = u117
                 generalize ac.eval (.tmp 118) = u118
                 generalize ac.eval (.tmp 119) = u119
                 generalize ac.eval (.tmp 120) = u120
                 generalize ac.eval (.tmp 121) = u121
                 generalize ac.eval (.tmp 122) = u122
                 generalize ac.eval (.tmp 123) = u123
                 generalize ac.eval (.tmp 124) = u124
                 clear e6 hT hF ac
                 go_wp2
                 go_ret
                 exact ⟨rfl, below_step HBB.out.bw (Nat.le_refl _) hB⟩)
set_option maxRecDepth 100000 in
theorem lifted (os : Os) (started : os.Started) (H : Type) (enc : TypeId × Value → H) :
    ReturnsInHanded {} Tryd.checked os 5 .any (fun w args => (Rows.frontBackSpec.pre enc Tryd.prog Tryd.f5 [] false w args ∧ laidMetH Tryd.prog [("scrinium/sha.k", Rows.laid_scrinium_sha_k)] w) ∧ sizedMet enc Tryd.prog Tryd.f5 (OpenSpec.ofChange Rows.frontBackSpec) false w args)
      (Rows.frontBackSpec.post enc Tryd.prog Tryd.f5 false true false false) := by
  refine returnsInHanded_of_change_and (C := Tryd.checked) (X := fun w _ => laidMetH Tryd.prog [("scrinium/sha.k", Rows.laid_scrinium_sha_k)] w) (fun _ _ _ hh h => h.of_heap hh) lawOwn started (by kernel_rfl) Tryd.func5
    (ChangeSpec.witness_shaped (enc := enc) (C := Tryd.checked) (os := os) (X := fun w _ => laidMetH Tryd.prog [("scrinium/sha.k", Rows.laid_scrinium_sha_k)] w) false (World.doorLaid Tryd.prog 400 os) #[.slice none 0 0, .int .i64 0, sumV (List.replicate 32 0)] 8 rfl (World.shaped_of_RefB (by kernel_rfl) (by kernel_rfl)) (by kernel_rfl) (by kernel_rfl) (by kernel_rfl) (door_met os _)) ?_
  intro W base args ds gs before hval0 hW _ _ hL _
  have hval : ∀ (j : Nat) t v, Tryd.f5.params[j]? = some t → args[j]? = some v → Value.okWide Tryd.prog W .any base t v := hval0
  have hW' := hW
  obtain ⟨p, q, hA0, hV, rfl, hfz, hnd⟩ := hW
  have hA : DataW.TrodAll enc Tryd.prog W 0 (fun _ => true) true Tryd.f5.params.toList args.toList ds p := hA0
  rw [Tryd.params5] at hA hval
  obtain ⟨v0, vs0, d0, ds0, p0, q0, hargs, rfl, rfl, h0, r0⟩ := trodAll_cons hA
  obtain ⟨v1, vs1, d1, ds1, p1, q1, rfl, rfl, rfl, h1, r1⟩ := trodAll_cons r0
  obtain ⟨v2, vs2, d2, ds2, p2, q2, rfl, rfl, rfl, h2, r2⟩ := trodAll_cons r1
  obtain ⟨rfl, rfl, rfl⟩ := trodAll_nil r2
  obtain rfl : args = #[v0, v1, v2] := by cases args; simp_all
  obtain ⟨rfl, rfl⟩ := trodVars_none hV
  have hKT := KT_of_laid hL
  obtain ⟨a0, len0, cap0, rfl⟩ := okWide_slice Tryd.underlying22 (hval 0 22 v0 rfl rfl)
  obtain ⟨l0, w0⟩ := sums_of h0
  obtain ⟨a1, rfl, rfl, rfl, w1⟩ := open_int Tryd.underlying3 (hval 1 3 v1 rfl rfl) h1
  obtain ⟨x2, rfl, w2⟩ := open_sum (hval 2 31 v2 rfl rfl) h2
  clear hA0 hval0
  obtain ⟨l1, m1⟩ := i64_bounds w1
  refine (walk (w := W) hKT _ l0 w0 a1 l1 m1 x2 w2).mono fun e W' ⟨he, bel⟩ => ?_
  subst he
  exact ⟨_, rfl, law_post rfl rfl (by kernel_rfl) hW' rfl bel⟩

theorem row_holds : Rows.FrontBackSaid :=
  OpenClaim.holds_of_wide 5 Tryd.f5 rfl rfl rfl rfl rfl rfl rfl ⟨rfl, rfl, rfl, rfl, rfl⟩ rfl rfl rfl rfl rfl (by kernel_rfl) Tryd.func5 (by kernel_rfl)
    (of_decide_eq_true (by kernel_rfl)) (by unfold Func.isWrapper; first | (rw [if_pos (by decide +kernel)]; kernel_rfl) | (rw [if_neg (by decide +kernel)]; exact ⟨rfl, rfl⟩))
    (fun os started H enc _ => lifted os started H enc)

theorem holds : Rows.FrontBackCardSaid :=
  Claim7.holds_tied_plain_at .later [] [.data] true Rows.frontBackCard.stood.harness false
    row_holds (fun _ h => by cases h) (by kernel_rfl) (fun _ h => by cases h) frontBack_row_tie rfl ⟨rfl, rfl⟩ (by kernel_rfl) rfl
    (fun f fn hf hfn => by
      obtain rfl : f = 5 := Option.some.inj ((show Tryd.prog.funcNamed "scrinium/scriniumlaw11.FrontBack" = some 5 by kernel_rfl).symm.trans hf) |>.symm
      obtain rfl : fn = Tryd.f5 := (Option.some.inj (Tryd.func5.symm.trans hfn)).symm
      exact ⟨by kernel_rfl, fun j t ht => by
        rw [Tryd.params5] at ht
        have hm : t ∈ [22, 3, 31] := by simpa using Array.mem_of_getElem? ht
        have hall : ([22, 3, 31].all fun u => !Tryd.prog.wantsStandIn u) = true := by kernel_rfl
        exact (show Tryd.prog.wantsStandIn t = false by simpa using List.all_eq_true.1 hall t hm)⟩)
    (by kernel_rfl)
end Go.Proofs.YtgiakpnkidblpaaDoor.frontBack

theorem Go.Proofs.YtgiakpnkidblpaaDoor.frontBack_holds : Go.Proofs.YtgiakpnkidblpaaDoor.Rows.FrontBackCardSaid := Go.Proofs.YtgiakpnkidblpaaDoor.frontBack.holds
#print axioms Go.Proofs.YtgiakpnkidblpaaDoor.frontBack_holds
