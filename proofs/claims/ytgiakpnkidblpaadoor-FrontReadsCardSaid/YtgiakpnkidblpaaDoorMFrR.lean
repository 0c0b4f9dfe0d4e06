/-
  Several texts in one (RFrontRoot, RFrontRead).
-/
import Derived.Test.YtgiakpnkidblpaaDoorFrontRoot
import Derived.Test.YtgiakpnkidblpaaDoorFrontRead
/-! ## The document's own Root of peaks (scriniumref11). -/
namespace Go.Proofs.YtgiakpnkidblpaaDoor
open Go.RowKit

/-- Ahead of hash j - 1: what was put together, and what is left, come to D. -/
def RRel (P : Hs) (D : List UInt8) (rb : Nat) (w0 : World) (s4 : Value) (wr : World) : Prop :=
  ∃ (j : Nat) (X : List UInt8), ((j = 0 ∧ s4 = .int .i64 (-1)) ∨ ∃ m : Nat, j = m + 1 ∧ s4 = .int .i64 (m : Int)) ∧ j < P.length ∧ X.length = 32 ∧ (P.take j).foldr Tree.node X = D ∧ Below rb w0 wr ∧ wr.heap[rb]? = some (.cells (X.map u8V).toArray 31 (0, 0))
set_option maxHeartbeats 4000000 in
set_option maxRecDepth 100000 in
theorem rroot11_any (v : Value) (P : Hs) (w : World) (hv : Sums w v P) (hl : P.length ≤ 1000) :
    Calls Tryd.prog 23 #[v] w fun e w' => e = .returned (sumV (Tree.rootP P)) ∧ Below w.heap.size w w' := by
  obtain ⟨va, vc, rfl, -, -⟩ := hv.slice
  obtain ⟨w0, hw0⟩ : ∃ w0, w0 = w.alloc zSum := ⟨_, rfl⟩
  have b0 : Below w.heap.size w w0 := by rw [hw0]; exact (Below.refl _ _).alloc (Nat.le_refl _) _
  have z0 : w0.heap[w.heap.size]? = some (.cells ((List.replicate 32 (0 : UInt8)).map u8V).toArray 31 (0, 0)) := by rw [hw0]; exact heap_alloc_last _ _
  have Hz0 := Lib.hid z0
  have l0 : w.heap.size < w0.heap.size := by rw [hw0]; simp
  have hok := hv.ok
  obtain ⟨D, hD⟩ : ∃ D, D = Tree.rootP P := ⟨_, rfl⟩
  have hDl : D.length = 32 := by rw [hD]; exact Tree.rootP_length P hok
  rw [← hD]
  have HD := Lib.hid hD
  have HDl := Lib.hid hDl
  have HOK := Lib.hid hok
  obtain ⟨k, hm⟩ : ∃ k, k = P.length := ⟨_, rfl⟩
  clear z0 hok hD hDl
  by_cases h0 : k = 0
  · obtain rfl : P = [] := List.eq_nil_of_length_eq_zero (by omega)
    simp only [List.length_nil] at hv ⊢
    have hc : Calls Tryd.prog 32 #[.string ⟨#[]⟩] w0 fun e w' => e = .returned (sumV D) ∧ Below w0.heap.size w0 w' := by rw [HD.out]; exact rof_any ⟨#[]⟩ [] rfl w0 (by decide)
    have HC := Lib.hid hc
    have B0 := Lib.hid b0
    clear hc h0 hm hl b0 hv
    go_enter Tryd.func23, Tryd.ntmps23
    go_upto_region 1 with (fail)
    change Code.wp _ _ _ _ (w.alloc zSum)
    rw [← hw0]
    clear hw0
    go_wp2_with (first
      | (go_at_call 32; ((with_reducible refine HC.out.mono ?_); rintro e w2 ⟨rfl, b2⟩; have z2 := Lib.hid ((b2.block _ l0).trans Hz0.out)))
      | refine wpList_store_mid rfl 31 (.tmp 2) (.tmp 8) rfl w.heap.size 0 (D.map u8V).toArray rfl rfl (sum_there z2.out HDl.out) (sum_info HDl.out) (sum_one D) ?_)
    exact bodyPost_ret (v := sumV D) (results_cell (t := 2) (ty := 31) (b := w.heap.size) (cs := D.map u8V) rfl _ _ _ rfl (sum_range z2.out HDl.out) Tryd.underlying31 rfl (sum_info' HDl.out)) rfl ⟨rfl, below_setCells (Nat.le_refl _) _ _ _ (below_step B0.out (Nat.le_refl _) b2)⟩
  · obtain ⟨k1, hk1⟩ : ∃ k1, k = k1 + 1 := ⟨k - 1, by omega⟩
    obtain ⟨b, off, rfl, hbl, -, hr⟩ := hv.at k1 (by omega)
    obtain ⟨p, hp⟩ : ∃ p, p = P[k1]'(by omega) := ⟨_, rfl⟩
    rw [← hp] at hr
    have hpl : p.length = 32 := by rw [hp]; exact HOK.out _ (List.getElem_mem _)
    have hDf : (P.take k1).foldr Tree.node p = D := by
      rw [HD.out, ← rootP_fold]
      congr 1
      rw [hp, ← List.take_succ_eq_append_getElem (by omega), List.take_of_length_le (by omega)]
    rw [← hm] at hv ⊢
    have HV := Lib.hid hv
    have HPl := Lib.hid hpl
    have HDf := Lib.hid hDf
    have Hm := Lib.hid hm
    have B0 := Lib.hid b0
    have hne : ¬ (k : Int) = 0 := by omega
    have hlast : (k : Int) - 1 = (k1 : Int) := by omega
    have hlw := IntWalk.i64_in ((k : Int) - 1) (by omega)
    have hlw2 := IntWalk.i64_in ((k : Int) - 2) (by omega)
    have hidx := fun u => index_sums b off k vc k1 (by omega) u
    have hr0 := below_range b0 hbl hr
    have HR0 := Lib.hid hr0
    have HBL := Lib.hid hbl
    have hka : k1 < k := by omega
    have hk1000 : k ≤ 1000 := by omega
    have hkb : k ≤ k1 + 1 := by omega
    have hw3 : wrap64 (k1 : Int) = (k1 : Int) := by unfold wrap64; omega
    have hw4 : wrap64 ((k : Int) - 2) = (k : Int) - 2 := by unfold wrap64; omega
    clear hp hpl hDf hm hv hr b0 h0 hr0 hk1
    go_enter Tryd.func23, Tryd.ntmps23
    go_upto_region 1 with (fail)
    change Code.wp _ _ _ _ (w.alloc zSum)
    rw [← hw0]
    clear hw0
    have hz0 := heap_alloc_last w0 zSum
    have z6 : ((w0.alloc zSum).setCells w0.heap.size 0 (p.map u8V)).heap[w0.heap.size]? = some (.cells (p.map u8V).toArray 31 (0, 0)) := heap_setCells_all w0 _ _ (by simp [HPl.out])
    have k6 : Below w0.heap.size w0 ((w0.alloc zSum).setCells w0.heap.size 0 (p.map u8V)) := below_setCells (Nat.le_refl _) _ _ _ ((Below.refl _ _).alloc (Nat.le_refl _) _)
    go_upto_region 4 with (first
      | refine wpList_load_mid rfl 31 (.tmp 13) rfl b (off + k1 * 32) rfl (p.map u8V) _ HR0.out Tryd.underlying31 rfl (sum_info' HPl.out) ?_
      | refine wpList_store_mid rfl 31 (.tmp 3) (.tmp 14) rfl w0.heap.size 0 (p.map u8V).toArray rfl rfl (sum_there hz0 HPl.out) (sum_info HPl.out) (sum_one p) ?_)
    change Code.wp _ _ _ _ ((w0.alloc zSum).setCells w0.heap.size 0 (p.map u8V))
    obtain ⟨w6, hw6⟩ : ∃ u, u = (w0.alloc zSum).setCells w0.heap.size 0 (p.map u8V) := ⟨_, rfl⟩
    rw [← hw6] at z6 k6 ⊢
    obtain ⟨rb, hrb⟩ : ∃ rb, rb = w0.heap.size := ⟨_, rfl⟩
    rw [← hrb] at z6 k6 l0 ⊢
    have Hrb := Lib.hid hrb
    have K6 := Lib.hid k6
    have Z6 := Lib.hid z6
    clear hw6 hz0 hrb z6 k6 hidx
    go_wp2
    go_loopw [4] (RRel P D rb w6) (fun s4 _ => (intOf s4 + 1).toNat)
    case atStart =>
      refine ⟨k1, p, ?_, by rw [← Hm.out]; omega, HPl.out, HDf.out, Below.refl _ _, Z6.out⟩
      by_cases h : k1 = 0
      · exact .inl ⟨h, by congr 1; omega⟩
      · exact .inr ⟨k1 - 1, by omega, by congr 1; omega⟩
    case round =>
      obtain ⟨j, X, hj, hjk, hX1, hfo, hbel, hz⟩ := hrel
      obtain ⟨W, hW⟩ : ∃ W, W = wr := ⟨_, rfl⟩
      subst hW
      rw [← Hm.out] at hjk
      have HX1 := Lib.hid hX1
      have HFO := Lib.hid hfo
      have HZ := Lib.hid hz
      have HBel := Lib.hid hbel
      have HrW : Hid (rb < W.heap.size) := Lib.hid (Array.getElem?_eq_some_iff.1 hz).1
      have z2 := (hbel.block _ l0).trans ((K6.out.block _ l0).trans Hz0.out)
      have HZ2 := Lib.hid z2
      have hall : Below w.heap.size w W := B0.out.trans ((K6.out.trans hbel).mono (Nat.le_of_lt l0))
      have HALL := Lib.hid hall
      rcases hj with ⟨rfl, rfl⟩ | ⟨m, rfl, rfl⟩
      · have hXD : X = D := by simpa using hfo
        subst hXD
        clear hX1 hfo hz hbel z2 hall
        go_wp2_with (first
          | refine wpList_load_mid rfl 31 (.tmp 3) rfl rb 0 rfl (X.map u8V) _ (range_of HZ.out) Tryd.underlying31 rfl (sum_info' HDl.out) ?_
          | refine wpList_store_mid rfl 31 (.tmp 2) (.tmp 28) rfl w.heap.size 0 (X.map u8V).toArray rfl rfl (sum_there HZ2.out HDl.out) (sum_info HDl.out) (sum_one X) ?_)
        exact bodyPost_ret (v := sumV X) (results_cell (t := 2) (ty := 31) (b := w.heap.size) (cs := X.map u8V) rfl _ _ _ rfl (sum_range HZ2.out HDl.out) Tryd.underlying31 rfl (sum_info' HDl.out)) rfl ⟨rfl, below_setCells (Nat.le_refl _) _ _ _ HALL.out⟩
      · have hmk : m < k := by omega
        obtain ⟨b', off', e, -, -, hr⟩ := HV.out.at m (by rw [← Hm.out]; exact hmk)
        injection e with e
        injection e with e1 e2 _
        subst e1 e2
        obtain ⟨x, hx⟩ : ∃ x, x = P[m]'(by rw [← Hm.out]; exact hmk) := ⟨_, rfl⟩
        rw [← hx] at hr
        have hxl : x.length = 32 := by rw [hx]; exact HOK.out _ (List.getElem_mem _)
        have hbr : b < rb := Nat.lt_trans HBL.out l0
        have hrW := below_range' hbel hbr (below_range' K6.out hbr (below_range B0.out HBL.out hr))
        obtain ⟨D2, hD2⟩ : ∃ D2, D2 = Tree.node x X := ⟨_, rfl⟩
        have hD2l : D2.length = 32 := by rw [hD2]; exact Tree.node_length _ _
        have hnx : (P.take m).foldr Tree.node D2 = D := by
          rw [← hfo, List.take_succ_eq_append_getElem (by rw [← Hm.out]; exact hmk), List.foldr_append, ← hx, hD2]
          rfl
        have HN : Hid (∀ u : World, Calls Tryd.prog 26 #[sumV x, sumV X] u fun e w' => e = .returned (sumV D2) ∧ Below u.heap.size u w') := Lib.hid fun u => by
          rw [hD2]
          exact rleafNode_any x X hxl hX1 u
        have HXl := Lib.hid hxl
        have HRW := Lib.hid hrW
        have HbW : Hid (b < W.heap.size) := Lib.hid (Nat.lt_trans hbr HrW.out)
        have HD2l := Lib.hid hD2l
        have HNX := Lib.hid hnx
        have hsub := IntWalk.i64_in ((m : Int) - 1) (by omega)
        clear hX1 hfo hz hbel z2 hall hx hr hxl hrW hD2 hD2l hnx
        go_upto_region 7 with (fail)

        try simp only [Act.put]
        refine wp_region_ph (Lx := GLx 2) [RXP.is (.slice (some ⟨b, off, none⟩) k vc), RXP.is (.int .i64 (m : Int)), RXP.is (.pointer (some ⟨b, off + m * 32, none⟩)), RXP.is (sumV x), RXP.is (sumV X), RXP.is (sumV D2), RXP.any] [5, 6] (fun k w' => (k < 2 → Below W.heap.size W w') ∧ (k = 2 → ∃ u, Below W.heap.size W u ∧ w' = u.setCells rb 0 (D2.map u8V))) (by kernel_rfl) (by kernel_rfl) (by kernel_rfl) (by kernel_rfl) (by kernel_rfl) (⟨fun _ => below_drew (Below.refl _ _), fun h => absurd h (by decide)⟩) ⟨?_, ?_, ?_, ?_, ?_, ?_, ?_, trivial⟩ ?_
        · intro ac w' ph hF hPh hlt hP hU K hK0
          have e0 : ac.eval (.tmp 0) = .slice (some ⟨b, off, none⟩) k vc := hF.at 0 (by kernel_rfl)
          exact rop_move _ rfl e0 (wanted_none rfl) (hK0 _ _ GLx.same hPh rfl)
        · intro ac w' ph hF hPh hlt hP hU K hK0
          have e4 : ac.eval (.tmp 4) = .int .i64 (m : Int) := hF.at 4 (by kernel_rfl)
          exact rop_move _ rfl e4 (wanted_none rfl) (hK0 _ _ GLx.same hPh rfl)
        · intro ac w' ph hF hPh hlt hP hU K hK0
          have e22 : ac.eval (.tmp 22) = .slice (some ⟨b, off, none⟩) k vc := hP 0 (by kernel_rfl)
          have e23 : ac.eval (.tmp 23) = .int .i64 (m : Int) := hP 1 (by kernel_rfl)
          exact rop_idx _ _ _ rfl e22 e23 (index_sums b off k vc m hmk w') (wanted_none rfl) (hK0 _ _ GLx.same hPh rfl)
        · intro ac w' ph hF hPh hlt hP hU K hK0
          have hph : ph ≤ 0 := (hlt 0 5 rfl).2 (by kernel_rfl)
          have e24 : ac.eval (.tmp 24) = .pointer (some ⟨b, off + m * 32, none⟩) := hP 2 (by kernel_rfl)
          exact rop_ld _ _ rfl e24 (run_loadAt_mid _ _ _ _ _ _ (below_range (hPh.1 (by omega)) HbW.out HRW.out) Tryd.underlying31 rfl (sum_info' HXl.out)) (wanted_none rfl) (hK0 _ _ GLx.same hPh rfl)
        · intro ac w' ph hF hPh hlt hP hU K hK0
          have hph : ph ≤ 0 := (hlt 0 5 rfl).2 (by kernel_rfl)
          have e3 : ac.eval (.tmp 3) = .pointer (some ⟨rb, 0, none⟩) := hF.at 3 (by kernel_rfl)
          exact rop_ld _ _ rfl e3 (run_loadAt_mid _ _ _ _ _ _ (below_range (hPh.1 (by omega)) HrW.out (range_of HZ.out)) Tryd.underlying31 rfl (sum_info' HX1.out)) (wanted_none rfl) (hK0 _ _ GLx.same hPh rfl)
        · intro ac w' ph hF hPh hlt hP hU K hK0
          obtain rfl : ph = 0 := (hlt 0 5 rfl).1 rfl
          have e25 : ac.eval (.tmp 25) = sumV x := hP 3 (by kernel_rfl)
          have e26 : ac.eval (.tmp 26) = sumV X := hP 4 (by kernel_rfl)
          have hB : Below W.heap.size W w' := hPh.1 (by decide)
          refine rop_call 26 _ _ rfl #[sumV x, sumV X] (by simp [e25, e26]) (by kernel_rfl) (wanted_none rfl) ?_
          refine (HN.out w').mono ?_
          rintro e w2 ⟨rfl, hb⟩
          exact ⟨_, rfl, hK0 _ _ (GLx.old (by decide) hb) ⟨fun _ => below_step hB (Nat.le_refl _) hb, fun h => absurd h (by decide)⟩ rfl⟩
        · intro ac w' ph hF hPh hlt hP hU K hK0
          obtain rfl : ph = 1 := (hlt 1 6 rfl).1 rfl
          have e3 : ac.eval (.tmp 3) = .pointer (some ⟨rb, 0, none⟩) := hF.at 3 (by kernel_rfl)
          have e27 : ac.eval (.tmp 27) = sumV D2 := hP 5 (by kernel_rfl)
          have hB : Below W.heap.size W w' := hPh.1 (by decide)
          have hz := (hB.block rb HrW.out).trans HZ.out
          exact rop_storeG _ _ _ rfl e3 e27 (run_storeAt_mid w' rb 0 _ _ (sum_thereF hz HX1.out HD2l.out) (sum_info HD2l.out) (sum_one D2)) (wanted_none rfl) (hK0 _ _ (GLx.last rfl) ⟨fun h => absurd h (by decide), fun _ => ⟨w', hB, rfl⟩⟩ trivial)
        · intro ac w' hF hPh hT
          rw [hF.setsG [22, 23, 24, 25, 26, 27] (by kernel_rfl)]
          simp only [List.foldl_cons, List.foldl_nil, List.setIfInBounds_toArray, List.set_cons_succ, List.set_cons_zero]
          generalize ac.eval (.tmp 22) = u22
          generalize ac.eval (.tmp 23) = u23
          generalize ac.eval (.tmp 24) = u24
          generalize ac.eval (.tmp 25) = u25
          generalize ac.eval (.tmp 26) = u26
          generalize ac.eval (.tmp 27) = u27
          clear  hT hF ac
          obtain ⟨u, bu, hwu⟩ := hPh.2 rfl
          have hzu := (bu.block rb HrW.out).trans HZ.out
          have hz1 := set_sumF u rb X D2 HX1.out HD2l.out hzu
          have hb2 : Below rb w6 (u.setCells rb 0 (D2.map u8V)) := below_setCells (Nat.le_refl _) _ _ _ (HBel.out.trans (bu.mono (Nat.le_of_lt HrW.out)))
          rw [← hwu] at hz1 hb2
          have HZ1 := Lib.hid hz1
          have HB2 := Lib.hid hb2
          clear hPh hwu hzu hz1 hb2 bu
          go_wp2
          refine ⟨⟨m, D2, ?_, by rw [← Hm.out]; omega, HD2l.out, HNX.out, HB2.out, HZ1.out⟩, by simp [intOf]⟩
          by_cases h : m = 0
          · exact .inl ⟨h, by rw [h]; rfl⟩
          · exact .inr ⟨m - 1, by omega, by congr 1; omega⟩
end Go.Proofs.YtgiakpnkidblpaaDoor
/-! ## The document's own Read (scriniumref11). -/
namespace Go.Proofs.YtgiakpnkidblpaaDoor
open Go.RowKit

theorem wrap64_natF (d : Nat) (h : d ≤ 1099511627776) : wrap64 (d : Int) = (d : Int) := by unfold wrap64; omega
set_option maxRecDepth 1000000 in
theorem idx32 (b k : Nat) (h : k < 32) (w : World) : (Instr.indexAt 31 (.pointer (some ⟨b, 0, none⟩)) (.int .i64 (k : Int))).run Tryd.prog w = .ok (.pointer (some ⟨b, k, none⟩)) w := by
  have hl := alen32
  have he := aelem32
  have hs := size_u8
  have h' : (k : Int) < 32 := by omega
  have h2 : ¬ (32 : Int) ≤ (k : Int) := by omega
  go_simp
def mixF (x : List UInt8) (k : Nat) : List UInt8 := x.take k ++ List.replicate (32 - k) 0
theorem mixF_zero (x : List UInt8) : mixF x 0 = List.replicate 32 0 := by simp [mixF]
theorem mixF_all (x : List UInt8) (h : x.length = 32) : mixF x 32 = x := by unfold mixF; rw [← h]; simp
theorem mixF_length (x : List UInt8) (k : Nat) (h : x.length = 32) (hk : k ≤ 32) : (mixF x k).length = 32 := by unfold mixF; simp; omega
theorem mixF_set (x : List UInt8) (k : Nat) (h : x.length = 32) (hk : k < 32) : ((mixF x k).map u8V).toArray.setIfInBounds k (.int .u8 ((x.getD k 0).toNat : Int)) = ((mixF x (k + 1)).map u8V).toArray := by
  have e : (Value.int .u8 ((x.getD k 0).toNat : Int)) = u8V (x.getD k 0) := rfl
  rw [e, List.setIfInBounds_toArray, ← List.map_set]
  congr 2
  unfold mixF
  rw [List.take_succ_eq_append_getElem (by omega), List.set_append_right _ _ (by rw [List.length_take]; omega), List.length_take, show k - min k x.length = 0 by omega, show 32 - k = (32 - (k + 1)) + 1 by omega, List.replicate_succ, List.set_cons_zero, List.append_assoc]
  rw [List.getD_eq_getElem?_getD, List.getElem?_eq_getElem (by omega)]
  rfl
set_option maxHeartbeats 8000000 in
set_option maxRecDepth 100000 in
theorem rread11_any (s : ByteArray) (w : World) (hs : s.size ≤ 100000) :
    Calls Tryd.prog 22 #[.string s] w fun e w' => Below w.heap.size w w' ∧ ((okF s.data.toList ∧ ∃ v', e = .returned (.tuple #[.int .i64 (numF s.data.toList : Int), v', .int .i64 0]) ∧ OwnS w.heap.size w' v' (lstF s.data.toList 64).1) ∨
      (¬ okF s.data.toList ∧ e = .returned (.tuple #[.int .i64 0, .slice none 0 0, .int .i64 10]))) := by
  obtain ⟨l, hl⟩ : ∃ l, l = s.data.toList := ⟨_, rfl⟩
  have hk40 := numF_ones l
  have hn40 := numF_le l
  obtain ⟨st1, hst1⟩ : ∃ st1, st1 = numS (some l) 1099511627776 := ⟨_, rfl⟩
  obtain ⟨n, hn⟩ : ∃ n, n = numF l := ⟨_, rfl⟩
  have hnv : numV (some l) 1099511627776 = n := by rw [hn]; rfl
  obtain ⟨k, hk⟩ : ∃ k, k = Tree.ones n := ⟨_, rfl⟩
  have hok := ok64 l
  rw [← hn, ← hk] at hok
  rw [← hl, ← hn]
  rw [← hn] at hk40 hn40
  rw [← hk] at hk40
  obtain ⟨T, hT⟩ : ∃ T, T = (lstF l 64).1 := ⟨_, rfl⟩
  obtain ⟨st2, hst2⟩ : ∃ st2, st2 = (lstF l 64).2 := ⟨_, rfl⟩
  have hR : listR st1 64 = (T, st2) := by rw [hst1, hT, hst2]; rfl
  rw [← hT, ← hst2] at hok
  rw [← hT]
  have HOK := Lib.hid hok
  have HNUM : Hid (∀ b u, RScn b s (some l) u → Calls Tryd.prog 45 #[.pointer (some ⟨b, 0, none⟩), .int .i64 1099511627776] u fun e w' => e = .returned (.int .i64 (n : Int)) ∧ RScn b s st1 w' ∧ Only b u w') := Lib.hid fun b u hu => by
    have := rnum_any b s (some l) 1099511627776 u (by omega) hu (by decide) (by decide)
    rw [hnv, ← hst1] at this
    exact this
  have HLS : Hid (∀ b u, RScn b s st1 u → Calls Tryd.prog 46 #[.pointer (some ⟨b, 0, none⟩), .int .i64 64] u fun e w' => ∃ a c, e = .returned (.slice a T.length c) ∧ StrRow w' (.slice a T.length c) (strs T) ∧ RScn b s st2 w' ∧ Only b u w') := Lib.hid fun b u hu => by
    have := refScanList_any b s st1 64 u (by omega) hu (by decide) (by decide)
    rw [hR] at this
    refine this.mono fun e w' ⟨v, he, hr, h2, h3⟩ => ?_
    have hr' := hr
    obtain ⟨a, c, rfl, -, -⟩ := hr'
    have e1 : (strs T).length = T.length := by simp [strs]
    simp only [e1] at he hr
    exact ⟨a, c, he, hr, h2, h3⟩
  have Htk : Hid (T.take T.length = T) := Lib.hid List.take_length
  have Hk := Lib.hid hk
  have HLl := Lib.hid hl
  clear hl hst1 hn hnv hk hok hT hst2 hR
  go_enter Tryd.func22, Tryd.ntmps22
  go_upto_region 2 with (fail)
  obtain ⟨sx, hsx⟩ : ∃ sx, sx = w.heap.size := ⟨_, rfl⟩
  obtain ⟨W1, hW1⟩ : ∃ W1, W1 = w.alloc (.cells #[.string s, .int .i64 0, .bool false] 70) := ⟨_, rfl⟩
  have s1 : RScn sx s (some l) W1 := ⟨0, false, Nat.zero_le _, by rw [hW1, hsx]; exact heap_alloc_last _ _, by rw [HLl.out]; rfl⟩
  have b1 : Below w.heap.size w W1 := by rw [hW1]; exact (Below.refl _ _).alloc (Nat.le_refl _) _
  change Code.wp _ _ _ _ (w.alloc (.cells #[.string s, .int .i64 0, .bool false] 70))
  rw [← hW1, ← hsx]
  have Hsx := Lib.hid hsx
  clear hW1 hsx
  go_wp2_with (first
    | (go_at_call 45; refine (HNUM.out _ _ s1).mono ?_; rintro e w2 ⟨rfl, s2, o2⟩)
    | (go_at_call 46; refine (HLS.out _ _ s2).mono ?_; rintro e w3 ⟨ta, tc, rfl, r3, s3, o3⟩))
  have B3 : Below w.heap.size w w3 := (b1.trans (o2.below (by rw [← Hsx.out]; exact Nat.le_refl _) b1.size)).trans (o3.below (by rw [← Hsx.out]; exact Nat.le_refl _) (Nat.le_trans b1.size o2.size))
  have HB3 := Lib.hid B3
  have HR3 := Lib.hid r3
  have HS3 := Lib.hid s3
  clear B3 r3 s3 s1 s2 o2 o3 b1
  obtain ⟨tl, htl⟩ : ∃ tl, tl = T.length := ⟨_, rfl⟩
  rw [← htl] at HR3 ⊢
  have Htl := Lib.hid htl
  clear htl
  obtain ⟨W, hW⟩ : ∃ W, W = w3 := ⟨_, rfl⟩
  subst hW
  go_loopw [8, 9] (fun s8 s9 wr => ∃ m o : Nat, s9 = .int .i64 (m : Int) ∧ s8 = .int .i64 (o : Int) ∧ o + Tree.ones m = k ∧ m ≤ n ∧ wr = W) (fun _ s9 _ => (intOf s9).toNat)
  case atStart => exact ⟨n, 0, rfl, rfl, by rw [Hk.out, Nat.zero_add], Nat.le_refl _, rfl⟩
  case round =>
    obtain ⟨m, o, rfl, rfl, hmo, hmn, rfl⟩ := hrel
    by_cases hm0 : 0 < m
    · have hm0' : (0 : Int) < (m : Int) := by omega
      have hrem : (m : Int).tmod 2 = ((m % 2 : Nat) : Int) := by rw [Int.tmod_eq_emod_of_nonneg (by omega)]; omega
      have hquo : (m : Int).tdiv 2 = ((m / 2 : Nat) : Int) := by rw [Int.tdiv_eq_ediv_of_nonneg (by omega)]; omega
      obtain ⟨r, hr⟩ : ∃ r, r = m % 2 := ⟨_, rfl⟩
      obtain ⟨d, hd⟩ : ∃ d, d = m / 2 := ⟨_, rfl⟩
      rw [← hr] at hrem
      rw [← hd] at hquo
      have hst := Tree.ones_step m
      rw [← hr, ← hd] at hst
      have hadd := IntWalk.i64_in ((o : Int) + (r : Int)) (by omega)
      have hdm : d < m := by rw [hd]; exact Nat.div_lt_self hm0 (by decide)
      have hq3 := wrap64_natF d (Nat.le_trans (Nat.le_of_lt hdm) (Nat.le_trans hmn hn40))
      have hkk : o + r + Tree.ones d = k := by rw [← hmo, hst, Nat.add_assoc]
      have HKK := Lib.hid hkk
      clear hr hd hst hmo hkk
      go_wp2
      rw [hq3]
      exact ⟨⟨d, o + r, rfl, by congr 1, HKK.out, Nat.le_trans (Nat.le_of_lt hdm) hmn, trivial⟩, by simpa [intOf] using hdm⟩
    · have hm0' : ¬ (0 : Int) < (m : Int) := by omega
      have hok0 : o = k := by
        obtain rfl : m = 0 := by omega
        rw [Tree.ones_zero] at hmo
        omega
      subst hok0
      clear hmo hm0 hmn
      have hidx := fun (tb to i : Nat) (h : i < tl) u => index_strs tb to tl tc i h u
      by_cases hst : st2 = some []
      · have HE : Hid (∀ u : World, Below wr.heap.size wr u → Calls Tryd.prog 47 #[.pointer (some ⟨sx, 0, none⟩)] u fun e w' => e = .returned (.int .i64 0) ∧ Below u.heap.size u w') := Lib.hid fun u hu => by
          have := rend_any sx s st2 u (by omega) (HS3.out.old hu HS3.out.lt)
          rw [hst] at this
          exact this.mono fun e w' ⟨h1, n', h2⟩ => ⟨h1, h2 ▸ below_drewN (Below.refl _ _) n'⟩
        have Hst := Lib.hid hst
        clear hst
        by_cases hTl : tl = o
        · have hlk : ((tl : Nat) : Int) = (o : Int) := by rw [hTl]
          have HTl := Lib.hid hTl
          clear hTl
          go_upto_region 9 with (fail)
          try simp only [Act.put]
          refine wp_region_tab0 [RT.is (.pointer (some ⟨sx, 0, none⟩)), RT.is (.int .i64 0), RT.is (.bool false), RT.is (.bool false), RT.is (.slice ta tl tc), RT.is (.int .i64 tl), RT.is (.int .i64 (o : Int)), RT.is (.bool false), RT.is (.bool false)] (by kernel_rfl) (by kernel_rfl) (by kernel_rfl) ⟨?_, ?_, ?_, ?_, ?_, ?_, ?_, ?_, ?_, trivial⟩ ?_
          · intro ac w' hF hL hP hU K hK
            have hB : Below _ _ _ := hL
            have e5 : ac.eval (.tmp 5) = .pointer (some ⟨sx, 0, none⟩) := hF.at 5 (by kernel_rfl)
            exact rop_move _ rfl e5 (wanted_none rfl) (hK _ _ (le8_refl _) rfl)
          · intro ac w' hF hL hP hU K hK
            have hB : Below _ _ _ := hL
            have e30 : ac.eval (.tmp 30) = .pointer (some ⟨sx, 0, none⟩) := hP 0 (by kernel_rfl)
            refine rop_call 47 _ _ rfl #[.pointer (some ⟨sx, 0, none⟩)] (by simp [e30]) (by kernel_rfl) (wanted_none rfl) ?_
            refine (HE.out w' hB).mono ?_
            rintro e w2 ⟨rfl, hb⟩
            exact ⟨_, rfl, hK _ _ hb rfl⟩
          · intro ac w' hF hL hP hU K hK
            have hB : Below _ _ _ := hL
            have e31 : ac.eval (.tmp 31) = .int .i64 0 := hP 1 (by kernel_rfl)
            exact rop_bin _ _ _ _ _ rfl e31 rfl (guard_int _ _ _ _ _ _ _ w') (neq_errT _ w') (wanted_none rfl) (hK _ _ (le8_refl _) rfl)
          · intro ac w' hF hL hP hU K hK
            have hB : Below _ _ _ := hL
            have e32 : ac.eval (.tmp 32) = .bool false := hP 2 (by kernel_rfl)
            exact rop_move _ rfl e32 (wanted_none rfl) (hK _ _ (le8_refl _) rfl)
          · intro ac w' hF hL hP hU K hK
            have hB : Below _ _ _ := hL
            have e7 : ac.eval (.tmp 7) = .slice ta tl tc := hF.at 7 (by kernel_rfl)
            have e33 : ac.eval (.tmp 33) = .bool false := hP 3 (by kernel_rfl)
            exact rop_move _ rfl e7 (wanted_of (j := 3) (b := false) rfl rfl e33) (hK _ _ (le8_refl _) rfl)
          · intro ac w' hF hL hP hU K hK
            have hB : Below _ _ _ := hL
            have e34 : ac.eval (.tmp 34) = .slice ta tl tc := hP 4 (by kernel_rfl)
            have e33 : ac.eval (.tmp 33) = .bool false := hP 3 (by kernel_rfl)
            exact rop_lenG _ Tryd.underlying56 rfl e34 (wanted_of (j := 3) (b := false) rfl rfl e33) (hK _ _ (le8_refl _) rfl)
          · intro ac w' hF hL hP hU K hK
            have hB : Below _ _ _ := hL
            have e8 : ac.eval (.tmp 8) = .int .i64 (o : Int) := hF.at 8 (by kernel_rfl)
            have e33 : ac.eval (.tmp 33) = .bool false := hP 3 (by kernel_rfl)
            exact rop_move _ rfl e8 (wanted_of (j := 3) (b := false) rfl rfl e33) (hK _ _ (le8_refl _) rfl)
          · intro ac w' hF hL hP hU K hK
            have hB : Below _ _ _ := hL
            have e35 : ac.eval (.tmp 35) = .int .i64 tl := hP 5 (by kernel_rfl)
            have e36 : ac.eval (.tmp 36) = .int .i64 (o : Int) := hP 6 (by kernel_rfl)
            have e33 : ac.eval (.tmp 33) = .bool false := hP 3 (by kernel_rfl)
            exact rop_bin _ _ _ _ _ rfl e35 e36 (guard_int _ _ _ _ _ _ _ w') (neq_iT _ _ hlk w') (wanted_of (j := 3) (b := false) rfl rfl e33) (hK _ _ (le8_refl _) rfl)
          · intro ac w' hF hL hP hU K hK
            have hB : Below _ _ _ := hL
            have e33 : ac.eval (.tmp 33) = .bool false := hP 3 (by kernel_rfl)
            have e37 : ac.eval (.tmp 37) = .bool false := hP 7 (by kernel_rfl)
            exact rop_pick _ _ _ rfl false e33 (by simpa using e37) (wanted_none rfl) (hK _ _ (le8_refl _) rfl)
          · intro ac w' hF hB hT
            have e38 : ac.eval (.tmp 38) = .bool false := hT 8 (by decide)
            rw [hF.setsG [30, 31, 32, 33, 34, 35, 36, 37, 38] (by kernel_rfl)]
            simp only [List.foldl_cons, List.foldl_nil, List.setIfInBounds_toArray, List.set_cons_succ, List.set_cons_zero, e38]
            generalize ac.eval (.tmp 30) = u30
            generalize ac.eval (.tmp 31) = u31
            generalize ac.eval (.tmp 32) = u32
            generalize ac.eval (.tmp 33) = u33
            generalize ac.eval (.tmp 34) = u34
            generalize ac.eval (.tmp 35) = u35
            generalize ac.eval (.tmp 36) = u36
            generalize ac.eval (.tmp 37) = u37
            clear e38 hT hF ac
            obtain ⟨V, hV⟩ : ∃ V, V = w' := ⟨_, rfl⟩
            subst hV
            have HR2 := Lib.hid (HR3.out.old hB)
            have HB2 := Lib.hid (below_step HB3.out (Nat.le_refl _) hB)
            clear hB hlk HE HR3 HB3 HS3
            go_wp2
            go_loopw [10, 11] (fun s10 s11 wx => ∃ i : Nat, s11 = .int .i64 (i : Int) ∧ i ≤ tl ∧ OwnS V.heap.size wx s10 (T.take i) ∧ Below V.heap.size V wx) (fun _ s11 _ => tl - (intOf s11).toNat)
            case atStart => exact ⟨0, rfl, Nat.zero_le _, OwnS.nil _ _, Below.refl _ _⟩
            case round =>
              obtain ⟨i, rfl, hik, hw, hb⟩ := hrel
              have HW := Lib.hid hw
              have HBV := Lib.hid hb
              have HBw : Hid (Below w.heap.size w wr) := Lib.hid (below_step HB2.out (Nat.le_refl _) hb)
              clear hw hb
              by_cases hlt : i < tl
              · have hlt' : (i : Int) < (tl : Int) := by omega
                have hw1 := IntWalk.i64_in ((i : Int) + 1) (by have := HTl.out; omega)
                have hiT : i < T.length := by rw [← Htl.out]; exact hlt
                obtain ⟨x, hx⟩ : ∃ x, x = T[i] := ⟨_, rfl⟩
                obtain ⟨X, hX⟩ : ∃ X : ByteArray, X = ⟨x.toArray⟩ := ⟨_, rfl⟩
                obtain ⟨a', c', e, -, hc⟩ := HR2.out
                injection e with e1 e2 e3
                subst e1 e3
                clear e2
                obtain ⟨tb, to, rfl, htb, hcx⟩ := hc (by intro e; have := congrArg List.length e; simp [strs] at this; rw [this] at hiT; simp at hiT)
                have hct := hcx i (by simp [strs]; exact hiT)
                have hg : (strs T).getD i ByteArray.empty = X := by
                  rw [hX, hx]
                  simp [strs, hiT]
                rw [hg] at hct
                have hct := (HBV.out.cell (p := ⟨tb, to + i, none⟩) (by exact htb)).trans hct
                have htbl := Nat.lt_of_lt_of_le htb HBV.out.size
                have hid1 := hidx tb to i hlt
                have hXs : X.size = x.length := by rw [hX, ByteArray.size, List.size_toArray]
                have hXg : ∀ k (h : k < X.size), X[k] = x.getD k 0 := fun k h => by
                  subst hX
                  have h2 : k < x.length := by rw [← hXs]; exact h
                  rw [List.getD_eq_getElem?_getD, List.getElem?_eq_getElem h2]
                  rfl
                have hXS8 : (X.size : Int) = (x.length : Int) := by rw [hXs]
                have HXS := Lib.hid hXs
                have HXG := Lib.hid hXg
                have HIT := Lib.hid hiT
                have HX := Lib.hid hx
                have HCT := Lib.hid hct
                have Htb := Lib.hid htbl
                clear hcx hct hg hX hXs hx hc hXg htb htbl
                by_cases h32 : x.length = 32
                · have h32' : (X.size : Int) = 32 := by omega
                  have hct := HCT.out
                  have H32 := Lib.hid h32
                  clear h32 hXS8
                  go_upto_region 18 with (fail)
                  obtain ⟨W2, hW2⟩ : ∃ W2, W2 = wr.alloc (.cells ((mixF x 0).map u8V).toArray 31) := ⟨_, rfl⟩
                  obtain ⟨q, hq⟩ : ∃ q, q = wr.heap.size := ⟨_, rfl⟩
                  have b2 : Below wr.heap.size wr W2 := by rw [hW2]; exact (Below.refl _ _).alloc (Nat.le_refl _) _
                  have z2 : W2.heap[q]? = some (.cells ((mixF x 0).map u8V).toArray 31 (0, 0)) := by rw [hW2, hq]; exact heap_alloc_last _ _
                  change Code.wp _ _ _ _ (wr.alloc (.cells ((mixF x 0).map u8V).toArray 31))
                  rw [← hW2, ← hq]
                  have HQ := Lib.hid hq
                  have B2 := Lib.hid b2
                  have Z2 := Lib.hid z2
                  clear hW2 hq b2 z2 hct
                  obtain ⟨V2, hV2⟩ : ∃ V2, V2 = wr := ⟨_, rfl⟩
                  subst hV2
                  go_wp2
                  go_loopw [13] (fun s13 wx => ∃ k : Nat, s13 = .int .i64 (k : Int) ∧ k ≤ 32 ∧ wx.heap[q]? = some (.cells ((mixF x k).map u8V).toArray 31 (0, 0)) ∧ Below V2.heap.size V2 wx) (fun s13 _ => 32 - (intOf s13).toNat)
                  case atStart => exact ⟨0, rfl, by omega, Z2.out, B2.out⟩
                  case round =>
                    obtain ⟨k, rfl, hk, hz, hb⟩ := hrel
                    have HZ := Lib.hid hz
                    have HBk := Lib.hid hb
                    clear hz hb
                    by_cases hk32 : k < 32
                    · have hk32' : (k : Int) < 32 := by omega
                      have hkw := IntWalk.i64_in ((k : Int) + 1) (by omega)
                      obtain ⟨xk, hxk⟩ : ∃ xk, xk = x.getD k 0 := ⟨_, rfl⟩
                      have hct := (HBk.out.cell (p := ⟨tb, to + i, none⟩) (by exact Htb.out)).trans HCT.out
                      have hix := index_str X k (k : Int) rfl (by rw [HXS.out, H32.out]; exact hk32) xk (by rw [hxk]; exact HXG.out k _)
                      have hia := idx32 q k hk32
                      obtain ⟨b0, hb0⟩ : ∃ b0, (mixF x k)[k]? = some b0 := ⟨_, List.getElem?_eq_getElem (by rw [mixF_length x k H32.out hk]; exact hk32)⟩
                      have cz : wr.cell? ⟨q, k, none⟩ = some (u8V b0) := by rw [cell_of HZ.out k]; simp [hb0]
                      have fz := fz_of HZ.out k
                      have hms := mixF_set x k H32.out hk32
                      rw [← hxk] at hms
                      unfold u8V at cz
                      have HMS := Lib.hid hms
                      clear hms hb0 hxk
                      go_wp2
                      exact ⟨⟨k + 1, by go_num, by omega, (heap_set HZ.out _).trans (by rw [HMS.out]), HBk.out.setCell (by show V2.heap.size ≤ q; rw [HQ.out]; exact Nat.le_refl _) _⟩, by simp [intOf]; omega⟩
                    · obtain rfl : k = 32 := by omega
                      have hz := HZ.out
                      rw [mixF_all x H32.out] at hz
                      have HZx := Lib.hid hz
                      have hk32' : ¬ ((32 : Nat) : Int) < 32 := by omega
                      have hBV : V.heap.size ≤ wr.heap.size := Nat.le_trans HBV.out.size HBk.out.size
                      obtain ⟨v6, w6, hr6, ho6, b6⟩ := sappend_own (B := V.heap.size) 22 ((HW.out.kept HBk.out).kept ((Below.refl wr.heap.size wr).alloc (Nat.le_refl _) (.cells (x.map u8V).toArray 31))) (Sums.one wr x H32.out) (Nat.le_trans hBV (by simp)) (by rw [List.length_take]; simp only [List.length_cons, List.length_nil]; have := HTl.out; have := Htl.out; omega)
                      have HR6 := Lib.hid hr6
                      have HBS : Hid ((Instr.buildSlice 22 1 #[(0, .agg (x.map u8V).toArray)]).run Tryd.prog wr = .ok (.slice (some ⟨wr.heap.size, 0, none⟩) 1 1) (wr.alloc (.cells (x.map u8V).toArray 31))) := Lib.hid (build_sum1 x H32.out wr)
                      have htk : T.take (i + 1) = T.take i ++ [x] := by rw [List.take_succ_eq_append_getElem HIT.out, HX.out]
                      rw [← htk] at ho6
                      have HO6 := Lib.hid ho6
                      have HB6 : Hid (Below V.heap.size V w6) := Lib.hid ((below_step HBV.out (Nat.le_refl _) HBk.out).trans ((((Below.refl wr.heap.size wr).alloc (Nat.le_refl _) _).mono hBV).trans b6))
                      have HIx := Lib.hid (sum_info' H32.out)
                      have hfold := fold_zero x H32.out
                      have hd32 : ¬ 32 < x.length := by rw [H32.out]; decide
                      clear hr6 ho6 b6 htk hz hBV
                      go_wp2_with (first
                        | refine wpList_load_mid rfl 31 (.tmp 12) rfl q 0 rfl (x.map u8V) _ (range_of HZx.out) Tryd.underlying31 rfl HIx.out ?_
                        | (refine wpList_bslS rfl 22 1 #[(0, .tmp 64)] rfl (L := #[(0, .agg (x.map u8V).toArray)]) rfl HBS.out ?_)
                        | (at_builtin; refine Lib.wpList_append_run _ rfl _ _ _ _ rfl _ _ rfl rfl _ _ HR6.out ?_))
                      go_roundw
                      case rel => exact ⟨i + 1, by go_num, by omega, HO6.out, HB6.out⟩
                      case measure => simp [intOf]; omega
                · have h32' : ¬ (X.size : Int) = 32 := by omega
                  have hct := HCT.out
                  have H32 := Lib.hid h32
                  clear h32 hXS8
                  go_wp2
                  go_ret3
                  refine ⟨HBw.out, .inr ⟨?_, rfl⟩⟩
                  rw [HOK.out]
                  rintro ⟨-, -, hall⟩
                  apply H32.out
                  rw [HX.out]
                  exact hall _ (List.getElem_mem _)
              · have hi' : i = tl := by omega
                subst hi'
                have hlt' : ¬ (i : Int) < (i : Int) := by omega
                have hfin : OwnS w.heap.size wr u10 T := by
                  have := HW.out.lower HB2.out.size
                  rwa [Htl.out, List.take_length] at this
                have HF := Lib.hid hfin
                have hok : okF l := by
                  rw [HOK.out]
                  exact ⟨Hst.out, by rw [← Htl.out]; exact HTl.out, hfin.2⟩
                have HK := Lib.hid hok
                clear hfin hok
                go_wp2
                go_ret3
                exact ⟨HBw.out, .inl ⟨HK.out, _, rfl, HF.out⟩⟩
        · have hlk : ¬ ((tl : Nat) : Int) = (o : Int) := by omega
          have HTl := Lib.hid hTl
          clear hTl
          go_upto_region 9 with (fail)
          try simp only [Act.put]
          refine wp_region_tab0 [RT.is (.pointer (some ⟨sx, 0, none⟩)), RT.is (.int .i64 0), RT.is (.bool false), RT.is (.bool false), RT.is (.slice ta tl tc), RT.is (.int .i64 tl), RT.is (.int .i64 (o : Int)), RT.is (.bool true), RT.is (.bool true)] (by kernel_rfl) (by kernel_rfl) (by kernel_rfl) ⟨?_, ?_, ?_, ?_, ?_, ?_, ?_, ?_, ?_, trivial⟩ ?_
          · intro ac w' hF hL hP hU K hK
            have hB : Below _ _ _ := hL
            have e5 : ac.eval (.tmp 5) = .pointer (some ⟨sx, 0, none⟩) := hF.at 5 (by kernel_rfl)
            exact rop_move _ rfl e5 (wanted_none rfl) (hK _ _ (le8_refl _) rfl)
          · intro ac w' hF hL hP hU K hK
            have hB : Below _ _ _ := hL
            have e30 : ac.eval (.tmp 30) = .pointer (some ⟨sx, 0, none⟩) := hP 0 (by kernel_rfl)
            refine rop_call 47 _ _ rfl #[.pointer (some ⟨sx, 0, none⟩)] (by simp [e30]) (by kernel_rfl) (wanted_none rfl) ?_
            refine (HE.out w' hB).mono ?_
            rintro e w2 ⟨rfl, hb⟩
            exact ⟨_, rfl, hK _ _ hb rfl⟩
          · intro ac w' hF hL hP hU K hK
            have hB : Below _ _ _ := hL
            have e31 : ac.eval (.tmp 31) = .int .i64 0 := hP 1 (by kernel_rfl)
            exact rop_bin _ _ _ _ _ rfl e31 rfl (guard_int _ _ _ _ _ _ _ w') (neq_errT _ w') (wanted_none rfl) (hK _ _ (le8_refl _) rfl)
          · intro ac w' hF hL hP hU K hK
            have hB : Below _ _ _ := hL
            have e32 : ac.eval (.tmp 32) = .bool false := hP 2 (by kernel_rfl)
            exact rop_move _ rfl e32 (wanted_none rfl) (hK _ _ (le8_refl _) rfl)
          · intro ac w' hF hL hP hU K hK
            have hB : Below _ _ _ := hL
            have e7 : ac.eval (.tmp 7) = .slice ta tl tc := hF.at 7 (by kernel_rfl)
            have e33 : ac.eval (.tmp 33) = .bool false := hP 3 (by kernel_rfl)
            exact rop_move _ rfl e7 (wanted_of (j := 3) (b := false) rfl rfl e33) (hK _ _ (le8_refl _) rfl)
          · intro ac w' hF hL hP hU K hK
            have hB : Below _ _ _ := hL
            have e34 : ac.eval (.tmp 34) = .slice ta tl tc := hP 4 (by kernel_rfl)
            have e33 : ac.eval (.tmp 33) = .bool false := hP 3 (by kernel_rfl)
            exact rop_lenG _ Tryd.underlying56 rfl e34 (wanted_of (j := 3) (b := false) rfl rfl e33) (hK _ _ (le8_refl _) rfl)
          · intro ac w' hF hL hP hU K hK
            have hB : Below _ _ _ := hL
            have e8 : ac.eval (.tmp 8) = .int .i64 (o : Int) := hF.at 8 (by kernel_rfl)
            have e33 : ac.eval (.tmp 33) = .bool false := hP 3 (by kernel_rfl)
            exact rop_move _ rfl e8 (wanted_of (j := 3) (b := false) rfl rfl e33) (hK _ _ (le8_refl _) rfl)
          · intro ac w' hF hL hP hU K hK
            have hB : Below _ _ _ := hL
            have e35 : ac.eval (.tmp 35) = .int .i64 tl := hP 5 (by kernel_rfl)
            have e36 : ac.eval (.tmp 36) = .int .i64 (o : Int) := hP 6 (by kernel_rfl)
            have e33 : ac.eval (.tmp 33) = .bool false := hP 3 (by kernel_rfl)
            exact rop_bin _ _ _ _ _ rfl e35 e36 (guard_int _ _ _ _ _ _ _ w') (neq_iF _ _ hlk w') (wanted_of (j := 3) (b := false) rfl rfl e33) (hK _ _ (le8_refl _) rfl)
          · intro ac w' hF hL hP hU K hK
            have hB : Below _ _ _ := hL
            have e33 : ac.eval (.tmp 33) = .bool false := hP 3 (by kernel_rfl)
            have e37 : ac.eval (.tmp 37) = .bool true := hP 7 (by kernel_rfl)
            exact rop_pick _ _ _ rfl false e33 (by simpa using e37) (wanted_none rfl) (hK _ _ (le8_refl _) rfl)
          · intro ac w' hF hB hT
            have e38 : ac.eval (.tmp 38) = .bool true := hT 8 (by decide)
            rw [hF.setsG [30, 31, 32, 33, 34, 35, 36, 37, 38] (by kernel_rfl)]
            simp only [List.foldl_cons, List.foldl_nil, List.setIfInBounds_toArray, List.set_cons_succ, List.set_cons_zero, e38]
            generalize ac.eval (.tmp 30) = u30
            generalize ac.eval (.tmp 31) = u31
            generalize ac.eval (.tmp 32) = u32
            generalize ac.eval (.tmp 33) = u33
            generalize ac.eval (.tmp 34) = u34
            generalize ac.eval (.tmp 35) = u35
            generalize ac.eval (.tmp 36) = u36
            generalize ac.eval (.tmp 37) = u37
            clear e38 hT hF ac
            have hok2 : ¬ okF l := by rw [HOK.out]; rintro ⟨-, h, -⟩; exact HTl.out (by rw [Htl.out]; exact h)
            have HNO := Lib.hid hok2
            clear hok2
            go_wp2
            go_ret3
            exact ⟨below_step HB3.out (Nat.le_refl _) hB, .inr ⟨HNO.out, rfl⟩⟩
      · have HE : Hid (∀ u : World, Below wr.heap.size wr u → Calls Tryd.prog 47 #[.pointer (some ⟨sx, 0, none⟩)] u fun e w' => e = .returned (.int .i64 10) ∧ Below u.heap.size u w') := Lib.hid fun u hu => by
          have := rend_any sx s st2 u (by omega) (HS3.out.old hu HS3.out.lt)
          unfold endV at this
          rw [if_neg hst] at this
          exact this.mono fun e w' ⟨h1, n', h2⟩ => ⟨h1, h2 ▸ below_drewN (Below.refl _ _) n'⟩
        have Hst := Lib.hid hst
        clear hst
        go_upto_region 9 with (fail)
        try simp only [Act.put]
        refine wp_region_tab0 [RT.is (.pointer (some ⟨sx, 0, none⟩)), RT.is (.int .i64 10), RT.is (.bool true), RT.is (.bool true), RT.any, RT.any, RT.any, RT.any, RT.is (.bool true)] (by kernel_rfl) (by kernel_rfl) (by kernel_rfl) ⟨?_, ?_, ?_, ?_, ?_, ?_, ?_, ?_, ?_, trivial⟩ ?_
        · intro ac w' hF hL hP hU K hK
          have hB : Below _ _ _ := hL
          have e5 : ac.eval (.tmp 5) = .pointer (some ⟨sx, 0, none⟩) := hF.at 5 (by kernel_rfl)
          exact rop_move _ rfl e5 (wanted_none rfl) (hK _ _ (le8_refl _) rfl)
        · intro ac w' hF hL hP hU K hK
          have hB : Below _ _ _ := hL
          have e30 : ac.eval (.tmp 30) = .pointer (some ⟨sx, 0, none⟩) := hP 0 (by kernel_rfl)
          refine rop_call 47 _ _ rfl #[.pointer (some ⟨sx, 0, none⟩)] (by simp [e30]) (by kernel_rfl) (wanted_none rfl) ?_
          refine (HE.out w' hB).mono ?_
          rintro e w2 ⟨rfl, hb⟩
          exact ⟨_, rfl, hK _ _ hb rfl⟩
        · intro ac w' hF hL hP hU K hK
          have hB : Below _ _ _ := hL
          have e31 : ac.eval (.tmp 31) = .int .i64 10 := hP 1 (by kernel_rfl)
          exact rop_bin _ _ _ _ _ rfl e31 rfl (guard_int _ _ _ _ _ _ _ w') (neq_errF _ _ (by decide) w') (wanted_none rfl) (hK _ _ (le8_refl _) rfl)
        · intro ac w' hF hL hP hU K hK
          have hB : Below _ _ _ := hL
          have e32 : ac.eval (.tmp 32) = .bool true := hP 2 (by kernel_rfl)
          exact rop_move _ rfl e32 (wanted_none rfl) (hK _ _ (le8_refl _) rfl)
        · intro ac w' hF hL hP hU K hK
          have hB : Below _ _ _ := hL
          have e33 : ac.eval (.tmp 33) = .bool true := hP 3 (by kernel_rfl)
          exact rop_offG (j := 3) (b := false) rfl rfl e33 (by decide) (hK _ _ (le8_refl _) trivial)
        · intro ac w' hF hL hP hU K hK
          have hB : Below _ _ _ := hL
          have e33 : ac.eval (.tmp 33) = .bool true := hP 3 (by kernel_rfl)
          exact rop_offG (j := 3) (b := false) rfl rfl e33 (by decide) (hK _ _ (le8_refl _) trivial)
        · intro ac w' hF hL hP hU K hK
          have hB : Below _ _ _ := hL
          have e33 : ac.eval (.tmp 33) = .bool true := hP 3 (by kernel_rfl)
          exact rop_offG (j := 3) (b := false) rfl rfl e33 (by decide) (hK _ _ (le8_refl _) trivial)
        · intro ac w' hF hL hP hU K hK
          have hB : Below _ _ _ := hL
          have e33 : ac.eval (.tmp 33) = .bool true := hP 3 (by kernel_rfl)
          exact rop_offG (j := 3) (b := false) rfl rfl e33 (by decide) (hK _ _ (le8_refl _) trivial)
        · intro ac w' hF hL hP hU K hK
          have hB : Below _ _ _ := hL
          have e33 : ac.eval (.tmp 33) = .bool true := hP 3 (by kernel_rfl)
          exact rop_pick _ _ _ rfl true e33 (by rfl) (wanted_none rfl) (hK _ _ (le8_refl _) rfl)
        · intro ac w' hF hB hT
          have e38 : ac.eval (.tmp 38) = .bool true := hT 8 (by decide)
          rw [hF.setsG [30, 31, 32, 33, 34, 35, 36, 37, 38] (by kernel_rfl)]
          simp only [List.foldl_cons, List.foldl_nil, List.setIfInBounds_toArray, List.set_cons_succ, List.set_cons_zero, e38]
          generalize ac.eval (.tmp 30) = u30
          generalize ac.eval (.tmp 31) = u31
          generalize ac.eval (.tmp 32) = u32
          generalize ac.eval (.tmp 33) = u33
          generalize ac.eval (.tmp 34) = u34
          generalize ac.eval (.tmp 35) = u35
          generalize ac.eval (.tmp 36) = u36
          generalize ac.eval (.tmp 37) = u37
          clear e38 hT hF ac
          have hok2 : ¬ okF l := by rw [HOK.out]; rintro ⟨h, -, -⟩; exact Hst.out h
          have HNO := Lib.hid hok2
          clear hok2
          go_wp2
          go_ret3
          exact ⟨below_step HB3.out (Nat.le_refl _) hB, .inr ⟨HNO.out, rfl⟩⟩
end Go.Proofs.YtgiakpnkidblpaaDoor
