/-
  Package seal: what bytes are read as.
-/
import Derived.Test.YtlcljjapeigaeaaDoorSelSign
import Derived.Test.YtlcljjapeigaeaaDoorMOct
namespace Go.Proofs.YtlcljjapeigaeaaDoor
open Go.RowKit

theorem only_new {q r : Nat} {u v w : World} (h : Only q u v) (k : Only r v w) (hr : u.heap.size ≤ r) : Only q u w :=
  ⟨k.os.trans h.os, k.tape.trans h.tape, k.output.trans h.output, Nat.le_trans h.size k.size, fun b hb hq => (k.block b (Nat.lt_of_lt_of_le hb h.size) (by omega)).trans (h.block b hb hq)⟩
theorem only_box {q : Nat} {u v : World} (h : Only q u v) (o : Obj) : Only q u (v.alloc o) := Only.below_right h (below_boxS v o) h.size
theorem Only.drewS {q : Nat} {u v : World} (h : Only q u v) : Only q u v.drew := ⟨h.os, h.tape, h.output, h.size, h.block⟩
theorem info_sumS : (Tryd.prog.info? 23).map (·.size) = some 32 := info_sum
theorem elem_sumS : Tryd.prog.elem 23 = 5 := by kernel_rfl
theorem len_sumS : Tryd.prog.arrayLen 23 = 32 := by kernel_rfl
theorem slice_all32 (p : Nat) (w : World) : (Instr.sliceAt 23 (.pointer (some ⟨p, 0, none⟩)) none none none).run Tryd.prog w = .ok (.slice (some ⟨p, 0, none⟩) 32 32) w := by
  rw [run_sliceAt_array_all w 23 _ (by rw [len_sumS, elem_sumS]; exact Tryd.underlying23), elem_sumS, size_u8, len_sumS]
  simp only [Result.andThen, slicedAt, Nat.zero_mul, Nat.sub_zero]
  rw [if_neg (by decide), Addr.add_mid]

theorem pad32_cells (T : List UInt8) (_h : T.length ≤ 32) : ((z32.map u8V).take 0 ++ (((⟨T.toArray⟩ : ByteArray).data.toList.take T.length).map u8V ++ (z32.map u8V).drop (0 + (((⟨T.toArray⟩ : ByteArray).data.toList.take T.length).map u8V).length))) = (pad32 T).map u8V := by
  have e : (⟨T.toArray⟩ : ByteArray).data.toList.take T.length = T := List.take_length
  rw [e, List.take_zero, List.nil_append, Nat.zero_add, List.length_map, pad32, List.map_append, z32, List.map_replicate, List.map_replicate, List.drop_replicate]
set_option maxHeartbeats 3200000 in
set_option maxRecDepth 100000 in
theorem readHash_any (q : Nat) (st : Option (List UInt8)) (w : World) (h : Scn q st w) :
    Calls Tryd.prog 48 #[.pointer (some ⟨q, 0, none⟩)] w fun e w' => e = .returned (sumV (hsV st)) ∧ Scn q (hsS st) w' ∧ Only q w w' := by
  obtain ⟨T, hT⟩ : ∃ T, T = textV st 32 := ⟨_, rfl⟩
  have htl : T.length ≤ 32 := by rw [hT]; exact textV_mostN st 32
  have hD : hsV st = pad32 T := by rw [hT]; rfl
  rw [hD]
  have HDl : Hid ((pad32 T).length = 32) := Lib.hid (pad32_length htl)
  have HTL := Lib.hid htl
  have HMIN : Hid (Nat.min (ByteArray.size ⟨T.toArray⟩) 32 = T.length) := Lib.hid (by rw [show ByteArray.size ⟨T.toArray⟩ = T.length by simp [ByteArray.size]]; exact Nat.min_eq_left htl)
  have HPAD := Lib.hid (congrArg List.toArray (pad32_cells T htl))
  have HT : Hid (∀ u : World, Scn q st u → Calls Tryd.prog 53 #[.pointer (some ⟨q, 0, none⟩), .int .i64 32] u fun e w' => e = .returned (.string ⟨T.toArray⟩) ∧ Scn q (textS st 32) w' ∧ Only q u w') := Lib.hid fun u hu => by
    rw [hT]; exact text_any q st 32 u hu (by decide) (by decide)
  obtain ⟨r, hr⟩ : ∃ r, r = w.heap.size := ⟨_, rfl⟩
  obtain ⟨W, hW⟩ : ∃ W, W = w.alloc (.cells (z32.map u8V).toArray 23) := ⟨_, rfl⟩
  have hqr : q < r := by rw [hr]; exact h.lt
  have hz : Blk r 23 (z32.map u8V) W := by rw [hW, hr]; exact Blk.alloc _ _ _
  have ho : Only q w W := by rw [hW]; exact only_box (Only.refl _ _) _
  have hs : Scn q st W := h.old (by rw [hW]; exact below_boxS _ _) h.lt
  have HWR : Hid (w.heap.size ≤ r) := Lib.hid (by omega)
  have HP0 : Hid ((fun k u => Only q w u ∧ r < u.heap.size ∧ (k < 2 → Blk r 23 (z32.map u8V) u) ∧ (k = 0 → Scn q st u) ∧ (1 ≤ k → Scn q (textS st 32) u) ∧ (k = 2 → Blk r 23 ((pad32 T).map u8V) u)) 0 W.drew) := Lib.hid ⟨ho.drewS, hz.lt, fun _ => hz, fun _ => hs, fun h => absurd h (by decide), fun h => absurd h (by decide)⟩
  have HW := Lib.hid hW
  have HR := Lib.hid hr
  clear hT htl hD hW hr hz ho hs h
  go_enter Tryd.func48, Tryd.ntmps48
  go_upto_region 1 with fail
  change Code.wp _ _ _ _ (w.alloc (.cells (z32.map u8V).toArray 23))
  rw [← HW.out, ← HR.out]
  clear HW HR
  try simp only [Act.put]
  refine wp_region_ph (Lx := fun _ _ _ _ => True) [RXP.is (.slice (some ⟨r, 0, none⟩) 32 32), RXP.is (.pointer (some ⟨q, 0, none⟩)), RXP.is (.string ⟨T.toArray⟩), RXP.is (.int .i64 (T.length : Int))] [2, 3] (fun k u => Only q w u ∧ r < u.heap.size ∧ (k < 2 → Blk r 23 (z32.map u8V) u) ∧ (k = 0 → Scn q st u) ∧ (1 ≤ k → Scn q (textS st 32) u) ∧ (k = 2 → Blk r 23 ((pad32 T).map u8V) u)) (by kernel_rfl) (by kernel_rfl) (by kernel_rfl) (by kernel_rfl) (by kernel_rfl) (HP0.out) ⟨?_, ?_, ?_, ?_, trivial⟩ ?_
  · intro ac w' ph hF hPh hlt hP hU K hK0
    have e2 : ac.eval (.tmp 2) = .pointer (some ⟨r, 0, none⟩) := hF.at 2 (by kernel_rfl)
    exact rop_sliceG _ _ _ _ _ rfl e2 rfl rfl rfl (slice_all32 r w') (wanted_none rfl) (hK0 _ _ trivial hPh rfl)
  · intro ac w' ph hF hPh hlt hP hU K hK0
    have e0 : ac.eval (.tmp 0) = .pointer (some ⟨q, 0, none⟩) := hF.at 0 (by kernel_rfl)
    exact rop_move _ rfl e0 (wanted_none rfl) (hK0 _ _ trivial hPh rfl)
  · intro ac w' ph hF hPh hlt hP hU K hK0
    obtain rfl : ph = 0 := (hlt 0 2 rfl).1 rfl
    have e4 : ac.eval (.tmp 4) = .pointer (some ⟨q, 0, none⟩) := hP 1 (by kernel_rfl)
    obtain ⟨ho, hr, hz, hs0, hs1, hd⟩ := hPh
    refine rop_call 53 _ _ rfl #[.pointer (some ⟨q, 0, none⟩), .int .i64 32] (by simp [e4, eval_const]) (by kernel_rfl) (wanted_none rfl) ?_
    refine (HT.out w' (hs0 rfl)).mono ?_
    rintro e w2 ⟨rfl, hs, ox⟩
    exact ⟨_, rfl, hK0 _ _ trivial ⟨ho.trans ox, Nat.lt_of_lt_of_le hr ox.size, fun _ => Blk.kept (hz (by decide)) ox (by omega), fun h => absurd h (by decide), fun _ => hs, fun h => absurd h (by decide)⟩ rfl⟩
  · intro ac w' ph hF hPh hlt hP hU K hK0
    obtain rfl : ph = 1 := (hlt 1 3 rfl).1 rfl
    have e3 : ac.eval (.tmp 3) = .slice (some ⟨r, 0, none⟩) 32 32 := hP 0 (by kernel_rfl)
    have e5 : ac.eval (.tmp 5) = .string ⟨T.toArray⟩ := hP 2 (by kernel_rfl)
    obtain ⟨ho, hr, hz, hs0, hs1, hd⟩ := hPh
    refine step_copy_str rfl (.tmp 3) (.tmp 5) _ _ rfl 5 Tryd.underlying58 size_u8 r 0 32 32 e3 ⟨T.toArray⟩ e5 T.length HMIN.out (z32.map u8V) 23 (hz (by decide)) (by rw [List.length_map, z32_length]; have := HTL.out; omega) ?_
    intro w2 h2 o2
    exact hK0 _ _ trivial ⟨only_new ho o2 HWR.out, Nat.lt_of_lt_of_le hr o2.size, fun h => absurd h (by decide), fun h => absurd h (by decide), fun _ => (hs1 (by decide)).kept o2 (by omega), fun _ => by unfold Blk; rw [h2]; congr 2⟩ rfl
  · intro ac w' hF hPh hT
    rw [hF.setsG [3, 4, 5, 6] (by kernel_rfl)]
    simp only [List.foldl_cons, List.foldl_nil, List.setIfInBounds_toArray, List.set_cons_succ, List.set_cons_zero]
    generalize ac.eval (.tmp 3) = u3
    generalize ac.eval (.tmp 4) = u4
    generalize ac.eval (.tmp 5) = u5
    generalize ac.eval (.tmp 6) = u6
    clear  hT hF ac
    obtain ⟨ho, hr, -, -, hs, hd⟩ := hPh
    have hs := hs (by decide)
    have hd := Lib.hid (hd rfl)
    have HS := Lib.hid hs
    have HO := Lib.hid ho
    clear ho hr hs HT HMIN HPAD HP0
    go_wp2_with (first
      | refine wpList_load_mid rfl 23 (.tmp 2) rfl r 0 rfl ((pad32 T).map u8V) _ (Blk.all hd.out) Tryd.underlying23 rfl (sum_info' HDl.out) ?_
      | refine wpList_store_mid rfl 23 (.tmp 2) (.tmp 7) rfl r 0 ((pad32 T).map u8V).toArray rfl rfl (Blk.there hd.out (by simp)) (sum_info HDl.out) (sum_one (pad32 T)) ?_)
    have ox : Only r w' (w'.setCells r 0 ((pad32 T).map u8V)) := only_setCells _ _ _ (Only.refl r w')
    refine bodyPost_ret (v := sumV (pad32 T)) (results_cell (t := 2) (ty := 23) (b := r) (cs := (pad32 T).map u8V) rfl _ _ _ rfl (Blk.all (Blk.setAll hd.out rfl)) Tryd.underlying23 rfl (sum_info' HDl.out)) rfl ⟨rfl, HS.out.kept ox (by omega), only_new HO.out ox HWR.out⟩
theorem results_ctS {fn : Func} {t u : Tmp} {ty : TypeId} (h : fn.results = #[.cell t ty, .tmp u]) (tmps : Array Value) (P : Program) (w : World) {b : Nat} {cs : List Value} {d : TypeDesc} (ht : tmps.getD t undef = .pointer (some ⟨b, 0, none⟩)) (hc : w.rangeAt b 0 cs)
    (hu : P.underlying ty = some d) (hd : d.isRow = true) (hi : (P.info? ty).map (·.size) = some cs.length) : (results fn tmps).run P w = .ok (.tuple #[.agg cs.toArray, tmps.getD u undef]) w := by
  have := run_loadVar_mid w b 0 ty cs d hc hu hd hi
  rw [Array.getD_eq_getD_getElem?] at ht
  simp [results, h, ht, asAddr, this, Result.andThen]
theorem neq_err0S (w : World) : (binOp .neq 31 (.int .i64 0) (.int .i64 0)).run Tryd.prog w = .ok (.bool false) w := by go_simp
theorem neq_err1S (w : World) : (binOp .neq 31 (.int .i64 1) (.int .i64 0)).run Tryd.prog w = .ok (.bool true) w := by go_simp
theorem neq_txtS (a b : List UInt8) (w : World) : (binOp .neq 9 (.string (tB a)) (.string (tB b))).run Tryd.prog w = .ok (.bool (!decide (a = b))) w := by
  go_simp
  rw [Lib.toList_data, Lib.toList_data]
  by_cases h : a = b
  · subst h; simp [tB]
  · simp [h, tB]
theorem neq_txt_f (a b : List UInt8) (h : a = b) (w : World) : (binOp .neq 9 (.string (tB a)) (.string (tB b))).run Tryd.prog w = .ok (.bool false) w := by rw [neq_txtS, decide_eq_true h]; rfl
theorem neq_txt_t (a b : List UInt8) (h : a ≠ b) (w : World) : (binOp .neq 9 (.string (tB a)) (.string (tB b))).run Tryd.prog w = .ok (.bool true) w := by rw [neq_txtS, decide_eq_false h]; rfl
theorem cut_txt (b : UInt8) (t : List UInt8) (w : World) : (Instr.sliceAt 9 (.string (tB (b :: t))) (some (.int .i64 1)) none none).run Tryd.prog w = .ok (.string (tB t)) w := by
  have h1 : 1 ≤ (tB (b :: t)).size := by rw [tB_size]; simp
  have h2 : (tB (b :: t)).extract 1 (tB (b :: t)).size = tB t := by
    rw [Lib.extract_eq, tB_size]
    show tB _ = _
    simp [tB]
  go_simp
  all_goals first | exact h2 | omega | simp_all
theorem hdGetD_length (s : List UInt8) : (hdCs ((hdRd s).getD hd0)).length = 66 := by
  cases h : hdRd s with
  | none => rfl
  | some f => obtain ⟨-, h1, h2, -⟩ := (hdRd_iff _ _).1 h; exact hdCs_length h1 h2
theorem stGetD_length (s : List UInt8) : (stCs ((stRd s).getD st0)).length = 67 := by
  cases h : stRd s with
  | none => rfl
  | some f => obtain ⟨-, h1, h2, -⟩ := (stRd_iff _ _).1 h; exact stCs_length h1 h2
set_option maxHeartbeats 6400000 in
set_option maxRecDepth 100000 in
theorem fzFind_any (q : Nat) (st : Option (List UInt8)) (w : World) (h : Scn q st w) :
    Calls Tryd.prog 46 #[.pointer (some ⟨q, 0, none⟩)] w fun e w' => e = .returned (.agg (fzCs (fzGet hsV st)).toArray) ∧ Scn q (hsS (fz2 st)) w' ∧ Only q w w' := by
  obtain ⟨g, hg⟩ : ∃ g, g = fzGet hsV st := ⟨_, rfl⟩
  rw [← hg]
  have HGG := Lib.hid hg
  clear hg
  obtain ⟨r, hr⟩ : ∃ r, r = w.heap.size := ⟨_, rfl⟩
  obtain ⟨W1, hW1⟩ : ∃ W, W = w.alloc (.cells (fzCs fz0).toArray 25) := ⟨_, rfl⟩
  obtain ⟨v, hv⟩ : ∃ v, v = r + 1 := ⟨_, rfl⟩
  obtain ⟨W2, hW2⟩ : ∃ W, W = W1.alloc (.cells (fzCs fz0).toArray 25) := ⟨_, rfl⟩
  have hqr : q < r := by rw [hr]; exact h.lt
  have hW1s : W1.heap.size = v := by rw [hW1, hv, hr]; simp
  have b2 : Below W1.heap.size W1 W2 := by rw [hW2]; exact below_boxS _ _
  have h1 : Blk r 25 (fzCs fz0) W1 := by rw [hW1, hr]; exact Blk.alloc _ _ _
  have HZ : FzAt r fz0 W2 := Blk.old h1 b2 h1.lt
  have HA : FzAt v fz0 W2 := by rw [hW2, ← hW1s]; exact Blk.alloc _ _ _
  have ho : Only q w W2 := by rw [hW2, hW1]; exact only_box (only_box (Only.refl _ _) _) _
  have HS : Scn q st W2 := (h.old (by rw [hW1]; exact below_boxS _ _) h.lt).old b2 (by rw [hW1s]; omega)
  have hwr : w.heap.size ≤ r := by omega
  have hwv : w.heap.size ≤ v := by omega
  have hrv : r < v := by omega
  have HIh : Hid ((Tryd.prog.info? 25).map (·.size) = some 34) := Lib.hid (size_of info_fz)
  have HW1 := Lib.hid hW1
  have HW2 := Lib.hid hW2
  have HR := Lib.hid hr
  have HV := Lib.hid hv
  clear hW1 hW2 hr hv hW1s b2 h1 h
  go_enter Tryd.func46, Tryd.ntmps46
  go_upto_region 1 with fail
  change Code.wp _ _ _ _ (w.alloc (.cells (fzCs fz0).toArray 25))
  rw [← HW1.out, ← HR.out]
  go_upto_region 2 with fail
  change Code.wp _ _ _ _ (W1.alloc (.cells (fzCs fz0).toArray 25))
  rw [← HW2.out, show W1.heap.size = v by rw [HW1.out, HV.out, HR.out]; simp]
  clear HW1 HW2 HR HV
  -- a field: a number
  go_upto_region 3 with (go_at_call 47; ((with_reducible refine (num_any q (st) 1125899906842624 _ HS (by decide) (by decide)).mono ?_); rintro e wx ⟨rfl, sx, ox⟩; have hx := Blk.kept HA ox (by omega); have kx := FzAt.win hx; have fx := Blk.fz hx 0))
  obtain ⟨WN, hWN⟩ : ∃ u, u = wx.setCell ⟨v, 0, none⟩ (.int .i64 (numV st 1125899906842624 : Int)) := ⟨_, rfl⟩
  rw [← hWN]
  have oy : Only v wx WN := by rw [hWN]; exact (Only.refl v wx).setCell 0 (.int .i64 (numV st 1125899906842624 : Int))
  have HAn : FzAt v ⟨(numV st 1125899906842624 : Int), 0, z32⟩ WN := by rw [hWN]; exact FzAt.setWin hx _
  clear kx fx
  have HSn := sx.kept oy (by omega)
  have HZn := Blk.kept (Blk.kept HZ ox (by omega)) oy (by omega)
  have hon := only_new (ho.trans ox) oy hwv
  clear hWN oy hx sx ox HA HS HZ ho
  have HA := HAn
  have HS : Scn q (fz1 st) WN := HSn
  have HZ := HZn
  have ho := hon
  clear HAn HSn HZn hon
  -- a field: a number
  go_upto_region 4 with (go_at_call 47; ((with_reducible refine (num_any q (fz1 st) 4000 _ HS (by decide) (by decide)).mono ?_); rintro e wx ⟨rfl, sx, ox⟩; have hx := Blk.kept HA ox (by omega); have kx := FzAt.cnt hx; have fx := Blk.fz hx 1))
  obtain ⟨WN, hWN⟩ : ∃ u, u = wx.setCell ⟨v, 1, none⟩ (.int .i64 (numV (fz1 st) 4000 : Int)) := ⟨_, rfl⟩
  rw [← hWN]
  have oy : Only v wx WN := by rw [hWN]; exact (Only.refl v wx).setCell 1 (.int .i64 (numV (fz1 st) 4000 : Int))
  have HAn : FzAt v ⟨(numV st 1125899906842624 : Int), (numV (fz1 st) 4000 : Int), z32⟩ WN := by rw [hWN]; exact FzAt.setCnt hx _
  clear kx fx
  have HSn := sx.kept oy (by omega)
  have HZn := Blk.kept (Blk.kept HZ ox (by omega)) oy (by omega)
  have hon := only_new (ho.trans ox) oy hwv
  clear hWN oy hx sx ox HA HS HZ ho
  have HA := HAn
  have HS : Scn q (fz2 st) WN := HSn
  have HZ := HZn
  have ho := hon
  clear HAn HSn HZn hon
  -- a field: a hash
  obtain ⟨D, hD⟩ : ∃ D, D = hsV (fz2 st) := ⟨_, rfl⟩
  have HDl : Hid (D.length = 32) := Lib.hid (by rw [hD]; exact hsV_length _)
  have hcD := readHash_any q (fz2 st) _ HS
  rw [← hD] at hcD
  have HCD := Lib.hid hcD
  have HD := Lib.hid hD
  clear hcD hD
  go_upto_region 5 with (first
    | (go_at_call 48; (refine HCD.out.mono ?_; rintro e wx ⟨rfl, sx, ox⟩; have hx := Blk.kept HA ox (by omega)))
    | refine wpList_store_mid rfl 23 (.tmp 12) (.tmp 11) rfl v 2 (D.map u8V).toArray rfl rfl (by rw [List.size_toArray, List.length_map, HDl.out]; exact Blk.there hx (by rw [show (fzCs _).length = 34 from fzCs_length z32_length]; decide)) (sum_info HDl.out) (sum_one D) ?_)
  obtain ⟨WN, hWN⟩ : ∃ u, u = wx.setCells v 2 (D.map u8V) := ⟨_, rfl⟩
  change Code.wp _ _ _ _ (wx.setCells v 2 (D.map u8V))
  rw [← hWN]
  have oy : Only v wx WN := by rw [hWN]; exact only_setCells _ _ _ (Only.refl v wx)
  have HAn : FzAt v (fzGet hsV st) WN := by rw [hWN, HD.out]; exact FzAt.setRoot hx _ (by rw [hsV_length]; exact z32_length.symm)
  clear HCD
  have HSn := sx.kept oy (by omega)
  have HZn := Blk.kept (Blk.kept HZ ox (by omega)) oy (by omega)
  have hon := only_new (ho.trans ox) oy hwv
  clear hWN oy hx sx ox HA HS HZ ho
  have HA := HAn
  have HS : Scn q (hsS (fz2 st)) WN := HSn
  have HZ := HZn
  have ho := hon
  clear HAn HSn HZn hon HD HDl
  have HL : Hid ((fzCs g).length = 34) := Lib.hid (by rw [HGG.out]; exact fzCs_length (hsV_length _))
  rw [← HGG.out] at HA
  go_wp2_with (first
    | refine wpList_load_mid rfl 25 (.tmp 3) rfl v 0 rfl (fzCs g) _ (Blk.all HA) Tryd.underlying25 rfl (by rw [HL.out]; exact HIh.out) ?_
    | refine wpList_store_mid rfl 25 (.tmp 2) (.tmp 13) rfl r 0 (fzCs g).toArray rfl rfl (by rw [List.size_toArray, HL.out]; exact Blk.there HZ (by rw [show (fzCs fz0).length = 34 from rfl]; decide)) (by rw [List.size_toArray, HL.out]; exact HIh.out) one_cells ?_)
  have oz := only_setCells (b := r) (fzCs g) 0 WN (Only.refl r WN)
  exact bodyPost_ret (v := .agg (fzCs g).toArray) (results_cell (t := 2) (ty := 25) (b := r) (cs := fzCs g) rfl _ _ _ rfl (Blk.all (Blk.setAll HZ (by rw [HL.out]; rfl))) Tryd.underlying25 rfl (by rw [HL.out]; exact HIh.out)) rfl ⟨rfl, HS.kept oz (by omega), only_new ho oz hwr⟩
set_option maxHeartbeats 6400000 in
set_option maxRecDepth 100000 in
theorem fzRead_g (s : List UInt8) (w : World) (hs : s.length ≤ 1000000000) :
    Calls Tryd.prog 49 #[.string (tB s), .func (.func 46) #[] #[], .func (.func 10) #[] #[]] w fun e w' => e = .returned (.tuple #[.agg (fzCs ((fzRd s).getD fz0)).toArray, .int .i64 (rdZ (fzRd s))]) ∧ Below w.heap.size w w' := by
  obtain ⟨r, hr⟩ : ∃ r, r = w.heap.size := ⟨_, rfl⟩
  obtain ⟨W1, hW1⟩ : ∃ W, W = w.alloc (.cells (fzCs fz0).toArray 25) := ⟨_, rfl⟩
  obtain ⟨v, hv⟩ : ∃ v, v = r + 1 := ⟨_, rfl⟩
  obtain ⟨W2, hW2⟩ : ∃ W, W = W1.alloc (.cells (fzCs fz0).toArray 25) := ⟨_, rfl⟩
  have hW1s : W1.heap.size = v := by rw [hW1, hv, hr]; simp
  have b1 : Below w.heap.size w W1 := by rw [hW1]; exact below_boxS _ _
  have b2 : Below W1.heap.size W1 W2 := by rw [hW2]; exact below_boxS _ _
  have h1 : Blk r 25 (fzCs fz0) W1 := by rw [hW1, hr]; exact Blk.alloc _ _ _
  have HZ : Blk r 25 (fzCs fz0) W2 := Blk.old h1 b2 h1.lt
  have HN : Blk v 25 (fzCs fz0) W2 := by rw [hW2, ← hW1s]; exact Blk.alloc _ _ _
  have hb := below_step b1 (Nat.le_refl _) b2
  have hwr : w.heap.size ≤ r := by omega
  have HIh : Hid ((Tryd.prog.info? 25).map (·.size) = some 34) := Lib.hid (size_of info_fz)
  have HL0 : Hid ((fzCs fz0).length = 34) := Lib.hid rfl
  have HW1 := Lib.hid hW1
  have HW2 := Lib.hid hW2
  have HR := Lib.hid hr
  have HV := Lib.hid hv
  clear hW1 hW2 hr hv hW1s b1 b2 h1
  cases s with
  | nil =>
    have HRD : Hid (fzRd [] = none) := Lib.hid rfl
    go_enter Tryd.func49, Tryd.ntmps49
    go_upto_region 1 with fail
    change Code.wp _ _ _ _ (w.alloc (.cells (fzCs fz0).toArray 25))
    rw [← HW1.out, ← HR.out]
    go_upto_region 2 with fail
    change Code.wp _ _ _ _ (W1.alloc (.cells (fzCs fz0).toArray 25))
    rw [← HW2.out, show W1.heap.size = v by rw [HW1.out, HV.out, HR.out]; simp]
    clear HW1 HW2 HR HV
    try simp only [Act.put]
    refine wp_region_tab0 [RT.is (.string (tB [])), RT.is (.bool true)] (by kernel_rfl) (by kernel_rfl) (by kernel_rfl) ⟨?_, ?_, trivial⟩ ?_
    · intro ac w' hF hL hP hU K hK
      have hB : Below _ _ _ := hL
      have e0 : ac.eval (.tmp 0) = .string (tB []) := hF.at 0 (by kernel_rfl)
      exact rop_move _ rfl e0 (wanted_none rfl) (hK _ _ (le8_refl _) rfl)
    · intro ac w' hF hL hP hU K hK
      have hB : Below _ _ _ := hL
      have e12 : ac.eval (.tmp 12) = .string (tB []) := hP 0 (by kernel_rfl)
      exact rop_bin _ _ _ _ _ rfl e12 rfl (guard_str _ _ _ _ _ _ w') (eql_empty0 w') (wanted_none rfl) (hK _ _ (le8_refl _) rfl)
    · intro ac w' hF hB hT
      have e13 : ac.eval (.tmp 13) = .bool true := hT 1 (by decide)
      rw [hF.setsG [12, 13] (by kernel_rfl)]
      simp only [List.foldl_cons, List.foldl_nil, List.setIfInBounds_toArray, List.set_cons_succ, List.set_cons_zero, e13]
      generalize ac.eval (.tmp 12) = u12
      clear e13 hT hF ac
      have HZ1 := Blk.old HZ hB HZ.lt
      have HN1 := Blk.old HN hB HN.lt
      have hb1 := below_step hb (Nat.le_refl _) hB
      clear hB HZ HN hb
      go_wp2_with (first
        | refine wpList_load_mid rfl 25 (.tmp 8) rfl v 0 rfl (fzCs fz0) _ (Blk.all HN1) Tryd.underlying25 rfl (by rw [HL0.out]; exact HIh.out) ?_
        | refine wpList_store_mid rfl 25 (.tmp 6) (.tmp 14) rfl r 0 (fzCs fz0).toArray rfl rfl (by rw [List.size_toArray, HL0.out]; exact Blk.there HZ1 (by rw [HL0.out]; decide)) (by rw [List.size_toArray, HL0.out]; exact HIh.out) one_cells ?_)
      try rw [Exit.noGoto_ret]
      have hz := Blk.setAll (n := fzCs fz0) HZ1 rfl
      refine bodyPost_ret (results_ctS (t := 6) (u := 7) (ty := 25) (b := r) rfl _ _ _ rfl (Blk.all hz) Tryd.underlying25 rfl (by rw [HL0.out]; exact HIh.out)) rfl ⟨?_, below_setCells hwr _ _ _ hb1⟩
      rw [HRD.out]
      rfl
  | cons b t =>
    obtain ⟨g, hg⟩ : ∃ g, g = fzGet hsV (some t) := ⟨_, rfl⟩
    have hll : t.length ≤ 1000000000 := by simp only [List.length_cons] at hs; omega
    have HL : Hid ((fzCs g).length = 34) := Lib.hid (by rw [hg]; exact fzCs_length (hsV_length _))
    have HLA : Hid ((fzCs g).toArray.size = 34) := Lib.hid (by rw [List.size_toArray]; exact HL.out)
    have HRQ : Hid (∀ u : World, Calls Tryd.prog 73 #[.string (tB t)] u fun e w' => e = .returned (.pointer (some ⟨u.heap.size, 0, none⟩)) ∧ Scn u.heap.size (some t) w' ∧ Below u.heap.size u w') := Lib.hid fun u => read_any t u (by unfold maxLen; omega)
    have HFD : Hid (∀ (u : World) (q : Nat), Scn q (some t) u → Calls Tryd.prog 46 #[.pointer (some ⟨q, 0, none⟩)] u fun e w' => e = .returned (.agg (fzCs g).toArray) ∧ Only q u w') := Lib.hid fun u q hq => by
      rw [hg]
      exact (fzFind_any q (some t) u hq).mono fun e w' ⟨h1, _, h3⟩ => ⟨h1, h3⟩
    have HBY : Hid (∀ u : World, Calls Tryd.prog 10 #[.agg (fzCs g).toArray] u fun e w' => e = .returned (.tuple #[.string (fzT g), .int .i64 (fzZ g)]) ∧ Below u.heap.size u w') := Lib.hid fun u => by
      rw [hg]
      exact fzBytes_any _ (hsV_length _) u
    have HRD : Hid (fzRd (b :: t) = if fzB g = true ∧ fzL g = b :: t then some g else none) := Lib.hid (by rw [hg]; rfl)
    have hne : (b :: t) ≠ [] := by simp
    have hcut := fun u => cut_txt b t u
    obtain ⟨S, hS⟩ : ∃ S, S = b :: t := ⟨_, rfl⟩
    rw [← hS] at HRD hne hcut ⊢
    have HCUT := Lib.hid hcut
    clear hg hS hs hcut
    go_enter Tryd.func49, Tryd.ntmps49
    go_upto_region 1 with fail
    change Code.wp _ _ _ _ (w.alloc (.cells (fzCs fz0).toArray 25))
    rw [← HW1.out, ← HR.out]
    go_upto_region 2 with fail
    change Code.wp _ _ _ _ (W1.alloc (.cells (fzCs fz0).toArray 25))
    rw [← HW2.out, show W1.heap.size = v by rw [HW1.out, HV.out, HR.out]; simp]
    clear HW1 HW2 HR HV
    try simp only [Act.put]
    refine wp_region_tab0 [RT.is (.string (tB S)), RT.is (.bool false)] (by kernel_rfl) (by kernel_rfl) (by kernel_rfl) ⟨?_, ?_, trivial⟩ ?_
    · intro ac w' hF hL hP hU K hK
      have hB : Below _ _ _ := hL
      have e0 : ac.eval (.tmp 0) = .string (tB S) := hF.at 0 (by kernel_rfl)
      exact rop_move _ rfl e0 (wanted_none rfl) (hK _ _ (le8_refl _) rfl)
    · intro ac w' hF hL hP hU K hK
      have hB : Below _ _ _ := hL
      have e12 : ac.eval (.tmp 12) = .string (tB S) := hP 0 (by kernel_rfl)
      exact rop_bin _ _ _ _ _ rfl e12 rfl (guard_str _ _ _ _ _ _ w') (eql_empty S hne w') (wanted_none rfl) (hK _ _ (le8_refl _) rfl)
    · intro ac w' hF hB hT
      have e13 : ac.eval (.tmp 13) = .bool false := hT 1 (by decide)
      rw [hF.setsG [12, 13] (by kernel_rfl)]
      simp only [List.foldl_cons, List.foldl_nil, List.setIfInBounds_toArray, List.set_cons_succ, List.set_cons_zero, e13]
      generalize ac.eval (.tmp 12) = u12
      clear e13 hT hF ac
      have HZ1 := Blk.old HZ hB HZ.lt
      have HN1 := Blk.old HN hB HN.lt
      have hb1 := below_step hb (Nat.le_refl _) hB
      have hv1 := Nat.lt_of_lt_of_le HN.lt hB.size
      have hrv : r < w'.heap.size := Nat.lt_of_lt_of_le HZ.lt hB.size
      clear hB HZ HN hb
      go_upto_region 5 with (first
        | refine wpList_slice_runS rfl 9 (.tmp 16) (some (.const (.int .i64 1))) none none rfl rfl rfl rfl rfl (HCUT.out _) ?_
        | (go_at_call 73; (refine (HRQ.out _).mono ?_; rintro e w3 ⟨rfl, sx, b3⟩))
        | (go_at_call 46; (refine (HFD.out _ _ sx).mono ?_; rintro e w4 ⟨rfl, o4⟩))
        | refine wpList_store_mid (w := w4.alloc (.cells (fzCs fz0).toArray 25)) rfl 25 (.tmp 9) (.tmp 19) rfl w4.heap.size 0 (fzCs g).toArray rfl rfl (by rw [HLA.out]; exact Blk.there (Blk.alloc w4 25 (fzCs fz0)) (by rw [HL0.out]; decide)) (by rw [List.size_toArray, HL.out]; exact HIh.out) one_cells ?_)
      have b34 : Below w'.heap.size w' w4 := b3.trans (o4.below (Nat.le_refl _) b3.size)
      obtain ⟨x, hx⟩ : ∃ x, x = w4.heap.size := ⟨_, rfl⟩
      obtain ⟨W5, hW5⟩ : ∃ u, u = (w4.alloc (.cells (fzCs fz0).toArray 25)).setCells x 0 (fzCs g) := ⟨_, rfl⟩
      have b5 : Below w4.heap.size w4 W5 := by rw [hW5, hx]; exact below_setCells (Nat.le_refl _) _ _ _ (below_boxS _ _)
      have HA : Blk x 25 (fzCs g) W5 := by rw [hW5, hx]; exact Blk.setAll (Blk.alloc w4 25 (fzCs fz0)) (by rw [HL.out]; rfl)
      have HZ5 := Blk.old (Blk.old HZ1 b34 HZ1.lt) b5 (Nat.lt_of_lt_of_le HZ1.lt b34.size)
      have HN5 := Blk.old (Blk.old HN1 b34 HN1.lt) b5 (Nat.lt_of_lt_of_le HN1.lt b34.size)
      have hb5 := below_step (below_step hb1 (Nat.le_refl _) b34) (Nat.le_refl _) b5
      change Code.wp _ _ _ _ ((w4.alloc (.cells (fzCs fz0).toArray 25)).setCells w4.heap.size 0 (fzCs g))
      have hW5' : W5 = (w4.alloc (.cells (fzCs fz0).toArray 25)).setCells w4.heap.size 0 (fzCs g) := by rw [hW5, hx]
      rw [← hW5', ← hx]
      clear hW5 hW5' hx b5 b34 b3 o4 sx HZ1 HN1 hb1 HRQ HFD HCUT
      go_upto_region 6 with (first
        | refine wpList_load_mid rfl 25 (.tmp 9) rfl x 0 rfl (fzCs g) _ (Blk.all HA) Tryd.underlying25 rfl (by rw [HL.out]; exact HIh.out) ?_
        | (go_at_call 10; (refine (HBY.out _).mono ?_; rintro e w6 ⟨rfl, b6⟩)))
      have HA6 := Blk.old HA b6 HA.lt
      have HZ6 := Blk.old HZ5 b6 HZ5.lt
      have HN6 := Blk.old HN5 b6 HN5.lt
      have hb6 := below_step hb5 (Nat.le_refl _) b6
      clear b6 HA HZ5 HN5 hb5 HBY
      by_cases hz : fzB g = true
      · have et : fzT g = tB (fzL g) := if_pos hz
        have ez : fzZ g = 0 := if_pos hz
        rw [et, ez]
        by_cases he : fzL g = S
        · replace HRD : Hid (fzRd S = some g) := Lib.hid (by rw [HRD.out, if_pos ⟨hz, he⟩])
          clear et ez hz
          try simp only [Act.put]
          refine wp_region_tab0 [RT.is (.int .i64 0), RT.is (.bool false), RT.is (.bool false), RT.is (.string (tB (fzL g))), RT.is (.string (tB S)), RT.is (.bool false), RT.is (.bool false)] (by kernel_rfl) (by kernel_rfl) (by kernel_rfl) ⟨?_, ?_, ?_, ?_, ?_, ?_, ?_, trivial⟩ ?_
          · intro ac w' hF hL hP hU K hK
            have hB : Below _ _ _ := hL
            have e11 : ac.eval (.tmp 11) = .int .i64 0 := hF.at 11 (by kernel_rfl)
            exact rop_move _ rfl e11 (wanted_none rfl) (hK _ _ (le8_refl _) rfl)
          · intro ac w' hF hL hP hU K hK
            have hB : Below _ _ _ := hL
            have e26 : ac.eval (.tmp 26) = .int .i64 0 := hP 0 (by kernel_rfl)
            exact rop_bin _ _ _ _ _ rfl e26 rfl (guard_int _ _ _ _ _ _ _ w') (neq_err0S w') (wanted_none rfl) (hK _ _ (le8_refl _) rfl)
          · intro ac w' hF hL hP hU K hK
            have hB : Below _ _ _ := hL
            have e27 : ac.eval (.tmp 27) = .bool false := hP 1 (by kernel_rfl)
            exact rop_move _ rfl e27 (wanted_none rfl) (hK _ _ (le8_refl _) rfl)
          · intro ac w' hF hL hP hU K hK
            have hB : Below _ _ _ := hL
            have e10 : ac.eval (.tmp 10) = .string (tB (fzL g)) := hF.at 10 (by kernel_rfl)
            have e28 : ac.eval (.tmp 28) = .bool false := hP 2 (by kernel_rfl)
            exact rop_move _ rfl e10 (wanted_of (j := 2) (b := false) rfl rfl e28) (hK _ _ (le8_refl _) rfl)
          · intro ac w' hF hL hP hU K hK
            have hB : Below _ _ _ := hL
            have e0 : ac.eval (.tmp 0) = .string (tB S) := hF.at 0 (by kernel_rfl)
            have e28 : ac.eval (.tmp 28) = .bool false := hP 2 (by kernel_rfl)
            exact rop_move _ rfl e0 (wanted_of (j := 2) (b := false) rfl rfl e28) (hK _ _ (le8_refl _) rfl)
          · intro ac w' hF hL hP hU K hK
            have hB : Below _ _ _ := hL
            have e29 : ac.eval (.tmp 29) = .string (tB (fzL g)) := hP 3 (by kernel_rfl)
            have e30 : ac.eval (.tmp 30) = .string (tB S) := hP 4 (by kernel_rfl)
            have e28 : ac.eval (.tmp 28) = .bool false := hP 2 (by kernel_rfl)
            exact rop_bin _ _ _ _ _ rfl e29 e30 (guard_str _ _ _ _ _ _ w') (neq_txt_f _ _ he w') (wanted_of (j := 2) (b := false) rfl rfl e28) (hK _ _ (le8_refl _) rfl)
          · intro ac w' hF hL hP hU K hK
            have hB : Below _ _ _ := hL
            have e28 : ac.eval (.tmp 28) = .bool false := hP 2 (by kernel_rfl)
            have e31 : ac.eval (.tmp 31) = .bool false := hP 5 (by kernel_rfl)
            exact rop_pick _ _ _ rfl false e28 (by simpa using e31) (wanted_none rfl) (hK _ _ (le8_refl _) rfl)
          · intro ac w' hF hB hT
            have e32 : ac.eval (.tmp 32) = .bool false := hT 6 (by decide)
            rw [hF.setsG [26, 27, 28, 29, 30, 31, 32] (by kernel_rfl)]
            simp only [List.foldl_cons, List.foldl_nil, List.setIfInBounds_toArray, List.set_cons_succ, List.set_cons_zero, e32]
            generalize ac.eval (.tmp 26) = u26
            generalize ac.eval (.tmp 27) = u27
            generalize ac.eval (.tmp 28) = u28
            generalize ac.eval (.tmp 29) = u29
            generalize ac.eval (.tmp 30) = u30
            generalize ac.eval (.tmp 31) = u31
            clear e32 hT hF ac
            have HA7 := Blk.old HA6 hB HA6.lt
            have HZ7 := Blk.old HZ6 hB HZ6.lt
            have HN7 := Blk.old HN6 hB HN6.lt
            have hb7 := below_step hb6 (Nat.le_refl _) hB
            clear hB HA6 HZ6 HN6 hb6
            clear he
            go_wp2_with (first
              | refine wpList_load_mid rfl 25 (.tmp 9) rfl x 0 rfl (fzCs g) _ (Blk.all HA7) Tryd.underlying25 rfl (by rw [HL.out]; exact HIh.out) ?_
              | refine wpList_store_mid rfl 25 (.tmp 6) (.tmp 34) rfl r 0 (fzCs g).toArray rfl rfl (by rw [List.size_toArray, HL.out]; exact Blk.there HZ7 (by rw [HL0.out]; decide)) (by rw [List.size_toArray, HL.out]; exact HIh.out) one_cells ?_)
            try rw [Exit.noGoto_ret]
            have hz := Blk.setAll (n := fzCs g) HZ7 (by rw [HL.out]; rfl)
            refine bodyPost_ret (results_ctS (t := 6) (u := 7) (ty := 25) (b := r) rfl _ _ _ rfl (Blk.all hz) Tryd.underlying25 rfl (by rw [HL.out]; exact HIh.out)) rfl ⟨?_, below_setCells hwr _ _ _ hb7⟩
            rw [HRD.out]
            rfl
        · replace HRD : Hid (fzRd S = none) := Lib.hid (by rw [HRD.out, if_neg (fun h => he h.2)])
          clear et ez hz
          try simp only [Act.put]
          refine wp_region_tab0 [RT.is (.int .i64 0), RT.is (.bool false), RT.is (.bool false), RT.is (.string (tB (fzL g))), RT.is (.string (tB S)), RT.is (.bool true), RT.is (.bool true)] (by kernel_rfl) (by kernel_rfl) (by kernel_rfl) ⟨?_, ?_, ?_, ?_, ?_, ?_, ?_, trivial⟩ ?_
          · intro ac w' hF hL hP hU K hK
            have hB : Below _ _ _ := hL
            have e11 : ac.eval (.tmp 11) = .int .i64 0 := hF.at 11 (by kernel_rfl)
            exact rop_move _ rfl e11 (wanted_none rfl) (hK _ _ (le8_refl _) rfl)
          · intro ac w' hF hL hP hU K hK
            have hB : Below _ _ _ := hL
            have e26 : ac.eval (.tmp 26) = .int .i64 0 := hP 0 (by kernel_rfl)
            exact rop_bin _ _ _ _ _ rfl e26 rfl (guard_int _ _ _ _ _ _ _ w') (neq_err0S w') (wanted_none rfl) (hK _ _ (le8_refl _) rfl)
          · intro ac w' hF hL hP hU K hK
            have hB : Below _ _ _ := hL
            have e27 : ac.eval (.tmp 27) = .bool false := hP 1 (by kernel_rfl)
            exact rop_move _ rfl e27 (wanted_none rfl) (hK _ _ (le8_refl _) rfl)
          · intro ac w' hF hL hP hU K hK
            have hB : Below _ _ _ := hL
            have e10 : ac.eval (.tmp 10) = .string (tB (fzL g)) := hF.at 10 (by kernel_rfl)
            have e28 : ac.eval (.tmp 28) = .bool false := hP 2 (by kernel_rfl)
            exact rop_move _ rfl e10 (wanted_of (j := 2) (b := false) rfl rfl e28) (hK _ _ (le8_refl _) rfl)
          · intro ac w' hF hL hP hU K hK
            have hB : Below _ _ _ := hL
            have e0 : ac.eval (.tmp 0) = .string (tB S) := hF.at 0 (by kernel_rfl)
            have e28 : ac.eval (.tmp 28) = .bool false := hP 2 (by kernel_rfl)
            exact rop_move _ rfl e0 (wanted_of (j := 2) (b := false) rfl rfl e28) (hK _ _ (le8_refl _) rfl)
          · intro ac w' hF hL hP hU K hK
            have hB : Below _ _ _ := hL
            have e29 : ac.eval (.tmp 29) = .string (tB (fzL g)) := hP 3 (by kernel_rfl)
            have e30 : ac.eval (.tmp 30) = .string (tB S) := hP 4 (by kernel_rfl)
            have e28 : ac.eval (.tmp 28) = .bool false := hP 2 (by kernel_rfl)
            exact rop_bin _ _ _ _ _ rfl e29 e30 (guard_str _ _ _ _ _ _ w') (neq_txt_t _ _ he w') (wanted_of (j := 2) (b := false) rfl rfl e28) (hK _ _ (le8_refl _) rfl)
          · intro ac w' hF hL hP hU K hK
            have hB : Below _ _ _ := hL
            have e28 : ac.eval (.tmp 28) = .bool false := hP 2 (by kernel_rfl)
            have e31 : ac.eval (.tmp 31) = .bool true := hP 5 (by kernel_rfl)
            exact rop_pick _ _ _ rfl false e28 (by simpa using e31) (wanted_none rfl) (hK _ _ (le8_refl _) rfl)
          · intro ac w' hF hB hT
            have e32 : ac.eval (.tmp 32) = .bool true := hT 6 (by decide)
            rw [hF.setsG [26, 27, 28, 29, 30, 31, 32] (by kernel_rfl)]
            simp only [List.foldl_cons, List.foldl_nil, List.setIfInBounds_toArray, List.set_cons_succ, List.set_cons_zero, e32]
            generalize ac.eval (.tmp 26) = u26
            generalize ac.eval (.tmp 27) = u27
            generalize ac.eval (.tmp 28) = u28
            generalize ac.eval (.tmp 29) = u29
            generalize ac.eval (.tmp 30) = u30
            generalize ac.eval (.tmp 31) = u31
            clear e32 hT hF ac
            have HA7 := Blk.old HA6 hB HA6.lt
            have HZ7 := Blk.old HZ6 hB HZ6.lt
            have HN7 := Blk.old HN6 hB HN6.lt
            have hb7 := below_step hb6 (Nat.le_refl _) hB
            clear hB HA6 HZ6 HN6 hb6
            clear he HA7
            go_wp2_with (first
              | refine wpList_load_mid rfl 25 (.tmp 8) rfl v 0 rfl (fzCs fz0) _ (Blk.all HN7) Tryd.underlying25 rfl (by rw [HL0.out]; exact HIh.out) ?_
              | refine wpList_store_mid rfl 25 (.tmp 6) (.tmp 33) rfl r 0 (fzCs fz0).toArray rfl rfl (by rw [List.size_toArray, HL0.out]; exact Blk.there HZ7 (by rw [HL0.out]; decide)) (by rw [List.size_toArray, HL0.out]; exact HIh.out) one_cells ?_)
            try rw [Exit.noGoto_ret]
            have hz := Blk.setAll (n := fzCs fz0) HZ7 rfl
            refine bodyPost_ret (results_ctS (t := 6) (u := 7) (ty := 25) (b := r) rfl _ _ _ rfl (Blk.all hz) Tryd.underlying25 rfl (by rw [HL0.out]; exact HIh.out)) rfl ⟨?_, below_setCells hwr _ _ _ hb7⟩
            rw [HRD.out]
            rfl
      · have et : fzT g = tB [] := if_neg hz
        have ez : fzZ g = 1 := if_neg hz
        rw [et, ez]
        replace HRD : Hid (fzRd S = none) := Lib.hid (by rw [HRD.out, if_neg (fun h => hz h.1)])
        clear et ez hz
        try simp only [Act.put]
        refine wp_region_tab0 [RT.is (.int .i64 1), RT.is (.bool true), RT.is (.bool true), RT.is undef, RT.is undef, RT.is undef, RT.is (.bool true)] (by kernel_rfl) (by kernel_rfl) (by kernel_rfl) ⟨?_, ?_, ?_, ?_, ?_, ?_, ?_, trivial⟩ ?_
        · intro ac w' hF hL hP hU K hK
          have hB : Below _ _ _ := hL
          have e11 : ac.eval (.tmp 11) = .int .i64 1 := hF.at 11 (by kernel_rfl)
          exact rop_move _ rfl e11 (wanted_none rfl) (hK _ _ (le8_refl _) rfl)
        · intro ac w' hF hL hP hU K hK
          have hB : Below _ _ _ := hL
          have e26 : ac.eval (.tmp 26) = .int .i64 1 := hP 0 (by kernel_rfl)
          exact rop_bin _ _ _ _ _ rfl e26 rfl (guard_int _ _ _ _ _ _ _ w') (neq_err1S w') (wanted_none rfl) (hK _ _ (le8_refl _) rfl)
        · intro ac w' hF hL hP hU K hK
          have hB : Below _ _ _ := hL
          have e27 : ac.eval (.tmp 27) = .bool true := hP 1 (by kernel_rfl)
          exact rop_move _ rfl e27 (wanted_none rfl) (hK _ _ (le8_refl _) rfl)
        · intro ac w' hF hL hP hU K hK
          have hB : Below _ _ _ := hL
          have e28 : ac.eval (.tmp 28) = .bool true := hP 2 (by kernel_rfl)
          exact rop_offG (j := 2) (b := false) rfl rfl e28 (by decide) (hK _ _ (le8_refl _) rfl)
        · intro ac w' hF hL hP hU K hK
          have hB : Below _ _ _ := hL
          have e28 : ac.eval (.tmp 28) = .bool true := hP 2 (by kernel_rfl)
          exact rop_offG (j := 2) (b := false) rfl rfl e28 (by decide) (hK _ _ (le8_refl _) rfl)
        · intro ac w' hF hL hP hU K hK
          have hB : Below _ _ _ := hL
          have e28 : ac.eval (.tmp 28) = .bool true := hP 2 (by kernel_rfl)
          exact rop_offG (j := 2) (b := false) rfl rfl e28 (by decide) (hK _ _ (le8_refl _) rfl)
        · intro ac w' hF hL hP hU K hK
          have hB : Below _ _ _ := hL
          have e28 : ac.eval (.tmp 28) = .bool true := hP 2 (by kernel_rfl)
          exact rop_pick _ _ _ rfl true e28 (by rfl) (wanted_none rfl) (hK _ _ (le8_refl _) rfl)
        · intro ac w' hF hB hT
          have e32 : ac.eval (.tmp 32) = .bool true := hT 6 (by decide)
          rw [hF.setsG [26, 27, 28, 29, 30, 31, 32] (by kernel_rfl)]
          simp only [List.foldl_cons, List.foldl_nil, List.setIfInBounds_toArray, List.set_cons_succ, List.set_cons_zero, e32]
          generalize ac.eval (.tmp 26) = u26
          generalize ac.eval (.tmp 27) = u27
          generalize ac.eval (.tmp 28) = u28
          generalize ac.eval (.tmp 29) = u29
          generalize ac.eval (.tmp 30) = u30
          generalize ac.eval (.tmp 31) = u31
          clear e32 hT hF ac
          have HA7 := Blk.old HA6 hB HA6.lt
          have HZ7 := Blk.old HZ6 hB HZ6.lt
          have HN7 := Blk.old HN6 hB HN6.lt
          have hb7 := below_step hb6 (Nat.le_refl _) hB
          clear hB HA6 HZ6 HN6 hb6
          clear HA7
          go_wp2_with (first
            | refine wpList_load_mid rfl 25 (.tmp 8) rfl v 0 rfl (fzCs fz0) _ (Blk.all HN7) Tryd.underlying25 rfl (by rw [HL0.out]; exact HIh.out) ?_
            | refine wpList_store_mid rfl 25 (.tmp 6) (.tmp 33) rfl r 0 (fzCs fz0).toArray rfl rfl (by rw [List.size_toArray, HL0.out]; exact Blk.there HZ7 (by rw [HL0.out]; decide)) (by rw [List.size_toArray, HL0.out]; exact HIh.out) one_cells ?_)
          try rw [Exit.noGoto_ret]
          have hz := Blk.setAll (n := fzCs fz0) HZ7 rfl
          refine bodyPost_ret (results_ctS (t := 6) (u := 7) (ty := 25) (b := r) rfl _ _ _ rfl (Blk.all hz) Tryd.underlying25 rfl (by rw [HL0.out]; exact HIh.out)) rfl ⟨?_, below_setCells hwr _ _ _ hb7⟩
          rw [HRD.out]
          rfl
set_option maxHeartbeats 3200000 in
set_option maxRecDepth 100000 in
theorem fzRead_any (s : ByteArray) (w : World) (hs : s.size ≤ 1000000000) :
    Calls Tryd.prog 18 #[.string s] w fun e w' => e = .returned (.tuple #[.agg (fzCs ((fzRd s.data.toList).getD fz0)).toArray, .int .i64 (rdZ (fzRd s.data.toList))]) ∧ Below w.heap.size w w' := by
  obtain ⟨g, hg⟩ : ∃ g, g = (fzRd s.data.toList).getD fz0 := ⟨_, rfl⟩
  obtain ⟨Z, hZ⟩ : ∃ Z, Z = rdZ (fzRd s.data.toList) := ⟨_, rfl⟩
  have HL : Hid ((fzCs g).length = 34) := Lib.hid (by rw [hg]; exact fzCs_length (fzGetD_length fun f hf => ((fzRd_iff _ _).1 hf).2.1))
  have HQ : Hid (∀ u : World, Calls Tryd.prog 49 #[.string s, .func (.func 46) #[] #[], .func (.func 10) #[] #[]] u fun e w' => e = .returned (.tuple #[.agg (fzCs g).toArray, .int .i64 Z]) ∧ Below u.heap.size u w') := Lib.hid fun u => by
    rw [hg, hZ]
    have := fzRead_g s.data.toList u (by rw [← Lib.size_eq]; exact hs)
    rw [tB_of] at this
    exact this
  rw [← hg, ← hZ]
  obtain ⟨r, hr⟩ : ∃ r, r = w.heap.size := ⟨_, rfl⟩
  obtain ⟨W1, hW1⟩ : ∃ W, W = w.alloc (.cells (fzCs fz0).toArray 25) := ⟨_, rfl⟩
  have b1 : Below w.heap.size w W1 := by rw [hW1]; exact below_boxS _ _
  have HZ1 : Blk r 25 (fzCs fz0) W1 := by rw [hW1, hr]; exact Blk.alloc _ _ _
  have hwr : w.heap.size ≤ r := by omega
  have HIh : Hid ((Tryd.prog.info? 25).map (·.size) = some 34) := Lib.hid (size_of info_fz)
  have HL0 : Hid ((fzCs fz0).length = 34) := Lib.hid rfl
  have HW1 := Lib.hid hW1
  have HR := Lib.hid hr
  clear hW1 hr hg hZ hs
  go_enter Tryd.func18, Tryd.ntmps18
  go_upto_region 1 with fail
  change Code.wp _ _ _ _ (w.alloc (.cells (fzCs fz0).toArray 25))
  rw [← HW1.out, ← HR.out]
  clear HW1 HR
  go_wp2_with (first
    | (go_at_call 49; (refine (HQ.out _).mono ?_; rintro e w3 ⟨rfl, b3⟩; have HZ3 := Blk.old HZ1 b3 HZ1.lt))
    | refine wpList_store_mid rfl 25 (.tmp 2) (.tmp 8) rfl r 0 (fzCs g).toArray rfl rfl (by rw [List.size_toArray, HL.out]; exact Blk.there HZ3 (by rw [HL0.out]; decide)) (by rw [List.size_toArray, HL.out]; exact HIh.out) one_cells ?_)
  have hz := Blk.setAll (n := fzCs g) HZ3 (by rw [HL.out]; rfl)
  exact bodyPost_ret (results_ctS (t := 2) (u := 3) (ty := 25) (b := r) rfl _ _ _ rfl (Blk.all hz) Tryd.underlying25 rfl (by rw [HL.out]; exact HIh.out)) rfl ⟨rfl, below_setCells hwr _ _ _ (below_step b1 (Nat.le_refl _) b3)⟩
set_option maxHeartbeats 6400000 in
set_option maxRecDepth 100000 in
theorem hdFind_any (q : Nat) (st : Option (List UInt8)) (w : World) (h : Scn q st w) :
    Calls Tryd.prog 50 #[.pointer (some ⟨q, 0, none⟩)] w fun e w' => e = .returned (.agg (hdCs (hdGet hsV hsS st)).toArray) ∧ Scn q (hd4 hsS st) w' ∧ Only q w w' := by
  obtain ⟨g, hg⟩ : ∃ g, g = hdGet hsV hsS st := ⟨_, rfl⟩
  rw [← hg]
  have HGG := Lib.hid hg
  clear hg
  obtain ⟨r, hr⟩ : ∃ r, r = w.heap.size := ⟨_, rfl⟩
  obtain ⟨W1, hW1⟩ : ∃ W, W = w.alloc (.cells (hdCs hd0).toArray 27) := ⟨_, rfl⟩
  obtain ⟨v, hv⟩ : ∃ v, v = r + 1 := ⟨_, rfl⟩
  obtain ⟨W2, hW2⟩ : ∃ W, W = W1.alloc (.cells (hdCs hd0).toArray 27) := ⟨_, rfl⟩
  have hqr : q < r := by rw [hr]; exact h.lt
  have hW1s : W1.heap.size = v := by rw [hW1, hv, hr]; simp
  have b2 : Below W1.heap.size W1 W2 := by rw [hW2]; exact below_boxS _ _
  have h1 : Blk r 27 (hdCs hd0) W1 := by rw [hW1, hr]; exact Blk.alloc _ _ _
  have HZ : HdAt r hd0 W2 := Blk.old h1 b2 h1.lt
  have HA : HdAt v hd0 W2 := by rw [hW2, ← hW1s]; exact Blk.alloc _ _ _
  have ho : Only q w W2 := by rw [hW2, hW1]; exact only_box (only_box (Only.refl _ _) _) _
  have HS : Scn q st W2 := (h.old (by rw [hW1]; exact below_boxS _ _) h.lt).old b2 (by rw [hW1s]; omega)
  have hwr : w.heap.size ≤ r := by omega
  have hwv : w.heap.size ≤ v := by omega
  have hrv : r < v := by omega
  have HIh : Hid ((Tryd.prog.info? 27).map (·.size) = some 66) := Lib.hid (size_of info_hd)
  have HW1 := Lib.hid hW1
  have HW2 := Lib.hid hW2
  have HR := Lib.hid hr
  have HV := Lib.hid hv
  clear hW1 hW2 hr hv hW1s b2 h1 h
  go_enter Tryd.func50, Tryd.ntmps50
  go_upto_region 1 with fail
  change Code.wp _ _ _ _ (w.alloc (.cells (hdCs hd0).toArray 27))
  rw [← HW1.out, ← HR.out]
  go_upto_region 2 with fail
  change Code.wp _ _ _ _ (W1.alloc (.cells (hdCs hd0).toArray 27))
  rw [← HW2.out, show W1.heap.size = v by rw [HW1.out, HV.out, HR.out]; simp]
  clear HW1 HW2 HR HV
  -- a field: a number
  go_upto_region 3 with (go_at_call 47; ((with_reducible refine (num_any q (st) 1099511627776 _ HS (by decide) (by decide)).mono ?_); rintro e wx ⟨rfl, sx, ox⟩; have hx := Blk.kept HA ox (by omega); have kx := HdAt.size hx; have fx := Blk.fz hx 0))
  obtain ⟨WN, hWN⟩ : ∃ u, u = wx.setCell ⟨v, 0, none⟩ (.int .i64 (numV st 1099511627776 : Int)) := ⟨_, rfl⟩
  rw [← hWN]
  have oy : Only v wx WN := by rw [hWN]; exact (Only.refl v wx).setCell 0 (.int .i64 (numV st 1099511627776 : Int))
  have HAn : HdAt v ⟨(numV st 1099511627776 : Int), z32, 0, z32⟩ WN := by rw [hWN]; exact HdAt.setSize hx _
  clear kx fx
  have HSn := sx.kept oy (by omega)
  have HZn := Blk.kept (Blk.kept HZ ox (by omega)) oy (by omega)
  have hon := only_new (ho.trans ox) oy hwv
  clear hWN oy hx sx ox HA HS HZ ho
  have HA := HAn
  have HS : Scn q (hd1 st) WN := HSn
  have HZ := HZn
  have ho := hon
  clear HAn HSn HZn hon
  -- a field: a hash
  obtain ⟨D, hD⟩ : ∃ D, D = hsV (hd1 st) := ⟨_, rfl⟩
  have HDl : Hid (D.length = 32) := Lib.hid (by rw [hD]; exact hsV_length _)
  have hcD := readHash_any q (hd1 st) _ HS
  rw [← hD] at hcD
  have HCD := Lib.hid hcD
  have HD := Lib.hid hD
  clear hcD hD
  go_upto_region 4 with (first
    | (go_at_call 48; (refine HCD.out.mono ?_; rintro e wx ⟨rfl, sx, ox⟩; have hx := Blk.kept HA ox (by omega)))
    | refine wpList_store_mid rfl 23 (.tmp 9) (.tmp 8) rfl v 1 (D.map u8V).toArray rfl rfl (by rw [List.size_toArray, List.length_map, HDl.out]; exact Blk.there hx (by rw [show (hdCs _).length = 66 from hdCs_length z32_length z32_length]; decide)) (sum_info HDl.out) (sum_one D) ?_)
  obtain ⟨WN, hWN⟩ : ∃ u, u = wx.setCells v 1 (D.map u8V) := ⟨_, rfl⟩
  change Code.wp _ _ _ _ (wx.setCells v 1 (D.map u8V))
  rw [← hWN]
  have oy : Only v wx WN := by rw [hWN]; exact only_setCells _ _ _ (Only.refl v wx)
  have HAn : HdAt v ⟨(numV st 1099511627776 : Int), hsV (hd1 st), 0, z32⟩ WN := by rw [hWN, HD.out]; exact HdAt.setRoot hx _ (by rw [hsV_length]; exact z32_length.symm)
  clear HCD
  have HSn := sx.kept oy (by omega)
  have HZn := Blk.kept (Blk.kept HZ ox (by omega)) oy (by omega)
  have hon := only_new (ho.trans ox) oy hwv
  clear hWN oy hx sx ox HA HS HZ ho
  have HA := HAn
  have HS : Scn q (hd2 hsS st) WN := HSn
  have HZ := HZn
  have ho := hon
  clear HAn HSn HZn hon HD HDl
  -- a field: a number
  go_upto_region 5 with (go_at_call 47; ((with_reducible refine (num_any q (hd2 hsS st) 1125899906842624 _ HS (by decide) (by decide)).mono ?_); rintro e wx ⟨rfl, sx, ox⟩; have hx := Blk.kept HA ox (by omega); have kx := HdAt.clock hx (hsV_length _); have fx := Blk.fz hx 33))
  obtain ⟨WN, hWN⟩ : ∃ u, u = wx.setCell ⟨v, 33, none⟩ (.int .i64 (numV (hd2 hsS st) 1125899906842624 : Int)) := ⟨_, rfl⟩
  rw [← hWN]
  have oy : Only v wx WN := by rw [hWN]; exact (Only.refl v wx).setCell 33 (.int .i64 (numV (hd2 hsS st) 1125899906842624 : Int))
  have HAn : HdAt v ⟨(numV st 1099511627776 : Int), hsV (hd1 st), (numV (hd2 hsS st) 1125899906842624 : Int), z32⟩ WN := by rw [hWN]; exact HdAt.setClock hx (hsV_length _) _
  clear kx fx
  have HSn := sx.kept oy (by omega)
  have HZn := Blk.kept (Blk.kept HZ ox (by omega)) oy (by omega)
  have hon := only_new (ho.trans ox) oy hwv
  clear hWN oy hx sx ox HA HS HZ ho
  have HA := HAn
  have HS : Scn q (hd3 hsS st) WN := HSn
  have HZ := HZn
  have ho := hon
  clear HAn HSn HZn hon
  -- a field: a hash
  obtain ⟨D, hD⟩ : ∃ D, D = hsV (hd3 hsS st) := ⟨_, rfl⟩
  have HDl : Hid (D.length = 32) := Lib.hid (by rw [hD]; exact hsV_length _)
  have hcD := readHash_any q (hd3 hsS st) _ HS
  rw [← hD] at hcD
  have HCD := Lib.hid hcD
  have HD := Lib.hid hD
  clear hcD hD
  go_upto_region 6 with (first
    | (go_at_call 48; (refine HCD.out.mono ?_; rintro e wx ⟨rfl, sx, ox⟩; have hx := Blk.kept HA ox (by omega)))
    | refine wpList_store_mid rfl 23 (.tmp 15) (.tmp 14) rfl v 34 (D.map u8V).toArray rfl rfl (by rw [List.size_toArray, List.length_map, HDl.out]; exact Blk.there hx (by rw [show (hdCs _).length = 66 from hdCs_length (hsV_length _) z32_length]; decide)) (sum_info HDl.out) (sum_one D) ?_)
  obtain ⟨WN, hWN⟩ : ∃ u, u = wx.setCells v 34 (D.map u8V) := ⟨_, rfl⟩
  change Code.wp _ _ _ _ (wx.setCells v 34 (D.map u8V))
  rw [← hWN]
  have oy : Only v wx WN := by rw [hWN]; exact only_setCells _ _ _ (Only.refl v wx)
  have HAn : HdAt v (hdGet hsV hsS st) WN := by rw [hWN, HD.out]; exact HdAt.setMac hx (hsV_length _) _ (by rw [hsV_length]; exact z32_length.symm)
  clear HCD
  have HSn := sx.kept oy (by omega)
  have HZn := Blk.kept (Blk.kept HZ ox (by omega)) oy (by omega)
  have hon := only_new (ho.trans ox) oy hwv
  clear hWN oy hx sx ox HA HS HZ ho
  have HA := HAn
  have HS : Scn q (hd4 hsS st) WN := HSn
  have HZ := HZn
  have ho := hon
  clear HAn HSn HZn hon HD HDl
  have HL : Hid ((hdCs g).length = 66) := Lib.hid (by rw [HGG.out]; exact hdCs_length (hsV_length _) (hsV_length _))
  rw [← HGG.out] at HA
  go_wp2_with (first
    | refine wpList_load_mid rfl 27 (.tmp 3) rfl v 0 rfl (hdCs g) _ (Blk.all HA) Tryd.underlying27 rfl (by rw [HL.out]; exact HIh.out) ?_
    | refine wpList_store_mid rfl 27 (.tmp 2) (.tmp 16) rfl r 0 (hdCs g).toArray rfl rfl (by rw [List.size_toArray, HL.out]; exact Blk.there HZ (by rw [show (hdCs hd0).length = 66 from rfl]; decide)) (by rw [List.size_toArray, HL.out]; exact HIh.out) one_hd ?_)
  have oz := only_setCells (b := r) (hdCs g) 0 WN (Only.refl r WN)
  exact bodyPost_ret (v := .agg (hdCs g).toArray) (results_cell (t := 2) (ty := 27) (b := r) (cs := hdCs g) rfl _ _ _ rfl (Blk.all (Blk.setAll HZ (by rw [HL.out]; rfl))) Tryd.underlying27 rfl (by rw [HL.out]; exact HIh.out)) rfl ⟨rfl, HS.kept oz (by omega), only_new ho oz hwr⟩
set_option maxHeartbeats 6400000 in
set_option maxRecDepth 100000 in
theorem hdRead_g (s : List UInt8) (w : World) (hs : s.length ≤ 1000000000) :
    Calls Tryd.prog 51 #[.string (tB s), .func (.func 50) #[] #[], .func (.func 12) #[] #[]] w fun e w' => e = .returned (.tuple #[.agg (hdCs ((hdRd s).getD hd0)).toArray, .int .i64 (rdZ (hdRd s))]) ∧ Below w.heap.size w w' := by
  obtain ⟨r, hr⟩ : ∃ r, r = w.heap.size := ⟨_, rfl⟩
  obtain ⟨W1, hW1⟩ : ∃ W, W = w.alloc (.cells (hdCs hd0).toArray 27) := ⟨_, rfl⟩
  obtain ⟨v, hv⟩ : ∃ v, v = r + 1 := ⟨_, rfl⟩
  obtain ⟨W2, hW2⟩ : ∃ W, W = W1.alloc (.cells (hdCs hd0).toArray 27) := ⟨_, rfl⟩
  have hW1s : W1.heap.size = v := by rw [hW1, hv, hr]; simp
  have b1 : Below w.heap.size w W1 := by rw [hW1]; exact below_boxS _ _
  have b2 : Below W1.heap.size W1 W2 := by rw [hW2]; exact below_boxS _ _
  have h1 : Blk r 27 (hdCs hd0) W1 := by rw [hW1, hr]; exact Blk.alloc _ _ _
  have HZ : Blk r 27 (hdCs hd0) W2 := Blk.old h1 b2 h1.lt
  have HN : Blk v 27 (hdCs hd0) W2 := by rw [hW2, ← hW1s]; exact Blk.alloc _ _ _
  have hb := below_step b1 (Nat.le_refl _) b2
  have hwr : w.heap.size ≤ r := by omega
  have HIh : Hid ((Tryd.prog.info? 27).map (·.size) = some 66) := Lib.hid (size_of info_hd)
  have HL0 : Hid ((hdCs hd0).length = 66) := Lib.hid rfl
  have HW1 := Lib.hid hW1
  have HW2 := Lib.hid hW2
  have HR := Lib.hid hr
  have HV := Lib.hid hv
  clear hW1 hW2 hr hv hW1s b1 b2 h1
  cases s with
  | nil =>
    have HRD : Hid (hdRd [] = none) := Lib.hid rfl
    go_enter Tryd.func51, Tryd.ntmps51
    go_upto_region 1 with fail
    change Code.wp _ _ _ _ (w.alloc (.cells (hdCs hd0).toArray 27))
    rw [← HW1.out, ← HR.out]
    go_upto_region 2 with fail
    change Code.wp _ _ _ _ (W1.alloc (.cells (hdCs hd0).toArray 27))
    rw [← HW2.out, show W1.heap.size = v by rw [HW1.out, HV.out, HR.out]; simp]
    clear HW1 HW2 HR HV
    try simp only [Act.put]
    refine wp_region_tab0 [RT.is (.string (tB [])), RT.is (.bool true)] (by kernel_rfl) (by kernel_rfl) (by kernel_rfl) ⟨?_, ?_, trivial⟩ ?_
    · intro ac w' hF hL hP hU K hK
      have hB : Below _ _ _ := hL
      have e0 : ac.eval (.tmp 0) = .string (tB []) := hF.at 0 (by kernel_rfl)
      exact rop_move _ rfl e0 (wanted_none rfl) (hK _ _ (le8_refl _) rfl)
    · intro ac w' hF hL hP hU K hK
      have hB : Below _ _ _ := hL
      have e12 : ac.eval (.tmp 12) = .string (tB []) := hP 0 (by kernel_rfl)
      exact rop_bin _ _ _ _ _ rfl e12 rfl (guard_str _ _ _ _ _ _ w') (eql_empty0 w') (wanted_none rfl) (hK _ _ (le8_refl _) rfl)
    · intro ac w' hF hB hT
      have e13 : ac.eval (.tmp 13) = .bool true := hT 1 (by decide)
      rw [hF.setsG [12, 13] (by kernel_rfl)]
      simp only [List.foldl_cons, List.foldl_nil, List.setIfInBounds_toArray, List.set_cons_succ, List.set_cons_zero, e13]
      generalize ac.eval (.tmp 12) = u12
      clear e13 hT hF ac
      have HZ1 := Blk.old HZ hB HZ.lt
      have HN1 := Blk.old HN hB HN.lt
      have hb1 := below_step hb (Nat.le_refl _) hB
      clear hB HZ HN hb
      go_wp2_with (first
        | refine wpList_load_mid rfl 27 (.tmp 8) rfl v 0 rfl (hdCs hd0) _ (Blk.all HN1) Tryd.underlying27 rfl (by rw [HL0.out]; exact HIh.out) ?_
        | refine wpList_store_mid rfl 27 (.tmp 6) (.tmp 14) rfl r 0 (hdCs hd0).toArray rfl rfl (by rw [List.size_toArray, HL0.out]; exact Blk.there HZ1 (by rw [HL0.out]; decide)) (by rw [List.size_toArray, HL0.out]; exact HIh.out) one_hd ?_)
      try rw [Exit.noGoto_ret]
      have hz := Blk.setAll (n := hdCs hd0) HZ1 rfl
      refine bodyPost_ret (results_ctS (t := 6) (u := 7) (ty := 27) (b := r) rfl _ _ _ rfl (Blk.all hz) Tryd.underlying27 rfl (by rw [HL0.out]; exact HIh.out)) rfl ⟨?_, below_setCells hwr _ _ _ hb1⟩
      rw [HRD.out]
      rfl
  | cons b t =>
    obtain ⟨g, hg⟩ : ∃ g, g = hdGet hsV hsS (some t) := ⟨_, rfl⟩
    have hll : t.length ≤ 1000000000 := by simp only [List.length_cons] at hs; omega
    have HL : Hid ((hdCs g).length = 66) := Lib.hid (by rw [hg]; exact hdCs_length (hsV_length _) (hsV_length _))
    have HLA : Hid ((hdCs g).toArray.size = 66) := Lib.hid (by rw [List.size_toArray]; exact HL.out)
    have HRQ : Hid (∀ u : World, Calls Tryd.prog 73 #[.string (tB t)] u fun e w' => e = .returned (.pointer (some ⟨u.heap.size, 0, none⟩)) ∧ Scn u.heap.size (some t) w' ∧ Below u.heap.size u w') := Lib.hid fun u => read_any t u (by unfold maxLen; omega)
    have HFD : Hid (∀ (u : World) (q : Nat), Scn q (some t) u → Calls Tryd.prog 50 #[.pointer (some ⟨q, 0, none⟩)] u fun e w' => e = .returned (.agg (hdCs g).toArray) ∧ Only q u w') := Lib.hid fun u q hq => by
      rw [hg]
      exact (hdFind_any q (some t) u hq).mono fun e w' ⟨h1, _, h3⟩ => ⟨h1, h3⟩
    have HBY : Hid (∀ u : World, Calls Tryd.prog 12 #[.agg (hdCs g).toArray] u fun e w' => e = .returned (.tuple #[.string (hdG g), .int .i64 (hdZ g)]) ∧ Below u.heap.size u w') := Lib.hid fun u => by
      rw [hg]
      exact hdBytes_any _ (hsV_length _) (hsV_length _) u
    have HRD : Hid (hdRd (b :: t) = if hdB g = true ∧ hdF g = b :: t then some g else none) := Lib.hid (by rw [hg]; rfl)
    have hne : (b :: t) ≠ [] := by simp
    have hcut := fun u => cut_txt b t u
    obtain ⟨S, hS⟩ : ∃ S, S = b :: t := ⟨_, rfl⟩
    rw [← hS] at HRD hne hcut ⊢
    have HCUT := Lib.hid hcut
    clear hg hS hs hcut
    go_enter Tryd.func51, Tryd.ntmps51
    go_upto_region 1 with fail
    change Code.wp _ _ _ _ (w.alloc (.cells (hdCs hd0).toArray 27))
    rw [← HW1.out, ← HR.out]
    go_upto_region 2 with fail
    change Code.wp _ _ _ _ (W1.alloc (.cells (hdCs hd0).toArray 27))
    rw [← HW2.out, show W1.heap.size = v by rw [HW1.out, HV.out, HR.out]; simp]
    clear HW1 HW2 HR HV
    try simp only [Act.put]
    refine wp_region_tab0 [RT.is (.string (tB S)), RT.is (.bool false)] (by kernel_rfl) (by kernel_rfl) (by kernel_rfl) ⟨?_, ?_, trivial⟩ ?_
    · intro ac w' hF hL hP hU K hK
      have hB : Below _ _ _ := hL
      have e0 : ac.eval (.tmp 0) = .string (tB S) := hF.at 0 (by kernel_rfl)
      exact rop_move _ rfl e0 (wanted_none rfl) (hK _ _ (le8_refl _) rfl)
    · intro ac w' hF hL hP hU K hK
      have hB : Below _ _ _ := hL
      have e12 : ac.eval (.tmp 12) = .string (tB S) := hP 0 (by kernel_rfl)
      exact rop_bin _ _ _ _ _ rfl e12 rfl (guard_str _ _ _ _ _ _ w') (eql_empty S hne w') (wanted_none rfl) (hK _ _ (le8_refl _) rfl)
    · intro ac w' hF hB hT
      have e13 : ac.eval (.tmp 13) = .bool false := hT 1 (by decide)
      rw [hF.setsG [12, 13] (by kernel_rfl)]
      simp only [List.foldl_cons, List.foldl_nil, List.setIfInBounds_toArray, List.set_cons_succ, List.set_cons_zero, e13]
      generalize ac.eval (.tmp 12) = u12
      clear e13 hT hF ac
      have HZ1 := Blk.old HZ hB HZ.lt
      have HN1 := Blk.old HN hB HN.lt
      have hb1 := below_step hb (Nat.le_refl _) hB
      have hv1 := Nat.lt_of_lt_of_le HN.lt hB.size
      have hrv : r < w'.heap.size := Nat.lt_of_lt_of_le HZ.lt hB.size
      clear hB HZ HN hb
      go_upto_region 5 with (first
        | refine wpList_slice_runS rfl 9 (.tmp 16) (some (.const (.int .i64 1))) none none rfl rfl rfl rfl rfl (HCUT.out _) ?_
        | (go_at_call 73; (refine (HRQ.out _).mono ?_; rintro e w3 ⟨rfl, sx, b3⟩))
        | (go_at_call 50; (refine (HFD.out _ _ sx).mono ?_; rintro e w4 ⟨rfl, o4⟩))
        | refine wpList_store_mid (w := w4.alloc (.cells (hdCs hd0).toArray 27)) rfl 27 (.tmp 9) (.tmp 19) rfl w4.heap.size 0 (hdCs g).toArray rfl rfl (by rw [HLA.out]; exact Blk.there (Blk.alloc w4 27 (hdCs hd0)) (by rw [HL0.out]; decide)) (by rw [List.size_toArray, HL.out]; exact HIh.out) one_hd ?_)
      have b34 : Below w'.heap.size w' w4 := b3.trans (o4.below (Nat.le_refl _) b3.size)
      obtain ⟨x, hx⟩ : ∃ x, x = w4.heap.size := ⟨_, rfl⟩
      obtain ⟨W5, hW5⟩ : ∃ u, u = (w4.alloc (.cells (hdCs hd0).toArray 27)).setCells x 0 (hdCs g) := ⟨_, rfl⟩
      have b5 : Below w4.heap.size w4 W5 := by rw [hW5, hx]; exact below_setCells (Nat.le_refl _) _ _ _ (below_boxS _ _)
      have HA : Blk x 27 (hdCs g) W5 := by rw [hW5, hx]; exact Blk.setAll (Blk.alloc w4 27 (hdCs hd0)) (by rw [HL.out]; rfl)
      have HZ5 := Blk.old (Blk.old HZ1 b34 HZ1.lt) b5 (Nat.lt_of_lt_of_le HZ1.lt b34.size)
      have HN5 := Blk.old (Blk.old HN1 b34 HN1.lt) b5 (Nat.lt_of_lt_of_le HN1.lt b34.size)
      have hb5 := below_step (below_step hb1 (Nat.le_refl _) b34) (Nat.le_refl _) b5
      change Code.wp _ _ _ _ ((w4.alloc (.cells (hdCs hd0).toArray 27)).setCells w4.heap.size 0 (hdCs g))
      have hW5' : W5 = (w4.alloc (.cells (hdCs hd0).toArray 27)).setCells w4.heap.size 0 (hdCs g) := by rw [hW5, hx]
      rw [← hW5', ← hx]
      clear hW5 hW5' hx b5 b34 b3 o4 sx HZ1 HN1 hb1 HRQ HFD HCUT
      go_upto_region 6 with (first
        | refine wpList_load_mid rfl 27 (.tmp 9) rfl x 0 rfl (hdCs g) _ (Blk.all HA) Tryd.underlying27 rfl (by rw [HL.out]; exact HIh.out) ?_
        | (go_at_call 12; (refine (HBY.out _).mono ?_; rintro e w6 ⟨rfl, b6⟩)))
      have HA6 := Blk.old HA b6 HA.lt
      have HZ6 := Blk.old HZ5 b6 HZ5.lt
      have HN6 := Blk.old HN5 b6 HN5.lt
      have hb6 := below_step hb5 (Nat.le_refl _) b6
      clear b6 HA HZ5 HN5 hb5 HBY
      by_cases hz : hdB g = true
      · have et : hdG g = tB (hdF g) := if_pos hz
        have ez : hdZ g = 0 := if_pos hz
        rw [et, ez]
        by_cases he : hdF g = S
        · replace HRD : Hid (hdRd S = some g) := Lib.hid (by rw [HRD.out, if_pos ⟨hz, he⟩])
          clear et ez hz
          try simp only [Act.put]
          refine wp_region_tab0 [RT.is (.int .i64 0), RT.is (.bool false), RT.is (.bool false), RT.is (.string (tB (hdF g))), RT.is (.string (tB S)), RT.is (.bool false), RT.is (.bool false)] (by kernel_rfl) (by kernel_rfl) (by kernel_rfl) ⟨?_, ?_, ?_, ?_, ?_, ?_, ?_, trivial⟩ ?_
          · intro ac w' hF hL hP hU K hK
            have hB : Below _ _ _ := hL
            have e11 : ac.eval (.tmp 11) = .int .i64 0 := hF.at 11 (by kernel_rfl)
            exact rop_move _ rfl e11 (wanted_none rfl) (hK _ _ (le8_refl _) rfl)
          · intro ac w' hF hL hP hU K hK
            have hB : Below _ _ _ := hL
            have e26 : ac.eval (.tmp 26) = .int .i64 0 := hP 0 (by kernel_rfl)
            exact rop_bin _ _ _ _ _ rfl e26 rfl (guard_int _ _ _ _ _ _ _ w') (neq_err0S w') (wanted_none rfl) (hK _ _ (le8_refl _) rfl)
          · intro ac w' hF hL hP hU K hK
            have hB : Below _ _ _ := hL
            have e27 : ac.eval (.tmp 27) = .bool false := hP 1 (by kernel_rfl)
            exact rop_move _ rfl e27 (wanted_none rfl) (hK _ _ (le8_refl _) rfl)
          · intro ac w' hF hL hP hU K hK
            have hB : Below _ _ _ := hL
            have e10 : ac.eval (.tmp 10) = .string (tB (hdF g)) := hF.at 10 (by kernel_rfl)
            have e28 : ac.eval (.tmp 28) = .bool false := hP 2 (by kernel_rfl)
            exact rop_move _ rfl e10 (wanted_of (j := 2) (b := false) rfl rfl e28) (hK _ _ (le8_refl _) rfl)
          · intro ac w' hF hL hP hU K hK
            have hB : Below _ _ _ := hL
            have e0 : ac.eval (.tmp 0) = .string (tB S) := hF.at 0 (by kernel_rfl)
            have e28 : ac.eval (.tmp 28) = .bool false := hP 2 (by kernel_rfl)
            exact rop_move _ rfl e0 (wanted_of (j := 2) (b := false) rfl rfl e28) (hK _ _ (le8_refl _) rfl)
          · intro ac w' hF hL hP hU K hK
            have hB : Below _ _ _ := hL
            have e29 : ac.eval (.tmp 29) = .string (tB (hdF g)) := hP 3 (by kernel_rfl)
            have e30 : ac.eval (.tmp 30) = .string (tB S) := hP 4 (by kernel_rfl)
            have e28 : ac.eval (.tmp 28) = .bool false := hP 2 (by kernel_rfl)
            exact rop_bin _ _ _ _ _ rfl e29 e30 (guard_str _ _ _ _ _ _ w') (neq_txt_f _ _ he w') (wanted_of (j := 2) (b := false) rfl rfl e28) (hK _ _ (le8_refl _) rfl)
          · intro ac w' hF hL hP hU K hK
            have hB : Below _ _ _ := hL
            have e28 : ac.eval (.tmp 28) = .bool false := hP 2 (by kernel_rfl)
            have e31 : ac.eval (.tmp 31) = .bool false := hP 5 (by kernel_rfl)
            exact rop_pick _ _ _ rfl false e28 (by simpa using e31) (wanted_none rfl) (hK _ _ (le8_refl _) rfl)
          · intro ac w' hF hB hT
            have e32 : ac.eval (.tmp 32) = .bool false := hT 6 (by decide)
            rw [hF.setsG [26, 27, 28, 29, 30, 31, 32] (by kernel_rfl)]
            simp only [List.foldl_cons, List.foldl_nil, List.setIfInBounds_toArray, List.set_cons_succ, List.set_cons_zero, e32]
            generalize ac.eval (.tmp 26) = u26
            generalize ac.eval (.tmp 27) = u27
            generalize ac.eval (.tmp 28) = u28
            generalize ac.eval (.tmp 29) = u29
            generalize ac.eval (.tmp 30) = u30
            generalize ac.eval (.tmp 31) = u31
            clear e32 hT hF ac
            have HA7 := Blk.old HA6 hB HA6.lt
            have HZ7 := Blk.old HZ6 hB HZ6.lt
            have HN7 := Blk.old HN6 hB HN6.lt
            have hb7 := below_step hb6 (Nat.le_refl _) hB
            clear hB HA6 HZ6 HN6 hb6
            clear he
            go_wp2_with (first
              | refine wpList_load_mid rfl 27 (.tmp 9) rfl x 0 rfl (hdCs g) _ (Blk.all HA7) Tryd.underlying27 rfl (by rw [HL.out]; exact HIh.out) ?_
              | refine wpList_store_mid rfl 27 (.tmp 6) (.tmp 34) rfl r 0 (hdCs g).toArray rfl rfl (by rw [List.size_toArray, HL.out]; exact Blk.there HZ7 (by rw [HL0.out]; decide)) (by rw [List.size_toArray, HL.out]; exact HIh.out) one_hd ?_)
            try rw [Exit.noGoto_ret]
            have hz := Blk.setAll (n := hdCs g) HZ7 (by rw [HL.out]; rfl)
            refine bodyPost_ret (results_ctS (t := 6) (u := 7) (ty := 27) (b := r) rfl _ _ _ rfl (Blk.all hz) Tryd.underlying27 rfl (by rw [HL.out]; exact HIh.out)) rfl ⟨?_, below_setCells hwr _ _ _ hb7⟩
            rw [HRD.out]
            rfl
        · replace HRD : Hid (hdRd S = none) := Lib.hid (by rw [HRD.out, if_neg (fun h => he h.2)])
          clear et ez hz
          try simp only [Act.put]
          refine wp_region_tab0 [RT.is (.int .i64 0), RT.is (.bool false), RT.is (.bool false), RT.is (.string (tB (hdF g))), RT.is (.string (tB S)), RT.is (.bool true), RT.is (.bool true)] (by kernel_rfl) (by kernel_rfl) (by kernel_rfl) ⟨?_, ?_, ?_, ?_, ?_, ?_, ?_, trivial⟩ ?_
          · intro ac w' hF hL hP hU K hK
            have hB : Below _ _ _ := hL
            have e11 : ac.eval (.tmp 11) = .int .i64 0 := hF.at 11 (by kernel_rfl)
            exact rop_move _ rfl e11 (wanted_none rfl) (hK _ _ (le8_refl _) rfl)
          · intro ac w' hF hL hP hU K hK
            have hB : Below _ _ _ := hL
            have e26 : ac.eval (.tmp 26) = .int .i64 0 := hP 0 (by kernel_rfl)
            exact rop_bin _ _ _ _ _ rfl e26 rfl (guard_int _ _ _ _ _ _ _ w') (neq_err0S w') (wanted_none rfl) (hK _ _ (le8_refl _) rfl)
          · intro ac w' hF hL hP hU K hK
            have hB : Below _ _ _ := hL
            have e27 : ac.eval (.tmp 27) = .bool false := hP 1 (by kernel_rfl)
            exact rop_move _ rfl e27 (wanted_none rfl) (hK _ _ (le8_refl _) rfl)
          · intro ac w' hF hL hP hU K hK
            have hB : Below _ _ _ := hL
            have e10 : ac.eval (.tmp 10) = .string (tB (hdF g)) := hF.at 10 (by kernel_rfl)
            have e28 : ac.eval (.tmp 28) = .bool false := hP 2 (by kernel_rfl)
            exact rop_move _ rfl e10 (wanted_of (j := 2) (b := false) rfl rfl e28) (hK _ _ (le8_refl _) rfl)
          · intro ac w' hF hL hP hU K hK
            have hB : Below _ _ _ := hL
            have e0 : ac.eval (.tmp 0) = .string (tB S) := hF.at 0 (by kernel_rfl)
            have e28 : ac.eval (.tmp 28) = .bool false := hP 2 (by kernel_rfl)
            exact rop_move _ rfl e0 (wanted_of (j := 2) (b := false) rfl rfl e28) (hK _ _ (le8_refl _) rfl)
          · intro ac w' hF hL hP hU K hK
            have hB : Below _ _ _ := hL
            have e29 : ac.eval (.tmp 29) = .string (tB (hdF g)) := hP 3 (by kernel_rfl)
            have e30 : ac.eval (.tmp 30) = .string (tB S) := hP 4 (by kernel_rfl)
            have e28 : ac.eval (.tmp 28) = .bool false := hP 2 (by kernel_rfl)
            exact rop_bin _ _ _ _ _ rfl e29 e30 (guard_str _ _ _ _ _ _ w') (neq_txt_t _ _ he w') (wanted_of (j := 2) (b := false) rfl rfl e28) (hK _ _ (le8_refl _) rfl)
          · intro ac w' hF hL hP hU K hK
            have hB : Below _ _ _ := hL
            have e28 : ac.eval (.tmp 28) = .bool false := hP 2 (by kernel_rfl)
            have e31 : ac.eval (.tmp 31) = .bool true := hP 5 (by kernel_rfl)
            exact rop_pick _ _ _ rfl false e28 (by simpa using e31) (wanted_none rfl) (hK _ _ (le8_refl _) rfl)
          · intro ac w' hF hB hT
            have e32 : ac.eval (.tmp 32) = .bool true := hT 6 (by decide)
            rw [hF.setsG [26, 27, 28, 29, 30, 31, 32] (by kernel_rfl)]
            simp only [List.foldl_cons, List.foldl_nil, List.setIfInBounds_toArray, List.set_cons_succ, List.set_cons_zero, e32]
            generalize ac.eval (.tmp 26) = u26
            generalize ac.eval (.tmp 27) = u27
            generalize ac.eval (.tmp 28) = u28
            generalize ac.eval (.tmp 29) = u29
            generalize ac.eval (.tmp 30) = u30
            generalize ac.eval (.tmp 31) = u31
            clear e32 hT hF ac
            have HA7 := Blk.old HA6 hB HA6.lt
            have HZ7 := Blk.old HZ6 hB HZ6.lt
            have HN7 := Blk.old HN6 hB HN6.lt
            have hb7 := below_step hb6 (Nat.le_refl _) hB
            clear hB HA6 HZ6 HN6 hb6
            clear he HA7
            go_wp2_with (first
              | refine wpList_load_mid rfl 27 (.tmp 8) rfl v 0 rfl (hdCs hd0) _ (Blk.all HN7) Tryd.underlying27 rfl (by rw [HL0.out]; exact HIh.out) ?_
              | refine wpList_store_mid rfl 27 (.tmp 6) (.tmp 33) rfl r 0 (hdCs hd0).toArray rfl rfl (by rw [List.size_toArray, HL0.out]; exact Blk.there HZ7 (by rw [HL0.out]; decide)) (by rw [List.size_toArray, HL0.out]; exact HIh.out) one_hd ?_)
            try rw [Exit.noGoto_ret]
            have hz := Blk.setAll (n := hdCs hd0) HZ7 rfl
            refine bodyPost_ret (results_ctS (t := 6) (u := 7) (ty := 27) (b := r) rfl _ _ _ rfl (Blk.all hz) Tryd.underlying27 rfl (by rw [HL0.out]; exact HIh.out)) rfl ⟨?_, below_setCells hwr _ _ _ hb7⟩
            rw [HRD.out]
            rfl
      · have et : hdG g = tB [] := if_neg hz
        have ez : hdZ g = 1 := if_neg hz
        rw [et, ez]
        replace HRD : Hid (hdRd S = none) := Lib.hid (by rw [HRD.out, if_neg (fun h => hz h.1)])
        clear et ez hz
        try simp only [Act.put]
        refine wp_region_tab0 [RT.is (.int .i64 1), RT.is (.bool true), RT.is (.bool true), RT.is undef, RT.is undef, RT.is undef, RT.is (.bool true)] (by kernel_rfl) (by kernel_rfl) (by kernel_rfl) ⟨?_, ?_, ?_, ?_, ?_, ?_, ?_, trivial⟩ ?_
        · intro ac w' hF hL hP hU K hK
          have hB : Below _ _ _ := hL
          have e11 : ac.eval (.tmp 11) = .int .i64 1 := hF.at 11 (by kernel_rfl)
          exact rop_move _ rfl e11 (wanted_none rfl) (hK _ _ (le8_refl _) rfl)
        · intro ac w' hF hL hP hU K hK
          have hB : Below _ _ _ := hL
          have e26 : ac.eval (.tmp 26) = .int .i64 1 := hP 0 (by kernel_rfl)
          exact rop_bin _ _ _ _ _ rfl e26 rfl (guard_int _ _ _ _ _ _ _ w') (neq_err1S w') (wanted_none rfl) (hK _ _ (le8_refl _) rfl)
        · intro ac w' hF hL hP hU K hK
          have hB : Below _ _ _ := hL
          have e27 : ac.eval (.tmp 27) = .bool true := hP 1 (by kernel_rfl)
          exact rop_move _ rfl e27 (wanted_none rfl) (hK _ _ (le8_refl _) rfl)
        · intro ac w' hF hL hP hU K hK
          have hB : Below _ _ _ := hL
          have e28 : ac.eval (.tmp 28) = .bool true := hP 2 (by kernel_rfl)
          exact rop_offG (j := 2) (b := false) rfl rfl e28 (by decide) (hK _ _ (le8_refl _) rfl)
        · intro ac w' hF hL hP hU K hK
          have hB : Below _ _ _ := hL
          have e28 : ac.eval (.tmp 28) = .bool true := hP 2 (by kernel_rfl)
          exact rop_offG (j := 2) (b := false) rfl rfl e28 (by decide) (hK _ _ (le8_refl _) rfl)
        · intro ac w' hF hL hP hU K hK
          have hB : Below _ _ _ := hL
          have e28 : ac.eval (.tmp 28) = .bool true := hP 2 (by kernel_rfl)
          exact rop_offG (j := 2) (b := false) rfl rfl e28 (by decide) (hK _ _ (le8_refl _) rfl)
        · intro ac w' hF hL hP hU K hK
          have hB : Below _ _ _ := hL
          have e28 : ac.eval (.tmp 28) = .bool true := hP 2 (by kernel_rfl)
          exact rop_pick _ _ _ rfl true e28 (by rfl) (wanted_none rfl) (hK _ _ (le8_refl _) rfl)
        · intro ac w' hF hB hT
          have e32 : ac.eval (.tmp 32) = .bool true := hT 6 (by decide)
          rw [hF.setsG [26, 27, 28, 29, 30, 31, 32] (by kernel_rfl)]
          simp only [List.foldl_cons, List.foldl_nil, List.setIfInBounds_toArray, List.set_cons_succ, List.set_cons_zero, e32]
          generalize ac.eval (.tmp 26) = u26
          generalize ac.eval (.tmp 27) = u27
          generalize ac.eval (.tmp 28) = u28
          generalize ac.eval (.tmp 29) = u29
          generalize ac.eval (.tmp 30) = u30
          generalize ac.eval (.tmp 31) = u31
          clear e32 hT hF ac
          have HA7 := Blk.old HA6 hB HA6.lt
          have HZ7 := Blk.old HZ6 hB HZ6.lt
          have HN7 := Blk.old HN6 hB HN6.lt
          have hb7 := below_step hb6 (Nat.le_refl _) hB
          clear hB HA6 HZ6 HN6 hb6
          clear HA7
          go_wp2_with (first
            | refine wpList_load_mid rfl 27 (.tmp 8) rfl v 0 rfl (hdCs hd0) _ (Blk.all HN7) Tryd.underlying27 rfl (by rw [HL0.out]; exact HIh.out) ?_
            | refine wpList_store_mid rfl 27 (.tmp 6) (.tmp 33) rfl r 0 (hdCs hd0).toArray rfl rfl (by rw [List.size_toArray, HL0.out]; exact Blk.there HZ7 (by rw [HL0.out]; decide)) (by rw [List.size_toArray, HL0.out]; exact HIh.out) one_hd ?_)
          try rw [Exit.noGoto_ret]
          have hz := Blk.setAll (n := hdCs hd0) HZ7 rfl
          refine bodyPost_ret (results_ctS (t := 6) (u := 7) (ty := 27) (b := r) rfl _ _ _ rfl (Blk.all hz) Tryd.underlying27 rfl (by rw [HL0.out]; exact HIh.out)) rfl ⟨?_, below_setCells hwr _ _ _ hb7⟩
          rw [HRD.out]
          rfl
set_option maxHeartbeats 3200000 in
set_option maxRecDepth 100000 in
theorem hdRead_any (s : ByteArray) (w : World) (hs : s.size ≤ 1000000000) :
    Calls Tryd.prog 19 #[.string s] w fun e w' => e = .returned (.tuple #[.agg (hdCs ((hdRd s.data.toList).getD hd0)).toArray, .int .i64 (rdZ (hdRd s.data.toList))]) ∧ Below w.heap.size w w' := by
  obtain ⟨g, hg⟩ : ∃ g, g = (hdRd s.data.toList).getD hd0 := ⟨_, rfl⟩
  obtain ⟨Z, hZ⟩ : ∃ Z, Z = rdZ (hdRd s.data.toList) := ⟨_, rfl⟩
  have HL : Hid ((hdCs g).length = 66) := Lib.hid (by rw [hg]; exact hdGetD_length _)
  have HQ : Hid (∀ u : World, Calls Tryd.prog 51 #[.string s, .func (.func 50) #[] #[], .func (.func 12) #[] #[]] u fun e w' => e = .returned (.tuple #[.agg (hdCs g).toArray, .int .i64 Z]) ∧ Below u.heap.size u w') := Lib.hid fun u => by
    rw [hg, hZ]
    have := hdRead_g s.data.toList u (by rw [← Lib.size_eq]; exact hs)
    rw [tB_of] at this
    exact this
  rw [← hg, ← hZ]
  obtain ⟨r, hr⟩ : ∃ r, r = w.heap.size := ⟨_, rfl⟩
  obtain ⟨W1, hW1⟩ : ∃ W, W = w.alloc (.cells (hdCs hd0).toArray 27) := ⟨_, rfl⟩
  have b1 : Below w.heap.size w W1 := by rw [hW1]; exact below_boxS _ _
  have HZ1 : Blk r 27 (hdCs hd0) W1 := by rw [hW1, hr]; exact Blk.alloc _ _ _
  have hwr : w.heap.size ≤ r := by omega
  have HIh : Hid ((Tryd.prog.info? 27).map (·.size) = some 66) := Lib.hid (size_of info_hd)
  have HL0 : Hid ((hdCs hd0).length = 66) := Lib.hid rfl
  have HW1 := Lib.hid hW1
  have HR := Lib.hid hr
  clear hW1 hr hg hZ hs
  go_enter Tryd.func19, Tryd.ntmps19
  go_upto_region 1 with fail
  change Code.wp _ _ _ _ (w.alloc (.cells (hdCs hd0).toArray 27))
  rw [← HW1.out, ← HR.out]
  clear HW1 HR
  go_wp2_with (first
    | (go_at_call 51; (refine (HQ.out _).mono ?_; rintro e w3 ⟨rfl, b3⟩; have HZ3 := Blk.old HZ1 b3 HZ1.lt))
    | refine wpList_store_mid rfl 27 (.tmp 2) (.tmp 8) rfl r 0 (hdCs g).toArray rfl rfl (by rw [List.size_toArray, HL.out]; exact Blk.there HZ3 (by rw [HL0.out]; decide)) (by rw [List.size_toArray, HL.out]; exact HIh.out) one_hd ?_)
  have hz := Blk.setAll (n := hdCs g) HZ3 (by rw [HL.out]; rfl)
  exact bodyPost_ret (results_ctS (t := 2) (u := 3) (ty := 27) (b := r) rfl _ _ _ rfl (Blk.all hz) Tryd.underlying27 rfl (by rw [HL.out]; exact HIh.out)) rfl ⟨rfl, below_setCells hwr _ _ _ (below_step b1 (Nat.le_refl _) b3)⟩
set_option maxHeartbeats 6400000 in
set_option maxRecDepth 100000 in
theorem stFind_any (q : Nat) (st : Option (List UInt8)) (w : World) (h : Scn q st w) (_hsm : (st.getD []).length ≤ 1000000000) :
    Calls Tryd.prog 52 #[.pointer (some ⟨q, 0, none⟩)] w fun e w' => e = .returned (.agg (stCs (stGet 16777216 fzRd hsV st)).toArray) ∧ Scn q (stq3 16777216 hsS st) w' ∧ Only q w w' := by
  obtain ⟨g, hg⟩ : ∃ g, g = stGet 16777216 fzRd hsV st := ⟨_, rfl⟩
  rw [← hg]
  have HGG := Lib.hid hg
  clear hg
  obtain ⟨r, hr⟩ : ∃ r, r = w.heap.size := ⟨_, rfl⟩
  obtain ⟨W1, hW1⟩ : ∃ W, W = w.alloc (.cells (stCs st0).toArray 29) := ⟨_, rfl⟩
  obtain ⟨v, hv⟩ : ∃ v, v = r + 1 := ⟨_, rfl⟩
  obtain ⟨W2, hW2⟩ : ∃ W, W = W1.alloc (.cells (stCs st0).toArray 29) := ⟨_, rfl⟩
  have hqr : q < r := by rw [hr]; exact h.lt
  have hW1s : W1.heap.size = v := by rw [hW1, hv, hr]; simp
  have b2 : Below W1.heap.size W1 W2 := by rw [hW2]; exact below_boxS _ _
  have h1 : Blk r 29 (stCs st0) W1 := by rw [hW1, hr]; exact Blk.alloc _ _ _
  have HZ : StAt r st0 W2 := Blk.old h1 b2 h1.lt
  have HA : StAt v st0 W2 := by rw [hW2, ← hW1s]; exact Blk.alloc _ _ _
  have ho : Only q w W2 := by rw [hW2, hW1]; exact only_box (only_box (Only.refl _ _) _) _
  have HS : Scn q st W2 := (h.old (by rw [hW1]; exact below_boxS _ _) h.lt).old b2 (by rw [hW1s]; omega)
  have hwr : w.heap.size ≤ r := by omega
  have hwv : w.heap.size ≤ v := by omega
  have hrv : r < v := by omega
  have HIh : Hid ((Tryd.prog.info? 29).map (·.size) = some 67) := Lib.hid (size_of info_st)
  have HW1 := Lib.hid hW1
  have HW2 := Lib.hid hW2
  have HR := Lib.hid hr
  have HV := Lib.hid hv
  clear hW1 hW2 hr hv hW1s b2 h1 h
  go_enter Tryd.func52, Tryd.ntmps52
  go_upto_region 1 with fail
  change Code.wp _ _ _ _ (w.alloc (.cells (stCs st0).toArray 29))
  rw [← HW1.out, ← HR.out]
  go_upto_region 2 with fail
  change Code.wp _ _ _ _ (W1.alloc (.cells (stCs st0).toArray 29))
  rw [← HW2.out, show W1.heap.size = v by rw [HW1.out, HV.out, HR.out]; simp]
  clear HW1 HW2 HR HV
  -- the freeze
  obtain ⟨T, hT⟩ : ∃ T, T = textV st 16777216 := ⟨_, rfl⟩
  obtain ⟨G, hG⟩ : ∃ G, G = (fzRd T).getD fz0 := ⟨_, rfl⟩
  have HGl : Hid (G.root.length = 32) := Lib.hid (by rw [hG]; exact fzGetD_length fun f hf => ((fzRd_iff _ _).1 hf).2.1)
  have HTX : Hid (∀ u : World, Scn q st u → Calls Tryd.prog 53 #[.pointer (some ⟨q, 0, none⟩), .int .i64 16777216] u fun e w' => e = .returned (.string (tB T)) ∧ Scn q (stq1 16777216 st) w' ∧ Only q u w') := Lib.hid fun u hu => by
    rw [hT]; exact text_any q st 16777216 u hu (by decide) (by decide)
  have HRF : Hid (∀ u : World, Calls Tryd.prog 18 #[.string (tB T)] u fun e w' => e = .returned (.tuple #[.agg (fzCs G).toArray, .int .i64 (rdZ (fzRd T))]) ∧ Below u.heap.size u w') := Lib.hid fun u => by
    rw [hG]
    exact fzRead_any (tB T) u (by rw [tB_size, hT]; have h5 : (textV st 16777216).length ≤ 16777216 := textV_mostN st 16777216; omega)
  have HG := Lib.hid hG
  have HT := Lib.hid hT
  clear hG hT
  have HIf : Hid ((Tryd.prog.info? 25).map (·.size) = some (fzCs G).length) := Lib.hid (by rw [fzCs_length HGl.out]; exact size_fz)
  go_upto_region 3 with (first
    | (go_at_call 53; (refine (HTX.out _ HS).mono ?_; rintro e wy ⟨rfl, sy, oz⟩))
    | (go_at_call 18; (refine (HRF.out _).mono ?_; rintro e wx ⟨rfl, bx⟩; have hx := Blk.old (Blk.kept HA oz (by omega)) bx (Nat.lt_of_lt_of_le (Blk.lt HA) oz.size)))
    | refine wpList_store_mid rfl 25 (.tmp 10) (.tmp 8) rfl v 0 (fzCs G).toArray rfl rfl (by rw [List.size_toArray, fzCs_length HGl.out]; exact Blk.there hx (by decide)) (by rw [List.size_toArray]; exact HIf.out) one_cells ?_)
  obtain ⟨WN, hWN⟩ : ∃ u, u = wx.setCells v 0 (fzCs G) := ⟨_, rfl⟩
  change Code.wp _ _ _ _ (wx.setCells v 0 (fzCs G))
  rw [← hWN]
  have sx := sy.old bx sy.lt
  have ox : Only q W2 wx := Only.below_right oz bx oz.size
  have oy : Only v wx WN := by rw [hWN]; exact only_setCells _ _ _ (Only.refl v wx)
  have HAn : StAt v ⟨G, 0, z32⟩ WN := by rw [hWN]; exact StAt.setFz hx G z32_length HGl.out
  have HSn := sx.kept oy (by omega)
  have HZn := Blk.kept (Blk.kept HZ ox (by omega)) oy (by omega)
  have hon := only_new (ho.trans ox) oy hwv
  clear hWN oy hx sx sy ox oz bx HA HS HZ ho HTX HRF HIf
  have HA := HAn
  have HS : Scn q (stq1 16777216 st) WN := HSn
  have HZ := HZn
  have ho := hon
  clear HAn HSn HZn hon
  generalize rdZ (fzRd T) = Z at *
  -- a field: a number
  go_upto_region 4 with (go_at_call 47; ((with_reducible refine (num_any q (stq1 16777216 st) 1125899906842624 _ HS (by decide) (by decide)).mono ?_); rintro e wx ⟨rfl, sx, ox⟩; have hx := Blk.kept HA ox (by omega); have kx := StAt.tim hx HGl.out; have fx := Blk.fz hx 34))
  obtain ⟨WN, hWN⟩ : ∃ u, u = wx.setCell ⟨v, 34, none⟩ (.int .i64 (numV (stq1 16777216 st) 1125899906842624 : Int)) := ⟨_, rfl⟩
  rw [← hWN]
  have oy : Only v wx WN := by rw [hWN]; exact (Only.refl v wx).setCell 34 (.int .i64 (numV (stq1 16777216 st) 1125899906842624 : Int))
  have HAn : StAt v ⟨G, (numV (stq1 16777216 st) 1125899906842624 : Int), z32⟩ WN := by rw [hWN]; exact StAt.setTim hx HGl.out _
  clear kx fx
  have HSn := sx.kept oy (by omega)
  have HZn := Blk.kept (Blk.kept HZ ox (by omega)) oy (by omega)
  have hon := only_new (ho.trans ox) oy hwv
  clear hWN oy hx sx ox HA HS HZ ho
  have HA := HAn
  have HS : Scn q (stq2 16777216 st) WN := HSn
  have HZ := HZn
  have ho := hon
  clear HAn HSn HZn hon
  -- a field: a hash
  obtain ⟨D, hD⟩ : ∃ D, D = hsV (stq2 16777216 st) := ⟨_, rfl⟩
  have HDl : Hid (D.length = 32) := Lib.hid (by rw [hD]; exact hsV_length _)
  have hcD := readHash_any q (stq2 16777216 st) _ HS
  rw [← hD] at hcD
  have HCD := Lib.hid hcD
  have HD := Lib.hid hD
  clear hcD hD
  go_upto_region 5 with (first
    | (go_at_call 48; (refine HCD.out.mono ?_; rintro e wx ⟨rfl, sx, ox⟩; have hx := Blk.kept HA ox (by omega)))
    | refine wpList_store_mid rfl 23 (.tmp 16) (.tmp 15) rfl v 35 (D.map u8V).toArray rfl rfl (by rw [List.size_toArray, List.length_map, HDl.out]; exact Blk.there hx (by rw [show (stCs _).length = 67 from stCs_length HGl.out z32_length]; decide)) (sum_info HDl.out) (sum_one D) ?_)
  obtain ⟨WN, hWN⟩ : ∃ u, u = wx.setCells v 35 (D.map u8V) := ⟨_, rfl⟩
  change Code.wp _ _ _ _ (wx.setCells v 35 (D.map u8V))
  rw [← hWN]
  have oy : Only v wx WN := by rw [hWN]; exact only_setCells _ _ _ (Only.refl v wx)
  have HAn : StAt v (stGet 16777216 fzRd hsV st) WN := by rw [hWN, HD.out]; exact (by have := StAt.setMac hx HGl.out (hsV (stq2 16777216 st)) (by rw [hsV_length]; exact z32_length.symm); rw [show stGet 16777216 fzRd hsV st = ⟨G, (numV (stq1 16777216 st) 1125899906842624 : Int), hsV (stq2 16777216 st)⟩ by rw [HG.out, HT.out]; rfl]; exact this)
  clear HCD
  have HSn := sx.kept oy (by omega)
  have HZn := Blk.kept (Blk.kept HZ ox (by omega)) oy (by omega)
  have hon := only_new (ho.trans ox) oy hwv
  clear hWN oy hx sx ox HA HS HZ ho
  have HA := HAn
  have HS : Scn q (stq3 16777216 hsS st) WN := HSn
  have HZ := HZn
  have ho := hon
  clear HAn HSn HZn hon HD HDl
  have HL : Hid ((stCs g).length = 67) := Lib.hid (by rw [HGG.out]; exact stCs_length (fzGetD_length fun f hf => ((fzRd_iff _ _).1 hf).2.1) (hsV_length _))
  rw [← HGG.out] at HA
  go_wp2_with (first
    | refine wpList_load_mid rfl 29 (.tmp 3) rfl v 0 rfl (stCs g) _ (Blk.all HA) Tryd.underlying29 rfl (by rw [HL.out]; exact HIh.out) ?_
    | refine wpList_store_mid rfl 29 (.tmp 2) (.tmp 17) rfl r 0 (stCs g).toArray rfl rfl (by rw [List.size_toArray, HL.out]; exact Blk.there HZ (by rw [show (stCs st0).length = 67 from rfl]; decide)) (by rw [List.size_toArray, HL.out]; exact HIh.out) one_st ?_)
  have oz := only_setCells (b := r) (stCs g) 0 WN (Only.refl r WN)
  exact bodyPost_ret (v := .agg (stCs g).toArray) (results_cell (t := 2) (ty := 29) (b := r) (cs := stCs g) rfl _ _ _ rfl (Blk.all (Blk.setAll HZ (by rw [HL.out]; rfl))) Tryd.underlying29 rfl (by rw [HL.out]; exact HIh.out)) rfl ⟨rfl, HS.kept oz (by omega), only_new ho oz hwr⟩
set_option maxHeartbeats 6400000 in
set_option maxRecDepth 100000 in
theorem stRead_g (s : List UInt8) (w : World) (hs : s.length ≤ 1000000000) :
    Calls Tryd.prog 54 #[.string (tB s), .func (.func 52) #[] #[], .func (.func 14) #[] #[]] w fun e w' => e = .returned (.tuple #[.agg (stCs ((stRd s).getD st0)).toArray, .int .i64 (rdZ (stRd s))]) ∧ Below w.heap.size w w' := by
  obtain ⟨r, hr⟩ : ∃ r, r = w.heap.size := ⟨_, rfl⟩
  obtain ⟨W1, hW1⟩ : ∃ W, W = w.alloc (.cells (stCs st0).toArray 29) := ⟨_, rfl⟩
  obtain ⟨v, hv⟩ : ∃ v, v = r + 1 := ⟨_, rfl⟩
  obtain ⟨W2, hW2⟩ : ∃ W, W = W1.alloc (.cells (stCs st0).toArray 29) := ⟨_, rfl⟩
  have hW1s : W1.heap.size = v := by rw [hW1, hv, hr]; simp
  have b1 : Below w.heap.size w W1 := by rw [hW1]; exact below_boxS _ _
  have b2 : Below W1.heap.size W1 W2 := by rw [hW2]; exact below_boxS _ _
  have h1 : Blk r 29 (stCs st0) W1 := by rw [hW1, hr]; exact Blk.alloc _ _ _
  have HZ : Blk r 29 (stCs st0) W2 := Blk.old h1 b2 h1.lt
  have HN : Blk v 29 (stCs st0) W2 := by rw [hW2, ← hW1s]; exact Blk.alloc _ _ _
  have hb := below_step b1 (Nat.le_refl _) b2
  have hwr : w.heap.size ≤ r := by omega
  have HIh : Hid ((Tryd.prog.info? 29).map (·.size) = some 67) := Lib.hid (size_of info_st)
  have HL0 : Hid ((stCs st0).length = 67) := Lib.hid rfl
  have HW1 := Lib.hid hW1
  have HW2 := Lib.hid hW2
  have HR := Lib.hid hr
  have HV := Lib.hid hv
  clear hW1 hW2 hr hv hW1s b1 b2 h1
  cases s with
  | nil =>
    have HRD : Hid (stRd [] = none) := Lib.hid rfl
    go_enter Tryd.func54, Tryd.ntmps54
    go_upto_region 1 with fail
    change Code.wp _ _ _ _ (w.alloc (.cells (stCs st0).toArray 29))
    rw [← HW1.out, ← HR.out]
    go_upto_region 2 with fail
    change Code.wp _ _ _ _ (W1.alloc (.cells (stCs st0).toArray 29))
    rw [← HW2.out, show W1.heap.size = v by rw [HW1.out, HV.out, HR.out]; simp]
    clear HW1 HW2 HR HV
    try simp only [Act.put]
    refine wp_region_tab0 [RT.is (.string (tB [])), RT.is (.bool true)] (by kernel_rfl) (by kernel_rfl) (by kernel_rfl) ⟨?_, ?_, trivial⟩ ?_
    · intro ac w' hF hL hP hU K hK
      have hB : Below _ _ _ := hL
      have e0 : ac.eval (.tmp 0) = .string (tB []) := hF.at 0 (by kernel_rfl)
      exact rop_move _ rfl e0 (wanted_none rfl) (hK _ _ (le8_refl _) rfl)
    · intro ac w' hF hL hP hU K hK
      have hB : Below _ _ _ := hL
      have e12 : ac.eval (.tmp 12) = .string (tB []) := hP 0 (by kernel_rfl)
      exact rop_bin _ _ _ _ _ rfl e12 rfl (guard_str _ _ _ _ _ _ w') (eql_empty0 w') (wanted_none rfl) (hK _ _ (le8_refl _) rfl)
    · intro ac w' hF hB hT
      have e13 : ac.eval (.tmp 13) = .bool true := hT 1 (by decide)
      rw [hF.setsG [12, 13] (by kernel_rfl)]
      simp only [List.foldl_cons, List.foldl_nil, List.setIfInBounds_toArray, List.set_cons_succ, List.set_cons_zero, e13]
      generalize ac.eval (.tmp 12) = u12
      clear e13 hT hF ac
      have HZ1 := Blk.old HZ hB HZ.lt
      have HN1 := Blk.old HN hB HN.lt
      have hb1 := below_step hb (Nat.le_refl _) hB
      clear hB HZ HN hb
      go_wp2_with (first
        | refine wpList_load_mid rfl 29 (.tmp 8) rfl v 0 rfl (stCs st0) _ (Blk.all HN1) Tryd.underlying29 rfl (by rw [HL0.out]; exact HIh.out) ?_
        | refine wpList_store_mid rfl 29 (.tmp 6) (.tmp 14) rfl r 0 (stCs st0).toArray rfl rfl (by rw [List.size_toArray, HL0.out]; exact Blk.there HZ1 (by rw [HL0.out]; decide)) (by rw [List.size_toArray, HL0.out]; exact HIh.out) one_st ?_)
      try rw [Exit.noGoto_ret]
      have hz := Blk.setAll (n := stCs st0) HZ1 rfl
      refine bodyPost_ret (results_ctS (t := 6) (u := 7) (ty := 29) (b := r) rfl _ _ _ rfl (Blk.all hz) Tryd.underlying29 rfl (by rw [HL0.out]; exact HIh.out)) rfl ⟨?_, below_setCells hwr _ _ _ hb1⟩
      rw [HRD.out]
      rfl
  | cons b t =>
    obtain ⟨g, hg⟩ : ∃ g, g = stGet 16777216 fzRd hsV (some t) := ⟨_, rfl⟩
    have hll : t.length ≤ 1000000000 := by simp only [List.length_cons] at hs; omega
    have HL : Hid ((stCs g).length = 67) := Lib.hid (by rw [hg]; exact stCs_length (fzGetD_length fun f hf => ((fzRd_iff _ _).1 hf).2.1) (hsV_length _))
    have HLA : Hid ((stCs g).toArray.size = 67) := Lib.hid (by rw [List.size_toArray]; exact HL.out)
    have HRQ : Hid (∀ u : World, Calls Tryd.prog 73 #[.string (tB t)] u fun e w' => e = .returned (.pointer (some ⟨u.heap.size, 0, none⟩)) ∧ Scn u.heap.size (some t) w' ∧ Below u.heap.size u w') := Lib.hid fun u => read_any t u (by unfold maxLen; omega)
    have HFD : Hid (∀ (u : World) (q : Nat), Scn q (some t) u → Calls Tryd.prog 52 #[.pointer (some ⟨q, 0, none⟩)] u fun e w' => e = .returned (.agg (stCs g).toArray) ∧ Only q u w') := Lib.hid fun u q hq => by
      rw [hg]
      exact (stFind_any q (some t) u hq hll).mono fun e w' ⟨h1, _, h3⟩ => ⟨h1, h3⟩
    have HBY : Hid (∀ u : World, Calls Tryd.prog 14 #[.agg (stCs g).toArray] u fun e w' => e = .returned (.tuple #[.string (stG g), .int .i64 (stZ g)]) ∧ Below u.heap.size u w') := Lib.hid fun u => by
      rw [hg]
      exact stBytes_any _ (fzGetD_length fun f hf => ((fzRd_iff _ _).1 hf).2.1) (hsV_length _) u
    have HRD : Hid (stRd (b :: t) = if stB g = true ∧ stF g = b :: t then some g else none) := Lib.hid (by rw [hg]; rfl)
    have hne : (b :: t) ≠ [] := by simp
    have hcut := fun u => cut_txt b t u
    obtain ⟨S, hS⟩ : ∃ S, S = b :: t := ⟨_, rfl⟩
    rw [← hS] at HRD hne hcut ⊢
    have HCUT := Lib.hid hcut
    clear hg hS hs hcut
    go_enter Tryd.func54, Tryd.ntmps54
    go_upto_region 1 with fail
    change Code.wp _ _ _ _ (w.alloc (.cells (stCs st0).toArray 29))
    rw [← HW1.out, ← HR.out]
    go_upto_region 2 with fail
    change Code.wp _ _ _ _ (W1.alloc (.cells (stCs st0).toArray 29))
    rw [← HW2.out, show W1.heap.size = v by rw [HW1.out, HV.out, HR.out]; simp]
    clear HW1 HW2 HR HV
    try simp only [Act.put]
    refine wp_region_tab0 [RT.is (.string (tB S)), RT.is (.bool false)] (by kernel_rfl) (by kernel_rfl) (by kernel_rfl) ⟨?_, ?_, trivial⟩ ?_
    · intro ac w' hF hL hP hU K hK
      have hB : Below _ _ _ := hL
      have e0 : ac.eval (.tmp 0) = .string (tB S) := hF.at 0 (by kernel_rfl)
      exact rop_move _ rfl e0 (wanted_none rfl) (hK _ _ (le8_refl _) rfl)
    · intro ac w' hF hL hP hU K hK
      have hB : Below _ _ _ := hL
      have e12 : ac.eval (.tmp 12) = .string (tB S) := hP 0 (by kernel_rfl)
      exact rop_bin _ _ _ _ _ rfl e12 rfl (guard_str _ _ _ _ _ _ w') (eql_empty S hne w') (wanted_none rfl) (hK _ _ (le8_refl _) rfl)
    · intro ac w' hF hB hT
      have e13 : ac.eval (.tmp 13) = .bool false := hT 1 (by decide)
      rw [hF.setsG [12, 13] (by kernel_rfl)]
      simp only [List.foldl_cons, List.foldl_nil, List.setIfInBounds_toArray, List.set_cons_succ, List.set_cons_zero, e13]
      generalize ac.eval (.tmp 12) = u12
      clear e13 hT hF ac
      have HZ1 := Blk.old HZ hB HZ.lt
      have HN1 := Blk.old HN hB HN.lt
      have hb1 := below_step hb (Nat.le_refl _) hB
      have hv1 := Nat.lt_of_lt_of_le HN.lt hB.size
      have hrv : r < w'.heap.size := Nat.lt_of_lt_of_le HZ.lt hB.size
      clear hB HZ HN hb
      go_upto_region 5 with (first
        | refine wpList_slice_runS rfl 9 (.tmp 16) (some (.const (.int .i64 1))) none none rfl rfl rfl rfl rfl (HCUT.out _) ?_
        | (go_at_call 73; (refine (HRQ.out _).mono ?_; rintro e w3 ⟨rfl, sx, b3⟩))
        | (go_at_call 52; (refine (HFD.out _ _ sx).mono ?_; rintro e w4 ⟨rfl, o4⟩))
        | refine wpList_store_mid (w := w4.alloc (.cells (stCs st0).toArray 29)) rfl 29 (.tmp 9) (.tmp 19) rfl w4.heap.size 0 (stCs g).toArray rfl rfl (by rw [HLA.out]; exact Blk.there (Blk.alloc w4 29 (stCs st0)) (by rw [HL0.out]; decide)) (by rw [List.size_toArray, HL.out]; exact HIh.out) one_st ?_)
      have b34 : Below w'.heap.size w' w4 := b3.trans (o4.below (Nat.le_refl _) b3.size)
      obtain ⟨x, hx⟩ : ∃ x, x = w4.heap.size := ⟨_, rfl⟩
      obtain ⟨W5, hW5⟩ : ∃ u, u = (w4.alloc (.cells (stCs st0).toArray 29)).setCells x 0 (stCs g) := ⟨_, rfl⟩
      have b5 : Below w4.heap.size w4 W5 := by rw [hW5, hx]; exact below_setCells (Nat.le_refl _) _ _ _ (below_boxS _ _)
      have HA : Blk x 29 (stCs g) W5 := by rw [hW5, hx]; exact Blk.setAll (Blk.alloc w4 29 (stCs st0)) (by rw [HL.out]; rfl)
      have HZ5 := Blk.old (Blk.old HZ1 b34 HZ1.lt) b5 (Nat.lt_of_lt_of_le HZ1.lt b34.size)
      have HN5 := Blk.old (Blk.old HN1 b34 HN1.lt) b5 (Nat.lt_of_lt_of_le HN1.lt b34.size)
      have hb5 := below_step (below_step hb1 (Nat.le_refl _) b34) (Nat.le_refl _) b5
      change Code.wp _ _ _ _ ((w4.alloc (.cells (stCs st0).toArray 29)).setCells w4.heap.size 0 (stCs g))
      have hW5' : W5 = (w4.alloc (.cells (stCs st0).toArray 29)).setCells w4.heap.size 0 (stCs g) := by rw [hW5, hx]
      rw [← hW5', ← hx]
      clear hW5 hW5' hx b5 b34 b3 o4 sx HZ1 HN1 hb1 HRQ HFD HCUT
      go_upto_region 6 with (first
        | refine wpList_load_mid rfl 29 (.tmp 9) rfl x 0 rfl (stCs g) _ (Blk.all HA) Tryd.underlying29 rfl (by rw [HL.out]; exact HIh.out) ?_
        | (go_at_call 14; (refine (HBY.out _).mono ?_; rintro e w6 ⟨rfl, b6⟩)))
      have HA6 := Blk.old HA b6 HA.lt
      have HZ6 := Blk.old HZ5 b6 HZ5.lt
      have HN6 := Blk.old HN5 b6 HN5.lt
      have hb6 := below_step hb5 (Nat.le_refl _) b6
      clear b6 HA HZ5 HN5 hb5 HBY
      by_cases hz : stB g = true
      · have et : stG g = tB (stF g) := if_pos hz
        have ez : stZ g = 0 := if_pos hz
        rw [et, ez]
        by_cases he : stF g = S
        · replace HRD : Hid (stRd S = some g) := Lib.hid (by rw [HRD.out, if_pos ⟨hz, he⟩])
          clear et ez hz
          try simp only [Act.put]
          refine wp_region_tab0 [RT.is (.int .i64 0), RT.is (.bool false), RT.is (.bool false), RT.is (.string (tB (stF g))), RT.is (.string (tB S)), RT.is (.bool false), RT.is (.bool false)] (by kernel_rfl) (by kernel_rfl) (by kernel_rfl) ⟨?_, ?_, ?_, ?_, ?_, ?_, ?_, trivial⟩ ?_
          · intro ac w' hF hL hP hU K hK
            have hB : Below _ _ _ := hL
            have e11 : ac.eval (.tmp 11) = .int .i64 0 := hF.at 11 (by kernel_rfl)
            exact rop_move _ rfl e11 (wanted_none rfl) (hK _ _ (le8_refl _) rfl)
          · intro ac w' hF hL hP hU K hK
            have hB : Below _ _ _ := hL
            have e26 : ac.eval (.tmp 26) = .int .i64 0 := hP 0 (by kernel_rfl)
            exact rop_bin _ _ _ _ _ rfl e26 rfl (guard_int _ _ _ _ _ _ _ w') (neq_err0S w') (wanted_none rfl) (hK _ _ (le8_refl _) rfl)
          · intro ac w' hF hL hP hU K hK
            have hB : Below _ _ _ := hL
            have e27 : ac.eval (.tmp 27) = .bool false := hP 1 (by kernel_rfl)
            exact rop_move _ rfl e27 (wanted_none rfl) (hK _ _ (le8_refl _) rfl)
          · intro ac w' hF hL hP hU K hK
            have hB : Below _ _ _ := hL
            have e10 : ac.eval (.tmp 10) = .string (tB (stF g)) := hF.at 10 (by kernel_rfl)
            have e28 : ac.eval (.tmp 28) = .bool false := hP 2 (by kernel_rfl)
            exact rop_move _ rfl e10 (wanted_of (j := 2) (b := false) rfl rfl e28) (hK _ _ (le8_refl _) rfl)
          · intro ac w' hF hL hP hU K hK
            have hB : Below _ _ _ := hL
            have e0 : ac.eval (.tmp 0) = .string (tB S) := hF.at 0 (by kernel_rfl)
            have e28 : ac.eval (.tmp 28) = .bool false := hP 2 (by kernel_rfl)
            exact rop_move _ rfl e0 (wanted_of (j := 2) (b := false) rfl rfl e28) (hK _ _ (le8_refl _) rfl)
          · intro ac w' hF hL hP hU K hK
            have hB : Below _ _ _ := hL
            have e29 : ac.eval (.tmp 29) = .string (tB (stF g)) := hP 3 (by kernel_rfl)
            have e30 : ac.eval (.tmp 30) = .string (tB S) := hP 4 (by kernel_rfl)
            have e28 : ac.eval (.tmp 28) = .bool false := hP 2 (by kernel_rfl)
            exact rop_bin _ _ _ _ _ rfl e29 e30 (guard_str _ _ _ _ _ _ w') (neq_txt_f _ _ he w') (wanted_of (j := 2) (b := false) rfl rfl e28) (hK _ _ (le8_refl _) rfl)
          · intro ac w' hF hL hP hU K hK
            have hB : Below _ _ _ := hL
            have e28 : ac.eval (.tmp 28) = .bool false := hP 2 (by kernel_rfl)
            have e31 : ac.eval (.tmp 31) = .bool false := hP 5 (by kernel_rfl)
            exact rop_pick _ _ _ rfl false e28 (by simpa using e31) (wanted_none rfl) (hK _ _ (le8_refl _) rfl)
          · intro ac w' hF hB hT
            have e32 : ac.eval (.tmp 32) = .bool false := hT 6 (by decide)
            rw [hF.setsG [26, 27, 28, 29, 30, 31, 32] (by kernel_rfl)]
            simp only [List.foldl_cons, List.foldl_nil, List.setIfInBounds_toArray, List.set_cons_succ, List.set_cons_zero, e32]
            generalize ac.eval (.tmp 26) = u26
            generalize ac.eval (.tmp 27) = u27
            generalize ac.eval (.tmp 28) = u28
            generalize ac.eval (.tmp 29) = u29
            generalize ac.eval (.tmp 30) = u30
            generalize ac.eval (.tmp 31) = u31
            clear e32 hT hF ac
            have HA7 := Blk.old HA6 hB HA6.lt
            have HZ7 := Blk.old HZ6 hB HZ6.lt
            have HN7 := Blk.old HN6 hB HN6.lt
            have hb7 := below_step hb6 (Nat.le_refl _) hB
            clear hB HA6 HZ6 HN6 hb6
            clear he
            go_wp2_with (first
              | refine wpList_load_mid rfl 29 (.tmp 9) rfl x 0 rfl (stCs g) _ (Blk.all HA7) Tryd.underlying29 rfl (by rw [HL.out]; exact HIh.out) ?_
              | refine wpList_store_mid rfl 29 (.tmp 6) (.tmp 34) rfl r 0 (stCs g).toArray rfl rfl (by rw [List.size_toArray, HL.out]; exact Blk.there HZ7 (by rw [HL0.out]; decide)) (by rw [List.size_toArray, HL.out]; exact HIh.out) one_st ?_)
            try rw [Exit.noGoto_ret]
            have hz := Blk.setAll (n := stCs g) HZ7 (by rw [HL.out]; rfl)
            refine bodyPost_ret (results_ctS (t := 6) (u := 7) (ty := 29) (b := r) rfl _ _ _ rfl (Blk.all hz) Tryd.underlying29 rfl (by rw [HL.out]; exact HIh.out)) rfl ⟨?_, below_setCells hwr _ _ _ hb7⟩
            rw [HRD.out]
            rfl
        · replace HRD : Hid (stRd S = none) := Lib.hid (by rw [HRD.out, if_neg (fun h => he h.2)])
          clear et ez hz
          try simp only [Act.put]
          refine wp_region_tab0 [RT.is (.int .i64 0), RT.is (.bool false), RT.is (.bool false), RT.is (.string (tB (stF g))), RT.is (.string (tB S)), RT.is (.bool true), RT.is (.bool true)] (by kernel_rfl) (by kernel_rfl) (by kernel_rfl) ⟨?_, ?_, ?_, ?_, ?_, ?_, ?_, trivial⟩ ?_
          · intro ac w' hF hL hP hU K hK
            have hB : Below _ _ _ := hL
            have e11 : ac.eval (.tmp 11) = .int .i64 0 := hF.at 11 (by kernel_rfl)
            exact rop_move _ rfl e11 (wanted_none rfl) (hK _ _ (le8_refl _) rfl)
          · intro ac w' hF hL hP hU K hK
            have hB : Below _ _ _ := hL
            have e26 : ac.eval (.tmp 26) = .int .i64 0 := hP 0 (by kernel_rfl)
            exact rop_bin _ _ _ _ _ rfl e26 rfl (guard_int _ _ _ _ _ _ _ w') (neq_err0S w') (wanted_none rfl) (hK _ _ (le8_refl _) rfl)
          · intro ac w' hF hL hP hU K hK
            have hB : Below _ _ _ := hL
            have e27 : ac.eval (.tmp 27) = .bool false := hP 1 (by kernel_rfl)
            exact rop_move _ rfl e27 (wanted_none rfl) (hK _ _ (le8_refl _) rfl)
          · intro ac w' hF hL hP hU K hK
            have hB : Below _ _ _ := hL
            have e10 : ac.eval (.tmp 10) = .string (tB (stF g)) := hF.at 10 (by kernel_rfl)
            have e28 : ac.eval (.tmp 28) = .bool false := hP 2 (by kernel_rfl)
            exact rop_move _ rfl e10 (wanted_of (j := 2) (b := false) rfl rfl e28) (hK _ _ (le8_refl _) rfl)
          · intro ac w' hF hL hP hU K hK
            have hB : Below _ _ _ := hL
            have e0 : ac.eval (.tmp 0) = .string (tB S) := hF.at 0 (by kernel_rfl)
            have e28 : ac.eval (.tmp 28) = .bool false := hP 2 (by kernel_rfl)
            exact rop_move _ rfl e0 (wanted_of (j := 2) (b := false) rfl rfl e28) (hK _ _ (le8_refl _) rfl)
          · intro ac w' hF hL hP hU K hK
            have hB : Below _ _ _ := hL
            have e29 : ac.eval (.tmp 29) = .string (tB (stF g)) := hP 3 (by kernel_rfl)
            have e30 : ac.eval (.tmp 30) = .string (tB S) := hP 4 (by kernel_rfl)
            have e28 : ac.eval (.tmp 28) = .bool false := hP 2 (by kernel_rfl)
            exact rop_bin _ _ _ _ _ rfl e29 e30 (guard_str _ _ _ _ _ _ w') (neq_txt_t _ _ he w') (wanted_of (j := 2) (b := false) rfl rfl e28) (hK _ _ (le8_refl _) rfl)
          · intro ac w' hF hL hP hU K hK
            have hB : Below _ _ _ := hL
            have e28 : ac.eval (.tmp 28) = .bool false := hP 2 (by kernel_rfl)
            have e31 : ac.eval (.tmp 31) = .bool true := hP 5 (by kernel_rfl)
            exact rop_pick _ _ _ rfl false e28 (by simpa using e31) (wanted_none rfl) (hK _ _ (le8_refl _) rfl)
          · intro ac w' hF hB hT
            have e32 : ac.eval (.tmp 32) = .bool true := hT 6 (by decide)
            rw [hF.setsG [26, 27, 28, 29, 30, 31, 32] (by kernel_rfl)]
            simp only [List.foldl_cons, List.foldl_nil, List.setIfInBounds_toArray, List.set_cons_succ, List.set_cons_zero, e32]
            generalize ac.eval (.tmp 26) = u26
            generalize ac.eval (.tmp 27) = u27
            generalize ac.eval (.tmp 28) = u28
            generalize ac.eval (.tmp 29) = u29
            generalize ac.eval (.tmp 30) = u30
            generalize ac.eval (.tmp 31) = u31
            clear e32 hT hF ac
            have HA7 := Blk.old HA6 hB HA6.lt
            have HZ7 := Blk.old HZ6 hB HZ6.lt
            have HN7 := Blk.old HN6 hB HN6.lt
            have hb7 := below_step hb6 (Nat.le_refl _) hB
            clear hB HA6 HZ6 HN6 hb6
            clear he HA7
            go_wp2_with (first
              | refine wpList_load_mid rfl 29 (.tmp 8) rfl v 0 rfl (stCs st0) _ (Blk.all HN7) Tryd.underlying29 rfl (by rw [HL0.out]; exact HIh.out) ?_
              | refine wpList_store_mid rfl 29 (.tmp 6) (.tmp 33) rfl r 0 (stCs st0).toArray rfl rfl (by rw [List.size_toArray, HL0.out]; exact Blk.there HZ7 (by rw [HL0.out]; decide)) (by rw [List.size_toArray, HL0.out]; exact HIh.out) one_st ?_)
            try rw [Exit.noGoto_ret]
            have hz := Blk.setAll (n := stCs st0) HZ7 rfl
            refine bodyPost_ret (results_ctS (t := 6) (u := 7) (ty := 29) (b := r) rfl _ _ _ rfl (Blk.all hz) Tryd.underlying29 rfl (by rw [HL0.out]; exact HIh.out)) rfl ⟨?_, below_setCells hwr _ _ _ hb7⟩
            rw [HRD.out]
            rfl
      · have et : stG g = tB [] := if_neg hz
        have ez : stZ g = 1 := if_neg hz
        rw [et, ez]
        replace HRD : Hid (stRd S = none) := Lib.hid (by rw [HRD.out, if_neg (fun h => hz h.1)])
        clear et ez hz
        try simp only [Act.put]
        refine wp_region_tab0 [RT.is (.int .i64 1), RT.is (.bool true), RT.is (.bool true), RT.is undef, RT.is undef, RT.is undef, RT.is (.bool true)] (by kernel_rfl) (by kernel_rfl) (by kernel_rfl) ⟨?_, ?_, ?_, ?_, ?_, ?_, ?_, trivial⟩ ?_
        · intro ac w' hF hL hP hU K hK
          have hB : Below _ _ _ := hL
          have e11 : ac.eval (.tmp 11) = .int .i64 1 := hF.at 11 (by kernel_rfl)
          exact rop_move _ rfl e11 (wanted_none rfl) (hK _ _ (le8_refl _) rfl)
        · intro ac w' hF hL hP hU K hK
          have hB : Below _ _ _ := hL
          have e26 : ac.eval (.tmp 26) = .int .i64 1 := hP 0 (by kernel_rfl)
          exact rop_bin _ _ _ _ _ rfl e26 rfl (guard_int _ _ _ _ _ _ _ w') (neq_err1S w') (wanted_none rfl) (hK _ _ (le8_refl _) rfl)
        · intro ac w' hF hL hP hU K hK
          have hB : Below _ _ _ := hL
          have e27 : ac.eval (.tmp 27) = .bool true := hP 1 (by kernel_rfl)
          exact rop_move _ rfl e27 (wanted_none rfl) (hK _ _ (le8_refl _) rfl)
        · intro ac w' hF hL hP hU K hK
          have hB : Below _ _ _ := hL
          have e28 : ac.eval (.tmp 28) = .bool true := hP 2 (by kernel_rfl)
          exact rop_offG (j := 2) (b := false) rfl rfl e28 (by decide) (hK _ _ (le8_refl _) rfl)
        · intro ac w' hF hL hP hU K hK
          have hB : Below _ _ _ := hL
          have e28 : ac.eval (.tmp 28) = .bool true := hP 2 (by kernel_rfl)
          exact rop_offG (j := 2) (b := false) rfl rfl e28 (by decide) (hK _ _ (le8_refl _) rfl)
        · intro ac w' hF hL hP hU K hK
          have hB : Below _ _ _ := hL
          have e28 : ac.eval (.tmp 28) = .bool true := hP 2 (by kernel_rfl)
          exact rop_offG (j := 2) (b := false) rfl rfl e28 (by decide) (hK _ _ (le8_refl _) rfl)
        · intro ac w' hF hL hP hU K hK
          have hB : Below _ _ _ := hL
          have e28 : ac.eval (.tmp 28) = .bool true := hP 2 (by kernel_rfl)
          exact rop_pick _ _ _ rfl true e28 (by rfl) (wanted_none rfl) (hK _ _ (le8_refl _) rfl)
        · intro ac w' hF hB hT
          have e32 : ac.eval (.tmp 32) = .bool true := hT 6 (by decide)
          rw [hF.setsG [26, 27, 28, 29, 30, 31, 32] (by kernel_rfl)]
          simp only [List.foldl_cons, List.foldl_nil, List.setIfInBounds_toArray, List.set_cons_succ, List.set_cons_zero, e32]
          generalize ac.eval (.tmp 26) = u26
          generalize ac.eval (.tmp 27) = u27
          generalize ac.eval (.tmp 28) = u28
          generalize ac.eval (.tmp 29) = u29
          generalize ac.eval (.tmp 30) = u30
          generalize ac.eval (.tmp 31) = u31
          clear e32 hT hF ac
          have HA7 := Blk.old HA6 hB HA6.lt
          have HZ7 := Blk.old HZ6 hB HZ6.lt
          have HN7 := Blk.old HN6 hB HN6.lt
          have hb7 := below_step hb6 (Nat.le_refl _) hB
          clear hB HA6 HZ6 HN6 hb6
          clear HA7
          go_wp2_with (first
            | refine wpList_load_mid rfl 29 (.tmp 8) rfl v 0 rfl (stCs st0) _ (Blk.all HN7) Tryd.underlying29 rfl (by rw [HL0.out]; exact HIh.out) ?_
            | refine wpList_store_mid rfl 29 (.tmp 6) (.tmp 33) rfl r 0 (stCs st0).toArray rfl rfl (by rw [List.size_toArray, HL0.out]; exact Blk.there HZ7 (by rw [HL0.out]; decide)) (by rw [List.size_toArray, HL0.out]; exact HIh.out) one_st ?_)
          try rw [Exit.noGoto_ret]
          have hz := Blk.setAll (n := stCs st0) HZ7 rfl
          refine bodyPost_ret (results_ctS (t := 6) (u := 7) (ty := 29) (b := r) rfl _ _ _ rfl (Blk.all hz) Tryd.underlying29 rfl (by rw [HL0.out]; exact HIh.out)) rfl ⟨?_, below_setCells hwr _ _ _ hb7⟩
          rw [HRD.out]
          rfl
set_option maxHeartbeats 3200000 in
set_option maxRecDepth 100000 in
theorem stRead_any (s : ByteArray) (w : World) (hs : s.size ≤ 1000000000) :
    Calls Tryd.prog 20 #[.string s] w fun e w' => e = .returned (.tuple #[.agg (stCs ((stRd s.data.toList).getD st0)).toArray, .int .i64 (rdZ (stRd s.data.toList))]) ∧ Below w.heap.size w w' := by
  obtain ⟨g, hg⟩ : ∃ g, g = (stRd s.data.toList).getD st0 := ⟨_, rfl⟩
  obtain ⟨Z, hZ⟩ : ∃ Z, Z = rdZ (stRd s.data.toList) := ⟨_, rfl⟩
  have HL : Hid ((stCs g).length = 67) := Lib.hid (by rw [hg]; exact stGetD_length _)
  have HQ : Hid (∀ u : World, Calls Tryd.prog 54 #[.string s, .func (.func 52) #[] #[], .func (.func 14) #[] #[]] u fun e w' => e = .returned (.tuple #[.agg (stCs g).toArray, .int .i64 Z]) ∧ Below u.heap.size u w') := Lib.hid fun u => by
    rw [hg, hZ]
    have := stRead_g s.data.toList u (by rw [← Lib.size_eq]; exact hs)
    rw [tB_of] at this
    exact this
  rw [← hg, ← hZ]
  obtain ⟨r, hr⟩ : ∃ r, r = w.heap.size := ⟨_, rfl⟩
  obtain ⟨W1, hW1⟩ : ∃ W, W = w.alloc (.cells (stCs st0).toArray 29) := ⟨_, rfl⟩
  have b1 : Below w.heap.size w W1 := by rw [hW1]; exact below_boxS _ _
  have HZ1 : Blk r 29 (stCs st0) W1 := by rw [hW1, hr]; exact Blk.alloc _ _ _
  have hwr : w.heap.size ≤ r := by omega
  have HIh : Hid ((Tryd.prog.info? 29).map (·.size) = some 67) := Lib.hid (size_of info_st)
  have HL0 : Hid ((stCs st0).length = 67) := Lib.hid rfl
  have HW1 := Lib.hid hW1
  have HR := Lib.hid hr
  clear hW1 hr hg hZ hs
  go_enter Tryd.func20, Tryd.ntmps20
  go_upto_region 1 with fail
  change Code.wp _ _ _ _ (w.alloc (.cells (stCs st0).toArray 29))
  rw [← HW1.out, ← HR.out]
  clear HW1 HR
  go_wp2_with (first
    | (go_at_call 54; (refine (HQ.out _).mono ?_; rintro e w3 ⟨rfl, b3⟩; have HZ3 := Blk.old HZ1 b3 HZ1.lt))
    | refine wpList_store_mid rfl 29 (.tmp 2) (.tmp 8) rfl r 0 (stCs g).toArray rfl rfl (by rw [List.size_toArray, HL.out]; exact Blk.there HZ3 (by rw [HL0.out]; decide)) (by rw [List.size_toArray, HL.out]; exact HIh.out) one_st ?_)
  have hz := Blk.setAll (n := stCs g) HZ3 (by rw [HL.out]; rfl)
  exact bodyPost_ret (results_ctS (t := 2) (u := 3) (ty := 29) (b := r) rfl _ _ _ rfl (Blk.all hz) Tryd.underlying29 rfl (by rw [HL.out]; exact HIh.out)) rfl ⟨rfl, below_setCells hwr _ _ _ (below_step b1 (Nat.le_refl _) b3)⟩
end Go.Proofs.YtlcljjapeigaeaaDoor
