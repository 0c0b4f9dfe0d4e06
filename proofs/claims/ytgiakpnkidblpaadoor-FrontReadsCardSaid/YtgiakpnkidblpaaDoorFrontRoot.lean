/-
  Package front: Root.
-/
import Derived.Test.YtgiakpnkidblpaaDoorFrontBack
import Derived.Test.YtgiakpnkidblpaaDoorFrontAdd
namespace Go.Proofs.YtgiakpnkidblpaaDoor
open Go.RowKit Go.Shelf

attribute [local go_sem] Oper.semAt_some

theorem cells_ownF {β : Type} (B b : Nat) (C : Array Value) (T : TypeId) (fr : Nat × Nat) : OwnFrom B (fun (_ : β) W => W.heap[b]? = some (.cells C T fr)) := by
  intro s W W' row hs hg hr
  refine (hg.block b (Array.getElem?_eq_some_iff.1 hs).1 fun e => ?_).trans hs
  obtain ⟨_, o, ho, hc⟩ := hr b e.symm
  rw [hs] at ho
  cases ho
  cases hc
theorem keeps_below {B : Nat} {W W' : World} (h : Below W.heap.size W W') : KeepsFrom B W W' := ⟨h.size, fun k _o _hk h0 _ho => (h.block k (Array.getElem?_eq_some_iff.1 h0).1).trans h0⟩
theorem keeps_only {B q : Nat} {W W' : World} (h : Only q W W') (hq : q < B) : KeepsFrom B W W' := ⟨h.size, fun k o hk h0 ho => (h.block k (Array.getElem?_eq_some_iff.1 h0).1 (by omega)).trans h0⟩
theorem cast_tmps {c : Code} {F : Fence} {n : Nat} {P : Program} {Q : Exit → Act → World → Prop} {T T' : Array Value} {D : List Deferred} {W : World} (h : T' = T) (g : c.wpIn F n P Q { tmps := T, defers := D } W) : c.wpIn F n P Q { tmps := T', defers := D } W := h ▸ g
theorem ownFrom_pureF {β : Type} {B : Nat} (p : β → Prop) : OwnFrom B (fun s (_ : World) => p s) := fun _ _ _ _ hs _ _ => hs
set_option maxHeartbeats 4000000 in
set_option maxRecDepth 100000 in
theorem froot_gen (fv : Value) (P : Hs) (w : World) (hP : ∀ u, Below w.heap.size w u → Calls Tryd.prog 14 #[fv] u fun e w' => ∃ v', e = .returned v' ∧ OwnS u.heap.size w' v' P ∧ Below u.heap.size u w')
    (hl : P.length ≤ 40) (hok : all32 P) (hK : KT w) :
    Calls Tryd.prog 16 #[fv] w fun e w' => e = .returned (sumV (Tree.rootP P)) ∧ Below w.heap.size w w' := by
  obtain ⟨w0, hw0⟩ : ∃ w0, w0 = w.alloc zSum := ⟨_, rfl⟩
  have b0 : Below w.heap.size w w0 := by rw [hw0]; exact (Below.refl _ _).alloc (Nat.le_refl _) _
  have z0 : w0.heap[w.heap.size]? = some (.cells ((List.replicate 32 (0 : UInt8)).map u8V).toArray 31 (0, 0)) := by rw [hw0]; exact heap_alloc_last _ _
  have Hz0 := Lib.hid z0
  have l0 : w.heap.size < w0.heap.size := by rw [hw0]; simp
  have HPK := Lib.hid hP
  have HOK := Lib.hid hok
  have HKW := Lib.hid hK
  obtain ⟨D, hD⟩ : ∃ D, D = Tree.rootP P := ⟨_, rfl⟩
  have hDl : D.length = 32 := by rw [hD]; exact Tree.rootP_length P hok
  rw [← hD]
  have HD := Lib.hid hD
  have HDl := Lib.hid hDl
  obtain ⟨m, hm⟩ : ∃ m, m = P.length := ⟨_, rfl⟩
  clear z0 hP hok hK hD hDl
  by_cases h0 : m = 0
  · obtain rfl : P = [] := List.eq_nil_of_length_eq_zero (by omega)
    have hc : ∀ u, Below w.heap.size w u → Calls Tryd.prog 29 #[] u fun e w' => e = .returned (sumV D) ∧ Below u.heap.size u w' := fun u hu => by rw [HD.out]; exact leafEmpty_any u (HKW.out.old hu)
    have HC := Lib.hid hc
    have B0 := Lib.hid b0
    clear hc h0 hm hl b0
    refine (callsIn_wide (n := 3)).1 ?_
    refine callsIn_of_wp_marks Tryd.func16 rfl trivial ?_ rfl
    simp only [Tryd.ntmps16, List.size_toArray, List.length_cons, List.length_nil, Nat.reduceAdd, Nat.reduceSub, Array.replicate_succ, Array.replicate_zero, List.push_toArray, List.append_toArray, List.nil_append, List.cons_append]
    refine wpIn_wide.2 ?_
    go_upto_region 1 with (fail)
    change Code.wp _ _ _ _ (w.alloc zSum)
    rw [← hw0]
    clear hw0
    go_wp2_with (first
      | (go_at_call 14; refine (HPK.out _ B0.out).mono ?_; rintro e w2 ⟨v2, rfl, ho2, b2⟩; have z2 := Lib.hid ((b2.block _ l0).trans Hz0.out); obtain ⟨a2, c2, rfl, -, -⟩ := ho2.sums.slice; clear ho2; simp only [List.length_nil])
      | (go_at_call 29; ((with_reducible refine (HC.out _ (below_step B0.out (Nat.le_refl _) b2)).mono ?_); rintro e w3 ⟨rfl, b3⟩; have z3 := Lib.hid ((b3.block _ (Nat.lt_of_lt_of_le l0 b2.size)).trans z2.out)))
      | refine wpList_store_mid rfl 31 (.tmp 2) (.tmp 13) rfl w.heap.size 0 (D.map u8V).toArray rfl rfl (sum_there z3.out HDl.out) (sum_info HDl.out) (sum_one D) ?_)
    exact ⟨sumV D, results_cell (t := 2) (ty := 31) (b := w.heap.size) (cs := D.map u8V) rfl _ _ _ rfl (sum_range z3.out HDl.out) Tryd.underlying31 rfl (sum_info' HDl.out), rfl, below_setCells (Nat.le_refl _) _ _ _ (below_step (below_step B0.out (Nat.le_refl _) b2) (Nat.le_refl _) b3)⟩
  · obtain ⟨P1, p, rfl⟩ : ∃ P1 p, P = P1 ++ [p] := by
      have hne : P ≠ [] := by rintro rfl; exact h0 (by simpa using hm)
      exact ⟨P.dropLast, P.getLast hne, (List.dropLast_concat_getLast hne).symm⟩
    obtain ⟨k, hk⟩ : ∃ k, k = P1.length := ⟨_, rfl⟩
    have hmk : m = k + 1 := by rw [hm, hk]; simp
    have hpl : p.length = 32 := HOK.out p (by simp)
    have HPl := Lib.hid hpl
    have hDf : D = P1.foldr Tree.node p := by rw [HD.out, rootP_fold]
    have HDf := Lib.hid hDf
    have hlen : (P1 ++ [p]).length = k + 1 := by rw [← hm, hmk]
    have Hlen := Lib.hid hlen
    have Hk := Lib.hid hk
    have B0 := Lib.hid b0
    have hk40 : k ≤ 39 := by omega
    clear hmk hpl hDf hlen hk hl h0 hm b0

    refine (callsIn_wide (n := 3)).1 ?_
    refine callsIn_of_wp_marks Tryd.func16 rfl trivial ?_ rfl
    simp only [Tryd.ntmps16, List.size_toArray, List.length_cons, List.length_nil, Nat.reduceAdd, Nat.reduceSub, Array.replicate_succ, Array.replicate_zero, List.push_toArray, List.append_toArray, List.nil_append, List.cons_append]
    refine wpIn_wide.2 ?_
    go_upto_region 1 with (fail)
    change Code.wp _ _ _ _ (w.alloc zSum)
    rw [← hw0]
    clear hw0
    go_upto_region 5 with (first
      | (go_at_call 14; refine (HPK.out _ B0.out).mono ?_; rintro e w2 ⟨v2, rfl, ho2, b2⟩; have z2 := Lib.hid ((b2.block _ l0).trans Hz0.out); have HO2 := Lib.hid ho2; obtain ⟨a2, c2, rfl, hc2, -⟩ := ho2.sums.slice; clear ho2; rw [Hlen.out] at HO2 hc2 ⊢; have HC2 : k ≤ c2 := Nat.le_of_succ_le hc2; clear hc2))
    obtain ⟨b, off, rfl, hb2, -, hr2⟩ := HO2.out.sums.at k (by rw [Hlen.out]; omega)
    rw [show (P1 ++ [p])[k]'(by rw [Hlen.out]; omega) = p by simp [Hk.out]] at hr2
    have hidx := fun u => index_sums b off (k + 1) c2 k (by omega) u
    have HR2 := Lib.hid hr2
    have hz0 := heap_alloc_last w2 zSum
    have z6 : ((w2.alloc zSum).setCells w2.heap.size 0 (p.map u8V)).heap[w2.heap.size]? = some (.cells (p.map u8V).toArray 31 (0, 0)) := heap_setCells_all w2 _ _ (by simp [HPl.out])
    have k6 : Below w2.heap.size w2 ((w2.alloc zSum).setCells w2.heap.size 0 (p.map u8V)) := below_setCells (Nat.le_refl _) _ _ _ ((Below.refl _ _).alloc (Nat.le_refl _) _)
    clear hr2
    go_upto_region 6 with (first
      | refine wpList_load_mid rfl 31 (.tmp 19) rfl b (off + k * 32) rfl (p.map u8V) _ (range_alloc' hb2 HR2.out) Tryd.underlying31 rfl (sum_info' HPl.out) ?_
      | refine wpList_load_mid rfl 31 (.tmp 19) rfl b (off + k * 32) rfl (p.map u8V) _ HR2.out Tryd.underlying31 rfl (sum_info' HPl.out) ?_
      | refine wpList_store_mid rfl 31 (.tmp 5) (.tmp 20) rfl w2.heap.size 0 (p.map u8V).toArray rfl rfl (sum_there hz0 HPl.out) (sum_info HPl.out) (sum_one p) ?_)
    change Code.wp _ _ _ _ ((w2.alloc zSum).setCells w2.heap.size 0 (p.map u8V))
    obtain ⟨w6, hw6⟩ : ∃ u, u = (w2.alloc zSum).setCells w2.heap.size 0 (p.map u8V) := ⟨_, rfl⟩
    rw [← hw6] at z6 k6 ⊢
    obtain ⟨rb, hrb⟩ : ∃ rb, rb = w2.heap.size := ⟨_, rfl⟩
    obtain ⟨q0, hq0⟩ : ∃ q0, q0 = w.heap.size := ⟨_, rfl⟩
    have hs6 := (HO2.out.sums.head k (by rw [Hlen.out]; omega)).old k6
    rw [show (P1 ++ [p]).take k = P1 by rw [Hk.out, List.take_left]] at hs6
    have hb6 : b < w6.heap.size := Nat.lt_of_lt_of_le hb2 k6.size
    have z7 := (k6.block _ (Nat.lt_of_lt_of_le l0 b2.size)).trans z2.out
    have B6 : Below w.heap.size w w6 := below_step (below_step B0.out (Nat.le_refl _) b2) (Nat.le_refl _) k6
    have hcut := fun u => scut_h (some ⟨b, off, none⟩) (k + 1) c2 k HC2 u
    rw [← hrb] at z6 ⊢
    rw [← hq0] at z7 ⊢
    have Hrb := Lib.hid hrb
    have Hq0 := Lib.hid hq0
    clear hw6 hz0 hrb hq0
    go_wp2_with (first
      | (with_reducible refine wpList_slice_runS rfl 22 (.tmp 21) none (some (.tmp 22)) none rfl rfl rfl rfl rfl (hcut _) ?_)
      | (go_at_call 30; refine ((callsIn_wide (n := 3)).1 (back_in Fence.wide 3 trivial rfl _ _ _ _)).mono ?_; rintro e w' ⟨rfl, rfl⟩))
    obtain ⟨Bs, hBs⟩ : ∃ Bs, Bs = w6.heap.size := ⟨_, rfl⟩
    obtain ⟨W0, hW0⟩ : ∃ W0, W0 = w6.alloc (.cells #[.slice (some ⟨b, off, none⟩) k c2] 22) := ⟨_, rfl⟩
    have b7 : Below w6.heap.size w6 W0 := by rw [hW0]; exact (Below.refl _ _).alloc (Nat.le_refl _) _
    have sz : W0.heap.size = Bs + 1 := by rw [hW0, hBs]; simp
    have cB : W0.cell? ⟨Bs, 0, none⟩ = some (.slice (some ⟨b, off, none⟩) k c2) := by rw [hW0, hBs]; exact cell_of (heap_alloc_last _ _) 0
    have hlrb : rb < w6.heap.size := (Array.getElem?_eq_some_iff.1 z6).1
    have hlq0 : q0 < w6.heap.size := (Array.getElem?_eq_some_iff.1 z7).1
    have zr := (b7.block rb hlrb).trans z6
    have zq := (b7.block q0 hlq0).trans z7
    have hsB : SumsB W0.heap.size W0 (.slice (some ⟨b, off, none⟩) k c2) P1 := (hs6.old b7).below
    have BW0 : Below w.heap.size w W0 := below_step B6 (Nat.le_refl _) b7
    have hbrb : b ≠ rb := by rw [Hrb.out]; omega
    have hqrb : q0 ≠ rb := by rw [Hrb.out, Hq0.out]; have := l0; have := b2.size; omega
    have hBsrb : Bs ≠ rb := by omega
    have hrbw : w.heap.size ≤ rb := by rw [Hrb.out]; have := l0; have := b2.size; omega
    have hq0W : q0 < W0.heap.size := by omega
    have hrbW : rb < W0.heap.size := by omega
    rw [← hW0, ← hBs]
    clear hW0 hBs z6 z7 k6 hs6 hidx hcut
    refine (wpIn_wide (n := 3)).1 ?_
    refine wpIn_rangeFunc_ownH rfl (by omega) (gf := 51) (lb := #[.pointer (some ⟨Bs, 0, none⟩)]) rfl trivial (enters_of Tryd.func51 (by kernel_rfl) rfl)
      (back_stops Fence.wide 2 trivial rfl (by omega) Bs W0.heap.size _ P1 (by rw [← Hk.out]; omega) W0 (by omega) (Nat.le_refl _) cB hsB rb hBsrb (fun g o n c' e => by injection e with e _ _; injection e with e; injection e with e _ _; omega)) (fun h k => h.trans k) (KeepX.put (Nat.le_refl _)) (Below.refl _ _) (fun _ => rfl)
      (fun pre W => ((∃ X : List UInt8, X.length = 32 ∧ X = pre.foldl (fun r x => Tree.node (pad32 x.2) r) p ∧ W.heap[rb]? = some (.cells (X.map u8V).toArray 31 (0, 0))) ∧ W.heap[q0]? = some (.cells ((List.replicate 32 (0 : UInt8)).map u8V).toArray 31 (0, 0))) ∧ Below w.heap.size w W ∧ W0.heap.size ≤ W.heap.size)
      (fun _ _ _ => False)
      (OwnFrom.and (OwnFrom.and (fun s A B row hs hg hr => by obtain ⟨X, e1, e2, e3⟩ := hs; exact ⟨X, e1, e2, cells_ownF (β := Unit) _ _ _ _ _ () A B row e3 hg hr⟩) (cells_ownF _ _ _ _ _)) (OwnFrom.and (ownFrom_below (Nat.le_refl _) BW0.size) (fun s A B row hs hg hr => Nat.le_trans hs hg.size)))
      (fun c => fun s A B row hs hg hr => hs.elim)
      ⟨⟨⟨p, HPl.out, rfl, zr⟩, zq⟩, BW0, Nat.le_refl _⟩
      (fun x a' W => ∃ Bx, W0.heap.size ≤ Bx ∧ W.heap[Bx]? = some (.cells ((pad32 x.2).map u8V).toArray 31 (0, 0)) ∧ a' = { tmps := #[fv, undef, .pointer (some ⟨q0, 0, none⟩), .slice (some ⟨b, off, none⟩) (k + 1) c2, .int .i64 (k : Int), .pointer (some ⟨rb, 0, none⟩), undef, .pointer (some ⟨Bx, 0, none⟩), fv, .slice (some ⟨b, off, none⟩) (k + 1) c2, .slice (some ⟨b, off, none⟩) (k + 1) c2, .int .i64 ((k : Int) + 1), .bool false, undef, .slice (some ⟨b, off, none⟩) (k + 1) c2, .int .i64 ((k : Int) + 1), .int .i64 (k : Int), .slice (some ⟨b, off, none⟩) (k + 1) c2, .int .i64 (k : Int), .pointer (some ⟨b, off + k * 32, none⟩), .agg (p.map u8V).toArray, .slice (some ⟨b, off, none⟩) (k + 1) c2, .int .i64 (k : Int), .slice (some ⟨b, off, none⟩) k c2, .func (.func 51) #[] #[.pointer (some ⟨Bs, 0, none⟩)], .int .i64 (x.1 : Int), sumV (pad32 x.2), undef, undef, undef, undef], defers := [] })
      (fun x a' s A B row hs hg hr => by obtain ⟨Bx, e1, e2, e3⟩ := hs; exact ⟨Bx, e1, cells_ownF (β := Unit) _ _ _ _ _ () A B row e2 hg hr, e3⟩) ?assign ?body ?done ?stop
    case assign =>
      rintro l pre x W K ⟨⟨⟨X, hX1, hX2, hX3⟩, hq⟩, hB, hS⟩ hK
      obtain ⟨y, hy⟩ : ∃ y, y = pad32 x.2 := ⟨_, rfl⟩
      have hyl : y.length = 32 := by rw [hy]; exact pad32_length _
      have hz0 := heap_alloc_last W zSum
      have HYl := Lib.hid hyl
      have v1 : ((W.alloc zSum).setCells W.heap.size 0 (y.map u8V)).heap[W.heap.size]? = some (.cells (y.map u8V).toArray 31 (0, 0)) := heap_setCells_all W _ _ (by simp [hyl])
      have v2 : Below W.heap.size W ((W.alloc zSum).setCells W.heap.size 0 (y.map u8V)) := below_setCells (Nat.le_refl _) _ _ _ ((Below.refl _ _).alloc (Nat.le_refl _) _)
      have hlr : rb < W.heap.size := (Array.getElem?_eq_some_iff.1 hX3).1
      have hlq : q0 < W.heap.size := (Array.getElem?_eq_some_iff.1 hq).1
      have HKK := Lib.hid (fun a' h => hK a' ((W.alloc zSum).setCells W.heap.size 0 (y.map u8V)) (keeps_below v2) (KeepX.below (v2.mono hS)) ⟨⟨⟨X, hX1, hX2, (v2.block _ hlr).trans hX3⟩, (v2.block _ hlq).trans hq⟩, below_step hB (Nat.le_refl _) v2, Nat.le_trans hS v2.size⟩ h)
      rw [← hy] at HKK ⊢
      have HV1 := Lib.hid v1
      clear hK hX2 hX3 hq hB v1 v2
      refine cast_tmps (T := #[fv, undef, .pointer (some ⟨q0, 0, none⟩), .slice (some ⟨b, off, none⟩) (k + 1) c2, .int .i64 (k : Int), .pointer (some ⟨rb, 0, none⟩), undef, undef, fv, .slice (some ⟨b, off, none⟩) (k + 1) c2, .slice (some ⟨b, off, none⟩) (k + 1) c2, .int .i64 ((k : Int) + 1), .bool false, undef, .slice (some ⟨b, off, none⟩) (k + 1) c2, .int .i64 ((k : Int) + 1), .int .i64 (k : Int), .slice (some ⟨b, off, none⟩) (k + 1) c2, .int .i64 (k : Int), .pointer (some ⟨b, off + k * 32, none⟩), .agg (p.map u8V).toArray, .slice (some ⟨b, off, none⟩) (k + 1) c2, .int .i64 (k : Int), .slice (some ⟨b, off, none⟩) k c2, .func (.func 51) #[] #[.pointer (some ⟨Bs, 0, none⟩)], .int .i64 (x.1 : Int), sumV y, undef, undef, undef, undef]) (by simp) ?_
      gi_wp2_with (refine wpListIn_st rfl 31 (.tmp 7) (.tmp 26) rfl rfl rfl (run_storeAt_mid (W.alloc zSum) W.heap.size 0 _ _ (sum_there hz0 HYl.out) (sum_info HYl.out) (sum_one y)) ?_)
      exact HKK.out _ ⟨W.heap.size, hS, HV1.out, rfl⟩
    case body =>
      rintro l pre x a' W hl ⟨r, hr⟩ ⟨⟨⟨X, hX1, hX2, hX3⟩, hq⟩, hB, hS⟩ ⟨Bx, hBx, bX, rfl⟩ hlt
      obtain ⟨y, hy⟩ : ∃ y, y = pad32 x.2 := ⟨_, rfl⟩
      have hyl : y.length = 32 := by rw [hy]; exact pad32_length _
      obtain ⟨D2, hD2⟩ : ∃ D2, D2 = Tree.node y X := ⟨_, rfl⟩
      have hD2l : D2.length = 32 := by rw [hD2]; exact Tree.node_length _ _
      have hfo : D2 = (pre ++ [x]).foldl (fun r x => Tree.node (pad32 x.2) r) p := by rw [List.foldl_append, ← hX2, hD2, hy]; rfl
      have HN : Hid (CallsIn Fence.wide 0 Tryd.prog 31 #[sumV y, sumV X] W fun e w' => e = .returned (sumV D2) ∧ Below W.heap.size W w') := Lib.hid ((callsIn_wide (n := 0)).2 (by
        rw [hD2]
        exact leafNode_any y X hyl hX1 W (HKW.out.old hB)))
      have hlr : rb < W.heap.size := (Array.getElem?_eq_some_iff.1 hX3).1
      have hlq : q0 < W.heap.size := (Array.getElem?_eq_some_iff.1 hq).1
      rw [← hy] at bX ⊢
      have HYl := Lib.hid hyl
      have HXl := Lib.hid hX1
      have HX3 := Lib.hid hX3
      have HQ := Lib.hid hq
      have HBX := Lib.hid bX
      have HD2l := Lib.hid hD2l
      have HFO := Lib.hid hfo
      have HB := Lib.hid hB
      clear hyl hX1 hX2 hX3 hq bX hD2l hfo hD2 hy hB
      gi_wp2_with (first
        | refine wpListIn_ld rfl 31 (.tmp 7) rfl rfl (load_sumT HYl.out (range_of HBX.out)) ?_
        | refine wpListIn_ld rfl 31 (.tmp 5) rfl rfl (load_sumT HXl.out (range_of HX3.out)) ?_)
      refine ⟨trivial, ?_⟩
      refine (CallsIn.inRound l HN.out).mono ?_
      rintro e w9 ⟨rfl, b9⟩
      have HZ9 := Lib.hid ((b9.block _ hlr).trans HX3.out)
      gi_wp2_with (refine wpListIn_st rfl 31 (.tmp 5) (.tmp 29) rfl rfl rfl (run_storeAt_mid w9 rb 0 _ _ (sum_thereF HZ9.out HXl.out HD2l.out) (sum_info HD2l.out) (sum_one D2)) ?_)
      have ho : Only rb W (w9.setCells rb 0 (D2.map u8V)) := (Only.of_below b9).trans (only_setCells (b := rb) (D2.map u8V) 0 _ (Only.refl _ _))
      exact ⟨keeps_only ho (by omega), ⟨ho.size, fun i hi hir => ho.block i (by omega) hir⟩, ⟨⟨D2, HD2l.out, HFO.out, set_sumF w9 rb X D2 HXl.out HD2l.out HZ9.out⟩, (ho.block q0 hlq hqrb).trans HQ.out⟩, HB.out.trans (ho.below hrbw HB.out.size), Nat.le_trans hS ho.size⟩
    case done =>
      rintro Dd ys W hDd rfl ⟨⟨⟨X, hX1, hX2, hX3⟩, hq⟩, hB, hS⟩ hK
      have hXD : X = D := by rw [hX2, dnS_fold (fun a b => Tree.node (pad32 a) b) P1 _ p (Nat.le_refl _), Nat.sub_self, List.drop_zero, foldr_pad P1 (fun z hz => HOK.out z (by simp [hz])), HDf.out]
      subst hXD
      have HX3 := Lib.hid hX3
      have HQ := Lib.hid hq
      clear hX2 hX3 hq
      gi_wp2
      go_wp2_with (first
        | refine wpList_load_mid rfl 31 (.tmp 5) rfl rb 0 rfl (X.map u8V) _ (range_of HX3.out) Tryd.underlying31 rfl (sum_info' HDl.out) ?_
        | refine wpList_store_mid rfl 31 (.tmp 2) (.tmp 30) rfl q0 0 (X.map u8V).toArray rfl rfl (sum_there HQ.out HDl.out) (sum_info HDl.out) (sum_one X) ?_)
      have hK' : (W.setCells q0 0 (X.map u8V)).heap[Dd]? = some (.deferred (some [])) := ((only_setCells (b := q0) (X.map u8V) 0 W (Only.refl _ _)).block Dd (Array.getElem?_eq_some_iff.1 hK).1 (by omega)).trans hK
      have hput := belowK_b (n₀ := W0.heap.size) (w := W0) (Nat.le_refl _) (W.setCells q0 0 (X.map u8V)) Dd _ (.deferred none) hDd hK' rfl rfl
      refine ⟨by simp, .inl ⟨_, _, rfl, run_takeDeferred hK', ?_⟩⟩
      exact ⟨sumV X, results_cell (t := 2) (ty := 31) (b := q0) (cs := X.map u8V) rfl _ _ _ rfl (below_range' hput (by omega) (sum_range HQ.out HDl.out)) Tryd.underlying31 rfl (sum_info' HDl.out), rfl, (below_setCells (by rw [Hq0.out]; exact Nat.le_refl _) _ _ _ hB).trans (hput.mono BW0.size)⟩
    case stop => rintro D c pre W hD - h hK; exact h.elim
end Go.Proofs.YtgiakpnkidblpaaDoor
