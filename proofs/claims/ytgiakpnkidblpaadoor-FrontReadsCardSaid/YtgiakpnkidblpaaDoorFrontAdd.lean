/-
  Package front: Add.
-/
import Derived.Test.YtgiakpnkidblpaaDoorFrontPeaks
import Derived.Test.YtgiakpnkidblpaaDoorLeafAbove
import Derived.Test.YtgiakpnkidblpaaDoorShaHStep
namespace Go.Proofs.YtgiakpnkidblpaaDoor
open Go.RowKit

/-- How the world goes on, where from effect N on blocks of the call's own may turn. -/
def GLf (N : Nat) (k k' : Nat) (w w' : World) : Prop := (k = k' ∧ w = w') ∨ (k' = k + 1 ∧ (k' < N → Below w.heap.size w w'))
theorem GLf.same {N k : Nat} {w : World} : GLf N k k w w := .inl ⟨rfl, rfl⟩
theorem GLf.old {N k : Nat} {w w' : World} (hb : Below w.heap.size w w') : GLf N k (k + 1) w w' := .inr ⟨rfl, fun _ => hb⟩
theorem GLf.own {N k : Nat} {w w' : World} (h : N ≤ k + 1) : GLf N k (k + 1) w w' := .inr ⟨rfl, fun h' => absurd h' (by omega)⟩
set_option maxRecDepth 1000000 in
theorem idx40 (b k : Nat) (h : k < 40) (w : World) : (Instr.indexAt 47 (.pointer (some ⟨b, 1, none⟩)) (.int .i64 (k : Int))).run Tryd.prog w = .ok (.pointer (some ⟨b, 1 + k * 32, none⟩)) w := by
  have hl := alen40
  have he := aelem40
  have hs := size_sum
  have h' : (k : Int) < 40 := by omega
  have h2 : ¬ (40 : Int) ≤ (k : Int) := by omega
  go_simp
theorem range_of {w : World} {q : Nat} {x : List UInt8} (h : w.heap[q]? = some (.cells (x.map u8V).toArray 31 (0, 0))) : w.rangeAt q 0 (x.map u8V) := fun j v hv => by
  rw [Nat.zero_add, cell_of h]; simpa using hv
theorem sum_thereF {w : World} {q : Nat} {x y : List UInt8} (h : w.heap[q]? = some (.cells (x.map u8V).toArray 31 (0, 0))) (hx : x.length = 32) (hy : y.length = 32) : w.there q 0 (y.map u8V).toArray.size := by
  rw [show (y.map u8V).toArray.size = 32 from (List.size_toArray).trans (by rw [List.length_map, hy])]; exact there_of h (by simp [hx])
theorem set_sumF (w : World) (q : Nat) (x y : List UInt8) (hx : x.length = 32) (hy : y.length = 32) (h : w.heap[q]? = some (.cells (x.map u8V).toArray 31 (0, 0))) : (w.setCells q 0 (y.map u8V)).heap[q]? = some (.cells (y.map u8V).toArray 31 (0, 0)) := by
  have := heap_setCells q 31 (y.map u8V) 0 (x.map u8V) w (by simp [hx, hy]) h
  rw [this, List.take_zero, List.nil_append, List.drop_eq_nil_of_le (by simp [hx, hy]), List.append_nil]
theorem guard_ptr (op : BinOp) (t : TypeId) (x y : Operand) (a b : Option Addr) (w : World) : (eqGuard op t x y (.pointer a) (.pointer b)).run Tryd.prog w = .ok () w := by
  cases op <;> go_simp
theorem eql_ptr_none (b : Nat) (w : World) : (binOp .eql 25 (.pointer (some ⟨b, 0, none⟩)) (.pointer none)).run Tryd.prog w = .ok (.bool false) w := by
  go_simp
theorem eql_iF (a b : Int) (h : ¬ a = b) (w : World) : (binOp .eql 3 (.int .i64 a) (.int .i64 b)).run Tryd.prog w = .ok (.bool false) w := by
  have h' : (a == b) = false := by simpa using h
  go_simp
section
variable {ops : Array Oper} {Q : Exit → Act → World → Prop} {a : Act} {w : World} {K : Act → World → Prop} {o : Oper}
theorem rop_buildF (t : TypeId) (parts : Array (Nat × Operand)) (hop : o.op = .build t parts) (L : List (Nat × Value)) (hL : (parts.map fun (i, x) => (i, a.eval x)).toList = L) {cells : Array Value} (hb : Tryd.prog.built t L = some cells) (hw : Region.wanted o (yielded ops a.tmps) = true) (h : K (a.put o.dst (.agg cells)) w) :
    if Region.wanted o (yielded ops a.tmps) = true then Oper.wp Tryd.prog o a w K Q else K (a.put o.dst undef) w :=
  rop_v hw (by
    have hr := run_build (P := Tryd.prog) w t (parts.map fun (i, x) => (i, a.eval x)) cells (by rw [hL]; exact hb)
    simp [execOp, hop, hr]) h
end
set_option maxRecDepth 100000 in
theorem built_zero : Tryd.prog.built 31 [] = some ((List.replicate 32 (0 : UInt8)).map u8V).toArray := by kernel_rfl
theorem only_alloc {b : Nat} {u w : World} (h : Only b u w) (o : Obj) : Only b u (w.alloc o) := h.trans ⟨rfl, rfl, rfl, by simp, fun k hk _ => Below.heap_alloc _ _ _ hk⟩
theorem only_below {b : Nat} {u w v : World} (h : Only b u w) (k : Below w.heap.size w v) : Only b u v := h.trans (Only.of_below k)
theorem only_new {b q : Nat} {u w v : World} (h : Only b u w) (k : Only q w v) (hq : u.heap.size ≤ q) : Only b u v :=
  ⟨k.os.trans h.os, k.tape.trans h.tape, k.output.trans h.output, Nat.le_trans h.size k.size, fun i hi hb => (k.block i (Nat.lt_of_lt_of_le hi h.size) (by omega)).trans (h.block i hi hb)⟩
/-- Ahead of a rest r: m hashes are left, y is the root of what goes together. -/
def AddRel (b n q : Nat) (R : Hs) (w0 : World) (s5 s6 : Value) (wr : World) : Prop :=
  ∃ (r m : Nat) (y : List UInt8) (Q : Hs), s5 = .int .i64 (m : Int) ∧ s6 = .int .i64 (r : Int) ∧ m = Tree.ones r ∧ r ≤ n ∧ y.length = 32 ∧ Front b n Q wr ∧ wr.heap[q]? = some (.cells (y.map u8V).toArray 31 (0, 0)) ∧ Tree.addP r (Q.take m) y = R ∧ Only b w0 wr
def restOf : Value → Nat
  | .int _ z => z.toNat
  | _ => 0
set_option maxHeartbeats 4000000 in
set_option maxRecDepth 100000 in
theorem fadd_any (b n : Nat) (Q : Hs) (x : List UInt8) (w : World) (h : Front b n Q w) (hn : n < 1099511627776) (hb0 : b ≠ 0) (hx : x.length = 32) (hK : KT w) :
    Calls Tryd.prog 20 #[.pointer (some ⟨b, 0, none⟩), sumV x] w fun e w' => e = .returned (.int .i64 ((n + 1 : Nat) : Int)) ∧ (∃ Q', Front b (n + 1) Q' w' ∧ Q'.take (Tree.ones (n + 1)) = Tree.addP n (Q.take (Tree.ones n)) x) ∧ Only b w w' := by
  obtain ⟨R, hR⟩ : ∃ R, R = Tree.addP n (Q.take (Tree.ones n)) x := ⟨_, rfl⟩
  have hRl : R.length = Tree.ones (n + 1) := by
    rw [hR]
    have := Tree.ones_most n (by omega)
    exact Tree.addP_length n _ x (by rw [List.length_take, h.1]; omega)
  rw [← hR]
  unfold sumV
  obtain ⟨V, hV⟩ : ∃ V, V = w.alloc (.cells (x.map u8V).toArray 31) := ⟨_, rfl⟩
  obtain ⟨q, hq⟩ : ∃ q, q = w.heap.size := ⟨_, rfl⟩
  have b0 : Below w.heap.size w V := by rw [hV]; exact (Below.refl _ _).alloc (Nat.le_refl _) _
  have hz : V.heap[q]? = some (.cells (x.map u8V).toArray 31 (0, 0)) := by rw [hV, hq]; exact heap_alloc_last _ _
  have hfV := h.old' b0
  have c0 := hfV.at0
  have hbq : b ≠ q := by have := h.lt; omega
  have hne : ¬ (n : Int) = 1099511627776 := by omega
  have HWP := Lib.hid (fun u => whole_any n (by omega) u)
  obtain ⟨m0, hm0⟩ : ∃ m0, m0 = Tree.ones n := ⟨_, rfl⟩
  rw [← hm0] at hR HWP
  have HR := Lib.hid hR
  have HRl := Lib.hid hRl
  have Hm0 := Lib.hid hm0
  have HZ0 := Lib.hid hz
  have HFV := Lib.hid hfV
  have HbQ := Lib.hid hbq
  have Hq := Lib.hid hq
  have HX := Lib.hid hx
  have HKW := Lib.hid hK
  have Hb0 := Lib.hid hb0
  have B0 := Lib.hid b0
  have HnM := Lib.hid hn
  clear hR hRl hm0 hz hfV hbq hq hx hK hb0 h b0
  go_enter Tryd.func20, Tryd.ntmps20
  go_upto_region 1 with (fail)
  change Code.wp _ _ _ _ (w.alloc (.cells (x.map u8V).toArray 31))
  rw [← hV, ← Hq.out]
  clear hV
  go_step3
  refine wp_seq ?_
  refine wp_seq ?_
  try simp only [Act.put]
  refine wp_region_tab0 [RT.is (.pointer (some ⟨b, 0, none⟩)), RT.is (.bool false), RT.is (.bool false), RT.is (.pointer (some ⟨b, 0, none⟩)), RT.is (.pointer (some ⟨b, 0, none⟩)), RT.is (.pointer (some ⟨b, 0, none⟩)), RT.is (.int .i64 (n : Int)), RT.is (.bool false), RT.is (.bool false)] (by kernel_rfl) (by kernel_rfl) (by kernel_rfl) ⟨?_, ?_, ?_, ?_, ?_, ?_, ?_, ?_, ?_, trivial⟩ ?_
  · intro ac w' hF hL hP hU K hK
    have hB : Below _ _ _ := hL
    have e0 : ac.eval (.tmp 0) = .pointer (some ⟨b, 0, none⟩) := hF.at 0 (by kernel_rfl)
    exact rop_move _ rfl e0 (wanted_none rfl) (hK _ _ (le8_refl _) rfl)
  · intro ac w' hF hL hP hU K hK
    have hB : Below _ _ _ := hL
    have e7 : ac.eval (.tmp 7) = .pointer (some ⟨b, 0, none⟩) := hP 0 (by kernel_rfl)
    exact rop_bin _ _ _ _ _ rfl e7 rfl (guard_ptr _ _ _ _ _ _ w') (eql_ptr_none b w') (wanted_none rfl) (hK _ _ (le8_refl _) rfl)
  · intro ac w' hF hL hP hU K hK
    have hB : Below _ _ _ := hL
    have e8 : ac.eval (.tmp 8) = .bool false := hP 1 (by kernel_rfl)
    exact rop_move _ rfl e8 (wanted_none rfl) (hK _ _ (le8_refl _) rfl)
  · intro ac w' hF hL hP hU K hK
    have hB : Below _ _ _ := hL
    have e0 : ac.eval (.tmp 0) = .pointer (some ⟨b, 0, none⟩) := hF.at 0 (by kernel_rfl)
    have e9 : ac.eval (.tmp 9) = .bool false := hP 2 (by kernel_rfl)
    exact rop_move _ rfl e0 (wanted_of (j := 2) (b := false) rfl rfl e9) (hK _ _ (le8_refl _) rfl)
  · intro ac w' hF hL hP hU K hK
    have hB : Below _ _ _ := hL
    have e10 : ac.eval (.tmp 10) = .pointer (some ⟨b, 0, none⟩) := hP 3 (by kernel_rfl)
    have e9 : ac.eval (.tmp 9) = .bool false := hP 2 (by kernel_rfl)
    exact rop_nilG _ rfl e10 (wanted_of (j := 2) (b := false) rfl rfl e9) (hK _ _ (le8_refl _) rfl)
  · intro ac w' hF hL hP hU K hK
    have hB : Below _ _ _ := hL
    have e11 : ac.eval (.tmp 11) = .pointer (some ⟨b, 0, none⟩) := hP 4 (by kernel_rfl)
    have e9 : ac.eval (.tmp 9) = .bool false := hP 2 (by kernel_rfl)
    exact rop_fld _ _ _ rfl e11 (fld_size b w') (wanted_of (j := 2) (b := false) rfl rfl e9) (hK _ _ (le8_refl _) rfl)
  · intro ac w' hF hL hP hU K hK
    have hB : Below _ _ _ := hL
    have e12 : ac.eval (.tmp 12) = .pointer (some ⟨b, 0, none⟩) := hP 5 (by kernel_rfl)
    have e9 : ac.eval (.tmp 9) = .bool false := hP 2 (by kernel_rfl)
    exact rop_ld _ _ rfl e12 (load_i64 ((HFV.out.old' hB).at0)) (wanted_of (j := 2) (b := false) rfl rfl e9) (hK _ _ (le8_refl _) rfl)
  · intro ac w' hF hL hP hU K hK
    have hB : Below _ _ _ := hL
    have e13 : ac.eval (.tmp 13) = .int .i64 (n : Int) := hP 6 (by kernel_rfl)
    have e9 : ac.eval (.tmp 9) = .bool false := hP 2 (by kernel_rfl)
    exact rop_bin _ _ _ _ _ rfl e13 rfl (guard_int _ _ _ _ _ _ _ w') (eql_iF _ _ hne w') (wanted_of (j := 2) (b := false) rfl rfl e9) (hK _ _ (le8_refl _) rfl)
  · intro ac w' hF hL hP hU K hK
    have hB : Below _ _ _ := hL
    have e9 : ac.eval (.tmp 9) = .bool false := hP 2 (by kernel_rfl)
    have e14 : ac.eval (.tmp 14) = .bool false := hP 7 (by kernel_rfl)
    exact rop_pick _ _ _ rfl false e9 (by simpa using e14) (wanted_none rfl) (hK _ _ (le8_refl _) rfl)
  · intro ac w' hF hB hT
    have e15 : ac.eval (.tmp 15) = .bool false := hT 8 (by decide)
    rw [hF.setsG [7, 8, 9, 10, 11, 12, 13, 14, 15] (by kernel_rfl)]
    simp only [List.foldl_cons, List.foldl_nil, List.setIfInBounds_toArray, List.set_cons_succ, List.set_cons_zero, e15]
    generalize ac.eval (.tmp 7) = u7
    generalize ac.eval (.tmp 8) = u8
    generalize ac.eval (.tmp 9) = u9
    generalize ac.eval (.tmp 10) = u10
    generalize ac.eval (.tmp 11) = u11
    generalize ac.eval (.tmp 12) = u12
    generalize ac.eval (.tmp 13) = u13
    generalize ac.eval (.tmp 14) = u14
    clear e15 hT hF ac
    have hfW := HFV.out.old' hB
    have c1 := hfW.at0
    go_wp2_with (first
      | (go_at_call 28; ((with_reducible refine (HWP.out _).mono ?_); rintro e w1 ⟨rfl, rfl⟩)))
    go_step3
    go_wp2
    go_loopw [5, 6] (fun s5 s6 wr => AddRel b n q R w s5 s6 wr) (fun _ s6 _ => restOf s6)
    case atStart => exact ⟨n, m0, x, Q, rfl, rfl, Hm0.out, Nat.le_refl _, HX.out, hfW, (hB.block q (Array.getElem?_eq_some_iff.1 HZ0.out).1).trans HZ0.out, HR.out.symm, only_below (Only.of_below B0.out) hB⟩
    case round =>
      obtain ⟨r, m, y, Q, rfl, rfl, hm, hr, hy, hf, hz, ha, ho⟩ := hrel
      clear hfW c1 hB c0 HFV HZ0 HR HX
      obtain ⟨W, hW⟩ : ∃ W, W = wr := ⟨_, rfl⟩
      subst hW
      have HF := Lib.hid hf
      have HZ := Lib.hid hz
      have HY := Lib.hid hy
      have HO := Lib.hid ho
      have HqW : Hid (q < W.heap.size) := Lib.hid (Array.getElem?_eq_some_iff.1 hz).1
      by_cases h2 : r % 2 = 1
      · have hrem : (r : Int).tmod 2 = 1 := by rw [Int.tmod_eq_emod_of_nonneg (by omega)]; omega
        have hquo : (r : Int).tdiv 2 = ((r / 2 : Nat) : Int) := by rw [Int.tdiv_eq_ediv_of_nonneg (by omega)]; omega
        obtain ⟨r2, hr2⟩ : ∃ r2, r2 = r / 2 := ⟨_, rfl⟩
        rw [← hr2] at hquo
        have hq3 : wrap64 (r2 : Int) = (r2 : Int) := by unfold wrap64; omega
        have hm1 : m = Tree.ones r2 + 1 := by rw [hm, Tree.ones_step, hr2, h2, Nat.add_comm]
        obtain ⟨m1, hm1e⟩ : ∃ m1, m1 = Tree.ones r2 := ⟨_, rfl⟩
        rw [← hm1e] at hm1
        have hm40 : m1 < 40 := by
          have := Tree.ones_le 39 r2 (by rw [show (2 : Nat) ^ 39 = 549755813888 by decide]; omega)
          omega
        have hsub : (m : Int) - 1 = (m1 : Int) := by omega
        have hsubw : IntKind.i64.wrap ((m : Int) - 1) = (m1 : Int) := by rw [hsub]; exact IntWalk.i64_in _ (by omega)
        have hsubw2 := IntWalk.i64_in (m1 : Int) (by omega)
        obtain ⟨p, hp⟩ : ∃ p, p = Q[m1]'(by rw [hf.1]; exact hm40) := ⟨_, rfl⟩
        have hpl : p.length = 32 := by rw [hp]; exact hf.2.1 _ (List.getElem_mem _)
        have hpr := hf.rangeQ m1 (by rw [hf.1]; exact hm40)
        rw [← hp] at hpr
        obtain ⟨D, hD⟩ : ∃ D, D = Tree.node p y := ⟨_, rfl⟩
        have hDl : D.length = 32 := by rw [hD]; exact Tree.node_length _ _
        have hKW := HKW.out.only ho Hb0.out
        have HN : Hid (∀ u : World, Below W.heap.size W u → Calls Tryd.prog 31 #[sumV p, sumV y] u fun e w' => e = .returned (sumV D) ∧ Below u.heap.size u w') := Lib.hid fun u hu => by
          rw [hD]
          exact leafNode_any p y hpl hy u (hKW.old hu)
        obtain ⟨zs, hzs⟩ : ∃ zs : List UInt8, zs = List.replicate 32 (0 : UInt8) := ⟨_, rfl⟩
        have HBZ : Hid (Tryd.prog.built 31 [] = some (zs.map u8V).toArray) := Lib.hid (by rw [hzs]; exact built_zero)
        have HZl : Hid (zs.length = 32) := Lib.hid (by rw [hzs, List.length_replicate])
        have hnext : Tree.addP r2 ((Q.set m1 zs).take m1) D = R := by
          rw [← ha, Tree.addP_odd h2, hm1, ← hr2, hD, List.take_set_of_le (Nat.le_refl _)]
          have e1 : Q.take (m1 + 1) = Q.take m1 ++ [p] := by rw [List.take_succ_eq_append_getElem (by rw [hf.1]; exact hm40), hp]
          rw [e1, List.dropLast_concat]
          congr 1
          simp
        have HNX := Lib.hid hnext
        have HP := Lib.hid hpr
        have HPl := Lib.hid hpl
        have HDl := Lib.hid hDl
        have Hm1 := Lib.hid hm1e
        have Hr2 : Hid (r2 ≤ n ∧ r2 < r) := Lib.hid (by omega)
        clear hf hz hy ho ha hm hr hr2 hm1 hm1e hp hpl hpr hD hDl hzs hnext h2 hKW
        go_upto_region 11 with (fail)

        try simp only [Act.put]
        refine wp_region_ph (Lx := GLf 2) [RXP.is (.pointer (some ⟨b, 0, none⟩)), RXP.is (.int .i64 (m1 : Int)), RXP.is (.pointer (some ⟨b, 0, none⟩)), RXP.is (.int .i64 (m1 : Int)), RXP.is (.pointer (some ⟨b, 0, none⟩)), RXP.is (.pointer (some ⟨b, 1, none⟩)), RXP.is (.pointer (some ⟨b, 1 + m1 * 32, none⟩)), RXP.is (sumV p), RXP.is (sumV y), RXP.is (sumV D), RXP.is (sumV zs), RXP.any, RXP.is (.pointer (some ⟨b, 0, none⟩)), RXP.is (.pointer (some ⟨b, 1, none⟩)), RXP.is (.pointer (some ⟨b, 1 + m1 * 32, none⟩)), RXP.any] [9, 11, 15] (fun k w' => (k < 2 → Below W.heap.size W w') ∧ (k = 2 → ∃ u, Below W.heap.size W u ∧ w' = u.setCells q 0 (D.map u8V)) ∧ (k = 3 → ∃ u, Below W.heap.size W u ∧ w' = (u.setCells q 0 (D.map u8V)).setCells b (1 + m1 * 32) (zs.map u8V))) (by kernel_rfl) (by kernel_rfl) (by kernel_rfl) (by kernel_rfl) (by kernel_rfl) (⟨fun _ => below_drew (Below.refl _ _), fun h => absurd h (by decide), fun h => absurd h (by decide)⟩) ⟨?_, ?_, ?_, ?_, ?_, ?_, ?_, ?_, ?_, ?_, ?_, ?_, ?_, ?_, ?_, ?_, trivial⟩ ?_
        · intro ac w' ph hF hPh hlt hP hU K hK0
          have e0 : ac.eval (.tmp 0) = .pointer (some ⟨b, 0, none⟩) := hF.at 0 (by kernel_rfl)
          exact rop_move _ rfl e0 (wanted_none rfl) (hK0 _ _ GLf.same hPh rfl)
        · intro ac w' ph hF hPh hlt hP hU K hK0
          have e5 : ac.eval (.tmp 5) = .int .i64 (m1 : Int) := hF.at 5 (by kernel_rfl)
          exact rop_move _ rfl e5 (wanted_none rfl) (hK0 _ _ GLf.same hPh rfl)
        · intro ac w' ph hF hPh hlt hP hU K hK0
          have e0 : ac.eval (.tmp 0) = .pointer (some ⟨b, 0, none⟩) := hF.at 0 (by kernel_rfl)
          exact rop_move _ rfl e0 (wanted_none rfl) (hK0 _ _ GLf.same hPh rfl)
        · intro ac w' ph hF hPh hlt hP hU K hK0
          have e5 : ac.eval (.tmp 5) = .int .i64 (m1 : Int) := hF.at 5 (by kernel_rfl)
          exact rop_move _ rfl e5 (wanted_none rfl) (hK0 _ _ GLf.same hPh rfl)
        · intro ac w' ph hF hPh hlt hP hU K hK0
          have e43 : ac.eval (.tmp 43) = .pointer (some ⟨b, 0, none⟩) := hP 2 (by kernel_rfl)
          exact rop_nilG _ rfl e43 (wanted_none rfl) (hK0 _ _ GLf.same hPh rfl)
        · intro ac w' ph hF hPh hlt hP hU K hK0
          have e45 : ac.eval (.tmp 45) = .pointer (some ⟨b, 0, none⟩) := hP 4 (by kernel_rfl)
          exact rop_fld _ _ _ rfl e45 (fld_peaks b w') (wanted_none rfl) (hK0 _ _ GLf.same hPh rfl)
        · intro ac w' ph hF hPh hlt hP hU K hK0
          have e46 : ac.eval (.tmp 46) = .pointer (some ⟨b, 1, none⟩) := hP 5 (by kernel_rfl)
          have e44 : ac.eval (.tmp 44) = .int .i64 (m1 : Int) := hP 3 (by kernel_rfl)
          exact rop_idx _ _ _ rfl e46 e44 (idx40 b m1 hm40 w') (wanted_none rfl) (hK0 _ _ GLf.same hPh rfl)
        · intro ac w' ph hF hPh hlt hP hU K hK0
          have hph : ph ≤ 0 := (hlt 0 9 rfl).2 (by kernel_rfl)
          have e47 : ac.eval (.tmp 47) = .pointer (some ⟨b, 1 + m1 * 32, none⟩) := hP 6 (by kernel_rfl)
          exact rop_ld _ _ rfl e47 (run_loadAt_mid _ _ _ _ _ _ (below_range (hPh.1 (by omega)) HF.out.lt HP.out) Tryd.underlying31 rfl (sum_info' HPl.out)) (wanted_none rfl) (hK0 _ _ GLf.same hPh rfl)
        · intro ac w' ph hF hPh hlt hP hU K hK0
          have hph : ph ≤ 0 := (hlt 0 9 rfl).2 (by kernel_rfl)
          have e3 : ac.eval (.tmp 3) = .pointer (some ⟨q, 0, none⟩) := hF.at 3 (by kernel_rfl)
          exact rop_ld _ _ rfl e3 (run_loadAt_mid _ _ _ _ _ _ (below_range (hPh.1 (by omega)) HqW.out (range_of HZ.out)) Tryd.underlying31 rfl (sum_info' HY.out)) (wanted_none rfl) (hK0 _ _ GLf.same hPh rfl)
        · intro ac w' ph hF hPh hlt hP hU K hK0
          obtain rfl : ph = 0 := (hlt 0 9 rfl).1 rfl
          have e48 : ac.eval (.tmp 48) = sumV p := hP 7 (by kernel_rfl)
          have e49 : ac.eval (.tmp 49) = sumV y := hP 8 (by kernel_rfl)
          have hB : Below W.heap.size W w' := hPh.1 (by decide)
          refine rop_call 31 _ _ rfl #[sumV p, sumV y] (by simp [e48, e49]) (by kernel_rfl) (wanted_none rfl) ?_
          refine (HN.out w' hB).mono ?_
          rintro e w2 ⟨rfl, hb⟩
          exact ⟨_, rfl, hK0 _ _ (GLf.old hb) ⟨fun _ => below_step hB (Nat.le_refl _) hb, fun h => absurd h (by decide), fun h => absurd h (by decide)⟩ rfl⟩
        · intro ac w' ph hF hPh hlt hP hU K hK0
          exact rop_buildF _ _ rfl [] (by simp) HBZ.out (wanted_none rfl) (hK0 _ _ GLf.same hPh rfl)
        · intro ac w' ph hF hPh hlt hP hU K hK0
          obtain rfl : ph = 1 := (hlt 1 11 rfl).1 rfl
          have e3 : ac.eval (.tmp 3) = .pointer (some ⟨q, 0, none⟩) := hF.at 3 (by kernel_rfl)
          have e50 : ac.eval (.tmp 50) = sumV D := hP 9 (by kernel_rfl)
          have hB : Below W.heap.size W w' := hPh.1 (by decide)
          have hz := (hB.block q HqW.out).trans HZ.out
          exact rop_storeG _ _ _ rfl e3 e50 (run_storeAt_mid w' q 0 _ _ (sum_thereF hz HY.out HDl.out) (sum_info HDl.out) (sum_one D)) (wanted_none rfl) (hK0 _ _ (GLf.own (by decide)) ⟨fun h => absurd h (by decide), fun _ => ⟨w', hB, rfl⟩, fun h => absurd h (by decide)⟩ trivial)
        · intro ac w' ph hF hPh hlt hP hU K hK0
          have e41 : ac.eval (.tmp 41) = .pointer (some ⟨b, 0, none⟩) := hP 0 (by kernel_rfl)
          exact rop_nilG _ rfl e41 (wanted_none rfl) (hK0 _ _ GLf.same hPh rfl)
        · intro ac w' ph hF hPh hlt hP hU K hK0
          have e52 : ac.eval (.tmp 52) = .pointer (some ⟨b, 0, none⟩) := hP 12 (by kernel_rfl)
          exact rop_fld _ _ _ rfl e52 (fld_peaks b w') (wanted_none rfl) (hK0 _ _ GLf.same hPh rfl)
        · intro ac w' ph hF hPh hlt hP hU K hK0
          have e53 : ac.eval (.tmp 53) = .pointer (some ⟨b, 1, none⟩) := hP 13 (by kernel_rfl)
          have e42 : ac.eval (.tmp 42) = .int .i64 (m1 : Int) := hP 1 (by kernel_rfl)
          exact rop_idx _ _ _ rfl e53 e42 (idx40 b m1 hm40 w') (wanted_none rfl) (hK0 _ _ GLf.same hPh rfl)
        · intro ac w' ph hF hPh hlt hP hU K hK0
          obtain rfl : ph = 2 := (hlt 2 15 rfl).1 rfl
          have e54 : ac.eval (.tmp 54) = .pointer (some ⟨b, 1 + m1 * 32, none⟩) := hP 14 (by kernel_rfl)
          have e51 : ac.eval (.tmp 51) = sumV zs := hP 10 (by kernel_rfl)
          obtain ⟨u, hB, hwu⟩ := hPh.2.1 rfl
          have hf : Front b n Q w' := by rw [hwu]; exact (HF.out.old' hB).kept (only_setCells _ _ _ (Only.refl _ _)) HbQ.out
          exact rop_storeG _ _ _ rfl e54 e51 (run_storeAt_mid w' b (1 + m1 * 32) _ _ (hf.there m1 hm40 HZl.out) (sum_info HZl.out) (sum_one zs)) (wanted_none rfl) (hK0 _ _ (GLf.own (by decide)) ⟨fun h => absurd h (by decide), fun h => absurd h (by decide), fun _ => ⟨u, hB, by rw [hwu]⟩⟩ trivial)
        · intro ac w' hF hPh hT
          rw [hF.setsG [41, 42, 43, 44, 45, 46, 47, 48, 49, 50, 51, 52, 53, 54] (by kernel_rfl)]
          simp only [List.foldl_cons, List.foldl_nil, List.setIfInBounds_toArray, List.set_cons_succ, List.set_cons_zero]
          generalize ac.eval (.tmp 41) = u41
          generalize ac.eval (.tmp 42) = u42
          generalize ac.eval (.tmp 43) = u43
          generalize ac.eval (.tmp 44) = u44
          generalize ac.eval (.tmp 45) = u45
          generalize ac.eval (.tmp 46) = u46
          generalize ac.eval (.tmp 47) = u47
          generalize ac.eval (.tmp 48) = u48
          generalize ac.eval (.tmp 49) = u49
          generalize ac.eval (.tmp 50) = u50
          generalize ac.eval (.tmp 51) = u51
          generalize ac.eval (.tmp 52) = u52
          generalize ac.eval (.tmp 53) = u53
          generalize ac.eval (.tmp 54) = u54
          clear  hT hF ac
          obtain ⟨u, bu, hwu⟩ := hPh.2.2 rfl
          have hfu := HF.out.old' bu
          have hzu := (bu.block q HqW.out).trans HZ.out
          have hf1 : Front b n Q (u.setCells q 0 (D.map u8V)) := hfu.kept (only_setCells _ _ _ (Only.refl _ _)) HbQ.out
          have hz1 := set_sumF u q y D HY.out HDl.out hzu
          have hf2 := hf1.setQ m1 hm40 HZl.out
          have hz2 : ((u.setCells q 0 (D.map u8V)).setCells b (1 + m1 * 32) (zs.map u8V)).heap[q]? = some (.cells (D.map u8V).toArray 31 (0, 0)) :=
            ((only_setCells (b := b) (zs.map u8V) (1 + m1 * 32) _ (Only.refl _ _)).block q (Array.getElem?_eq_some_iff.1 hz1).1 (Ne.symm HbQ.out)).trans hz1
          have ho2 : Only b w ((u.setCells q 0 (D.map u8V)).setCells b (1 + m1 * 32) (zs.map u8V)) :=
            (only_new (only_below HO.out bu) (only_setCells (b := q) (D.map u8V) 0 _ (Only.refl _ _)) (by rw [Hq.out]; exact Nat.le_refl _)).trans (only_setCells (b := b) (zs.map u8V) (1 + m1 * 32) _ (Only.refl _ _))
          rw [← hwu] at hf2 hz2 ho2
          have HF2 := Lib.hid hf2
          have HZ2 := Lib.hid hz2
          have HO2 := Lib.hid ho2
          clear hPh hwu hfu hzu hf1 hz1 hf2 hz2 ho2 bu
          go_wp2
          rw [hq3]
          exact ⟨⟨r2, m1, D, Q.set m1 zs, rfl, rfl, Hm1.out, Hr2.out.1, HDl.out, HF2.out, HZ2.out, HNX.out, HO2.out⟩, by simpa [restOf] using Hr2.out.2⟩
      · have hrem : (r : Int).tmod 2 = 0 := by rw [Int.tmod_eq_emod_of_nonneg (by omega)]; omega
        have hm40 : m < 40 := by
          have := Tree.ones_le 39 (r / 2) (by rw [show (2 : Nat) ^ 39 = 549755813888 by decide]; omega)
          rw [hm, Tree.ones_step]
          omega
        have hlast : (Q.set m y).take (m + 1) = R := by
          rw [← ha, Tree.addP_even h2, List.take_succ_eq_append_getElem (by rw [List.length_set, hf.1]; exact hm40), List.take_set_of_le (Nat.le_refl _), List.getElem_set_self]
        have hm1 : m + 1 = Tree.ones (n + 1) := by
          rw [← HRl.out, ← hlast, List.length_take, List.length_set, hf.1]
          omega
        rw [hm1] at hlast
        have HL := Lib.hid hlast
        have haddw := IntWalk.i64_in ((n : Int) + 1) (by omega)
        clear hf hz hy ho ha hm hr hm1 hlast h2
        go_upto_region 8 with (fail)

        try simp only [Act.put]
        refine wp_region_ph (Lx := GLx 1) [RXP.is (.pointer (some ⟨b, 0, none⟩)), RXP.is (.int .i64 (m : Int)), RXP.is (sumV y), RXP.is (.pointer (some ⟨b, 0, none⟩)), RXP.is (.pointer (some ⟨b, 1, none⟩)), RXP.is (.pointer (some ⟨b, 1 + m * 32, none⟩)), RXP.any] [6] (fun k w' => (k < 1 → Below W.heap.size W w') ∧ (k = 1 → ∃ u, Below W.heap.size W u ∧ w' = u.setCells b (1 + m * 32) (y.map u8V))) (by kernel_rfl) (by kernel_rfl) (by kernel_rfl) (by kernel_rfl) (by kernel_rfl) (⟨fun _ => below_drew (Below.refl _ _), fun h => by cases h⟩) ⟨?_, ?_, ?_, ?_, ?_, ?_, ?_, trivial⟩ ?_
        · intro ac w' ph hF hPh hlt hP hU K hK0
          have e0 : ac.eval (.tmp 0) = .pointer (some ⟨b, 0, none⟩) := hF.at 0 (by kernel_rfl)
          exact rop_move _ rfl e0 (wanted_none rfl) (hK0 _ _ GLx.same hPh rfl)
        · intro ac w' ph hF hPh hlt hP hU K hK0
          have e5 : ac.eval (.tmp 5) = .int .i64 (m : Int) := hF.at 5 (by kernel_rfl)
          exact rop_move _ rfl e5 (wanted_none rfl) (hK0 _ _ GLx.same hPh rfl)
        · intro ac w' ph hF hPh hlt hP hU K hK0
          have hph : ph ≤ 0 := (hlt 0 6 rfl).2 (by kernel_rfl)
          have e3 : ac.eval (.tmp 3) = .pointer (some ⟨q, 0, none⟩) := hF.at 3 (by kernel_rfl)
          exact rop_ld _ _ rfl e3 (run_loadAt_mid _ _ _ _ _ _ (below_range (hPh.1 (by omega)) HqW.out (range_of HZ.out)) Tryd.underlying31 rfl (sum_info' HY.out)) (wanted_none rfl) (hK0 _ _ GLx.same hPh rfl)
        · intro ac w' ph hF hPh hlt hP hU K hK0
          have e31 : ac.eval (.tmp 31) = .pointer (some ⟨b, 0, none⟩) := hP 0 (by kernel_rfl)
          exact rop_nilG _ rfl e31 (wanted_none rfl) (hK0 _ _ GLx.same hPh rfl)
        · intro ac w' ph hF hPh hlt hP hU K hK0
          have e34 : ac.eval (.tmp 34) = .pointer (some ⟨b, 0, none⟩) := hP 3 (by kernel_rfl)
          exact rop_fld _ _ _ rfl e34 (fld_peaks b w') (wanted_none rfl) (hK0 _ _ GLx.same hPh rfl)
        · intro ac w' ph hF hPh hlt hP hU K hK0
          have e35 : ac.eval (.tmp 35) = .pointer (some ⟨b, 1, none⟩) := hP 4 (by kernel_rfl)
          have e32 : ac.eval (.tmp 32) = .int .i64 (m : Int) := hP 1 (by kernel_rfl)
          exact rop_idx _ _ _ rfl e35 e32 (idx40 b m hm40 w') (wanted_none rfl) (hK0 _ _ GLx.same hPh rfl)
        · intro ac w' ph hF hPh hlt hP hU K hK0
          obtain rfl : ph = 0 := (hlt 0 6 rfl).1 rfl
          have e36 : ac.eval (.tmp 36) = .pointer (some ⟨b, 1 + m * 32, none⟩) := hP 5 (by kernel_rfl)
          have e33 : ac.eval (.tmp 33) = sumV y := hP 2 (by kernel_rfl)
          have hB : Below W.heap.size W w' := hPh.1 (by decide)
          have hf := HF.out.old' hB
          exact rop_storeG _ _ _ rfl e36 e33 (run_storeAt_mid w' b (1 + m * 32) _ _ (hf.there m hm40 HY.out) (sum_info HY.out) (sum_one y)) (wanted_none rfl) (hK0 _ _ (GLx.last rfl) ⟨fun h => absurd h (by decide), fun _ => ⟨w', hB, rfl⟩⟩ trivial)
        · intro ac w' hF hPh hT
          rw [hF.setsG [31, 32, 33, 34, 35, 36] (by kernel_rfl)]
          simp only [List.foldl_cons, List.foldl_nil, List.setIfInBounds_toArray, List.set_cons_succ, List.set_cons_zero]
          generalize ac.eval (.tmp 31) = u31
          generalize ac.eval (.tmp 32) = u32
          generalize ac.eval (.tmp 33) = u33
          generalize ac.eval (.tmp 34) = u34
          generalize ac.eval (.tmp 35) = u35
          generalize ac.eval (.tmp 36) = u36
          clear  hT hF ac
          obtain ⟨u, bu, hwu⟩ := hPh.2 rfl
          have hf2 := (HF.out.old' bu).setQ m hm40 HY.out
          have ho2 : Only b w (u.setCells b (1 + m * 32) (y.map u8V)) := (only_below HO.out bu).trans (only_setCells (b := b) (y.map u8V) (1 + m * 32) _ (Only.refl _ _))
          rw [← hwu] at hf2 ho2
          have c2 := hf2.at0
          have f2 := hf2.fz 0
          have hf3 := hf2.set0 (n + 1)
          have hcast : ((n + 1 : Nat) : Int) = (n : Int) + 1 := by omega
          rw [hcast] at hf3
          have c3 := hf3.at0
          rw [hcast] at c3
          clear hcast
          have HF3 := Lib.hid hf3
          have HO3 := Lib.hid (ho2.setCell 0 (.int .i64 ((n : Int) + 1)))
          clear hPh hwu hf2 ho2 hf3 bu
          go_wp2
          try rw [Exit.noGoto_ret]
          go_ret
          exact ⟨ret_int (by omega), ⟨_, HF3.out, HL.out⟩, HO3.out⟩
end Go.Proofs.YtgiakpnkidblpaaDoor
