/-
  Package seal: freezes, heads and stones are built, and compared with ==.
-/
import Derived.Test.YtlcljjapeigaeaaDoorSelMem
import Derived.Test.YtlcljjapeigaeaaDoorMGen
namespace Go.Proofs.YtlcljjapeigaeaaDoor
open Go.RowKit

instance instDecFz (a b : FzR) : Decidable (a = b) := decidable_of_iff (a.win = b.win ∧ a.cnt = b.cnt ∧ a.root = b.root) ⟨fun ⟨h1, h2, h3⟩ => by cases a; cases b; simp only at h1 h2 h3; rw [h1, h2, h3], fun h => by rw [h]; exact ⟨rfl, rfl, rfl⟩⟩
instance instDecHd (a b : HdR) : Decidable (a = b) := decidable_of_iff (a.size = b.size ∧ a.root = b.root ∧ a.clock = b.clock ∧ a.mac = b.mac) ⟨fun ⟨h1, h2, h3, h4⟩ => by cases a; cases b; simp only at h1 h2 h3 h4; rw [h1, h2, h3, h4], fun h => by rw [h]; exact ⟨rfl, rfl, rfl, rfl⟩⟩
instance instDecSt (a b : StR) : Decidable (a = b) := decidable_of_iff (a.fz = b.fz ∧ a.tim = b.tim ∧ a.mac = b.mac) ⟨fun ⟨h1, h2, h3⟩ => by cases a; cases b; simp only at h1 h2 h3; rw [h1, h2, h3], fun h => by rw [h]; exact ⟨rfl, rfl, rfl⟩⟩

theorem keyLits_intsG {P : Program} {t e : TypeId} {n : Nat} {k : IntKind} (m : Nat) (ht : P.underlying t = some (.array n e)) (he : P.underlying e = some (.int k)) (hce : P.cellsOf e = 1) (hct : P.cellsOf t = n) (l : List Int) (hl : l.length = n) (hw : ∀ z ∈ l, (Lit.int k z).wf = true) :
    P.keyLits (m + 2) t (l.map (Value.int k)) = some (l.map (Lit.int k)) := by
  subst hl
  unfold Program.keyLits
  simp only [ht, hct, hce, List.length_map, if_true, Nat.mul_one]
  rw [mapM_of (g := fun i => [Lit.int k (l.getD i 0)])]
  · have e1 : ((List.range l.length).map fun i => [Lit.int k (l.getD i 0)]).flatten = ((List.range l.length).map fun i => l.getD i 0).map (Lit.int k) := by
      rw [List.map_map]
      induction (List.range l.length) with
      | nil => rfl
      | cons x r ih => simp only [List.map_cons, List.flatten_cons, ih]; rfl
    simp only [Option.map_some, e1, range_getD]
  · intro i hi
    have hi' : i < l.length := List.mem_range.1 hi
    have ed : ((l.map (Value.int k)).drop i).take 1 = [Value.int k (l.getD i 0)] := by
      rw [List.drop_eq_getElem_cons (by simpa using hi')]
      simp [hi']
    rw [ed]
    unfold Program.keyLits
    have hz : (Lit.int k (l.getD i 0)).wf = true := hw _ (by rw [List.getD_eq_getElem?_getD, List.getElem?_eq_getElem hi']; exact List.getElem_mem hi')
    simp only [he]
    rw [if_pos ⟨trivial, hz⟩]
theorem kl_int (m : Nat) (z : Int) (h : i64R z) : Tryd.prog.keyLits (m + 1) 3 [.int .i64 z] = some [Lit.int .i64 z] := by
  have hz : (Lit.int .i64 z).wf = true := by
    unfold i64R at h
    simp [Lit.wf, IntKind.min, IntKind.max, IntKind.signed, IntKind.bits]
    omega
  unfold Program.keyLits
  simp only [Tryd.underlying3]
  rw [if_pos ⟨trivial, hz⟩]
def sumLit (D : List UInt8) : List Lit := (toInts D).map (Lit.int .u8)
theorem kl_sum (m : Nat) (D : List UInt8) (h : D.length = 32) : Tryd.prog.keyLits (m + 2) 23 (D.map u8V) = some (sumLit D) := by
  have e : D.map u8V = (toInts D).map (Value.int .u8) := by unfold toInts; rw [List.map_map]; rfl
  rw [e]
  exact keyLits_intsG m Tryd.underlying23 Tryd.underlying5 (by kernel_rfl) (by kernel_rfl) _ (by simpa [toInts] using h) (wf_u8 D)
def fzLit (f : FzR) : List Lit := [Lit.int .i64 f.win] ++ ([Lit.int .i64 f.cnt] ++ (sumLit f.root ++ []))
def hdLit (f : HdR) : List Lit := [Lit.int .i64 f.size] ++ (sumLit f.root ++ ([Lit.int .i64 f.clock] ++ (sumLit f.mac ++ [])))
def stLit (f : StR) : List Lit := fzLit f.fz ++ ([Lit.int .i64 f.tim] ++ (sumLit f.mac ++ []))
theorem cells_sumR : Tryd.prog.cellsOf 23 = 32 := by kernel_rfl
theorem cells_intR : Tryd.prog.cellsOf 3 = 1 := by kernel_rfl
theorem cells_fzR : Tryd.prog.cellsOf 25 = 34 := by kernel_rfl
theorem cells_hdR : Tryd.prog.cellsOf 27 = 66 := by kernel_rfl
theorem cells_stR : Tryd.prog.cellsOf 29 = 67 := by kernel_rfl
theorem slice_mid {a m z cs : List Value} (o n : Nat) (hc : cs = a ++ (m ++ z)) (ha : a.length = o) (hm : m.length = n) : (cs.drop o).take n = m := by
  subst hc ha hm
  rw [List.drop_left, List.take_left]
set_option maxRecDepth 100000 in
theorem kl_fz (m : Nat) (f : FzR) (h : FzOk f) : Tryd.prog.keyLits (m + 3) 25 (fzCs f) = some (fzLit f) := by
  have hr := h.root
  unfold Program.keyLits
  simp only [Tryd.underlying25]
  rw [if_pos ⟨by rw [fzCs_length hr, cells_fzR], by kernel_rfl⟩]
  simp only [List.mapM_cons, List.mapM_nil, cells_intR, cells_sumR]
  rw [slice_mid (cs := fzCs f) (a := []) (m := [.int .i64 f.win]) (z := .int .i64 f.cnt :: f.root.map u8V) 0 1 rfl rfl rfl, slice_mid (cs := fzCs f) (a := [.int .i64 f.win]) (m := [.int .i64 f.cnt]) (z := f.root.map u8V) 1 1 rfl rfl rfl,
    slice_mid (cs := fzCs f) (a := [.int .i64 f.win, .int .i64 f.cnt]) (m := f.root.map u8V) (z := []) 2 32 (by rw [List.append_nil]; rfl) rfl (by rw [List.length_map, hr]), kl_int _ _ h.win, kl_int _ _ h.cnt, kl_sum _ _ hr]
  rfl
set_option maxRecDepth 100000 in
theorem kl_hd (m : Nat) (f : HdR) (h : HdOk f) : Tryd.prog.keyLits (m + 3) 27 (hdCs f) = some (hdLit f) := by
  have hr := h.root
  have hm := h.mac
  unfold Program.keyLits
  simp only [Tryd.underlying27]
  rw [if_pos ⟨by rw [hdCs_length hr hm, cells_hdR], by kernel_rfl⟩]
  simp only [List.mapM_cons, List.mapM_nil, cells_intR, cells_sumR]
  rw [slice_mid (cs := hdCs f) (a := []) (m := [.int .i64 f.size]) (z := f.root.map u8V ++ (([.int .i64 f.clock] : List Value) ++ f.mac.map u8V)) 0 1 rfl rfl rfl,
    slice_mid (cs := hdCs f) (a := [.int .i64 f.size]) (m := f.root.map u8V) (z := ([.int .i64 f.clock] : List Value) ++ f.mac.map u8V) 1 32 rfl rfl (by rw [List.length_map, hr]),
    slice_mid (cs := hdCs f) (a := [.int .i64 f.size] ++ f.root.map u8V) (m := [.int .i64 f.clock]) (z := f.mac.map u8V) 33 1 (by rw [List.append_assoc]; rfl) (by simp [hr]) rfl,
    slice_mid (cs := hdCs f) (a := [.int .i64 f.size] ++ (f.root.map u8V ++ [.int .i64 f.clock])) (m := f.mac.map u8V) (z := []) 34 32 (by rw [List.append_nil, List.append_assoc, List.append_assoc]; rfl) (by simp [hr]) (by rw [List.length_map, hm]), kl_int _ _ h.size, kl_sum _ _ hr, kl_int _ _ h.clock, kl_sum _ _ hm]
  rfl
set_option maxRecDepth 100000 in
theorem kl_st (m : Nat) (f : StR) (h : StOk f) : Tryd.prog.keyLits (m + 4) 29 (stCs f) = some (stLit f) := by
  have hr := h.fz.root
  have hm := h.mac
  unfold Program.keyLits
  simp only [Tryd.underlying29]
  rw [if_pos ⟨by rw [stCs_length hr hm, cells_stR], by kernel_rfl⟩]
  simp only [List.mapM_cons, List.mapM_nil, cells_intR, cells_sumR, cells_fzR]
  rw [slice_mid (cs := stCs f) (a := []) (m := fzCs f.fz) (z := ([.int .i64 f.tim] : List Value) ++ f.mac.map u8V) 0 34 rfl rfl (fzCs_length hr),
    slice_mid (cs := stCs f) (a := fzCs f.fz) (m := [.int .i64 f.tim]) (z := f.mac.map u8V) 34 1 rfl (fzCs_length hr) rfl,
    slice_mid (cs := stCs f) (a := fzCs f.fz ++ [.int .i64 f.tim]) (m := f.mac.map u8V) (z := []) 35 32 (by rw [List.append_nil, List.append_assoc]; rfl) (by simp [fzCs_length hr]) (by rw [List.length_map, hm]), kl_fz _ _ h.fz, kl_int _ _ h.tim, kl_sum _ _ hm]
  rfl
theorem sumLit_inj {a b : List UInt8} (h : sumLit a = sumLit b) : a = b := toInts_inj (map_int_inj h)
theorem sumLit_length (a : List UInt8) : (sumLit a).length = a.length := by simp [sumLit, toInts]
theorem fzLit_length {f : FzR} (h : f.root.length = 32) : (fzLit f).length = 34 := by simp [fzLit, sumLit_length, h]
theorem fzLit_inj {a b : FzR} (h : fzLit a = fzLit b) : a = b := by
  obtain ⟨a1, a2, a3⟩ := a
  obtain ⟨b1, b2, b3⟩ := b
  simp only [fzLit, List.cons_append, List.nil_append, List.append_nil, List.cons.injEq, Lit.int.injEq, true_and] at h
  obtain ⟨h1, h2, h3⟩ := h
  rw [h1, h2, sumLit_inj h3]
theorem hdLit_inj {a b : HdR} (ha : a.root.length = 32) (hb : b.root.length = 32) (h : hdLit a = hdLit b) : a = b := by
  obtain ⟨a1, a2, a3, a4⟩ := a
  obtain ⟨b1, b2, b3, b4⟩ := b
  simp only at ha hb
  simp only [hdLit, List.cons_append, List.nil_append, List.append_nil, List.cons.injEq, Lit.int.injEq, true_and] at h
  obtain ⟨h1, h2⟩ := h
  obtain ⟨h3, h4⟩ := List.append_inj h2 (by rw [sumLit_length, sumLit_length, ha, hb])
  simp only [List.cons.injEq, Lit.int.injEq, true_and] at h4
  rw [h1, sumLit_inj h3, h4.1, sumLit_inj h4.2]
theorem stLit_inj {a b : StR} (ha : a.fz.root.length = 32) (hb : b.fz.root.length = 32) (h : stLit a = stLit b) : a = b := by
  obtain ⟨a1, a2, a3⟩ := a
  obtain ⟨b1, b2, b3⟩ := b
  simp only at ha hb
  obtain ⟨h3, h4⟩ := List.append_inj h (by rw [fzLit_length ha, fzLit_length hb])
  simp only [List.cons_append, List.nil_append, List.append_nil, List.cons.injEq, Lit.int.injEq, true_and] at h4
  have e := fzLit_inj h3
  simp only at e
  rw [e, h4.1, sumLit_inj h4.2]
theorem eql_deepG (m : Nat) (hm : m ≤ 10000) {t : TypeId} (hk : Tryd.prog.keyTypeAt m t = true) {x y : Array Value} {D D' : Nat} {lx ly : List Lit} (fx : (Value.agg x).formed Tryd.prog t = true) (fy : (Value.agg y).formed Tryd.prog t = true) (hx : Tryd.prog.keyLits D t x.toList = some lx) (hy : Tryd.prog.keyLits D' t y.toList = some ly) {p : Prop} [Decidable p] (hp : lx = ly ↔ p) (w : World) :
    (binOp .eql t (.agg x) (.agg y)).run Tryd.prog w = .ok (.bool (decide p)) w ∧ (binOp .neq t (.agg x) (.agg y)).run Tryd.prog w = .ok (.bool (!decide p)) w := by
  obtain ⟨r, hr, hiff⟩ := run_equalIn_deep (P := Tryd.prog) (10000 - m) m t hk w D D' _ _ lx ly fx fy hx hy
  rw [show 10000 - m + m = 10000 by omega] at hr
  have e : r = decide p := by
    by_cases h : p
    · rw [decide_eq_true h]; exact hiff.2 (hp.2 h)
    · rw [decide_eq_false h]
      cases r with
      | false => rfl
      | true => exact absurd (hp.1 (hiff.1 rfl)) h
  constructor
  · rw [run_eql_struct, hr, ← e]; rfl
  · rw [run_neq_struct, hr, ← e]; rfl
theorem formed_fz (f : FzR) (h : f.root.length = 32) : (fzV f).formed Tryd.prog 25 = true := by
  unfold fzV
  simp [Value.formed, Tryd.underlying25, cells_fzR, fzCs_length h]
theorem formed_hd (f : HdR) (h : f.root.length = 32) (h2 : f.mac.length = 32) : (hdV f).formed Tryd.prog 27 = true := by
  unfold hdV
  simp [Value.formed, Tryd.underlying27, cells_hdR, hdCs_length h h2]
theorem formed_st (f : StR) (h : f.fz.root.length = 32) (h2 : f.mac.length = 32) : (stV f).formed Tryd.prog 29 = true := by
  unfold stV
  simp [Value.formed, Tryd.underlying29, cells_stR, stCs_length h h2]
theorem eql_fz (a b : FzR) (ha : FzOk a) (hb : FzOk b) (w : World) : (binOp .eql 25 (fzV a) (fzV b)).run Tryd.prog w = .ok (.bool (decide (a = b))) w :=
  (eql_deepG 3 (by decide) (by kernel_rfl) (formed_fz a ha.root) (formed_fz b hb.root) (kl_fz 0 a ha) (kl_fz 0 b hb) ⟨fzLit_inj, fun h => by rw [h]⟩ w).1
theorem eql_hd (a b : HdR) (ha : HdOk a) (hb : HdOk b) (w : World) : (binOp .eql 27 (hdV a) (hdV b)).run Tryd.prog w = .ok (.bool (decide (a = b))) w :=
  (eql_deepG 3 (by decide) (by kernel_rfl) (formed_hd a ha.root ha.mac) (formed_hd b hb.root hb.mac) (kl_hd 0 a ha) (kl_hd 0 b hb) ⟨hdLit_inj ha.root hb.root, fun h => by rw [h]⟩ w).1
theorem eql_st (a b : StR) (ha : StOk a) (hb : StOk b) (w : World) : (binOp .eql 29 (stV a) (stV b)).run Tryd.prog w = .ok (.bool (decide (a = b))) w :=
  (eql_deepG 4 (by decide) (by kernel_rfl) (formed_st a ha.fz.root ha.mac) (formed_st b hb.fz.root hb.mac) (kl_st 0 a ha) (kl_st 0 b hb) ⟨stLit_inj ha.fz.root hb.fz.root, fun h => by rw [h]⟩ w).1
theorem guard_fz (op : BinOp) (x y : Operand) (a b : FzR) (w : World) : (eqGuard op 25 x y (fzV a) (fzV b)).run Tryd.prog w = .ok () w := run_eqGuard_agg w op 25 x y _ _ (by kernel_rfl)
theorem guard_hd (op : BinOp) (x y : Operand) (a b : HdR) (w : World) : (eqGuard op 27 x y (hdV a) (hdV b)).run Tryd.prog w = .ok () w := run_eqGuard_agg w op 27 x y _ _ (by kernel_rfl)
theorem guard_st (op : BinOp) (x y : Operand) (a b : StR) (w : World) : (eqGuard op 29 x y (stV a) (stV b)).run Tryd.prog w = .ok () w := run_eqGuard_agg w op 29 x y _ _ (by kernel_rfl)
/-! ### Building -/
theorem build_fz0 (w : World) : (Instr.build 25 #[]).run Tryd.prog w = .ok (fzV fz0) w := run_build w _ _ _ (by kernel_rfl)
theorem build_hd0 (w : World) : (Instr.build 27 #[]).run Tryd.prog w = .ok (hdV hd0) w := run_build w _ _ _ (by kernel_rfl)
theorem build_st0 (w : World) : (Instr.build 29 #[]).run Tryd.prog w = .ok (stV st0) w := run_build w _ _ _ (by kernel_rfl)
theorem build_fz1 (a : Int) (w : World) : (Instr.build 25 #[(0, .int .i64 a)]).run Tryd.prog w = .ok (fzV ⟨a, 0, z32⟩) w := run_build w _ _ _ (by kernel_rfl)
theorem build_fz2 (a b : Int) (w : World) : (Instr.build 25 #[(0, .int .i64 a), (1, .int .i64 b)]).run Tryd.prog w = .ok (fzV ⟨a, b, z32⟩) w := run_build w _ _ _ (by kernel_rfl)
theorem build_hd1 (a : Int) (w : World) : (Instr.build 27 #[(0, .int .i64 a)]).run Tryd.prog w = .ok (hdV ⟨a, z32, 0, z32⟩) w := run_build w _ _ _ (by kernel_rfl)
theorem built_hd3 (a c : Int) (D : List UInt8) (hD : D.length = 32) : Tryd.prog.built 27 [(0, .int .i64 a), (1, sumV D), (2, .int .i64 c)] = some (hdCs ⟨a, D, c, z32⟩).toArray := by
  have h0 : Tryd.prog.built 27 [(0, .int .i64 a), (1, sumV D), (2, .int .i64 c)] = Instr.fill (fun i => (#[(0, 1), (1, 32), (33, 1), (34, 32)] : Array (Nat × Nat))[i]?) (hdCs hd0).toArray [(0, .int .i64 a), (1, sumV D), (2, .int .i64 c)] := by kernel_rfl
  refine h0.trans ?_
  rw [part_one 0 0 (.int .i64 a) _ _ _ rfl rfl (by decide)]
  unfold sumV
  rw [fill_one _ _ 1 1 (D.map u8V) _ (by rw [List.length_map, hD]; rfl) (by rw [List.length_map, hD, List.length_set]; decide)]
  rw [part_one 2 33 (.int .i64 c) _ _ _ rfl rfl (by simp [hD, hdCs, hd0, z32])]
  rw [Instr.fill]
  rw [List.length_map, hD]
  have e1 : (((hdCs hd0).set 0 (Value.int .i64 a)).take 1) = [Value.int .i64 a] := rfl
  have e2 : (((hdCs hd0).set 0 (Value.int .i64 a)).drop (1 + 32)) = Value.int .i64 0 :: z32.map u8V := rfl
  rw [e1, e2, ← List.append_assoc, List.set_append_right _ _ (by simp [hD]), show 33 - ([Value.int .i64 a] ++ D.map u8V).length = 0 by simp [hD], List.set_cons_zero, List.append_assoc]
  rfl
theorem build_hd3 (a c : Int) (D : List UInt8) (hD : D.length = 32) (w : World) : (Instr.build 27 #[(0, .int .i64 a), (1, sumV D), (2, .int .i64 c)]).run Tryd.prog w = .ok (hdV ⟨a, D, c, z32⟩) w := run_build w _ _ _ (built_hd3 a c D hD)
theorem built_st2 (f : FzR) (c : Int) (hD : f.root.length = 32) : Tryd.prog.built 29 [(0, fzV f), (1, .int .i64 c)] = some (stCs ⟨f, c, z32⟩).toArray := by
  have h0 : Tryd.prog.built 29 [(0, fzV f), (1, .int .i64 c)] = Instr.fill (fun i => (#[(0, 34), (34, 1), (35, 32)] : Array (Nat × Nat))[i]?) (stCs st0).toArray [(0, fzV f), (1, .int .i64 c)] := by kernel_rfl
  refine h0.trans ?_
  unfold fzV
  rw [fill_one _ _ 0 0 (fzCs f) _ (by rw [fzCs_length hD]; rfl) (by rw [fzCs_length hD]; decide)]
  rw [part_one 1 34 (.int .i64 c) _ _ _ rfl rfl (by simp [stCs, st0, z32, fzCs, fz0, hD])]
  rw [Instr.fill]
  rw [fzCs_length hD]
  have e2 : (stCs st0).drop (0 + 34) = Value.int .i64 0 :: z32.map u8V := rfl
  rw [e2, List.take_zero, List.nil_append, List.set_append_right _ _ (by rw [fzCs_length hD]; exact Nat.le_refl _), show 34 - (fzCs f).length = 0 by rw [fzCs_length hD], List.set_cons_zero]
  rfl
theorem build_st2 (f : FzR) (c : Int) (hD : f.root.length = 32) (w : World) : (Instr.build 29 #[(0, fzV f), (1, .int .i64 c)]).run Tryd.prog w = .ok (stV ⟨f, c, z32⟩) w := run_build w _ _ _ (built_st2 f c hD)
end Go.Proofs.YtlcljjapeigaeaaDoor
