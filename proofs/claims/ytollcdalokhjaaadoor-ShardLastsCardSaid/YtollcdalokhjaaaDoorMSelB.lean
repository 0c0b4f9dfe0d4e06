/-
  Several texts in one (SelEq, SelShelf, SelFn, SelSign, SelRead, SelMac, SelMake).
-/
import Derived.Test.YtollcdalokhjaaaDoorMSelA
import Derived.Test.YtollcdalokhjaaaDoorMGen
import Derived.Shelf.Strings.Builder1
import Derived.Shelf.Strings.Builder2
import Derived.Shelf.Strings.OnBuilder
import Derived.Test.YtollcdalokhjaaaDoorProg
import Derived.Test.YtollcdalokhjaaaDoorMRec
import Derived.Test.YtollcdalokhjaaaDoorMShaA
import Derived.Test.YtollcdalokhjaaaDoorMMacB
import Derived.Test.YtollcdalokhjaaaDoorMLeafB
import Derived.Test.YtollcdalokhjaaaDoorMOct
/-! ## Package seal: freezes, heads and stones are built, and compared with ==. -/
namespace Go.Proofs.YtollcdalokhjaaaDoor
open Go.RowKit

instance instDecFz (a b : FzR) : Decidable (a = b) := decidable_of_iff (a.win = b.win ∧ a.cnt = b.cnt ∧ a.root = b.root) ⟨fun ⟨h1, h2, h3⟩ => by cases a; cases b; simp only at h1 h2 h3; rw [h1, h2, h3], fun h => by rw [h]; exact ⟨rfl, rfl, rfl⟩⟩
instance instDecHd (a b : HdR) : Decidable (a = b) := decidable_of_iff (a.size = b.size ∧ a.root = b.root ∧ a.clock = b.clock ∧ a.mac = b.mac) ⟨fun ⟨h1, h2, h3, h4⟩ => by cases a; cases b; simp only at h1 h2 h3 h4; rw [h1, h2, h3, h4], fun h => by rw [h]; exact ⟨rfl, rfl, rfl, rfl⟩⟩
instance instDecSt (a b : StR) : Decidable (a = b) := decidable_of_iff (a.fz = b.fz ∧ a.tim = b.tim ∧ a.mac = b.mac) ⟨fun ⟨h1, h2, h3⟩ => by cases a; cases b; simp only at h1 h2 h3; rw [h1, h2, h3], fun h => by rw [h]; exact ⟨rfl, rfl, rfl⟩⟩

theorem keyLits_intsG {P : Program} {t e : TypeId} {n : Nat} {k : IntKind} (m : Nat) (ht : P.underlying t = some (.array n e)) (he : P.underlying e = some (.int k)) (hce : P.cellsOf e = 1) (hct : P.cellsOf t = n) (l : List Int) (hl : l.length = n) (hw : ∀ z ∈ l, (Lit.int k z).wf = true) :
    P.keyLits (m + 2) t (l.map (Value.int k)) = some (l.map (Lit.int k)) := by
  subst hl
  unfold Program.keyLits
  simp only [ht, hct, hce, List.length_map, if_true, Nat.mul_one]
  rw [mapM_of (g := fun i => [Lit.int k (l.getD i 0)])]
  · have e1 : ((List.range l.length).map fun i => [Lit.int k (l.getD i 0)]).flatten = ((List.range l.length).map fun i => l.getD i 0).map (Lit.int k) := by
      rw [List.map_map]
      induction (List.range l.length) with
      | nil => rfl
      | cons x r ih => simp only [List.map_cons, List.flatten_cons, ih]; rfl
    simp only [Option.map_some, e1, range_getD]
  · intro i hi
    have hi' : i < l.length := List.mem_range.1 hi
    have ed : ((l.map (Value.int k)).drop i).take 1 = [Value.int k (l.getD i 0)] := by
      rw [List.drop_eq_getElem_cons (by simpa using hi')]
      simp [hi']
    rw [ed]
    unfold Program.keyLits
    have hz : (Lit.int k (l.getD i 0)).wf = true := hw _ (by rw [List.getD_eq_getElem?_getD, List.getElem?_eq_getElem hi']; exact List.getElem_mem hi')
    simp only [he]
    rw [if_pos ⟨trivial, hz⟩]
theorem kl_int (m : Nat) (z : Int) (h : i64R z) : Tryd.prog.keyLits (m + 1) 3 [.int .i64 z] = some [Lit.int .i64 z] := by
  have hz : (Lit.int .i64 z).wf = true := by
    unfold i64R at h
    simp [Lit.wf, IntKind.min, IntKind.max, IntKind.signed, IntKind.bits]
    omega
  unfold Program.keyLits
  simp only [Tryd.underlying3]
  rw [if_pos ⟨trivial, hz⟩]
def sumLit (D : List UInt8) : List Lit := (toInts D).map (Lit.int .u8)
theorem kl_sum (m : Nat) (D : List UInt8) (h : D.length = 32) : Tryd.prog.keyLits (m + 2) 33 (D.map u8V) = some (sumLit D) := by
  have e : D.map u8V = (toInts D).map (Value.int .u8) := by unfold toInts; rw [List.map_map]; rfl
  rw [e]
  exact keyLits_intsG m Tryd.underlying33 Tryd.underlying5 (by kernel_rfl) (by kernel_rfl) _ (by simpa [toInts] using h) (wf_u8 D)
def fzLit (f : FzR) : List Lit := [Lit.int .i64 f.win] ++ ([Lit.int .i64 f.cnt] ++ (sumLit f.root ++ []))
def hdLit (f : HdR) : List Lit := [Lit.int .i64 f.size] ++ (sumLit f.root ++ ([Lit.int .i64 f.clock] ++ (sumLit f.mac ++ [])))
def stLit (f : StR) : List Lit := fzLit f.fz ++ ([Lit.int .i64 f.tim] ++ (sumLit f.mac ++ []))
theorem cells_sumR : Tryd.prog.cellsOf 33 = 32 := by kernel_rfl
theorem cells_intR : Tryd.prog.cellsOf 3 = 1 := by kernel_rfl
theorem cells_fzR : Tryd.prog.cellsOf 44 = 34 := by kernel_rfl
theorem cells_stR : Tryd.prog.cellsOf 49 = 67 := by kernel_rfl
theorem slice_mid {a m z cs : List Value} (o n : Nat) (hc : cs = a ++ (m ++ z)) (ha : a.length = o) (hm : m.length = n) : (cs.drop o).take n = m := by
  subst hc ha hm
  rw [List.drop_left, List.take_left]
set_option maxRecDepth 100000 in
theorem kl_fz (m : Nat) (f : FzR) (h : FzOk f) : Tryd.prog.keyLits (m + 3) 44 (fzCs f) = some (fzLit f) := by
  have hr := h.root
  unfold Program.keyLits
  simp only [Tryd.underlying44]
  rw [if_pos ⟨by rw [fzCs_length hr, cells_fzR], by kernel_rfl⟩]
  simp only [List.mapM_cons, List.mapM_nil, cells_intR, cells_sumR]
  rw [slice_mid (cs := fzCs f) (a := []) (m := [.int .i64 f.win]) (z := .int .i64 f.cnt :: f.root.map u8V) 0 1 rfl rfl rfl, slice_mid (cs := fzCs f) (a := [.int .i64 f.win]) (m := [.int .i64 f.cnt]) (z := f.root.map u8V) 1 1 rfl rfl rfl,
    slice_mid (cs := fzCs f) (a := [.int .i64 f.win, .int .i64 f.cnt]) (m := f.root.map u8V) (z := []) 2 32 (by rw [List.append_nil]; rfl) rfl (by rw [List.length_map, hr]), kl_int _ _ h.win, kl_int _ _ h.cnt, kl_sum _ _ hr]
  rfl
set_option maxRecDepth 100000 in
theorem kl_st (m : Nat) (f : StR) (h : StOk f) : Tryd.prog.keyLits (m + 4) 49 (stCs f) = some (stLit f) := by
  have hr := h.fz.root
  have hm := h.mac
  unfold Program.keyLits
  simp only [Tryd.underlying49]
  rw [if_pos ⟨by rw [stCs_length hr hm, cells_stR], by kernel_rfl⟩]
  simp only [List.mapM_cons, List.mapM_nil, cells_intR, cells_sumR, cells_fzR]
  rw [slice_mid (cs := stCs f) (a := []) (m := fzCs f.fz) (z := ([.int .i64 f.tim] : List Value) ++ f.mac.map u8V) 0 34 rfl rfl (fzCs_length hr),
    slice_mid (cs := stCs f) (a := fzCs f.fz) (m := [.int .i64 f.tim]) (z := f.mac.map u8V) 34 1 rfl (fzCs_length hr) rfl,
    slice_mid (cs := stCs f) (a := fzCs f.fz ++ [.int .i64 f.tim]) (m := f.mac.map u8V) (z := []) 35 32 (by rw [List.append_nil, List.append_assoc]; rfl) (by simp [fzCs_length hr]) (by rw [List.length_map, hm]), kl_fz _ _ h.fz, kl_int _ _ h.tim, kl_sum _ _ hm]
  rfl
theorem sumLit_inj {a b : List UInt8} (h : sumLit a = sumLit b) : a = b := toInts_inj (map_int_inj h)
theorem sumLit_length (a : List UInt8) : (sumLit a).length = a.length := by simp [sumLit, toInts]
theorem fzLit_length {f : FzR} (h : f.root.length = 32) : (fzLit f).length = 34 := by simp [fzLit, sumLit_length, h]
theorem fzLit_inj {a b : FzR} (h : fzLit a = fzLit b) : a = b := by
  obtain ⟨a1, a2, a3⟩ := a
  obtain ⟨b1, b2, b3⟩ := b
  simp only [fzLit, List.cons_append, List.nil_append, List.append_nil, List.cons.injEq, Lit.int.injEq, true_and] at h
  obtain ⟨h1, h2, h3⟩ := h
  rw [h1, h2, sumLit_inj h3]
theorem hdLit_inj {a b : HdR} (ha : a.root.length = 32) (hb : b.root.length = 32) (h : hdLit a = hdLit b) : a = b := by
  obtain ⟨a1, a2, a3, a4⟩ := a
  obtain ⟨b1, b2, b3, b4⟩ := b
  simp only at ha hb
  simp only [hdLit, List.cons_append, List.nil_append, List.append_nil, List.cons.injEq, Lit.int.injEq, true_and] at h
  obtain ⟨h1, h2⟩ := h
  obtain ⟨h3, h4⟩ := List.append_inj h2 (by rw [sumLit_length, sumLit_length, ha, hb])
  simp only [List.cons.injEq, Lit.int.injEq, true_and] at h4
  rw [h1, sumLit_inj h3, h4.1, sumLit_inj h4.2]
theorem stLit_inj {a b : StR} (ha : a.fz.root.length = 32) (hb : b.fz.root.length = 32) (h : stLit a = stLit b) : a = b := by
  obtain ⟨a1, a2, a3⟩ := a
  obtain ⟨b1, b2, b3⟩ := b
  simp only at ha hb
  obtain ⟨h3, h4⟩ := List.append_inj h (by rw [fzLit_length ha, fzLit_length hb])
  simp only [List.cons_append, List.nil_append, List.append_nil, List.cons.injEq, Lit.int.injEq, true_and] at h4
  have e := fzLit_inj h3
  simp only at e
  rw [e, h4.1, sumLit_inj h4.2]
theorem eql_deepG (m : Nat) (hm : m ≤ 10000) {t : TypeId} (hk : Tryd.prog.keyTypeAt m t = true) {x y : Array Value} {D D' : Nat} {lx ly : List Lit} (fx : (Value.agg x).formed Tryd.prog t = true) (fy : (Value.agg y).formed Tryd.prog t = true) (hx : Tryd.prog.keyLits D t x.toList = some lx) (hy : Tryd.prog.keyLits D' t y.toList = some ly) {p : Prop} [Decidable p] (hp : lx = ly ↔ p) (w : World) :
    (binOp .eql t (.agg x) (.agg y)).run Tryd.prog w = .ok (.bool (decide p)) w ∧ (binOp .neq t (.agg x) (.agg y)).run Tryd.prog w = .ok (.bool (!decide p)) w := by
  obtain ⟨r, hr, hiff⟩ := run_equalIn_deep (P := Tryd.prog) (10000 - m) m t hk w D D' _ _ lx ly fx fy hx hy
  rw [show 10000 - m + m = 10000 by omega] at hr
  have e : r = decide p := by
    by_cases h : p
    · rw [decide_eq_true h]; exact hiff.2 (hp.2 h)
    · rw [decide_eq_false h]
      cases r with
      | false => rfl
      | true => exact absurd (hp.1 (hiff.1 rfl)) h
  constructor
  · rw [run_eql_struct, hr, ← e]; rfl
  · rw [run_neq_struct, hr, ← e]; rfl
theorem formed_fz (f : FzR) (h : f.root.length = 32) : (fzV f).formed Tryd.prog 44 = true := by
  unfold fzV
  simp [Value.formed, Tryd.underlying44, cells_fzR, fzCs_length h]
theorem formed_st (f : StR) (h : f.fz.root.length = 32) (h2 : f.mac.length = 32) : (stV f).formed Tryd.prog 49 = true := by
  unfold stV
  simp [Value.formed, Tryd.underlying49, cells_stR, stCs_length h h2]
theorem eql_fz (a b : FzR) (ha : FzOk a) (hb : FzOk b) (w : World) : (binOp .eql 44 (fzV a) (fzV b)).run Tryd.prog w = .ok (.bool (decide (a = b))) w :=
  (eql_deepG 3 (by decide) (by kernel_rfl) (formed_fz a ha.root) (formed_fz b hb.root) (kl_fz 0 a ha) (kl_fz 0 b hb) ⟨fzLit_inj, fun h => by rw [h]⟩ w).1
theorem eql_st (a b : StR) (ha : StOk a) (hb : StOk b) (w : World) : (binOp .eql 49 (stV a) (stV b)).run Tryd.prog w = .ok (.bool (decide (a = b))) w :=
  (eql_deepG 4 (by decide) (by kernel_rfl) (formed_st a ha.fz.root ha.mac) (formed_st b hb.fz.root hb.mac) (kl_st 0 a ha) (kl_st 0 b hb) ⟨stLit_inj ha.fz.root hb.fz.root, fun h => by rw [h]⟩ w).1
theorem guard_fz (op : BinOp) (x y : Operand) (a b : FzR) (w : World) : (eqGuard op 44 x y (fzV a) (fzV b)).run Tryd.prog w = .ok () w := run_eqGuard_agg w op 44 x y _ _ (by kernel_rfl)
theorem guard_st (op : BinOp) (x y : Operand) (a b : StR) (w : World) : (eqGuard op 49 x y (stV a) (stV b)).run Tryd.prog w = .ok () w := run_eqGuard_agg w op 49 x y _ _ (by kernel_rfl)
/-! ### Building -/
theorem build_fz0 (w : World) : (Instr.build 44 #[]).run Tryd.prog w = .ok (fzV fz0) w := run_build w _ _ _ (by kernel_rfl)
theorem build_st0 (w : World) : (Instr.build 49 #[]).run Tryd.prog w = .ok (stV st0) w := run_build w _ _ _ (by kernel_rfl)
theorem build_fz1 (a : Int) (w : World) : (Instr.build 44 #[(0, .int .i64 a)]).run Tryd.prog w = .ok (fzV ⟨a, 0, z32⟩) w := run_build w _ _ _ (by kernel_rfl)
theorem build_fz2 (a b : Int) (w : World) : (Instr.build 44 #[(0, .int .i64 a), (1, .int .i64 b)]).run Tryd.prog w = .ok (fzV ⟨a, b, z32⟩) w := run_build w _ _ _ (by kernel_rfl)
theorem built_st2 (f : FzR) (c : Int) (hD : f.root.length = 32) : Tryd.prog.built 49 [(0, fzV f), (1, .int .i64 c)] = some (stCs ⟨f, c, z32⟩).toArray := by
  have h0 : Tryd.prog.built 49 [(0, fzV f), (1, .int .i64 c)] = Instr.fill (fun i => (#[(0, 34), (34, 1), (35, 32)] : Array (Nat × Nat))[i]?) (stCs st0).toArray [(0, fzV f), (1, .int .i64 c)] := by kernel_rfl
  refine h0.trans ?_
  unfold fzV
  rw [fill_one _ _ 0 0 (fzCs f) _ (by rw [fzCs_length hD]; rfl) (by rw [fzCs_length hD]; decide)]
  rw [part_one 1 34 (.int .i64 c) _ _ _ rfl rfl (by simp [stCs, st0, z32, fzCs, fz0, hD])]
  rw [Instr.fill]
  rw [fzCs_length hD]
  have e2 : (stCs st0).drop (0 + 34) = Value.int .i64 0 :: z32.map u8V := rfl
  rw [e2, List.take_zero, List.nil_append, List.set_append_right _ _ (by rw [fzCs_length hD]; exact Nat.le_refl _), show 34 - (fzCs f).length = 0 by rw [fzCs_length hD], List.set_cons_zero]
  rfl
theorem build_st2 (f : FzR) (c : Int) (hD : f.root.length = 32) (w : World) : (Instr.build 49 #[(0, fzV f), (1, .int .i64 c)]).run Tryd.prog w = .ok (stV ⟨f, c, z32⟩) w := run_build w _ _ _ (built_st2 f c hD)
end Go.Proofs.YtollcdalokhjaaaDoor
/-! ## strings.Join, laid at this program: no walk; the kernel compares its body with the one that the contract was proved of. -/
namespace Go.Proofs.YtollcdalokhjaaaDoor
open Go.Shelf Go.RowKit
def lays156_ren : Go.Shelf.Ren := ⟨fun | 156 => 98 | 165 => 102 | 166 => 103 | 169 => 104 | 240 => 107 | 241 => 108 | 276 => 109 | 277 => 110 | n => n, fun | 31 => 124 | 9 => 9 | 3 => 3 | 4 => 4 | 0 => 0 | 20 => 20 | 72 => 143 | 76 => 147 | 70 => 141 | 37 => 110 | 75 => 146 | 127 => 151 | 164 => 152 | 5 => 5 | 80 => 149 | n => n, fun | n => n⟩
theorem lays156 : Go.Proofs.Lays.n156 Tryd.prog lays156_ren := {
  mixed := by kernel_rfl
  f156 := Tryd.func98.trans (congrArg some (by kernel_rfl))
  f165 := Tryd.func102.trans (congrArg some (by kernel_rfl))
  f166 := Tryd.func103.trans (congrArg some (by kernel_rfl))
  f169 := Tryd.func104.trans (congrArg some (by kernel_rfl))
  f240 := Tryd.func107.trans (congrArg some (by kernel_rfl))
  f241 := Tryd.func108.trans (congrArg some (by kernel_rfl))
  f276 := Tryd.func109.trans (congrArg some (by kernel_rfl))
  f277 := Tryd.func110.trans (congrArg some (by kernel_rfl))
  t0 := Tryd.underlying0
  a0 := Tryd.isAgg0
  z0 := Tryd.sizeOf0
  v0 := Tryd.zeroValue0
  t3 := Tryd.underlying3
  a3 := Tryd.isAgg3
  z3 := Tryd.sizeOf3
  v3 := Tryd.zeroValue3
  t4 := Tryd.underlying4
  a4 := Tryd.isAgg4
  z4 := Tryd.sizeOf4
  v4 := Tryd.zeroValue4
  t9 := Tryd.underlying9
  a9 := Tryd.isAgg9
  z9 := Tryd.sizeOf9
  v9 := Tryd.zeroValue9
  t20 := Tryd.underlying20
  a20 := Tryd.isAgg20
  z20 := Tryd.sizeOf20
  v20 := Tryd.zeroValue20
  t31 := Tryd.underlying124
  a31 := Tryd.isAgg124
  z31 := Tryd.sizeOf124
  v31 := Tryd.zeroValue124
  t37 := Tryd.underlying110
  a37 := Tryd.isAgg110
  z37 := Tryd.sizeOf110
  v37 := Tryd.zeroValue110
  t70 := Tryd.underlying141
  a70 := Tryd.isAgg141
  z70 := Tryd.sizeOf141
  v70 := Tryd.zeroValue141
  t72 := Tryd.underlying143
  a72 := Tryd.isAgg143
  z72 := Tryd.sizeOf143
  v72 := Tryd.zeroValue143
  t75 := Tryd.underlying146
  a75 := Tryd.isAgg146
  z75 := Tryd.sizeOf146
  v75 := Tryd.zeroValue146
  t76 := Tryd.underlying147
  a76 := Tryd.isAgg147
  z76 := Tryd.sizeOf147
  v76 := Tryd.zeroValue147
  t127 := Tryd.underlying151
  a127 := Tryd.isAgg151
  z127 := Tryd.sizeOf151
  v127 := Tryd.zeroValue151
  t164 := Tryd.underlying152
  a164 := Tryd.isAgg152
  z164 := Tryd.sizeOf152
  v164 := Tryd.zeroValue152 }
theorem Builder_Extra_156 : Builder.Extra Tryd.prog lays156_ren := {
  sizeBuilder := by kernel_rfl
  liesBuilder := by kernel_rfl
  t5 := Tryd.underlying5
  a5 := Tryd.isAgg5
  z5 := Tryd.sizeOf5
  v5 := Tryd.zeroValue5
  infoByte := by kernel_rfl
  cellsByte := by kernel_rfl
  sizeByte := by kernel_rfl
  neB5 := by decide }
open Go.RowKit in
theorem strings_Join_none (a : Option Addr) (c : Nat) (sep : ByteArray) (w : World) :
    Calls Tryd.prog 98 #[.slice a 0 c, .string sep] w fun e w' => e = .returned (.string ⟨#[]⟩) ∧ w' = w := Any.strings_Join_none lays156 Builder_Extra_156 a c sep w
open Go.RowKit in
theorem strings_Join (bk o c : Nat) (xs : List ByteArray) (sep : ByteArray) (w : World) (hcells : ∀ (j : Nat) x, xs[j]? = some x → w.cell? ⟨bk, o + j, none⟩ = some (.string x)) (hbk : bk < w.heap.size) (hN : xs.length ≤ 140737488355328) (hcap : xs.length ≤ c) (hlen : (Lib.join (xs.map (·.data.toList)) sep.data.toList).length ≤ 140737488355328) :
    Calls Tryd.prog 98 #[.slice (some ⟨bk, o, none⟩) xs.length c, .string sep] w fun e w' => e = .returned (.string ⟨(Lib.join (xs.map (·.data.toList)) sep.data.toList).toArray⟩) ∧ Below w.heap.size w w' := Any.strings_Join lays156 Builder_Extra_156 bk o c xs sep w hcells hbk hN hcap hlen
end Go.Proofs.YtollcdalokhjaaaDoor
/-! ## Package seal: what is said, as bytes; what is signed. -/
namespace Go.Proofs.YtollcdalokhjaaaDoor
open Go.RowKit

theorem below_boxS (w : World) (o : Obj) : Below w.heap.size w (w.alloc o) := (Below.refl _ _).alloc (Nat.le_refl _) _
theorem isTime_any (n : Int) (w : World) : Calls Tryd.prog 87 #[.int .i64 n] w fun e w' => e = .returned (.bool (timB n)) ∧ w = w' := by
  unfold timB mayB
  by_cases h : 0 ≤ n
  · rw [decide_eq_true h, Bool.true_and]
    go_enter Tryd.func87, Tryd.ntmps87
    go_wp2
    go_ret
    exact ⟨rfl, rfl⟩
  · rw [decide_eq_false h, Bool.false_and]
    go_enter Tryd.func87, Tryd.ntmps87
    go_wp2
    go_ret
    exact ⟨rfl, rfl⟩
theorem number_any (n : Int) (w : World) : Calls Tryd.prog 90 #[.int .i64 n] w fun e w' => e = .returned (.string (tB (Oct.putL (u64N n)))) ∧ Below w.heap.size w w' := by
  have hc := fun u => conv_u64 n u
  have hp := fun u => put_any (u64N n) u (u64N_lt n)
  go_enter Tryd.func90, Tryd.ntmps90
  go_wp2_with (go_at_call 80; ((with_reducible refine (hp _).mono ?_); rintro e w1 ⟨rfl, b1⟩))
  go_ret
  exact ⟨rfl, b1⟩
theorem hash_txt (D : List UInt8) : Oct.putB (ByteArray.size ⟨D.toArray⟩) ++ (⟨D.toArray⟩ : ByteArray) = tB (hashL D) := txt_eq _
/-- A slice of texts that lies in a block of its own. -/
def StrN (w : World) (v : Value) (ts : List ByteArray) : Prop := ∃ b, v = .slice (some ⟨b, 0, none⟩) ts.length ts.length ∧ Blk b 9 (ts.map Value.string) w
theorem StrN.old {w w' : World} {v : Value} {ts : List ByteArray} (h : StrN w v ts) (k : Below w.heap.size w w') : StrN w' v ts := by
  obtain ⟨b, e, hb⟩ := h
  exact ⟨b, e, hb.old k hb.lt⟩
def RT.rowN (ts : List ByteArray) : RT := ⟨fun v w => StrN w v ts, fun _ _ _ h k => h.old k⟩
section
variable {ops : Array Oper} {Q : Exit → Act → World → Prop} {a : Act} {w : World} {K : Act → World → Prop} {o : Oper}
theorem rop_textsN (n : Nat) (xs : Array (Nat × Operand)) (hop : o.op = .buildSlice 124 n xs) (ss : List ByteArray)
    (hx : (xs.map fun (i, x) => (i, a.eval x)) = ((List.range n).zipWith (fun i s => (i, Value.string s)) ss).toArray) (hn : ss.length = n) (h0 : 0 < n) (h9 : n ≤ 1000)
    (hw : Region.wanted o (yielded ops a.tmps) = true) (h : ∀ v w', Below w.heap.size w w' → StrN w' v ss → K (a.put o.dst v) w') :
    if Region.wanted o (yielded ops a.tmps) = true then Oper.wp Tryd.prog o a w K Q else K (a.put o.dst undef) w :=
  rop_v (v := .slice (some ⟨w.heap.size, 0, none⟩) n n) (w' := w.alloc (.cells (ss.map Value.string).toArray 9)) hw (by
    have := run_texts w n ss hn h0 h9
    rw [← hx] at this
    simp [execOp, hop, this]) (h _ _ ((Below.refl _ _).alloc (Nat.le_refl _) _) ⟨_, by rw [hn], Blk.alloc _ _ _⟩)
end
theorem join_nil : ∀ l : List (List UInt8), Lib.join l [] = l.flatten
  | [] => rfl
  | [x] => by simp [Lib.join, List.intercalate]
  | x :: y :: t => by
    have := join_nil (y :: t)
    simp only [Lib.join, List.intercalate] at this ⊢
    rw [List.intersperse_cons_cons, List.flatten_cons, List.flatten_cons, this]
    simp
theorem join_flat (ts : List ByteArray) : Lib.join (ts.map (·.data.toList)) [] = flat ts := by
  rw [join_nil, flat, List.flatMap_def]

theorem hashTxt_hashS_any (D : List UInt8) (hD : D.length = 32) (w : World) : Calls Tryd.prog 89 #[.string ⟨D.toArray⟩] w fun e w' => e = .returned (.string (tB (hashL D))) ∧ Below w.heap.size w w' := by
  rw [← hash_txt]
  exact textPut_any _ w (by simp [ByteArray.size, hD])
set_option maxHeartbeats 1600000 in
set_option maxRecDepth 100000 in
theorem hashS_any (D : List UInt8) (hD : D.length = 32) (w : World) : Calls Tryd.prog 85 #[sumV D] w fun e w' => e = .returned (.string (tB (hashL D))) ∧ Below w.heap.size w w' := by
  obtain ⟨p, hp⟩ : ∃ p, p = w.heap.size := ⟨_, rfl⟩
  obtain ⟨W, hW⟩ : ∃ W, W = w.alloc (.cells (D.map u8V).toArray 33) := ⟨_, rfl⟩
  have hb1 : Below w.heap.size w W := by rw [hW]; exact below_boxS _ _
  have hr : Blk p 33 (D.map u8V) W := by rw [hW, hp]; exact Blk.alloc _ _ _
  have hp1 : p < W.heap.size := hr.lt
  have HR : Hid (W.rangeAt p 0 (D.map u8V)) := Lib.hid hr.all
  have HW := Lib.hid hW
  have HP := Lib.hid hp
  clear hW hp hr
  unfold sumV
  go_enter Tryd.func85, Tryd.ntmps85
  go_upto_region 1 with fail
  rw [← HW.out, ← HP.out]
  clear HW
  try simp only [Act.put]
  refine wp_region_tab0 [RT.is (sumV D), RT.is (.string ⟨D.toArray⟩), RT.is (.string (tB (hashL D))), RT.is (.string (tB (hashL D)))] (by kernel_rfl) (by kernel_rfl) (by kernel_rfl) ⟨?_, ?_, ?_, ?_, trivial⟩ ?_
  · intro ac w' hF hL hP hU K hK
    have hB : Below _ _ _ := hL
    have e1 : ac.eval (.tmp 1) = .pointer (some ⟨p, 0, none⟩) := hF.at 1 (by kernel_rfl)
    exact rop_ld _ _ rfl e1 (load_sumAt ((below_range' hB hp1 HR.out)) hD) (wanted_none rfl) (hK _ _ (le8_refl _) rfl)
  · intro ac w' hF hL hP hU K hK
    have hB : Below _ _ _ := hL
    have e3 : ac.eval (.tmp 3) = sumV D := hP 0 (by kernel_rfl)
    refine rop_call 94 _ _ rfl #[sumV D] (by simp [e3]) (by kernel_rfl) (wanted_none rfl) ?_
    refine (bytes_any D w' hD).mono ?_
    rintro e w2 ⟨rfl, hb⟩
    exact ⟨_, rfl, hK _ _ hb rfl⟩
  · intro ac w' hF hL hP hU K hK
    have hB : Below _ _ _ := hL
    have e4 : ac.eval (.tmp 4) = .string ⟨D.toArray⟩ := hP 1 (by kernel_rfl)
    refine rop_call 89 _ _ rfl #[.string ⟨D.toArray⟩] (by simp [e4]) (by kernel_rfl) (wanted_none rfl) ?_
    refine (hashTxt_hashS_any D hD w').mono ?_
    rintro e w2 ⟨rfl, hb⟩
    exact ⟨_, rfl, hK _ _ hb rfl⟩
  · intro ac w' hF hL hP hU K hK
    have hB : Below _ _ _ := hL
    have e5 : ac.eval (.tmp 5) = .string (tB (hashL D)) := hP 2 (by kernel_rfl)
    exact rop_assign _ rfl e5 (wanted_none rfl) (hK _ _ (le8_refl _) rfl)
  · intro ac w' hF hB hT
    have e2 : ac.eval (.tmp 2) = .string (tB (hashL D)) := hT 3 (by decide)
    rw [hF.setsG [3, 4, 5, 2] (by kernel_rfl)]
    simp only [List.foldl_cons, List.foldl_nil, List.setIfInBounds_toArray, List.set_cons_succ, List.set_cons_zero, e2]
    generalize ac.eval (.tmp 3) = u3
    generalize ac.eval (.tmp 4) = u4
    generalize ac.eval (.tmp 5) = u5
    clear e2 hT hF ac
    have hbw := below_step hb1 (Nat.le_refl _) hB
    clear hB
    go_wp2
    go_ret
    exact ⟨rfl, hbw⟩
theorem hashTxt_rsumS_any (D : List UInt8) (hD : D.length = 32) (w : World) : Calls Tryd.prog 70 #[.string ⟨D.toArray⟩] w fun e w' => e = .returned (.string (tB (hashL D))) ∧ Below w.heap.size w w' := by
  rw [← hash_txt]
  exact refText_any _ w (by simp [ByteArray.size, hD])
set_option maxHeartbeats 1600000 in
set_option maxRecDepth 100000 in
theorem rsumS_any (D : List UInt8) (hD : D.length = 32) (w : World) : Calls Tryd.prog 91 #[sumV D] w fun e w' => e = .returned (.string (tB (hashL D))) ∧ Below w.heap.size w w' := by
  obtain ⟨p, hp⟩ : ∃ p, p = w.heap.size := ⟨_, rfl⟩
  obtain ⟨W, hW⟩ : ∃ W, W = w.alloc (.cells (D.map u8V).toArray 33) := ⟨_, rfl⟩
  have hb1 : Below w.heap.size w W := by rw [hW]; exact below_boxS _ _
  have hr : Blk p 33 (D.map u8V) W := by rw [hW, hp]; exact Blk.alloc _ _ _
  have hp1 : p < W.heap.size := hr.lt
  have HR : Hid (W.rangeAt p 0 (D.map u8V)) := Lib.hid hr.all
  have HW := Lib.hid hW
  have HP := Lib.hid hp
  clear hW hp hr
  unfold sumV
  go_enter Tryd.func91, Tryd.ntmps91
  go_upto_region 1 with fail
  rw [← HW.out, ← HP.out]
  clear HW
  try simp only [Act.put]
  refine wp_region_tab0 [RT.is (sumV D), RT.is (.string ⟨D.toArray⟩), RT.is (.string (tB (hashL D))), RT.is (.string (tB (hashL D)))] (by kernel_rfl) (by kernel_rfl) (by kernel_rfl) ⟨?_, ?_, ?_, ?_, trivial⟩ ?_
  · intro ac w' hF hL hP hU K hK
    have hB : Below _ _ _ := hL
    have e1 : ac.eval (.tmp 1) = .pointer (some ⟨p, 0, none⟩) := hF.at 1 (by kernel_rfl)
    exact rop_ld _ _ rfl e1 (load_sumAt ((below_range' hB hp1 HR.out)) hD) (wanted_none rfl) (hK _ _ (le8_refl _) rfl)
  · intro ac w' hF hL hP hU K hK
    have hB : Below _ _ _ := hL
    have e3 : ac.eval (.tmp 3) = sumV D := hP 0 (by kernel_rfl)
    refine rop_call 74 _ _ rfl #[sumV D] (by simp [e3]) (by kernel_rfl) (wanted_none rfl) ?_
    refine (rbytes_any D w' hD).mono ?_
    rintro e w2 ⟨rfl, hb⟩
    exact ⟨_, rfl, hK _ _ hb rfl⟩
  · intro ac w' hF hL hP hU K hK
    have hB : Below _ _ _ := hL
    have e4 : ac.eval (.tmp 4) = .string ⟨D.toArray⟩ := hP 1 (by kernel_rfl)
    refine rop_call 70 _ _ rfl #[.string ⟨D.toArray⟩] (by simp [e4]) (by kernel_rfl) (wanted_none rfl) ?_
    refine (hashTxt_rsumS_any D hD w').mono ?_
    rintro e w2 ⟨rfl, hb⟩
    exact ⟨_, rfl, hK _ _ hb rfl⟩
  · intro ac w' hF hL hP hU K hK
    have hB : Below _ _ _ := hL
    have e5 : ac.eval (.tmp 5) = .string (tB (hashL D)) := hP 2 (by kernel_rfl)
    exact rop_assign _ rfl e5 (wanted_none rfl) (hK _ _ (le8_refl _) rfl)
  · intro ac w' hF hB hT
    have e2 : ac.eval (.tmp 2) = .string (tB (hashL D)) := hT 3 (by decide)
    rw [hF.setsG [3, 4, 5, 2] (by kernel_rfl)]
    simp only [List.foldl_cons, List.foldl_nil, List.setIfInBounds_toArray, List.set_cons_succ, List.set_cons_zero, e2]
    generalize ac.eval (.tmp 3) = u3
    generalize ac.eval (.tmp 4) = u4
    generalize ac.eval (.tmp 5) = u5
    clear e2 hT hF ac
    have hbw := below_step hb1 (Nat.le_refl _) hB
    clear hB
    go_wp2
    go_ret
    exact ⟨rfl, hbw⟩
set_option maxHeartbeats 1600000 in
set_option maxRecDepth 100000 in
theorem said_any (m : ByteArray) (v : Value) (ts : List ByteArray) (w : World) (h : StrN w v ts) (hn : ts.length ≤ 1000) (hm : m.size ≤ 1000) (hl : (flat ts).length ≤ 1000000) :
    Calls Tryd.prog 88 #[.string m, v] w fun e w' => e = .returned (.string (m ++ tB (flat ts))) ∧ Below w.heap.size w w' := by
  obtain ⟨b, rfl, hb⟩ := h
  have HJ : Hid (∀ u : World, Below w.heap.size w u → Calls Tryd.prog 98 #[.slice (some ⟨b, 0, none⟩) ts.length ts.length, .string ⟨#[]⟩] u fun e w' => e = .returned (.string (tB (flat ts))) ∧ Below u.heap.size u w') := Lib.hid fun u hu => by
    have hbu := hb.old hu hb.lt
    have := strings_Join b 0 ts.length ts ⟨#[]⟩ u (fun j x hx => by rw [Nat.zero_add, hbu.cell, List.getElem?_map, hx]; rfl) hbu.lt (by omega) (Nat.le_refl _) (by rw [show (⟨#[]⟩ : ByteArray).data.toList = [] from rfl, join_flat]; omega)
    rw [show (⟨#[]⟩ : ByteArray).data.toList = [] from rfl, join_flat] at this
    exact this
  have HL : Hid (m.size + (tB (flat ts)).size ≤ maxLen) := Lib.hid (by rw [show (tB (flat ts)).size = (flat ts).length by simp [tB, ByteArray.size]]; unfold maxLen; omega)
  clear hb hl hm
  go_enter Tryd.func88, Tryd.ntmps88
  go_upto_region 1 with fail
  try simp only [Act.put]
  refine wp_region_tab0 [RT.is (.string m), RT.is (.slice (some ⟨b, 0, none⟩) ts.length ts.length), RT.is (.string (tB (flat ts))), RT.is (.string (m ++ tB (flat ts))), RT.is (.string (m ++ tB (flat ts)))] (by kernel_rfl) (by kernel_rfl) (by kernel_rfl) ⟨?_, ?_, ?_, ?_, ?_, trivial⟩ ?_
  · intro ac w' hF hL hP hU K hK
    have hB : Below _ _ _ := hL
    have e0 : ac.eval (.tmp 0) = .string m := hF.at 0 (by kernel_rfl)
    exact rop_move _ rfl e0 (wanted_none rfl) (hK _ _ (le8_refl _) rfl)
  · intro ac w' hF hL hP hU K hK
    have hB : Below _ _ _ := hL
    have e1 : ac.eval (.tmp 1) = .slice (some ⟨b, 0, none⟩) ts.length ts.length := hF.at 1 (by kernel_rfl)
    exact rop_move _ rfl e1 (wanted_none rfl) (hK _ _ (le8_refl _) rfl)
  · intro ac w' hF hL hP hU K hK
    have hB : Below _ _ _ := hL
    have e6 : ac.eval (.tmp 6) = .slice (some ⟨b, 0, none⟩) ts.length ts.length := hP 1 (by kernel_rfl)
    refine rop_call 98 _ _ rfl #[.slice (some ⟨b, 0, none⟩) ts.length ts.length, .string { data := #[] }] (by simp [e6, eval_const]) (by kernel_rfl) (wanted_none rfl) ?_
    refine (HJ.out w' hB).mono ?_
    rintro e w2 ⟨rfl, hb⟩
    exact ⟨_, rfl, hK _ _ hb rfl⟩
  · intro ac w' hF hL hP hU K hK
    have hB : Below _ _ _ := hL
    have e5 : ac.eval (.tmp 5) = .string m := hP 0 (by kernel_rfl)
    have e7 : ac.eval (.tmp 7) = .string (tB (flat ts)) := hP 2 (by kernel_rfl)
    exact rop_bin _ _ _ _ _ rfl e5 e7 (guard_str _ _ _ _ _ _ w') (add_str _ _ HL.out w') (wanted_none rfl) (hK _ _ (le8_refl _) rfl)
  · intro ac w' hF hL hP hU K hK
    have hB : Below _ _ _ := hL
    have e8 : ac.eval (.tmp 8) = .string (m ++ tB (flat ts)) := hP 3 (by kernel_rfl)
    exact rop_assign _ rfl e8 (wanted_none rfl) (hK _ _ (le8_refl _) rfl)
  · intro ac w' hF hB hT
    have e4 : ac.eval (.tmp 4) = .string (m ++ tB (flat ts)) := hT 4 (by decide)
    rw [hF.setsG [5, 6, 7, 8, 4] (by kernel_rfl)]
    simp only [List.foldl_cons, List.foldl_nil, List.setIfInBounds_toArray, List.set_cons_succ, List.set_cons_zero, e4]
    generalize ac.eval (.tmp 5) = u5
    generalize ac.eval (.tmp 6) = u6
    generalize ac.eval (.tmp 7) = u7
    generalize ac.eval (.tmp 8) = u8
    clear e4 hT hF ac
    go_wp2
    go_ret
    exact ⟨rfl, hB⟩
theorem flat3 (a b c : List UInt8) : flat [tB a, tB b, tB c] = a ++ (b ++ c) := by simp [flat, tB]
theorem flat2t (a b : List UInt8) : flat [tB a, tB b] = a ++ b := by simp [flat, tB]
theorem mark_app (m : UInt8) (l : List UInt8) : (⟨#[m]⟩ : ByteArray) ++ tB l = tB (m :: l) := by
  rw [show (⟨#[m]⟩ : ByteArray) = ⟨([m] : List UInt8).toArray⟩ from rfl, tB, app_list]; rfl
theorem said3 (m : UInt8) (a b c : List UInt8) (v : Value) (w : World) (h : StrN w v [tB a, tB b, tB c]) (hl : (a ++ (b ++ c)).length ≤ 100000) :
    Calls Tryd.prog 88 #[.string ⟨#[m]⟩, v] w fun e w' => e = .returned (.string (tB (m :: (a ++ (b ++ c))))) ∧ Below w.heap.size w w' := by
  have := said_any ⟨#[m]⟩ v _ w h (by simp) (by simp [ByteArray.size]) (by rw [flat3]; omega)
  rw [flat3, mark_app] at this
  exact this
theorem said2 (m : UInt8) (a b : List UInt8) (v : Value) (w : World) (h : StrN w v [tB a, tB b]) (hl : (a ++ b).length ≤ 100000) :
    Calls Tryd.prog 88 #[.string ⟨#[m]⟩, v] w fun e w' => e = .returned (.string (tB (m :: (a ++ b)))) ∧ Below w.heap.size w w' := by
  have := said_any ⟨#[m]⟩ v _ w h (by simp) (by simp [ByteArray.size]) (by rw [flat2t]; omega)
  rw [flat2t, mark_app] at this
  exact this
set_option maxHeartbeats 3200000 in
set_option maxRecDepth 100000 in
theorem fzBytes_any (f : FzR) (hf : f.root.length = 32) (w : World) :
    Calls Tryd.prog 86 #[.agg (fzCs f).toArray] w fun e w' => e = .returned (.tuple #[.string (fzT f), .int .i64 (fzZ f)]) ∧ Below w.heap.size w w' := by
  obtain ⟨p, hp⟩ : ∃ p, p = w.heap.size := ⟨_, rfl⟩
  obtain ⟨W, hW⟩ : ∃ W, W = w.alloc (.cells (fzCs f).toArray 44) := ⟨_, rfl⟩
  have hb1 : Below w.heap.size w W := by rw [hW]; exact below_boxS _ _
  have hr : FzAt p f W := by rw [hW, hp]; exact Blk.alloc _ _ _
  have hp1 : p < W.heap.size := Blk.lt hr
  have HW := Lib.hid hW
  have HP := Lib.hid hp
  have HR := Lib.hid hr
  have c0 := hr.win
  have c1 := hr.cnt
  have hlen := fzL_length hf
  have HS : Hid (∀ (u : World) (v : Value), StrN u v [tB (Oct.putL (u64N f.win)), tB (Oct.putL (u64N f.cnt)), tB (hashL f.root)] → Calls Tryd.prog 88 #[.string ⟨#[70]⟩, v] u fun e w' => e = .returned (.string (tB (fzL f))) ∧ Below u.heap.size u w') := Lib.hid fun u v hv => said3 70 _ _ _ v u hv (by unfold fzL at hlen; simp only [List.length_cons] at hlen; omega)
  clear hW hp hr hlen
  have qt := fun u => isTime_any f.win u
  unfold fzT fzZ fzB
  generalize timB f.win = A at qt ⊢
  cases A
  · simp only [Bool.false_and, Bool.false_eq_true, if_false]
    go_enter Tryd.func86, Tryd.ntmps86
    go_upto_region 1 with fail
    rw [← HW.out, ← HP.out]
    clear HW
    go_wp2_with (first
      | (go_at_call 87; ((with_reducible refine (qt _).mono ?_); rintro e w5 ⟨rfl, rfl⟩)))
    try rw [Exit.noGoto_ret]
    go_ret2
    exact ⟨rfl, hb1⟩
  by_cases h1 : f.cnt < 1
  · rw [decide_eq_false (show ¬ 1 ≤ f.cnt by omega)]
    simp only [Bool.false_and, Bool.and_false, Bool.false_eq_true, if_false]
    go_enter Tryd.func86, Tryd.ntmps86
    go_upto_region 1 with fail
    rw [← HW.out, ← HP.out]
    clear HW
    go_wp2_with (first
      | (go_at_call 87; ((with_reducible refine (qt _).mono ?_); rintro e w5 ⟨rfl, rfl⟩)))
    try rw [Exit.noGoto_ret]
    go_ret2
    exact ⟨rfl, hb1⟩
  by_cases h2 : 4000 < f.cnt
  · rw [decide_eq_false (show ¬ f.cnt ≤ 4000 by omega)]
    simp only [Bool.and_false, Bool.false_eq_true, if_false]
    go_enter Tryd.func86, Tryd.ntmps86
    go_upto_region 1 with fail
    rw [← HW.out, ← HP.out]
    clear HW
    go_wp2_with (first
      | (go_at_call 87; ((with_reducible refine (qt _).mono ?_); rintro e w5 ⟨rfl, rfl⟩)))
    try rw [Exit.noGoto_ret]
    go_ret2
    exact ⟨rfl, hb1⟩
  rw [decide_eq_true (show 1 ≤ f.cnt by omega), decide_eq_true (show f.cnt ≤ 4000 by omega)]
  simp only [Bool.and_true, if_true]
  go_enter Tryd.func86, Tryd.ntmps86
  go_upto_region 1 with fail
  rw [← HW.out, ← HP.out]
  clear HW
  go_upto_region 3 with (go_at_call 87; ((with_reducible refine (qt _).mono ?_); rintro e w5 ⟨rfl, rfl⟩))
  clear h1 h2 qt
  try simp only [Act.put]
  refine wp_region_tab [RT.is (.pointer (some ⟨p, 0, none⟩)), RT.is (.int .i64 f.win), RT.is (.string (tB (Oct.putL (u64N f.win)))), RT.is (.pointer (some ⟨p, 1, none⟩)), RT.is (.int .i64 f.cnt), RT.is (.string (tB (Oct.putL (u64N f.cnt)))), RT.is (.pointer (some ⟨p, 2, none⟩)), RT.is (sumV f.root), RT.is (.string (tB (hashL f.root))), RT.rowN [tB (Oct.putL (u64N f.win)), tB (Oct.putL (u64N f.cnt)), tB (hashL f.root)], RT.is (.string (tB (fzL f))), RT.is (.string (tB (fzL f))), RT.is (.int .i64 0)] (by kernel_rfl) (by kernel_rfl) (by kernel_rfl) (by kernel_rfl) ⟨?_, ?_, ?_, ?_, ?_, ?_, ?_, ?_, ?_, ?_, ?_, ?_, ?_, trivial⟩ ?_
  · intro ac w' hF hL hP hU K hK
    have hB := below_undrew hL
    have e1 : ac.eval (.tmp 1) = .pointer (some ⟨p, 0, none⟩) := hF.at 1 (by kernel_rfl)
    exact rop_fld _ _ _ rfl e1 ((fld_fz0 p _).1) (wanted_none rfl) (hK _ _ (le8_refl _) rfl)
  · intro ac w' hF hL hP hU K hK
    have hB := below_undrew hL
    have e18 : ac.eval (.tmp 18) = .pointer (some ⟨p, 0, none⟩) := hP 0 (by kernel_rfl)
    exact rop_ld _ _ rfl e18 (load_intS ((hB.cell (p := ⟨p, _, none⟩) hp1).trans c0)) (wanted_none rfl) (hK _ _ (le8_refl _) rfl)
  · intro ac w' hF hL hP hU K hK
    have hB := below_undrew hL
    have e19 : ac.eval (.tmp 19) = .int .i64 f.win := hP 1 (by kernel_rfl)
    refine rop_call 90 _ _ rfl #[.int .i64 f.win] (by simp [e19]) (by kernel_rfl) (wanted_none rfl) ?_
    refine (number_any f.win w').mono ?_
    rintro e w2 ⟨rfl, hb⟩
    exact ⟨_, rfl, hK _ _ hb rfl⟩
  · intro ac w' hF hL hP hU K hK
    have hB := below_undrew hL
    have e1 : ac.eval (.tmp 1) = .pointer (some ⟨p, 0, none⟩) := hF.at 1 (by kernel_rfl)
    exact rop_fld _ _ _ rfl e1 ((fld_fz0 p _).2.1) (wanted_none rfl) (hK _ _ (le8_refl _) rfl)
  · intro ac w' hF hL hP hU K hK
    have hB := below_undrew hL
    have e21 : ac.eval (.tmp 21) = .pointer (some ⟨p, 1, none⟩) := hP 3 (by kernel_rfl)
    exact rop_ld _ _ rfl e21 (load_intS ((hB.cell (p := ⟨p, _, none⟩) hp1).trans c1)) (wanted_none rfl) (hK _ _ (le8_refl _) rfl)
  · intro ac w' hF hL hP hU K hK
    have hB := below_undrew hL
    have e22 : ac.eval (.tmp 22) = .int .i64 f.cnt := hP 4 (by kernel_rfl)
    refine rop_call 90 _ _ rfl #[.int .i64 f.cnt] (by simp [e22]) (by kernel_rfl) (wanted_none rfl) ?_
    refine (number_any f.cnt w').mono ?_
    rintro e w2 ⟨rfl, hb⟩
    exact ⟨_, rfl, hK _ _ hb rfl⟩
  · intro ac w' hF hL hP hU K hK
    have hB := below_undrew hL
    have e1 : ac.eval (.tmp 1) = .pointer (some ⟨p, 0, none⟩) := hF.at 1 (by kernel_rfl)
    exact rop_fld _ _ _ rfl e1 ((fld_fz0 p _).2.2) (wanted_none rfl) (hK _ _ (le8_refl _) rfl)
  · intro ac w' hF hL hP hU K hK
    have hB := below_undrew hL
    have e24 : ac.eval (.tmp 24) = .pointer (some ⟨p, 2, none⟩) := hP 6 (by kernel_rfl)
    exact rop_ld _ _ rfl e24 (load_sumAt (below_range' hB hp1 HR.out.root) hf) (wanted_none rfl) (hK _ _ (le8_refl _) rfl)
  · intro ac w' hF hL hP hU K hK
    have hB := below_undrew hL
    have e25 : ac.eval (.tmp 25) = sumV f.root := hP 7 (by kernel_rfl)
    refine rop_call 85 _ _ rfl #[sumV f.root] (by simp [e25]) (by kernel_rfl) (wanted_none rfl) ?_
    refine (hashS_any f.root hf w').mono ?_
    rintro e w2 ⟨rfl, hb⟩
    exact ⟨_, rfl, hK _ _ hb rfl⟩
  · intro ac w' hF hL hP hU K hK
    have hB := below_undrew hL
    have e20 : ac.eval (.tmp 20) = .string (tB (Oct.putL (u64N f.win))) := hP 2 (by kernel_rfl)
    have e23 : ac.eval (.tmp 23) = .string (tB (Oct.putL (u64N f.cnt))) := hP 5 (by kernel_rfl)
    have e26 : ac.eval (.tmp 26) = .string (tB (hashL f.root)) := hP 8 (by kernel_rfl)
    refine rop_textsN 3 _ rfl [tB (Oct.putL (u64N f.win)), tB (Oct.putL (u64N f.cnt)), tB (hashL f.root)] ?_ rfl (by decide) (by decide) (wanted_none rfl) (fun v w2 hb hr => hK v w2 hb hr)
    simp [e20, e23, e26, List.range, List.range.loop]
  · intro ac w' hF hL hP hU K hK
    have hB := below_undrew hL
    have e27 : StrN w' (ac.eval (.tmp 27)) [tB (Oct.putL (u64N f.win)), tB (Oct.putL (u64N f.cnt)), tB (hashL f.root)] := hP 9 (by kernel_rfl)
    refine rop_call 88 _ _ rfl #[.string { data := #[70] }, ac.eval (.tmp 27)] (by simp [eval_const]) (by kernel_rfl) (wanted_none rfl) ?_
    refine (HS.out w' _ e27).mono ?_
    rintro e w2 ⟨rfl, hb⟩
    exact ⟨_, rfl, hK _ _ hb rfl⟩
  · intro ac w' hF hL hP hU K hK
    have hB := below_undrew hL
    have e28 : ac.eval (.tmp 28) = .string (tB (fzL f)) := hP 10 (by kernel_rfl)
    exact rop_assign _ rfl e28 (wanted_none rfl) (hK _ _ (le8_refl _) rfl)
  · intro ac w' hF hL hP hU K hK
    have hB := below_undrew hL
    exact rop_assign _ rfl rfl (wanted_none rfl) (hK _ _ (le8_refl _) rfl)
  · intro ac w' hF hB hT
    have e2 : ac.eval (.tmp 2) = .string (tB (fzL f)) := hT 11 (by decide)
    have e3 : ac.eval (.tmp 3) = .int .i64 0 := hT 12 (by decide)
    rw [hF.setsG [18, 19, 20, 21, 22, 23, 24, 25, 26, 27, 28, 2, 3] (by kernel_rfl)]
    simp only [List.foldl_cons, List.foldl_nil, List.setIfInBounds_toArray, List.set_cons_succ, List.set_cons_zero, e2, e3]
    generalize ac.eval (.tmp 18) = u18
    generalize ac.eval (.tmp 19) = u19
    generalize ac.eval (.tmp 20) = u20
    generalize ac.eval (.tmp 21) = u21
    generalize ac.eval (.tmp 22) = u22
    generalize ac.eval (.tmp 23) = u23
    generalize ac.eval (.tmp 24) = u24
    generalize ac.eval (.tmp 25) = u25
    generalize ac.eval (.tmp 26) = u26
    generalize ac.eval (.tmp 27) = u27
    generalize ac.eval (.tmp 28) = u28
    clear e2 e3 hT hF ac
    have hbw := below_step hb1 (Nat.le_refl _) hB
    clear hB c0 c1
    go_wp2
    go_ret2
    exact ⟨rfl, hbw⟩
end Go.Proofs.YtollcdalokhjaaaDoor
/-! ## Package seal: stoneSays; what is written with its Mac; what is signed, and told right. -/
namespace Go.Proofs.YtollcdalokhjaaaDoor
open Go.RowKit

section
variable {ops : Array Oper} {Q : Exit → Act → World → Prop} {a : Act} {w w' : World} {K : Act → World → Prop} {o : Oper}
theorem rop_extractS (x : Operand) (i : Nat) (hop : o.op = .extract x i) {vs : Array Value} {v : Value} (hx : a.eval x = .tuple vs) (hv : vs[i]? = some v) (hw : Region.wanted o (yielded ops a.tmps) = true) (h : K (a.put o.dst v) w) :
    if Region.wanted o (yielded ops a.tmps) = true then Oper.wp Tryd.prog o a w K Q else K (a.put o.dst undef) w :=
  rop_v hw (by simp [execOp, hop, hx, Instr.extract, hv]) h
end
theorem tB_size (l : List UInt8) : (tB l).size = l.length := by simp [tB, ByteArray.size]
theorem tB_ne {l : List UInt8} (h : l ≠ []) : 0 < (tB l).size := by rw [tB_size]; exact List.length_pos_iff.2 h
theorem tB_app (a b : List UInt8) : tB a ++ tB b = tB (a ++ b) := app_list a b
theorem fzL_ne (f : FzR) : fzL f ≠ [] := by simp [fzL]
theorem hdL_ne (f : HdR) : hdL f ≠ [] := by simp [hdL]
theorem stL_ne (f : StR) : stL f ≠ [] := by simp [stL]
theorem nil_toList : (tB []).toList = [] := by rw [Lib.toList_data]; rfl
theorem neq_empty (l : List UInt8) (h : l ≠ []) (w : World) : (binOp .neq 9 (.string (tB l)) (.string ⟨#[]⟩)).run Tryd.prog w = .ok (.bool true) w := by
  have := (toList_ne (tB_ne h)).1
  go_simp
theorem neq_empty0 (w : World) : (binOp .neq 9 (.string (tB [])) (.string ⟨#[]⟩)).run Tryd.prog w = .ok (.bool false) w := by
  go_simp
  try (simp [tB])
theorem eql_empty (l : List UInt8) (h : l ≠ []) (w : World) : (binOp .eql 9 (.string (tB l)) (.string ⟨#[]⟩)).run Tryd.prog w = .ok (.bool false) w := by
  go_simp
  first | (simp [Lib.toList_data]; simpa [tB] using h) | simp_all [tB]
theorem eql_empty0 (w : World) : (binOp .eql 9 (.string (tB [])) (.string ⟨#[]⟩)).run Tryd.prog w = .ok (.bool true) w := by
  go_simp
  try (simp [tB])

set_option maxHeartbeats 1600000 in
set_option maxRecDepth 100000 in
theorem signed_some (l : List UInt8) (hl : l ≠ []) (hs : l.length ≤ 1000) (D : List UInt8) (hD : D.length = 32) (w : World) :
    Calls Tryd.prog 67 #[.string (tB l), sumV D] w fun e w' => e = .returned (.tuple #[.string (tB (l ++ hashL D)), .int .i64 0]) ∧ Below w.heap.size w w' := by
  have HL : Hid ((tB l).size + (tB (hashL D)).size ≤ maxLen) := Lib.hid (by have := hashL_length hD; rw [tB_size, tB_size]; unfold maxLen; omega)
  obtain ⟨p, hp⟩ : ∃ p, p = w.heap.size := ⟨_, rfl⟩
  obtain ⟨W, hW⟩ : ∃ W, W = w.alloc (.cells (D.map u8V).toArray 33) := ⟨_, rfl⟩
  have hb1 : Below w.heap.size w W := by rw [hW]; exact below_boxS _ _
  have hr : Blk p 33 (D.map u8V) W := by rw [hW, hp]; exact Blk.alloc _ _ _
  have hp1 : p < W.heap.size := hr.lt
  have HR : Hid (W.rangeAt p 0 (D.map u8V)) := Lib.hid hr.all
  have HW := Lib.hid hW
  have HP := Lib.hid hp
  clear hW hp hr
  have q := eql_empty l hl
  unfold sumV
  go_enter Tryd.func67, Tryd.ntmps67
  go_upto_region 1 with fail
  rw [← HW.out, ← HP.out]
  clear HW
  try simp only [Act.put]
  refine wp_region_tab0 [RT.is (.string (tB l)), RT.is (.bool false)] (by kernel_rfl) (by kernel_rfl) (by kernel_rfl) ⟨?_, ?_, trivial⟩ ?_
  · intro ac w' hF hL hP hU K hK
    have hB : Below _ _ _ := hL
    have e0 : ac.eval (.tmp 0) = .string (tB l) := hF.at 0 (by kernel_rfl)
    exact rop_move _ rfl e0 (wanted_none rfl) (hK _ _ (le8_refl _) rfl)
  · intro ac w' hF hL hP hU K hK
    have hB : Below _ _ _ := hL
    have e6 : ac.eval (.tmp 6) = .string (tB l) := hP 0 (by kernel_rfl)
    exact rop_bin _ _ _ _ _ rfl e6 rfl (guard_str _ _ _ _ _ _ w') (eql_empty l hl w') (wanted_none rfl) (hK _ _ (le8_refl _) rfl)
  · intro ac w' hF hB hT
    have e7 : ac.eval (.tmp 7) = .bool false := hT 1 (by decide)
    rw [hF.setsG [6, 7] (by kernel_rfl)]
    simp only [List.foldl_cons, List.foldl_nil, List.setIfInBounds_toArray, List.set_cons_succ, List.set_cons_zero, e7]
    generalize ac.eval (.tmp 6) = u6
    clear e7 hT hF ac
    replace hb1 := below_step hb1 (Nat.le_refl _) hB
    replace HR := Lib.hid (below_range' hB hp1 HR.out)
    replace hp1 := Nat.lt_of_lt_of_le hp1 hB.size
    clear hB
    go_upto_region 3 with fail
    try simp only [Act.put]
    refine wp_region_tab0 [RT.is (.string (tB l)), RT.is (sumV D), RT.is (.string (tB (hashL D))), RT.is (.string (tB (l ++ hashL D))), RT.is (.string (tB (l ++ hashL D))), RT.is (.int .i64 0)] (by kernel_rfl) (by kernel_rfl) (by kernel_rfl) ⟨?_, ?_, ?_, ?_, ?_, ?_, trivial⟩ ?_
    · intro ac w' hF hL hP hU K hK
      have hB : Below _ _ _ := hL
      have e0 : ac.eval (.tmp 0) = .string (tB l) := hF.at 0 (by kernel_rfl)
      exact rop_move _ rfl e0 (wanted_none rfl) (hK _ _ (le8_refl _) rfl)
    · intro ac w' hF hL hP hU K hK
      have hB : Below _ _ _ := hL
      have e3 : ac.eval (.tmp 3) = .pointer (some ⟨p, 0, none⟩) := hF.at 3 (by kernel_rfl)
      exact rop_ld _ _ rfl e3 (load_sumAt (below_range' hB hp1 HR.out) hD) (wanted_none rfl) (hK _ _ (le8_refl _) rfl)
    · intro ac w' hF hL hP hU K hK
      have hB : Below _ _ _ := hL
      have e9 : ac.eval (.tmp 9) = sumV D := hP 1 (by kernel_rfl)
      refine rop_call 85 _ _ rfl #[sumV D] (by simp [e9]) (by kernel_rfl) (wanted_none rfl) ?_
      refine (hashS_any D hD w').mono ?_
      rintro e w2 ⟨rfl, hb⟩
      exact ⟨_, rfl, hK _ _ hb rfl⟩
    · intro ac w' hF hL hP hU K hK
      have hB : Below _ _ _ := hL
      have e8 : ac.eval (.tmp 8) = .string (tB l) := hP 0 (by kernel_rfl)
      have e10 : ac.eval (.tmp 10) = .string (tB (hashL D)) := hP 2 (by kernel_rfl)
      exact rop_bin _ _ _ _ _ rfl e8 e10 (guard_str _ _ _ _ _ _ w') ((add_str _ _ HL.out w').trans (by rw [tB_app])) (wanted_none rfl) (hK _ _ (le8_refl _) rfl)
    · intro ac w' hF hL hP hU K hK
      have hB : Below _ _ _ := hL
      have e11 : ac.eval (.tmp 11) = .string (tB (l ++ hashL D)) := hP 3 (by kernel_rfl)
      exact rop_assign _ rfl e11 (wanted_none rfl) (hK _ _ (le8_refl _) rfl)
    · intro ac w' hF hL hP hU K hK
      have hB : Below _ _ _ := hL
      exact rop_assign _ rfl rfl (wanted_none rfl) (hK _ _ (le8_refl _) rfl)
    · intro ac w' hF hB hT
      have e4 : ac.eval (.tmp 4) = .string (tB (l ++ hashL D)) := hT 4 (by decide)
      have e5 : ac.eval (.tmp 5) = .int .i64 0 := hT 5 (by decide)
      rw [hF.setsG [8, 9, 10, 11, 4, 5] (by kernel_rfl)]
      simp only [List.foldl_cons, List.foldl_nil, List.setIfInBounds_toArray, List.set_cons_succ, List.set_cons_zero, e4, e5]
      generalize ac.eval (.tmp 8) = u8
      generalize ac.eval (.tmp 9) = u9
      generalize ac.eval (.tmp 10) = u10
      generalize ac.eval (.tmp 11) = u11
      clear e4 e5 hT hF ac
      have hbw := below_step hb1 (Nat.le_refl _) hB
      clear hB
      go_wp2
      go_ret2
      exact ⟨rfl, hbw⟩
set_option maxHeartbeats 1600000 in
set_option maxRecDepth 100000 in
theorem signed_nil (D : List UInt8) (_hD : D.length = 32) (w : World) :
    Calls Tryd.prog 67 #[.string (tB []), sumV D] w fun e w' => e = .returned (.tuple #[.string (tB []), .int .i64 1]) ∧ Below w.heap.size w w' := by
  obtain ⟨p, hp⟩ : ∃ p, p = w.heap.size := ⟨_, rfl⟩
  obtain ⟨W, hW⟩ : ∃ W, W = w.alloc (.cells (D.map u8V).toArray 33) := ⟨_, rfl⟩
  have hb1 : Below w.heap.size w W := by rw [hW]; exact below_boxS _ _
  have hr : Blk p 33 (D.map u8V) W := by rw [hW, hp]; exact Blk.alloc _ _ _
  have hp1 : p < W.heap.size := hr.lt
  have HR : Hid (W.rangeAt p 0 (D.map u8V)) := Lib.hid hr.all
  have HW := Lib.hid hW
  have HP := Lib.hid hp
  clear hW hp hr
  unfold sumV
  go_enter Tryd.func67, Tryd.ntmps67
  go_upto_region 1 with fail
  rw [← HW.out, ← HP.out]
  clear HW
  try simp only [Act.put]
  refine wp_region_tab0 [RT.is (.string (tB [])), RT.is (.bool true)] (by kernel_rfl) (by kernel_rfl) (by kernel_rfl) ⟨?_, ?_, trivial⟩ ?_
  · intro ac w' hF hL hP hU K hK
    have hB : Below _ _ _ := hL
    have e0 : ac.eval (.tmp 0) = .string (tB []) := hF.at 0 (by kernel_rfl)
    exact rop_move _ rfl e0 (wanted_none rfl) (hK _ _ (le8_refl _) rfl)
  · intro ac w' hF hL hP hU K hK
    have hB : Below _ _ _ := hL
    have e6 : ac.eval (.tmp 6) = .string (tB []) := hP 0 (by kernel_rfl)
    exact rop_bin _ _ _ _ _ rfl e6 rfl (guard_str _ _ _ _ _ _ w') (eql_empty0 w') (wanted_none rfl) (hK _ _ (le8_refl _) rfl)
  · intro ac w' hF hB hT
    have e7 : ac.eval (.tmp 7) = .bool true := hT 1 (by decide)
    rw [hF.setsG [6, 7] (by kernel_rfl)]
    simp only [List.foldl_cons, List.foldl_nil, List.setIfInBounds_toArray, List.set_cons_succ, List.set_cons_zero, e7]
    generalize ac.eval (.tmp 6) = u6
    clear e7 hT hF ac
    have hbw := below_step hb1 (Nat.le_refl _) hB
    clear hB
    go_wp2
    go_ret2
    exact ⟨rfl, hbw⟩
theorem hdG_any (f : HdR) (hf : f.root.length = 32) (hm : f.mac.length = 32) (w : World) :
    Calls Tryd.prog 67 #[.string (hdT f), sumV f.mac] w fun e w' => e = .returned (.tuple #[.string (hdG f), .int .i64 (hdZ f)]) ∧ Below w.heap.size w w' := by
  have h1 := hdL_length hf
  unfold hdT hdG hdZ hdF
  by_cases h : hdB f = true
  · rw [if_pos h, if_pos h, if_pos h]
    exact signed_some _ (hdL_ne f) (by omega) _ hm w
  · rw [if_neg h, if_neg h, if_neg h]
    exact signed_nil _ hm w
theorem stG_any (f : StR) (hf : f.fz.root.length = 32) (hm : f.mac.length = 32) (w : World) :
    Calls Tryd.prog 67 #[.string (stT f), sumV f.mac] w fun e w' => e = .returned (.tuple #[.string (stG f), .int .i64 (stZ f)]) ∧ Below w.heap.size w w' := by
  have h1 := stL_length hf
  unfold stT stG stZ stF
  by_cases h : stB f = true
  · rw [if_pos h, if_pos h, if_pos h]
    exact signed_some _ (stL_ne f) (by omega) _ hm w
  · rw [if_neg h, if_neg h, if_neg h]
    exact signed_nil _ hm w
theorem size_fz : (Tryd.prog.info? 44).map (·.size) = some 34 := size_of info_fz
set_option maxHeartbeats 3200000 in
set_option maxRecDepth 100000 in
theorem stSays_any (f : StR) (hf : f.fz.root.length = 32) (w : World) :
    Calls Tryd.prog 68 #[.agg (stCs f).toArray] w fun e w' => e = .returned (.string (stT f)) ∧ Below w.heap.size w w' := by
  obtain ⟨p, hp⟩ : ∃ p, p = w.heap.size := ⟨_, rfl⟩
  obtain ⟨W, hW⟩ : ∃ W, W = w.alloc (.cells (stCs f).toArray 49) := ⟨_, rfl⟩
  have hb1 : Below w.heap.size w W := by rw [hW]; exact below_boxS _ _
  have hr : StAt p f W := by rw [hW, hp]; exact Blk.alloc _ _ _
  have hp1 : p < W.heap.size := Blk.lt hr
  have HW := Lib.hid hW
  have HP := Lib.hid hp
  have HR := Lib.hid hr
  have hlen := stL_length hf
  have hfl := fzL_length hf
  have HS : Hid (∀ (u : World) (v : Value), StrN u v [tB (txtL ⟨(fzL f.fz).toArray⟩), tB (Oct.putL (u64N f.tim))] → Calls Tryd.prog 88 #[.string ⟨#[84]⟩, v] u fun e w' => e = .returned (.string (tB (stL f))) ∧ Below u.heap.size u w') := Lib.hid fun u v hv => said2 84 _ _ v u hv (by unfold stL at hlen; simp only [List.length_cons] at hlen; omega)
  have HTX : Hid (∀ u : World, Calls Tryd.prog 89 #[.string (tB (fzL f.fz))] u fun e w' => e = .returned (.string (tB (txtL ⟨(fzL f.fz).toArray⟩))) ∧ Below u.heap.size u w') := Lib.hid fun u => by
    rw [show tB (txtL ⟨(fzL f.fz).toArray⟩) = Oct.putB (tB (fzL f.fz)).size ++ tB (fzL f.fz) from (txt_eq _).symm]
    exact textPut_any _ u (by rw [tB_size]; omega)
  have HRg : Hid (W.rangeAt p 0 (fzCs f.fz)) := Lib.hid hr.fz
  have HI : Hid ((Tryd.prog.info? 44).map (·.size) = some (fzCs f.fz).length) := Lib.hid (by rw [fzCs_length hf]; exact size_fz)
  clear hW hp hr hlen hfl
  have qf := fun u => fzBytes_any f.fz hf u
  have qt := fun u => isTime_any f.tim u
  unfold stT stB
  by_cases hz : fzB f.fz = true
  · rw [hz]
    have ez : fzZ f.fz = 0 := if_pos hz
    have et : fzT f.fz = tB (fzL f.fz) := if_pos hz
    rw [ez, et] at qf
    simp only [Bool.true_and]
    generalize timB f.tim = A at qt ⊢
    cases A
    · simp only [Bool.false_eq_true, if_false]
      clear HS HTX
      generalize fzL f.fz = L at *
      go_enter Tryd.func68, Tryd.ntmps68
      go_upto_region 1 with fail
      rw [← HW.out, ← HP.out]
      clear HW
      go_upto_region 2 with (first | refine wpList_load_mid rfl 44 (.tmp 6) rfl p 0 rfl (fzCs f.fz) _ HRg.out Tryd.underlying44 rfl HI.out ?_ | (go_at_call 86; ((with_reducible refine (qf _).mono ?_); rintro e w4 ⟨rfl, b4⟩)))
      have c34 := StAt.tim (HR.out.old b4 hp1) hf
      replace hb1 := below_step hb1 (Nat.le_refl _) b4
      clear b4
      go_wp2_with (first | (go_at_call 87; ((with_reducible refine (qt _).mono ?_); rintro e w5 ⟨rfl, rfl⟩)))
      try rw [Exit.noGoto_ret]
      go_ret
      exact ⟨rfl, hb1⟩
    · simp only [if_true]
      go_enter Tryd.func68, Tryd.ntmps68
      go_upto_region 1 with fail
      rw [← HW.out, ← HP.out]
      clear HW
      go_upto_region 2 with (first | refine wpList_load_mid rfl 44 (.tmp 6) rfl p 0 rfl (fzCs f.fz) _ HRg.out Tryd.underlying44 rfl HI.out ?_ | (go_at_call 86; ((with_reducible refine (qf _).mono ?_); rintro e w4 ⟨rfl, b4⟩)))
      have c34 := StAt.tim (HR.out.old b4 hp1) hf
      replace hb1 := below_step hb1 (Nat.le_refl _) b4
      replace hp1 := Nat.lt_of_lt_of_le hp1 b4.size
      clear b4 qf ez et hz HRg
      go_upto_region 4 with (first | (go_at_call 87; ((with_reducible refine (qt _).mono ?_); rintro e w5 ⟨rfl, rfl⟩)))
      try simp only [Act.put]
      refine wp_region_tab [RT.is (.string (tB (fzL f.fz))), RT.is (.string (tB (txtL ⟨(fzL f.fz).toArray⟩))), RT.is (.pointer (some ⟨p, 34, none⟩)), RT.is (.int .i64 f.tim), RT.is (.string (tB (Oct.putL (u64N f.tim)))), RT.rowN [tB (txtL ⟨(fzL f.fz).toArray⟩), tB (Oct.putL (u64N f.tim))], RT.is (.string (tB (stL f))), RT.is (.string (tB (stL f)))] (by kernel_rfl) (by kernel_rfl) (by kernel_rfl) (by kernel_rfl) ⟨?_, ?_, ?_, ?_, ?_, ?_, ?_, ?_, trivial⟩ ?_
      · intro ac w' hF hL hP hU K hK
        have hB := below_undrew hL
        have e3 : ac.eval (.tmp 3) = .string (tB (fzL f.fz)) := hF.at 3 (by kernel_rfl)
        exact rop_move _ rfl e3 (wanted_none rfl) (hK _ _ (le8_refl _) rfl)
      · intro ac w' hF hL hP hU K hK
        have hB := below_undrew hL
        have e19 : ac.eval (.tmp 19) = .string (tB (fzL f.fz)) := hP 0 (by kernel_rfl)
        refine rop_call 89 _ _ rfl #[.string (tB (fzL f.fz))] (by simp [e19]) (by kernel_rfl) (wanted_none rfl) ?_
        refine (HTX.out w').mono ?_
        rintro e w2 ⟨rfl, hb⟩
        exact ⟨_, rfl, hK _ _ hb rfl⟩
      · intro ac w' hF hL hP hU K hK
        have hB := below_undrew hL
        have e1 : ac.eval (.tmp 1) = .pointer (some ⟨p, 0, none⟩) := hF.at 1 (by kernel_rfl)
        exact rop_fld _ _ _ rfl e1 ((fld_st0 p _).2.1) (wanted_none rfl) (hK _ _ (le8_refl _) rfl)
      · intro ac w' hF hL hP hU K hK
        have hB := below_undrew hL
        have e21 : ac.eval (.tmp 21) = .pointer (some ⟨p, 34, none⟩) := hP 2 (by kernel_rfl)
        exact rop_ld _ _ rfl e21 (load_intS ((hB.cell (p := ⟨p, _, none⟩) hp1).trans c34)) (wanted_none rfl) (hK _ _ (le8_refl _) rfl)
      · intro ac w' hF hL hP hU K hK
        have hB := below_undrew hL
        have e22 : ac.eval (.tmp 22) = .int .i64 f.tim := hP 3 (by kernel_rfl)
        refine rop_call 90 _ _ rfl #[.int .i64 f.tim] (by simp [e22]) (by kernel_rfl) (wanted_none rfl) ?_
        refine (number_any f.tim w').mono ?_
        rintro e w2 ⟨rfl, hb⟩
        exact ⟨_, rfl, hK _ _ hb rfl⟩
      · intro ac w' hF hL hP hU K hK
        have hB := below_undrew hL
        have e20 : ac.eval (.tmp 20) = .string (tB (txtL ⟨(fzL f.fz).toArray⟩)) := hP 1 (by kernel_rfl)
        have e23 : ac.eval (.tmp 23) = .string (tB (Oct.putL (u64N f.tim))) := hP 4 (by kernel_rfl)
        refine rop_textsN 2 _ rfl [tB (txtL ⟨(fzL f.fz).toArray⟩), tB (Oct.putL (u64N f.tim))] ?_ rfl (by decide) (by decide) (wanted_none rfl) (fun v w2 hb hr => hK v w2 hb hr)
        simp [e20, e23, List.range, List.range.loop]
      · intro ac w' hF hL hP hU K hK
        have hB := below_undrew hL
        have e24 : StrN w' (ac.eval (.tmp 24)) [tB (txtL ⟨(fzL f.fz).toArray⟩), tB (Oct.putL (u64N f.tim))] := hP 5 (by kernel_rfl)
        refine rop_call 88 _ _ rfl #[.string { data := #[84] }, ac.eval (.tmp 24)] (by simp [eval_const]) (by kernel_rfl) (wanted_none rfl) ?_
        refine (HS.out w' _ e24).mono ?_
        rintro e w2 ⟨rfl, hb⟩
        exact ⟨_, rfl, hK _ _ hb rfl⟩
      · intro ac w' hF hL hP hU K hK
        have hB := below_undrew hL
        have e25 : ac.eval (.tmp 25) = .string (tB (stL f)) := hP 6 (by kernel_rfl)
        exact rop_assign _ rfl e25 (wanted_none rfl) (hK _ _ (le8_refl _) rfl)
      · intro ac w' hF hB hT
        have e2 : ac.eval (.tmp 2) = .string (tB (stL f)) := hT 7 (by decide)
        rw [hF.setsG [19, 20, 21, 22, 23, 24, 25, 2] (by kernel_rfl)]
        simp only [List.foldl_cons, List.foldl_nil, List.setIfInBounds_toArray, List.set_cons_succ, List.set_cons_zero, e2]
        generalize ac.eval (.tmp 19) = u19
        generalize ac.eval (.tmp 20) = u20
        generalize ac.eval (.tmp 21) = u21
        generalize ac.eval (.tmp 22) = u22
        generalize ac.eval (.tmp 23) = u23
        generalize ac.eval (.tmp 24) = u24
        generalize ac.eval (.tmp 25) = u25
        clear e2 hT hF ac
        have hbw := below_step hb1 (Nat.le_refl _) hB
        clear hB c34
        go_wp2
        go_ret
        exact ⟨rfl, hbw⟩
  · have ez : fzZ f.fz = 1 := if_neg hz
    have et : fzT f.fz = tB [] := if_neg hz
    rw [ez, et] at qf
    rw [show fzB f.fz = false by simpa using hz]
    simp only [Bool.false_and, Bool.false_eq_true, if_false]
    clear hz ez et HS HTX
    go_enter Tryd.func68, Tryd.ntmps68
    go_upto_region 1 with fail
    rw [← HW.out, ← HP.out]
    clear HW
    go_upto_region 2 with (first | refine wpList_load_mid rfl 44 (.tmp 6) rfl p 0 rfl (fzCs f.fz) _ HRg.out Tryd.underlying44 rfl HI.out ?_ | (go_at_call 86; ((with_reducible refine (qf _).mono ?_); rintro e w4 ⟨rfl, b4⟩)))
    replace hb1 := below_step hb1 (Nat.le_refl _) b4
    clear b4 qf
    go_wp2
    try rw [Exit.noGoto_ret]
    go_ret
    exact ⟨rfl, hb1⟩
set_option maxHeartbeats 3200000 in
set_option maxRecDepth 100000 in
theorem stBytes_any (f : StR) (hf : f.fz.root.length = 32) (hm : f.mac.length = 32) (w : World) :
    Calls Tryd.prog 46 #[.agg (stCs f).toArray] w fun e w' => e = .returned (.tuple #[.string (stG f), .int .i64 (stZ f)]) ∧ Below w.heap.size w w' := by
  obtain ⟨p, hp⟩ : ∃ p, p = w.heap.size := ⟨_, rfl⟩
  obtain ⟨W, hW⟩ : ∃ W, W = w.alloc (.cells (stCs f).toArray 49) := ⟨_, rfl⟩
  have hb1 : Below w.heap.size w W := by rw [hW]; exact below_boxS _ _
  have hr : StAt p f W := by rw [hW, hp]; exact Blk.alloc _ _ _
  have hp1 : p < W.heap.size := Blk.lt hr
  have HW := Lib.hid hW
  have HP := Lib.hid hp
  have HR := Lib.hid hr
  clear hW hp hr
  go_enter Tryd.func46, Tryd.ntmps46
  go_upto_region 1 with fail
  rw [← HW.out, ← HP.out]
  clear HW
  try simp only [Act.put]
  refine wp_region_tab [RT.is (.agg (stCs f).toArray), RT.is (.string (stT f)), RT.is (.pointer (some ⟨p, 35, none⟩)), RT.is (sumV f.mac), RT.is (.tuple #[.string (stG f), .int .i64 (stZ f)]), RT.is (.string (stG f)), RT.is (.int .i64 (stZ f)), RT.is (.string (stG f)), RT.is (.int .i64 (stZ f))] (by kernel_rfl) (by kernel_rfl) (by kernel_rfl) (by kernel_rfl) ⟨?_, ?_, ?_, ?_, ?_, ?_, ?_, ?_, ?_, trivial⟩ ?_
  · intro ac w' hF hL hP hU K hK
    have hB := below_undrew hL
    have e1 : ac.eval (.tmp 1) = .pointer (some ⟨p, 0, none⟩) := hF.at 1 (by kernel_rfl)
    exact rop_ld _ _ rfl e1 (load_stAt (below_range' hB hp1 (Blk.all HR.out)) hf hm) (wanted_none rfl) (hK _ _ (le8_refl _) rfl)
  · intro ac w' hF hL hP hU K hK
    have hB := below_undrew hL
    have e4 : ac.eval (.tmp 4) = .agg (stCs f).toArray := hP 0 (by kernel_rfl)
    refine rop_call 68 _ _ rfl #[.agg (stCs f).toArray] (by simp [e4]) (by kernel_rfl) (wanted_none rfl) ?_
    refine (stSays_any f hf w').mono ?_
    rintro e w2 ⟨rfl, hb⟩
    exact ⟨_, rfl, hK _ _ hb rfl⟩
  · intro ac w' hF hL hP hU K hK
    have hB := below_undrew hL
    have e1 : ac.eval (.tmp 1) = .pointer (some ⟨p, 0, none⟩) := hF.at 1 (by kernel_rfl)
    exact rop_fld _ _ _ rfl e1 ((fld_st0 p _).2.2) (wanted_none rfl) (hK _ _ (le8_refl _) rfl)
  · intro ac w' hF hL hP hU K hK
    have hB := below_undrew hL
    have e6 : ac.eval (.tmp 6) = .pointer (some ⟨p, 35, none⟩) := hP 2 (by kernel_rfl)
    exact rop_ld _ _ rfl e6 (load_sumAt (below_range' hB hp1 (HR.out.mac hf)) hm) (wanted_none rfl) (hK _ _ (le8_refl _) rfl)
  · intro ac w' hF hL hP hU K hK
    have hB := below_undrew hL
    have e5 : ac.eval (.tmp 5) = .string (stT f) := hP 1 (by kernel_rfl)
    have e7 : ac.eval (.tmp 7) = sumV f.mac := hP 3 (by kernel_rfl)
    refine rop_call 67 _ _ rfl #[.string (stT f), sumV f.mac] (by simp [e5, e7]) (by kernel_rfl) (wanted_none rfl) ?_
    refine (stG_any f hf hm w').mono ?_
    rintro e w2 ⟨rfl, hb⟩
    exact ⟨_, rfl, hK _ _ hb rfl⟩
  · intro ac w' hF hL hP hU K hK
    have hB := below_undrew hL
    have e8 : ac.eval (.tmp 8) = .tuple #[.string (stG f), .int .i64 (stZ f)] := hP 4 (by kernel_rfl)
    exact rop_extractS _ _ rfl e8 rfl (wanted_none rfl) (hK _ _ (le8_refl _) rfl)
  · intro ac w' hF hL hP hU K hK
    have hB := below_undrew hL
    have e8 : ac.eval (.tmp 8) = .tuple #[.string (stG f), .int .i64 (stZ f)] := hP 4 (by kernel_rfl)
    exact rop_extractS _ _ rfl e8 rfl (wanted_none rfl) (hK _ _ (le8_refl _) rfl)
  · intro ac w' hF hL hP hU K hK
    have hB := below_undrew hL
    have e9 : ac.eval (.tmp 9) = .string (stG f) := hP 5 (by kernel_rfl)
    exact rop_assign _ rfl e9 (wanted_none rfl) (hK _ _ (le8_refl _) rfl)
  · intro ac w' hF hL hP hU K hK
    have hB := below_undrew hL
    have e10 : ac.eval (.tmp 10) = .int .i64 (stZ f) := hP 6 (by kernel_rfl)
    exact rop_assign _ rfl e10 (wanted_none rfl) (hK _ _ (le8_refl _) rfl)
  · intro ac w' hF hB hT
    have e2 : ac.eval (.tmp 2) = .string (stG f) := hT 7 (by decide)
    have e3 : ac.eval (.tmp 3) = .int .i64 (stZ f) := hT 8 (by decide)
    rw [hF.setsG [4, 5, 6, 7, 8, 9, 10, 2, 3] (by kernel_rfl)]
    simp only [List.foldl_cons, List.foldl_nil, List.setIfInBounds_toArray, List.set_cons_succ, List.set_cons_zero, e2, e3]
    generalize ac.eval (.tmp 4) = u4
    generalize ac.eval (.tmp 5) = u5
    generalize ac.eval (.tmp 6) = u6
    generalize ac.eval (.tmp 7) = u7
    generalize ac.eval (.tmp 8) = u8
    generalize ac.eval (.tmp 9) = u9
    generalize ac.eval (.tmp 10) = u10
    clear e2 e3 hT hF ac
    have hbw := below_step hb1 (Nat.le_refl _) hB
    clear hB
    go_wp2
    go_ret2
    exact ⟨rfl, hbw⟩
end Go.Proofs.YtollcdalokhjaaaDoor
/-! ## Package seal: what bytes are read as. -/
namespace Go.Proofs.YtollcdalokhjaaaDoor
open Go.RowKit

theorem only_newS {q r : Nat} {u v w : World} (h : Only q u v) (k : Only r v w) (hr : u.heap.size ≤ r) : Only q u w :=
  ⟨k.os.trans h.os, k.tape.trans h.tape, k.output.trans h.output, Nat.le_trans h.size k.size, fun b hb hq => (k.block b (Nat.lt_of_lt_of_le hb h.size) (by omega)).trans (h.block b hb hq)⟩
theorem only_box {q : Nat} {u v : World} (h : Only q u v) (o : Obj) : Only q u (v.alloc o) := Only.below_right h (below_boxS v o) h.size
theorem Only.drewS {q : Nat} {u v : World} (h : Only q u v) : Only q u v.drew := ⟨h.os, h.tape, h.output, h.size, h.block⟩
theorem info_sumS : (Tryd.prog.info? 33).map (·.size) = some 32 := info_sum
theorem elem_sumS : Tryd.prog.elem 33 = 5 := by kernel_rfl
theorem len_sumS : Tryd.prog.arrayLen 33 = 32 := by kernel_rfl
theorem slice_all32 (p : Nat) (w : World) : (Instr.sliceAt 33 (.pointer (some ⟨p, 0, none⟩)) none none none).run Tryd.prog w = .ok (.slice (some ⟨p, 0, none⟩) 32 32) w := by
  rw [run_sliceAt_array_all w 33 _ (by rw [len_sumS, elem_sumS]; exact Tryd.underlying33), elem_sumS, size_u8, len_sumS]
  simp only [Result.andThen, slicedAt, Nat.zero_mul, Nat.sub_zero]
  rw [if_neg (by decide), Addr.add_mid]

theorem pad32_cells (T : List UInt8) (_h : T.length ≤ 32) : ((z32.map u8V).take 0 ++ (((⟨T.toArray⟩ : ByteArray).data.toList.take T.length).map u8V ++ (z32.map u8V).drop (0 + (((⟨T.toArray⟩ : ByteArray).data.toList.take T.length).map u8V).length))) = (pad32 T).map u8V := by
  have e : (⟨T.toArray⟩ : ByteArray).data.toList.take T.length = T := List.take_length
  rw [e, List.take_zero, List.nil_append, Nat.zero_add, List.length_map, pad32, List.map_append, z32, List.map_replicate, List.map_replicate, List.drop_replicate]
theorem results_ctS {fn : Func} {t u : Tmp} {ty : TypeId} (h : fn.results = #[.cell t ty, .tmp u]) (tmps : Array Value) (P : Program) (w : World) {b : Nat} {cs : List Value} {d : TypeDesc} (ht : tmps.getD t undef = .pointer (some ⟨b, 0, none⟩)) (hc : w.rangeAt b 0 cs)
    (hu : P.underlying ty = some d) (hd : d.isRow = true) (hi : (P.info? ty).map (·.size) = some cs.length) : (results fn tmps).run P w = .ok (.tuple #[.agg cs.toArray, tmps.getD u undef]) w := by
  have := run_loadVar_mid w b 0 ty cs d hc hu hd hi
  rw [Array.getD_eq_getD_getElem?] at ht
  simp [results, h, ht, asAddr, this, Result.andThen]
theorem neq_err0S (w : World) : (binOp .neq 29 (.int .i64 0) (.int .i64 0)).run Tryd.prog w = .ok (.bool false) w := by go_simp
theorem neq_err1S (w : World) : (binOp .neq 29 (.int .i64 1) (.int .i64 0)).run Tryd.prog w = .ok (.bool true) w := by go_simp
theorem neq_txtS (a b : List UInt8) (w : World) : (binOp .neq 9 (.string (tB a)) (.string (tB b))).run Tryd.prog w = .ok (.bool (!decide (a = b))) w := by
  go_simp
  rw [Lib.toList_data, Lib.toList_data]
  by_cases h : a = b
  · subst h; simp [tB]
  · simp [h, tB]
theorem neq_txt_f (a b : List UInt8) (h : a = b) (w : World) : (binOp .neq 9 (.string (tB a)) (.string (tB b))).run Tryd.prog w = .ok (.bool false) w := by rw [neq_txtS, decide_eq_true h]; rfl
theorem neq_txt_t (a b : List UInt8) (h : a ≠ b) (w : World) : (binOp .neq 9 (.string (tB a)) (.string (tB b))).run Tryd.prog w = .ok (.bool true) w := by rw [neq_txtS, decide_eq_false h]; rfl
theorem cut_txt (b : UInt8) (t : List UInt8) (w : World) : (Instr.sliceAt 9 (.string (tB (b :: t))) (some (.int .i64 1)) none none).run Tryd.prog w = .ok (.string (tB t)) w := by
  have h1 : 1 ≤ (tB (b :: t)).size := by rw [tB_size]; simp
  have h2 : (tB (b :: t)).extract 1 (tB (b :: t)).size = tB t := by
    rw [Lib.extract_eq, tB_size]
    show tB _ = _
    simp [tB]
  go_simp
  all_goals first | exact h2 | omega | simp_all
theorem hdGetD_length (s : List UInt8) : (hdCs ((hdRd s).getD hd0)).length = 66 := by
  cases h : hdRd s with
  | none => rfl
  | some f => obtain ⟨-, h1, h2, -⟩ := (hdRd_iff _ _).1 h; exact hdCs_length h1 h2
theorem stGetD_length (s : List UInt8) : (stCs ((stRd s).getD st0)).length = 67 := by
  cases h : stRd s with
  | none => rfl
  | some f => obtain ⟨-, h1, h2, -⟩ := (stRd_iff _ _).1 h; exact stCs_length h1 h2
end Go.Proofs.YtollcdalokhjaaaDoor
/-! ## Package seal: leaves of freezes; heads and stones are made, and told right. -/
namespace Go.Proofs.YtollcdalokhjaaaDoor
open Go.RowKit

/-- The sum by the key of what is said, if it may be. -/
def sgn (K : List UInt8) (b : Bool) (l : List UInt8) : List UInt8 := if b then Mac.mac K l else z32
theorem sgn_length (K : List UInt8) (b : Bool) (l : List UInt8) : (sgn K b l).length = 32 := by
  unfold sgn
  split
  · exact Mac.mac_length _ _
  · exact z32_length
/-- A head, a stone, signed. -/
def hdMk (K : List UInt8) (s : Int) (r : List UInt8) (c : Int) : HdR := ⟨s, r, c, sgn K (hdB ⟨s, r, c, z32⟩) (hdL ⟨s, r, c, z32⟩)⟩
def stMk (K : List UInt8) (f : FzR) (t : Int) : StR := ⟨f, t, sgn K (stB ⟨f, t, z32⟩) (stL ⟨f, t, z32⟩)⟩
def fzLf (f : FzR) : List UInt8 := Tree.leafH (fzT f).data.toList

end Go.Proofs.YtollcdalokhjaaaDoor
/-! ## Package seal: Head and Stone. -/
namespace Go.Proofs.YtollcdalokhjaaaDoor
open Go.RowKit

theorem results_rowS {fn : Func} {t : Tmp} {ty : TypeId} (h : fn.results = #[.cell t ty]) (tmps : Array Value) (P : Program) (w : World) {b : Nat} {cs : List Value} {d : TypeDesc} (ht : tmps.getD t undef = .pointer (some ⟨b, 0, none⟩)) (hc : w.rangeAt b 0 cs)
    (hu : P.underlying ty = some d) (hd : d.isRow = true) (hi : (P.info? ty).map (·.size) = some cs.length) : (results fn tmps).run P w = .ok (.agg cs.toArray) w :=
  results_cell h tmps P w ht hc hu hd hi
theorem hdL_mac (s : Int) (r : List UInt8) (c : Int) (m : List UInt8) : hdL ⟨s, r, c, m⟩ = hdL ⟨s, r, c, z32⟩ := rfl
theorem hdB_mac (s : Int) (r : List UInt8) (c : Int) (m : List UInt8) : hdB ⟨s, r, c, m⟩ = hdB ⟨s, r, c, z32⟩ := rfl
theorem stL_mac (f : FzR) (t : Int) (m : List UInt8) : stL ⟨f, t, m⟩ = stL ⟨f, t, z32⟩ := rfl
theorem stB_mac (f : FzR) (t : Int) (m : List UInt8) : stB ⟨f, t, m⟩ = stB ⟨f, t, z32⟩ := rfl
end Go.Proofs.YtollcdalokhjaaaDoor
