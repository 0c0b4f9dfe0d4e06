/-
  The library's slices.Backward over hashes: what it hands to the loop's body, one behind the other.
-/
import Derived.Test.YtgiakpnkidblpaaDoorFrontPeaks
import Derived.RangeFuncNested
import Derived.RangeFuncBound
import Derived.RangeFuncCalls
import Derived.RangeFuncLeaves
import Derived.Shelf.Abstract
import Derived.Shelf.RegionOpen
import Derived.WalkKit
import Derived.OwnWalkIn
import Derived.TacticsInMore
import Derived.LoopNIn
import Derived.LoopIn
namespace Go.Proofs.YtgiakpnkidblpaaDoor
open Go.RowKit Go.Shelf

attribute [local go_sem] Oper.semAt_some

/-- What has come when j rounds are over: the last j hashes, the last one first. -/
def dnS (c : Hs) (j : Nat) : List (Nat × List UInt8) := (List.range j).map fun i => (c.length - 1 - i, c.getD (c.length - 1 - i) [])
theorem dnS_succ (c : Hs) (j : Nat) : dnS c (j + 1) = dnS c j ++ [(c.length - 1 - j, c.getD (c.length - 1 - j) [])] := by simp [dnS, List.range_succ]
theorem dnS_length (c : Hs) (j : Nat) : (dnS c j).length = j := by simp [dnS]
theorem dnS_fold (f : List UInt8 → List UInt8 → List UInt8) (c : Hs) : ∀ (j : Nat) (p : List UInt8), j ≤ c.length → (dnS c j).foldl (fun r x => f x.2 r) p = (c.drop (c.length - j)).foldr f p
  | 0, p, _ => by simp [dnS]
  | j + 1, p, h => by
    have e : c.drop (c.length - (j + 1)) = c.getD (c.length - 1 - j) [] :: c.drop (c.length - j) := by
      rw [List.drop_eq_getElem_cons (by omega), show c.length - (j + 1) + 1 = c.length - j by omega]
      congr 1
      rw [List.getD_eq_getElem?_getD, show c.length - 1 - j = c.length - (j + 1) by omega, List.getElem?_eq_getElem (by omega)]
      rfl
    rw [dnS_succ, List.foldl_append, dnS_fold f c j p (by omega), e]
    rfl
theorem rootP_fold (c : Hs) (p : List UInt8) : Tree.rootP (c ++ [p]) = c.foldr Tree.node p := by
  induction c with
  | nil => rfl
  | cons a c ih =>
    rw [List.cons_append, Tree.rootP_cons _ _ (by simp), ih]
    rfl
def pad32 (y : List UInt8) : List UInt8 := if y.length = 32 then y else List.replicate 32 0
theorem pad32_of {y : List UInt8} (h : y.length = 32) : pad32 y = y := if_pos h
theorem pad32_length (y : List UInt8) : (pad32 y).length = 32 := by
  unfold pad32
  split
  · assumption
  · rw [List.length_replicate]
theorem foldr_pad (c : Hs) (h : all32 c) (p : List UInt8) : c.foldr (fun a b => Tree.node (pad32 a) b) p = c.foldr Tree.node p := by
  induction c with
  | nil => rfl
  | cons a c ih => rw [List.foldr_cons, List.foldr_cons, ih (fun x hx => h x (by simp [hx])), pad32_of (h a (by simp))]
theorem load_sumT {w : World} {g o : Nat} {x : List UInt8} (hx : x.length = 32) (h : w.rangeAt g o (x.map u8V)) : (Instr.loadAt 31 (.pointer (some ⟨g, o, none⟩))).run Tryd.prog w = .ok (sumV x) w :=
  run_loadAt_mid _ _ _ _ _ _ h Tryd.underlying31 rfl (sum_info' hx)

section
variable {F : Fence} {n : Nat} {P : Program} {ops : Array Oper} {rest : List Oper} {o : Oper} {a : Act} {w w' : World} {Q : Exit → Act → World → Prop}
theorem wpListIn_ld (hg : o.guard = none) (t : TypeId) (x : Operand) (hop : o.op = .load t x) {u r : Value} (hx : a.eval x = u) (hr : (Instr.loadAt t u).run P w = .ok r w) (h : wpListIn F n P ops Q rest (a.put o.dst r) w) : wpListIn F n P ops Q (o :: rest) a w := by
  refine wpListIn_plain hg fun K hK' => ?_
  unfold Oper.wpIn
  refine ⟨?_, ?_⟩
  · simp [Oper.about, hop]
  · rw [Oper.semAt_plain F _ _ (by rw [hop]; intro c hc'; cases hc')]
    simp [execOp, hop, hx, hr, Result.andThen]
    exact hK' _ _ h
theorem wpListIn_st (hg : o.guard = none) (t : TypeId) (x y : Operand) (hop : o.op = .store t x y) {u v : Value} (hx : a.eval x = u) (hy : a.eval y = v) (hr : (Instr.storeAt t u v).run P w = .ok () w') (h : wpListIn F n P ops Q rest (a.put o.dst undef) w') : wpListIn F n P ops Q (o :: rest) a w := by
  refine wpListIn_plain hg fun K hK' => ?_
  unfold Oper.wpIn
  refine ⟨?_, ?_⟩
  · simp [Oper.about, hop]
  · rw [Oper.semAt_plain F _ _ (by rw [hop]; intro c hc'; cases hc')]
    simp [execOp, hop, hx, hy, hr, Result.andThen]
    exact hK' _ _ h
end
/-- Below n₀ nothing but block rb turns. -/
def KeepX (rb n₀ : Nat) (A B : World) : Prop := A.heap.size ≤ B.heap.size ∧ ∀ i, i < n₀ → i ≠ rb → B.heap[i]? = A.heap[i]?
theorem KeepX.refl (rb n₀ : Nat) (A : World) : KeepX rb n₀ A A := ⟨Nat.le_refl _, fun _ _ _ => rfl⟩
theorem KeepX.trans {rb n₀ : Nat} {A B C : World} (h : KeepX rb n₀ A B) (k : KeepX rb n₀ B C) : KeepX rb n₀ A C := ⟨Nat.le_trans h.1 k.1, fun i hi hr => (k.2 i hi hr).trans (h.2 i hi hr)⟩
theorem KeepX.cell {rb n₀ : Nat} {A B : World} (h : KeepX rb n₀ A B) {i : Nat} (hi : i < n₀) (hr : i ≠ rb) (o : Nat) : B.cell? ⟨i, o, none⟩ = A.cell? ⟨i, o, none⟩ := World.cell?_of_block (w := A) (h.2 i hi hr)
theorem KeepX.range {rb n₀ : Nat} {A B : World} (h : KeepX rb n₀ A B) {i o : Nat} (hi : i < n₀) (hr : i ≠ rb) {cs : List Value} (r : A.rangeAt i o cs) : B.rangeAt i o cs := fun j v hv => (h.cell hi hr (o + j)).trans (r j v hv)
theorem KeepX.below {rb n₀ : Nat} {A B : World} (h : Below n₀ A B) : KeepX rb n₀ A B := ⟨h.size, fun i hi _ => h.block i hi⟩
theorem KeepX.put {rb n₀ : Nat} {w : World} (hn : n₀ ≤ w.heap.size) (W : World) (l : Nat) (o o' : Obj) (hl : w.heap.size ≤ l) (h : W.heap[l]? = some o) (h1 : o.isCells = false) (h2 : o.isWalk = false) : KeepX rb n₀ W (W.putObj l o') := KeepX.below (belowK_b hn W l o o' hl h h1 h2)

set_option maxRecDepth 100000 in
set_option maxHeartbeats 2000000 in
theorem back1_in (F : Fence) (n : Nat) (h7 : F.fn 51) (hro : F.round = none) (hn : 1 ≤ n) (l Bs n₀ rb g off cap : Nat) (c : Hs) (hreach : c.length ≤ 1000000) (hb : g < n₀) (hgr : g ≠ rb) (hBr : Bs ≠ rb) (J Jx : List (Nat × List UInt8) → World → Prop)
    (hY : ∀ pre x W, x.2.length = 32 → J pre W → pre.length < c.length → YieldAt F (n - 1) Tryd.prog l #[.int .i64 (x.1 : Int), sumV x.2] W fun e W' =>
      (e = .returned (.bool true) ∧ J (pre ++ [x]) W' ∧ KeepX rb n₀ W W') ∨ (e = .returned (.bool false) ∧ Jx (pre ++ [x]) W'))
    (W : World) (hBs : W.cell? ⟨Bs, 0, none⟩ = some (.slice (some ⟨g, off, none⟩) c.length cap)) (hBn : Bs < n₀) (hok : all32 c) (hc : ∀ k (hk : k < c.length), W.rangeAt g (off + k * 32) (c[k].map u8V)) (h0 : J [] W) :
    CallsIn F n Tryd.prog 51 #[.func (.yield l) #[] #[], .pointer (some ⟨Bs, 0, none⟩)] W fun e W' => (∃ v, e = .returned v) ∧
      ((∃ ys, ys = dnS c c.length ∧ J ys W') ∨ (∃ pre, (∃ k, k ≤ c.length ∧ pre = dnS c k) ∧ Jx pre W')) := by
  refine callsIn_of_wp Tryd.func51 rfl h7 ?_ hro
  simp only [Tryd.ntmps51, List.size_toArray, List.length_cons, List.length_nil, Nat.reduceAdd, Nat.reduceSub, Array.replicate_succ, Array.replicate_zero, List.push_toArray, List.append_toArray, List.nil_append, List.cons_append]
  gi_wp2
  gi_loopw [3] (fun i wr => ∃ k : Nat, k ≤ c.length ∧ ((k = 0 ∧ i = .int .i64 (-1)) ∨ ∃ m : Nat, k = m + 1 ∧ i = .int .i64 m) ∧ J (dnS c (c.length - k)) wr ∧ KeepX rb n₀ W wr)
    (fun i _ => (intOf i + 1).toNat)
  case atStart =>
    refine ⟨c.length, Nat.le_refl _, ?_, by rw [Nat.sub_self]; exact h0, KeepX.refl _ _ _⟩
    by_cases h : c.length = 0
    · exact .inl ⟨h, by rw [h]; rfl⟩
    · exact .inr ⟨c.length - 1, by omega, by congr 1; omega⟩
  case round =>
    obtain ⟨k, hk, hi, hJs, hnx⟩ := hrel
    have hBs' : wr.cell? ⟨Bs, 0, none⟩ = some (.slice (some ⟨g, off, none⟩) c.length cap) := (hnx.cell hBn hBr 0).trans hBs
    rcases hi with ⟨rfl, rfl⟩ | ⟨m, rfl, rfl⟩
    · gi_wp2
      go_end0
      exact ⟨⟨_, rfl⟩, .inl ⟨_, rfl, hJs⟩⟩
    · have hm : m < c.length := by omega
      obtain ⟨y, hy0⟩ : ∃ y, y = c.getD m [] := ⟨_, rfl⟩
      have hye : y = c[m] := by rw [hy0, List.getD_eq_getElem?_getD, List.getElem?_eq_getElem hm]; rfl
      have hyl : y.length = 32 := by rw [hye]; exact hok _ (List.getElem_mem _)
      have c1 : wr.rangeAt g (off + m * 32) (y.map u8V) := by rw [hye]; exact hnx.range hb hgr (hc m hm)
      have HY1 := Lib.hid hyl
      have HC1 := Lib.hid c1
      have hidx := fun u => index_sums g off c.length cap m hm u
      obtain ⟨fn, tmps, assign, body, hy, hR⟩ := hY _ (m, y) wr hyl hJs (by rw [dnS_length]; omega)
      dsimp only at hy
      have hs : dnS c (c.length - (m + 1)) ++ [(m, y)] = dnS c (c.length - m) := by
        have := dnS_succ c (c.length - (m + 1))
        rw [show c.length - (m + 1) + 1 = c.length - m by omega, show c.length - 1 - (c.length - (m + 1)) = m by omega, ← hy0] at this
        exact this.symm
      rw [hs] at hR
      clear hc hs hY hy0 hye hyl c1
      gi_wp2_with (refine wpListIn_ld rfl 31 (.tmp 15) rfl rfl (load_sumT HY1.out HC1.out) ?_)
      refine hR.mono ?_
      rintro e W3 (⟨rfl, hJ3, hk3⟩ | ⟨rfl, hJx3⟩)
      · gi_wp2
        go_roundw
        case rel =>
          refine ⟨m, by omega, ?_, hJ3, hnx.trans hk3⟩
          by_cases h : m = 0
          · exact .inl ⟨h, by rw [h]; rfl⟩
          · exact .inr ⟨m - 1, by omega, by congr 1; omega⟩
        case measure => simp [intOf]
      · gi_wp2
        refine bodyPost_ret (results_none rfl _ _ _) rfl ?_
        exact ⟨⟨_, rfl⟩, .inr ⟨_, ⟨c.length - m, by omega, rfl⟩, hJx3⟩⟩

set_option maxRecDepth 100000 in
set_option maxHeartbeats 1000000 in
/-- .. of an empty cache: no round. -/
theorem back1_nil_in (F : Fence) (n : Nat) (h7 : F.fn 51) (hro : F.round = none) (l Bs : Nat) (a : Option Addr) (cap : Nat) (J : List (Nat × List UInt8) → World → Prop) (W : World) (hBs : W.cell? ⟨Bs, 0, none⟩ = some (.slice a 0 cap)) (h0 : J [] W) :
    CallsIn F n Tryd.prog 51 #[.func (.yield l) #[] #[], .pointer (some ⟨Bs, 0, none⟩)] W fun e W' => (∃ v, e = .returned v) ∧ J [] W' := by
  refine callsIn_of_wp Tryd.func51 rfl h7 ?_ hro
  simp only [Tryd.ntmps51, List.size_toArray, List.length_cons, List.length_nil, Nat.reduceAdd, Nat.reduceSub, Array.replicate_succ, Array.replicate_zero, List.push_toArray, List.append_toArray, List.nil_append, List.cons_append]
  gi_wp2
  gi_loopw [3] (fun i wr => i = .int .i64 (-1) ∧ J [] wr) (fun _ _ => 0)
  case atStart => exact ⟨rfl, h0⟩
  case round =>
    obtain ⟨rfl, hJs⟩ := hrel
    gi_wp2
    go_end0
    exact ⟨⟨_, rfl⟩, hJs⟩

set_option maxHeartbeats 1000000 in
theorem back_in (F : Fence) (n : Nat) (h5 : F.fn 30) (hro : F.round = none) (a : Option Addr) (len cap : Nat) (w : World) :
    CallsIn F n Tryd.prog 30 #[.slice a len cap] w fun e w' => e = .returned (.func (.func 51) #[] #[.pointer (some ⟨w.heap.size, 0, none⟩)]) ∧ w' = w.alloc (.cells #[.slice a len cap] 22) := by
  refine callsIn_of_wp Tryd.func30 rfl h5 ?_ hro
  simp only [Tryd.ntmps30, List.size_toArray, List.length_cons, List.length_nil, Nat.reduceAdd, Nat.reduceSub, Array.replicate_succ, Array.replicate_zero, List.push_toArray, List.append_toArray, List.nil_append, List.cons_append]
  gi_wp2
  go_ret
  exact ⟨rfl, rfl⟩

theorem back_stops (F : Fence) (n : Nat) (h7 : F.fn 51) (hro : F.round = none) (hn : 1 ≤ n) (Bs n₀ : Nat) (cv : Value) (c : Hs) (hreach : c.length ≤ 1000000) (w : World) (hBs : Bs < n₀) (hn₀ : n₀ ≤ w.heap.size)
    (hc : w.cell? ⟨Bs, 0, none⟩ = some cv) (hI : SumsB n₀ w cv c) (rb : Nat) (hBr : Bs ≠ rb) (hgr : ∀ g off n c', cv = .slice (some ⟨g, off, none⟩) n c' → g ≠ rb) :
    SeqStopsK F n Tryd.prog 51 #[.pointer (some ⟨Bs, 0, none⟩)] (fun x : Nat × List UInt8 => #[Value.int .i64 (x.1 : Int), sumV (pad32 x.2)]) (KeepX rb n₀) (fun ys => ys = dnS c c.length)
      (fun pre => ∃ k, k ≤ c.length ∧ pre = dnS c k) c.length w := fun l J Jx W hW _ _ hY h0 => by
  have hc' := (hW.cell (p := ⟨Bs, 0, none⟩) (by show Bs < w.heap.size; omega)).trans hc
  obtain ⟨a, cap, rfl, -, -⟩ := hI.1.slice
  by_cases hx : c.length = 0
  · obtain rfl := List.eq_nil_of_length_eq_zero hx
    exact (back1_nil_in F n h7 hro l Bs a cap J W hc' h0).mono fun e W' ⟨he, hj⟩ => ⟨he, .inl ⟨_, rfl, hj⟩⟩
  · obtain ⟨b, off, rfl, hb, -, -⟩ := hI.1.at 0 (by omega)
    have hbn := hI.2 b off _ _ rfl (by omega)
    refine back1_in F n h7 hro hn l Bs n₀ rb b off cap c hreach hbn (hgr b off _ _ rfl) hBr J Jx (fun pre x W' hx32 hJ hlt => by have := hY pre x W' hJ hlt; dsimp only at this; rw [pad32_of hx32] at this; exact this) W hc' hBs hI.1.ok (fun k hk => ?_) h0
    obtain ⟨b', off', e, -, -, hr⟩ := hI.1.at k hk
    injection e with e
    injection e with e1 e2 _
    subst e1 e2
    exact below_range' hW hb hr
end Go.Proofs.YtgiakpnkidblpaaDoor
