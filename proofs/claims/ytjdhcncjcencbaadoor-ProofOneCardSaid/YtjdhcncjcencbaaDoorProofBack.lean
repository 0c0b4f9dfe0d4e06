/-
  The library's slices.Backward over booleans: what it hands to the loop's body, one behind the other.
-/
import Derived.Test.YtjdhcncjcencbaaDoorProofMem
import Derived.Test.YtjdhcncjcencbaaDoorGenSeq
namespace Go.Proofs.YtjdhcncjcencbaaDoor
open Go.RowKit Go.Shelf

attribute [local go_sem] Oper.semAt_some

/-- What has come when j rounds are over: the last j of them, the last one first. -/
def dnB (c : List Bool) (j : Nat) : List (Nat × Bool) := (List.range j).map fun i => (c.length - 1 - i, c.getD (c.length - 1 - i) false)
theorem dnB_succ (c : List Bool) (j : Nat) : dnB c (j + 1) = dnB c j ++ [(c.length - 1 - j, c.getD (c.length - 1 - j) false)] := by simp [dnB, List.range_succ]
theorem dnB_length (c : List Bool) (j : Nat) : (dnB c j).length = j := by simp [dnB]
theorem dnB_rev (c : List Bool) (j : Nat) (hj : j ≤ c.length) : (dnB c j).map (·.2) = c.reverse.take j := by
  apply List.ext_getElem?
  intro i
  by_cases hi : i < j
  · have h1 : i < c.length := by omega
    simp only [dnB, List.map_map, List.getElem?_map, List.getElem?_range hi, Option.map_some, Function.comp_def, List.getElem?_take_of_lt hi]
    rw [List.getElem?_reverse h1, List.getD_eq_getElem?_getD, List.getElem?_eq_getElem (by omega)]
    rfl
  · rw [List.getElem?_eq_none (by simp [dnB]; omega), List.getElem?_eq_none (by simp; omega)]

set_option maxRecDepth 100000 in
set_option maxHeartbeats 2000000 in
theorem bback1_in (F : Fence) (n : Nat) (h7 : F.fn 51) (hro : F.round = none) (hn : 1 ≤ n) (l Bs n₀ : Nat) (S : Nat → Prop) (g cap : Nat) (c : List Bool) (hreach : c.length ≤ 1000000) (hb : g < n₀) (hgr : ¬ S g) (hBr : ¬ S Bs) (J Jx : List (Nat × Bool) → World → Prop)
    (hY : ∀ pre x W, J pre W → pre = dnB c pre.length → x = (c.length - 1 - pre.length, c.getD (c.length - 1 - pre.length) false) → pre.length < c.length → YieldAt F (n - 1) Tryd.prog l #[.int .i64 (x.1 : Int), .bool x.2] W fun e W' =>
      (e = .returned (.bool true) ∧ J (pre ++ [x]) W' ∧ KeepS S n₀ W W') ∨ (e = .returned (.bool false) ∧ Jx (pre ++ [x]) W'))
    (W : World) (hBs : W.cell? ⟨Bs, 0, none⟩ = some (.slice (some ⟨g, 0, none⟩) c.length cap)) (hBn : Bs < n₀) (hc : ∀ (k : Nat) (x : Bool), c[k]? = some x → W.cell? ⟨g, k, none⟩ = some (.bool x)) (h0 : J [] W) :
    CallsIn F n Tryd.prog 51 #[.func (.yield l) #[] #[], .pointer (some ⟨Bs, 0, none⟩)] W fun e W' => (∃ v, e = .returned v) ∧
      ((∃ ys, ys = dnB c c.length ∧ J ys W') ∨ (∃ pre, (∃ k, k ≤ c.length ∧ pre = dnB c k) ∧ Jx pre W')) := by
  refine callsIn_of_wp Tryd.func51 rfl h7 ?_ hro
  simp only [Tryd.ntmps51, List.size_toArray, List.length_cons, List.length_nil, Nat.reduceAdd, Nat.reduceSub, Array.replicate_succ, Array.replicate_zero, List.push_toArray, List.append_toArray, List.nil_append, List.cons_append]
  gi_wp2
  gi_loopw [3] (fun i wr => ∃ k : Nat, k ≤ c.length ∧ ((k = 0 ∧ i = .int .i64 (-1)) ∨ ∃ m : Nat, k = m + 1 ∧ i = .int .i64 m) ∧ J (dnB c (c.length - k)) wr ∧ KeepS S n₀ W wr)
    (fun i _ => (intOf i + 1).toNat)
  case atStart =>
    refine ⟨c.length, Nat.le_refl _, ?_, by rw [Nat.sub_self]; exact h0, KeepS.refl _ _ _⟩
    by_cases h : c.length = 0
    · exact .inl ⟨h, by rw [h]; rfl⟩
    · exact .inr ⟨c.length - 1, by omega, by congr 1; omega⟩
  case round =>
    obtain ⟨k, hk, hi, hJs, hnx⟩ := hrel
    have hBs' : wr.cell? ⟨Bs, 0, none⟩ = some (.slice (some ⟨g, 0, none⟩) c.length cap) := (hnx.cell hBn hBr 0).trans hBs
    rcases hi with ⟨rfl, rfl⟩ | ⟨m, rfl, rfl⟩
    · gi_wp2
      go_end0
      exact ⟨⟨_, rfl⟩, .inl ⟨_, rfl, hJs⟩⟩
    · have hm : m < c.length := by omega
      obtain ⟨y, hy0⟩ : ∃ y, y = c.getD m false := ⟨_, rfl⟩
      have hye : c[m]? = some y := by rw [hy0, List.getD_eq_getElem?_getD, List.getElem?_eq_getElem hm]; rfl
      have c1 : wr.cell? ⟨g, m, none⟩ = some (.bool y) := (hnx.cell hb hgr m).trans (hc m y hye)
      have hidx := fun u => index_bools g 0 c.length cap m (m : Int) rfl hm u
      rw [Nat.zero_add] at hidx
      have hl1 : (dnB c (c.length - (m + 1))).length = c.length - (m + 1) := dnB_length _ _
      obtain ⟨fn, tmps, assign, body, hy, hR⟩ := hY _ (m, y) wr hJs (by rw [hl1]) (by rw [hl1, show c.length - 1 - (c.length - (m + 1)) = m by omega, hy0]) (by rw [hl1]; omega)
      dsimp only at hy
      have hs : dnB c (c.length - (m + 1)) ++ [(m, y)] = dnB c (c.length - m) := by
        have := dnB_succ c (c.length - (m + 1))
        rw [show c.length - (m + 1) + 1 = c.length - m by omega, show c.length - 1 - (c.length - (m + 1)) = m by omega, ← hy0] at this
        exact this.symm
      rw [hs] at hR
      clear hc hs hY hy0 hye hl1
      gi_wp2
      refine hR.mono ?_
      rintro e W3 (⟨rfl, hJ3, hk3⟩ | ⟨rfl, hJx3⟩)
      · gi_wp2
        go_roundw
        case rel =>
          refine ⟨m, by omega, ?_, hJ3, hnx.trans hk3⟩
          by_cases h : m = 0
          · exact .inl ⟨h, by rw [h]; rfl⟩
          · exact .inr ⟨m - 1, by omega, by congr 1; omega⟩
        case measure => simp [intOf]
      · gi_wp2
        refine bodyPost_ret (results_none rfl _ _ _) rfl ?_
        exact ⟨⟨_, rfl⟩, .inr ⟨_, ⟨c.length - m, by omega, rfl⟩, hJx3⟩⟩

set_option maxRecDepth 100000 in
set_option maxHeartbeats 1000000 in
/-- .. of nothing: no round. -/
theorem bback1_nil_in (F : Fence) (n : Nat) (h7 : F.fn 51) (hro : F.round = none) (l Bs : Nat) (a : Option Addr) (cap : Nat) (J : List (Nat × Bool) → World → Prop) (W : World) (hBs : W.cell? ⟨Bs, 0, none⟩ = some (.slice a 0 cap)) (h0 : J [] W) :
    CallsIn F n Tryd.prog 51 #[.func (.yield l) #[] #[], .pointer (some ⟨Bs, 0, none⟩)] W fun e W' => (∃ v, e = .returned v) ∧ J [] W' := by
  refine callsIn_of_wp Tryd.func51 rfl h7 ?_ hro
  simp only [Tryd.ntmps51, List.size_toArray, List.length_cons, List.length_nil, Nat.reduceAdd, Nat.reduceSub, Array.replicate_succ, Array.replicate_zero, List.push_toArray, List.append_toArray, List.nil_append, List.cons_append]
  gi_wp2
  gi_loopw [3] (fun i wr => i = .int .i64 (-1) ∧ J [] wr) (fun _ _ => 0)
  case atStart => exact ⟨rfl, h0⟩
  case round =>
    obtain ⟨rfl, hJs⟩ := hrel
    gi_wp2
    go_end0
    exact ⟨⟨_, rfl⟩, hJs⟩

set_option maxHeartbeats 1000000 in
theorem bback_in (F : Fence) (n : Nat) (h5 : F.fn 36) (hro : F.round = none) (a : Option Addr) (len cap : Nat) (w : World) :
    CallsIn F n Tryd.prog 36 #[.slice a len cap] w fun e w' => e = .returned (.func (.func 51) #[] #[.pointer (some ⟨w.heap.size, 0, none⟩)]) ∧ w' = w.alloc (.cells #[.slice a len cap] 45) := by
  refine callsIn_of_wp Tryd.func36 rfl h5 ?_ hro
  simp only [Tryd.ntmps36, List.size_toArray, List.length_cons, List.length_nil, Nat.reduceAdd, Nat.reduceSub, Array.replicate_succ, Array.replicate_zero, List.push_toArray, List.append_toArray, List.nil_append, List.cons_append]
  gi_wp2
  go_ret
  exact ⟨rfl, rfl⟩

/-- The next one that comes. -/
def nxB (c : List Bool) (pre : List (Nat × Bool)) (x : Nat × Bool) : Prop := pre = dnB c pre.length ∧ x = (c.length - 1 - pre.length, c.getD (c.length - 1 - pre.length) false)
theorem bback_stops (F : Fence) (n : Nat) (h7 : F.fn 51) (hro : F.round = none) (hn : 1 ≤ n) (Bs n₀ : Nat) (S : Nat → Prop) (cv : Value) (c : List Bool) (hreach : c.length ≤ 1000000) (w : World) (hBs : Bs < n₀) (hn₀ : n₀ ≤ w.heap.size)
    (hc : w.cell? ⟨Bs, 0, none⟩ = some cv) (B : Nat) (hI : OwnB B w cv c) (hBr : ¬ S Bs) (hgr : ∀ g, B ≤ g → g < w.heap.size → cv.ownBlock = some g → g < n₀ ∧ ¬ S g) :
    SeqStopsK F n Tryd.prog 51 #[.pointer (some ⟨Bs, 0, none⟩)] (fun x : Nat × Bool => #[Value.int .i64 (x.1 : Int), .bool x.2]) (KeepS S n₀) (fun ys => ys = dnB c c.length)
      (fun pre => ∃ k, k ≤ c.length ∧ pre = dnB c k) c.length w := fun l J Jx W hW _ _ hY h0 => by
  have hc' := (hW.cell (p := ⟨Bs, 0, none⟩) (by show Bs < w.heap.size; omega)).trans hc
  obtain ⟨a, cap, rfl, -, -⟩ := hI.bools.slice
  by_cases hx : c.length = 0
  · obtain rfl := List.eq_nil_of_length_eq_zero hx
    exact (bback1_nil_in F n h7 hro l Bs a cap J W hc' h0).mono fun e W' ⟨he, hj⟩ => ⟨he, .inl ⟨_, rfl, hj⟩⟩
  · obtain ⟨g, rfl, hb, hg2, -, -⟩ := hI.at0 (List.getElem?_eq_getElem (show 0 < c.length by omega))
    obtain ⟨hbn, hgs⟩ := hgr g hb hg2 rfl
    refine bback1_in F n h7 hro hn l Bs n₀ S g cap c hreach hbn hgs hBr J Jx (fun pre x W' hJ _ _ hlt => hY pre x W' hJ hlt) W hc' hBs (fun k x hk => ?_) h0
    obtain ⟨g', e, -, -, -, hr⟩ := hI.at0 hk
    injection e with e
    injection e with e1
    subst e1
    exact (hW.cell (p := ⟨g, k, none⟩) (by show g < w.heap.size; omega)).trans hr
end Go.Proofs.YtjdhcncjcencbaaDoor
