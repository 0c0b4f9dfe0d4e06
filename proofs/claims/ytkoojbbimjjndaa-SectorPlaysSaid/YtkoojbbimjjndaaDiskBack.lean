/-
  The library's slices.Backward over the cache's writes: what it hands to the loop's body, one behind the other.
-/
import Derived.Test.YtkoojbbimjjndaaDiskMem
import Derived.RangeFuncNested
import Derived.RangeFuncBound
import Derived.RangeFuncCalls
import Derived.RangeFuncLeaves
import Derived.Shelf.Abstract
import Derived.Shelf.RegionOpen
import Derived.WalkKit
import Derived.OwnWalkIn
import Derived.TacticsInMore
import Derived.LoopNIn
import Derived.LoopIn
namespace Go.Proofs.Ytkoojbbimjjndaa
open Go.RowKit Go.Shelf Dsk

attribute [local go_sem] Oper.semAt_some

/-- What has come when j rounds are over: the last j writes, the last one first. -/
def dn (c : List (Nat × ByteArray)) (j : Nat) : List (Nat × (Nat × ByteArray)) := (List.range j).map fun i => (c.length - 1 - i, cAt c (c.length - 1 - i))
theorem dn_succ (c : List (Nat × ByteArray)) (j : Nat) : dn c (j + 1) = dn c j ++ [(c.length - 1 - j, cAt c (c.length - 1 - j))] := by simp [dn, List.range_succ]
theorem dn_length (c : List (Nat × ByteArray)) (j : Nat) : (dn c j).length = j := by simp [dn]
def encP (x : Nat × (Nat × ByteArray)) : Array Value := #[.int .i64 (x.1 : Int), .agg #[.int .i64 (x.2.1 : Int), .string x.2.2]]

set_option maxRecDepth 100000 in
set_option maxHeartbeats 2000000 in
theorem back1_in (F : Fence) (n : Nat) (h7 : F.fn 70) (hro : F.round = none) (hn : 1 ≤ n) (l Bs n₀ g cap : Nat) (c : List (Nat × ByteArray)) (hreach : c.length ≤ 1000000) (hb : g < n₀) (J Jx : List (Nat × (Nat × ByteArray)) → World → Prop)
    (hY : ∀ pre x W, J pre W → pre.length < c.length → YieldAt F (n - 1) Try.prog l #[.int .i64 (x.1 : Int), .agg #[.int .i64 (x.2.1 : Int), .string x.2.2]] W fun e W' =>
      (e = .returned (.bool true) ∧ J (pre ++ [x]) W' ∧ Below n₀ W W') ∨ (e = .returned (.bool false) ∧ Jx (pre ++ [x]) W'))
    (W : World) (hBs : W.cell? ⟨Bs, 0, none⟩ = some (.slice (some ⟨g, 0, none⟩) c.length cap)) (hBn : Bs < n₀) (hc : ∀ k, k < c.length → W.cell? ⟨g, k * 2, none⟩ = some (.int .i64 (cAt c k).1) ∧ W.cell? ⟨g, k * 2 + 1, none⟩ = some (.string (cAt c k).2)) (h0 : J [] W) :
    CallsIn F n Try.prog 70 #[.func (.yield l) #[] #[], .pointer (some ⟨Bs, 0, none⟩)] W fun e W' => (∃ v, e = .returned v) ∧
      ((∃ ys, ys = dn c c.length ∧ J ys W') ∨ (∃ pre, (∃ k, k ≤ c.length ∧ pre = dn c k) ∧ Jx pre W')) := by
  refine callsIn_of_wp Try.func70 rfl h7 ?_ hro
  simp only [Try.ntmps70, List.size_toArray, List.length_cons, List.length_nil, Nat.reduceAdd, Nat.reduceSub, Array.replicate_succ, Array.replicate_zero, List.push_toArray, List.append_toArray, List.nil_append, List.cons_append]
  gi_wp2
  gi_loopw [3] (fun i wr => ∃ k : Nat, k ≤ c.length ∧ ((k = 0 ∧ i = .int .i64 (-1)) ∨ ∃ m : Nat, k = m + 1 ∧ i = .int .i64 m) ∧ J (dn c (c.length - k)) wr ∧ Below n₀ W wr)
    (fun i _ => (intOf i + 1).toNat)
  case atStart =>
    refine ⟨c.length, Nat.le_refl _, ?_, by rw [Nat.sub_self]; exact h0, Below.refl _ _⟩
    by_cases h : c.length = 0
    · exact .inl ⟨h, by rw [h]; rfl⟩
    · exact .inr ⟨c.length - 1, by omega, by congr 1; omega⟩
  case round =>
    obtain ⟨k, hk, hi, hJs, hnx⟩ := hrel
    have hBs' : wr.cell? ⟨Bs, 0, none⟩ = some (.slice (some ⟨g, 0, none⟩) c.length cap) := (hnx.cell (p := ⟨Bs, 0, none⟩) hBn).trans hBs
    rcases hi with ⟨rfl, rfl⟩ | ⟨m, rfl, rfl⟩
    · gi_wp2
      go_end0
      exact ⟨⟨_, rfl⟩, .inl ⟨_, rfl, hJs⟩⟩
    · have hm : m < c.length := by omega
      obtain ⟨e1, e2⟩ := hc m hm
      have c1 : wr.cell? ⟨g, m * 2, none⟩ = some (.int .i64 (cAt c m).1) := (hnx.cell (p := ⟨g, m * 2, none⟩) hb).trans e1
      have c2 : wr.cell? ⟨g, m * 2 + 1, none⟩ = some (.string (cAt c m).2) := (hnx.cell (p := ⟨g, m * 2 + 1, none⟩) hb).trans e2
      obtain ⟨fn, tmps, assign, body, hy, hR⟩ := hY _ (m, cAt c m) wr hJs (by rw [dn_length]; omega)
      dsimp only at hy
      have hs : dn c (c.length - (m + 1)) ++ [(m, cAt c m)] = dn c (c.length - m) := by
        have := dn_succ c (c.length - (m + 1))
        rw [show c.length - (m + 1) + 1 = c.length - m by omega, show c.length - 1 - (c.length - (m + 1)) = m by omega] at this
        exact this.symm
      rw [hs] at hR
      clear hc e1 e2 hs hY
      gi_wp2
      refine hR.mono ?_
      rintro e W3 (⟨rfl, hJ3, hk3⟩ | ⟨rfl, hJx3⟩)
      · gi_wp2
        go_roundw
        case rel =>
          refine ⟨m, by omega, ?_, hJ3, hnx.trans hk3⟩
          by_cases h : m = 0
          · exact .inl ⟨h, by rw [h]; rfl⟩
          · exact .inr ⟨m - 1, by omega, by congr 1; omega⟩
        case measure => simp [intOf]
      · gi_wp2
        refine bodyPost_ret (results_none rfl _ _ _) rfl ?_
        exact ⟨⟨_, rfl⟩, .inr ⟨_, ⟨c.length - m, by omega, rfl⟩, hJx3⟩⟩

set_option maxRecDepth 100000 in
set_option maxHeartbeats 1000000 in
/-- .. of an empty cache: no round. -/
theorem back1_nil_in (F : Fence) (n : Nat) (h7 : F.fn 70) (hro : F.round = none) (l Bs : Nat) (a : Option Addr) (cap : Nat) (J : List (Nat × (Nat × ByteArray)) → World → Prop) (W : World) (hBs : W.cell? ⟨Bs, 0, none⟩ = some (.slice a 0 cap)) (h0 : J [] W) :
    CallsIn F n Try.prog 70 #[.func (.yield l) #[] #[], .pointer (some ⟨Bs, 0, none⟩)] W fun e W' => (∃ v, e = .returned v) ∧ J [] W' := by
  refine callsIn_of_wp Try.func70 rfl h7 ?_ hro
  simp only [Try.ntmps70, List.size_toArray, List.length_cons, List.length_nil, Nat.reduceAdd, Nat.reduceSub, Array.replicate_succ, Array.replicate_zero, List.push_toArray, List.append_toArray, List.nil_append, List.cons_append]
  gi_wp2
  gi_loopw [3] (fun i wr => i = .int .i64 (-1) ∧ J [] wr) (fun _ _ => 0)
  case atStart => exact ⟨rfl, h0⟩
  case round =>
    obtain ⟨rfl, hJs⟩ := hrel
    gi_wp2
    go_end0
    exact ⟨⟨_, rfl⟩, hJs⟩

set_option maxHeartbeats 1000000 in
theorem back_in (F : Fence) (n : Nat) (h5 : F.fn 60) (hro : F.round = none) (a : Option Addr) (len cap : Nat) (w : World) :
    CallsIn F n Try.prog 60 #[.slice a len cap] w fun e w' => e = .returned (.func (.func 70) #[] #[.pointer (some ⟨w.heap.size, 0, none⟩)]) ∧ w' = w.alloc (.cells #[.slice a len cap] 47) := by
  refine callsIn_of_wp Try.func60 rfl h5 ?_ hro
  simp only [Try.ntmps60, List.size_toArray, List.length_cons, List.length_nil, Nat.reduceAdd, Nat.reduceSub, Array.replicate_succ, Array.replicate_zero, List.push_toArray, List.append_toArray, List.nil_append, List.cons_append]
  gi_wp2
  go_ret
  exact ⟨rfl, rfl⟩

theorem back_stops (F : Fence) (n : Nat) (h7 : F.fn 70) (hro : F.round = none) (hn : 1 ≤ n) (Bs n₀ : Nat) (cv : Value) (c : List (Nat × ByteArray)) (hreach : c.length ≤ 1000000) (w : World) (hBs : Bs < n₀) (hn₀ : n₀ ≤ w.heap.size)
    (hc : w.cell? ⟨Bs, 0, none⟩ = some cv) (hI : CacheAt cv c w) (hg : ∀ k, cv.ownBlock = some k → k < n₀) :
    SeqStopsK F n Try.prog 70 #[.pointer (some ⟨Bs, 0, none⟩)] (fun x : Nat × (Nat × ByteArray) => #[Value.int .i64 (x.1 : Int), .agg #[.int .i64 (x.2.1 : Int), .string x.2.2]]) (Below n₀) (fun ys => ys = dn c c.length)
      (fun pre => ∃ k, k ≤ c.length ∧ pre = dn c k) c.length w := fun l J Jx W hW _ _ hY h0 => by
  have hc' := (hW.cell (p := ⟨Bs, 0, none⟩) (by show Bs < w.heap.size; omega)).trans hc
  by_cases hx : c = []
  · subst hx
    obtain ⟨a, cap, rfl⟩ := hI.slice
    exact (back1_nil_in F n h7 hro l Bs a cap J W hc' h0).mono fun e W' ⟨he, hj⟩ => ⟨he, .inl ⟨_, rfl, hj⟩⟩
  · obtain ⟨g, cap, rfl, hgg, hlt, hcs⟩ := hI.cells hx
    exact back1_in F n h7 hro hn l Bs n₀ g cap c hreach (hg g hgg) J Jx hY W hc' hBs (fun k hk => ⟨(hW.cell (p := ⟨g, k * 2, none⟩) hlt).trans (hcs k hk).1, (hW.cell (p := ⟨g, k * 2 + 1, none⟩) hlt).trans (hcs k hk).2⟩) h0
end Go.Proofs.Ytkoojbbimjjndaa
