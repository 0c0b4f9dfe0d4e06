/-
  Package twin: two lists side by side: what is handed to the loop's body, one place behind the other.
-/
import Derived.Test.YtdcebdleneieeaaDoorTwinText
import Derived.Test.YtdcebdleneieeaaDoorMSeq
namespace Go.Proofs.YtdcebdleneieeaaDoor
open Go.RowKit Go.Shelf

attribute [local go_sem] Oper.semAt_some

/-- The text at a place. -/
def tAt (A : Ts) (i : Nat) : List UInt8 := A.getD i []
theorem tAt_get {A : Ts} {i : Nat} (h : i < A.length) : A[i]? = some (tAt A i) := by
  unfold tAt
  rw [List.getD_eq_getElem?_getD, List.getElem?_eq_getElem h]
  rfl
/-- Where both have a place. -/
def places (A B : Ts) : Nat := min A.length B.length

set_option maxRecDepth 100000 in
set_option maxHeartbeats 2000000 in
theorem side1_in (n : Nat) (hn : 1 ≤ n) (l pa pb n₀ : Nat) (va vb : Value) (A B : Ts) (hA : A.length ≤ 1000000) (hB : B.length ≤ 1000000) (hpa : pa < n₀) (hpb : pb < n₀) (J Jx : List Nat → World → Prop) (w : World) (hn₀ : n₀ ≤ w.heap.size) (hta : Texts w va A) (htb : Texts w vb B) (hga : 0 < A.length → ∀ b off n c, va = .slice (some ⟨b, off, none⟩) n c → b < n₀) (hgb : 0 < B.length → ∀ b off n c, vb = .slice (some ⟨b, off, none⟩) n c → b < n₀)
    (hY : ∀ pre x W, J pre W → pre.length < places A B → YieldAt Fence.wide (n - 1) Tryd.prog l #[tV (tAt A x), tV (tAt B x)] W fun e W' =>
      (e = .returned (.bool true) ∧ J (pre ++ [x]) W' ∧ Below n₀ W W') ∨ (e = .returned (.bool false) ∧ Jx (pre ++ [x]) W'))
    (W : World) (hW : Below w.heap.size w W) (hca : w.cell? ⟨pa, 0, none⟩ = some va) (hcb : w.cell? ⟨pb, 0, none⟩ = some vb) (hJd : ∀ pre W, J pre W → J pre W.drew) (h0 : J [] W) :
    CallsIn Fence.wide n Tryd.prog 69 #[.func (.yield l) #[] #[], .pointer (some ⟨pa, 0, none⟩), .pointer (some ⟨pb, 0, none⟩)] W fun e W' => (∃ v, e = .returned v) ∧
      ((∃ ys, ys = List.range (places A B) ∧ J ys W') ∨ (∃ pre, (∃ k, k ≤ places A B ∧ pre = List.range k) ∧ Jx pre W')) := by
  obtain ⟨aa, ac, rfl⟩ := hta.slice
  obtain ⟨ba, bc, rfl⟩ := htb.slice
  obtain ⟨nA, hnA⟩ : ∃ k, k = A.length := ⟨_, rfl⟩
  obtain ⟨nB, hnB⟩ : ∃ k, k = B.length := ⟨_, rfl⟩
  obtain ⟨N, hN⟩ : ∃ N, N = places A B := ⟨_, rfl⟩
  have hN' : N = min nA nB := by rw [hN, hnA, hnB]; rfl
  rw [← hN] at hY ⊢
  have hmin : ∀ ts t u, (Builtin.min_ ts t #[.int .i64 (nA : Int), .int .i64 (nB : Int)]).run Tryd.prog u = .ok (.int .i64 (N : Int)) u := fun ts t u => by
    have : (if nB < nA then (nB : Int) else (nA : Int)) = (N : Int) := by split <;> omega
    simp [Builtin.min_, Builtin.min2, this]
  have hca0 := (hW.cell (p := ⟨pa, 0, none⟩) (by show pa < w.heap.size; omega)).trans hca
  have hcb0 := (hW.cell (p := ⟨pb, 0, none⟩) (by show pb < w.heap.size; omega)).trans hcb
  rw [← hnA] at hca0 hga hta
  rw [← hnB] at hcb0 hgb htb
  have HTA := Lib.hid hta
  have HTB := Lib.hid htb
  have HW := Lib.hid hW
  have HnA := Lib.hid hnA
  have HnB := Lib.hid hnB
  have HGA := Lib.hid hga
  have HGB := Lib.hid hgb
  have HN' := Lib.hid hN'
  rw [← hnA] at hA
  rw [← hnB] at hB
  clear hta htb hW hca hcb hnA hnB hN hN' hga hgb
  refine callsIn_of_wp Tryd.func69 rfl trivial ?_ rfl
  simp only [Tryd.ntmps69, List.size_toArray, List.length_cons, List.length_nil, Nat.reduceAdd, Nat.reduceSub, Array.replicate_succ, Array.replicate_zero, List.push_toArray, List.append_toArray, List.nil_append, List.cons_append]
  gi_wp2
  gi_loopw [10] (fun i wr => ∃ k : Nat, k ≤ N ∧ i = .int .i64 (k : Int) ∧ J (List.range k) wr ∧ Below n₀ W wr)
    (fun i _ => N - (intOf i).toNat)
  case atStart => exact ⟨0, by omega, rfl, h0, Below.refl _ _⟩
  case round =>
    obtain ⟨k, hk, rfl, hJs, hnx⟩ := hrel
    have hca1 : wr.cell? ⟨pa, 0, none⟩ = some (.slice aa nA ac) := (hnx.cell (p := ⟨pa, 0, none⟩) hpa).trans hca0
    have hcb1 : wr.cell? ⟨pb, 0, none⟩ = some (.slice ba nB bc) := (hnx.cell (p := ⟨pb, 0, none⟩) hpb).trans hcb0
    by_cases hkN : k < N
    · have hN3 := HN'.out
      have hkA : k < nA := by omega
      have hkB : k < nB := by omega
      clear hN3
      have hkN' : (k : Int) < (N : Int) := by omega
      obtain ⟨bA, oA, rfl, hbA, -, hrA⟩ := HTA.out.at (tAt_get (A := A) (i := k) (by rw [← HnA.out]; exact hkA))
      obtain ⟨bB, oB, rfl, hbB, -, hrB⟩ := HTB.out.at (tAt_get (A := B) (i := k) (by rw [← HnB.out]; exact hkB))
      have hgA := HGA.out (by omega) bA oA _ _ rfl
      have hgB := HGB.out (by omega) bB oB _ _ rfl
      have cA : wr.cell? ⟨bA, oA + k, none⟩ = some (tV (tAt A k)) := (hnx.cell (p := ⟨bA, oA + k, none⟩) hgA).trans ((HW.out.cell (p := ⟨bA, oA + k, none⟩) hbA).trans hrA)
      have cB : wr.cell? ⟨bB, oB + k, none⟩ = some (tV (tAt B k)) := (hnx.cell (p := ⟨bB, oB + k, none⟩) hgB).trans ((HW.out.cell (p := ⟨bB, oB + k, none⟩) hbB).trans hrB)
      have hiA := fun u => index_texts bA oA nA ac k (k : Int) rfl hkA u
      have hiB := fun u => index_texts bB oB nB bc k (k : Int) rfl hkB u
      have hwr := IntWalk.i64_in ((k : Int) + 1) (by omega)
      obtain ⟨fn, tmps, assign, body, hy, hR⟩ := hY _ k wr.drew (hJd _ _ hJs) (by rw [List.length_range]; exact hkN)
      obtain ⟨SA, hSA⟩ : ∃ S, S = tS (tAt A k) := ⟨_, rfl⟩
      obtain ⟨SB, hSB⟩ : ∃ S, S = tS (tAt B k) := ⟨_, rfl⟩
      unfold tV at hy cA cB
      rw [← hSA] at hy cA
      rw [← hSB] at hy cB
      have hs : List.range k ++ [k] = List.range (k + 1) := by rw [List.range_succ]
      rw [hs] at hR
      clear hs hY hSA hSB hrA hrB
      have hmo : Tryd.prog.follows .mixedOrders = true := by kernel_rfl
      have hR2 := Lib.hid (hR.mono (R' := fun e W' => ∃ b, e = .returned (.bool b) ∧ (b = true → J (List.range (k + 1)) W' ∧ Below n₀ wr W') ∧ (b = false → Jx (List.range (k + 1)) W')) (by
        rintro e W3 (⟨rfl, hJ3, hk3⟩ | ⟨rfl, hJx3⟩)
        · exact ⟨true, rfl, fun _ => ⟨hJ3, (below_drew (Below.refl _ _)).trans hk3⟩, (fun h => by cases h)⟩
        · exact ⟨false, rfl, (fun h => by cases h), fun _ => hJx3⟩))
      have HJd := Lib.hid hJd
      clear hR hJd h0
      gi_wp2
      gi_region_with_o (refine hR2.out.mono ?_; rintro e W3 ⟨bb, rfl, hbb⟩; have HBB := Lib.hid hbb; clear hbb)
      all_goals (
        obtain ⟨hb1, hb2⟩ := HBB.out
        cases bb with
        | true =>
          obtain ⟨hJ3, hk3⟩ := hb1 rfl
          clear hb1 hb2
          gi_wp2
          go_roundw
          case rel => exact ⟨k + 1, by omega, by simp, hJ3, hnx.trans hk3⟩
          case measure => simp [intOf]; omega
        | false =>
          have hJx3 := hb2 rfl
          clear hb1 hb2
          gi_wp2
          refine bodyPost_ret (results_none rfl _ _ _) rfl ?_
          exact ⟨⟨_, rfl⟩, .inr ⟨_, ⟨k + 1, by omega, rfl⟩, hJx3⟩⟩)
    · have hkN' : ¬ (k : Int) < (N : Int) := by omega
      obtain rfl : k = N := by omega
      gi_wp2
      go_end0
      first | exact ⟨⟨_, rfl⟩, .inl ⟨_, rfl, hJs⟩⟩ | exact .inl hJs | exact ⟨⟨_, rfl⟩, .inl hJs⟩ | exact hJs

set_option maxHeartbeats 1000000 in
theorem side_in (F : Fence) (n : Nat) (h5 : F.fn 50) (hro : F.round = none) (a b : Option Addr) (la ca lb cb : Nat) (w : World) :
    CallsIn F n Tryd.prog 50 #[.slice a la ca, .slice b lb cb] w fun e w' => e = .returned (.func (.func 69) #[] #[.pointer (some ⟨w.heap.size, 0, none⟩), .pointer (some ⟨w.heap.size + 1, 0, none⟩)]) ∧ w' = (w.alloc (.cells #[.slice a la ca] 52)).alloc (.cells #[.slice b lb cb] 52) := by
  refine callsIn_of_wp Tryd.func50 rfl h5 ?_ hro
  simp only [Tryd.ntmps50, List.size_toArray, List.length_cons, List.length_nil, Nat.reduceAdd, Nat.reduceSub, Array.replicate_succ, Array.replicate_zero, List.push_toArray, List.append_toArray, List.nil_append, List.cons_append]
  gi_wp2
  go_ret
  exact ⟨rfl, rfl⟩
theorem side_stops (n : Nat) (hn : 1 ≤ n) (pa pb n₀ : Nat) (va vb : Value) (A B : Ts) (hA : A.length ≤ 1000000) (hB : B.length ≤ 1000000) (hpa : pa < n₀) (hpb : pb < n₀) (w : World) (hn₀ : n₀ ≤ w.heap.size) (hta : Texts w va A) (htb : Texts w vb B)
    (hga : 0 < A.length → ∀ b off n c, va = .slice (some ⟨b, off, none⟩) n c → b < n₀) (hgb : 0 < B.length → ∀ b off n c, vb = .slice (some ⟨b, off, none⟩) n c → b < n₀) (hca : w.cell? ⟨pa, 0, none⟩ = some va) (hcb : w.cell? ⟨pb, 0, none⟩ = some vb) :
    SeqStopsK Fence.wide n Tryd.prog 69 #[.pointer (some ⟨pa, 0, none⟩), .pointer (some ⟨pb, 0, none⟩)] (fun x : Nat => #[tV (tAt A x), tV (tAt B x)]) (Below n₀) (fun ys => ys = List.range (places A B))
      (fun pre => ∃ k, k ≤ places A B ∧ pre = List.range k) (places A B) w := fun l J Jx W hW hab _ hY h0 =>
  side1_in n hn l pa pb n₀ va vb A B hA hB hpa hpb J Jx w hn₀ hta htb hga hgb hY W hW hca hcb (fun pre W hJ => hab pre W W.drew none hJ ⟨rfl, rfl, rfl, Nat.le_refl _, fun _ _ _ => rfl⟩ (fun r e => by cases e)) h0
end Go.Proofs.YtdcebdleneieeaaDoor
