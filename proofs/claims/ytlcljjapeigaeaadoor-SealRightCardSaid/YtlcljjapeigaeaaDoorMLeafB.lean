/-
  Several texts in one (LeafFn, LeafRoot, LeafAbove, LeafLevels, RLevels, LeafAwake).
-/
import Derived.Test.YtlcljjapeigaeaaDoorMLeafA
import Derived.Test.YtlcljjapeigaeaaDoorMGen
import Derived.Test.YtlcljjapeigaeaaDoorMShaB
import Derived.Test.YtlcljjapeigaeaaDoorMShaR
import Derived.Test.YtlcljjapeigaeaaDoorMShaA
/-! ## Package leaf: Leaf, Empty, Preimage, Node; the document's own (scriniumref09). -/
namespace Go.Proofs.YtlcljjapeigaeaaDoor
open Go.RowKit

/-- The cells of a new variable that is a hash. -/
abbrev zSum : Obj := .cells ((List.replicate 32 (0 : UInt8)).map u8V).toArray 23
theorem pre_bytes (a b : List UInt8) : ((⟨#[1]⟩ : ByteArray) ++ ⟨a.toArray⟩ ++ ⟨b.toArray⟩) = ⟨(Tree.pre a b).toArray⟩ := by
  apply ByteArray.ext
  simp [ByteArray.data_append, Tree.pre]
theorem pre_size (a b : List UInt8) (ha : a.length = 32) (hb : b.length = 32) : (Tree.pre a b).length = 65 := by simp [Tree.pre, ha, hb]
set_option maxHeartbeats 1000000 in
set_option maxRecDepth 100000 in
theorem leafLeaf_any (S : ByteArray) (s : List UInt8) (hS : S.data.toList = s) (w : World) (hK : KT w) (hl : s.length < 288230376151711744) :
    Calls Tryd.prog 44 #[.string S] w fun e w' => e = .returned (sumV (Tree.leafH s)) ∧ Below w.heap.size w w' := by
  obtain ⟨D, hD⟩ : ∃ D, D = Tree.leafH s := ⟨_, rfl⟩
  have hDl : D.length = 32 := by rw [hD]; exact Tree.leafH_length _
  rw [← hD]
  have HD := Lib.hid hD
  have HDl := Lib.hid hDl
  obtain ⟨w0, hw0⟩ : ∃ w0, w0 = w.alloc zSum := ⟨_, rfl⟩
  have b0 : Below w.heap.size w w0 := by rw [hw0]; exact (Below.refl _ _).alloc (Nat.le_refl _) _
  have z0 : w0.heap[w.heap.size]? = some (.cells ((List.replicate 32 (0 : UInt8)).map u8V).toArray 23 (0, 0)) := by rw [hw0]; exact heap_alloc_last _ _
  have Hz0 := Lib.hid z0
  have l0 : w.heap.size < w0.heap.size := by rw [hw0]; simp
  have hc := of_two ⟨#[0]⟩ S (0 :: s) (by rw [hS]; rfl) w0 (hK.old b0) (by simp; omega)
  change Calls _ _ _ _ fun e w' => e = .returned (sumV (Tree.leafH s)) ∧ _ at hc
  rw [← hD] at hc
  have HC := Lib.hid hc
  clear hD hDl z0 hc hS hl
  go_enter Tryd.func44, Tryd.ntmps44
  go_upto_region 1 with (fail)
  change Code.wp _ _ _ _ (w.alloc zSum)
  rw [← hw0]
  clear hw0
  go_wp2_with (first
    | (go_at_call 69; ((with_reducible refine HC.out.mono ?_); rintro e w2 ⟨rfl, b2⟩; have z2 := Lib.hid ((b2.block _ l0).trans Hz0.out)))
    | refine wpList_store_mid rfl 23 (.tmp 2) (.tmp 5) rfl w.heap.size 0 (D.map u8V).toArray rfl rfl (sum_there z2.out HDl.out) (sum_info HDl.out) (sum_one D) ?_)
  exact bodyPost_ret (v := sumV D) (results_cell (t := 2) (ty := 23) (b := w.heap.size) (cs := D.map u8V) rfl _ _ _ rfl (sum_range z2.out HDl.out) Tryd.underlying23 rfl (sum_info' HDl.out)) rfl ⟨rfl, below_setCells (Nat.le_refl _) _ _ _ (below_step b0 (Nat.le_refl _) b2)⟩

set_option maxHeartbeats 1000000 in
set_option maxRecDepth 100000 in
theorem rleafLeaf_any (S : ByteArray) (s : List UInt8) (hS : S.data.toList = s) (w : World) (hsz : S.size < 288230376151711744) :
    Calls Tryd.prog 45 #[.string S] w fun e w' => e = .returned (sumV (Tree.leafH s)) ∧ Below w.heap.size w w' := by
  obtain ⟨D, hD⟩ : ∃ D, D = Tree.leafH s := ⟨_, rfl⟩
  have hDl : D.length = 32 := by rw [hD]; exact Tree.leafH_length _
  rw [← hD]
  have HD := Lib.hid hD
  have HDl := Lib.hid hDl
  obtain ⟨w0, hw0⟩ : ∃ w0, w0 = w.alloc zSum := ⟨_, rfl⟩
  have b0 : Below w.heap.size w w0 := by rw [hw0]; exact (Below.refl _ _).alloc (Nat.le_refl _) _
  have z0 : w0.heap[w.heap.size]? = some (.cells ((List.replicate 32 (0 : UInt8)).map u8V).toArray 23 (0, 0)) := by rw [hw0]; exact heap_alloc_last _ _
  have Hz0 := Lib.hid z0
  have l0 : w.heap.size < w0.heap.size := by rw [hw0]; simp
  have hc := rof_any ((⟨#[0]⟩ : ByteArray) ++ S) (0 :: s) (by rw [app_data, hS]; rfl) w0 (by rw [Lib.size_eq, hS] at hsz; simp; omega)
  change Calls _ _ _ _ fun e w' => e = .returned (sumV (Tree.leafH s)) ∧ _ at hc
  rw [← hD] at hc
  have HC := Lib.hid hc
  clear hD hDl z0 hc hS
  go_enter Tryd.func45, Tryd.ntmps45
  go_upto_region 1 with (fail)
  change Code.wp _ _ _ _ (w.alloc zSum)
  rw [← hw0]
  clear hw0
  go_wp2_with (first
    | (go_at_call 70; ((with_reducible refine HC.out.mono ?_); rintro e w2 ⟨rfl, b2⟩; have z2 := Lib.hid ((b2.block _ l0).trans Hz0.out)))
    | refine wpList_store_mid rfl 23 (.tmp 2) (.tmp 5) rfl w.heap.size 0 (D.map u8V).toArray rfl rfl (sum_there z2.out HDl.out) (sum_info HDl.out) (sum_one D) ?_)
  exact bodyPost_ret (v := sumV D) (results_cell (t := 2) (ty := 23) (b := w.heap.size) (cs := D.map u8V) rfl _ _ _ rfl (sum_range z2.out HDl.out) Tryd.underlying23 rfl (sum_info' HDl.out)) rfl ⟨rfl, below_setCells (Nat.le_refl _) _ _ _ (below_step b0 (Nat.le_refl _) b2)⟩

end Go.Proofs.YtlcljjapeigaeaaDoor
/-! ## Package leaf: Root; the document's own. -/
namespace Go.Proofs.YtlcljjapeigaeaaDoor
open Go.RowKit

end Go.Proofs.YtlcljjapeigaeaaDoor
/-! ## Package leaf: the closure of Levels, which makes the row above. -/
namespace Go.Proofs.YtlcljjapeigaeaaDoor
open Go.RowKit

/-- Ahead of pair j. -/
def AbRel (B : Nat) (w : World) (l : Hs) (s3 s4 : Value) (wr : World) : Prop :=
  ∃ j : Nat, 2 * j ≤ l.length ∧ OwnS B wr s3 (Tree.up (l.take (2 * j))) ∧ SumsB B wr s4 (l.drop (2 * j)) ∧ Below B w wr
theorem up_step2 (l : Hs) (j : Nat) (h : 2 * j + 2 ≤ l.length) : Tree.up (l.take (2 * (j + 1))) = Tree.up (l.take (2 * j)) ++ [Tree.node (l[2 * j]'(by omega)) (l[2 * j + 1]'(by omega))] := by
  rw [show 2 * (j + 1) = 2 * j + 1 + 1 by omega, List.take_succ_eq_append_getElem (by omega), List.take_succ_eq_append_getElem (by omega), List.append_assoc, Tree.up_append j _ _ (by rw [List.length_take]; omega)]
  rfl
theorem up_step1 (l : Hs) (j : Nat) (h : l.length = 2 * j + 1) : Tree.up l = Tree.up (l.take (2 * j)) ++ [l[2 * j]'(by omega)] := by
  have e : l = l.take (2 * j) ++ [l[2 * j]'(by omega)] := by
    have := List.take_succ_eq_append_getElem (l := l) (i := 2 * j) (by omega)
    rw [List.take_of_length_le (by omega)] at this
    exact this
  conv => lhs; rw [e]
  rw [Tree.up_append j _ _ (by rw [List.length_take]; omega)]
  rfl
theorem fold_zero (x : List UInt8) (h : x.length = 32) : List.foldl (fun (cs : Array Value) (x : Value × Nat) => cs.setIfInBounds x.snd x.fst) #[.int .u8 0, .int .u8 0, .int .u8 0, .int .u8 0, .int .u8 0, .int .u8 0, .int .u8 0, .int .u8 0, .int .u8 0, .int .u8 0, .int .u8 0, .int .u8 0, .int .u8 0, .int .u8 0, .int .u8 0, .int .u8 0, .int .u8 0, .int .u8 0, .int .u8 0, .int .u8 0, .int .u8 0, .int .u8 0, .int .u8 0, .int .u8 0, .int .u8 0, .int .u8 0, .int .u8 0, .int .u8 0, .int .u8 0, .int .u8 0, .int .u8 0, .int .u8 0] (x.map u8V).zipIdx = (x.map u8V).toArray := by
  have := fold_put (x.map u8V) 0 0 [] [.int .u8 0, .int .u8 0, .int .u8 0, .int .u8 0, .int .u8 0, .int .u8 0, .int .u8 0, .int .u8 0, .int .u8 0, .int .u8 0, .int .u8 0, .int .u8 0, .int .u8 0, .int .u8 0, .int .u8 0, .int .u8 0, .int .u8 0, .int .u8 0, .int .u8 0, .int .u8 0, .int .u8 0, .int .u8 0, .int .u8 0, .int .u8 0, .int .u8 0, .int .u8 0, .int .u8 0, .int .u8 0, .int .u8 0, .int .u8 0, .int .u8 0, .int .u8 0] [] rfl (by rw [List.length_map, h]; rfl)
  simpa using this
end Go.Proofs.YtlcljjapeigaeaaDoor
/-! ## Package leaf: Levels. -/
namespace Go.Proofs.YtlcljjapeigaeaaDoor
open Go.RowKit

end Go.Proofs.YtlcljjapeigaeaaDoor
/-! ## The document's own Levels and Same (scriniumref09). -/
namespace Go.Proofs.YtlcljjapeigaeaaDoor
open Go.RowKit

/-- Ahead of the pair at i. -/
def RUpRel (B : Nat) (w : World) (cur : Hs) (s5 s6 : Value) (wr : World) : Prop :=
  ∃ j i : Nat, i = 2 * j ∧ s6 = .int .i64 (i : Int) ∧ i ≤ cur.length + 1 ∧ OwnS B wr s5 (Tree.up (cur.take i)) ∧ Below B w wr
/-- Ahead of element i. -/
def SameRel (l r : Hs) (s5 : Value) : Prop := ∃ i : Nat, s5 = .int .i64 (i : Int) ∧ i ≤ l.length ∧ l.take i = r.take i
end Go.Proofs.YtlcljjapeigaeaaDoor
/-! ## The statements' own helpers awake and few (scriniumlaw09). -/
namespace Go.Proofs.YtlcljjapeigaeaaDoor
open Go.RowKit

theorem tree_empty_hex : (⟨(Sha.hexL Tree.empty).toArray⟩ : ByteArray) = ⟨#[101, 51, 98, 48, 99, 52, 52, 50, 57, 56, 102, 99, 49, 99, 49, 52, 57, 97, 102, 98, 102, 52, 99, 56, 57, 57, 54, 102, 98, 57, 50, 52, 50, 55, 97, 101, 52, 49, 101, 52, 54, 52, 57, 98, 57, 51, 52, 99, 97, 52, 57, 53, 57, 57, 49, 98, 55, 56, 53, 50, 98, 56, 53, 53]⟩ := by
  rw [show Sha.hexL Tree.empty = [101, 51, 98, 48, 99, 52, 52, 50, 57, 56, 102, 99, 49, 99, 49, 52, 57, 97, 102, 98, 102, 52, 99, 56, 57, 57, 54, 102, 98, 57, 50, 52, 50, 55, 97, 101, 52, 49, 101, 52, 54, 52, 57, 98, 57, 51, 52, 99, 97, 52, 57, 53, 57, 57, 49, 98, 55, 56, 53, 50, 98, 56, 53, 53] by kernel_rfl]
theorem tree_leaf_hex : (⟨(Sha.hexL (Tree.leafH [])).toArray⟩ : ByteArray) = ⟨#[54, 101, 51, 52, 48, 98, 57, 99, 102, 102, 98, 51, 55, 97, 57, 56, 57, 99, 97, 53, 52, 52, 101, 54, 98, 98, 55, 56, 48, 97, 50, 99, 55, 56, 57, 48, 49, 100, 51, 102, 98, 51, 51, 55, 51, 56, 55, 54, 56, 53, 49, 49, 97, 51, 48, 54, 49, 55, 97, 102, 97, 48, 49, 100]⟩ := by
  rw [show Sha.hexL (Tree.leafH []) = [54, 101, 51, 52, 48, 98, 57, 99, 102, 102, 98, 51, 55, 97, 57, 56, 57, 99, 97, 53, 52, 52, 101, 54, 98, 98, 55, 56, 48, 97, 50, 99, 55, 56, 57, 48, 49, 100, 51, 102, 98, 51, 51, 55, 51, 56, 55, 54, 56, 53, 49, 49, 97, 51, 48, 54, 49, 55, 97, 102, 97, 48, 49, 100] by kernel_rfl]
theorem tree_root_hex : (⟨(Sha.hexL (Tree.root [Tree.leafH [97], Tree.leafH [98], Tree.leafH [99]])).toArray⟩ : ByteArray) = ⟨#[51, 54, 54, 52, 50, 101, 55, 51, 99, 50, 53, 52, 48, 97, 98, 49, 50, 49, 101, 51, 97, 54, 98, 102, 57, 53, 52, 53, 98, 48, 97, 50, 52, 57, 56, 50, 99, 100, 56, 51, 48, 101, 98, 49, 51, 100, 51, 99, 100, 49, 57, 100, 101, 51, 99, 101, 54, 99, 48, 50, 49, 101, 99, 49]⟩ := by
  rw [show Sha.hexL (Tree.root [Tree.leafH [97], Tree.leafH [98], Tree.leafH [99]]) = [51, 54, 54, 52, 50, 101, 55, 51, 99, 50, 53, 52, 48, 97, 98, 49, 50, 49, 101, 51, 97, 54, 98, 102, 57, 53, 52, 53, 98, 48, 97, 50, 52, 57, 56, 50, 99, 100, 56, 51, 48, 101, 98, 49, 51, 100, 51, 99, 100, 49, 57, 100, 101, 51, 99, 101, 54, 99, 48, 50, 49, 101, 99, 49] by kernel_rfl]
end Go.Proofs.YtlcljjapeigaeaaDoor
