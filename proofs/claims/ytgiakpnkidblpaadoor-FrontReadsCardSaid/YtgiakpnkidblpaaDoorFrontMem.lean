/-
  Package front: what a front is in memory; New, Size, Copy.
-/
import Derived.Test.YtgiakpnkidblpaaDoorFrontPop
import Derived.Test.YtgiakpnkidblpaaDoorSumBuild
import Derived.Test.YtgiakpnkidblpaaDoorLeafRoot
namespace Go.Proofs.YtgiakpnkidblpaaDoor
open Go.RowKit

/-- The cells of a front: how many leaves, forty hashes. -/
def fL (n : Nat) (Q : Hs) : List Value := .int .i64 (n : Int) :: sc Q
/-- Forty hashes of bytes 0. -/
def zQ : Hs := List.replicate 40 (List.replicate 32 0)
theorem zQ_len : zQ.length = 40 := by simp [zQ]
theorem zQ_all : all32 zQ := fun x hx => by
  unfold zQ at hx
  rw [List.eq_of_mem_replicate hx, List.length_replicate]
theorem fL_length (n : Nat) (Q : Hs) (hq : Q.length = 40) (ha : all32 Q) : (fL n Q).length = 1281 := by
  unfold fL
  rw [List.length_cons, sc_length Q ha, hq]
set_option maxRecDepth 1000000 in
theorem info_front : (Tryd.prog.info? 49).map (·.size) = some 1281 := by kernel_rfl
set_option maxRecDepth 1000000 in
theorem info_front0 : (Tryd.prog.info? 49).map (fun i => (i.zero, i.size)) = some (some (.agg (fL 0 zQ).toArray), 1281) := by kernel_rfl
/-- Block b is a front of n leaves, with these forty hashes. -/
def Front (b n : Nat) (Q : Hs) (w : World) : Prop := Q.length = 40 ∧ all32 Q ∧ w.heap[b]? = some (.cells (fL n Q).toArray 49 (0, 0))
theorem Front.lt {b n : Nat} {Q : Hs} {w : World} (h : Front b n Q w) : b < w.heap.size := (Array.getElem?_eq_some_iff.1 h.2.2).1
theorem Front.kept {b q n : Nat} {Q : Hs} {w w' : World} (h : Front b n Q w) (k : Only q w w') (hq : b ≠ q) : Front b n Q w' := ⟨h.1, h.2.1, (k.block b h.lt hq).trans h.2.2⟩
theorem Front.old {b B n : Nat} {Q : Hs} {w w' : World} (h : Front b n Q w) (k : Below B w w') (hq : b < B) : Front b n Q w' := ⟨h.1, h.2.1, (k.block b hq).trans h.2.2⟩
theorem Front.old' {b n : Nat} {Q : Hs} {w w' : World} (h : Front b n Q w) (k : Below w.heap.size w w') : Front b n Q w' := h.old k h.lt
theorem Front.at0 {b n : Nat} {Q : Hs} {w : World} (h : Front b n Q w) : w.cell? ⟨b, 0, none⟩ = some (.int .i64 (n : Int)) := by
  rw [cell_of h.2.2]; simp [fL]
theorem Front.fz {b n : Nat} {Q : Hs} {w : World} (h : Front b n Q w) (i : Nat) : w.frozen? ⟨b, i, none⟩ = false := fz_of h.2.2 i
theorem Front.range {b n : Nat} {Q : Hs} {w : World} (h : Front b n Q w) : w.rangeAt b 0 (fL n Q) := fun j x hx => by
  rw [Nat.zero_add, cell_of h.2.2]; simpa using hx
theorem Front.rangeQ {b n : Nat} {Q : Hs} {w : World} (h : Front b n Q w) (k : Nat) (hk : k < Q.length) : w.rangeAt b (1 + k * 32) (Q[k].map u8V) := fun j x hx => by
  rw [cell_of h.2.2]
  have := sc_get Q h.2.1 k hk j x hx
  rw [show 1 + k * 32 + j = (k * 32 + j) + 1 by omega]
  simpa [fL] using this
theorem Front.sums {b n : Nat} {Q : Hs} {w : World} (h : Front b n Q w) : Sums w (.slice (some ⟨b, 1, none⟩) 40 40) Q := by
  have := Sums.mk (w := w) (l := Q) (b := b) (off := 1) (cap := 40) (by rw [h.1]; exact Nat.le_refl _) (by decide) h.2.1 h.lt (fun j hj => h.rangeQ j hj)
  rwa [h.1] at this
theorem Front.new (w : World) (n : Nat) (Q : Hs) (hq : Q.length = 40) (ha : all32 Q) : Front w.heap.size n Q (w.alloc (.cells (fL n Q).toArray 49)) := ⟨hq, ha, heap_alloc_last w _⟩
/-- Another number of leaves. -/
theorem Front.set0 {b n : Nat} {Q : Hs} {w : World} (h : Front b n Q w) (m : Nat) : Front b m Q (w.setCell ⟨b, 0, none⟩ (.int .i64 (m : Int))) := by
  refine ⟨h.1, h.2.1, ?_⟩
  have := heap_set (i := 0) h.2.2 (.int .i64 (m : Int))
  rw [this]
  simp [fL]
theorem sc_set : ∀ (Q : Hs) (k : Nat) (x : List UInt8), all32 Q → x.length = 32 → k < Q.length → sc (Q.set k x) = (sc Q).take (k * 32) ++ (x.map u8V ++ (sc Q).drop (k * 32 + 32))
  | q :: Q, 0, x, ha, hx, _ => by
    have hq : (q.map u8V).length = 32 := by rw [List.length_map]; exact ha q (by simp)
    rw [List.set_cons_zero, sc_cons, sc_cons, Nat.zero_mul, List.take_zero, List.nil_append, List.drop_append_of_le_length (by omega), List.drop_of_length_le (by omega), List.nil_append]
  | q :: Q, k + 1, x, ha, hx, hk => by
    have hq : (q.map u8V).length = 32 := by rw [List.length_map]; exact ha q (by simp)
    have ih := sc_set Q k x (fun y hy => ha y (by simp [hy])) hx (by simpa using hk)
    rw [List.set_cons_succ, sc_cons, sc_cons, ih]
    have e1 : ((q.map u8V) ++ sc Q).take ((k + 1) * 32) = q.map u8V ++ (sc Q).take (k * 32) := by
      rw [List.take_append, List.take_of_length_le (by omega), hq, show (k + 1) * 32 - 32 = k * 32 by omega]
    have e2 : ((q.map u8V) ++ sc Q).drop ((k + 1) * 32 + 32) = (sc Q).drop (k * 32 + 32) := by
      rw [List.drop_append, List.drop_of_length_le (by omega), hq, List.nil_append, show (k + 1) * 32 + 32 - 32 = k * 32 + 32 by omega]
    rw [e1, e2, List.append_assoc]
theorem all32.set {Q : Hs} (h : all32 Q) (k : Nat) {x : List UInt8} (hx : x.length = 32) : all32 (Q.set k x) := fun y hy => by
  rcases List.mem_or_eq_of_mem_set hy with h1 | rfl
  · exact h y h1
  · exact hx
/-- Another hash at place k. -/
theorem Front.setQ {b n : Nat} {Q : Hs} {w : World} (h : Front b n Q w) (k : Nat) (hk : k < 40) {x : List UInt8} (hx : x.length = 32) : Front b n (Q.set k x) (w.setCells b (1 + k * 32) (x.map u8V)) := by
  refine ⟨by rw [List.length_set]; exact h.1, h.2.1.set k hx, ?_⟩
  have hl := fL_length n Q h.1 h.2.1
  have := heap_setCells b 49 (x.map u8V) (1 + k * 32) (fL n Q) w (by rw [List.length_map, hl, hx]; omega) h.2.2
  rw [this]
  congr 3
  unfold fL
  rw [sc_set Q k x h.2.1 hx (by rw [h.1]; exact hk), List.length_map, hx, Nat.add_comm 1, List.take_succ_cons, show k * 32 + 1 + 32 = (k * 32 + 32) + 1 by omega, List.drop_succ_cons]
  rfl
theorem Front.there {b n : Nat} {Q : Hs} {w : World} (h : Front b n Q w) (k : Nat) (hk : k < 40) {x : List UInt8} (hx : x.length = 32) : w.there b (1 + k * 32) (x.map u8V).toArray.size := by
  have hl := fL_length n Q h.1 h.2.1
  rw [show (x.map u8V).toArray.size = 32 from (List.size_toArray).trans (by rw [List.length_map, hx])]
  exact there_of h.2.2 (by rw [hl]; omega)
theorem fL_one (n : Nat) (Q : Hs) : (fL n Q).toArray.all (·.oneCell') = true := by
  refine all_oneCell_toArray fun x hx => ?_
  unfold fL at hx
  rcases List.mem_cons.1 hx with rfl | hx
  · rfl
  · exact sc_one Q x hx

set_option maxRecDepth 1000000 in
theorem frontNew_any (w : World) :
    Calls Tryd.prog 11 #[] w fun e w' => e = .returned (.pointer (some ⟨w.heap.size, 0, none⟩)) ∧ Front w.heap.size 0 zQ w' ∧ Below w.heap.size w w' := by
  have hz := (zero_of_info info_front0).1
  have hnew := Front.new w 0 zQ zQ_len zQ_all
  obtain ⟨Z, hZ⟩ : ∃ Z, Z = fL 0 zQ := ⟨_, rfl⟩
  rw [← hZ] at hz hnew
  have HN := Lib.hid hnew
  clear hZ hnew
  go_enter Tryd.func11, Tryd.ntmps11
  go_wp2
  go_ret
  exact ⟨rfl, HN.out, (Below.refl _ _).alloc (Nat.le_refl _) _⟩
theorem fsize_any (b n : Nat) (Q : Hs) (w : World) (h : Front b n Q w) :
    Calls Tryd.prog 15 #[.pointer (some ⟨b, 0, none⟩)] w fun e w' => e = .returned (.int .i64 (n : Int)) ∧ w = w' := by
  have hc := h.at0
  clear h
  go_enter Tryd.func15, Tryd.ntmps15
  go_wp2
  go_ret
  exact ⟨rfl, rfl⟩
theorem fsize_nil (w : World) : Calls Tryd.prog 15 #[.pointer none] w fun e w' => e = .returned (.int .i64 0) ∧ w = w' := by
  go_enter Tryd.func15, Tryd.ntmps15
  go_wp2
  go_ret
  exact ⟨rfl, rfl⟩
set_option maxRecDepth 1000000 in
theorem fcopy_any (b n : Nat) (Q : Hs) (w : World) (h : Front b n Q w) :
    Calls Tryd.prog 24 #[.pointer (some ⟨b, 0, none⟩)] w fun e w' => e = .returned (.pointer (some ⟨w.heap.size, 0, none⟩)) ∧ Front w.heap.size n Q w' ∧ Below w.heap.size w w' := by
  have hz := (zero_of_info info_front0).1
  have hzl := fL_length 0 zQ zQ_len zQ_all
  have hl := fL_length n Q h.1 h.2.1
  obtain ⟨Z, hZ⟩ : ∃ Z, Z = fL 0 zQ := ⟨_, rfl⟩
  rw [← hZ] at hz hzl
  have h1 := h.1
  have h2 := h.2.1
  have hr := h.range
  obtain ⟨X, hX⟩ : ∃ X, X = fL n Q := ⟨_, rfl⟩
  have hone := fL_one n Q
  rw [← hX] at hl hr hone
  have hI : (Tryd.prog.info? 49).map (·.size) = some X.length := by rw [hl]; exact info_front
  have hI2 : (Tryd.prog.info? 49).map (·.size) = some X.toArray.size := by rw [List.size_toArray]; exact hI
  have ht : (w.alloc (.cells Z.toArray 49)).there w.heap.size 0 X.toArray.size := by
    rw [show X.toArray.size = 1281 from (List.size_toArray).trans hl]; exact there_new w hzl
  have hfin : Front w.heap.size n Q ((w.alloc (.cells Z.toArray 49)).setCells w.heap.size 0 X) := by
    refine ⟨h1, h2, ?_⟩
    rw [heap_setCells_all w _ _ (by rw [hzl, hl]), hX]
  have HI := Lib.hid hI
  have HI2 := Lib.hid hI2
  have HT := Lib.hid ht
  have HR := Lib.hid hr
  have HO := Lib.hid hone
  have HF := Lib.hid hfin
  clear hl hI hI2 ht hr hone hfin hX hZ hzl h1 h2 h
  go_enter Tryd.func24, Tryd.ntmps24
  go_wp2_with (first
    | refine wpList_load_mid rfl 49 (.tmp 7) rfl b 0 rfl X _ HR.out Tryd.underlying49 rfl HI.out ?_
    | refine wpList_store_mid rfl 49 (.tmp 3) (.tmp 8) rfl w.heap.size 0 X.toArray rfl rfl HT.out HI2.out HO.out ?_)
  go_ret
  exact ⟨rfl, HF.out, below_setCells (Nat.le_refl _) _ _ _ ((Below.refl _ _).alloc (Nat.le_refl _) _)⟩
theorem fcopy_nil (w : World) : Calls Tryd.prog 24 #[.pointer none] w fun e w' => e = .returned (.pointer none) ∧ w = w' := by
  go_enter Tryd.func24, Tryd.ntmps24
  go_wp2
  go_ret
  exact ⟨rfl, rfl⟩
theorem fpeaks_nil (w : World) : Calls Tryd.prog 14 #[.pointer none] w fun e w' => e = .returned (.slice none 0 0) ∧ w = w' := by
  go_enter Tryd.func14, Tryd.ntmps14
  go_wp2
  go_ret
  exact ⟨rfl, rfl⟩
end Go.Proofs.YtgiakpnkidblpaaDoor
