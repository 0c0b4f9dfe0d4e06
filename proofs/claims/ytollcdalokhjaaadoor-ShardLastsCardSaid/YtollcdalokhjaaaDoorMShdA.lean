/-
  Several texts in one (ShdFront, ShdPeaks, ShdAdd, ShdMem).
-/
import Derived.Test.YtollcdalokhjaaaDoorMFrB
import Derived.Test.YtollcdalokhjaaaDoorMSelA
import Derived.Test.YtollcdalokhjaaaDoorRecLeaf
import Derived.Test.YtollcdalokhjaaaDoorMRec
import Derived.Test.YtollcdalokhjaaaDoorMSeq
/-! ## Package front: a front that lies inside another block (a field of a struct), from cell o on; Peaks, Root. -/
namespace Go.Proofs.YtollcdalokhjaaaDoor
open Go.RowKit

/-- In block b, of type T, a front of n leaves lies from cell o on, with these forty hashes; pre lies ahead of it, post behind. -/
def FrI (T : TypeId) (pre post : List Value) (o b n : Nat) (Q : Hs) (w : World) : Prop := Q.length = 40 ∧ all32 Q ∧ pre.length = o ∧ Blk b T (pre ++ (fL n Q ++ post)) w
section
variable {T : TypeId} {pre post : List Value} {o b n : Nat} {Q : Hs} {w w' : World}
theorem FrI.lt (h : FrI T pre post o b n Q w) : b < w.heap.size := Blk.lt h.2.2.2
theorem FrI.kept {q : Nat} (h : FrI T pre post o b n Q w) (k : Only q w w') (hq : b ≠ q) : FrI T pre post o b n Q w' := ⟨h.1, h.2.1, h.2.2.1, h.2.2.2.kept k hq⟩
theorem FrI.old {B : Nat} (h : FrI T pre post o b n Q w) (k : Below B w w') (hq : b < B) : FrI T pre post o b n Q w' := ⟨h.1, h.2.1, h.2.2.1, h.2.2.2.old k hq⟩
theorem FrI.old' (h : FrI T pre post o b n Q w) (k : Below w.heap.size w w') : FrI T pre post o b n Q w' := h.old k h.lt
theorem FrI.fz (h : FrI T pre post o b n Q w) (i : Nat) : w.frozen? ⟨b, i, none⟩ = false := h.2.2.2.fz i
theorem FrI.at0 (h : FrI T pre post o b n Q w) : w.cell? ⟨b, o, none⟩ = some (.int .i64 (n : Int)) := by
  obtain ⟨_, _, rfl, hb⟩ := h
  rw [hb.cell, List.getElem?_append_right (Nat.le_refl _), Nat.sub_self]
  rfl
theorem FrI.range (h : FrI T pre post o b n Q w) : w.rangeAt b o (fL n Q) := by
  obtain ⟨_, _, rfl, hb⟩ := h
  exact Blk.range hb
theorem FrI.rangeQ (h : FrI T pre post o b n Q w) (k : Nat) (hk : k < Q.length) : w.rangeAt b (o + 1 + k * 32) (Q[k].map u8V) := fun j x hx => by
  have := h.range (1 + k * 32 + j) x (by
    have := sc_get Q h.2.1 k hk j x hx
    rw [show 1 + k * 32 + j = (k * 32 + j) + 1 by omega]
    simpa [fL] using this)
  rwa [show o + (1 + k * 32 + j) = o + 1 + k * 32 + j by omega] at this
theorem FrI.sums (h : FrI T pre post o b n Q w) : Sums w (.slice (some ⟨b, o + 1, none⟩) 40 40) Q := by
  have := Sums.mk (w := w) (l := Q) (b := b) (off := o + 1) (cap := 40) (by rw [h.1]; exact Nat.le_refl _) (by decide) h.2.1 h.lt (fun j hj => h.rangeQ j hj)
  rwa [h.1] at this
/-- Another number of leaves. -/
theorem FrI.set0 (h : FrI T pre post o b n Q w) (m : Nat) : FrI T pre post o b m Q (w.setCell ⟨b, o, none⟩ (.int .i64 (m : Int))) := by
  obtain ⟨h1, h2, rfl, hb⟩ := h
  exact ⟨h1, h2, rfl, Blk.put (a := pre) (z := sc Q ++ post) hb (.int .i64 (m : Int))⟩
/-- Another hash at place k. -/
theorem FrI.setQ (h : FrI T pre post o b n Q w) (k : Nat) (hk : k < 40) {x : List UInt8} (hx : x.length = 32) : FrI T pre post o b n (Q.set k x) (w.setCells b (o + 1 + k * 32) (x.map u8V)) := by
  obtain ⟨h1, h2, rfl, hb⟩ := h
  refine ⟨by rw [List.length_set]; exact h1, h2.set k hx, rfl, ?_⟩
  have hk' : k < Q.length := by omega
  have hl := sc_length Q h2
  have e : ∀ m : List Value, pre ++ ((Value.int .i64 (n : Int) :: ((sc Q).take (k * 32) ++ (m ++ (sc Q).drop (k * 32 + 32)))) ++ post) = (pre ++ (Value.int .i64 (n : Int) :: (sc Q).take (k * 32))) ++ (m ++ ((sc Q).drop (k * 32 + 32) ++ post)) := fun m => by simp
  have eQ : sc Q = (sc Q).take (k * 32) ++ (((sc Q).drop (k * 32)).take 32 ++ (sc Q).drop (k * 32 + 32)) := by
    rw [← List.drop_drop, List.take_append_drop, List.take_append_drop]
  have hb2 : Blk b T ((pre ++ (Value.int .i64 (n : Int) :: (sc Q).take (k * 32))) ++ (((sc Q).drop (k * 32)).take 32 ++ ((sc Q).drop (k * 32 + 32) ++ post))) w := by
    rw [← e]
    rw [← eQ]
    exact hb
  have hlen : (pre ++ (Value.int .i64 (n : Int) :: (sc Q).take (k * 32))).length = pre.length + 1 + k * 32 := by
    rw [List.length_append, List.length_cons, List.length_take, hl]; omega
  have := Blk.sets hb2 (n := x.map u8V) (by rw [List.length_map, hx, List.length_take, List.length_drop, hl]; omega)
  rw [hlen, ← e, ← sc_set Q k x h2 hx hk'] at this
  exact this
theorem FrI.there (h : FrI T pre post o b n Q w) (k : Nat) (hk : k < 40) {x : List UInt8} (hx : x.length = 32) : w.there b (o + 1 + k * 32) (x.map u8V).toArray.size := by
  obtain ⟨h1, h2, rfl, hb⟩ := h
  have hl := fL_length n Q h1 h2
  rw [show (x.map u8V).toArray.size = 32 from (List.size_toArray).trans (by rw [List.length_map, hx])]
  exact Blk.there hb (by rw [List.length_append, List.length_append, hl]; omega)
end
theorem fld_peaksI (b o : Nat) (w : World) : (Instr.fieldAt 66 (.pointer (some ⟨b, o, none⟩)) 1).run Tryd.prog w = .ok (.pointer (some ⟨b, o + 1, none⟩)) w := by
  go_simp
theorem fld_sizeI (b o : Nat) (w : World) : (Instr.fieldAt 66 (.pointer (some ⟨b, o, none⟩)) 0).run Tryd.prog w = .ok (.pointer (some ⟨b, o, none⟩)) w := by
  go_simp
set_option maxRecDepth 1000000 in
theorem asliceI (b o k : Nat) (h : k ≤ 40) (w : World) : (Instr.sliceAt 64 (.pointer (some ⟨b, o, none⟩)) none (some (.int .i64 (k : Int))) none).run Tryd.prog w = .ok (.slice (some ⟨b, o, none⟩) k 40) w := by
  have hl := alen40
  rw [run_sliceAt_array_h (P := Tryd.prog) w _ _ Tryd.underlying64 _ _ (by omega) (by rw [hl]; omega), aelem40, size_sum, hl]
  simp [Result.andThen, slicedAt, Addr.add]
set_option maxRecDepth 1000000 in
theorem idx40I (b o k : Nat) (h : k < 40) (w : World) : (Instr.indexAt 64 (.pointer (some ⟨b, o, none⟩)) (.int .i64 (k : Int))).run Tryd.prog w = .ok (.pointer (some ⟨b, o + k * 32, none⟩)) w := by
  have hl := alen40
  have he := aelem40
  have hs := size_sum
  have h' : (k : Int) < 40 := by omega
  have h2 : ¬ (40 : Int) ≤ (k : Int) := by omega
  go_simp
theorem eql_ptr_noneI (b o : Nat) (w : World) : (binOp .eql 99 (.pointer (some ⟨b, o, none⟩)) (.pointer none)).run Tryd.prog w = .ok (.bool false) w := by
  go_simp
end Go.Proofs.YtollcdalokhjaaaDoor
/-! ## Package front: Peaks, of a front inside another block. -/
namespace Go.Proofs.YtollcdalokhjaaaDoor
open Go.RowKit

set_option maxHeartbeats 1600000 in
set_option maxRecDepth 100000 in
theorem fpeaksI_any (T : TypeId) (pre post : List Value) (o b n : Nat) (Q : Hs) (w : World) (h : FrI T pre post o b n Q w) (hn : n ≤ 1099511627776) :
    Calls Tryd.prog 55 #[.pointer (some ⟨b, o, none⟩)] w fun e w' => ∃ v', e = .returned v' ∧ OwnS w.heap.size w' v' (Q.take (Tree.ones n)) ∧ Below w.heap.size w w' := by
  have hk := Tree.ones_most n hn
  have HW := Lib.hid (fun u => (whole_any n (by omega) u).mono fun e w' (h : _ ∧ _) => (⟨h.1, h.2 ▸ Below.refl _ _⟩ : _ ∧ Below u.heap.size u w'))
  obtain ⟨k, hk0⟩ : ∃ k, k = Tree.ones n := ⟨_, rfl⟩
  rw [← hk0] at hk HW ⊢
  obtain ⟨P, hP⟩ : ∃ P, P = Q.take k := ⟨_, rfl⟩
  have hPl : P.length = k := by rw [hP, List.length_take, h.1]; omega
  have HC : Hid (∀ u, Below w.heap.size w u → Calls Tryd.prog 33 #[.slice (some ⟨b, o + 1, none⟩) k 40] u fun e w' => ∃ v', e = .returned v' ∧ OwnS u.heap.size w' v' P ∧ Below u.heap.size u w') := Lib.hid fun u hu => by
    have hs := (h.old' hu).sums.head k (by rw [h.1]; exact hk)
    rw [← hP] at hs
    exact sclone_any _ P u hs (by omega)
  rw [← hP]
  have HF := Lib.hid h
  clear h hP hPl hk0
  go_enter Tryd.func55, Tryd.ntmps55
  go_upto_region 3 with (fail)
  try simp only [Act.put]
  refine wp_region_tab [RT.is (.pointer (some ⟨b, o, none⟩)), RT.is (.pointer (some ⟨b, o, none⟩)), RT.is (.pointer (some ⟨b, o + 1, none⟩)), RT.is (.pointer (some ⟨b, o, none⟩)), RT.is (.pointer (some ⟨b, o, none⟩)), RT.is (.pointer (some ⟨b, o, none⟩)), RT.is (.int .i64 (n : Int)), RT.is (.int .i64 (k : Int)), RT.is (.slice (some ⟨b, o + 1, none⟩) k 40), RT.ownS w.heap.size P, RT.ownS w.heap.size P] (by kernel_rfl) (by kernel_rfl) (by kernel_rfl) (by kernel_rfl) ⟨?_, ?_, ?_, ?_, ?_, ?_, ?_, ?_, ?_, ?_, ?_, trivial⟩ ?_
  · intro ac w' hF hL hP hU K hK
    have hB := below_undrew hL
    have e0 : ac.eval (.tmp 0) = .pointer (some ⟨b, o, none⟩) := hF.at 0 (by kernel_rfl)
    exact rop_move _ rfl e0 (wanted_none rfl) (hK _ _ (le8_refl _) rfl)
  · intro ac w' hF hL hP hU K hK
    have hB := below_undrew hL
    have e5 : ac.eval (.tmp 5) = .pointer (some ⟨b, o, none⟩) := hP 0 (by kernel_rfl)
    exact rop_nilG _ rfl e5 (wanted_none rfl) (hK _ _ (le8_refl _) rfl)
  · intro ac w' hF hL hP hU K hK
    have hB := below_undrew hL
    have e6 : ac.eval (.tmp 6) = .pointer (some ⟨b, o, none⟩) := hP 1 (by kernel_rfl)
    exact rop_fld _ _ _ rfl e6 (fld_peaksI b o w') (wanted_none rfl) (hK _ _ (le8_refl _) rfl)
  · intro ac w' hF hL hP hU K hK
    have hB := below_undrew hL
    have e0 : ac.eval (.tmp 0) = .pointer (some ⟨b, o, none⟩) := hF.at 0 (by kernel_rfl)
    exact rop_move _ rfl e0 (wanted_none rfl) (hK _ _ (le8_refl _) rfl)
  · intro ac w' hF hL hP hU K hK
    have hB := below_undrew hL
    have e8 : ac.eval (.tmp 8) = .pointer (some ⟨b, o, none⟩) := hP 3 (by kernel_rfl)
    exact rop_nilG _ rfl e8 (wanted_none rfl) (hK _ _ (le8_refl _) rfl)
  · intro ac w' hF hL hP hU K hK
    have hB := below_undrew hL
    have e9 : ac.eval (.tmp 9) = .pointer (some ⟨b, o, none⟩) := hP 4 (by kernel_rfl)
    exact rop_fld _ _ _ rfl e9 (fld_sizeI b o w') (wanted_none rfl) (hK _ _ (le8_refl _) rfl)
  · intro ac w' hF hL hP hU K hK
    have hB := below_undrew hL
    have e10 : ac.eval (.tmp 10) = .pointer (some ⟨b, o, none⟩) := hP 5 (by kernel_rfl)
    exact rop_ld _ _ rfl e10 (load_i64 ((HF.out.old' hB).at0)) (wanted_none rfl) (hK _ _ (le8_refl _) rfl)
  · intro ac w' hF hL hP hU K hK
    have hB := below_undrew hL
    have e11 : ac.eval (.tmp 11) = .int .i64 (n : Int) := hP 6 (by kernel_rfl)
    refine rop_call 63 _ _ rfl #[.int .i64 (n : Int)] (by simp [e11]) (by kernel_rfl) (wanted_none rfl) ?_
    refine (HW.out w').mono ?_
    rintro e w2 ⟨rfl, hb⟩
    exact ⟨_, rfl, hK _ _ hb rfl⟩
  · intro ac w' hF hL hP hU K hK
    have hB := below_undrew hL
    have e7 : ac.eval (.tmp 7) = .pointer (some ⟨b, o + 1, none⟩) := hP 2 (by kernel_rfl)
    have e12 : ac.eval (.tmp 12) = .int .i64 (k : Int) := hP 7 (by kernel_rfl)
    exact rop_sliceG _ _ _ _ _ rfl e7 rfl (by simp [e12]) rfl (asliceI b (o + 1) k hk w') (wanted_none rfl) (hK _ _ (le8_refl _) rfl)
  · intro ac w' hF hL hP hU K hK
    have hB := below_undrew hL
    have e13 : ac.eval (.tmp 13) = .slice (some ⟨b, o + 1, none⟩) k 40 := hP 8 (by kernel_rfl)
    refine rop_call 33 _ _ rfl #[.slice (some ⟨b, o + 1, none⟩) k 40] (by simp [e13]) (by kernel_rfl) (wanted_none rfl) ?_
    refine (HC.out w' hB).mono ?_
    rintro e w2 ⟨v2, rfl, ho, hb⟩
    exact ⟨_, rfl, hK _ _ hb (ho.lower hB.size)⟩
  · intro ac w' hF hL hP hU K hK
    have hB := below_undrew hL
    have e14 : OwnS w.heap.size w' (ac.eval (.tmp 14)) P := hP 9 (by kernel_rfl)
    exact rop_assign _ rfl rfl (wanted_none rfl) (hK _ _ (le8_refl _) e14)
  · intro ac w' hF hB hT
    have e2 : OwnS w.heap.size w' (ac.eval (.tmp 2)) P := hT 10 (by decide)
    rw [hF.setsG [5, 6, 7, 8, 9, 10, 11, 12, 13, 14, 2] (by kernel_rfl)]
    simp only [List.foldl_cons, List.foldl_nil, List.setIfInBounds_toArray, List.set_cons_succ, List.set_cons_zero]
    generalize ac.eval (.tmp 5) = u5
    generalize ac.eval (.tmp 6) = u6
    generalize ac.eval (.tmp 7) = u7
    generalize ac.eval (.tmp 8) = u8
    generalize ac.eval (.tmp 9) = u9
    generalize ac.eval (.tmp 10) = u10
    generalize ac.eval (.tmp 11) = u11
    generalize ac.eval (.tmp 12) = u12
    generalize ac.eval (.tmp 13) = u13
    generalize ac.eval (.tmp 14) = u14
    generalize ac.eval (.tmp 2) = v2 at e2 ⊢
    clear  hT hF ac
    go_wp2
    go_ret
    exact ⟨_, rfl, e2, hB⟩
end Go.Proofs.YtollcdalokhjaaaDoor
/-! ## Package front: Add, to a front inside another block. -/
namespace Go.Proofs.YtollcdalokhjaaaDoor
open Go.RowKit

/-- Ahead of a rest r: m hashes are left, y is the root of what goes together. -/
def AddRelI (T : TypeId) (pre post : List Value) (o b n q : Nat) (R : Hs) (w0 : World) (s5 s6 : Value) (wr : World) : Prop :=
  ∃ (r m : Nat) (y : List UInt8) (Q : Hs), s5 = .int .i64 (m : Int) ∧ s6 = .int .i64 (r : Int) ∧ m = Tree.ones r ∧ r ≤ n ∧ y.length = 32 ∧ FrI T pre post o b n Q wr ∧ wr.heap[q]? = some (.cells (y.map u8V).toArray 33 (0, 0)) ∧ Tree.addP r (Q.take m) y = R ∧ Only b w0 wr
def restOfI : Value → Nat
  | .int _ z => z.toNat
  | _ => 0
set_option maxHeartbeats 4000000 in
set_option maxRecDepth 100000 in
theorem faddI_any (T : TypeId) (pre post : List Value) (o b n : Nat) (Q : Hs) (x : List UInt8) (w : World) (h : FrI T pre post o b n Q w) (hn : n < 1099511627776) (hb0 : b ≠ 0) (hx : x.length = 32) (hK : KT w) :
    Calls Tryd.prog 41 #[.pointer (some ⟨b, o, none⟩), sumV x] w fun e w' => e = .returned (.int .i64 ((n + 1 : Nat) : Int)) ∧ (∃ Q', FrI T pre post o b (n + 1) Q' w' ∧ Q'.take (Tree.ones (n + 1)) = Tree.addP n (Q.take (Tree.ones n)) x) ∧ Only b w w' := by
  obtain ⟨R, hR⟩ : ∃ R, R = Tree.addP n (Q.take (Tree.ones n)) x := ⟨_, rfl⟩
  have hRl : R.length = Tree.ones (n + 1) := by
    rw [hR]
    have := Tree.ones_most n (by omega)
    exact Tree.addP_length n _ x (by rw [List.length_take, h.1]; omega)
  rw [← hR]
  unfold sumV
  obtain ⟨V, hV⟩ : ∃ V, V = w.alloc (.cells (x.map u8V).toArray 33) := ⟨_, rfl⟩
  obtain ⟨q, hq⟩ : ∃ q, q = w.heap.size := ⟨_, rfl⟩
  have b0 : Below w.heap.size w V := by rw [hV]; exact (Below.refl _ _).alloc (Nat.le_refl _) _
  have hz : V.heap[q]? = some (.cells (x.map u8V).toArray 33 (0, 0)) := by rw [hV, hq]; exact heap_alloc_last _ _
  have hfV := h.old' b0
  have c0 := hfV.at0
  have hbq : b ≠ q := by have := h.lt; omega
  have hne : ¬ (n : Int) = 1099511627776 := by omega
  have HWP := Lib.hid (fun u => whole_any n (by omega) u)
  obtain ⟨m0, hm0⟩ : ∃ m0, m0 = Tree.ones n := ⟨_, rfl⟩
  rw [← hm0] at hR HWP
  have HR := Lib.hid hR
  have HRl := Lib.hid hRl
  have Hm0 := Lib.hid hm0
  have HZ0 := Lib.hid hz
  have HFV := Lib.hid hfV
  have HbQ := Lib.hid hbq
  have Hq := Lib.hid hq
  have HX := Lib.hid hx
  have HKW := Lib.hid hK
  have Hb0 := Lib.hid hb0
  have B0 := Lib.hid b0
  have HnM := Lib.hid hn
  clear hR hRl hm0 hz hfV hbq hq hx hK hb0 h b0
  go_enter Tryd.func41, Tryd.ntmps41
  go_upto_region 1 with (fail)
  change Code.wp _ _ _ _ (w.alloc (.cells (x.map u8V).toArray 33))
  rw [← hV, ← Hq.out]
  clear hV
  go_step3
  refine wp_seq ?_
  refine wp_seq ?_
  try simp only [Act.put]
  refine wp_region_tab0 [RT.is (.pointer (some ⟨b, o, none⟩)), RT.is (.bool false), RT.is (.bool false), RT.is (.pointer (some ⟨b, o, none⟩)), RT.is (.pointer (some ⟨b, o, none⟩)), RT.is (.pointer (some ⟨b, o, none⟩)), RT.is (.int .i64 (n : Int)), RT.is (.bool false), RT.is (.bool false)] (by kernel_rfl) (by kernel_rfl) (by kernel_rfl) ⟨?_, ?_, ?_, ?_, ?_, ?_, ?_, ?_, ?_, trivial⟩ ?_
  · intro ac w' hF hL hP hU K hK
    have hB : Below _ _ _ := hL
    have e0 : ac.eval (.tmp 0) = .pointer (some ⟨b, o, none⟩) := hF.at 0 (by kernel_rfl)
    exact rop_move _ rfl e0 (wanted_none rfl) (hK _ _ (le8_refl _) rfl)
  · intro ac w' hF hL hP hU K hK
    have hB : Below _ _ _ := hL
    have e7 : ac.eval (.tmp 7) = .pointer (some ⟨b, o, none⟩) := hP 0 (by kernel_rfl)
    exact rop_bin _ _ _ _ _ rfl e7 rfl (guard_ptr _ _ _ _ _ _ w') (eql_ptr_noneI b o w') (wanted_none rfl) (hK _ _ (le8_refl _) rfl)
  · intro ac w' hF hL hP hU K hK
    have hB : Below _ _ _ := hL
    have e8 : ac.eval (.tmp 8) = .bool false := hP 1 (by kernel_rfl)
    exact rop_move _ rfl e8 (wanted_none rfl) (hK _ _ (le8_refl _) rfl)
  · intro ac w' hF hL hP hU K hK
    have hB : Below _ _ _ := hL
    have e0 : ac.eval (.tmp 0) = .pointer (some ⟨b, o, none⟩) := hF.at 0 (by kernel_rfl)
    have e9 : ac.eval (.tmp 9) = .bool false := hP 2 (by kernel_rfl)
    exact rop_move _ rfl e0 (wanted_of (j := 2) (b := false) rfl rfl e9) (hK _ _ (le8_refl _) rfl)
  · intro ac w' hF hL hP hU K hK
    have hB : Below _ _ _ := hL
    have e10 : ac.eval (.tmp 10) = .pointer (some ⟨b, o, none⟩) := hP 3 (by kernel_rfl)
    have e9 : ac.eval (.tmp 9) = .bool false := hP 2 (by kernel_rfl)
    exact rop_nilG _ rfl e10 (wanted_of (j := 2) (b := false) rfl rfl e9) (hK _ _ (le8_refl _) rfl)
  · intro ac w' hF hL hP hU K hK
    have hB : Below _ _ _ := hL
    have e11 : ac.eval (.tmp 11) = .pointer (some ⟨b, o, none⟩) := hP 4 (by kernel_rfl)
    have e9 : ac.eval (.tmp 9) = .bool false := hP 2 (by kernel_rfl)
    exact rop_fld _ _ _ rfl e11 (fld_sizeI b o w') (wanted_of (j := 2) (b := false) rfl rfl e9) (hK _ _ (le8_refl _) rfl)
  · intro ac w' hF hL hP hU K hK
    have hB : Below _ _ _ := hL
    have e12 : ac.eval (.tmp 12) = .pointer (some ⟨b, o, none⟩) := hP 5 (by kernel_rfl)
    have e9 : ac.eval (.tmp 9) = .bool false := hP 2 (by kernel_rfl)
    exact rop_ld _ _ rfl e12 (load_i64 ((HFV.out.old' hB).at0)) (wanted_of (j := 2) (b := false) rfl rfl e9) (hK _ _ (le8_refl _) rfl)
  · intro ac w' hF hL hP hU K hK
    have hB : Below _ _ _ := hL
    have e13 : ac.eval (.tmp 13) = .int .i64 (n : Int) := hP 6 (by kernel_rfl)
    have e9 : ac.eval (.tmp 9) = .bool false := hP 2 (by kernel_rfl)
    exact rop_bin _ _ _ _ _ rfl e13 rfl (guard_int _ _ _ _ _ _ _ w') (eql_iF _ _ hne w') (wanted_of (j := 2) (b := false) rfl rfl e9) (hK _ _ (le8_refl _) rfl)
  · intro ac w' hF hL hP hU K hK
    have hB : Below _ _ _ := hL
    have e9 : ac.eval (.tmp 9) = .bool false := hP 2 (by kernel_rfl)
    have e14 : ac.eval (.tmp 14) = .bool false := hP 7 (by kernel_rfl)
    exact rop_pick _ _ _ rfl false e9 (by simpa using e14) (wanted_none rfl) (hK _ _ (le8_refl _) rfl)
  · intro ac w' hF hB hT
    have e15 : ac.eval (.tmp 15) = .bool false := hT 8 (by decide)
    rw [hF.setsG [7, 8, 9, 10, 11, 12, 13, 14, 15] (by kernel_rfl)]
    simp only [List.foldl_cons, List.foldl_nil, List.setIfInBounds_toArray, List.set_cons_succ, List.set_cons_zero, e15]
    generalize ac.eval (.tmp 7) = u7
    generalize ac.eval (.tmp 8) = u8
    generalize ac.eval (.tmp 9) = u9
    generalize ac.eval (.tmp 10) = u10
    generalize ac.eval (.tmp 11) = u11
    generalize ac.eval (.tmp 12) = u12
    generalize ac.eval (.tmp 13) = u13
    generalize ac.eval (.tmp 14) = u14
    clear e15 hT hF ac
    have hfW := HFV.out.old' hB
    have c1 := hfW.at0
    go_wp2_with (first
      | (go_at_call 63; ((with_reducible refine (HWP.out _).mono ?_); rintro e w1 ⟨rfl, rfl⟩)))
    go_step3
    go_wp2
    go_loopw [5, 6] (fun s5 s6 wr => AddRelI T pre post o b n q R w s5 s6 wr) (fun _ s6 _ => restOfI s6)
    case atStart => exact ⟨n, m0, x, Q, rfl, rfl, Hm0.out, Nat.le_refl _, HX.out, hfW, (hB.block q (Array.getElem?_eq_some_iff.1 HZ0.out).1).trans HZ0.out, HR.out.symm, only_below (Only.of_below B0.out) hB⟩
    case round =>
      obtain ⟨r, m, y, Q, rfl, rfl, hm, hr, hy, hf, hz, ha, ho⟩ := hrel
      clear hfW c1 hB c0 HFV HZ0 HR HX
      obtain ⟨W, hW⟩ : ∃ W, W = wr := ⟨_, rfl⟩
      subst hW
      have HF := Lib.hid hf
      have HZ := Lib.hid hz
      have HY := Lib.hid hy
      have HO := Lib.hid ho
      have HqW : Hid (q < W.heap.size) := Lib.hid (Array.getElem?_eq_some_iff.1 hz).1
      by_cases h2 : r % 2 = 1
      · have hrem : (r : Int).tmod 2 = 1 := by rw [Int.tmod_eq_emod_of_nonneg (by omega)]; omega
        have hquo : (r : Int).tdiv 2 = ((r / 2 : Nat) : Int) := by rw [Int.tdiv_eq_ediv_of_nonneg (by omega)]; omega
        obtain ⟨r2, hr2⟩ : ∃ r2, r2 = r / 2 := ⟨_, rfl⟩
        rw [← hr2] at hquo
        have hq3 : wrap64 (r2 : Int) = (r2 : Int) := by unfold wrap64; omega
        have hm1 : m = Tree.ones r2 + 1 := by rw [hm, Tree.ones_step, hr2, h2, Nat.add_comm]
        obtain ⟨m1, hm1e⟩ : ∃ m1, m1 = Tree.ones r2 := ⟨_, rfl⟩
        rw [← hm1e] at hm1
        have hm40 : m1 < 40 := by
          have := Tree.ones_le 39 r2 (by rw [show (2 : Nat) ^ 39 = 549755813888 by decide]; omega)
          omega
        have hsub : (m : Int) - 1 = (m1 : Int) := by omega
        have hsubw : IntKind.i64.wrap ((m : Int) - 1) = (m1 : Int) := by rw [hsub]; exact IntWalk.i64_in _ (by omega)
        have hsubw2 := IntWalk.i64_in (m1 : Int) (by omega)
        obtain ⟨p, hp⟩ : ∃ p, p = Q[m1]'(by rw [hf.1]; exact hm40) := ⟨_, rfl⟩
        have hpl : p.length = 32 := by rw [hp]; exact hf.2.1 _ (List.getElem_mem _)
        have hpr := hf.rangeQ m1 (by rw [hf.1]; exact hm40)
        rw [← hp] at hpr
        obtain ⟨D, hD⟩ : ∃ D, D = Tree.node p y := ⟨_, rfl⟩
        have hDl : D.length = 32 := by rw [hD]; exact Tree.node_length _ _
        have hKW := HKW.out.only ho Hb0.out
        have HN : Hid (∀ u : World, Below W.heap.size W u → Calls Tryd.prog 57 #[sumV p, sumV y] u fun e w' => e = .returned (sumV D) ∧ Below u.heap.size u w') := Lib.hid fun u hu => by
          rw [hD]
          exact leafNode_any p y hpl hy u (hKW.old hu)
        obtain ⟨zs, hzs⟩ : ∃ zs : List UInt8, zs = List.replicate 32 (0 : UInt8) := ⟨_, rfl⟩
        have HBZ : Hid (Tryd.prog.built 33 [] = some (zs.map u8V).toArray) := Lib.hid (by rw [hzs]; exact built_zero)
        have HZl : Hid (zs.length = 32) := Lib.hid (by rw [hzs, List.length_replicate])
        have hnext : Tree.addP r2 ((Q.set m1 zs).take m1) D = R := by
          rw [← ha, Tree.addP_odd h2, hm1, ← hr2, hD, List.take_set_of_le (Nat.le_refl _)]
          have e1 : Q.take (m1 + 1) = Q.take m1 ++ [p] := by rw [List.take_succ_eq_append_getElem (by rw [hf.1]; exact hm40), hp]
          rw [e1, List.dropLast_concat]
          congr 1
          simp
        have HNX := Lib.hid hnext
        have HP := Lib.hid hpr
        have HPl := Lib.hid hpl
        have HDl := Lib.hid hDl
        have Hm1 := Lib.hid hm1e
        have Hr2 : Hid (r2 ≤ n ∧ r2 < r) := Lib.hid (by omega)
        clear hf hz hy ho ha hm hr hr2 hm1 hm1e hp hpl hpr hD hDl hzs hnext h2 hKW
        go_upto_region 11 with (fail)

        try simp only [Act.put]
        refine wp_region_ph (Lx := GLf 2) [RXP.is (.pointer (some ⟨b, o, none⟩)), RXP.is (.int .i64 (m1 : Int)), RXP.is (.pointer (some ⟨b, o, none⟩)), RXP.is (.int .i64 (m1 : Int)), RXP.is (.pointer (some ⟨b, o, none⟩)), RXP.is (.pointer (some ⟨b, o + 1, none⟩)), RXP.is (.pointer (some ⟨b, o + 1 + m1 * 32, none⟩)), RXP.is (sumV p), RXP.is (sumV y), RXP.is (sumV D), RXP.is (sumV zs), RXP.any, RXP.is (.pointer (some ⟨b, o, none⟩)), RXP.is (.pointer (some ⟨b, o + 1, none⟩)), RXP.is (.pointer (some ⟨b, o + 1 + m1 * 32, none⟩)), RXP.any] [9, 11, 15] (fun k w' => (k < 2 → Below W.heap.size W w') ∧ (k = 2 → ∃ u, Below W.heap.size W u ∧ w' = u.setCells q 0 (D.map u8V)) ∧ (k = 3 → ∃ u, Below W.heap.size W u ∧ w' = (u.setCells q 0 (D.map u8V)).setCells b (o + 1 + m1 * 32) (zs.map u8V))) (by kernel_rfl) (by kernel_rfl) (by kernel_rfl) (by kernel_rfl) (by kernel_rfl) (⟨fun _ => below_drew (Below.refl _ _), fun h => absurd h (by decide), fun h => absurd h (by decide)⟩) ⟨?_, ?_, ?_, ?_, ?_, ?_, ?_, ?_, ?_, ?_, ?_, ?_, ?_, ?_, ?_, ?_, trivial⟩ ?_
        · intro ac w' ph hF hPh hlt hP hU K hK0
          have e0 : ac.eval (.tmp 0) = .pointer (some ⟨b, o, none⟩) := hF.at 0 (by kernel_rfl)
          exact rop_move _ rfl e0 (wanted_none rfl) (hK0 _ _ GLf.same hPh rfl)
        · intro ac w' ph hF hPh hlt hP hU K hK0
          have e5 : ac.eval (.tmp 5) = .int .i64 (m1 : Int) := hF.at 5 (by kernel_rfl)
          exact rop_move _ rfl e5 (wanted_none rfl) (hK0 _ _ GLf.same hPh rfl)
        · intro ac w' ph hF hPh hlt hP hU K hK0
          have e0 : ac.eval (.tmp 0) = .pointer (some ⟨b, o, none⟩) := hF.at 0 (by kernel_rfl)
          exact rop_move _ rfl e0 (wanted_none rfl) (hK0 _ _ GLf.same hPh rfl)
        · intro ac w' ph hF hPh hlt hP hU K hK0
          have e5 : ac.eval (.tmp 5) = .int .i64 (m1 : Int) := hF.at 5 (by kernel_rfl)
          exact rop_move _ rfl e5 (wanted_none rfl) (hK0 _ _ GLf.same hPh rfl)
        · intro ac w' ph hF hPh hlt hP hU K hK0
          have e43 : ac.eval (.tmp 43) = .pointer (some ⟨b, o, none⟩) := hP 2 (by kernel_rfl)
          exact rop_nilG _ rfl e43 (wanted_none rfl) (hK0 _ _ GLf.same hPh rfl)
        · intro ac w' ph hF hPh hlt hP hU K hK0
          have e45 : ac.eval (.tmp 45) = .pointer (some ⟨b, o, none⟩) := hP 4 (by kernel_rfl)
          exact rop_fld _ _ _ rfl e45 (fld_peaksI b o w') (wanted_none rfl) (hK0 _ _ GLf.same hPh rfl)
        · intro ac w' ph hF hPh hlt hP hU K hK0
          have e46 : ac.eval (.tmp 46) = .pointer (some ⟨b, o + 1, none⟩) := hP 5 (by kernel_rfl)
          have e44 : ac.eval (.tmp 44) = .int .i64 (m1 : Int) := hP 3 (by kernel_rfl)
          exact rop_idx _ _ _ rfl e46 e44 (idx40I b (o + 1) m1 hm40 w') (wanted_none rfl) (hK0 _ _ GLf.same hPh rfl)
        · intro ac w' ph hF hPh hlt hP hU K hK0
          have hph : ph ≤ 0 := (hlt 0 9 rfl).2 (by kernel_rfl)
          have e47 : ac.eval (.tmp 47) = .pointer (some ⟨b, o + 1 + m1 * 32, none⟩) := hP 6 (by kernel_rfl)
          exact rop_ld _ _ rfl e47 (run_loadAt_mid _ _ _ _ _ _ (below_range (hPh.1 (by omega)) HF.out.lt HP.out) Tryd.underlying33 rfl (sum_info' HPl.out)) (wanted_none rfl) (hK0 _ _ GLf.same hPh rfl)
        · intro ac w' ph hF hPh hlt hP hU K hK0
          have hph : ph ≤ 0 := (hlt 0 9 rfl).2 (by kernel_rfl)
          have e3 : ac.eval (.tmp 3) = .pointer (some ⟨q, 0, none⟩) := hF.at 3 (by kernel_rfl)
          exact rop_ld _ _ rfl e3 (run_loadAt_mid _ _ _ _ _ _ (below_range (hPh.1 (by omega)) HqW.out (range_of HZ.out)) Tryd.underlying33 rfl (sum_info' HY.out)) (wanted_none rfl) (hK0 _ _ GLf.same hPh rfl)
        · intro ac w' ph hF hPh hlt hP hU K hK0
          obtain rfl : ph = 0 := (hlt 0 9 rfl).1 rfl
          have e48 : ac.eval (.tmp 48) = sumV p := hP 7 (by kernel_rfl)
          have e49 : ac.eval (.tmp 49) = sumV y := hP 8 (by kernel_rfl)
          have hB : Below W.heap.size W w' := hPh.1 (by decide)
          refine rop_call 57 _ _ rfl #[sumV p, sumV y] (by simp [e48, e49]) (by kernel_rfl) (wanted_none rfl) ?_
          refine (HN.out w' hB).mono ?_
          rintro e w2 ⟨rfl, hb⟩
          exact ⟨_, rfl, hK0 _ _ (GLf.old hb) ⟨fun _ => below_step hB (Nat.le_refl _) hb, fun h => absurd h (by decide), fun h => absurd h (by decide)⟩ rfl⟩
        · intro ac w' ph hF hPh hlt hP hU K hK0
          exact rop_buildF _ _ rfl [] (by simp) HBZ.out (wanted_none rfl) (hK0 _ _ GLf.same hPh rfl)
        · intro ac w' ph hF hPh hlt hP hU K hK0
          obtain rfl : ph = 1 := (hlt 1 11 rfl).1 rfl
          have e3 : ac.eval (.tmp 3) = .pointer (some ⟨q, 0, none⟩) := hF.at 3 (by kernel_rfl)
          have e50 : ac.eval (.tmp 50) = sumV D := hP 9 (by kernel_rfl)
          have hB : Below W.heap.size W w' := hPh.1 (by decide)
          have hz := (hB.block q HqW.out).trans HZ.out
          exact rop_storeG _ _ _ rfl e3 e50 (run_storeAt_mid w' q 0 _ _ (sum_thereF hz HY.out HDl.out) (sum_info HDl.out) (sum_one D)) (wanted_none rfl) (hK0 _ _ (GLf.own (by decide)) ⟨fun h => absurd h (by decide), fun _ => ⟨w', hB, rfl⟩, fun h => absurd h (by decide)⟩ trivial)
        · intro ac w' ph hF hPh hlt hP hU K hK0
          have e41 : ac.eval (.tmp 41) = .pointer (some ⟨b, o, none⟩) := hP 0 (by kernel_rfl)
          exact rop_nilG _ rfl e41 (wanted_none rfl) (hK0 _ _ GLf.same hPh rfl)
        · intro ac w' ph hF hPh hlt hP hU K hK0
          have e52 : ac.eval (.tmp 52) = .pointer (some ⟨b, o, none⟩) := hP 12 (by kernel_rfl)
          exact rop_fld _ _ _ rfl e52 (fld_peaksI b o w') (wanted_none rfl) (hK0 _ _ GLf.same hPh rfl)
        · intro ac w' ph hF hPh hlt hP hU K hK0
          have e53 : ac.eval (.tmp 53) = .pointer (some ⟨b, o + 1, none⟩) := hP 13 (by kernel_rfl)
          have e42 : ac.eval (.tmp 42) = .int .i64 (m1 : Int) := hP 1 (by kernel_rfl)
          exact rop_idx _ _ _ rfl e53 e42 (idx40I b (o + 1) m1 hm40 w') (wanted_none rfl) (hK0 _ _ GLf.same hPh rfl)
        · intro ac w' ph hF hPh hlt hP hU K hK0
          obtain rfl : ph = 2 := (hlt 2 15 rfl).1 rfl
          have e54 : ac.eval (.tmp 54) = .pointer (some ⟨b, o + 1 + m1 * 32, none⟩) := hP 14 (by kernel_rfl)
          have e51 : ac.eval (.tmp 51) = sumV zs := hP 10 (by kernel_rfl)
          obtain ⟨u, hB, hwu⟩ := hPh.2.1 rfl
          have hf : FrI T pre post o b n Q w' := by rw [hwu]; exact (HF.out.old' hB).kept (only_setCells _ _ _ (Only.refl _ _)) HbQ.out
          exact rop_storeG _ _ _ rfl e54 e51 (run_storeAt_mid w' b (o + 1 + m1 * 32) _ _ (hf.there m1 hm40 HZl.out) (sum_info HZl.out) (sum_one zs)) (wanted_none rfl) (hK0 _ _ (GLf.own (by decide)) ⟨fun h => absurd h (by decide), fun h => absurd h (by decide), fun _ => ⟨u, hB, by rw [hwu]⟩⟩ trivial)
        · intro ac w' hF hPh hT
          rw [hF.setsG [41, 42, 43, 44, 45, 46, 47, 48, 49, 50, 51, 52, 53, 54] (by kernel_rfl)]
          simp only [List.foldl_cons, List.foldl_nil, List.setIfInBounds_toArray, List.set_cons_succ, List.set_cons_zero]
          generalize ac.eval (.tmp 41) = u41
          generalize ac.eval (.tmp 42) = u42
          generalize ac.eval (.tmp 43) = u43
          generalize ac.eval (.tmp 44) = u44
          generalize ac.eval (.tmp 45) = u45
          generalize ac.eval (.tmp 46) = u46
          generalize ac.eval (.tmp 47) = u47
          generalize ac.eval (.tmp 48) = u48
          generalize ac.eval (.tmp 49) = u49
          generalize ac.eval (.tmp 50) = u50
          generalize ac.eval (.tmp 51) = u51
          generalize ac.eval (.tmp 52) = u52
          generalize ac.eval (.tmp 53) = u53
          generalize ac.eval (.tmp 54) = u54
          clear  hT hF ac
          obtain ⟨u, bu, hwu⟩ := hPh.2.2 rfl
          have hfu := HF.out.old' bu
          have hzu := (bu.block q HqW.out).trans HZ.out
          have hf1 : FrI T pre post o b n Q (u.setCells q 0 (D.map u8V)) := hfu.kept (only_setCells _ _ _ (Only.refl _ _)) HbQ.out
          have hz1 := set_sumF u q y D HY.out HDl.out hzu
          have hf2 := hf1.setQ m1 hm40 HZl.out
          have hz2 : ((u.setCells q 0 (D.map u8V)).setCells b (o + 1 + m1 * 32) (zs.map u8V)).heap[q]? = some (.cells (D.map u8V).toArray 33 (0, 0)) :=
            ((only_setCells (b := b) (zs.map u8V) (o + 1 + m1 * 32) _ (Only.refl _ _)).block q (Array.getElem?_eq_some_iff.1 hz1).1 (Ne.symm HbQ.out)).trans hz1
          have ho2 : Only b w ((u.setCells q 0 (D.map u8V)).setCells b (o + 1 + m1 * 32) (zs.map u8V)) :=
            (only_new (only_below HO.out bu) (only_setCells (b := q) (D.map u8V) 0 _ (Only.refl _ _)) (by rw [Hq.out]; exact Nat.le_refl _)).trans (only_setCells (b := b) (zs.map u8V) (o + 1 + m1 * 32) _ (Only.refl _ _))
          rw [← hwu] at hf2 hz2 ho2
          have HF2 := Lib.hid hf2
          have HZ2 := Lib.hid hz2
          have HO2 := Lib.hid ho2
          clear hPh hwu hfu hzu hf1 hz1 hf2 hz2 ho2 bu
          go_wp2
          rw [hq3]
          exact ⟨⟨r2, m1, D, Q.set m1 zs, rfl, rfl, Hm1.out, Hr2.out.1, HDl.out, HF2.out, HZ2.out, HNX.out, HO2.out⟩, by simpa [restOfI] using Hr2.out.2⟩
      · have hrem : (r : Int).tmod 2 = 0 := by rw [Int.tmod_eq_emod_of_nonneg (by omega)]; omega
        have hm40 : m < 40 := by
          have := Tree.ones_le 39 (r / 2) (by rw [show (2 : Nat) ^ 39 = 549755813888 by decide]; omega)
          rw [hm, Tree.ones_step]
          omega
        have hlast : (Q.set m y).take (m + 1) = R := by
          rw [← ha, Tree.addP_even h2, List.take_succ_eq_append_getElem (by rw [List.length_set, hf.1]; exact hm40), List.take_set_of_le (Nat.le_refl _), List.getElem_set_self]
        have hm1 : m + 1 = Tree.ones (n + 1) := by
          rw [← HRl.out, ← hlast, List.length_take, List.length_set, hf.1]
          omega
        rw [hm1] at hlast
        have HL := Lib.hid hlast
        have haddw := IntWalk.i64_in ((n : Int) + 1) (by omega)
        clear hf hz hy ho ha hm hr hm1 hlast h2
        go_upto_region 8 with (fail)

        try simp only [Act.put]
        refine wp_region_ph (Lx := GLx 1) [RXP.is (.pointer (some ⟨b, o, none⟩)), RXP.is (.int .i64 (m : Int)), RXP.is (sumV y), RXP.is (.pointer (some ⟨b, o, none⟩)), RXP.is (.pointer (some ⟨b, o + 1, none⟩)), RXP.is (.pointer (some ⟨b, o + 1 + m * 32, none⟩)), RXP.any] [6] (fun k w' => (k < 1 → Below W.heap.size W w') ∧ (k = 1 → ∃ u, Below W.heap.size W u ∧ w' = u.setCells b (o + 1 + m * 32) (y.map u8V))) (by kernel_rfl) (by kernel_rfl) (by kernel_rfl) (by kernel_rfl) (by kernel_rfl) (⟨fun _ => below_drew (Below.refl _ _), fun h => by cases h⟩) ⟨?_, ?_, ?_, ?_, ?_, ?_, ?_, trivial⟩ ?_
        · intro ac w' ph hF hPh hlt hP hU K hK0
          have e0 : ac.eval (.tmp 0) = .pointer (some ⟨b, o, none⟩) := hF.at 0 (by kernel_rfl)
          exact rop_move _ rfl e0 (wanted_none rfl) (hK0 _ _ GLx.same hPh rfl)
        · intro ac w' ph hF hPh hlt hP hU K hK0
          have e5 : ac.eval (.tmp 5) = .int .i64 (m : Int) := hF.at 5 (by kernel_rfl)
          exact rop_move _ rfl e5 (wanted_none rfl) (hK0 _ _ GLx.same hPh rfl)
        · intro ac w' ph hF hPh hlt hP hU K hK0
          have hph : ph ≤ 0 := (hlt 0 6 rfl).2 (by kernel_rfl)
          have e3 : ac.eval (.tmp 3) = .pointer (some ⟨q, 0, none⟩) := hF.at 3 (by kernel_rfl)
          exact rop_ld _ _ rfl e3 (run_loadAt_mid _ _ _ _ _ _ (below_range (hPh.1 (by omega)) HqW.out (range_of HZ.out)) Tryd.underlying33 rfl (sum_info' HY.out)) (wanted_none rfl) (hK0 _ _ GLx.same hPh rfl)
        · intro ac w' ph hF hPh hlt hP hU K hK0
          have e31 : ac.eval (.tmp 31) = .pointer (some ⟨b, o, none⟩) := hP 0 (by kernel_rfl)
          exact rop_nilG _ rfl e31 (wanted_none rfl) (hK0 _ _ GLx.same hPh rfl)
        · intro ac w' ph hF hPh hlt hP hU K hK0
          have e34 : ac.eval (.tmp 34) = .pointer (some ⟨b, o, none⟩) := hP 3 (by kernel_rfl)
          exact rop_fld _ _ _ rfl e34 (fld_peaksI b o w') (wanted_none rfl) (hK0 _ _ GLx.same hPh rfl)
        · intro ac w' ph hF hPh hlt hP hU K hK0
          have e35 : ac.eval (.tmp 35) = .pointer (some ⟨b, o + 1, none⟩) := hP 4 (by kernel_rfl)
          have e32 : ac.eval (.tmp 32) = .int .i64 (m : Int) := hP 1 (by kernel_rfl)
          exact rop_idx _ _ _ rfl e35 e32 (idx40I b (o + 1) m hm40 w') (wanted_none rfl) (hK0 _ _ GLx.same hPh rfl)
        · intro ac w' ph hF hPh hlt hP hU K hK0
          obtain rfl : ph = 0 := (hlt 0 6 rfl).1 rfl
          have e36 : ac.eval (.tmp 36) = .pointer (some ⟨b, o + 1 + m * 32, none⟩) := hP 5 (by kernel_rfl)
          have e33 : ac.eval (.tmp 33) = sumV y := hP 2 (by kernel_rfl)
          have hB : Below W.heap.size W w' := hPh.1 (by decide)
          have hf := HF.out.old' hB
          exact rop_storeG _ _ _ rfl e36 e33 (run_storeAt_mid w' b (o + 1 + m * 32) _ _ (hf.there m hm40 HY.out) (sum_info HY.out) (sum_one y)) (wanted_none rfl) (hK0 _ _ (GLx.last rfl) ⟨fun h => absurd h (by decide), fun _ => ⟨w', hB, rfl⟩⟩ trivial)
        · intro ac w' hF hPh hT
          rw [hF.setsG [31, 32, 33, 34, 35, 36] (by kernel_rfl)]
          simp only [List.foldl_cons, List.foldl_nil, List.setIfInBounds_toArray, List.set_cons_succ, List.set_cons_zero]
          generalize ac.eval (.tmp 31) = u31
          generalize ac.eval (.tmp 32) = u32
          generalize ac.eval (.tmp 33) = u33
          generalize ac.eval (.tmp 34) = u34
          generalize ac.eval (.tmp 35) = u35
          generalize ac.eval (.tmp 36) = u36
          clear  hT hF ac
          obtain ⟨u, bu, hwu⟩ := hPh.2 rfl
          have hf2 := (HF.out.old' bu).setQ m hm40 HY.out
          have ho2 : Only b w (u.setCells b (o + 1 + m * 32) (y.map u8V)) := (only_below HO.out bu).trans (only_setCells (b := b) (y.map u8V) (o + 1 + m * 32) _ (Only.refl _ _))
          rw [← hwu] at hf2 ho2
          have c2 := hf2.at0
          have f2 := hf2.fz o
          have hf3 := hf2.set0 (n + 1)
          have hcast : ((n + 1 : Nat) : Int) = (n : Int) + 1 := by omega
          rw [hcast] at hf3
          have c3 := hf3.at0
          rw [hcast] at c3
          clear hcast
          have HF3 := Lib.hid hf3
          have HO3 := Lib.hid (ho2.setCell o (.int .i64 ((n : Int) + 1)))
          clear hPh hwu hf2 ho2 hf3 bu
          go_wp2
          try rw [Exit.noGoto_ret]
          go_ret
          exact ⟨ret_int (by omega), ⟨_, HF3.out, HL.out⟩, HO3.out⟩
end Go.Proofs.YtollcdalokhjaaaDoor
/-! ## Package shard: a shard in memory, all of whose blocks are of a set S; rows of records that may lie in a longer block; slices.Clone of records. -/
namespace Go.Proofs.YtollcdalokhjaaaDoor
open Go.RowKit

/-- New blocks are of S. -/
def UpS (S : Nat → Prop) (w : World) : Prop := ∀ k, w.heap.size ≤ k → S k
theorem UpS.mono {S : Nat → Prop} {w w' : World} (h : UpS S w) (hl : w.heap.size ≤ w'.heap.size) : UpS S w' := fun k hk => h k (Nat.le_trans hl hk)
/-- A slice of records that begins with its block; the block may be longer than the slice's room. -/
def PreR (w : World) (v : Value) (l : List RecR) : Prop :=
  (v = .slice none 0 0 ∧ l = []) ∨ ∃ g cap cur, v = .slice (some ⟨g, 0, none⟩) l.length cap ∧ w.heap[g]? = some (.cells cur 55 (0, 0)) ∧ l.length ≤ cap ∧ cap ≤ maxLen ∧ cap * 4 ≤ cur.size ∧ cur.toList.take (l.length * 4) = recsC l
theorem PreR.nil (w : World) : PreR w (.slice none 0 0) [] := .inl ⟨rfl, rfl⟩
theorem OwnR.pre {B : Nat} {w : World} {v : Value} {l : List RecR} (h : OwnR B w v l) : PreR w v l := by
  obtain ⟨_, ⟨e, h0⟩ | ⟨g, cap, cur, e, hbg, hg, hnc, hcm, hcs, htake⟩⟩ := h
  · exact .inl ⟨e, List.eq_nil_of_length_eq_zero h0⟩
  · exact .inr ⟨g, cap, cur, e, hg, hnc, hcm, by omega, htake⟩
theorem PreR.lt {w : World} {v : Value} {l : List RecR} (h : PreR w v l) : ∀ g, v.ownBlock = some g → g < w.heap.size := fun g e => by
  rcases h with ⟨rfl, _⟩ | ⟨g', cap, cur, rfl, hg, _⟩
  · cases e
  · cases e; exact (Array.getElem?_eq_some_iff.1 hg).1
theorem PreR.kept' {w w' : World} {v : Value} {l : List RecR} (h : PreR w v l) (k : ∀ g, v.ownBlock = some g → w'.heap[g]? = w.heap[g]?) : PreR w' v l := by
  rcases h with e | ⟨g, cap, cur, rfl, hg, r⟩
  · exact .inl e
  · exact .inr ⟨g, cap, cur, rfl, (k g rfl).trans hg, r⟩
theorem PreR.old {w w' : World} {v : Value} {l : List RecR} (h : PreR w v l) (k : Below w.heap.size w w') : PreR w' v l := h.kept' fun g e => k.block g (h.lt g e)
theorem OwnR.kept' {B : Nat} {w w' : World} {v : Value} {l : List RecR} (h : OwnR B w v l) (k : ∀ g, v.ownBlock = some g → w'.heap[g]? = w.heap[g]?) : OwnR B w' v l := by
  obtain ⟨h1, h2⟩ := h
  refine ⟨h1, ?_⟩
  rcases h2 with e | ⟨g, cap, cur, e1, e2, hg, r⟩
  · exact .inl e
  · exact .inr ⟨g, cap, cur, e1, e2, (k g (by rw [e1]; rfl)).trans hg, r⟩
theorem PreR.slice {w : World} {v : Value} {l : List RecR} (h : PreR w v l) : ∃ a cap, v = .slice a l.length cap := by
  rcases h with ⟨rfl, rfl⟩ | ⟨g, cap, cur, rfl, _⟩
  · exact ⟨none, 0, rfl⟩
  · exact ⟨_, cap, rfl⟩
theorem PreR.cells {w : World} {g n cap : Nat} {l : List RecR} (h : PreR w (.slice (some ⟨g, 0, none⟩) n cap) l) : ∀ j u, (recsC l)[j]? = some u → w.cell? ((⟨g, 0, none⟩ : Addr).add j) = some u := by
  intro j u hu
  rcases h with ⟨e, _⟩ | ⟨g', cap', cur, e, hgg, _, _, _, htake⟩
  · cases e
  · injection e with e _ _
    cases e
    rw [Addr.add_mid, Nat.zero_add, cell_of hgg]
    rw [← htake, List.getElem?_take] at hu
    split at hu
    · simpa using hu
    · cases hu
theorem PreR.row {w : World} {v : Value} {l : List RecR} (h : PreR w v l) : RowR w v l := by
  have h' := h
  rcases h with ⟨rfl, rfl⟩ | ⟨g, cap, cur, rfl, hg, hnc, hcm, hcs, htake⟩
  · exact RowR.nil _
  · refine ⟨_, cap, rfl, by unfold maxLen at hcm; omega, fun j r hr => ⟨g, 0, rfl, (Array.getElem?_eq_some_iff.1 hg).1, ?_⟩⟩
    have hc := h'.cells
    obtain ⟨g0, g1, g2, g3⟩ := recsC_get l j r hr
    have c0 := hc _ _ g0
    have c1 := hc _ _ g1
    have c2 := hc _ _ g2
    have c3 := hc _ _ g3
    rw [Addr.add_mid] at c0 c1 c2 c3
    exact ⟨c0, by rw [Nat.add_assoc]; exact c1, by rw [Nat.add_assoc]; exact c2, by rw [Nat.add_assoc]; exact c3⟩
/-- The first ones of a row. -/
theorem PreR.head {w : World} {g n cap : Nat} {l : List RecR} (h : PreR w (.slice (some ⟨g, 0, none⟩) n cap) l) (k : Nat) (hk : k ≤ l.length) (c : Nat) (hc : k ≤ c) (hc2 : c ≤ cap) : PreR w (.slice (some ⟨g, 0, none⟩) k c) (l.take k) := by
  rcases h with ⟨e, _⟩ | ⟨g', cap', cur, e, hgg, h1, h2, h3, htake⟩
  · cases e
  · injection e with e _ e3
    cases e
    subst e3
    have hl : (l.take k).length = k := by rw [List.length_take]; omega
    refine .inr ⟨g, c, cur, by rw [hl], hgg, by omega, by omega, by omega, ?_⟩
    rw [hl]
    have e1 : cur.toList.take (k * 4) = (cur.toList.take (l.length * 4)).take (k * 4) := by rw [List.take_take, Nat.min_eq_left (by omega)]
    rw [e1, htake]
    have e2 : recsC l = recsC (l.take k) ++ recsC (l.drop k) := by rw [← recsC_append, List.take_append_drop]
    have hlen : (recsC (l.take k)).length = k * 4 := by rw [recsC_length, hl]
    rw [e2, ← hlen, List.take_left]
theorem OwnR.empty (B : Nat) (w : World) (hB : B ≤ w.heap.size) : OwnR B (w.alloc (.cells #[] 55)) (.slice (some ⟨w.heap.size, 0, none⟩) 0 0) [] := World.ownsRow_made w #[] 0 hB (by decide) (by simp)
theorem rappend_pre {B : Nat} {w : World} {v x : Value} {l m : List RecR} (ty : TypeId) (h : OwnR B w v l) (hx : PreR w x m) (hB : B ≤ w.heap.size) (hl : l.length + m.length ≤ 1000000) :
    ∃ v' w', (Builtin.append_ #[58, 58] ty #[v, x]).run Tryd.prog w = .ok v' w' ∧ OwnR B w' v' (l ++ m) ∧ Below B w w' ∧ w.grownBy w' v.ownBlock ∧ (∀ g, v'.ownBlock = some g → v.ownBlock = some g ∨ w.heap.size ≤ g) := by
  obtain ⟨i0, hi, hz0, hz1, hz2⟩ := info_parts info_rec
  have hx' := hx
  rcases hx with ⟨rfl, rfl⟩ | ⟨g, cap, cur, rfl, hg, hnc, hcm, hcs, htake⟩
  · exact ⟨v, w, run_append_owned_none w B _ ty _ i0 4 Tryd.underlying58 hi v _ _ h, by rw [List.append_nil]; exact h, Below.refl _ _, World.grownBy.refl _ _, fun g e => .inl e⟩
  · obtain ⟨v', w', h1, h2, h3, _, h4⟩ := run_append_own_at (P := Tryd.prog) w B _ ty _ i0 _ 4 40 Tryd.underlying58 hi hz0 hz1 hz2 rfl (by decide) v l.length (recsC l) h ⟨g, 0, none⟩ m.length cap (recsC m) (recsC_length m) hx'.cells (recsC_one m) (by unfold maxLen; omega) (by omega) hB
    exact ⟨v', w', h1, by unfold OwnR; rw [List.length_append, recsC_append]; exact h2, rgrown_below h3 hB fun g e => (World.ownsRow.lt h g e).1, h3, fun g e => h4.elim (fun e' => .inl (e' ▸ e)) (fun e' => .inr (by rw [e'] at e; injection e with e; omega))⟩
set_option maxHeartbeats 1600000 in
theorem rclone_any (v : Value) (l : List RecR) (w : World) (hl : PreR w v l) (hn : l.length ≤ 1000000) :
    Calls Tryd.prog 49 #[v] w fun e w' => ∃ v', e = .returned v' ∧ OwnR w.heap.size w' v' l ∧ Below w.heap.size w w' := by
  obtain ⟨va, cap, rfl⟩ := hl.slice
  have q22 : ∀ (w : World) (a : Option Addr) (n c n' c' : Nat), (binOp .eql 58 (.slice a n c) (.slice none n' c')).run Tryd.prog w = .ok (.bool a.isNone) w := fun w a n c n' c' => Lib.run_eql_slice_nil w _ _ a n c n' c' Tryd.underlying58
  cases va with
  | none =>
    go_enter Tryd.func49, Tryd.ntmps49
    go_wp2
    go_ret
    rcases hl with ⟨_, rfl⟩ | ⟨g, c, cur, e, _⟩
    · exact ⟨_, rfl, OwnR.nil _ _, Below.refl _ _⟩
    · injection e with e _ _; cases e
  | some va =>
    have bx : Below w.heap.size w (w.alloc (.cells #[] 55)) := (Below.refl _ _).alloc (Nat.le_refl _) _
    obtain ⟨v', w', hr, ho, hb, -⟩ := rappend_pre (B := w.heap.size) 58 (OwnR.empty w.heap.size w (Nat.le_refl _)) (hl.old bx) (by simp) (by simp; omega)
    rw [List.nil_append] at ho
    have HO := Lib.hid ho
    have HR := Lib.hid hr
    clear ho hr
    go_enter Tryd.func49, Tryd.ntmps49
    go_wp2_with (at_builtin; refine Lib.wpList_append_run _ rfl _ _ _ _ rfl _ _ rfl rfl _ _ HR.out ?_)
    go_ret
    exact ⟨_, rfl, HO.out, bx.trans hb⟩

/-! ### A shard -/
structure ShR where
  win : Int
  st : Int
  lvs : Hs
  rows : List RecR
  stn : StR
def shPre (x : ShR) (vl : Value) : List Value := [.int .i64 x.win, .int .i64 x.st, vl]
def shPost (x : ShR) (vr : Value) : List Value := vr :: stCs x.stn
def StLen (t : StR) : Prop := t.fz.root.length = 32 ∧ t.mac.length = 32
/-- What a shard says of itself. -/
def shFz (x : ShR) : FzR := ⟨x.win, (x.lvs.length : Int), Tree.root x.lvs⟩
/-- Block b is a shard, whose leaves' slice is vl, whose rows' slice is vr. -/
structure ShV (S : Nat → Prop) (b : Nat) (x : ShR) (vl vr : Value) (Q : Hs) (w : World) : Prop where
  fr : FrI 68 (shPre x vl) (shPost x vr) 3 b x.lvs.length Q w
  pk : Q.take (Tree.ones x.lvs.length) = Tree.peaks x.lvs
  ol : OwnS 0 w vl x.lvs
  pr : PreR w vr x.rows
  own : x.st ≠ 2 → OwnR 0 w vr x.rows
  inb : S b
  inl : ∀ g, vl.ownBlock = some g → S g
  inr : ∀ g, vr.ownBlock = some g → S g
  sk : ¬ S 0
  stl : StLen x.stn
  most : x.lvs.length ≤ 4000
  rle : x.rows.length ≤ x.lvs.length
  req : x.st ≠ 2 → x.rows.length = x.lvs.length
  wok : i64R x.win
def Shd (S : Nat → Prop) (b : Nat) (x : ShR) (w : World) : Prop := ∃ vl vr Q, ShV S b x vl vr Q w
section
variable {S S' : Nat → Prop} {b : Nat} {x : ShR} {vl vr : Value} {Q : Hs} {w w' : World}
theorem ShV.lt (h : ShV S b x vl vr Q w) : b < w.heap.size := h.fr.lt
theorem ShV.l32 (h : ShV S b x vl vr Q w) : all32 x.lvs := h.ol.2
theorem ShV.kept (h : ShV S b x vl vr Q w) (hb : w'.heap[b]? = w.heap[b]?) (hl : ∀ g, vl.ownBlock = some g → w'.heap[g]? = w.heap[g]?) (hr : ∀ g, vr.ownBlock = some g → w'.heap[g]? = w.heap[g]?) : ShV S b x vl vr Q w' :=
  ⟨⟨h.fr.1, h.fr.2.1, h.fr.2.2.1, hb.trans h.fr.2.2.2⟩, h.pk, h.ol.kept' hl, h.pr.kept' hr, fun e => (h.own e).kept' hr, h.inb, h.inl, h.inr, h.sk, h.stl, h.most, h.rle, h.req, h.wok⟩
theorem ShV.old (h : ShV S b x vl vr Q w) (k : Below w.heap.size w w') : ShV S b x vl vr Q w' :=
  h.kept (k.block b h.lt) (fun g e => k.block g (h.ol.lt g e).2) (fun g e => k.block g (h.pr.lt g e))
theorem ShV.mono (h : ShV S b x vl vr Q w) (hs : ∀ k, k < w.heap.size → S k → S' k) (h0 : ¬ S' 0) : ShV S' b x vl vr Q w :=
  ⟨h.fr, h.pk, h.ol, h.pr, h.own, hs _ h.lt h.inb, fun g e => hs g (h.ol.lt g e).2 (h.inl g e), fun g e => hs g (h.pr.lt g e) (h.inr g e), h0, h.stl, h.most, h.rle, h.req, h.wok⟩
theorem ShV.blk (h : ShV S b x vl vr Q w) : Blk b 68 (shPre x vl ++ (fL x.lvs.length Q ++ shPost x vr)) w := h.fr.2.2.2
theorem ShV.cWin (h : ShV S b x vl vr Q w) : w.cell? ⟨b, 0, none⟩ = some (.int .i64 x.win) := (h.blk.cell 0).trans rfl
theorem ShV.cSt (h : ShV S b x vl vr Q w) : w.cell? ⟨b, 1, none⟩ = some (.int .i64 x.st) := (h.blk.cell 1).trans rfl
theorem ShV.cLvs (h : ShV S b x vl vr Q w) : w.cell? ⟨b, 2, none⟩ = some vl := (h.blk.cell 2).trans rfl
theorem ShV.rgPost (h : ShV S b x vl vr Q w) : w.rangeAt b 1284 (shPost x vr) := by
  have := Blk.range (a := shPre x vl ++ fL x.lvs.length Q) (m := shPost x vr) (z := []) (p := b) (T := 68) (w := w) (by rw [List.append_nil, List.append_assoc]; exact h.blk)
  rw [List.length_append, fL_length _ _ h.fr.1 h.fr.2.1] at this
  exact this
theorem ShV.cRows (h : ShV S b x vl vr Q w) : w.cell? ⟨b, 1284, none⟩ = some vr := h.rgPost 0 _ rfl
theorem ShV.rStn (h : ShV S b x vl vr Q w) : w.rangeAt b 1285 (stCs x.stn) := fun j v hv => by
  have := h.rgPost (j + 1) v (by simpa [shPost] using hv)
  rwa [show 1284 + (j + 1) = 1285 + j by omega] at this
/-- The shard's own slices lie in blocks of other types. -/
theorem ShV.neL (h : ShV S b x vl vr Q w) : ∀ g, vl.ownBlock = some g → g ≠ b := by
  rintro g e rfl
  obtain ⟨⟨_, h2⟩, _⟩ := h.ol
  rcases h2 with ⟨rfl, _⟩ | ⟨g', cap, cur, rfl, _, hg, _⟩
  · cases e
  · cases e
    have := h.blk
    unfold Blk at this
    rw [hg] at this
    injection this with this
    injection this with _ this _
    exact absurd this (by decide)
theorem ShV.neR (h : ShV S b x vl vr Q w) : ∀ g, vr.ownBlock = some g → g ≠ b := by
  rintro g e rfl
  rcases h.pr with ⟨rfl, _⟩ | ⟨g', cap, cur, rfl, hg, _⟩
  · cases e
  · cases e
    have := h.blk
    unfold Blk at this
    rw [hg] at this
    injection this with this
    injection this with _ this _
    exact absurd this (by decide)
theorem ShV.neLR (h : ShV S b x vl vr Q w) : ∀ g, vl.ownBlock = some g → vr.ownBlock ≠ some g := by
  intro g e e2
  obtain ⟨⟨_, h2⟩, _⟩ := h.ol
  rcases h2 with ⟨rfl, _⟩ | ⟨g', cap, cur, rfl, _, hg, _⟩
  · cases e
  · cases e
    rcases h.pr with ⟨rfl, _⟩ | ⟨g'', cap, cur, rfl, hg2, _⟩
    · cases e2
    · cases e2
      rw [hg] at hg2
      injection hg2 with this
      injection this with _ this _
      exact absurd this (by decide)
/-- A block of another type is turned. -/
theorem Shd.setOther {r : Nat} {C : Array Value} {T : TypeId} {fr : Nat × Nat} (h : Shd S b x w) (hr : w.heap[r]? = some (.cells C T fr)) (h1 : T ≠ 68) (h2 : T ≠ 33) (h3 : T ≠ 55) (k : Only r w w') : Shd S b x w' := by
  obtain ⟨vl, vr, Q, h⟩ := h
  have hb : b ≠ r := by
    rintro rfl
    have := h.blk
    unfold Blk at this
    rw [hr] at this
    injection this with this
    injection this with _ this _
    exact h1 this
  refine ⟨vl, vr, Q, h.kept (k.block b h.lt hb) (fun g e => k.block g (h.ol.lt g e).2 ?_) (fun g e => k.block g (h.pr.lt g e) ?_)⟩
  · rintro rfl
    obtain ⟨⟨_, h2'⟩, _⟩ := h.ol
    rcases h2' with ⟨rfl, _⟩ | ⟨g', cap, cur, rfl, _, hg, _⟩
    · cases e
    · cases e
      rw [hr] at hg
      injection hg with this
      injection this with _ this _
      exact h2 this
  · rintro rfl
    rcases h.pr with ⟨rfl, _⟩ | ⟨g', cap, cur, rfl, hg, _⟩
    · cases e
    · cases e
      rw [hr] at hg
      injection hg with this
      injection this with _ this _
      exact h3 this
theorem Shd.lt (h : Shd S b x w) : b < w.heap.size := by obtain ⟨vl, vr, Q, h⟩ := h; exact h.lt
theorem Shd.old (h : Shd S b x w) (k : Below w.heap.size w w') : Shd S b x w' := by obtain ⟨vl, vr, Q, h⟩ := h; exact ⟨vl, vr, Q, h.old k⟩
theorem Shd.mono (h : Shd S b x w) (hs : ∀ k, k < w.heap.size → S k → S' k) (h0 : ¬ S' 0) : Shd S' b x w := by obtain ⟨vl, vr, Q, h⟩ := h; exact ⟨vl, vr, Q, h.mono hs h0⟩
/-- What another one does. -/
theorem Shd.other (h : Shd S b x w) (k : OnlyS S' w w') (hd : ∀ g, g < w.heap.size → S g → ¬ S' g) : Shd S b x w' := by
  obtain ⟨vl, vr, Q, h⟩ := h
  exact ⟨vl, vr, Q, h.kept (k.block b h.lt (hd b h.lt h.inb)) (fun g e => k.block g (h.ol.lt g e).2 (hd g (h.ol.lt g e).2 (h.inl g e))) (fun g e => k.block g (h.pr.lt g e) (hd g (h.pr.lt g e) (h.inr g e)))⟩
theorem KT.onlyS (hK : KT w) (k : OnlyS S w w') (h0 : ¬ S 0) : KT w' := fun i hi => by
  have := hK i hi
  unfold World.cell? at this ⊢
  rw [k.block _ hK.pos h0]
  exact this
theorem Sums.onlyS {v : Value} {l : Hs} (h : Sums w v l) (k : OnlyS S w w') (hd : ∀ b off n c, v = .slice (some ⟨b, off, none⟩) n c → 0 < l.length → ¬ S b) : Sums w' v l := by
  obtain ⟨a, cap, rfl, h1, h2, h3, h4, h5⟩ := h
  refine ⟨a, cap, rfl, h1, h2, h3, h4, fun hn => ?_⟩
  obtain ⟨b, off, rfl, hb, hj⟩ := h5 hn
  have hk := k.block b hb (hd b off _ _ rfl hn)
  refine ⟨b, off, rfl, Nat.lt_of_lt_of_le hb k.size, fun j h i v hv => ?_⟩
  have := hj j h i v hv
  unfold World.cell? at this ⊢
  rw [hk]
  exact this
theorem Sums.onlyS' {v : Value} {l : Hs} {B : Nat} (h : OwnS B w v l) (k : OnlyS S w w') (hd : ∀ g, B ≤ g → g < w.heap.size → ¬ S g) : OwnS B w' v l := h.kept' fun g e => k.block g (h.lt g e).2 (hd g (h.lt g e).1 (h.lt g e).2)
end
end Go.Proofs.YtollcdalokhjaaaDoor
