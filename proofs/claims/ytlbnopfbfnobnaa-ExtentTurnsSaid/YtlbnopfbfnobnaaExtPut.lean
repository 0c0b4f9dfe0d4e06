/-
  Package extent: put: a run in the place of some.
-/
import Derived.Test.YtlbnopfbfnobnaaRunReg
namespace Go.Proofs.Ytlbnopfbfnobnaa
open Go.RowKit Ext

def RX.runs {Lx : World → World → Prop} (_ : List Rn) : RX Lx := RX.any
set_option maxHeartbeats 3200000 in
set_option maxRecDepth 100000 in
theorem put_any (v : Value) (l : List Rn) (f t : Nat) (a n : Int) (w : World) (hl : Runs w v l) (hft : f ≤ t) (ht : t ≤ l.length) (hn : l.length ≤ 1000000) (hr : okR (a, n)) :
    Calls Try.prog 36 #[v, .int .i64 f, .int .i64 t, .agg #[.int .i64 a, .int .i64 n]] w fun e w' => ∃ v', e = .returned v' ∧ Own w.heap.size w' v' (l.take f ++ (a, n) :: l.drop t) ∧ Below w.heap.size w w' := by
  obtain ⟨va, cap, rfl, hlc, hcap⟩ := hl.slice
  obtain ⟨w1, hw1⟩ : ∃ w1, w1 = w.alloc (.cells #[.int .i64 a, .int .i64 n] 24) := ⟨_, rfl⟩
  obtain ⟨B7, hB7⟩ : ∃ B7, B7 = w.heap.size := ⟨_, rfl⟩
  have b1 : Below w.heap.size w w1 := by rw [hw1]; exact below_box _ _
  have hz1 : w1.heap.size = w.heap.size + 1 := by rw [hw1]; simp
  have o1 : w1.drew.heap[B7]? = some (.cells #[.int .i64 a, .int .i64 n] 24 (0, 0)) := by rw [hw1, hB7]; exact heap_alloc_last w _
  obtain ⟨W2, hW2⟩ : ∃ W2, W2 = w1.drew.alloc (.cells #[.int .i64 a, .int .i64 n] 24) := ⟨_, rfl⟩
  have b2 : Below w1.heap.size w1 W2 := by rw [hW2]; exact (below_drew (Below.refl _ _)).alloc (Nat.le_refl _) _
  have hone : Runs W2 (.slice (some ⟨w1.heap.size, 0, none⟩) 1 1) [(a, n)] := by rw [hW2]; exact Runs.one w1.drew (a, n) hr
  have hl2 := (hl.old b1).old b2
  have hft' : (l.take f).length = f := by rw [List.length_take]; omega
  have hhd := hl2.head f (by omega)
  obtain ⟨v3, W3, hr3, ho3, b3⟩ := append_full (a := va) (l := l.take f) (m := [(a, n)]) 22 (by rw [hft']; exact hhd) hone (by simp) (by simp; omega)
  rw [hft'] at hr3
  have htl := (hl2.old b3).tail t ht
  have hsz : w.heap.size ≤ W2.heap.size := by have := b2.size; omega
  obtain ⟨v4, W4, hr4, ho4, b4⟩ := append_own (B := w.heap.size) 22 (ho3.lower hsz) htl (by have := b3.size; omega) (by simp; omega)
  have hfin : Below w.heap.size w W4 := ((b1.trans (b2.mono (by omega))).trans (b3.mono hsz)).trans b4
  rw [List.append_assoc, List.singleton_append] at ho4
  have HR3 := Lib.hid hr3
  have HO4 := Lib.hid ho4
  have HR4 := Lib.hid hr4
  have HF := Lib.hid hfin
  have HW2 := Lib.hid hW2
  have q1 := slice_hm va l.length cap f (by omega)
  have q2 := slice_l va l.length cap t (by omega)
  have c0 := cell_of o1 0
  have c1 := cell_of o1 1
  clear hr3 ho4 hr4 hfin hone hl2 hhd ho3 b3 htl b4 hl hft' hW2 b1 b2 o1
  go_enter Try.func36, Try.ntmps36
  go_upto_region 1 with fail
  rw [← hw1, ← hB7]
  clear hw1
  try simp only [Act.put]
  refine wp_region_eff (Lx := fun _ _ => True) [RX.is (.slice va l.length cap), RX.is (.int .i64 f), RX.is (.int .i64 f), RX.is (.slice va f f), RX.is (.agg #[.int .i64 a, .int .i64 n]), RX.is (.slice (some ⟨w1.heap.size, 0, none⟩) 1 1), RX.is (v3), RX.is (.slice va l.length cap), RX.is (.int .i64 t), RX.is (.slice (cutA va t cap) (l.length - t) (cap - t)), RX.is (v4), RX.is (v4)] [5, 6, 10] (fun k w' => w' = [w1.drew, W2, W3, W4].getD k w1.drew) (by kernel_rfl) (by kernel_rfl) (by kernel_rfl) (by kernel_rfl) (by kernel_rfl) rfl ⟨?_, ?_, ?_, ?_, ?_, ?_, ?_, ?_, ?_, ?_, ?_, ?_, trivial⟩ ?_
  · intro ac w' ph hF hPh hlt hP hU K hK0
    have e0 : ac.eval (.tmp 0) = .slice va l.length cap := hF.at 0 (by kernel_rfl)
    exact rop_move _ rfl e0 (wanted_none rfl) (hK0 _ _ trivial hPh rfl)
  · intro ac w' ph hF hPh hlt hP hU K hK0
    have e1 : ac.eval (.tmp 1) = .int .i64 f := hF.at 1 (by kernel_rfl)
    exact rop_move _ rfl e1 (wanted_none rfl) (hK0 _ _ trivial hPh rfl)
  · intro ac w' ph hF hPh hlt hP hU K hK0
    have e1 : ac.eval (.tmp 1) = .int .i64 f := hF.at 1 (by kernel_rfl)
    exact rop_move _ rfl e1 (wanted_none rfl) (hK0 _ _ trivial hPh rfl)
  · intro ac w' ph hF hPh hlt hP hU K hK0
    have e9 : ac.eval (.tmp 9) = .slice va l.length cap := hP 0 (by kernel_rfl)
    have e10 : ac.eval (.tmp 10) = .int .i64 f := hP 1 (by kernel_rfl)
    have e11 : ac.eval (.tmp 11) = .int .i64 f := hP 2 (by kernel_rfl)
    exact rop_slice _ _ _ _ _ rfl e9 rfl (by simp [e10]) (by simp [e11]) ((sliceAt_run _ _ _ _ _).trans (q1 _)) (wanted_none rfl) (hK0 _ _ trivial hPh rfl)
  · intro ac w' ph hF hPh hlt hP hU K hK0
    obtain rfl : ph = 0 := Nat.le_zero.1 ((hlt 0 5 rfl).2 (by kernel_rfl))
    obtain rfl : w' = w1.drew := hPh
    have e7 : ac.eval (.tmp 7) = .pointer (some ⟨B7, 0, none⟩) := hF.at 7 (by kernel_rfl)
    exact rop_ld _ _ rfl e7 (load_run c0 c1) (wanted_none rfl) (hK0 _ _ trivial rfl rfl)
  · intro ac w' ph hF hPh hlt hP hU K hK0
    obtain rfl : ph = 0 := (hlt 0 5 rfl).1 rfl
    obtain rfl : w' = w1.drew := hPh
    have e13 : ac.eval (.tmp 13) = .agg #[.int .i64 a, .int .i64 n] := hP 4 (by kernel_rfl)
    exact rop_run1 _ rfl e13 (wanted_none rfl) (hK0 _ _ trivial HW2.out.symm rfl)
  · intro ac w' ph hF hPh hlt hP hU K hK0
    obtain rfl : ph = 1 := (hlt 1 6 rfl).1 rfl
    obtain rfl : w' = W2 := hPh
    have e12 : ac.eval (.tmp 12) = .slice va f f := hP 3 (by kernel_rfl)
    have e14 : ac.eval (.tmp 14) = .slice (some ⟨w1.heap.size, 0, none⟩) 1 1 := hP 5 (by kernel_rfl)
    exact rop_append _ _ _ rfl e12 e14 HR3.out (wanted_none rfl) (hK0 _ _ trivial rfl rfl)
  · intro ac w' ph hF hPh hlt hP hU K hK0
    have e0 : ac.eval (.tmp 0) = .slice va l.length cap := hF.at 0 (by kernel_rfl)
    exact rop_move _ rfl e0 (wanted_none rfl) (hK0 _ _ trivial hPh rfl)
  · intro ac w' ph hF hPh hlt hP hU K hK0
    have e2 : ac.eval (.tmp 2) = .int .i64 t := hF.at 2 (by kernel_rfl)
    exact rop_move _ rfl e2 (wanted_none rfl) (hK0 _ _ trivial hPh rfl)
  · intro ac w' ph hF hPh hlt hP hU K hK0
    have e16 : ac.eval (.tmp 16) = .slice va l.length cap := hP 7 (by kernel_rfl)
    have e17 : ac.eval (.tmp 17) = .int .i64 t := hP 8 (by kernel_rfl)
    exact rop_slice _ _ _ _ _ rfl e16 (by simp [e17]) rfl rfl ((sliceAt_run _ _ _ _ _).trans (q2 _)) (wanted_none rfl) (hK0 _ _ trivial hPh rfl)
  · intro ac w' ph hF hPh hlt hP hU K hK0
    obtain rfl : ph = 2 := (hlt 2 10 rfl).1 rfl
    obtain rfl : w' = W3 := hPh
    have e15 : ac.eval (.tmp 15) = v3 := hP 6 (by kernel_rfl)
    have e18 : ac.eval (.tmp 18) = .slice (cutA va t cap) (l.length - t) (cap - t) := hP 9 (by kernel_rfl)
    exact rop_append _ _ _ rfl e15 e18 HR4.out (wanted_none rfl) (hK0 _ _ trivial rfl rfl)
  · intro ac w' ph hF hPh hlt hP hU K hK0
    have e19 : ac.eval (.tmp 19) = v4 := hP 10 (by kernel_rfl)
    exact rop_assign _ rfl e19 (wanted_none rfl) (hK0 _ _ trivial hPh rfl)
  · intro ac w' hF hPh hT
    obtain rfl : w' = W4 := hPh
    have e8 : ac.eval (.tmp 8) = v4 := hT 11 (by decide)
    rw [hF.lit 20 rfl]
    simp only [List.range, List.range.loop, List.map_cons, List.map_nil, e8, hF.at 0 (by kernel_rfl), hF.at 1 (by kernel_rfl), hF.at 2 (by kernel_rfl), hF.at 3 (by kernel_rfl), hF.at 4 (by kernel_rfl), hF.at 5 (by kernel_rfl), hF.at 6 (by kernel_rfl), hF.at 7 (by kernel_rfl)]
    generalize ac.eval (.tmp 9) = u9
    generalize ac.eval (.tmp 10) = u10
    generalize ac.eval (.tmp 11) = u11
    generalize ac.eval (.tmp 12) = u12
    generalize ac.eval (.tmp 13) = u13
    generalize ac.eval (.tmp 14) = u14
    generalize ac.eval (.tmp 15) = u15
    generalize ac.eval (.tmp 16) = u16
    generalize ac.eval (.tmp 17) = u17
    generalize ac.eval (.tmp 18) = u18
    generalize ac.eval (.tmp 19) = u19
    simp only [Act.eval, Array.getD_eq_getD_getElem?, List.getElem?_toArray, List.getElem?_cons_succ, List.getElem?_cons_zero, Option.getD_some]
    clear e8 hT hF ac
    go_wp2
    go_ret
    exact ⟨_, rfl, HO4.out, HF.out⟩
end Go.Proofs.Ytlbnopfbfnobnaa
