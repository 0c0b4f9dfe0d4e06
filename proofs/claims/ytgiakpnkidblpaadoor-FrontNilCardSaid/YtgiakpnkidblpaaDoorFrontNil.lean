/-
  FrontNil: of no front nothing comes; a zero one is new. For every hash; the numbers K of the package sha are as the program's own start lays them.
-/
import Derived.Test.YtgiakpnkidblpaaDoorFrontAwake
namespace Go.Proofs.YtgiakpnkidblpaaDoor.frontNil
open Go.ChangeShapes Go.WideShapes Go.ChangeAt Go.RowKit

/-- What lasts all along: two variables, and what lay there. -/
structure NBase (w : World) (zb q q5 : Nat) (x D : List UInt8) (u : World) : Prop where
  kt : KT u
  be : Below w.heap.size w u
  zx : u.heap[q]? = some (.cells (x.map u8V).toArray 31 (0, 0))
  ze : u.heap[q5]? = some (.cells (D.map u8V).toArray 31 (0, 0))
theorem NBase.old {w : World} {zb q q5 : Nat} {x D : List UInt8} {u v : World} (h : NBase w zb q q5 x D u) (k : Below u.heap.size u v) : NBase w zb q q5 x D v :=
  ⟨h.kt.old k, below_step h.be (Nat.le_refl _) k, (k.block _ (Array.getElem?_eq_some_iff.1 h.zx).1).trans h.zx, (k.block _ (Array.getElem?_eq_some_iff.1 h.ze).1).trans h.ze⟩
theorem NBase.drew {w : World} {zb q q5 : Nat} {x D : List UInt8} {u : World} (h : NBase w zb q q5 x D u) : NBase w zb q q5 x D u.drew := h.old (below_drew (Below.refl _ _))
theorem NBase.only {w : World} {zb q q5 : Nat} {x D : List UInt8} {u v : World} (h : NBase w zb q q5 x D u) (k : Only zb u v) (hf : FP zb 0 [] u) (h1 : q ≠ zb) (h2 : q5 ≠ zb) (h3 : w.heap.size ≤ zb) : NBase w zb q q5 x D v :=
  ⟨h.kt.only k hf.2.1, below_onlyF h.be k h3 (Nat.le_refl _), (k.block _ (Array.getElem?_eq_some_iff.1 h.zx).1 h1).trans h.zx, (k.block _ (Array.getElem?_eq_some_iff.1 h.ze).1 h2).trans h.ze⟩
theorem _root_.Go.Proofs.YtgiakpnkidblpaaDoor.FP.drew {b n : Nat} {P : Hs} {w : World} (h : FP b n P w) : FP b n P w.drew := h.old (below_drew (Below.refl _ _))
theorem size_none (w : World) : Calls Tryd.prog 15 #[.pointer none] w fun e w' => e = .returned (.int .i64 0) ∧ Below w.heap.size w w' := (fsize_nil w).mono fun _ _ ⟨h1, h2⟩ => ⟨h1, h2 ▸ Below.refl _ _⟩
theorem peaks_nil (w : World) : Calls Tryd.prog 14 #[.pointer none] w fun e w' => e = .returned (.slice none 0 0) ∧ Below w.heap.size w w' := (fpeaks_nil w).mono fun _ _ ⟨h1, h2⟩ => ⟨h1, h2 ▸ Below.refl _ _⟩
theorem copy_none (w : World) : Calls Tryd.prog 24 #[.pointer none] w fun e w' => e = .returned (.pointer none) ∧ Below w.heap.size w w' := (fcopy_nil w).mono fun _ _ ⟨h1, h2⟩ => ⟨h1, h2 ▸ Below.refl _ _⟩
set_option maxHeartbeats 8000000 in
set_option maxRecDepth 100000 in
theorem walk {w : World} (hK : KT w) (x : List UInt8) (hx : x.length = 32) :
    Calls Tryd.prog 8 #[sumV x] w fun e w' => e = .returned (.bool true) ∧ Below w.heap.size w w' := by
  obtain ⟨D, hD⟩ : ∃ D, D = Tree.empty := ⟨_, rfl⟩
  have hDl : D.length = 32 := by rw [hD]; exact Tree.empty_length
  have hadd : Tree.addP 0 [] x = [x] := by rw [Tree.addP_even (by decide)]; rfl
  have HRN : Hid (∀ u, KT u → Calls Tryd.prog 16 #[.pointer none] u fun e w' => e = .returned (sumV D) ∧ Below u.heap.size u w') := Lib.hid fun u hu => by rw [hD]; exact peaks_none u hu
  have HRE : Hid (∀ u : World, Calls Tryd.prog 17 #[.slice none 0 0] u fun e w' => e = .returned (sumV D) ∧ Below u.heap.size u w') := Lib.hid fun u => by
    rw [hD]
    exact rleafRoot_any 0 [] _ u rfl (by decide) (Sums.nil u)
  obtain ⟨q, hq⟩ : ∃ q, q = w.heap.size := ⟨_, rfl⟩
  obtain ⟨zb, hzb⟩ : ∃ zb, zb = q + 1 := ⟨_, rfl⟩
  have HRZ0 : Hid (∀ u, FP zb 0 [] u → KT u → Calls Tryd.prog 16 #[.pointer (some ⟨zb, 0, none⟩)] u fun e w' => e = .returned (sumV D) ∧ Below u.heap.size u w') := Lib.hid fun u h hu => by rw [hD]; exact root_fp zb 0 [] u h hu
  have HRZ1 : Hid (∀ u, FP zb 1 [x] u → KT u → Calls Tryd.prog 16 #[.pointer (some ⟨zb, 0, none⟩)] u fun e w' => e = .returned (sumV x) ∧ Below u.heap.size u w') := Lib.hid fun u h hu => root_fp zb 1 [x] u h hu
  have HAZ : Hid (∀ u, FP zb 0 [] u → KT u → Calls Tryd.prog 20 #[.pointer (some ⟨zb, 0, none⟩), sumV x] u fun e w' => e = .returned (.int .i64 1) ∧ FP zb 1 [x] w' ∧ Only zb u w') := Lib.hid fun u h hu => (add_fp zb 0 [] x u h (by decide) hx hu).mono fun e w' ⟨h1, h2, h3⟩ => ⟨h1, by rw [← hadd]; exact h2, h3⟩
  obtain ⟨V, hV⟩ : ∃ V, V = w.alloc (.cells (x.map u8V).toArray 31) := ⟨_, rfl⟩
  obtain ⟨V2, hV2⟩ : ∃ V2, V2 = V.alloc (.cells (fL 0 zQ).toArray 49) := ⟨_, rfl⟩
  have s1 : V.heap.size = zb := by rw [hV, hzb, hq]; simp
  have b0 : Below w.heap.size w V := by rw [hV]; exact (Below.refl _ _).alloc (Nat.le_refl _) _
  have b1 : Below V.heap.size V V2 := by rw [hV2]; exact (Below.refl _ _).alloc (Nat.le_refl _) _
  have z0 : V.heap[q]? = some (.cells (x.map u8V).toArray 31 (0, 0)) := by rw [hV, hq]; exact heap_alloc_last _ _
  have z2 := (b1.block q (by omega)).trans z0
  have f2 : FP zb 0 [] V2 := by
    have := Front.new V 0 zQ zQ_len zQ_all
    rw [s1] at this
    exact ⟨by decide, by omega, zQ, by rw [hV2]; exact this, by rw [Tree.ones_zero]; rfl⟩
  have B2 := Lib.hid (below_step b0 (Nat.le_refl _) b1)
  have HKW := Lib.hid hK
  have HX := Lib.hid hx
  have HD := Lib.hid hDl
  have Z2 := Lib.hid z2
  have F2 := Lib.hid f2
  have Hq := Lib.hid hq
  have Hzb := Lib.hid hzb
  have hs2 : V2.heap.size = zb + 1 := by rw [hV2]; simp [s1]
  have Hs2 := Lib.hid hs2
  clear hD hDl hadd hK hx b0 b1 z0 z2 f2 hs2 hq hzb
  unfold sumV
  go_enter Tryd.func8, Tryd.ntmps8
  go_upto_region 3 with (fail)
  change Code.wp _ _ _ _ ((w.alloc (.cells (x.map u8V).toArray 31)).alloc (.cells Tryd.zeroCells49 49))
  rw [zc_front, ← hV, ← hV2, ← Hq.out, ← Hzb.out]
  clear hV hV2 s1
  go_upto_region 4 with (first
    | (go_at_call 17; ((with_reducible refine (HRE.out _).mono ?_); rintro e w1 ⟨rfl, b1⟩; have t1 := heap_alloc_last w1 zSum; obtain ⟨z5, k5⟩ := var_sumF w1 D HD.out))
    | refine wpList_store_mid rfl 31 (.tmp 5) (.tmp 8) rfl w1.heap.size 0 (D.map u8V).toArray rfl rfl (sum_there t1 HD.out) (sum_info HD.out) (sum_one D) ?_)
  change Code.wp _ _ _ _ ((w1.alloc zSum).setCells w1.heap.size 0 (D.map u8V))
  obtain ⟨q5, hq5⟩ : ∃ q5, q5 = w1.heap.size := ⟨_, rfl⟩
  obtain ⟨w2, hw2⟩ : ∃ u, u = (w1.alloc zSum).setCells w1.heap.size 0 (D.map u8V) := ⟨_, rfl⟩
  rw [← hw2] at z5 k5 ⊢
  have k2 := below_step b1 (Nat.le_refl _) k5
  rw [← hq5] at z5 ⊢
  have hb2 := below_step B2.out (Nat.le_refl _) k2
  have HB0 : Hid (NBase w zb q q5 x D w2) := Lib.hid ⟨HKW.out.old hb2, hb2, (k2.block _ (Array.getElem?_eq_some_iff.1 Z2.out).1).trans Z2.out, z5⟩
  have F0 := Lib.hid (F2.out.old k2)
  have Hzq : Hid (q ≠ zb) := Lib.hid (by rw [Hzb.out]; omega)
  have Hzq5 : Hid (q5 ≠ zb) := Lib.hid (by have := b1.size; rw [hq5]; have := Hs2.out; omega)
  have Hzw : Hid (w.heap.size ≤ zb) := Lib.hid (by rw [Hzb.out, Hq.out]; omega)
  clear hq5 hw2 z5 k5 k2 hb2 b1 t1
  try simp only [Act.put]
  refine wp_region_ph (Lx := fun _ _ _ _ => True) [RXP.is (.bool true), RXP.is (.bool true), RXP.is (.pointer none), RXP.is (sumV x), RXP.is (.int .i64 0), RXP.is (.bool true), RXP.is (.bool true), RXP.is (.bool true), RXP.is (.pointer none), RXP.is (.int .i64 0), RXP.is (.bool true), RXP.is (.bool true), RXP.is (.bool true), RXP.is (.pointer none), RXP.is (sumV D), RXP.is (sumV D), RXP.is (.bool true), RXP.is (.bool true), RXP.is (.bool true), RXP.is (.pointer none), RXP.is (.slice none 0 0), RXP.is (.int .i64 ((0 : Nat) : Int)), RXP.is (.bool true), RXP.is (.bool true), RXP.is (.bool true), RXP.is (.pointer none), RXP.is (.pointer none), RXP.is (.bool true), RXP.is (.bool true), RXP.is (.bool true), RXP.is (.pointer none), RXP.is (.string ⟨#[0, 0]⟩), RXP.is (.bool true), RXP.is (.bool true), RXP.is (.bool true), RXP.is (.pointer (some ⟨zb, 0, none⟩)), RXP.is (sumV D), RXP.is (sumV D), RXP.is (.bool true), RXP.is (.bool true), RXP.is (.bool true), RXP.is (.pointer (some ⟨zb, 0, none⟩)), RXP.is (sumV x), RXP.is (.int .i64 1), RXP.is (.bool true), RXP.is (.bool true), RXP.is (.bool true), RXP.is (.pointer (some ⟨zb, 0, none⟩)), RXP.is (sumV x), RXP.is (sumV x), RXP.is (.bool true), RXP.is (.bool true), RXP.is (.bool true)] [0, 1, 4, 7, 9, 12, 14, 18, 20, 24, 26, 29, 31, 34, 36, 40, 43, 46, 48] (fun k w' => NBase w zb q q5 x D w' ∧ (k ≤ 16 → FP zb 0 [] w') ∧ (17 ≤ k → FP zb 1 [x] w')) (by kernel_rfl) (by kernel_rfl) (by kernel_rfl) (by kernel_rfl) (by kernel_rfl) (⟨HB0.out.drew, fun _ => F0.out.drew, fun h => absurd h (by decide)⟩) ⟨?_, ?_, ?_, ?_, ?_, ?_, ?_, ?_, ?_, ?_, ?_, ?_, ?_, ?_, ?_, ?_, ?_, ?_, ?_, ?_, ?_, ?_, ?_, ?_, ?_, ?_, ?_, ?_, ?_, ?_, ?_, ?_, ?_, ?_, ?_, ?_, ?_, ?_, ?_, ?_, ?_, ?_, ?_, ?_, ?_, ?_, ?_, ?_, ?_, ?_, ?_, ?_, ?_, trivial⟩ ?_
  · intro ac w' ph hF hPh hlt hP hU K hK0
    obtain rfl : ph = 0 := (hlt 0 0 rfl).1 rfl
    refine rop_call 9 _ _ rfl #[] (by simp []) (by kernel_rfl) (wanted_none rfl) ?_
    refine (awake11_any w' hPh.1.kt).mono ?_
    rintro e w2 ⟨rfl, hb⟩
    exact ⟨_, rfl, hK0 _ _ trivial ⟨hPh.1.old hb, fun h => (hPh.2.1 (by decide)).old hb, fun h => absurd h (by decide)⟩ rfl⟩
  · intro ac w' ph hF hPh hlt hP hU K hK0
    obtain rfl : ph = 1 := (hlt 1 1 rfl).1 rfl
    have e9 : ac.eval (.tmp 9) = .bool true := hP 0 (by kernel_rfl)
    exact rop_move _ rfl e9 (wanted_none rfl) (hK0 _ _ trivial ⟨hPh.1, fun _ => hPh.2.1 (by decide), fun h => absurd h (by decide)⟩ rfl)
  · intro ac w' ph hF hPh hlt hP hU K hK0
    have e3 : ac.eval (.tmp 3) = .pointer none := hF.at 3 (by kernel_rfl)
    have e10 : ac.eval (.tmp 10) = .bool true := hP 1 (by kernel_rfl)
    exact rop_move _ rfl e3 (wanted_of (j := 1) (b := true) rfl rfl e10) (hK0 _ _ trivial hPh rfl)
  · intro ac w' ph hF hPh hlt hP hU K hK0
    have e1 : ac.eval (.tmp 1) = .pointer (some ⟨q, 0, none⟩) := hF.at 1 (by kernel_rfl)
    have e10 : ac.eval (.tmp 10) = .bool true := hP 1 (by kernel_rfl)
    exact rop_ld _ _ rfl e1 (run_loadAt_mid _ _ _ _ _ _ (range_of hPh.1.zx) Tryd.underlying31 rfl (sum_info' HX.out)) (wanted_of (j := 1) (b := true) rfl rfl e10) (hK0 _ _ trivial hPh rfl)
  · intro ac w' ph hF hPh hlt hP hU K hK0
    obtain rfl : ph = 2 := (hlt 2 4 rfl).1 rfl
    have e11 : ac.eval (.tmp 11) = .pointer none := hP 2 (by kernel_rfl)
    have e12 : ac.eval (.tmp 12) = sumV x := hP 3 (by kernel_rfl)
    have e10 : ac.eval (.tmp 10) = .bool true := hP 1 (by kernel_rfl)
    refine rop_call 20 _ _ rfl #[.pointer none, sumV x] (by simp [e11, e12]) (by kernel_rfl) (wanted_of (j := 1) (b := true) rfl rfl e10) ?_
    refine (fadd_nil x w').mono ?_
    rintro e w2 ⟨rfl, hb⟩
    exact ⟨_, rfl, hK0 _ _ trivial ⟨hPh.1.old hb, fun h => (hPh.2.1 (by decide)).old hb, fun h => absurd h (by decide)⟩ rfl⟩
  · intro ac w' ph hF hPh hlt hP hU K hK0
    have e13 : ac.eval (.tmp 13) = .int .i64 0 := hP 4 (by kernel_rfl)
    have e10 : ac.eval (.tmp 10) = .bool true := hP 1 (by kernel_rfl)
    exact rop_bin _ _ _ _ _ rfl e13 rfl (guard_int _ _ _ _ _ _ _ w') (eql_iT _ w') (wanted_of (j := 1) (b := true) rfl rfl e10) (hK0 _ _ trivial hPh rfl)
  · intro ac w' ph hF hPh hlt hP hU K hK0
    have e10 : ac.eval (.tmp 10) = .bool true := hP 1 (by kernel_rfl)
    have e14 : ac.eval (.tmp 14) = .bool true := hP 5 (by kernel_rfl)
    exact rop_pick _ _ _ rfl true e10 (by simpa using e14) (wanted_none rfl) (hK0 _ _ trivial hPh rfl)
  · intro ac w' ph hF hPh hlt hP hU K hK0
    obtain rfl : ph = 3 := (hlt 3 7 rfl).1 rfl
    have e15 : ac.eval (.tmp 15) = .bool true := hP 6 (by kernel_rfl)
    exact rop_move _ rfl e15 (wanted_none rfl) (hK0 _ _ trivial ⟨hPh.1, fun _ => hPh.2.1 (by decide), fun h => absurd h (by decide)⟩ rfl)
  · intro ac w' ph hF hPh hlt hP hU K hK0
    have e3 : ac.eval (.tmp 3) = .pointer none := hF.at 3 (by kernel_rfl)
    have e16 : ac.eval (.tmp 16) = .bool true := hP 7 (by kernel_rfl)
    exact rop_move _ rfl e3 (wanted_of (j := 7) (b := true) rfl rfl e16) (hK0 _ _ trivial hPh rfl)
  · intro ac w' ph hF hPh hlt hP hU K hK0
    obtain rfl : ph = 4 := (hlt 4 9 rfl).1 rfl
    have e17 : ac.eval (.tmp 17) = .pointer none := hP 8 (by kernel_rfl)
    have e16 : ac.eval (.tmp 16) = .bool true := hP 7 (by kernel_rfl)
    refine rop_call 15 _ _ rfl #[.pointer none] (by simp [e17]) (by kernel_rfl) (wanted_of (j := 7) (b := true) rfl rfl e16) ?_
    refine (size_none w').mono ?_
    rintro e w2 ⟨rfl, hb⟩
    exact ⟨_, rfl, hK0 _ _ trivial ⟨hPh.1.old hb, fun h => (hPh.2.1 (by decide)).old hb, fun h => absurd h (by decide)⟩ rfl⟩
  · intro ac w' ph hF hPh hlt hP hU K hK0
    have e18 : ac.eval (.tmp 18) = .int .i64 0 := hP 9 (by kernel_rfl)
    have e16 : ac.eval (.tmp 16) = .bool true := hP 7 (by kernel_rfl)
    exact rop_bin _ _ _ _ _ rfl e18 rfl (guard_int _ _ _ _ _ _ _ w') (eql_iT _ w') (wanted_of (j := 7) (b := true) rfl rfl e16) (hK0 _ _ trivial hPh rfl)
  · intro ac w' ph hF hPh hlt hP hU K hK0
    have e16 : ac.eval (.tmp 16) = .bool true := hP 7 (by kernel_rfl)
    have e19 : ac.eval (.tmp 19) = .bool true := hP 10 (by kernel_rfl)
    exact rop_pick _ _ _ rfl true e16 (by simpa using e19) (wanted_none rfl) (hK0 _ _ trivial hPh rfl)
  · intro ac w' ph hF hPh hlt hP hU K hK0
    obtain rfl : ph = 5 := (hlt 5 12 rfl).1 rfl
    have e20 : ac.eval (.tmp 20) = .bool true := hP 11 (by kernel_rfl)
    exact rop_move _ rfl e20 (wanted_none rfl) (hK0 _ _ trivial ⟨hPh.1, fun _ => hPh.2.1 (by decide), fun h => absurd h (by decide)⟩ rfl)
  · intro ac w' ph hF hPh hlt hP hU K hK0
    have e3 : ac.eval (.tmp 3) = .pointer none := hF.at 3 (by kernel_rfl)
    have e21 : ac.eval (.tmp 21) = .bool true := hP 12 (by kernel_rfl)
    exact rop_move _ rfl e3 (wanted_of (j := 12) (b := true) rfl rfl e21) (hK0 _ _ trivial hPh rfl)
  · intro ac w' ph hF hPh hlt hP hU K hK0
    obtain rfl : ph = 6 := (hlt 6 14 rfl).1 rfl
    have e22 : ac.eval (.tmp 22) = .pointer none := hP 13 (by kernel_rfl)
    have e21 : ac.eval (.tmp 21) = .bool true := hP 12 (by kernel_rfl)
    refine rop_call 16 _ _ rfl #[.pointer none] (by simp [e22]) (by kernel_rfl) (wanted_of (j := 12) (b := true) rfl rfl e21) ?_
    refine (HRN.out w' hPh.1.kt).mono ?_
    rintro e w2 ⟨rfl, hb⟩
    exact ⟨_, rfl, hK0 _ _ trivial ⟨hPh.1.old hb, fun h => (hPh.2.1 (by decide)).old hb, fun h => absurd h (by decide)⟩ rfl⟩
  · intro ac w' ph hF hPh hlt hP hU K hK0
    have e5 : ac.eval (.tmp 5) = .pointer (some ⟨q5, 0, none⟩) := hF.at 5 (by kernel_rfl)
    have e21 : ac.eval (.tmp 21) = .bool true := hP 12 (by kernel_rfl)
    exact rop_ld _ _ rfl e5 (run_loadAt_mid _ _ _ _ _ _ (range_of hPh.1.ze) Tryd.underlying31 rfl (sum_info' HD.out)) (wanted_of (j := 12) (b := true) rfl rfl e21) (hK0 _ _ trivial hPh rfl)
  · intro ac w' ph hF hPh hlt hP hU K hK0
    have e23 : ac.eval (.tmp 23) = sumV D := hP 14 (by kernel_rfl)
    have e24 : ac.eval (.tmp 24) = sumV D := hP 15 (by kernel_rfl)
    have e21 : ac.eval (.tmp 21) = .bool true := hP 12 (by kernel_rfl)
    exact rop_bin _ _ _ _ _ rfl e23 e24 (guard_run .eql _ _ _ _ w') (eql_sum_tt D D HD.out HD.out rfl w') (wanted_of (j := 12) (b := true) rfl rfl e21) (hK0 _ _ trivial hPh rfl)
  · intro ac w' ph hF hPh hlt hP hU K hK0
    have e21 : ac.eval (.tmp 21) = .bool true := hP 12 (by kernel_rfl)
    have e25 : ac.eval (.tmp 25) = .bool true := hP 16 (by kernel_rfl)
    exact rop_pick _ _ _ rfl true e21 (by simpa using e25) (wanted_none rfl) (hK0 _ _ trivial hPh rfl)
  · intro ac w' ph hF hPh hlt hP hU K hK0
    obtain rfl : ph = 7 := (hlt 7 18 rfl).1 rfl
    have e26 : ac.eval (.tmp 26) = .bool true := hP 17 (by kernel_rfl)
    exact rop_move _ rfl e26 (wanted_none rfl) (hK0 _ _ trivial ⟨hPh.1, fun _ => hPh.2.1 (by decide), fun h => absurd h (by decide)⟩ rfl)
  · intro ac w' ph hF hPh hlt hP hU K hK0
    have e3 : ac.eval (.tmp 3) = .pointer none := hF.at 3 (by kernel_rfl)
    have e27 : ac.eval (.tmp 27) = .bool true := hP 18 (by kernel_rfl)
    exact rop_move _ rfl e3 (wanted_of (j := 18) (b := true) rfl rfl e27) (hK0 _ _ trivial hPh rfl)
  · intro ac w' ph hF hPh hlt hP hU K hK0
    obtain rfl : ph = 8 := (hlt 8 20 rfl).1 rfl
    have e28 : ac.eval (.tmp 28) = .pointer none := hP 19 (by kernel_rfl)
    have e27 : ac.eval (.tmp 27) = .bool true := hP 18 (by kernel_rfl)
    refine rop_call 14 _ _ rfl #[.pointer none] (by simp [e28]) (by kernel_rfl) (wanted_of (j := 18) (b := true) rfl rfl e27) ?_
    refine (peaks_nil w').mono ?_
    rintro e w2 ⟨rfl, hb⟩
    exact ⟨_, rfl, hK0 _ _ trivial ⟨hPh.1.old hb, fun h => (hPh.2.1 (by decide)).old hb, fun h => absurd h (by decide)⟩ rfl⟩
  · intro ac w' ph hF hPh hlt hP hU K hK0
    have e29 : ac.eval (.tmp 29) = .slice none 0 0 := hP 20 (by kernel_rfl)
    have e27 : ac.eval (.tmp 27) = .bool true := hP 18 (by kernel_rfl)
    exact rop_lenG _ Tryd.underlying22 rfl e29 (wanted_of (j := 18) (b := true) rfl rfl e27) (hK0 _ _ trivial hPh rfl)
  · intro ac w' ph hF hPh hlt hP hU K hK0
    have e30 : ac.eval (.tmp 30) = .int .i64 ((0 : Nat) : Int) := hP 21 (by kernel_rfl)
    have e27 : ac.eval (.tmp 27) = .bool true := hP 18 (by kernel_rfl)
    exact rop_bin _ _ _ _ _ rfl e30 rfl (guard_int _ _ _ _ _ _ _ w') (eql_iG _ _ _ (by decide) w') (wanted_of (j := 18) (b := true) rfl rfl e27) (hK0 _ _ trivial hPh rfl)
  · intro ac w' ph hF hPh hlt hP hU K hK0
    have e27 : ac.eval (.tmp 27) = .bool true := hP 18 (by kernel_rfl)
    have e31 : ac.eval (.tmp 31) = .bool true := hP 22 (by kernel_rfl)
    exact rop_pick _ _ _ rfl true e27 (by simpa using e31) (wanted_none rfl) (hK0 _ _ trivial hPh rfl)
  · intro ac w' ph hF hPh hlt hP hU K hK0
    obtain rfl : ph = 9 := (hlt 9 24 rfl).1 rfl
    have e32 : ac.eval (.tmp 32) = .bool true := hP 23 (by kernel_rfl)
    exact rop_move _ rfl e32 (wanted_none rfl) (hK0 _ _ trivial ⟨hPh.1, fun _ => hPh.2.1 (by decide), fun h => absurd h (by decide)⟩ rfl)
  · intro ac w' ph hF hPh hlt hP hU K hK0
    have e3 : ac.eval (.tmp 3) = .pointer none := hF.at 3 (by kernel_rfl)
    have e33 : ac.eval (.tmp 33) = .bool true := hP 24 (by kernel_rfl)
    exact rop_move _ rfl e3 (wanted_of (j := 24) (b := true) rfl rfl e33) (hK0 _ _ trivial hPh rfl)
  · intro ac w' ph hF hPh hlt hP hU K hK0
    obtain rfl : ph = 10 := (hlt 10 26 rfl).1 rfl
    have e34 : ac.eval (.tmp 34) = .pointer none := hP 25 (by kernel_rfl)
    have e33 : ac.eval (.tmp 33) = .bool true := hP 24 (by kernel_rfl)
    refine rop_call 24 _ _ rfl #[.pointer none] (by simp [e34]) (by kernel_rfl) (wanted_of (j := 24) (b := true) rfl rfl e33) ?_
    refine (copy_none w').mono ?_
    rintro e w2 ⟨rfl, hb⟩
    exact ⟨_, rfl, hK0 _ _ trivial ⟨hPh.1.old hb, fun h => (hPh.2.1 (by decide)).old hb, fun h => absurd h (by decide)⟩ rfl⟩
  · intro ac w' ph hF hPh hlt hP hU K hK0
    have e35 : ac.eval (.tmp 35) = .pointer none := hP 26 (by kernel_rfl)
    have e33 : ac.eval (.tmp 33) = .bool true := hP 24 (by kernel_rfl)
    exact rop_bin _ _ _ _ _ rfl e35 rfl (guard_ptr _ _ _ _ _ _ w') (eql_none_none w') (wanted_of (j := 24) (b := true) rfl rfl e33) (hK0 _ _ trivial hPh rfl)
  · intro ac w' ph hF hPh hlt hP hU K hK0
    have e33 : ac.eval (.tmp 33) = .bool true := hP 24 (by kernel_rfl)
    have e36 : ac.eval (.tmp 36) = .bool true := hP 27 (by kernel_rfl)
    exact rop_pick _ _ _ rfl true e33 (by simpa using e36) (wanted_none rfl) (hK0 _ _ trivial hPh rfl)
  · intro ac w' ph hF hPh hlt hP hU K hK0
    obtain rfl : ph = 11 := (hlt 11 29 rfl).1 rfl
    have e37 : ac.eval (.tmp 37) = .bool true := hP 28 (by kernel_rfl)
    exact rop_move _ rfl e37 (wanted_none rfl) (hK0 _ _ trivial ⟨hPh.1, fun _ => hPh.2.1 (by decide), fun h => absurd h (by decide)⟩ rfl)
  · intro ac w' ph hF hPh hlt hP hU K hK0
    have e3 : ac.eval (.tmp 3) = .pointer none := hF.at 3 (by kernel_rfl)
    have e38 : ac.eval (.tmp 38) = .bool true := hP 29 (by kernel_rfl)
    exact rop_move _ rfl e3 (wanted_of (j := 29) (b := true) rfl rfl e38) (hK0 _ _ trivial hPh rfl)
  · intro ac w' ph hF hPh hlt hP hU K hK0
    obtain rfl : ph = 12 := (hlt 12 31 rfl).1 rfl
    have e39 : ac.eval (.tmp 39) = .pointer none := hP 30 (by kernel_rfl)
    have e38 : ac.eval (.tmp 38) = .bool true := hP 29 (by kernel_rfl)
    refine rop_call 18 _ _ rfl #[.pointer none] (by simp [e39]) (by kernel_rfl) (wanted_of (j := 29) (b := true) rfl rfl e38) ?_
    refine (bytes_none w').mono ?_
    rintro e w2 ⟨rfl, hb⟩
    exact ⟨_, rfl, hK0 _ _ trivial ⟨hPh.1.old hb, fun h => (hPh.2.1 (by decide)).old hb, fun h => absurd h (by decide)⟩ rfl⟩
  · intro ac w' ph hF hPh hlt hP hU K hK0
    have e40 : ac.eval (.tmp 40) = .string ⟨#[0, 0]⟩ := hP 31 (by kernel_rfl)
    have e38 : ac.eval (.tmp 38) = .bool true := hP 29 (by kernel_rfl)
    exact rop_bin _ _ _ _ _ rfl e40 rfl (guard_str _ _ _ _ _ _ w') (eql_str_t _ _ rfl w') (wanted_of (j := 29) (b := true) rfl rfl e38) (hK0 _ _ trivial hPh rfl)
  · intro ac w' ph hF hPh hlt hP hU K hK0
    have e38 : ac.eval (.tmp 38) = .bool true := hP 29 (by kernel_rfl)
    have e41 : ac.eval (.tmp 41) = .bool true := hP 32 (by kernel_rfl)
    exact rop_pick _ _ _ rfl true e38 (by simpa using e41) (wanted_none rfl) (hK0 _ _ trivial hPh rfl)
  · intro ac w' ph hF hPh hlt hP hU K hK0
    obtain rfl : ph = 13 := (hlt 13 34 rfl).1 rfl
    have e42 : ac.eval (.tmp 42) = .bool true := hP 33 (by kernel_rfl)
    exact rop_move _ rfl e42 (wanted_none rfl) (hK0 _ _ trivial ⟨hPh.1, fun _ => hPh.2.1 (by decide), fun h => absurd h (by decide)⟩ rfl)
  · intro ac w' ph hF hPh hlt hP hU K hK0
    have e4 : ac.eval (.tmp 4) = .pointer (some ⟨zb, 0, none⟩) := hF.at 4 (by kernel_rfl)
    have e43 : ac.eval (.tmp 43) = .bool true := hP 34 (by kernel_rfl)
    exact rop_move _ rfl e4 (wanted_of (j := 34) (b := true) rfl rfl e43) (hK0 _ _ trivial hPh rfl)
  · intro ac w' ph hF hPh hlt hP hU K hK0
    obtain rfl : ph = 14 := (hlt 14 36 rfl).1 rfl
    have e44 : ac.eval (.tmp 44) = .pointer (some ⟨zb, 0, none⟩) := hP 35 (by kernel_rfl)
    have e43 : ac.eval (.tmp 43) = .bool true := hP 34 (by kernel_rfl)
    refine rop_call 16 _ _ rfl #[.pointer (some ⟨zb, 0, none⟩)] (by simp [e44]) (by kernel_rfl) (wanted_of (j := 34) (b := true) rfl rfl e43) ?_
    refine (HRZ0.out w' (hPh.2.1 (by decide)) hPh.1.kt).mono ?_
    rintro e w2 ⟨rfl, hb⟩
    exact ⟨_, rfl, hK0 _ _ trivial ⟨hPh.1.old hb, fun h => (hPh.2.1 (by decide)).old hb, fun h => absurd h (by decide)⟩ rfl⟩
  · intro ac w' ph hF hPh hlt hP hU K hK0
    have e5 : ac.eval (.tmp 5) = .pointer (some ⟨q5, 0, none⟩) := hF.at 5 (by kernel_rfl)
    have e43 : ac.eval (.tmp 43) = .bool true := hP 34 (by kernel_rfl)
    exact rop_ld _ _ rfl e5 (run_loadAt_mid _ _ _ _ _ _ (range_of hPh.1.ze) Tryd.underlying31 rfl (sum_info' HD.out)) (wanted_of (j := 34) (b := true) rfl rfl e43) (hK0 _ _ trivial hPh rfl)
  · intro ac w' ph hF hPh hlt hP hU K hK0
    have e45 : ac.eval (.tmp 45) = sumV D := hP 36 (by kernel_rfl)
    have e46 : ac.eval (.tmp 46) = sumV D := hP 37 (by kernel_rfl)
    have e43 : ac.eval (.tmp 43) = .bool true := hP 34 (by kernel_rfl)
    exact rop_bin _ _ _ _ _ rfl e45 e46 (guard_run .eql _ _ _ _ w') (eql_sum_tt D D HD.out HD.out rfl w') (wanted_of (j := 34) (b := true) rfl rfl e43) (hK0 _ _ trivial hPh rfl)
  · intro ac w' ph hF hPh hlt hP hU K hK0
    have e43 : ac.eval (.tmp 43) = .bool true := hP 34 (by kernel_rfl)
    have e47 : ac.eval (.tmp 47) = .bool true := hP 38 (by kernel_rfl)
    exact rop_pick _ _ _ rfl true e43 (by simpa using e47) (wanted_none rfl) (hK0 _ _ trivial hPh rfl)
  · intro ac w' ph hF hPh hlt hP hU K hK0
    obtain rfl : ph = 15 := (hlt 15 40 rfl).1 rfl
    have e48 : ac.eval (.tmp 48) = .bool true := hP 39 (by kernel_rfl)
    exact rop_move _ rfl e48 (wanted_none rfl) (hK0 _ _ trivial ⟨hPh.1, fun _ => hPh.2.1 (by decide), fun h => absurd h (by decide)⟩ rfl)
  · intro ac w' ph hF hPh hlt hP hU K hK0
    have e4 : ac.eval (.tmp 4) = .pointer (some ⟨zb, 0, none⟩) := hF.at 4 (by kernel_rfl)
    have e49 : ac.eval (.tmp 49) = .bool true := hP 40 (by kernel_rfl)
    exact rop_move _ rfl e4 (wanted_of (j := 40) (b := true) rfl rfl e49) (hK0 _ _ trivial hPh rfl)
  · intro ac w' ph hF hPh hlt hP hU K hK0
    have e1 : ac.eval (.tmp 1) = .pointer (some ⟨q, 0, none⟩) := hF.at 1 (by kernel_rfl)
    have e49 : ac.eval (.tmp 49) = .bool true := hP 40 (by kernel_rfl)
    exact rop_ld _ _ rfl e1 (run_loadAt_mid _ _ _ _ _ _ (range_of hPh.1.zx) Tryd.underlying31 rfl (sum_info' HX.out)) (wanted_of (j := 40) (b := true) rfl rfl e49) (hK0 _ _ trivial hPh rfl)
  · intro ac w' ph hF hPh hlt hP hU K hK0
    obtain rfl : ph = 16 := (hlt 16 43 rfl).1 rfl
    have e50 : ac.eval (.tmp 50) = .pointer (some ⟨zb, 0, none⟩) := hP 41 (by kernel_rfl)
    have e51 : ac.eval (.tmp 51) = sumV x := hP 42 (by kernel_rfl)
    have e49 : ac.eval (.tmp 49) = .bool true := hP 40 (by kernel_rfl)
    refine rop_call 20 _ _ rfl #[.pointer (some ⟨zb, 0, none⟩), sumV x] (by simp [e50, e51]) (by kernel_rfl) (wanted_of (j := 40) (b := true) rfl rfl e49) ?_
    refine (HAZ.out w' (hPh.2.1 (by decide)) hPh.1.kt).mono ?_
    rintro e w2 ⟨rfl, hf, ho⟩
    exact ⟨_, rfl, hK0 _ _ trivial ⟨hPh.1.only ho (hPh.2.1 (by decide)) Hzq.out Hzq5.out Hzw.out, fun h => absurd h (by decide), fun _ => hf⟩ rfl⟩
  · intro ac w' ph hF hPh hlt hP hU K hK0
    have e52 : ac.eval (.tmp 52) = .int .i64 1 := hP 43 (by kernel_rfl)
    have e49 : ac.eval (.tmp 49) = .bool true := hP 40 (by kernel_rfl)
    exact rop_bin _ _ _ _ _ rfl e52 rfl (guard_int _ _ _ _ _ _ _ w') (eql_iT _ w') (wanted_of (j := 40) (b := true) rfl rfl e49) (hK0 _ _ trivial hPh rfl)
  · intro ac w' ph hF hPh hlt hP hU K hK0
    have e49 : ac.eval (.tmp 49) = .bool true := hP 40 (by kernel_rfl)
    have e53 : ac.eval (.tmp 53) = .bool true := hP 44 (by kernel_rfl)
    exact rop_pick _ _ _ rfl true e49 (by simpa using e53) (wanted_none rfl) (hK0 _ _ trivial hPh rfl)
  · intro ac w' ph hF hPh hlt hP hU K hK0
    obtain rfl : ph = 17 := (hlt 17 46 rfl).1 rfl
    have e54 : ac.eval (.tmp 54) = .bool true := hP 45 (by kernel_rfl)
    exact rop_move _ rfl e54 (wanted_none rfl) (hK0 _ _ trivial ⟨hPh.1, fun h => absurd h (by decide), fun _ => hPh.2.2 (by decide)⟩ rfl)
  · intro ac w' ph hF hPh hlt hP hU K hK0
    have e4 : ac.eval (.tmp 4) = .pointer (some ⟨zb, 0, none⟩) := hF.at 4 (by kernel_rfl)
    have e55 : ac.eval (.tmp 55) = .bool true := hP 46 (by kernel_rfl)
    exact rop_move _ rfl e4 (wanted_of (j := 46) (b := true) rfl rfl e55) (hK0 _ _ trivial hPh rfl)
  · intro ac w' ph hF hPh hlt hP hU K hK0
    obtain rfl : ph = 18 := (hlt 18 48 rfl).1 rfl
    have e56 : ac.eval (.tmp 56) = .pointer (some ⟨zb, 0, none⟩) := hP 47 (by kernel_rfl)
    have e55 : ac.eval (.tmp 55) = .bool true := hP 46 (by kernel_rfl)
    refine rop_call 16 _ _ rfl #[.pointer (some ⟨zb, 0, none⟩)] (by simp [e56]) (by kernel_rfl) (wanted_of (j := 46) (b := true) rfl rfl e55) ?_
    refine (HRZ1.out w' (hPh.2.2 (by decide)) hPh.1.kt).mono ?_
    rintro e w2 ⟨rfl, hb⟩
    exact ⟨_, rfl, hK0 _ _ trivial ⟨hPh.1.old hb, fun h => absurd h (by decide), fun _ => (hPh.2.2 (by decide)).old hb⟩ rfl⟩
  · intro ac w' ph hF hPh hlt hP hU K hK0
    have e1 : ac.eval (.tmp 1) = .pointer (some ⟨q, 0, none⟩) := hF.at 1 (by kernel_rfl)
    have e55 : ac.eval (.tmp 55) = .bool true := hP 46 (by kernel_rfl)
    exact rop_ld _ _ rfl e1 (run_loadAt_mid _ _ _ _ _ _ (range_of hPh.1.zx) Tryd.underlying31 rfl (sum_info' HX.out)) (wanted_of (j := 46) (b := true) rfl rfl e55) (hK0 _ _ trivial hPh rfl)
  · intro ac w' ph hF hPh hlt hP hU K hK0
    have e57 : ac.eval (.tmp 57) = sumV x := hP 48 (by kernel_rfl)
    have e58 : ac.eval (.tmp 58) = sumV x := hP 49 (by kernel_rfl)
    have e55 : ac.eval (.tmp 55) = .bool true := hP 46 (by kernel_rfl)
    exact rop_bin _ _ _ _ _ rfl e57 e58 (guard_run .eql _ _ _ _ w') (eql_sum_tt x x HX.out HX.out rfl w') (wanted_of (j := 46) (b := true) rfl rfl e55) (hK0 _ _ trivial hPh rfl)
  · intro ac w' ph hF hPh hlt hP hU K hK0
    have e55 : ac.eval (.tmp 55) = .bool true := hP 46 (by kernel_rfl)
    have e59 : ac.eval (.tmp 59) = .bool true := hP 50 (by kernel_rfl)
    exact rop_pick _ _ _ rfl true e55 (by simpa using e59) (wanted_none rfl) (hK0 _ _ trivial hPh rfl)
  · intro ac w' ph hF hPh hlt hP hU K hK0
    have e60 : ac.eval (.tmp 60) = .bool true := hP 51 (by kernel_rfl)
    exact rop_assign _ rfl e60 (wanted_none rfl) (hK0 _ _ trivial hPh rfl)
  · intro ac w' hF hPh hT
    have e2 : ac.eval (.tmp 2) = .bool true := hT 52 (by decide)
    rw [hF.setsG [9, 10, 11, 12, 13, 14, 15, 16, 17, 18, 19, 20, 21, 22, 23, 24, 25, 26, 27, 28, 29, 30, 31, 32, 33, 34, 35, 36, 37, 38, 39, 40, 41, 42, 43, 44, 45, 46, 47, 48, 49, 50, 51, 52, 53, 54, 55, 56, 57, 58, 59, 60, 2] (by kernel_rfl)]
    simp only [List.foldl_cons, List.foldl_nil, List.setIfInBounds_toArray, List.set_cons_succ, List.set_cons_zero, e2]
    generalize ac.eval (.tmp 9) = u9
    generalize ac.eval (.tmp 10) = u10
    generalize ac.eval (.tmp 11) = u11
    generalize ac.eval (.tmp 12) = u12
    generalize ac.eval (.tmp 13) = u13
    generalize ac.eval (.tmp 14) = u14
    generalize ac.eval (.tmp 15) = u15
    generalize ac.eval (.tmp 16) = u16
    generalize ac.eval (.tmp 17) = u17
    generalize ac.eval (.tmp 18) = u18
    generalize ac.eval (.tmp 19) = u19
    generalize ac.eval (.tmp 20) = u20
    generalize ac.eval (.tmp 21) = u21
    generalize ac.eval (.tmp 22) = u22
    generalize ac.eval (.tmp 23) = u23
    generalize ac.eval (.tmp 24) = u24
    generalize ac.eval (.tmp 25) = u25
    generalize ac.eval (.tmp 26) = u26
    generalize ac.eval (.tmp 27) = u27
    generalize ac.eval (.tmp 28) = u28
    generalize ac.eval (.tmp 29) = u29
    generalize ac.eval (.tmp 30) = u30
    generalize ac.eval (.tmp 31) = u31
    generalize ac.eval (.tmp 32) = u32
    generalize ac.eval (.tmp 33) = u33
    generalize ac.eval (.tmp 34) = u34
    generalize ac.eval (.tmp 35) = u35
    generalize ac.eval (.tmp 36) = u36
    generalize ac.eval (.tmp 37) = u37
    generalize ac.eval (.tmp 38) = u38
    generalize ac.eval (.tmp 39) = u39
    generalize ac.eval (.tmp 40) = u40
    generalize ac.eval (.tmp 41) = u41
    generalize ac.eval (.tmp 42) = u42
    generalize ac.eval (.tmp 43) = u43
    generalize ac.eval (.tmp 44) = u44
    generalize ac.eval (.tmp 45) = u45
    generalize ac.eval (.tmp 46) = u46
    generalize ac.eval (.tmp 47) = u47
    generalize ac.eval (.tmp 48) = u48
    generalize ac.eval (.tmp 49) = u49
    generalize ac.eval (.tmp 50) = u50
    generalize ac.eval (.tmp 51) = u51
    generalize ac.eval (.tmp 52) = u52
    generalize ac.eval (.tmp 53) = u53
    generalize ac.eval (.tmp 54) = u54
    generalize ac.eval (.tmp 55) = u55
    generalize ac.eval (.tmp 56) = u56
    generalize ac.eval (.tmp 57) = u57
    generalize ac.eval (.tmp 58) = u58
    generalize ac.eval (.tmp 59) = u59
    generalize ac.eval (.tmp 60) = u60
    clear e2 hT hF ac
    go_wp2
    go_ret
    exact ⟨rfl, hPh.1.be⟩
set_option maxRecDepth 100000 in
theorem lifted (os : Os) (started : os.Started) (H : Type) (enc : TypeId × Value → H) :
    ReturnsInHanded {} Tryd.checked os 8 .any (fun w args => (Rows.frontNilSpec.pre enc Tryd.prog Tryd.f8 [] false w args ∧ laidMetH Tryd.prog [("scrinium/sha.k", Rows.laid_scrinium_sha_k)] w) ∧ sizedMet enc Tryd.prog Tryd.f8 (OpenSpec.ofChange Rows.frontNilSpec) false w args)
      (Rows.frontNilSpec.post enc Tryd.prog Tryd.f8 false true false false) := by
  refine returnsInHanded_of_change_and (C := Tryd.checked) (X := fun w _ => laidMetH Tryd.prog [("scrinium/sha.k", Rows.laid_scrinium_sha_k)] w) (fun _ _ _ hh h => h.of_heap hh) lawOwn started (by kernel_rfl) Tryd.func8
    (ChangeSpec.witness_shaped (enc := enc) (C := Tryd.checked) (os := os) (X := fun w _ => laidMetH Tryd.prog [("scrinium/sha.k", Rows.laid_scrinium_sha_k)] w) false (World.doorLaid Tryd.prog 400 os) #[sumV (List.replicate 32 0)] 8 rfl (World.shaped_of_RefB (by kernel_rfl) (by kernel_rfl)) (by kernel_rfl) (by kernel_rfl) (by kernel_rfl) (door_met os _)) ?_
  intro W base args ds gs before hval0 hW _ _ hL _
  have hval : ∀ (j : Nat) t v, Tryd.f8.params[j]? = some t → args[j]? = some v → Value.okWide Tryd.prog W .any base t v := hval0
  have hW' := hW
  obtain ⟨p, q, hA0, hV, rfl, hfz, hnd⟩ := hW
  have hA : DataW.TrodAll enc Tryd.prog W 0 (fun _ => true) true Tryd.f8.params.toList args.toList ds p := hA0
  rw [Tryd.params8] at hA hval
  obtain ⟨v0, vs0, d0, ds0, p0, q0, hargs, rfl, rfl, h0, r0⟩ := trodAll_cons hA
  obtain ⟨rfl, rfl, rfl⟩ := trodAll_nil r0
  obtain rfl : args = #[v0] := by cases args; simp_all
  obtain ⟨rfl, rfl⟩ := trodVars_none hV
  have hKT := KT_of_laid hL
  obtain ⟨x0, rfl, w0⟩ := open_sum (hval 0 31 v0 rfl rfl) h0
  clear hA0 hval0
  refine (walk (w := W) hKT x0 w0).mono fun e W' ⟨he, bel⟩ => ?_
  subst he
  exact ⟨_, rfl, law_post rfl rfl (by kernel_rfl) hW' rfl bel⟩

theorem row_holds : Rows.FrontNilSaid :=
  OpenClaim.holds_of_wide 8 Tryd.f8 rfl rfl rfl rfl rfl rfl rfl ⟨rfl, rfl, rfl, rfl, rfl⟩ rfl rfl rfl rfl rfl (by kernel_rfl) Tryd.func8 (by kernel_rfl)
    (of_decide_eq_true (by kernel_rfl)) (by unfold Func.isWrapper; first | (rw [if_pos (by decide +kernel)]; kernel_rfl) | (rw [if_neg (by decide +kernel)]; exact ⟨rfl, rfl⟩))
    (fun os started H enc _ => lifted os started H enc)

theorem holds : Rows.FrontNilCardSaid :=
  Claim7.holds_tied_plain_at .later [] [.data] true Rows.frontNilCard.stood.harness false
    row_holds (fun _ h => by cases h) (by kernel_rfl) (fun _ h => by cases h) frontNil_row_tie rfl ⟨rfl, rfl⟩ (by kernel_rfl) rfl
    (fun f fn hf hfn => by
      obtain rfl : f = 8 := Option.some.inj ((show Tryd.prog.funcNamed "scrinium/scriniumlaw11.FrontNil" = some 8 by kernel_rfl).symm.trans hf) |>.symm
      obtain rfl : fn = Tryd.f8 := (Option.some.inj (Tryd.func8.symm.trans hfn)).symm
      exact ⟨by kernel_rfl, fun j t ht => by
        rw [Tryd.params8] at ht
        have hm : t ∈ [31] := by simpa using Array.mem_of_getElem? ht
        have hall : ([31].all fun u => !Tryd.prog.wantsStandIn u) = true := by kernel_rfl
        exact (show Tryd.prog.wantsStandIn t = false by simpa using List.all_eq_true.1 hall t hm)⟩)
    (by kernel_rfl)
end Go.Proofs.YtgiakpnkidblpaaDoor.frontNil

theorem Go.Proofs.YtgiakpnkidblpaaDoor.frontNil_holds : Go.Proofs.YtgiakpnkidblpaaDoor.Rows.FrontNilCardSaid := Go.Proofs.YtgiakpnkidblpaaDoor.frontNil.holds
#print axioms Go.Proofs.YtgiakpnkidblpaaDoor.frontNil_holds
