/-
  TwinTells: twins are told as the document says, of any two paths and any two rows of links. For any two numbers, any two hashes, any two rows of hashes (the first 50 of each; the second row the first one, if that is asked); the numbers K of the package sha are as the program's own start lays them.
-/
import Derived.Test.YtdcebdleneieeaaDoorTwinArg
namespace Go.Proofs.YtdcebdleneieeaaDoor.twinTells
open Go.ChangeShapes Go.WideShapes Go.ChangeAt Go.RowKit

set_option maxHeartbeats 8000000 in
set_option maxRecDepth 100000 in
theorem walk {w : World} (hK : KT w) (m n : Int) (hm : -9223372036854775808 ≤ m ∧ m ≤ 9223372036854775807) (hn : -9223372036854775808 ≤ n ∧ n ≤ 9223372036854775807) (x0 x1 : List UInt8) (hx0 : x0.length = 32) (hx1 : x1.length = 32) (va : Value) (la : Hs) (hva : Sums w va la) (vb : Value) (lb : Hs) (hvb : Sums w vb lb) (o : Bool) :
    Calls Tryd.prog 3 #[.agg #[.int .i64 m, .int .i64 n], .agg (sc [x0, x1]).toArray, .agg #[va, vb, .bool o]] w fun e w' => e = .returned (.bool true) ∧ Below w.heap.size w w' := by
  obtain ⟨aa, ca, rfl, -, -⟩ := hva.slice
  obtain ⟨ab, cb, rfl, -, -⟩ := hvb.slice
  obtain ⟨na, hna⟩ : ∃ k, k = la.length := ⟨_, rfl⟩
  obtain ⟨nb, hnb⟩ : ∃ k, k = lb.length := ⟨_, rfl⟩
  rw [← hna] at hva ⊢
  rw [← hnb] at hvb ⊢
  obtain ⟨PA, hPA⟩ : ∃ P, P = la.take 50 := ⟨_, rfl⟩
  obtain ⟨P1, hP1⟩ : ∃ P, P = lb.take 50 := ⟨_, rfl⟩
  obtain ⟨PB, hPB⟩ : ∃ P, P = if o then PA else P1 := ⟨_, rfl⟩
  have hlA : PA.length ≤ 1000 := by rw [hPA, List.length_take]; omega
  have hlB : PB.length ≤ 1000 := by
    rw [hPB]
    split
    · exact hlA
    · rw [hP1, List.length_take]; omega
  obtain ⟨p, hp⟩ : ∃ p, p = (leavesZ x0 x1 m n PA PB).getD ([], []) := ⟨_, rfl⟩
  obtain ⟨s, hs⟩ : ∃ s, s = (leavesZ x0 x1 m n PA PB).isSome := ⟨_, rfl⟩
  obtain ⟨r, hr⟩ : ∃ p, p = (treesZ x0 x1 m n PA PB).getD ([], []) := ⟨_, rfl⟩
  obtain ⟨t, ht⟩ : ∃ s, s = (treesZ x0 x1 m n PA PB).isSome := ⟨_, rfl⟩
  have e1 : twR (leavesZ x0 x1 m n PA PB) = .tuple #[twV p, .bool s] := by rw [hp, hs]; rfl
  have e2 : twR (treesZ x0 x1 m n PA PB) = .tuple #[twV r, .bool t] := by rw [hr, ht]; rfl
  have hkw : ∀ u, Below w.heap.size w u → KT u := fun u hu => hK.old hu
  have HL1 : Hid (∀ v v' u, Below w.heap.size w u → Sums u v PA → Sums u v' PB → Calls Tryd.prog 11 #[.int .i64 m, .int .i64 n, sumV x0, sumV x1, v, v'] u fun e w' => e = .returned (.tuple #[twV p, .bool s]) ∧ Below u.heap.size u w') := Lib.hid fun v v' u hu h1 h2 => by
    rw [← e1]
    exact Leaves_any x0 x1 hx0 hx1 m n hm.2 hn.2 v v' PA PB u h1 h2 hlA hlB (hkw u hu)
  have HL2 : Hid (∀ v v' u, Below w.heap.size w u → Sums u v PA → Sums u v' PB → Calls Tryd.prog 12 #[.int .i64 m, .int .i64 n, sumV x0, sumV x1, v, v'] u fun e w' => e = .returned (.tuple #[twV p, .bool s]) ∧ Below u.heap.size u w') := Lib.hid fun v v' u hu h1 h2 => by
    rw [← e1]
    exact rLeaves_any x0 x1 hx0 hx1 m n hm.2 hn.2 v v' PA PB u h1 h2 hlA hlB
  have HT1 : Hid (∀ v v' u, Below w.heap.size w u → Sums u v PA → Sums u v' PB → Calls Tryd.prog 13 #[.int .i64 m, .int .i64 n, sumV x0, sumV x1, v, v'] u fun e w' => e = .returned (.tuple #[twV r, .bool t]) ∧ Below u.heap.size u w') := Lib.hid fun v v' u hu h1 h2 => by
    rw [← e2]
    exact Trees_any x0 x1 hx0 hx1 m n hm.2 hn.2 v v' PA PB u h1 h2 hlA hlB (hkw u hu)
  have HT2 : Hid (∀ v v' u, Below w.heap.size w u → Sums u v PA → Sums u v' PB → Calls Tryd.prog 14 #[.int .i64 m, .int .i64 n, sumV x0, sumV x1, v, v'] u fun e w' => e = .returned (.tuple #[twV r, .bool t]) ∧ Below u.heap.size u w') := Lib.hid fun v v' u hu h1 h2 => by
    rw [← e2]
    exact rTrees_any x0 x1 hx0 hx1 m n hm.2 hn.2 v v' PA PB u h1 h2 hlA hlB
  obtain ⟨w0, hw0⟩ : ∃ w0, w0 = ((w.alloc (.cells #[.int .i64 m, .int .i64 n] 22)).alloc (.cells (sc [x0, x1]).toArray 25)).alloc (.cells #[.slice aa na ca, .slice ab nb cb, .bool o] 28) := ⟨_, rfl⟩
  have b0 : Below w.heap.size w w0 := by rw [hw0]; exact (((Below.refl _ _).alloc (Nat.le_refl _) _).alloc (by simp) _).alloc (by simp; omega) _
  have j3 : w0.heap[w.heap.size]? = some (.cells #[.int .i64 m, .int .i64 n] 22 (0, 0)) := by
    rw [hw0]
    exact ((((Below.refl (w.alloc (.cells #[.int .i64 m, .int .i64 n] 22)).heap.size _).alloc (Nat.le_refl _) _).alloc (by simp) _).block w.heap.size (by simp)).trans (heap_alloc_last w _)
  have j4 : w0.heap[w.heap.size + 1]? = some (.cells (sc [x0, x1]).toArray 25 (0, 0)) := by
    rw [hw0]
    refine (Below.heap_alloc _ _ _ (by simp)).trans ?_
    have := heap_alloc_last (w.alloc (.cells #[.int .i64 m, .int .i64 n] 22)) (.cells (sc [x0, x1]).toArray 25)
    rwa [World.size_alloc] at this
  have j5 : w0.heap[w.heap.size + 1 + 1]? = some (.cells #[.slice aa na ca, .slice ab nb cb, .bool o] 28 (0, 0)) := by
    have := heap_alloc_last ((w.alloc (.cells #[.int .i64 m, .int .i64 n] 22)).alloc (.cells (sc [x0, x1]).toArray 25)) (.cells #[.slice aa na ca, .slice ab nb cb, .bool o] 28)
    rwa [World.size_alloc, World.size_alloc, ← hw0] at this
  have HX0l := Lib.hid hx0
  have HX1l := Lib.hid hx1
  have HXo : Hid (all32 [x0, x1]) := Lib.hid (by
    intro x hx
    simp at hx
    rcases hx with rfl | rfl
    · exact hx0
    · exact hx1)
  have HAW := Lib.hid (awake13_any w0 (hkw _ b0))
  have HFA : Hid (∀ u, Below w.heap.size w u → Calls Tryd.prog 10 #[.slice aa na ca] u fun e w' => ∃ v', e = .returned v' ∧ SumsB u.heap.size u v' PA ∧ u = w') := Lib.hid fun u hu => by rw [hPA]; exact few13_any _ la u (hva.old hu)
  have HFB : Hid (∀ u, Below w.heap.size w u → Calls Tryd.prog 10 #[.slice ab nb cb] u fun e w' => ∃ v', e = .returned v' ∧ SumsB u.heap.size u v' P1 ∧ u = w') := Lib.hid fun u hu => by rw [hP1]; exact few13_any _ lb u (hvb.old hu)
  have HJ3 := Lib.hid j3
  have HJ4 := Lib.hid j4
  have HJ5 := Lib.hid j5
  have HPB := Lib.hid hPB
  clear hPA hP1 hPB hlA hlB hp hs hr ht e1 e2 hx0 hx1 hva hvb hna hnb hK hkw j3 j4 j5 hm hn
  obtain ⟨XX, hXX⟩ : ∃ XX, XX = (sc [x0, x1]).toArray := ⟨_, rfl⟩
  rw [← hXX] at hw0 ⊢
  clear hXX
  go_enter Tryd.func3, Tryd.ntmps3
  go_upto_region 1 with (fail)
  rw [← hw0]
  clear hw0
  go_upto_region 2 with (go_at_call 9; ((with_reducible refine HAW.out.mono ?_); rintro e w1 ⟨rfl, b1⟩; have b2 := below_step b0 (Nat.le_refl _) b1))
  have c50 : w1.cell? ⟨w.heap.size + 1 + 1, 0, none⟩ = some (.slice aa na ca) := cell_of (heap_oldP HJ5.out b1) 0
  have c51 : w1.cell? ⟨w.heap.size + 1 + 1, 1, none⟩ = some (.slice ab nb cb) := cell_of (heap_oldP HJ5.out b1) 1
  have c52 : w1.cell? ⟨w.heap.size + 1 + 1, 2, none⟩ = some (.bool o) := cell_of (heap_oldP HJ5.out b1) 2
  go_upto_region 3 with (go_at_call 10; refine (HFA.out _ b2).mono ?_; rintro e w2 ⟨v6, rfl, h6, rfl⟩; have HSA0 := Lib.hid h6.1; clear h6)
  go_upto_region 4 with (go_at_call 10; refine (HFB.out _ b2).mono ?_; rintro e w3 ⟨v7, rfl, h7, rfl⟩; have HSB0 := Lib.hid h7.1; clear h7)
  obtain ⟨ap, np, cp, rfl⟩ : ∃ a n c, v6 = .slice a n c := by obtain ⟨a, c, e, -, -⟩ := HSA0.out.slice; exact ⟨_, _, _, e⟩
  obtain ⟨bp0, nbp0, cbp0, rfl⟩ : ∃ a n c, v7 = .slice a n c := by obtain ⟨a, c, e, -, -⟩ := HSB0.out.slice; exact ⟨_, _, _, e⟩
  have HSA := HSA0
  obtain ⟨bp, nbp, cbp, hsb⟩ : ∃ a n c, (if o then Value.slice ap np cp else .slice bp0 nbp0 cbp0) = .slice a n c := by cases o <;> exact ⟨_, _, _, rfl⟩
  have HSB : Hid (Sums w1 (.slice bp nbp cbp) PB) := Lib.hid (by
    rw [← hsb, HPB.out]
    cases o with
    | true => exact HSA.out
    | false => exact HSB0.out)
  have HSL := Lib.hid hsb
  clear hsb HPB
  obtain ⟨w3, hw3⟩ : ∃ w3, w3 = w1 := ⟨_, rfl⟩
  subst hw3
  go_upto_if 26 with (fail)
  go_cut [9] from 27 to 27 (fun s wx => s = .slice bp nbp cbp ∧ wx = w3)
  case first =>
    cases o with
    | true =>
      go_wp2
      go_meet
      exact ⟨HSL.out, rfl⟩
    | false =>
      go_wp2
      go_meet
      exact ⟨HSL.out, rfl⟩
  case rest =>
  obtain ⟨rfl, hwc⟩ := hcut
  rw [hwc]
  clear hwc
  have Jq3' : Hid (w3.heap[w.heap.size]? = some (.cells #[.int .i64 m, .int .i64 n] 22 (0, 0))) := Lib.hid (heap_oldP HJ3.out b1)
  have Jq4' : Hid (w3.heap[w.heap.size + 1]? = some (.cells (sc [x0, x1]).toArray 25 (0, 0))) := Lib.hid (heap_oldP HJ4.out b1)
  have HBW := Lib.hid b2
  obtain ⟨q5, hq5⟩ : ∃ q, q = w.heap.size + 1 + 1 := ⟨_, rfl⟩
  rw [← hq5]
  obtain ⟨q4, hq4⟩ : ∃ q, q = w.heap.size + 1 := ⟨_, rfl⟩
  rw [← hq4] at Jq4' ⊢
  obtain ⟨q3, hq3⟩ : ∃ q, q = w.heap.size := ⟨_, rfl⟩
  rw [← hq3] at Jq3' ⊢
  have Jq3 := Jq3'
  have Jq4 := Jq4'
  clear hq3 hq4 hq5 Jq3' Jq4' HJ3 HJ4 HJ5 HSA0 HSB0 HSL b0 b1 b2 c50 c51 c52 HAW HFA HFB
  have i30 : ∀ u, (Instr.indexAt 22 (.pointer (some ⟨q3, 0, none⟩)) (.int .i64 0)).run Tryd.prog u = .ok (.pointer (some ⟨q3, 0, none⟩)) u := fun u => idx2i q3 0 0 rfl (by decide) u
  have i31 : ∀ u, (Instr.indexAt 22 (.pointer (some ⟨q3, 0, none⟩)) (.int .i64 1)).run Tryd.prog u = .ok (.pointer (some ⟨q3, 1, none⟩)) u := fun u => idx2i q3 1 1 rfl (by decide) u
  have i40 : ∀ u, (Instr.indexAt 25 (.pointer (some ⟨q4, 0, none⟩)) (.int .i64 0)).run Tryd.prog u = .ok (.pointer (some ⟨q4, 0, none⟩)) u := fun u => by simpa using idx2S q4 0 0 rfl (by decide) u
  have i41 : ∀ u, (Instr.indexAt 25 (.pointer (some ⟨q4, 0, none⟩)) (.int .i64 1)).run Tryd.prog u = .ok (.pointer (some ⟨q4, 32, none⟩)) u := fun u => by simpa using idx2S q4 1 1 rfl (by decide) u
  have c30 : w3.cell? ⟨q3, 0, none⟩ = some (.int .i64 m) := cell_of Jq3.out 0
  have c31 : w3.cell? ⟨q3, 1, none⟩ = some (.int .i64 n) := cell_of Jq3.out 1
  go_upto_region 7 with (first
    | refine wpList_load_mid rfl 24 (.tmp 33) rfl q4 0 rfl (x0.map u8V) _ (sc_rangeAt Jq4.out HXo.out 0 x0 rfl) Tryd.underlying24 rfl (sum_info' HX0l.out) ?_
    | refine wpList_load_mid rfl 24 (.tmp 35) rfl q4 32 rfl (x1.map u8V) _ (sc_rangeAt Jq4.out HXo.out 1 x1 rfl) Tryd.underlying24 rfl (sum_info' HX1l.out) ?_
    | (go_at_call 11; (refine (HL1.out _ _ _ HBW.out HSA.out HSB.out).mono ?_); rintro e v4 ⟨rfl, c4⟩; have t4 := heap_alloc_last v4 (.cells #[tV [], tV []] 32))
    | refine wpList_store_tw rfl (.tmp 10) (.tmp 40) rfl v4.heap.size p ([], []) rfl rfl t4 ?_)
  change Code.wp _ _ _ _ ((v4.alloc (.cells #[tV [], tV []] 32)).setCells v4.heap.size 0 [tV p.1, tV p.2])
  obtain ⟨w4, hw4⟩ : ∃ u, u = ((v4.alloc (.cells #[tV [], tV []] 32)).setCells v4.heap.size 0 [tV p.1, tV p.2]) := ⟨_, rfl⟩
  have k4 : Below w3.heap.size w3 w4 := by rw [hw4]; exact below_setCells c4.size _ _ _ ((c4).alloc (Nat.le_trans c4.size (by simp)) _)
  have nq10 : IsTw p w4 (v4.heap.size) := by rw [hw4]; exact (IsTw.set (p := ([], [])) (r := p) t4)
  rw [← hw4]
  replace Jq3 := Lib.hid (heap_oldP Jq3.out k4)
  replace Jq4 := Lib.hid (heap_oldP Jq4.out k4)
  replace HSA := Lib.hid (HSA.out.old k4)
  replace HSB := Lib.hid (HSB.out.old k4)
  replace HBW := Lib.hid (below_step HBW.out (Nat.le_refl _) k4)
  obtain ⟨q10, hq10⟩ : ∃ q, q = v4.heap.size := ⟨_, rfl⟩
  rw [← hq10] at nq10 ⊢
  have Jq10 := Lib.hid nq10
  clear hw4 k4 c4 c30 c31 t4 nq10 hq10
  have c30 : w4.cell? ⟨q3, 0, none⟩ = some (.int .i64 m) := cell_of Jq3.out 0
  have c31 : w4.cell? ⟨q3, 1, none⟩ = some (.int .i64 n) := cell_of Jq3.out 1
  go_upto_region 8 with (first
    | refine wpList_load_mid rfl 24 (.tmp 47) rfl q4 0 rfl (x0.map u8V) _ (sc_rangeAt Jq4.out HXo.out 0 x0 rfl) Tryd.underlying24 rfl (sum_info' HX0l.out) ?_
    | refine wpList_load_mid rfl 24 (.tmp 49) rfl q4 32 rfl (x1.map u8V) _ (sc_rangeAt Jq4.out HXo.out 1 x1 rfl) Tryd.underlying24 rfl (sum_info' HX1l.out) ?_
    | (go_at_call 12; (refine (HL2.out _ _ _ HBW.out HSA.out HSB.out).mono ?_); rintro e v5 ⟨rfl, c5⟩; have t5 := heap_alloc_last v5 (.cells #[tV [], tV []] 32))
    | refine wpList_store_tw rfl (.tmp 12) (.tmp 54) rfl v5.heap.size p ([], []) rfl rfl t5 ?_)
  change Code.wp _ _ _ _ ((v5.alloc (.cells #[tV [], tV []] 32)).setCells v5.heap.size 0 [tV p.1, tV p.2])
  obtain ⟨w5, hw5⟩ : ∃ u, u = ((v5.alloc (.cells #[tV [], tV []] 32)).setCells v5.heap.size 0 [tV p.1, tV p.2]) := ⟨_, rfl⟩
  have k5 : Below w4.heap.size w4 w5 := by rw [hw5]; exact below_setCells c5.size _ _ _ ((c5).alloc (Nat.le_trans c5.size (by simp)) _)
  have nq12 : IsTw p w5 (v5.heap.size) := by rw [hw5]; exact (IsTw.set (p := ([], [])) (r := p) t5)
  rw [← hw5]
  replace Jq3 := Lib.hid (heap_oldP Jq3.out k5)
  replace Jq4 := Lib.hid (heap_oldP Jq4.out k5)
  replace Jq10 := Lib.hid (Jq10.out.old k5)
  replace HSA := Lib.hid (HSA.out.old k5)
  replace HSB := Lib.hid (HSB.out.old k5)
  replace HBW := Lib.hid (below_step HBW.out (Nat.le_refl _) k5)
  obtain ⟨q12, hq12⟩ : ∃ q, q = v5.heap.size := ⟨_, rfl⟩
  rw [← hq12] at nq12 ⊢
  have Jq12 := Lib.hid nq12
  clear hw5 k5 c5 c30 c31 t5 nq12 hq12
  have c30 : w5.cell? ⟨q3, 0, none⟩ = some (.int .i64 m) := cell_of Jq3.out 0
  have c31 : w5.cell? ⟨q3, 1, none⟩ = some (.int .i64 n) := cell_of Jq3.out 1
  go_upto_region 9 with (first
    | refine wpList_load_mid rfl 24 (.tmp 61) rfl q4 0 rfl (x0.map u8V) _ (sc_rangeAt Jq4.out HXo.out 0 x0 rfl) Tryd.underlying24 rfl (sum_info' HX0l.out) ?_
    | refine wpList_load_mid rfl 24 (.tmp 63) rfl q4 32 rfl (x1.map u8V) _ (sc_rangeAt Jq4.out HXo.out 1 x1 rfl) Tryd.underlying24 rfl (sum_info' HX1l.out) ?_
    | (go_at_call 13; (refine (HT1.out _ _ _ HBW.out HSA.out HSB.out).mono ?_); rintro e v6 ⟨rfl, c6⟩; have t6 := heap_alloc_last v6 (.cells #[tV [], tV []] 32))
    | refine wpList_store_tw rfl (.tmp 14) (.tmp 68) rfl v6.heap.size r ([], []) rfl rfl t6 ?_)
  change Code.wp _ _ _ _ ((v6.alloc (.cells #[tV [], tV []] 32)).setCells v6.heap.size 0 [tV r.1, tV r.2])
  obtain ⟨w6, hw6⟩ : ∃ u, u = ((v6.alloc (.cells #[tV [], tV []] 32)).setCells v6.heap.size 0 [tV r.1, tV r.2]) := ⟨_, rfl⟩
  have k6 : Below w5.heap.size w5 w6 := by rw [hw6]; exact below_setCells c6.size _ _ _ ((c6).alloc (Nat.le_trans c6.size (by simp)) _)
  have nq14 : IsTw r w6 (v6.heap.size) := by rw [hw6]; exact (IsTw.set (p := ([], [])) (r := r) t6)
  rw [← hw6]
  replace Jq3 := Lib.hid (heap_oldP Jq3.out k6)
  replace Jq4 := Lib.hid (heap_oldP Jq4.out k6)
  replace Jq10 := Lib.hid (Jq10.out.old k6)
  replace Jq12 := Lib.hid (Jq12.out.old k6)
  replace HSA := Lib.hid (HSA.out.old k6)
  replace HSB := Lib.hid (HSB.out.old k6)
  replace HBW := Lib.hid (below_step HBW.out (Nat.le_refl _) k6)
  obtain ⟨q14, hq14⟩ : ∃ q, q = v6.heap.size := ⟨_, rfl⟩
  rw [← hq14] at nq14 ⊢
  have Jq14 := Lib.hid nq14
  clear hw6 k6 c6 c30 c31 t6 nq14 hq14
  have c30 : w6.cell? ⟨q3, 0, none⟩ = some (.int .i64 m) := cell_of Jq3.out 0
  have c31 : w6.cell? ⟨q3, 1, none⟩ = some (.int .i64 n) := cell_of Jq3.out 1
  go_upto_region 10 with (first
    | refine wpList_load_mid rfl 24 (.tmp 75) rfl q4 0 rfl (x0.map u8V) _ (sc_rangeAt Jq4.out HXo.out 0 x0 rfl) Tryd.underlying24 rfl (sum_info' HX0l.out) ?_
    | refine wpList_load_mid rfl 24 (.tmp 77) rfl q4 32 rfl (x1.map u8V) _ (sc_rangeAt Jq4.out HXo.out 1 x1 rfl) Tryd.underlying24 rfl (sum_info' HX1l.out) ?_
    | (go_at_call 14; (refine (HT2.out _ _ _ HBW.out HSA.out HSB.out).mono ?_); rintro e v7 ⟨rfl, c7⟩; have t7 := heap_alloc_last v7 (.cells #[tV [], tV []] 32))
    | refine wpList_store_tw rfl (.tmp 16) (.tmp 82) rfl v7.heap.size r ([], []) rfl rfl t7 ?_)
  change Code.wp _ _ _ _ ((v7.alloc (.cells #[tV [], tV []] 32)).setCells v7.heap.size 0 [tV r.1, tV r.2])
  obtain ⟨w7, hw7⟩ : ∃ u, u = ((v7.alloc (.cells #[tV [], tV []] 32)).setCells v7.heap.size 0 [tV r.1, tV r.2]) := ⟨_, rfl⟩
  have k7 : Below w6.heap.size w6 w7 := by rw [hw7]; exact below_setCells c7.size _ _ _ ((c7).alloc (Nat.le_trans c7.size (by simp)) _)
  have nq16 : IsTw r w7 (v7.heap.size) := by rw [hw7]; exact (IsTw.set (p := ([], [])) (r := r) t7)
  rw [← hw7]
  replace Jq3 := Lib.hid (heap_oldP Jq3.out k7)
  replace Jq4 := Lib.hid (heap_oldP Jq4.out k7)
  replace Jq10 := Lib.hid (Jq10.out.old k7)
  replace Jq12 := Lib.hid (Jq12.out.old k7)
  replace Jq14 := Lib.hid (Jq14.out.old k7)
  replace HSA := Lib.hid (HSA.out.old k7)
  replace HSB := Lib.hid (HSB.out.old k7)
  replace HBW := Lib.hid (below_step HBW.out (Nat.le_refl _) k7)
  obtain ⟨q16, hq16⟩ : ∃ q, q = v7.heap.size := ⟨_, rfl⟩
  rw [← hq16] at nq16 ⊢
  have Jq16 := Lib.hid nq16
  clear hw7 k7 c7 c30 c31 t7 nq16 hq16
  obtain ⟨W, hW⟩ : ∃ W, W = w7 := ⟨_, rfl⟩
  subst hW
  try simp only [Act.put]
  refine wp_region_tab0 [RT.is (.bool true), RT.is (.bool true), RT.is (twV p), RT.is (twV p), RT.is (.bool true), RT.is (.bool true), RT.is (.bool true), RT.is (.bool s), RT.is (.bool s), RT.is (.bool true), RT.is (.bool true), RT.is (.bool true), RT.is (twV r), RT.is (twV r), RT.is (.bool true), RT.is (.bool true), RT.is (.bool true), RT.is (.bool t), RT.is (.bool t), RT.is (.bool true), RT.is (.bool true), RT.is (.bool true)] (by kernel_rfl) (by kernel_rfl) (by kernel_rfl) ⟨?_, ?_, ?_, ?_, ?_, ?_, ?_, ?_, ?_, ?_, ?_, ?_, ?_, ?_, ?_, ?_, ?_, ?_, ?_, ?_, ?_, ?_, trivial⟩ ?_
  · intro ac w' hF hL hP hU K hK
    have hB : Below _ _ _ := hL
    have e7 : ac.eval (.tmp 7) = .bool true := hF.at 7 (by kernel_rfl)
    exact rop_move _ rfl e7 (wanted_none rfl) (hK _ _ (le8_refl _) rfl)
  · intro ac w' hF hL hP hU K hK
    have hB : Below _ _ _ := hL
    have e84 : ac.eval (.tmp 84) = .bool true := hP 0 (by kernel_rfl)
    exact rop_move _ rfl e84 (wanted_none rfl) (hK _ _ (le8_refl _) rfl)
  · intro ac w' hF hL hP hU K hK
    have hB : Below _ _ _ := hL
    have e10 : ac.eval (.tmp 10) = .pointer (some ⟨q10, 0, none⟩) := hF.at 10 (by kernel_rfl)
    have e85 : ac.eval (.tmp 85) = .bool true := hP 1 (by kernel_rfl)
    exact rop_ld _ _ rfl e10 (load_tw (Jq10.out.old hB)) (wanted_of (j := 1) (b := true) rfl rfl e85) (hK _ _ (le8_refl _) rfl)
  · intro ac w' hF hL hP hU K hK
    have hB : Below _ _ _ := hL
    have e12 : ac.eval (.tmp 12) = .pointer (some ⟨q12, 0, none⟩) := hF.at 12 (by kernel_rfl)
    have e85 : ac.eval (.tmp 85) = .bool true := hP 1 (by kernel_rfl)
    exact rop_ld _ _ rfl e12 (load_tw (Jq12.out.old hB)) (wanted_of (j := 1) (b := true) rfl rfl e85) (hK _ _ (le8_refl _) rfl)
  · intro ac w' hF hL hP hU K hK
    have hB : Below _ _ _ := hL
    have e86 : ac.eval (.tmp 86) = twV p := hP 2 (by kernel_rfl)
    have e87 : ac.eval (.tmp 87) = twV p := hP 3 (by kernel_rfl)
    have e85 : ac.eval (.tmp 85) = .bool true := hP 1 (by kernel_rfl)
    exact rop_bin _ _ _ _ _ rfl e86 e87 (guard_tw _ _ _ _ _ w') (eql_tw_t p w') (wanted_of (j := 1) (b := true) rfl rfl e85) (hK _ _ (le8_refl _) rfl)
  · intro ac w' hF hL hP hU K hK
    have hB : Below _ _ _ := hL
    have e85 : ac.eval (.tmp 85) = .bool true := hP 1 (by kernel_rfl)
    have e88 : ac.eval (.tmp 88) = .bool true := hP 4 (by kernel_rfl)
    exact rop_pick _ _ _ rfl true e85 (by simpa using e88) (wanted_none rfl) (hK _ _ (le8_refl _) rfl)
  · intro ac w' hF hL hP hU K hK
    have hB : Below _ _ _ := hL
    have e89 : ac.eval (.tmp 89) = .bool true := hP 5 (by kernel_rfl)
    exact rop_move _ rfl e89 (wanted_none rfl) (hK _ _ (le8_refl _) rfl)
  · intro ac w' hF hL hP hU K hK
    have hB : Below _ _ _ := hL
    have e11 : ac.eval (.tmp 11) = .bool s := hF.at 11 (by kernel_rfl)
    have e90 : ac.eval (.tmp 90) = .bool true := hP 6 (by kernel_rfl)
    exact rop_move _ rfl e11 (wanted_of (j := 6) (b := true) rfl rfl e90) (hK _ _ (le8_refl _) rfl)
  · intro ac w' hF hL hP hU K hK
    have hB : Below _ _ _ := hL
    have e13 : ac.eval (.tmp 13) = .bool s := hF.at 13 (by kernel_rfl)
    have e90 : ac.eval (.tmp 90) = .bool true := hP 6 (by kernel_rfl)
    exact rop_move _ rfl e13 (wanted_of (j := 6) (b := true) rfl rfl e90) (hK _ _ (le8_refl _) rfl)
  · intro ac w' hF hL hP hU K hK
    have hB : Below _ _ _ := hL
    have e91 : ac.eval (.tmp 91) = .bool s := hP 7 (by kernel_rfl)
    have e92 : ac.eval (.tmp 92) = .bool s := hP 8 (by kernel_rfl)
    have e90 : ac.eval (.tmp 90) = .bool true := hP 6 (by kernel_rfl)
    exact rop_bin _ _ _ _ _ rfl e91 e92 (guard_bool _ _ _ _ _ _ w') (eql_bool_sameP s w') (wanted_of (j := 6) (b := true) rfl rfl e90) (hK _ _ (le8_refl _) rfl)
  · intro ac w' hF hL hP hU K hK
    have hB : Below _ _ _ := hL
    have e90 : ac.eval (.tmp 90) = .bool true := hP 6 (by kernel_rfl)
    have e93 : ac.eval (.tmp 93) = .bool true := hP 9 (by kernel_rfl)
    exact rop_pick _ _ _ rfl true e90 (by simpa using e93) (wanted_none rfl) (hK _ _ (le8_refl _) rfl)
  · intro ac w' hF hL hP hU K hK
    have hB : Below _ _ _ := hL
    have e94 : ac.eval (.tmp 94) = .bool true := hP 10 (by kernel_rfl)
    exact rop_move _ rfl e94 (wanted_none rfl) (hK _ _ (le8_refl _) rfl)
  · intro ac w' hF hL hP hU K hK
    have hB : Below _ _ _ := hL
    have e14 : ac.eval (.tmp 14) = .pointer (some ⟨q14, 0, none⟩) := hF.at 14 (by kernel_rfl)
    have e95 : ac.eval (.tmp 95) = .bool true := hP 11 (by kernel_rfl)
    exact rop_ld _ _ rfl e14 (load_tw (Jq14.out.old hB)) (wanted_of (j := 11) (b := true) rfl rfl e95) (hK _ _ (le8_refl _) rfl)
  · intro ac w' hF hL hP hU K hK
    have hB : Below _ _ _ := hL
    have e16 : ac.eval (.tmp 16) = .pointer (some ⟨q16, 0, none⟩) := hF.at 16 (by kernel_rfl)
    have e95 : ac.eval (.tmp 95) = .bool true := hP 11 (by kernel_rfl)
    exact rop_ld _ _ rfl e16 (load_tw (Jq16.out.old hB)) (wanted_of (j := 11) (b := true) rfl rfl e95) (hK _ _ (le8_refl _) rfl)
  · intro ac w' hF hL hP hU K hK
    have hB : Below _ _ _ := hL
    have e96 : ac.eval (.tmp 96) = twV r := hP 12 (by kernel_rfl)
    have e97 : ac.eval (.tmp 97) = twV r := hP 13 (by kernel_rfl)
    have e95 : ac.eval (.tmp 95) = .bool true := hP 11 (by kernel_rfl)
    exact rop_bin _ _ _ _ _ rfl e96 e97 (guard_tw _ _ _ _ _ w') (eql_tw_t r w') (wanted_of (j := 11) (b := true) rfl rfl e95) (hK _ _ (le8_refl _) rfl)
  · intro ac w' hF hL hP hU K hK
    have hB : Below _ _ _ := hL
    have e95 : ac.eval (.tmp 95) = .bool true := hP 11 (by kernel_rfl)
    have e98 : ac.eval (.tmp 98) = .bool true := hP 14 (by kernel_rfl)
    exact rop_pick _ _ _ rfl true e95 (by simpa using e98) (wanted_none rfl) (hK _ _ (le8_refl _) rfl)
  · intro ac w' hF hL hP hU K hK
    have hB : Below _ _ _ := hL
    have e99 : ac.eval (.tmp 99) = .bool true := hP 15 (by kernel_rfl)
    exact rop_move _ rfl e99 (wanted_none rfl) (hK _ _ (le8_refl _) rfl)
  · intro ac w' hF hL hP hU K hK
    have hB : Below _ _ _ := hL
    have e15 : ac.eval (.tmp 15) = .bool t := hF.at 15 (by kernel_rfl)
    have e100 : ac.eval (.tmp 100) = .bool true := hP 16 (by kernel_rfl)
    exact rop_move _ rfl e15 (wanted_of (j := 16) (b := true) rfl rfl e100) (hK _ _ (le8_refl _) rfl)
  · intro ac w' hF hL hP hU K hK
    have hB : Below _ _ _ := hL
    have e17 : ac.eval (.tmp 17) = .bool t := hF.at 17 (by kernel_rfl)
    have e100 : ac.eval (.tmp 100) = .bool true := hP 16 (by kernel_rfl)
    exact rop_move _ rfl e17 (wanted_of (j := 16) (b := true) rfl rfl e100) (hK _ _ (le8_refl _) rfl)
  · intro ac w' hF hL hP hU K hK
    have hB : Below _ _ _ := hL
    have e101 : ac.eval (.tmp 101) = .bool t := hP 17 (by kernel_rfl)
    have e102 : ac.eval (.tmp 102) = .bool t := hP 18 (by kernel_rfl)
    have e100 : ac.eval (.tmp 100) = .bool true := hP 16 (by kernel_rfl)
    exact rop_bin _ _ _ _ _ rfl e101 e102 (guard_bool _ _ _ _ _ _ w') (eql_bool_sameP t w') (wanted_of (j := 16) (b := true) rfl rfl e100) (hK _ _ (le8_refl _) rfl)
  · intro ac w' hF hL hP hU K hK
    have hB : Below _ _ _ := hL
    have e100 : ac.eval (.tmp 100) = .bool true := hP 16 (by kernel_rfl)
    have e103 : ac.eval (.tmp 103) = .bool true := hP 19 (by kernel_rfl)
    exact rop_pick _ _ _ rfl true e100 (by simpa using e103) (wanted_none rfl) (hK _ _ (le8_refl _) rfl)
  · intro ac w' hF hL hP hU K hK
    have hB : Below _ _ _ := hL
    have e104 : ac.eval (.tmp 104) = .bool true := hP 20 (by kernel_rfl)
    exact rop_assign _ rfl e104 (wanted_none rfl) (hK _ _ (le8_refl _) rfl)
  · intro ac w' hF hB hT
    have e6 : ac.eval (.tmp 6) = .bool true := hT 21 (by decide)
    rw [hF.setsG [84, 85, 86, 87, 88, 89, 90, 91, 92, 93, 94, 95, 96, 97, 98, 99, 100, 101, 102, 103, 104, 6] (by kernel_rfl)]
    simp only [List.foldl_cons, List.foldl_nil, List.setIfInBounds_toArray, List.set_cons_succ, List.set_cons_zero, e6]
    generalize ac.eval (.tmp 84) = u84
    generalize ac.eval (.tmp 85) = u85
    generalize ac.eval (.tmp 86) = u86
    generalize ac.eval (.tmp 87) = u87
    generalize ac.eval (.tmp 88) = u88
    generalize ac.eval (.tmp 89) = u89
    generalize ac.eval (.tmp 90) = u90
    generalize ac.eval (.tmp 91) = u91
    generalize ac.eval (.tmp 92) = u92
    generalize ac.eval (.tmp 93) = u93
    generalize ac.eval (.tmp 94) = u94
    generalize ac.eval (.tmp 95) = u95
    generalize ac.eval (.tmp 96) = u96
    generalize ac.eval (.tmp 97) = u97
    generalize ac.eval (.tmp 98) = u98
    generalize ac.eval (.tmp 99) = u99
    generalize ac.eval (.tmp 100) = u100
    generalize ac.eval (.tmp 101) = u101
    generalize ac.eval (.tmp 102) = u102
    generalize ac.eval (.tmp 103) = u103
    generalize ac.eval (.tmp 104) = u104
    clear e6 hT hF ac
    have HF := Lib.hid (below_step HBW.out (Nat.le_refl _) hB)
    clear hB
    go_wp2
    go_ret
    exact ⟨rfl, HF.out⟩

set_option maxRecDepth 100000 in
theorem lifted (os : Os) (started : os.Started) (H : Type) (enc : TypeId × Value → H) :
    ReturnsInHanded {} Tryd.checked os 3 .any (fun w args => (Rows.twinTellsSpec.pre enc Tryd.prog Tryd.f3 [] false w args ∧ laidMetH Tryd.prog [("scrinium/sha.k", Rows.laid_scrinium_sha_k)] w) ∧ sizedMet enc Tryd.prog Tryd.f3 (OpenSpec.ofChange Rows.twinTellsSpec) false w args)
      (Rows.twinTellsSpec.post enc Tryd.prog Tryd.f3 false true false false) := by
  refine returnsInHanded_of_change_and (C := Tryd.checked) (X := fun w _ => laidMetH Tryd.prog [("scrinium/sha.k", Rows.laid_scrinium_sha_k)] w) (fun _ _ _ hh h => h.of_heap hh) lawOwn started (by kernel_rfl) Tryd.func3
    (ChangeSpec.witness_shaped (enc := enc) (C := Tryd.checked) (os := os) (X := fun w _ => laidMetH Tryd.prog [("scrinium/sha.k", Rows.laid_scrinium_sha_k)] w) false (World.doorLaid Tryd.prog 400 os) #[.agg #[.int .i64 0, .int .i64 0], .agg (sc [List.replicate 32 0, List.replicate 32 0]).toArray, .agg #[.slice none 0 0, .slice none 0 0, .bool false]] 8 rfl (World.shaped_of_RefB (by kernel_rfl) (by kernel_rfl)) (by kernel_rfl) (by kernel_rfl) (by kernel_rfl) (door_met os _)) ?_
  intro W base args ds gs before hval0 hW _ _ hL _
  have hval : ∀ (j : Nat) t v, Tryd.f3.params[j]? = some t → args[j]? = some v → Value.okWide Tryd.prog W .any base t v := hval0
  have hW' := hW
  obtain ⟨p, q, hA0, hV, rfl, hfz, hnd⟩ := hW
  have hA : DataW.TrodAll enc Tryd.prog W 0 (fun _ => true) true Tryd.f3.params.toList args.toList ds p := hA0
  rw [Tryd.params3] at hA hval
  obtain ⟨v0, vs0, d0, ds0, p0, q0, hargs, rfl, rfl, h0, r0⟩ := trodAll_cons hA
  obtain ⟨v1, vs1, d1, ds1, p1, q1, rfl, rfl, rfl, h1, r1⟩ := trodAll_cons r0
  obtain ⟨v2, vs2, d2, ds2, p2, q2, rfl, rfl, rfl, h2, r2⟩ := trodAll_cons r1
  obtain ⟨rfl, rfl, rfl⟩ := trodAll_nil r2
  obtain rfl : args = #[v0, v1, v2] := by cases args; simp_all
  obtain ⟨rfl, rfl⟩ := trodVars_none hV
  have hKT := KT_of_laid hL
  obtain ⟨z0, y0, rfl, w0, w0b⟩ := ints2_argP (hval 0 22 v0 rfl rfl) h0
  obtain ⟨l1, rfl, w1, u1⟩ := open_sumsN Tryd.underlying25 (by kernel_rfl) (hval 1 25 v1 rfl rfl) h1
  obtain ⟨x1a, x1b, rfl⟩ := len2P w1
  obtain ⟨ra2, rb2, la2, lb2, o2, rfl, w2, u2⟩ := open_rows13 (hval 2 28 v2 rfl rfl) h2
  clear hA0 hval0
  refine (walk (w := W) hKT z0 y0 w0 w0b x1a x1b (u1 x1a (by simp)) (u1 x1b (by simp)) ra2 la2 w2 rb2 lb2 u2 o2).mono fun e W' ⟨he, bel⟩ => ?_
  subst he
  exact ⟨_, rfl, law_post rfl rfl (by kernel_rfl) hW' rfl bel⟩

theorem row_holds : Rows.TwinTellsSaid :=
  OpenClaim.holds_of_wide 3 Tryd.f3 rfl rfl rfl rfl rfl rfl rfl ⟨rfl, rfl, rfl, rfl, rfl⟩ rfl rfl rfl rfl rfl (by kernel_rfl) Tryd.func3 (by kernel_rfl)
    (of_decide_eq_true (by kernel_rfl)) (by unfold Func.isWrapper; first | (rw [if_pos (by decide +kernel)]; kernel_rfl) | (rw [if_neg (by decide +kernel)]; exact ⟨rfl, rfl⟩))
    (fun os started H enc _ => lifted os started H enc)

theorem holds : Rows.TwinTellsCardSaid :=
  Claim7.holds_tied_plain_at .later [] [.data] true Rows.twinTellsCard.stood.harness false
    row_holds (fun _ h => by cases h) (by kernel_rfl) (fun _ h => by cases h) twinTells_row_tie rfl ⟨rfl, rfl⟩ (by kernel_rfl) rfl
    (fun f fn hf hfn => by
      obtain rfl : f = 3 := Option.some.inj ((show Tryd.prog.funcNamed "scrinium/scriniumlaw13.TwinTells" = some 3 by kernel_rfl).symm.trans hf) |>.symm
      obtain rfl : fn = Tryd.f3 := (Option.some.inj (Tryd.func3.symm.trans hfn)).symm
      exact ⟨by kernel_rfl, fun j t ht => by
        rw [Tryd.params3] at ht
        have hm : t ∈ [22, 25, 28] := by simpa using Array.mem_of_getElem? ht
        have hall : ([22, 25, 28].all fun u => !Tryd.prog.wantsStandIn u) = true := by kernel_rfl
        exact (show Tryd.prog.wantsStandIn t = false by simpa using List.all_eq_true.1 hall t hm)⟩)
    (by kernel_rfl)
end Go.Proofs.YtdcebdleneieeaaDoor.twinTells

theorem Go.Proofs.YtdcebdleneieeaaDoor.twinTells_holds : Go.Proofs.YtdcebdleneieeaaDoor.Rows.TwinTellsCardSaid := Go.Proofs.YtdcebdleneieeaaDoor.twinTells.holds
#print axioms Go.Proofs.YtdcebdleneieeaaDoor.twinTells_holds
