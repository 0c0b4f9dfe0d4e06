/-
  The statements' own helpers awake and few (scriniumlaw10); what laws of paths want besides.
-/
import Derived.Test.YtagocdcclghdaaaDoorRPath
import Derived.Test.YtagocdcclghdaaaDoorRLevels
import Derived.Test.YtagocdcclghdaaaDoorLeafLaw
namespace Go.Proofs.YtagocdcclghdaaaDoor
open Go.RowKit

/-- A new variable that is a hash, as it is stored to. -/
theorem var_sum (w : World) (x : List UInt8) (h : x.length = 32) : ((w.alloc zSum).setCells w.heap.size 0 (x.map u8V)).heap[w.heap.size]? = some (.cells (x.map u8V).toArray 35 (0, 0)) ∧ Below w.heap.size w ((w.alloc zSum).setCells w.heap.size 0 (x.map u8V)) :=
  ⟨heap_setCells_all w _ _ (by simp [h]), below_setCells (Nat.le_refl _) _ _ _ ((Below.refl _ _).alloc (Nat.le_refl _) _)⟩
theorem range_var {w : World} {q : Nat} {x : List UInt8} (h : w.heap[q]? = some (.cells (x.map u8V).toArray 35 (0, 0))) : w.rangeAt q 0 (x.map u8V) := fun j v hv => by
  rw [Nat.zero_add, cell_of h]; simpa using hv
theorem split3 : Tree.split 3 = 2 := by decide
theorem split2 : Tree.split 2 = 1 := by decide
theorem root2 (A B : List UInt8) : Tree.root [A, B] = Tree.node A B := by
  rw [Tree.root_go _ (by simp)]
  rfl
theorem path3_2 (A B C : List UInt8) : Tree.path [A, B, C] 2 = [Tree.node A B] := by
  rw [Tree.path_right (l := [A, B, C]) (by simp) (by rw [show [A, B, C].length = 3 from rfl, split3]; omega), show [A, B, C].length = 3 from rfl, split3, Tree.path_small (by simp)]
  simp [root2]
theorem path3_0 (A B C : List UInt8) : Tree.path [A, B, C] 0 = [B, C] := by
  rw [Tree.path_left (l := [A, B, C]) (by simp) (by rw [show [A, B, C].length = 3 from rfl, split3]; omega), show [A, B, C].length = 3 from rfl, split3, show [A, B, C].take 2 = [A, B] from rfl,
    Tree.path_left (l := [A, B]) (by simp) (by rw [show [A, B].length = 2 from rfl, split2]; omega), show [A, B].length = 2 from rfl, split2, Tree.path_small (by simp)]
  rfl
theorem links3_2 (A B C : List UInt8) : Tree.links [A, B, C] 2 true = [C] := by
  rw [Tree.links_left (l := [A, B, C]) (by omega) (by simp) (by rw [show [A, B, C].length = 3 from rfl, split3]; omega), show [A, B, C].length = 3 from rfl, split3, show [A, B, C].take 2 = [A, B] from rfl,
    show (2 : Nat) = [A, B].length from rfl, Tree.links_end (by simp)]
  rfl
theorem links3_3 (A B C : List UInt8) : Tree.links [A, B, C] 3 true = [] := by
  have := Tree.links_end (l := [A, B, C]) (b := true) (by simp)
  exact this
set_option maxHeartbeats 4000000 in
set_option maxRecDepth 100000 in
theorem awake10_any (w : World) (hK : KT w) : Calls Tryd.prog 9 #[] w fun e w' => e = .returned (.bool true) ∧ Below w.heap.size w w' := by
  obtain ⟨A, hA⟩ : ∃ A, A = Tree.leafH [97] := ⟨_, rfl⟩
  obtain ⟨B, hBB⟩ : ∃ B, B = Tree.leafH [98] := ⟨_, rfl⟩
  obtain ⟨C, hC⟩ : ∃ C, C = Tree.leafH [99] := ⟨_, rfl⟩
  obtain ⟨N, hN⟩ : ∃ N, N = Tree.node A B := ⟨_, rfl⟩
  have HAl : Hid (A.length = 32) := Lib.hid (by rw [hA]; exact Tree.leafH_length _)
  have HBl : Hid (B.length = 32) := Lib.hid (by rw [hBB]; exact Tree.leafH_length _)
  have HCl : Hid (C.length = 32) := Lib.hid (by rw [hC]; exact Tree.leafH_length _)
  have HNl : Hid (N.length = 32) := Lib.hid (by rw [hN]; exact Tree.node_length _ _)
  have H3 : Hid (all32 [A, B, C]) := Lib.hid (by
    intro x hx
    simp at hx
    rcases hx with rfl | rfl | rfl
    · exact HAl.out
    · exact HBl.out
    · exact HCl.out)
  have HA : Hid (∀ u, Calls Tryd.prog 25 #[.string ⟨#[97]⟩] u fun e w' => e = .returned (sumV A) ∧ Below u.heap.size u w') := Lib.hid fun u => by rw [hA]; exact rleafLeaf_any ⟨#[97]⟩ [97] rfl u (by decide)
  have HB : Hid (∀ u, Calls Tryd.prog 25 #[.string ⟨#[98]⟩] u fun e w' => e = .returned (sumV B) ∧ Below u.heap.size u w') := Lib.hid fun u => by rw [hBB]; exact rleafLeaf_any ⟨#[98]⟩ [98] rfl u (by decide)
  have HC : Hid (∀ u, Calls Tryd.prog 25 #[.string ⟨#[99]⟩] u fun e w' => e = .returned (sumV C) ∧ Below u.heap.size u w') := Lib.hid fun u => by rw [hC]; exact rleafLeaf_any ⟨#[99]⟩ [99] rfl u (by decide)
  have HND : Hid (∀ u, Calls Tryd.prog 22 #[sumV A, sumV B] u fun e w' => e = .returned (sumV N) ∧ Below u.heap.size u w') := Lib.hid fun u => by rw [hN]; exact rleafNode_any A B HAl.out HBl.out u
  have z2 : pathZ [A, B, C] 2 = ([N], true) := (pathZ_t [A, B, C] 2 (by simp)).trans (by rw [path3_2, hN])
  have z0 : pathZ [A, B, C] 0 = ([B, C], true) := (pathZ_t [A, B, C] 0 (by simp)).trans (by rw [path3_0])
  have l2 : linksZ [A, B, C] 2 = ([C], true) := (linksZ_t [A, B, C] 2 (by decide) (by simp)).trans (by rw [links3_2])
  have l3 : linksZ [A, B, C] 3 = ([], true) := (linksZ_t [A, B, C] 3 (by decide) (by simp)).trans (by rw [links3_3])
  have Q2 : Hid (∀ v u, KT u → Sums u v [A, B, C] → Calls Tryd.prog 11 #[v, .int .i64 2] u fun e w' => ∃ b o c, e = .returned (.tuple #[.slice (some ⟨b, o, none⟩) 1 c, .bool true]) ∧ b < w'.heap.size ∧ w'.rangeAt b (o + 0 * 32) (N.map u8V) ∧ Below u.heap.size u w') := Lib.hid fun v u hk hv => by
    have := path_any v [A, B, C] 2 u hv (by simp) hk
    rw [z2] at this
    refine this.mono ?_
    rintro e w' ⟨v', rfl, ho, hb⟩
    obtain ⟨a, c, rfl, -, -⟩ := ho.sums.slice
    obtain ⟨b, o, rfl, h1, -, h2⟩ := ho.sums.at 0 (by simp)
    exact ⟨b, o, c, rfl, h1, h2, hb⟩
  have Q0 : Hid (∀ v u, KT u → Sums u v [A, B, C] → Calls Tryd.prog 11 #[v, .int .i64 0] u fun e w' => ∃ b o c, e = .returned (.tuple #[.slice (some ⟨b, o, none⟩) 2 c, .bool true]) ∧ b < w'.heap.size ∧ w'.rangeAt b (o + 0 * 32) (B.map u8V) ∧ w'.rangeAt b (o + 1 * 32) (C.map u8V) ∧ Below u.heap.size u w') := Lib.hid fun v u hk hv => by
    have := path_any v [A, B, C] 0 u hv (by simp) hk
    rw [z0] at this
    refine this.mono ?_
    rintro e w' ⟨v', rfl, ho, hb⟩
    obtain ⟨a, c, rfl, -, -⟩ := ho.sums.slice
    obtain ⟨b, o, rfl, h1, -, h2⟩ := ho.sums.at 0 (by simp)
    obtain ⟨b', o', he, -, -, h3⟩ := ho.sums.at 1 (by simp)
    injection he with he
    injection he with e1 e2 _
    subst e1 e2
    exact ⟨b, o, c, rfl, h1, h2, h3, hb⟩
  have Y2 : Hid (∀ v u, KT u → Sums u v [A, B, C] → Calls Tryd.prog 13 #[v, .int .i64 2] u fun e w' => ∃ b o c, e = .returned (.tuple #[.slice (some ⟨b, o, none⟩) 1 c, .bool true]) ∧ b < w'.heap.size ∧ w'.rangeAt b (o + 0 * 32) (C.map u8V) ∧ Below u.heap.size u w') := Lib.hid fun v u hk hv => by
    have := links_any v [A, B, C] 2 u hv (by simp) hk
    rw [l2] at this
    refine this.mono ?_
    rintro e w' ⟨v', rfl, ho, hb⟩
    obtain ⟨a, c, rfl, -, -⟩ := ho.sums.slice
    obtain ⟨b, o, rfl, h1, -, h2⟩ := ho.sums.at 0 (by simp)
    exact ⟨b, o, c, rfl, h1, h2, hb⟩
  have Y3 : Hid (∀ v u, KT u → Sums u v [A, B, C] → Calls Tryd.prog 13 #[v, .int .i64 3] u fun e w' => ∃ a c, e = .returned (.tuple #[.slice a 0 c, .bool true]) ∧ Below u.heap.size u w') := Lib.hid fun v u hk hv => by
    have := links_any v [A, B, C] 3 u hv (by simp) hk
    rw [l3] at this
    refine this.mono ?_
    rintro e w' ⟨v', rfl, ho, hb⟩
    obtain ⟨a, c, rfl, -, -⟩ := ho.sums.slice
    exact ⟨a, c, rfl, hb⟩
  clear hA hBB hC hN z2 z0 l2 l3
  have b0 : Below w.heap.size w w := Below.refl _ _
  have HKW := Lib.hid hK
  clear hK
  go_enter Tryd.func9, Tryd.ntmps9
  go_upto_region 2 with (first
    | (go_at_call 25; ((with_reducible refine (HA.out _).mono ?_); rintro e v0 ⟨rfl, c0⟩; obtain ⟨z0, y0⟩ := var_sum v0 A HAl.out; have t0 := heap_alloc_last v0 zSum))
    | refine wpList_store_mid rfl 35 (.tmp 1) (.tmp 13) rfl v0.heap.size 0 (A.map u8V).toArray rfl rfl (sum_there t0 HAl.out) (sum_info HAl.out) (sum_one A) ?_)
  change Code.wp _ _ _ _ ((v0.alloc zSum).setCells v0.heap.size 0 (A.map u8V))
  have b1 := (below_step b0 (Nat.le_refl _) c0).trans (y0.mono (below_step b0 (Nat.le_refl _) c0).size)
  obtain ⟨qa, hqa⟩ : ∃ q, q = v0.heap.size := ⟨_, rfl⟩
  obtain ⟨w1, hw1⟩ : ∃ u, u = (v0.alloc zSum).setCells v0.heap.size 0 (A.map u8V) := ⟨_, rfl⟩
  rw [← hw1] at z0 b1 ⊢
  rw [← hqa] at z0 ⊢
  have hlqa : qa < w1.heap.size := (Array.getElem?_eq_some_iff.1 z0).1
  have k0 : Below v0.heap.size v0 w1 := by rw [hw1]; exact y0
  clear hw1 hqa t0 y0
  go_upto_region 3 with (first
    | (go_at_call 25; ((with_reducible refine (HB.out _).mono ?_); rintro e v1 ⟨rfl, c1⟩; obtain ⟨z1, y1⟩ := var_sum v1 B HBl.out; have t1 := heap_alloc_last v1 zSum))
    | refine wpList_store_mid rfl 35 (.tmp 2) (.tmp 14) rfl v1.heap.size 0 (B.map u8V).toArray rfl rfl (sum_there t1 HBl.out) (sum_info HBl.out) (sum_one B) ?_)
  change Code.wp _ _ _ _ ((v1.alloc zSum).setCells v1.heap.size 0 (B.map u8V))
  have b2 := (below_step b1 (Nat.le_refl _) c1).trans (y1.mono (below_step b1 (Nat.le_refl _) c1).size)
  obtain ⟨qb, hqb⟩ : ∃ q, q = v1.heap.size := ⟨_, rfl⟩
  obtain ⟨w2, hw2⟩ : ∃ u, u = (v1.alloc zSum).setCells v1.heap.size 0 (B.map u8V) := ⟨_, rfl⟩
  rw [← hw2] at z1 b2 ⊢
  rw [← hqb] at z1 ⊢
  have hlqb : qb < w2.heap.size := (Array.getElem?_eq_some_iff.1 z1).1
  have k1 : Below v1.heap.size v1 w2 := by rw [hw2]; exact y1
  clear hw2 hqb t1 y1
  go_upto_region 4 with (first
    | (go_at_call 25; ((with_reducible refine (HC.out _).mono ?_); rintro e v2 ⟨rfl, c2⟩; obtain ⟨z2, y2⟩ := var_sum v2 C HCl.out; have t2 := heap_alloc_last v2 zSum))
    | refine wpList_store_mid rfl 35 (.tmp 3) (.tmp 15) rfl v2.heap.size 0 (C.map u8V).toArray rfl rfl (sum_there t2 HCl.out) (sum_info HCl.out) (sum_one C) ?_)
  change Code.wp _ _ _ _ ((v2.alloc zSum).setCells v2.heap.size 0 (C.map u8V))
  have b3 := (below_step b2 (Nat.le_refl _) c2).trans (y2.mono (below_step b2 (Nat.le_refl _) c2).size)
  obtain ⟨qc, hqc⟩ : ∃ q, q = v2.heap.size := ⟨_, rfl⟩
  obtain ⟨w3, hw3⟩ : ∃ u, u = (v2.alloc zSum).setCells v2.heap.size 0 (C.map u8V) := ⟨_, rfl⟩
  rw [← hw3] at z2 b3 ⊢
  rw [← hqc] at z2 ⊢
  have hlqc : qc < w3.heap.size := (Array.getElem?_eq_some_iff.1 z2).1
  have k2 : Below v2.heap.size v2 w3 := by rw [hw3]; exact y2
  clear hw3 hqc t2 y2
  have z01 := (k1.block qa (by have := c1.size; omega)).trans ((c1.block qa hlqa).trans z0)
  have z02 := (k2.block qa (by have := c2.size; have := k1.size; have := c1.size; omega)).trans ((c2.block qa (by have := k1.size; have := c1.size; omega)).trans z01)
  have z12 := (k2.block qb (by have := c2.size; omega)).trans ((c2.block qb hlqb).trans z1)
  have hra := range_var z02
  have hrb := range_var z12
  have hrc := range_var z2
  have hqa : qa < w3.heap.size := (Array.getElem?_eq_some_iff.1 z02).1
  have hqb : qb < w3.heap.size := (Array.getElem?_eq_some_iff.1 z12).1
  have hqc := hlqc
  clear z0 z1 z2 z01 z02 z12 k0 k1 k2 c0 c1 c2 b0 b1 b2 hlqa hlqb hlqc
  try simp only [Act.put]
  refine wp_region_tab0 [RT.is (sumV A), RT.is (sumV B), RT.is (sumV C), RT.sums [A, B, C], RT.sums [A, B, C]] (by kernel_rfl) (by kernel_rfl) (by kernel_rfl) ⟨?_, ?_, ?_, ?_, ?_, trivial⟩ ?_
  · intro ac w' hF hL hP hU K hK
    have hB : Below _ _ _ := hL
    have e1 : ac.eval (.tmp 1) = .pointer (some ⟨qa, 0, none⟩) := hF.at 1 (by kernel_rfl)
    exact rop_ld _ _ rfl e1 (run_loadAt_mid _ _ _ _ _ _ (below_range hB hqa hra) Tryd.underlying35 rfl (sum_info' HAl.out)) (wanted_none rfl) (hK _ _ (le8_refl _) rfl)
  · intro ac w' hF hL hP hU K hK
    have hB : Below _ _ _ := hL
    have e2 : ac.eval (.tmp 2) = .pointer (some ⟨qb, 0, none⟩) := hF.at 2 (by kernel_rfl)
    exact rop_ld _ _ rfl e2 (run_loadAt_mid _ _ _ _ _ _ (below_range hB hqb hrb) Tryd.underlying35 rfl (sum_info' HBl.out)) (wanted_none rfl) (hK _ _ (le8_refl _) rfl)
  · intro ac w' hF hL hP hU K hK
    have hB : Below _ _ _ := hL
    have e3 : ac.eval (.tmp 3) = .pointer (some ⟨qc, 0, none⟩) := hF.at 3 (by kernel_rfl)
    exact rop_ld _ _ rfl e3 (run_loadAt_mid _ _ _ _ _ _ (below_range hB hqc hrc) Tryd.underlying35 rfl (sum_info' HCl.out)) (wanted_none rfl) (hK _ _ (le8_refl _) rfl)
  · intro ac w' hF hL hP hU K hK
    have hB : Below _ _ _ := hL
    have e16 : ac.eval (.tmp 16) = sumV A := hP 0 (by kernel_rfl)
    have e17 : ac.eval (.tmp 17) = sumV B := hP 1 (by kernel_rfl)
    have e18 : ac.eval (.tmp 18) = sumV C := hP 2 (by kernel_rfl)
    exact rop_bslG _ _ _ rfl #[(0, sumV A), (1, sumV B), (2, sumV C)] (by simp [e16, e17, e18]) (build_sums 3 [A, B, C] H3.out rfl (by decide) (by decide) w') (wanted_none rfl) (hK _ _ ((Below.refl _ _).alloc (Nat.le_refl _) _) (Sums.build w' [A, B, C] H3.out 3 rfl (by decide)))
  · intro ac w' hF hL hP hU K hK
    have hB : Below _ _ _ := hL
    have e19 : Sums w' (ac.eval (.tmp 19)) [A, B, C] := hP 3 (by kernel_rfl)
    exact rop_assign _ rfl rfl (wanted_none rfl) (hK _ _ (le8_refl _) e19)
  · intro ac w' hF hB hT
    have e4 : Sums w' (ac.eval (.tmp 4)) [A, B, C] := hT 4 (by decide)
    rw [hF.setsG [16, 17, 18, 19, 4] (by kernel_rfl)]
    simp only [List.foldl_cons, List.foldl_nil, List.setIfInBounds_toArray, List.set_cons_succ, List.set_cons_zero]
    generalize ac.eval (.tmp 16) = u16
    generalize ac.eval (.tmp 17) = u17
    generalize ac.eval (.tmp 18) = u18
    generalize ac.eval (.tmp 19) = u19
    generalize ac.eval (.tmp 4) = v4 at e4 ⊢
    clear  hT hF ac
    have b4 := below_step b3 (Nat.le_refl _) hB
    replace hra := below_range hB hqa hra
    replace hrb := below_range hB hqb hrb
    replace hrc := below_range hB hqc hrc
    replace hqa := Nat.lt_of_lt_of_le hqa hB.size
    replace hqb := Nat.lt_of_lt_of_le hqb hB.size
    replace hqc := Nat.lt_of_lt_of_le hqc hB.size
    obtain ⟨x4, hx4⟩ : ∃ x, x = w' := ⟨_, rfl⟩
    subst hx4
    clear hB b3
    have E4 := Lib.hid e4
    clear e4
    have K4 := Lib.hid (HKW.out.old b4)
    go_upto_region 9 with (first
      | (go_at_call 11; ((with_reducible refine (Q2.out _ _ K4.out E4.out).mono ?_); rintro e x5 ⟨b5, o5, c5, rfl, hb5, hr5, d5⟩; have E5 := Lib.hid (E4.out.old d5); have K5 := Lib.hid (K4.out.old d5)))
      | (go_at_call 11; ((with_reducible refine (Q0.out _ _ K5.out E5.out).mono ?_); rintro e x6 ⟨b7, o7, c7, rfl, hb7, hr7, hs7, d6⟩; have E6 := Lib.hid (E5.out.old d6); have K6 := Lib.hid (K5.out.old d6)))
      | (go_at_call 13; ((with_reducible refine (Y2.out _ _ K6.out E6.out).mono ?_); rintro e x7 ⟨b9, o9, c9, rfl, hb9, hr9, d7⟩; have E7 := Lib.hid (E6.out.old d7); have K7 := Lib.hid (K6.out.old d7)))
      | (go_at_call 13; ((with_reducible refine (Y3.out _ _ K7.out E7.out).mono ?_); rintro e x8 ⟨a11, c11, rfl, d8⟩)))
    have d58 : Below x4.heap.size x4 x8 := below_step (below_step (below_step d5 (Nat.le_refl _) d6) (Nat.le_refl _) d7) (Nat.le_refl _) d8
    have d68 : Below x5.heap.size x5 x8 := below_step (below_step d6 (Nat.le_refl _) d7) (Nat.le_refl _) d8
    have d78 : Below x6.heap.size x6 x8 := below_step d7 (Nat.le_refl _) d8
    replace hra := below_range d58 hqa hra
    replace hrb := below_range d58 hqb hrb
    replace hrc := below_range d58 hqc hrc
    replace hqa := Nat.lt_of_lt_of_le hqa d58.size
    replace hqb := Nat.lt_of_lt_of_le hqb d58.size
    replace hqc := Nat.lt_of_lt_of_le hqc d58.size
    replace hr5 := below_range d68 hb5 hr5
    replace hb5 := Nat.lt_of_lt_of_le hb5 d68.size
    replace hr7 := below_range d78 hb7 hr7
    replace hs7 := below_range d78 hb7 hs7
    replace hb7 := Nat.lt_of_lt_of_le hb7 d78.size
    replace hr9 := below_range d8 hb9 hr9
    replace hb9 := Nat.lt_of_lt_of_le hb9 d8.size
    have b8 := below_step b4 (Nat.le_refl _) d58
    clear d5 d6 d7 d8 d58 d68 d78 b4
    try simp only [Act.put]
    refine wp_region_tab [RT.is (.slice (some ⟨b5, o5, none⟩) 1 c5), RT.is (.int .i64 ((1 : Nat) : Int)), RT.is (.bool true), RT.is (.bool true), RT.is (.slice (some ⟨b5, o5, none⟩) 1 c5), RT.is (.pointer (some ⟨b5, o5 + 0 * 32, none⟩)), RT.is (sumV N), RT.is (sumV A), RT.is (sumV B), RT.is (sumV N), RT.is (.bool true), RT.is (.bool true), RT.is (.bool true), RT.is (.bool true), RT.is (.bool true), RT.is (.bool true), RT.is (.slice (some ⟨b7, o7, none⟩) 2 c7), RT.is (.int .i64 ((2 : Nat) : Int)), RT.is (.bool true), RT.is (.bool true), RT.is (.bool true), RT.is (.slice (some ⟨b7, o7, none⟩) 2 c7), RT.is (.pointer (some ⟨b7, o7 + 0 * 32, none⟩)), RT.is (sumV B), RT.is (sumV B), RT.is (.bool true), RT.is (.bool true), RT.is (.bool true), RT.is (.slice (some ⟨b7, o7, none⟩) 2 c7), RT.is (.pointer (some ⟨b7, o7 + 1 * 32, none⟩)), RT.is (sumV C), RT.is (sumV C), RT.is (.bool true), RT.is (.bool true), RT.is (.bool true), RT.is (.bool true), RT.is (.bool true), RT.is (.bool true), RT.is (.slice (some ⟨b9, o9, none⟩) 1 c9), RT.is (.int .i64 ((1 : Nat) : Int)), RT.is (.bool true), RT.is (.bool true), RT.is (.bool true), RT.is (.slice (some ⟨b9, o9, none⟩) 1 c9), RT.is (.pointer (some ⟨b9, o9 + 0 * 32, none⟩)), RT.is (sumV C), RT.is (sumV C), RT.is (.bool true), RT.is (.bool true), RT.is (.bool true), RT.is (.bool true), RT.is (.bool true), RT.is (.bool true), RT.is (.slice a11 0 c11), RT.is (.int .i64 ((0 : Nat) : Int)), RT.is (.bool true), RT.is (.bool true), RT.is (.bool true), RT.is (.bool true), RT.is (.bool true), RT.is (.bool true)] (by kernel_rfl) (by kernel_rfl) (by kernel_rfl) (by kernel_rfl) ⟨?_, ?_, ?_, ?_, ?_, ?_, ?_, ?_, ?_, ?_, ?_, ?_, ?_, ?_, ?_, ?_, ?_, ?_, ?_, ?_, ?_, ?_, ?_, ?_, ?_, ?_, ?_, ?_, ?_, ?_, ?_, ?_, ?_, ?_, ?_, ?_, ?_, ?_, ?_, ?_, ?_, ?_, ?_, ?_, ?_, ?_, ?_, ?_, ?_, ?_, ?_, ?_, ?_, ?_, ?_, ?_, ?_, ?_, ?_, ?_, ?_, trivial⟩ ?_
    · intro ac w' hF hL hP hU K hK
      have hB := below_undrew hL
      have e5 : ac.eval (.tmp 5) = .slice (some ⟨b5, o5, none⟩) 1 c5 := hF.at 5 (by kernel_rfl)
      exact rop_move _ rfl e5 (wanted_none rfl) (hK _ _ (le8_refl _) rfl)
    · intro ac w' hF hL hP hU K hK
      have hB := below_undrew hL
      have e40 : ac.eval (.tmp 40) = .slice (some ⟨b5, o5, none⟩) 1 c5 := hP 0 (by kernel_rfl)
      exact rop_lenG _ Tryd.underlying22 rfl e40 (wanted_none rfl) (hK _ _ (le8_refl _) rfl)
    · intro ac w' hF hL hP hU K hK
      have hB := below_undrew hL
      have e41 : ac.eval (.tmp 41) = .int .i64 ((1 : Nat) : Int) := hP 1 (by kernel_rfl)
      exact rop_bin _ _ _ _ _ rfl e41 rfl (guard_int _ _ _ _ _ _ _ w') (eql_iG _ _ _ (by decide) w') (wanted_none rfl) (hK _ _ (le8_refl _) rfl)
    · intro ac w' hF hL hP hU K hK
      have hB := below_undrew hL
      have e42 : ac.eval (.tmp 42) = .bool true := hP 2 (by kernel_rfl)
      exact rop_move _ rfl e42 (wanted_none rfl) (hK _ _ (le8_refl _) rfl)
    · intro ac w' hF hL hP hU K hK
      have hB := below_undrew hL
      have e5 : ac.eval (.tmp 5) = .slice (some ⟨b5, o5, none⟩) 1 c5 := hF.at 5 (by kernel_rfl)
      have e43 : ac.eval (.tmp 43) = .bool true := hP 3 (by kernel_rfl)
      exact rop_move _ rfl e5 (wanted_of (j := 3) (b := true) rfl rfl e43) (hK _ _ (le8_refl _) rfl)
    · intro ac w' hF hL hP hU K hK
      have hB := below_undrew hL
      have e44 : ac.eval (.tmp 44) = .slice (some ⟨b5, o5, none⟩) 1 c5 := hP 4 (by kernel_rfl)
      have e43 : ac.eval (.tmp 43) = .bool true := hP 3 (by kernel_rfl)
      exact rop_idx _ _ _ rfl e44 rfl (index_sums b5 o5 1 c5 0 (by decide) w') (wanted_of (j := 3) (b := true) rfl rfl e43) (hK _ _ (le8_refl _) rfl)
    · intro ac w' hF hL hP hU K hK
      have hB := below_undrew hL
      have e45 : ac.eval (.tmp 45) = .pointer (some ⟨b5, o5 + 0 * 32, none⟩) := hP 5 (by kernel_rfl)
      have e43 : ac.eval (.tmp 43) = .bool true := hP 3 (by kernel_rfl)
      exact rop_ld _ _ rfl e45 (run_loadAt_mid _ _ _ _ _ _ (below_range hB hb5 hr5) Tryd.underlying35 rfl (sum_info' HNl.out)) (wanted_of (j := 3) (b := true) rfl rfl e43) (hK _ _ (le8_refl _) rfl)
    · intro ac w' hF hL hP hU K hK
      have hB := below_undrew hL
      have e1 : ac.eval (.tmp 1) = .pointer (some ⟨qa, 0, none⟩) := hF.at 1 (by kernel_rfl)
      have e43 : ac.eval (.tmp 43) = .bool true := hP 3 (by kernel_rfl)
      exact rop_ld _ _ rfl e1 (run_loadAt_mid _ _ _ _ _ _ (below_range hB hqa hra) Tryd.underlying35 rfl (sum_info' HAl.out)) (wanted_of (j := 3) (b := true) rfl rfl e43) (hK _ _ (le8_refl _) rfl)
    · intro ac w' hF hL hP hU K hK
      have hB := below_undrew hL
      have e2 : ac.eval (.tmp 2) = .pointer (some ⟨qb, 0, none⟩) := hF.at 2 (by kernel_rfl)
      have e43 : ac.eval (.tmp 43) = .bool true := hP 3 (by kernel_rfl)
      exact rop_ld _ _ rfl e2 (run_loadAt_mid _ _ _ _ _ _ (below_range hB hqb hrb) Tryd.underlying35 rfl (sum_info' HBl.out)) (wanted_of (j := 3) (b := true) rfl rfl e43) (hK _ _ (le8_refl _) rfl)
    · intro ac w' hF hL hP hU K hK
      have hB := below_undrew hL
      have e47 : ac.eval (.tmp 47) = sumV A := hP 7 (by kernel_rfl)
      have e48 : ac.eval (.tmp 48) = sumV B := hP 8 (by kernel_rfl)
      have e43 : ac.eval (.tmp 43) = .bool true := hP 3 (by kernel_rfl)
      refine rop_call 22 _ _ rfl #[sumV A, sumV B] (by simp [e47, e48]) (by kernel_rfl) (wanted_of (j := 3) (b := true) rfl rfl e43) ?_
      refine (HND.out w').mono ?_
      rintro e w2 ⟨rfl, hb⟩
      exact ⟨_, rfl, hK _ _ hb rfl⟩
    · intro ac w' hF hL hP hU K hK
      have hB := below_undrew hL
      have e46 : ac.eval (.tmp 46) = sumV N := hP 6 (by kernel_rfl)
      have e49 : ac.eval (.tmp 49) = sumV N := hP 9 (by kernel_rfl)
      have e43 : ac.eval (.tmp 43) = .bool true := hP 3 (by kernel_rfl)
      exact rop_bin _ _ _ _ _ rfl e46 e49 (guard_run .eql _ _ _ _ w') (eql_sum_tt N N HNl.out HNl.out rfl w') (wanted_of (j := 3) (b := true) rfl rfl e43) (hK _ _ (le8_refl _) rfl)
    · intro ac w' hF hL hP hU K hK
      have hB := below_undrew hL
      have e43 : ac.eval (.tmp 43) = .bool true := hP 3 (by kernel_rfl)
      have e50 : ac.eval (.tmp 50) = .bool true := hP 10 (by kernel_rfl)
      exact rop_pick _ _ _ rfl true e43 (by simpa using e50) (wanted_none rfl) (hK _ _ (le8_refl _) rfl)
    · intro ac w' hF hL hP hU K hK
      have hB := below_undrew hL
      have e51 : ac.eval (.tmp 51) = .bool true := hP 11 (by kernel_rfl)
      exact rop_move _ rfl e51 (wanted_none rfl) (hK _ _ (le8_refl _) rfl)
    · intro ac w' hF hL hP hU K hK
      have hB := below_undrew hL
      have e6 : ac.eval (.tmp 6) = .bool true := hF.at 6 (by kernel_rfl)
      have e52 : ac.eval (.tmp 52) = .bool true := hP 12 (by kernel_rfl)
      exact rop_move _ rfl e6 (wanted_of (j := 12) (b := true) rfl rfl e52) (hK _ _ (le8_refl _) rfl)
    · intro ac w' hF hL hP hU K hK
      have hB := below_undrew hL
      have e52 : ac.eval (.tmp 52) = .bool true := hP 12 (by kernel_rfl)
      have e53 : ac.eval (.tmp 53) = .bool true := hP 13 (by kernel_rfl)
      exact rop_pick _ _ _ rfl true e52 (by simpa using e53) (wanted_none rfl) (hK _ _ (le8_refl _) rfl)
    · intro ac w' hF hL hP hU K hK
      have hB := below_undrew hL
      have e54 : ac.eval (.tmp 54) = .bool true := hP 14 (by kernel_rfl)
      exact rop_move _ rfl e54 (wanted_none rfl) (hK _ _ (le8_refl _) rfl)
    · intro ac w' hF hL hP hU K hK
      have hB := below_undrew hL
      have e7 : ac.eval (.tmp 7) = .slice (some ⟨b7, o7, none⟩) 2 c7 := hF.at 7 (by kernel_rfl)
      have e55 : ac.eval (.tmp 55) = .bool true := hP 15 (by kernel_rfl)
      exact rop_move _ rfl e7 (wanted_of (j := 15) (b := true) rfl rfl e55) (hK _ _ (le8_refl _) rfl)
    · intro ac w' hF hL hP hU K hK
      have hB := below_undrew hL
      have e56 : ac.eval (.tmp 56) = .slice (some ⟨b7, o7, none⟩) 2 c7 := hP 16 (by kernel_rfl)
      have e55 : ac.eval (.tmp 55) = .bool true := hP 15 (by kernel_rfl)
      exact rop_lenG _ Tryd.underlying22 rfl e56 (wanted_of (j := 15) (b := true) rfl rfl e55) (hK _ _ (le8_refl _) rfl)
    · intro ac w' hF hL hP hU K hK
      have hB := below_undrew hL
      have e57 : ac.eval (.tmp 57) = .int .i64 ((2 : Nat) : Int) := hP 17 (by kernel_rfl)
      have e55 : ac.eval (.tmp 55) = .bool true := hP 15 (by kernel_rfl)
      exact rop_bin _ _ _ _ _ rfl e57 rfl (guard_int _ _ _ _ _ _ _ w') (eql_iG _ _ _ (by decide) w') (wanted_of (j := 15) (b := true) rfl rfl e55) (hK _ _ (le8_refl _) rfl)
    · intro ac w' hF hL hP hU K hK
      have hB := below_undrew hL
      have e55 : ac.eval (.tmp 55) = .bool true := hP 15 (by kernel_rfl)
      have e58 : ac.eval (.tmp 58) = .bool true := hP 18 (by kernel_rfl)
      exact rop_pick _ _ _ rfl true e55 (by simpa using e58) (wanted_none rfl) (hK _ _ (le8_refl _) rfl)
    · intro ac w' hF hL hP hU K hK
      have hB := below_undrew hL
      have e59 : ac.eval (.tmp 59) = .bool true := hP 19 (by kernel_rfl)
      exact rop_move _ rfl e59 (wanted_none rfl) (hK _ _ (le8_refl _) rfl)
    · intro ac w' hF hL hP hU K hK
      have hB := below_undrew hL
      have e7 : ac.eval (.tmp 7) = .slice (some ⟨b7, o7, none⟩) 2 c7 := hF.at 7 (by kernel_rfl)
      have e60 : ac.eval (.tmp 60) = .bool true := hP 20 (by kernel_rfl)
      exact rop_move _ rfl e7 (wanted_of (j := 20) (b := true) rfl rfl e60) (hK _ _ (le8_refl _) rfl)
    · intro ac w' hF hL hP hU K hK
      have hB := below_undrew hL
      have e61 : ac.eval (.tmp 61) = .slice (some ⟨b7, o7, none⟩) 2 c7 := hP 21 (by kernel_rfl)
      have e60 : ac.eval (.tmp 60) = .bool true := hP 20 (by kernel_rfl)
      exact rop_idx _ _ _ rfl e61 rfl (index_sums b7 o7 2 c7 0 (by decide) w') (wanted_of (j := 20) (b := true) rfl rfl e60) (hK _ _ (le8_refl _) rfl)
    · intro ac w' hF hL hP hU K hK
      have hB := below_undrew hL
      have e62 : ac.eval (.tmp 62) = .pointer (some ⟨b7, o7 + 0 * 32, none⟩) := hP 22 (by kernel_rfl)
      have e60 : ac.eval (.tmp 60) = .bool true := hP 20 (by kernel_rfl)
      exact rop_ld _ _ rfl e62 (run_loadAt_mid _ _ _ _ _ _ (below_range hB hb7 hr7) Tryd.underlying35 rfl (sum_info' HBl.out)) (wanted_of (j := 20) (b := true) rfl rfl e60) (hK _ _ (le8_refl _) rfl)
    · intro ac w' hF hL hP hU K hK
      have hB := below_undrew hL
      have e2 : ac.eval (.tmp 2) = .pointer (some ⟨qb, 0, none⟩) := hF.at 2 (by kernel_rfl)
      have e60 : ac.eval (.tmp 60) = .bool true := hP 20 (by kernel_rfl)
      exact rop_ld _ _ rfl e2 (run_loadAt_mid _ _ _ _ _ _ (below_range hB hqb hrb) Tryd.underlying35 rfl (sum_info' HBl.out)) (wanted_of (j := 20) (b := true) rfl rfl e60) (hK _ _ (le8_refl _) rfl)
    · intro ac w' hF hL hP hU K hK
      have hB := below_undrew hL
      have e63 : ac.eval (.tmp 63) = sumV B := hP 23 (by kernel_rfl)
      have e64 : ac.eval (.tmp 64) = sumV B := hP 24 (by kernel_rfl)
      have e60 : ac.eval (.tmp 60) = .bool true := hP 20 (by kernel_rfl)
      exact rop_bin _ _ _ _ _ rfl e63 e64 (guard_run .eql _ _ _ _ w') (eql_sum_tt B B HBl.out HBl.out rfl w') (wanted_of (j := 20) (b := true) rfl rfl e60) (hK _ _ (le8_refl _) rfl)
    · intro ac w' hF hL hP hU K hK
      have hB := below_undrew hL
      have e60 : ac.eval (.tmp 60) = .bool true := hP 20 (by kernel_rfl)
      have e65 : ac.eval (.tmp 65) = .bool true := hP 25 (by kernel_rfl)
      exact rop_pick _ _ _ rfl true e60 (by simpa using e65) (wanted_none rfl) (hK _ _ (le8_refl _) rfl)
    · intro ac w' hF hL hP hU K hK
      have hB := below_undrew hL
      have e66 : ac.eval (.tmp 66) = .bool true := hP 26 (by kernel_rfl)
      exact rop_move _ rfl e66 (wanted_none rfl) (hK _ _ (le8_refl _) rfl)
    · intro ac w' hF hL hP hU K hK
      have hB := below_undrew hL
      have e7 : ac.eval (.tmp 7) = .slice (some ⟨b7, o7, none⟩) 2 c7 := hF.at 7 (by kernel_rfl)
      have e67 : ac.eval (.tmp 67) = .bool true := hP 27 (by kernel_rfl)
      exact rop_move _ rfl e7 (wanted_of (j := 27) (b := true) rfl rfl e67) (hK _ _ (le8_refl _) rfl)
    · intro ac w' hF hL hP hU K hK
      have hB := below_undrew hL
      have e68 : ac.eval (.tmp 68) = .slice (some ⟨b7, o7, none⟩) 2 c7 := hP 28 (by kernel_rfl)
      have e67 : ac.eval (.tmp 67) = .bool true := hP 27 (by kernel_rfl)
      exact rop_idx _ _ _ rfl e68 rfl (index_sums b7 o7 2 c7 1 (by decide) w') (wanted_of (j := 27) (b := true) rfl rfl e67) (hK _ _ (le8_refl _) rfl)
    · intro ac w' hF hL hP hU K hK
      have hB := below_undrew hL
      have e69 : ac.eval (.tmp 69) = .pointer (some ⟨b7, o7 + 1 * 32, none⟩) := hP 29 (by kernel_rfl)
      have e67 : ac.eval (.tmp 67) = .bool true := hP 27 (by kernel_rfl)
      exact rop_ld _ _ rfl e69 (run_loadAt_mid _ _ _ _ _ _ (below_range hB hb7 hs7) Tryd.underlying35 rfl (sum_info' HCl.out)) (wanted_of (j := 27) (b := true) rfl rfl e67) (hK _ _ (le8_refl _) rfl)
    · intro ac w' hF hL hP hU K hK
      have hB := below_undrew hL
      have e3 : ac.eval (.tmp 3) = .pointer (some ⟨qc, 0, none⟩) := hF.at 3 (by kernel_rfl)
      have e67 : ac.eval (.tmp 67) = .bool true := hP 27 (by kernel_rfl)
      exact rop_ld _ _ rfl e3 (run_loadAt_mid _ _ _ _ _ _ (below_range hB hqc hrc) Tryd.underlying35 rfl (sum_info' HCl.out)) (wanted_of (j := 27) (b := true) rfl rfl e67) (hK _ _ (le8_refl _) rfl)
    · intro ac w' hF hL hP hU K hK
      have hB := below_undrew hL
      have e70 : ac.eval (.tmp 70) = sumV C := hP 30 (by kernel_rfl)
      have e71 : ac.eval (.tmp 71) = sumV C := hP 31 (by kernel_rfl)
      have e67 : ac.eval (.tmp 67) = .bool true := hP 27 (by kernel_rfl)
      exact rop_bin _ _ _ _ _ rfl e70 e71 (guard_run .eql _ _ _ _ w') (eql_sum_tt C C HCl.out HCl.out rfl w') (wanted_of (j := 27) (b := true) rfl rfl e67) (hK _ _ (le8_refl _) rfl)
    · intro ac w' hF hL hP hU K hK
      have hB := below_undrew hL
      have e67 : ac.eval (.tmp 67) = .bool true := hP 27 (by kernel_rfl)
      have e72 : ac.eval (.tmp 72) = .bool true := hP 32 (by kernel_rfl)
      exact rop_pick _ _ _ rfl true e67 (by simpa using e72) (wanted_none rfl) (hK _ _ (le8_refl _) rfl)
    · intro ac w' hF hL hP hU K hK
      have hB := below_undrew hL
      have e73 : ac.eval (.tmp 73) = .bool true := hP 33 (by kernel_rfl)
      exact rop_move _ rfl e73 (wanted_none rfl) (hK _ _ (le8_refl _) rfl)
    · intro ac w' hF hL hP hU K hK
      have hB := below_undrew hL
      have e8 : ac.eval (.tmp 8) = .bool true := hF.at 8 (by kernel_rfl)
      have e74 : ac.eval (.tmp 74) = .bool true := hP 34 (by kernel_rfl)
      exact rop_move _ rfl e8 (wanted_of (j := 34) (b := true) rfl rfl e74) (hK _ _ (le8_refl _) rfl)
    · intro ac w' hF hL hP hU K hK
      have hB := below_undrew hL
      have e74 : ac.eval (.tmp 74) = .bool true := hP 34 (by kernel_rfl)
      have e75 : ac.eval (.tmp 75) = .bool true := hP 35 (by kernel_rfl)
      exact rop_pick _ _ _ rfl true e74 (by simpa using e75) (wanted_none rfl) (hK _ _ (le8_refl _) rfl)
    · intro ac w' hF hL hP hU K hK
      have hB := below_undrew hL
      have e76 : ac.eval (.tmp 76) = .bool true := hP 36 (by kernel_rfl)
      exact rop_move _ rfl e76 (wanted_none rfl) (hK _ _ (le8_refl _) rfl)
    · intro ac w' hF hL hP hU K hK
      have hB := below_undrew hL
      have e9 : ac.eval (.tmp 9) = .slice (some ⟨b9, o9, none⟩) 1 c9 := hF.at 9 (by kernel_rfl)
      have e77 : ac.eval (.tmp 77) = .bool true := hP 37 (by kernel_rfl)
      exact rop_move _ rfl e9 (wanted_of (j := 37) (b := true) rfl rfl e77) (hK _ _ (le8_refl _) rfl)
    · intro ac w' hF hL hP hU K hK
      have hB := below_undrew hL
      have e78 : ac.eval (.tmp 78) = .slice (some ⟨b9, o9, none⟩) 1 c9 := hP 38 (by kernel_rfl)
      have e77 : ac.eval (.tmp 77) = .bool true := hP 37 (by kernel_rfl)
      exact rop_lenG _ Tryd.underlying22 rfl e78 (wanted_of (j := 37) (b := true) rfl rfl e77) (hK _ _ (le8_refl _) rfl)
    · intro ac w' hF hL hP hU K hK
      have hB := below_undrew hL
      have e79 : ac.eval (.tmp 79) = .int .i64 ((1 : Nat) : Int) := hP 39 (by kernel_rfl)
      have e77 : ac.eval (.tmp 77) = .bool true := hP 37 (by kernel_rfl)
      exact rop_bin _ _ _ _ _ rfl e79 rfl (guard_int _ _ _ _ _ _ _ w') (eql_iG _ _ _ (by decide) w') (wanted_of (j := 37) (b := true) rfl rfl e77) (hK _ _ (le8_refl _) rfl)
    · intro ac w' hF hL hP hU K hK
      have hB := below_undrew hL
      have e77 : ac.eval (.tmp 77) = .bool true := hP 37 (by kernel_rfl)
      have e80 : ac.eval (.tmp 80) = .bool true := hP 40 (by kernel_rfl)
      exact rop_pick _ _ _ rfl true e77 (by simpa using e80) (wanted_none rfl) (hK _ _ (le8_refl _) rfl)
    · intro ac w' hF hL hP hU K hK
      have hB := below_undrew hL
      have e81 : ac.eval (.tmp 81) = .bool true := hP 41 (by kernel_rfl)
      exact rop_move _ rfl e81 (wanted_none rfl) (hK _ _ (le8_refl _) rfl)
    · intro ac w' hF hL hP hU K hK
      have hB := below_undrew hL
      have e9 : ac.eval (.tmp 9) = .slice (some ⟨b9, o9, none⟩) 1 c9 := hF.at 9 (by kernel_rfl)
      have e82 : ac.eval (.tmp 82) = .bool true := hP 42 (by kernel_rfl)
      exact rop_move _ rfl e9 (wanted_of (j := 42) (b := true) rfl rfl e82) (hK _ _ (le8_refl _) rfl)
    · intro ac w' hF hL hP hU K hK
      have hB := below_undrew hL
      have e83 : ac.eval (.tmp 83) = .slice (some ⟨b9, o9, none⟩) 1 c9 := hP 43 (by kernel_rfl)
      have e82 : ac.eval (.tmp 82) = .bool true := hP 42 (by kernel_rfl)
      exact rop_idx _ _ _ rfl e83 rfl (index_sums b9 o9 1 c9 0 (by decide) w') (wanted_of (j := 42) (b := true) rfl rfl e82) (hK _ _ (le8_refl _) rfl)
    · intro ac w' hF hL hP hU K hK
      have hB := below_undrew hL
      have e84 : ac.eval (.tmp 84) = .pointer (some ⟨b9, o9 + 0 * 32, none⟩) := hP 44 (by kernel_rfl)
      have e82 : ac.eval (.tmp 82) = .bool true := hP 42 (by kernel_rfl)
      exact rop_ld _ _ rfl e84 (run_loadAt_mid _ _ _ _ _ _ (below_range hB hb9 hr9) Tryd.underlying35 rfl (sum_info' HCl.out)) (wanted_of (j := 42) (b := true) rfl rfl e82) (hK _ _ (le8_refl _) rfl)
    · intro ac w' hF hL hP hU K hK
      have hB := below_undrew hL
      have e3 : ac.eval (.tmp 3) = .pointer (some ⟨qc, 0, none⟩) := hF.at 3 (by kernel_rfl)
      have e82 : ac.eval (.tmp 82) = .bool true := hP 42 (by kernel_rfl)
      exact rop_ld _ _ rfl e3 (run_loadAt_mid _ _ _ _ _ _ (below_range hB hqc hrc) Tryd.underlying35 rfl (sum_info' HCl.out)) (wanted_of (j := 42) (b := true) rfl rfl e82) (hK _ _ (le8_refl _) rfl)
    · intro ac w' hF hL hP hU K hK
      have hB := below_undrew hL
      have e85 : ac.eval (.tmp 85) = sumV C := hP 45 (by kernel_rfl)
      have e86 : ac.eval (.tmp 86) = sumV C := hP 46 (by kernel_rfl)
      have e82 : ac.eval (.tmp 82) = .bool true := hP 42 (by kernel_rfl)
      exact rop_bin _ _ _ _ _ rfl e85 e86 (guard_run .eql _ _ _ _ w') (eql_sum_tt C C HCl.out HCl.out rfl w') (wanted_of (j := 42) (b := true) rfl rfl e82) (hK _ _ (le8_refl _) rfl)
    · intro ac w' hF hL hP hU K hK
      have hB := below_undrew hL
      have e82 : ac.eval (.tmp 82) = .bool true := hP 42 (by kernel_rfl)
      have e87 : ac.eval (.tmp 87) = .bool true := hP 47 (by kernel_rfl)
      exact rop_pick _ _ _ rfl true e82 (by simpa using e87) (wanted_none rfl) (hK _ _ (le8_refl _) rfl)
    · intro ac w' hF hL hP hU K hK
      have hB := below_undrew hL
      have e88 : ac.eval (.tmp 88) = .bool true := hP 48 (by kernel_rfl)
      exact rop_move _ rfl e88 (wanted_none rfl) (hK _ _ (le8_refl _) rfl)
    · intro ac w' hF hL hP hU K hK
      have hB := below_undrew hL
      have e10 : ac.eval (.tmp 10) = .bool true := hF.at 10 (by kernel_rfl)
      have e89 : ac.eval (.tmp 89) = .bool true := hP 49 (by kernel_rfl)
      exact rop_move _ rfl e10 (wanted_of (j := 49) (b := true) rfl rfl e89) (hK _ _ (le8_refl _) rfl)
    · intro ac w' hF hL hP hU K hK
      have hB := below_undrew hL
      have e89 : ac.eval (.tmp 89) = .bool true := hP 49 (by kernel_rfl)
      have e90 : ac.eval (.tmp 90) = .bool true := hP 50 (by kernel_rfl)
      exact rop_pick _ _ _ rfl true e89 (by simpa using e90) (wanted_none rfl) (hK _ _ (le8_refl _) rfl)
    · intro ac w' hF hL hP hU K hK
      have hB := below_undrew hL
      have e91 : ac.eval (.tmp 91) = .bool true := hP 51 (by kernel_rfl)
      exact rop_move _ rfl e91 (wanted_none rfl) (hK _ _ (le8_refl _) rfl)
    · intro ac w' hF hL hP hU K hK
      have hB := below_undrew hL
      have e11 : ac.eval (.tmp 11) = .slice a11 0 c11 := hF.at 11 (by kernel_rfl)
      have e92 : ac.eval (.tmp 92) = .bool true := hP 52 (by kernel_rfl)
      exact rop_move _ rfl e11 (wanted_of (j := 52) (b := true) rfl rfl e92) (hK _ _ (le8_refl _) rfl)
    · intro ac w' hF hL hP hU K hK
      have hB := below_undrew hL
      have e93 : ac.eval (.tmp 93) = .slice a11 0 c11 := hP 53 (by kernel_rfl)
      have e92 : ac.eval (.tmp 92) = .bool true := hP 52 (by kernel_rfl)
      exact rop_lenG _ Tryd.underlying22 rfl e93 (wanted_of (j := 52) (b := true) rfl rfl e92) (hK _ _ (le8_refl _) rfl)
    · intro ac w' hF hL hP hU K hK
      have hB := below_undrew hL
      have e94 : ac.eval (.tmp 94) = .int .i64 ((0 : Nat) : Int) := hP 54 (by kernel_rfl)
      have e92 : ac.eval (.tmp 92) = .bool true := hP 52 (by kernel_rfl)
      exact rop_bin _ _ _ _ _ rfl e94 rfl (guard_int _ _ _ _ _ _ _ w') (eql_iG _ _ _ (by decide) w') (wanted_of (j := 52) (b := true) rfl rfl e92) (hK _ _ (le8_refl _) rfl)
    · intro ac w' hF hL hP hU K hK
      have hB := below_undrew hL
      have e92 : ac.eval (.tmp 92) = .bool true := hP 52 (by kernel_rfl)
      have e95 : ac.eval (.tmp 95) = .bool true := hP 55 (by kernel_rfl)
      exact rop_pick _ _ _ rfl true e92 (by simpa using e95) (wanted_none rfl) (hK _ _ (le8_refl _) rfl)
    · intro ac w' hF hL hP hU K hK
      have hB := below_undrew hL
      have e96 : ac.eval (.tmp 96) = .bool true := hP 56 (by kernel_rfl)
      exact rop_move _ rfl e96 (wanted_none rfl) (hK _ _ (le8_refl _) rfl)
    · intro ac w' hF hL hP hU K hK
      have hB := below_undrew hL
      have e12 : ac.eval (.tmp 12) = .bool true := hF.at 12 (by kernel_rfl)
      have e97 : ac.eval (.tmp 97) = .bool true := hP 57 (by kernel_rfl)
      exact rop_move _ rfl e12 (wanted_of (j := 57) (b := true) rfl rfl e97) (hK _ _ (le8_refl _) rfl)
    · intro ac w' hF hL hP hU K hK
      have hB := below_undrew hL
      have e97 : ac.eval (.tmp 97) = .bool true := hP 57 (by kernel_rfl)
      have e98 : ac.eval (.tmp 98) = .bool true := hP 58 (by kernel_rfl)
      exact rop_pick _ _ _ rfl true e97 (by simpa using e98) (wanted_none rfl) (hK _ _ (le8_refl _) rfl)
    · intro ac w' hF hL hP hU K hK
      have hB := below_undrew hL
      have e99 : ac.eval (.tmp 99) = .bool true := hP 59 (by kernel_rfl)
      exact rop_assign _ rfl e99 (wanted_none rfl) (hK _ _ (le8_refl _) rfl)
    · intro ac w' hF hB hT
      have e0 : ac.eval (.tmp 0) = .bool true := hT 60 (by decide)
      rw [hF.setsG [40, 41, 42, 43, 44, 45, 46, 47, 48, 49, 50, 51, 52, 53, 54, 55, 56, 57, 58, 59, 60, 61, 62, 63, 64, 65, 66, 67, 68, 69, 70, 71, 72, 73, 74, 75, 76, 77, 78, 79, 80, 81, 82, 83, 84, 85, 86, 87, 88, 89, 90, 91, 92, 93, 94, 95, 96, 97, 98, 99, 0] (by kernel_rfl)]
      simp only [List.foldl_cons, List.foldl_nil, List.setIfInBounds_toArray, List.set_cons_succ, List.set_cons_zero, e0]
      generalize ac.eval (.tmp 40) = u40
      generalize ac.eval (.tmp 41) = u41
      generalize ac.eval (.tmp 42) = u42
      generalize ac.eval (.tmp 43) = u43
      generalize ac.eval (.tmp 44) = u44
      generalize ac.eval (.tmp 45) = u45
      generalize ac.eval (.tmp 46) = u46
      generalize ac.eval (.tmp 47) = u47
      generalize ac.eval (.tmp 48) = u48
      generalize ac.eval (.tmp 49) = u49
      generalize ac.eval (.tmp 50) = u50
      generalize ac.eval (.tmp 51) = u51
      generalize ac.eval (.tmp 52) = u52
      generalize ac.eval (.tmp 53) = u53
      generalize ac.eval (.tmp 54) = u54
      generalize ac.eval (.tmp 55) = u55
      generalize ac.eval (.tmp 56) = u56
      generalize ac.eval (.tmp 57) = u57
      generalize ac.eval (.tmp 58) = u58
      generalize ac.eval (.tmp 59) = u59
      generalize ac.eval (.tmp 60) = u60
      generalize ac.eval (.tmp 61) = u61
      generalize ac.eval (.tmp 62) = u62
      generalize ac.eval (.tmp 63) = u63
      generalize ac.eval (.tmp 64) = u64
      generalize ac.eval (.tmp 65) = u65
      generalize ac.eval (.tmp 66) = u66
      generalize ac.eval (.tmp 67) = u67
      generalize ac.eval (.tmp 68) = u68
      generalize ac.eval (.tmp 69) = u69
      generalize ac.eval (.tmp 70) = u70
      generalize ac.eval (.tmp 71) = u71
      generalize ac.eval (.tmp 72) = u72
      generalize ac.eval (.tmp 73) = u73
      generalize ac.eval (.tmp 74) = u74
      generalize ac.eval (.tmp 75) = u75
      generalize ac.eval (.tmp 76) = u76
      generalize ac.eval (.tmp 77) = u77
      generalize ac.eval (.tmp 78) = u78
      generalize ac.eval (.tmp 79) = u79
      generalize ac.eval (.tmp 80) = u80
      generalize ac.eval (.tmp 81) = u81
      generalize ac.eval (.tmp 82) = u82
      generalize ac.eval (.tmp 83) = u83
      generalize ac.eval (.tmp 84) = u84
      generalize ac.eval (.tmp 85) = u85
      generalize ac.eval (.tmp 86) = u86
      generalize ac.eval (.tmp 87) = u87
      generalize ac.eval (.tmp 88) = u88
      generalize ac.eval (.tmp 89) = u89
      generalize ac.eval (.tmp 90) = u90
      generalize ac.eval (.tmp 91) = u91
      generalize ac.eval (.tmp 92) = u92
      generalize ac.eval (.tmp 93) = u93
      generalize ac.eval (.tmp 94) = u94
      generalize ac.eval (.tmp 95) = u95
      generalize ac.eval (.tmp 96) = u96
      generalize ac.eval (.tmp 97) = u97
      generalize ac.eval (.tmp 98) = u98
      generalize ac.eval (.tmp 99) = u99
      clear e0 hT hF ac
      go_wp2
      go_ret
      exact ⟨rfl, below_step b8 (Nat.le_refl _) hB⟩

/-- At most 20 of them. -/
theorem few10_any (v : Value) (l : Hs) (w : World) (hv : Sums w v l) :
    Calls Tryd.prog 10 #[v] w fun e w' => ∃ v', e = .returned v' ∧ SumsB w.heap.size w v' (l.take 20) ∧ w = w' := by
  have hvB := hv.below
  obtain ⟨va, cap, rfl, hlc, hcap⟩ := hv.slice
  by_cases h : 20 < l.length
  · have h' : 20 < (l.length : Int) := by omega
    have hh : Sums w (.slice va 20 cap) (l.take 20) := hv.head 20 (by omega)
    have hb : SumsB w.heap.size w (.slice va 20 cap) (l.take 20) := hh.below
    have HB := Lib.hid hb
    have hcut := fun u => scut_h va l.length cap 20 (by omega) u
    clear hv hvB hh hb
    go_enter Tryd.func10, Tryd.ntmps10
    go_wp2_with (with_reducible refine wpList_slice_runS rfl 22 (.tmp 6) none (some (.const (.int .i64 20))) none rfl rfl rfl rfl rfl (hcut _) ?_)
    go_ret
    first | exact ⟨_, rfl, HB.out, rfl⟩ | exact HB.out | exact ⟨HB.out, rfl⟩ | exact ⟨_, rfl, HB.out⟩
  · have h' : ¬ 20 < (l.length : Int) := by omega
    have hh : l.take 20 = l := List.take_of_length_le (by omega)
    have HH := Lib.hid hh
    have HB := Lib.hid hvB
    clear hv hvB hh
    go_enter Tryd.func10, Tryd.ntmps10
    go_wp2
    go_ret
    rw [HH.out]
    first | exact ⟨_, rfl, HB.out, rfl⟩ | exact HB.out | exact ⟨HB.out, rfl⟩ | exact ⟨_, rfl, HB.out⟩
end Go.Proofs.YtagocdcclghdaaaDoor
