/-
  TwinTree: with a tree at hand: whatever leaf and path are right of its root, at one of its places, are its own, or twins are told. For all hashes (the first 20 of them), every place among them, any hash and any row of hashes; the numbers K of the package sha are as the program's own start lays them.
-/
import Derived.Test.YtdcebdleneieeaaDoorTwinArg
namespace Go.Proofs.YtdcebdleneieeaaDoor.twinTree
open Go.ChangeShapes Go.WideShapes Go.ChangeAt Go.RowKit

theorem leaves_no {x y : List UInt8} {m n : Int} {A B : Hs} (h : (foldZ x m n A).1 ≠ (foldZ y m n B).1 ∨ (x = y ∧ A = B)) : leavesZ x y m n A B = none := by
  unfold leavesZ
  rcases h with h | ⟨rfl, rfl⟩
  · rw [decide_eq_false (fun e => h e.symm), Bool.and_false, Bool.and_false]
    rfl
  · rw [Tree.firstT_self]
    split <;> rfl
theorem leaves_yes {x y : List UInt8} {m n : Int} {A B : Hs} (hx : x.length = 32) (hy : y.length = 32) (oA : all32 A) (oB : all32 B) (hA : foldLen m n A = true) (hB : foldLen m n B = true) (he : (foldZ x m n A).1 = (foldZ y m n B).1) (hu : ¬ (x = y ∧ A = B)) : ∃ p, leavesZ x y m n A B = some p := by
  have e1 : foldZ x m n A = (Tree.fold x A (turnsZ m n), true) := by unfold foldZ; rw [hA]; rfl
  have e2 : foldZ y m n B = (Tree.fold y B (turnsZ m n), true) := by unfold foldZ; rw [hB]; rfl
  have w1 : wayZ x m n A = Tree.wayL x A (turnsZ m n) := by unfold wayZ; rw [if_pos hA]
  have w2 : wayZ y m n B = Tree.wayL y B (turnsZ m n) := by unfold wayZ; rw [if_pos hB]
  unfold leavesZ
  rw [e1, e2] at he ⊢
  rw [w1, w2]
  simp only [Bool.true_and]
  rw [decide_eq_true he.symm, if_pos rfl]
  rcases Tree.way_twins A B (turnsZ m n) x y (turnsZ_length hA) (turnsZ_length hB) hx hy oA oB he with h | h
  · exact absurd h hu
  · exact h
set_option maxHeartbeats 4000000 in
set_option maxRecDepth 100000 in
/-- The document's own Fold, of any row, however long. -/
theorem rfold_long (x : List UInt8) (hx : x.length = 32) (m n : Int) (l1 : m ≤ 9223372036854775807) (l2 : n ≤ 9223372036854775807) (v : Value) (P : Hs) (w : World) (hv : Sums w v P) :
    Calls Tryd.prog 20 #[sumV x, .int .i64 m, .int .i64 n, v] w fun e w' => e = .returned (.tuple #[sumV (foldZ x m n P).1, .bool (foldZ x m n P).2]) ∧ Below w.heap.size w w' := by
  by_cases hP : P.length ≤ 1000
  · exact rfold_any x hx m n l1 l2 v P w hv hP
  obtain ⟨va, cap, rfl, hlc, hcap⟩ := hv.slice
  obtain ⟨k, hk⟩ : ∃ k, k = P.length := ⟨_, rfl⟩
  obtain ⟨w0, hw0⟩ : ∃ w0, w0 = (w.alloc (.cells (x.map u8V).toArray 24)).alloc zSum := ⟨_, rfl⟩
  have b0 : Below w.heap.size w w0 := by rw [hw0]; exact ((Below.refl _ _).alloc (Nat.le_refl _) _).alloc (by simp) _
  have h2 : w0.heap[w.heap.size + 1]? = some (.cells ((List.replicate 32 (0 : UInt8)).map u8V).toArray 24 (0, 0)) := by
    have := heap_alloc_last (w.alloc (.cells (x.map u8V).toArray 24)) zSum
    rwa [World.size_alloc, ← hw0] at this
  have hsz : w0.heap.size = w.heap.size + 2 := by rw [hw0]; simp
  obtain ⟨z, hz⟩ : ∃ z, z = (if okP m n then ((Tree.long m.toNat n.toNat : Nat) : Int) else -1) := ⟨_, rfl⟩
  have HLO : Hid (∀ u, Calls Tryd.prog 19 #[.int .i64 m, .int .i64 n] u fun e w' => e = .returned (.int .i64 z) ∧ Below u.heap.size u w') := Lib.hid fun u => by rw [hz]; exact rlong_any m n u l1 l2
  have hz40 : z ≤ 40 := by
    rw [hz]
    split
    · rename_i h
      obtain ⟨h0, h1, h2⟩ := okP_t h
      have := long_40 m.toNat n.toNat (by omega)
      omega
    · decide
  have hkz : ¬ (k : Int) = z := by omega
  have hfz : foldZ x m n P = (List.replicate 32 0, false) := by
    unfold foldZ
    rw [show foldLen m n P = false by unfold foldLen; rw [← hz, ← hk]; exact decide_eq_false hkz]
    rfl
  have HB := Lib.hid b0
  have H2 := Lib.hid h2
  rw [← hk, hfz]
  obtain ⟨Z, hZ⟩ : ∃ Z, Z = List.replicate 32 (0 : UInt8) := ⟨_, rfl⟩
  have HZB : Hid (Tryd.prog.built 24 [] = some (Z.map u8V).toArray) := Lib.hid (by rw [hZ]; exact built_zeroP)
  have HZl : Hid (Z.length = 32) := Lib.hid (by rw [hZ]; simp)
  rw [← hZ]
  have hsz2 : w.heap.size + 1 < w0.heap.size := by omega
  clear hZ hfz hz b0 h2 hx hv l1 l2 hsz hcap hlc hk hz40 hP
  unfold sumV
  go_enter Tryd.func20, Tryd.ntmps20
  go_upto_region 1 with (fail)
  change Code.wp _ _ _ _ ((w.alloc (.cells (x.map u8V).toArray 24)).alloc zSum)
  rw [← hw0]
  clear hw0
  go_wp2_with (first
    | (go_at_call 19; ((with_reducible refine (HLO.out _).mono ?_); rintro e w1 ⟨rfl, b1⟩; have z2 := Lib.hid ((b1.block _ hsz2).trans H2.out)))
    | refine wpList_build_at rfl 24 #[] rfl (Z.map u8V).toArray [] (by simp) HZB.out ?_
    | refine wpList_store_mid rfl 24 (.tmp 8) (.tmp 18) rfl (w.heap.size + 1) 0 (Z.map u8V).toArray rfl rfl (sum_there z2.out HZl.out) (sum_info HZl.out) (sum_one _) ?_)
  exact bodyPost_ret (results_ct (t := 8) (u := 9) (ty := 24) (b := w.heap.size + 1) (cs := Z.map u8V) rfl _ _ _ rfl (sum_range z2.out HZl.out) Tryd.underlying24 rfl (sum_info' HZl.out)) rfl ⟨rfl, below_setCells (Nat.le_succ _) _ _ _ (below_step HB.out (Nat.le_refl _) b1)⟩
theorem claim_r {w : World} {q : Nat} {x : List UInt8} {u : Value} {T : TypeId} (h : w.heap[q]? = some (.cells (x.map u8V ++ [u]).toArray T (0, 0))) (_ : x.length = 32) : w.rangeAt q 0 (x.map u8V) := (range_split h).1
theorem claim_c {w : World} {q : Nat} {x : List UInt8} {u : Value} {T : TypeId} (h : w.heap[q]? = some (.cells (x.map u8V ++ [u]).toArray T (0, 0))) (hx : x.length = 32) : w.cell? ⟨q, 32, none⟩ = some u := by
  have := (range_split h).2 0 u rfl
  rwa [List.length_map, hx, Nat.add_zero] at this
/-- How the world goes on where a new variable of twins is made and set. -/
def LeT (W w w' : World) : Prop := Below W.heap.size w w' ∧ ∀ e, (∃ p, IsTw p w e) → ∃ p, IsTw p w' e
theorem LeT.refl {W w : World} : LeT W w w := ⟨Below.refl _ _, fun _ h => h⟩
theorem LeT.trans {W u v w : World} (h : LeT W u v) (k : LeT W v w) : LeT W u w := ⟨h.1.trans k.1, fun e he => k.2 e (h.2 e he)⟩
theorem LeT.call {W w w' : World} (hW : W.heap.size ≤ w.heap.size) (hb : Below w.heap.size w w') : LeT W w w' := ⟨hb.mono hW, fun _ ⟨p, hp⟩ => ⟨p, hp.old hb⟩⟩
theorem alloc_tw' (u : World) : (Instr.alloc 32 true (.tuple #[])).run Tryd.prog u = .ok (.pointer (some ⟨u.heap.size, 0, none⟩)) (u.alloc (.cells #[tV [], tV []] 32)) := by go_simp; rfl
theorem LeT.set {W w : World} {e : Nat} {p r : TT} (he : W.heap.size ≤ e) (h : IsTw p w e) : LeT W w (w.setCells e 0 [tV r.1, tV r.2]) := by
  refine ⟨below_setCells he _ _ _ (Below.refl _ _), fun e' ⟨p', hp'⟩ => ?_⟩
  by_cases hee : e' = e
  · subst hee
    exact ⟨r, h.set⟩
  · exact ⟨p', hp'.far hee⟩
theorem wp_region_leD {Q : Exit → Act → World → Prop} {a0 : Act} {id : Nat} {w : World} {l : List Oper} {Lx : World → World → Prop} (hrf : ∀ {u}, Lx u u) (htr : ∀ {u v x}, Lx u v → Lx v x → Lx u x) (Ts : List (RX Lx)) (hback : rback l.toArray = true) (hap : rapart l.toArray = true) (hlt : (rdsts l.toArray).all (fun d => decide (d < a0.tmps.size)) = true)
    (hop : RAll Tryd.prog l.toArray Q a0 w.drew (tabX Ts) Lx 0 l)
    (hfin : ∀ a w', RFrame l.toArray a0 a → Lx w.drew w' → (∀ j, j < l.toArray.size → tabX Ts j (rgot l.toArray a j) w') → Q .normal a w') : (Code.region id l.toArray true).wp Tryd.prog Q a0 w := by
  refine wp_region_inv (tabX Ts) Lx (by kernel_rfl) hback hap hlt hrf (fun u v w h k => htr h k) (fun i v w w' h k => (Ts.getD i RX.any).st v w w' h k) (fun i o ho => ?_) (fun a w' hF hL hT => hfin a w' hF hL hT)
  have := rall_at l 0 hop i o (by simpa using ho)
  rwa [Nat.zero_add] at this
set_option maxHeartbeats 16000000 in
set_option maxRecDepth 100000 in
theorem walk {w : World} (hK : KT w) (v : Value) (l : Hs) (hv : Sums w v l) (a : Int) (_ : -9223372036854775808 ≤ a) (_ : a ≤ 9223372036854775807) (x : List UInt8) (hx : x.length = 32) (vp : Value) (P : Hs) (hvp : Sums w vp P) :
    Calls Tryd.prog 7 #[v, .int .i64 a, .agg (x.map u8V ++ [vp]).toArray] w fun e w' => e = .returned (.bool true) ∧ Below w.heap.size w w' := by
  obtain ⟨va, ca, rfl, hlc, -⟩ := hv.slice
  obtain ⟨ap, cp, rfl, -, -⟩ := hvp.slice
  obtain ⟨kp, hkp⟩ : ∃ k, k = P.length := ⟨_, rfl⟩
  obtain ⟨nl, hnl⟩ : ∃ k, k = l.length := ⟨_, rfl⟩
  obtain ⟨r, hr⟩ : ∃ r, r = l.take 20 := ⟨_, rfl⟩
  obtain ⟨n, hn⟩ : ∃ n, n = r.length := ⟨_, rfl⟩
  have hn20 : n ≤ 20 := by rw [hn, hr, List.length_take]; omega
  have hnc : 20 < nl → n = 20 := fun h => by rw [hn, hr, List.length_take]; omega
  have hnn : ¬ 20 < nl → n = nl := fun h => by rw [hn, hr, List.length_take]; omega
  have hSR : Sums w (.slice va n ca) r := by
    by_cases h : 20 < nl
    · rw [hnc h, hr]
      exact hv.head 20 (by omega)
    · rw [hnn h, hr, hnl]
      rw [List.take_of_length_le (by omega)]
      exact hv
  rw [← hkp] at hvp ⊢
  rw [← hnl] at hv hlc ⊢
  have hkw : ∀ u, Below w.heap.size w u → KT u := fun u hu => hK.old hu
  obtain ⟨w0, hw0⟩ : ∃ w0, w0 = w.alloc (.cells (x.map u8V ++ [Value.slice ap kp cp]).toArray 47) := ⟨_, rfl⟩
  have b0 : Below w.heap.size w w0 := by rw [hw0]; exact (Below.refl _ _).alloc (Nat.le_refl _) _
  have j5 : w0.heap[w.heap.size]? = some (.cells (x.map u8V ++ [Value.slice ap kp cp]).toArray 47 (0, 0)) := by rw [hw0]; exact heap_alloc_last w _
  have HAW := Lib.hid (awake13_any w0 (hkw _ b0))
  have HSR0 := Lib.hid hSR
  have HSP0 := Lib.hid hvp
  have HKW := Lib.hid hkw
  have HJ5 := Lib.hid j5
  have HXl := Lib.hid hx
  have Hkp := Lib.hid hkp
  have Hn := Lib.hid hn
  have HNC := Lib.hid hnc
  have HNN := Lib.hid hnn
  have Hro := Lib.hid hSR.ok
  have HPo := Lib.hid hvp.ok
  have hcut : Hid (∀ u, (Instr.sliceAt 26 (.slice va nl ca) none (some (.int .i64 20)) none).run Tryd.prog u = .ok (.slice va 20 ca) u ∨ ¬ 20 < nl) := Lib.hid fun u => by
    by_cases h : 20 < nl
    · exact .inl (scut_h va nl ca 20 (by omega) u)
    · exact .inr h
  clear hr hn hnc hnn hSR hkp hnl hv hvp hx hK hkw j5 hlc
  obtain ⟨XX, hXX⟩ : ∃ XX, XX = (x.map u8V ++ [Value.slice ap kp cp]).toArray := ⟨_, rfl⟩
  rw [← hXX] at hw0 ⊢
  clear hXX
  go_enter Tryd.func7, Tryd.ntmps7
  go_upto_region 1 with (fail)
  rw [← hw0]
  clear hw0
  go_upto_if 21 with (go_at_call 9; ((with_reducible refine HAW.out.mono ?_); rintro e w1 ⟨rfl, b1⟩; have b2 := below_step b0 (Nat.le_refl _) b1))
  have Jq5' : Hid (w1.heap[w.heap.size]? = some (.cells (x.map u8V ++ [Value.slice ap kp cp]).toArray 47 (0, 0))) := Lib.hid (heap_oldP HJ5.out b1)
  have HBW := Lib.hid b2
  obtain ⟨q5, hq5⟩ : ∃ q, q = w.heap.size := ⟨_, rfl⟩
  rw [← hq5] at Jq5' ⊢
  have Jq5 := Jq5'
  clear hq5 Jq5' HJ5 b0 b1 b2 HAW
  go_cut [8] from 22 to 23 (fun s wx => s = .slice va n ca ∧ wx = w1)
  case first =>
    by_cases h : 20 < nl
    · have hc := fun u => (hcut.out u).resolve_right (fun h' => h' h)
      have he := HNC.out h
      go_wp2_with (with_reducible refine wpList_slice_runS rfl 26 (.tmp 22) none (some (.const (.int .i64 20))) none rfl rfl rfl rfl rfl (hc _) ?_)
      go_meet
      exact ⟨by rw [he], rfl⟩
    · have he := HNN.out h
      go_wp2
      go_meet
      exact ⟨by rw [he], rfl⟩
  case rest =>
  obtain ⟨rfl, hwc⟩ := hcut
  rw [hwc]
  clear hwc HNC HNN
  rcases Nat.eq_zero_or_pos n with h0 | h0
  · have h0' : (n : Int) = 0 := by omega
    go_wp2
    go_ret
    exact ⟨rfl, HBW.out⟩
  · have h0' : ¬ (n : Int) = 0 := by omega
    obtain ⟨z, hz, m, hm, hzm⟩ := place_of a n h0
    obtain ⟨k, hk⟩ : ∃ k, k = Tree.long m n := ⟨_, rfl⟩
    have hk5 : k ≤ 5 := by rw [hk]; exact long_lt m n hn20
    have okp : okP (m : Int) (n : Int) = true := by simp [okP]; omega
    obtain ⟨p, hp⟩ : ∃ P, P = Tree.path r m := ⟨_, rfl⟩
    obtain ⟨D, hD⟩ : ∃ D, D = Tree.root r := ⟨_, rfl⟩
    have HDl : Hid (D.length = 32) := Lib.hid (by rw [hD]; exact Tree.root_length _ Hro.out)
    have hpl : p.length = k := by rw [hp, Tree.path_length _ _ _ (Nat.le_refl _), ← Hn.out, ← hk]
    obtain ⟨x0, hx0⟩ : ∃ x0, r[m]? = some x0 := ⟨_, List.getElem?_eq_getElem (by rw [← Hn.out]; exact hm)⟩
    have hx32 : x0.length = 32 := Hro.out x0 (List.mem_of_getElem? hx0)
    have hfl : foldLen (m : Int) (n : Int) p = true := by
      rw [foldLen_eq, if_pos okp, hpl, hk]
      simp
    have hfold : foldZ x0 (m : Int) (n : Int) p = (D, true) := by
      unfold foldZ
      rw [hfl, if_pos rfl]
      have e2 : turnsZ (m : Int) (n : Int) = Tree.turns m n := by unfold turnsZ; rw [if_pos okp]; rfl
      rw [e2, hp, Hn.out, Tree.path_folds _ r m x0 hx0 (Nat.le_refl _), hD]
    obtain ⟨Y, hY⟩ : ∃ Y, Y = (foldZ x (m : Int) (n : Int) P).1 := ⟨_, rfl⟩
    obtain ⟨i, hi⟩ : ∃ i, i = (foldZ x (m : Int) (n : Int) P).2 := ⟨_, rfl⟩
    have HYl : Hid (Y.length = 32) := Lib.hid (by rw [hY]; exact foldZ_length x _ _ P HXl.out)
    have HPA : Hid (∀ v u, Sums u v r → Calls Tryd.prog 24 #[v, .int .i64 (m : Int)] u fun e w' => ∃ b c, e = .returned (.tuple #[.slice b k c, .bool true]) ∧ Sums w' (.slice b k c) p ∧ Below u.heap.size u w') := Lib.hid fun v u hv => by
      have := rPath_any v r (m : Int) u hv (by have := Hn.out; omega)
      rw [pathZ_t r m (by have := Hn.out; omega), ← hp] at this
      refine this.mono fun e w' ⟨v', he, ho, hb⟩ => ?_
      obtain ⟨b, c, rfl, -, -⟩ := ho.sums.slice
      have hs := ho.sums
      simp only at hs he
      rw [hpl] at he hs
      exact ⟨b, c, he, hs, hb⟩
    have HRT : Hid (∀ v u, Sums u v r → Calls Tryd.prog 25 #[v] u fun e w' => e = .returned (sumV D) ∧ Below u.heap.size u w') := Lib.hid fun v u hv => by
      rw [hD]
      exact rleafRoot_any _ r v u rfl (by have := Hn.out; omega) hv
    have HRF : Hid (∀ v u, Sums u v P → Calls Tryd.prog 20 #[sumV x, .int .i64 (m : Int), .int .i64 (n : Int), v] u fun e w' => e = .returned (.tuple #[sumV Y, .bool i]) ∧ Below u.heap.size u w') := Lib.hid fun v u hv => by
      rw [hY, hi]
      exact rfold_long x HXl.out (m : Int) (n : Int) (by omega) (by omega) v P u hv
    obtain ⟨sm, hsm⟩ : ∃ b, b = decide (p = P) := ⟨_, rfl⟩
    have HSM : Hid (∀ v v' u, Sums u v p → Sums u v' P → Calls Tryd.prog 21 #[v, v'] u fun e w' => e = .returned (.bool sm) ∧ Below u.heap.size u w') := Lib.hid fun v v' u h1 h2 => by rw [hsm]; exact same_any v v' p P u h1 h2 (by omega)
    obtain ⟨Rz, hRz⟩ : ∃ q, q = leavesZ x0 x (m : Int) (n : Int) p P := ⟨_, rfl⟩
    obtain ⟨pr, hpr⟩ : ∃ q, q = Rz.getD ([], []) := ⟨_, rfl⟩
    obtain ⟨s, hs⟩ : ∃ s, s = Rz.isSome := ⟨_, rfl⟩
    have HLV : Hid (i = true → ∀ v v' u, Below w.heap.size w u → Sums u v p → Sums u v' P → Calls Tryd.prog 11 #[.int .i64 (m : Int), .int .i64 (n : Int), sumV x0, sumV x, v, v'] u fun e w' => e = .returned (.tuple #[twV pr, .bool s]) ∧ Below u.heap.size u w') := Lib.hid fun ht v v' u hu h1 h2 => by
      have hlP : P.length ≤ 1000 := by
        have hf := foldZ_ok (show (foldZ x (m : Int) (n : Int) P).2 = true by rw [← hi]; exact ht)
        obtain ⟨-, e⟩ := foldLen_t hf
        simp only [Int.toNat_natCast] at e
        omega
      have := Leaves_any x0 x hx32 HXl.out (m : Int) (n : Int) (by omega) (by omega) v v' p P u h1 h2 (by omega) hlP (HKW.out _ hu)
      rw [← hRz] at this
      have e : twR Rz = .tuple #[twV pr, .bool s] := by rw [hpr, hs]; rfl
      rwa [e] at this
    have hpo : all32 p := by
      rw [hp]
      exact Tree.path_all _ r m (Nat.le_refl _) Hro.out
    have hfin : i = true → Y = D → s = !(sm && decide (x = x0)) := fun ht hYD => by
      have hf := foldZ_ok (show (foldZ x (m : Int) (n : Int) P).2 = true by rw [← hi]; exact ht)
      by_cases h : x0 = x ∧ p = P
      · have hn : Rz = none := by rw [hRz]; exact leaves_no (.inr h)
        rw [hs, hn, hsm, decide_eq_true h.2, decide_eq_true h.1.symm]
        rfl
      · obtain ⟨q, hq⟩ := leaves_yes (m := (m : Int)) (n := (n : Int)) hx32 HXl.out hpo HPo.out hfl hf (by rw [hfold, ← hY, hYD]) h
        rw [hs, hRz, hq]
        symm
        rw [hsm]
        by_cases h1 : p = P
        · have h2 : ¬ x = x0 := fun e => h ⟨e.symm, h1⟩
          rw [decide_eq_true h1, decide_eq_false h2]
          rfl
        · rw [decide_eq_false h1]
          rfl
    obtain ⟨b6, o6, rfl, hb6, -, hr6⟩ : ∃ b o, va = some ⟨b, o, none⟩ ∧ b < w.heap.size ∧ n = r.length ∧ w.rangeAt b (o + m * 32) (x0.map u8V) := HSR0.out.at0 hx0
    have hw3 := IntWalk.i64_in (m : Int) (by omega)
    have HX0l := Lib.hid hx32
    have Hr6 := Lib.hid hr6
    have HFIN := Lib.hid hfin
    clear hk hk5 okp hp hD hpl hx0 hx32 hfl hfold hY hi hsm hRz hpr hs hpo hfin hr6 hcut
    go_upto_if 33 with (fail)
    have e25 : ((n : Int) == 0) = false := by simp; omega
    try simp only [e25]
    clear e25 h0'
    go_cut [9] from 34 to 35 (fun s wx => s = .int .i64 (m : Int) ∧ wx = w1)
    case first =>
      rcases hzm with ⟨hq0, rfl⟩ | ⟨hq0, rfl⟩
      · go_wp2
        go_meet
        exact ⟨by simp, rfl⟩
      · go_wp2
        go_meet
        exact ⟨by simp, rfl⟩
    case rest =>
    obtain ⟨rfl, hwc⟩ := hcut
    rw [hwc]
    clear hwc
    have HSR : Hid (Sums w1 (.slice (some ⟨b6, o6, none⟩) n ca) r) := Lib.hid (HSR0.out.old HBW.out)
    have HSP : Hid (Sums w1 (.slice ap kp cp) P) := Lib.hid (HSP0.out.old HBW.out)
    go_upto_region 11 with (go_at_call 24; ((with_reducible refine (HPA.out _ _ HSR.out).mono ?_); rintro e w3 ⟨a10, c10, rfl, hsp, b3⟩; have HPP := Lib.hid hsp; clear hsp))
    replace Jq5 := Lib.hid (heap_oldP Jq5.out b3)
    replace HSR := Lib.hid (HSR.out.old b3)
    replace HSP := Lib.hid (HSP.out.old b3)
    replace HBW := Lib.hid (below_step HBW.out (Nat.le_refl _) b3)
    clear b3
    have f50 : ∀ u, (Instr.fieldAt 47 (.pointer (some ⟨q5, 0, none⟩)) 0).run Tryd.prog u = .ok (.pointer (some ⟨q5, 0, none⟩)) u := fun u => fld_claim0 q5 u
    have f51 : ∀ u, (Instr.fieldAt 47 (.pointer (some ⟨q5, 0, none⟩)) 1).run Tryd.prog u = .ok (.pointer (some ⟨q5, 32, none⟩)) u := fun u => fld_claim1 q5 u
    have c532 : w3.cell? ⟨q5, 32, none⟩ = some (.slice ap kp cp) := claim_c Jq5.out HXl.out
    go_upto_region 12 with (first
      | refine wpList_load_mid rfl 24 (.tmp 43) rfl q5 0 rfl (x.map u8V) _ (claim_r Jq5.out HXl.out) Tryd.underlying24 rfl (sum_info' HXl.out) ?_
      | (go_at_call 20; (refine (HRF.out _ _ HSP.out).mono ?_); rintro e v4 ⟨rfl, c4⟩; have t4 := heap_alloc_last v4 zSum)
      | refine wpList_store_mid rfl 24 (.tmp 12) (.tmp 51) rfl v4.heap.size 0 (Y.map u8V).toArray rfl rfl (sum_there t4 HYl.out) (sum_info HYl.out) (sum_one Y) ?_)
    change Code.wp _ _ _ _ ((v4.alloc zSum).setCells v4.heap.size 0 (Y.map u8V))
    obtain ⟨w4, hw4⟩ : ∃ u, u = ((v4.alloc zSum).setCells v4.heap.size 0 (Y.map u8V)) := ⟨_, rfl⟩
    have k4 : Below w3.heap.size w3 w4 := by rw [hw4]; exact below_setCells c4.size _ _ _ ((c4).alloc (Nat.le_trans c4.size (by simp)) _)
    have nq12 : IsH Y w4 (v4.heap.size) := by rw [hw4]; exact (var_sum v4 Y HYl.out).1
    rw [← hw4]
    replace Jq5 := Lib.hid (heap_oldP Jq5.out k4)
    replace HSR := Lib.hid (HSR.out.old k4)
    replace HSP := Lib.hid (HSP.out.old k4)
    replace HPP := Lib.hid (HPP.out.old k4)
    replace HBW := Lib.hid (below_step HBW.out (Nat.le_refl _) k4)
    obtain ⟨q12, hq12⟩ : ∃ q, q = v4.heap.size := ⟨_, rfl⟩
    rw [← hq12] at nq12 ⊢
    have Jq12 := Lib.hid nq12
    clear hw4 k4 c4 c532 t4 nq12 hq12
    obtain ⟨W, hW⟩ : ∃ W, W = w4 := ⟨_, rfl⟩
    subst hW
    obtain ⟨cc, hcc⟩ : ∃ b, b = (!i || !decide (Y = D)) := ⟨_, rfl⟩
    go_cut [60] from 53 to 60 (fun s wx => s = .bool cc ∧ Below W.heap.size W wx)
    case first =>
      cases i with
      | false =>
        have hcv : cc = true := hcc
        clear hcc
        try simp only [Act.put]
        refine wp_region_tab [RT.is (.bool false), RT.is (.bool true), RT.is (.bool true), RT.is undef, RT.is undef, RT.is undef, RT.is undef, RT.is (.bool true)] (by kernel_rfl) (by kernel_rfl) (by kernel_rfl) (by kernel_rfl) ⟨?_, ?_, ?_, ?_, ?_, ?_, ?_, ?_, trivial⟩ ?_
        · intro ac w' hF hL hP hU K hK
          have hB := below_undrew hL
          have e13 : ac.eval (.tmp 13) = .bool false := hF.at 13 (by kernel_rfl)
          exact rop_move _ rfl e13 (wanted_none rfl) (hK _ _ (le8_refl _) rfl)
        · intro ac w' hF hL hP hU K hK
          have hB := below_undrew hL
          have e53 : ac.eval (.tmp 53) = .bool false := hP 0 (by kernel_rfl)
          exact rop_not _ _ rfl false e53 (wanted_none rfl) (hK _ _ (le8_refl _) rfl)
        · intro ac w' hF hL hP hU K hK
          have hB := below_undrew hL
          have e54 : ac.eval (.tmp 54) = .bool true := hP 1 (by kernel_rfl)
          exact rop_move _ rfl e54 (wanted_none rfl) (hK _ _ (le8_refl _) rfl)
        · intro ac w' hF hL hP hU K hK
          have hB := below_undrew hL
          have e55 : ac.eval (.tmp 55) = .bool true := hP 2 (by kernel_rfl)
          exact rop_offG (j := 2) (b := false) rfl rfl e55 (by decide) (hK _ _ (le8_refl _) rfl)
        · intro ac w' hF hL hP hU K hK
          have hB := below_undrew hL
          have e55 : ac.eval (.tmp 55) = .bool true := hP 2 (by kernel_rfl)
          exact rop_offG (j := 2) (b := false) rfl rfl e55 (by decide) (hK _ _ (le8_refl _) rfl)
        · intro ac w' hF hL hP hU K hK
          have hB := below_undrew hL
          have e55 : ac.eval (.tmp 55) = .bool true := hP 2 (by kernel_rfl)
          exact rop_offG (j := 2) (b := false) rfl rfl e55 (by decide) (hK _ _ (le8_refl _) rfl)
        · intro ac w' hF hL hP hU K hK
          have hB := below_undrew hL
          have e55 : ac.eval (.tmp 55) = .bool true := hP 2 (by kernel_rfl)
          exact rop_offG (j := 2) (b := false) rfl rfl e55 (by decide) (hK _ _ (le8_refl _) rfl)
        · intro ac w' hF hL hP hU K hK
          have hB := below_undrew hL
          have e55 : ac.eval (.tmp 55) = .bool true := hP 2 (by kernel_rfl)
          exact rop_pick _ _ _ rfl true e55 (by rfl) (wanted_none rfl) (hK _ _ (le8_refl _) rfl)
        · intro ac w' hF hB hT
          have e60 : ac.eval (.tmp 60) = .bool true := hT 7 (by decide)
          rw [hF.setsG [53, 54, 55, 56, 57, 58, 59, 60] (by kernel_rfl)]
          simp only [List.foldl_cons, List.foldl_nil, List.setIfInBounds_toArray, List.set_cons_succ, List.set_cons_zero, e60]
          generalize ac.eval (.tmp 53) = u53
          generalize ac.eval (.tmp 54) = u54
          generalize ac.eval (.tmp 55) = u55
          generalize ac.eval (.tmp 56) = u56
          generalize ac.eval (.tmp 57) = u57
          generalize ac.eval (.tmp 58) = u58
          generalize ac.eval (.tmp 59) = u59
          clear e60 hT hF ac
          go_wp2_with fail
          go_meet
          exact ⟨by rw [hcv], hB⟩
      | true =>
        by_cases hyd : Y = D
        · have hcv : cc = false := by rw [hcc, decide_eq_true hyd]; rfl
          have Hyd := Lib.hid hyd
          clear hcc hyd
          try simp only [Act.put]
          refine wp_region_tab [RT.is (.bool true), RT.is (.bool false), RT.is (.bool false), RT.is (sumV Y), RT.is (.slice (some ⟨b6, o6, none⟩) n ca), RT.is (sumV D), RT.is (.bool false), RT.is (.bool false)] (by kernel_rfl) (by kernel_rfl) (by kernel_rfl) (by kernel_rfl) ⟨?_, ?_, ?_, ?_, ?_, ?_, ?_, ?_, trivial⟩ ?_
          · intro ac w' hF hL hP hU K hK
            have hB := below_undrew hL
            have e13 : ac.eval (.tmp 13) = .bool true := hF.at 13 (by kernel_rfl)
            exact rop_move _ rfl e13 (wanted_none rfl) (hK _ _ (le8_refl _) rfl)
          · intro ac w' hF hL hP hU K hK
            have hB := below_undrew hL
            have e53 : ac.eval (.tmp 53) = .bool true := hP 0 (by kernel_rfl)
            exact rop_not _ _ rfl true e53 (wanted_none rfl) (hK _ _ (le8_refl _) rfl)
          · intro ac w' hF hL hP hU K hK
            have hB := below_undrew hL
            have e54 : ac.eval (.tmp 54) = .bool false := hP 1 (by kernel_rfl)
            exact rop_move _ rfl e54 (wanted_none rfl) (hK _ _ (le8_refl _) rfl)
          · intro ac w' hF hL hP hU K hK
            have hB := below_undrew hL
            have e12 : ac.eval (.tmp 12) = .pointer (some ⟨q12, 0, none⟩) := hF.at 12 (by kernel_rfl)
            have e55 : ac.eval (.tmp 55) = .bool false := hP 2 (by kernel_rfl)
            exact rop_ld _ _ rfl e12 (load_sumP HYl.out (range_var (IsH.old Jq12.out hB))) (wanted_of (j := 2) (b := false) rfl rfl e55) (hK _ _ (le8_refl _) rfl)
          · intro ac w' hF hL hP hU K hK
            have hB := below_undrew hL
            have e8 : ac.eval (.tmp 8) = .slice (some ⟨b6, o6, none⟩) n ca := hF.at 8 (by kernel_rfl)
            have e55 : ac.eval (.tmp 55) = .bool false := hP 2 (by kernel_rfl)
            exact rop_move _ rfl e8 (wanted_of (j := 2) (b := false) rfl rfl e55) (hK _ _ (le8_refl _) rfl)
          · intro ac w' hF hL hP hU K hK
            have hB := below_undrew hL
            have e57 : ac.eval (.tmp 57) = .slice (some ⟨b6, o6, none⟩) n ca := hP 4 (by kernel_rfl)
            have e55 : ac.eval (.tmp 55) = .bool false := hP 2 (by kernel_rfl)
            refine rop_call 25 _ _ rfl #[.slice (some ⟨b6, o6, none⟩) n ca] (by simp [e57]) (by kernel_rfl) (wanted_of (j := 2) (b := false) rfl rfl e55) ?_
            refine (HRT.out _ w' (HSR.out.old hB)).mono ?_
            rintro e w2 ⟨rfl, hb⟩
            exact ⟨_, rfl, hK _ _ hb rfl⟩
          · intro ac w' hF hL hP hU K hK
            have hB := below_undrew hL
            have e56 : ac.eval (.tmp 56) = sumV Y := hP 3 (by kernel_rfl)
            have e58 : ac.eval (.tmp 58) = sumV D := hP 5 (by kernel_rfl)
            have e55 : ac.eval (.tmp 55) = .bool false := hP 2 (by kernel_rfl)
            exact rop_bin _ _ _ _ _ rfl e56 e58 (guard_run _ _ _ _ _ w') (neq_sum_ff Y D HYl.out HDl.out Hyd.out w') (wanted_of (j := 2) (b := false) rfl rfl e55) (hK _ _ (le8_refl _) rfl)
          · intro ac w' hF hL hP hU K hK
            have hB := below_undrew hL
            have e55 : ac.eval (.tmp 55) = .bool false := hP 2 (by kernel_rfl)
            have e59 : ac.eval (.tmp 59) = .bool false := hP 6 (by kernel_rfl)
            exact rop_pick _ _ _ rfl false e55 (by simpa using e59) (wanted_none rfl) (hK _ _ (le8_refl _) rfl)
          · intro ac w' hF hB hT
            have e60 : ac.eval (.tmp 60) = .bool false := hT 7 (by decide)
            rw [hF.setsG [53, 54, 55, 56, 57, 58, 59, 60] (by kernel_rfl)]
            simp only [List.foldl_cons, List.foldl_nil, List.setIfInBounds_toArray, List.set_cons_succ, List.set_cons_zero, e60]
            generalize ac.eval (.tmp 53) = u53
            generalize ac.eval (.tmp 54) = u54
            generalize ac.eval (.tmp 55) = u55
            generalize ac.eval (.tmp 56) = u56
            generalize ac.eval (.tmp 57) = u57
            generalize ac.eval (.tmp 58) = u58
            generalize ac.eval (.tmp 59) = u59
            clear e60 hT hF ac
            go_wp2_with fail
            go_meet
            exact ⟨by rw [hcv], hB⟩
        · have hcv : cc = true := by rw [hcc, decide_eq_false hyd]; rfl
          have Hyd := Lib.hid hyd
          clear hcc hyd
          try simp only [Act.put]
          refine wp_region_tab [RT.is (.bool true), RT.is (.bool false), RT.is (.bool false), RT.is (sumV Y), RT.is (.slice (some ⟨b6, o6, none⟩) n ca), RT.is (sumV D), RT.is (.bool true), RT.is (.bool true)] (by kernel_rfl) (by kernel_rfl) (by kernel_rfl) (by kernel_rfl) ⟨?_, ?_, ?_, ?_, ?_, ?_, ?_, ?_, trivial⟩ ?_
          · intro ac w' hF hL hP hU K hK
            have hB := below_undrew hL
            have e13 : ac.eval (.tmp 13) = .bool true := hF.at 13 (by kernel_rfl)
            exact rop_move _ rfl e13 (wanted_none rfl) (hK _ _ (le8_refl _) rfl)
          · intro ac w' hF hL hP hU K hK
            have hB := below_undrew hL
            have e53 : ac.eval (.tmp 53) = .bool true := hP 0 (by kernel_rfl)
            exact rop_not _ _ rfl true e53 (wanted_none rfl) (hK _ _ (le8_refl _) rfl)
          · intro ac w' hF hL hP hU K hK
            have hB := below_undrew hL
            have e54 : ac.eval (.tmp 54) = .bool false := hP 1 (by kernel_rfl)
            exact rop_move _ rfl e54 (wanted_none rfl) (hK _ _ (le8_refl _) rfl)
          · intro ac w' hF hL hP hU K hK
            have hB := below_undrew hL
            have e12 : ac.eval (.tmp 12) = .pointer (some ⟨q12, 0, none⟩) := hF.at 12 (by kernel_rfl)
            have e55 : ac.eval (.tmp 55) = .bool false := hP 2 (by kernel_rfl)
            exact rop_ld _ _ rfl e12 (load_sumP HYl.out (range_var (IsH.old Jq12.out hB))) (wanted_of (j := 2) (b := false) rfl rfl e55) (hK _ _ (le8_refl _) rfl)
          · intro ac w' hF hL hP hU K hK
            have hB := below_undrew hL
            have e8 : ac.eval (.tmp 8) = .slice (some ⟨b6, o6, none⟩) n ca := hF.at 8 (by kernel_rfl)
            have e55 : ac.eval (.tmp 55) = .bool false := hP 2 (by kernel_rfl)
            exact rop_move _ rfl e8 (wanted_of (j := 2) (b := false) rfl rfl e55) (hK _ _ (le8_refl _) rfl)
          · intro ac w' hF hL hP hU K hK
            have hB := below_undrew hL
            have e57 : ac.eval (.tmp 57) = .slice (some ⟨b6, o6, none⟩) n ca := hP 4 (by kernel_rfl)
            have e55 : ac.eval (.tmp 55) = .bool false := hP 2 (by kernel_rfl)
            refine rop_call 25 _ _ rfl #[.slice (some ⟨b6, o6, none⟩) n ca] (by simp [e57]) (by kernel_rfl) (wanted_of (j := 2) (b := false) rfl rfl e55) ?_
            refine (HRT.out _ w' (HSR.out.old hB)).mono ?_
            rintro e w2 ⟨rfl, hb⟩
            exact ⟨_, rfl, hK _ _ hb rfl⟩
          · intro ac w' hF hL hP hU K hK
            have hB := below_undrew hL
            have e56 : ac.eval (.tmp 56) = sumV Y := hP 3 (by kernel_rfl)
            have e58 : ac.eval (.tmp 58) = sumV D := hP 5 (by kernel_rfl)
            have e55 : ac.eval (.tmp 55) = .bool false := hP 2 (by kernel_rfl)
            exact rop_bin _ _ _ _ _ rfl e56 e58 (guard_run _ _ _ _ _ w') (neq_sum_tt Y D HYl.out HDl.out Hyd.out w') (wanted_of (j := 2) (b := false) rfl rfl e55) (hK _ _ (le8_refl _) rfl)
          · intro ac w' hF hL hP hU K hK
            have hB := below_undrew hL
            have e55 : ac.eval (.tmp 55) = .bool false := hP 2 (by kernel_rfl)
            have e59 : ac.eval (.tmp 59) = .bool true := hP 6 (by kernel_rfl)
            exact rop_pick _ _ _ rfl false e55 (by simpa using e59) (wanted_none rfl) (hK _ _ (le8_refl _) rfl)
          · intro ac w' hF hB hT
            have e60 : ac.eval (.tmp 60) = .bool true := hT 7 (by decide)
            rw [hF.setsG [53, 54, 55, 56, 57, 58, 59, 60] (by kernel_rfl)]
            simp only [List.foldl_cons, List.foldl_nil, List.setIfInBounds_toArray, List.set_cons_succ, List.set_cons_zero, e60]
            generalize ac.eval (.tmp 53) = u53
            generalize ac.eval (.tmp 54) = u54
            generalize ac.eval (.tmp 55) = u55
            generalize ac.eval (.tmp 56) = u56
            generalize ac.eval (.tmp 57) = u57
            generalize ac.eval (.tmp 58) = u58
            generalize ac.eval (.tmp 59) = u59
            clear e60 hT hF ac
            go_wp2_with fail
            go_meet
            exact ⟨by rw [hcv], hB⟩
    case rest =>
    obtain ⟨rfl, hBd⟩ := hcut
    replace Jq5 := Lib.hid (heap_oldP Jq5.out hBd)
    replace HSR := Lib.hid (HSR.out.old hBd)
    replace HSP := Lib.hid (HSP.out.old hBd)
    replace HPP := Lib.hid (HPP.out.old hBd)
    replace HBW := Lib.hid (below_step HBW.out (Nat.le_refl _) hBd)
    obtain ⟨w6, hw6⟩ : ∃ W, W = wc := ⟨_, rfl⟩
    subst hw6
    clear hBd Jq12
    cases cc with
    | true =>
      clear hcc
      go_wp2
      go_ret
      exact ⟨rfl, HBW.out⟩
    | false =>
      have hit : i = true := by
        cases i with
        | true => rfl
        | false => cases hcc
      subst hit
      have hyd : Y = D := by
        by_cases h : Y = D
        · exact h
        · rw [decide_eq_false h] at hcc
          cases hcc
      have hsv := HFIN.out rfl hyd
      have HSV := Lib.hid hsv
      have c532 : w6.cell? ⟨q5, 32, none⟩ = some (.slice ap kp cp) := claim_c Jq5.out HXl.out
      clear hcc hyd hsv HFIN HRT HRF HPA
      go_upto_region 15 with (first
        | (go_at_call 21; (refine (HSM.out _ _ _ HPP.out HSP.out).mono ?_); rintro e v7 ⟨rfl, c7⟩))
      obtain ⟨w7, hw7⟩ : ∃ u, u = v7 := ⟨_, rfl⟩
      have k7 : Below w6.heap.size w6 w7 := by rw [hw7]; exact c7
      rw [← hw7]
      replace Jq5 := Lib.hid (heap_oldP Jq5.out k7)
      replace HSR := Lib.hid (HSR.out.old k7)
      replace HSP := Lib.hid (HSP.out.old k7)
      replace HPP := Lib.hid (HPP.out.old k7)
      replace HBW := Lib.hid (below_step HBW.out (Nat.le_refl _) k7)
      clear hw7 k7 c7 c532
      obtain ⟨W, hW⟩ : ∃ W, W = w7 := ⟨_, rfl⟩
      subst hW
      have hwW := HBW.out.size
      have HRM := Lib.hid (below_range' HBW.out hb6 Hr6.out)
      have hb6W : b6 < W.heap.size := Nat.lt_of_lt_of_le hb6 hwW
      have hq5W : q5 < W.heap.size := (Array.getElem?_eq_some_iff.1 Jq5.out).1
      clear HSM
      go_upto_region 15 with (fail)
      try simp only [Act.put]
      refine wp_region_leD (Lx := LeT W) LeT.refl LeT.trans [RX.is (.int .i64 (m : Int)), RX.is (.slice (some ⟨b6, o6, none⟩) n ca), RX.is (.int .i64 (n : Int)), RX.is (.slice (some ⟨b6, o6, none⟩) n ca), RX.is (.int .i64 (m : Int)), RX.is (.pointer (some ⟨b6, o6 + m * 32, none⟩)), RX.is (sumV x0), RX.is (.pointer (some ⟨q5, 0, none⟩)), RX.is (sumV x), RX.is (.slice a10 k c10), RX.is (.pointer (some ⟨q5, 32, none⟩)), RX.is (.slice ap kp cp), RX.is (.tuple #[twV pr, .bool s]), RX.is (.tuple #[twV pr, .bool s]), RX.is (twV pr), RX.is (.bool s), (⟨fun v w => ∃ e, v = .pointer (some ⟨e, 0, none⟩) ∧ W.heap.size ≤ e ∧ ∃ p, IsTw p w e, fun _ _ _ ⟨e, h1, h2, h3⟩ k => ⟨e, h1, h2, k.2 e h3⟩⟩ : RX (LeT W)), RX.any, RX.is (.bool s)] (by kernel_rfl) (by kernel_rfl) (by kernel_rfl) ⟨?_, ?_, ?_, ?_, ?_, ?_, ?_, ?_, ?_, ?_, ?_, ?_, ?_, ?_, ?_, ?_, ?_, ?_, ?_, trivial⟩ ?_
      · intro ac w' hF hL hP hU K hK
        have hB : Below W.heap.size W w' := ⟨hL.1.os, hL.1.tape, hL.1.output, hL.1.size, hL.1.block⟩
        have e9 : ac.eval (.tmp 9) = .int .i64 (m : Int) := hF.at 9 (by kernel_rfl)
        exact rop_move _ rfl e9 (wanted_none rfl) (hK _ _ (LeT.refl) rfl)
      · intro ac w' hF hL hP hU K hK
        have hB : Below W.heap.size W w' := ⟨hL.1.os, hL.1.tape, hL.1.output, hL.1.size, hL.1.block⟩
        have e8 : ac.eval (.tmp 8) = .slice (some ⟨b6, o6, none⟩) n ca := hF.at 8 (by kernel_rfl)
        exact rop_move _ rfl e8 (wanted_none rfl) (hK _ _ (LeT.refl) rfl)
      · intro ac w' hF hL hP hU K hK
        have hB : Below W.heap.size W w' := ⟨hL.1.os, hL.1.tape, hL.1.output, hL.1.size, hL.1.block⟩
        have e68 : ac.eval (.tmp 68) = .slice (some ⟨b6, o6, none⟩) n ca := hP 1 (by kernel_rfl)
        exact rop_lenG _ Tryd.underlying26 rfl e68 (wanted_none rfl) (hK _ _ (LeT.refl) rfl)
      · intro ac w' hF hL hP hU K hK
        have hB : Below W.heap.size W w' := ⟨hL.1.os, hL.1.tape, hL.1.output, hL.1.size, hL.1.block⟩
        have e8 : ac.eval (.tmp 8) = .slice (some ⟨b6, o6, none⟩) n ca := hF.at 8 (by kernel_rfl)
        exact rop_move _ rfl e8 (wanted_none rfl) (hK _ _ (LeT.refl) rfl)
      · intro ac w' hF hL hP hU K hK
        have hB : Below W.heap.size W w' := ⟨hL.1.os, hL.1.tape, hL.1.output, hL.1.size, hL.1.block⟩
        have e9 : ac.eval (.tmp 9) = .int .i64 (m : Int) := hF.at 9 (by kernel_rfl)
        exact rop_move _ rfl e9 (wanted_none rfl) (hK _ _ (LeT.refl) rfl)
      · intro ac w' hF hL hP hU K hK
        have hB : Below W.heap.size W w' := ⟨hL.1.os, hL.1.tape, hL.1.output, hL.1.size, hL.1.block⟩
        have e70 : ac.eval (.tmp 70) = .slice (some ⟨b6, o6, none⟩) n ca := hP 3 (by kernel_rfl)
        have e71 : ac.eval (.tmp 71) = .int .i64 (m : Int) := hP 4 (by kernel_rfl)
        exact rop_idx _ _ _ rfl e70 e71 (index_sums b6 o6 n ca m hm w') (wanted_none rfl) (hK _ _ (LeT.refl) rfl)
      · intro ac w' hF hL hP hU K hK
        have hB : Below W.heap.size W w' := ⟨hL.1.os, hL.1.tape, hL.1.output, hL.1.size, hL.1.block⟩
        have e72 : ac.eval (.tmp 72) = .pointer (some ⟨b6, o6 + m * 32, none⟩) := hP 5 (by kernel_rfl)
        exact rop_ld _ _ rfl e72 (load_sumP HX0l.out (below_range' hB hb6W HRM.out)) (wanted_none rfl) (hK _ _ (LeT.refl) rfl)
      · intro ac w' hF hL hP hU K hK
        have hB : Below W.heap.size W w' := ⟨hL.1.os, hL.1.tape, hL.1.output, hL.1.size, hL.1.block⟩
        have e5 : ac.eval (.tmp 5) = .pointer (some ⟨q5, 0, none⟩) := hF.at 5 (by kernel_rfl)
        exact rop_fld _ _ _ rfl e5 (fld_claim0 q5 w') (wanted_none rfl) (hK _ _ (LeT.refl) rfl)
      · intro ac w' hF hL hP hU K hK
        have hB : Below W.heap.size W w' := ⟨hL.1.os, hL.1.tape, hL.1.output, hL.1.size, hL.1.block⟩
        have e74 : ac.eval (.tmp 74) = .pointer (some ⟨q5, 0, none⟩) := hP 7 (by kernel_rfl)
        exact rop_ld _ _ rfl e74 (load_sumP HXl.out (claim_r (heap_oldP Jq5.out hB) HXl.out)) (wanted_none rfl) (hK _ _ (LeT.refl) rfl)
      · intro ac w' hF hL hP hU K hK
        have hB : Below W.heap.size W w' := ⟨hL.1.os, hL.1.tape, hL.1.output, hL.1.size, hL.1.block⟩
        have e10 : ac.eval (.tmp 10) = .slice a10 k c10 := hF.at 10 (by kernel_rfl)
        exact rop_move _ rfl e10 (wanted_none rfl) (hK _ _ (LeT.refl) rfl)
      · intro ac w' hF hL hP hU K hK
        have hB : Below W.heap.size W w' := ⟨hL.1.os, hL.1.tape, hL.1.output, hL.1.size, hL.1.block⟩
        have e5 : ac.eval (.tmp 5) = .pointer (some ⟨q5, 0, none⟩) := hF.at 5 (by kernel_rfl)
        exact rop_fld _ _ _ rfl e5 (fld_claim1 q5 w') (wanted_none rfl) (hK _ _ (LeT.refl) rfl)
      · intro ac w' hF hL hP hU K hK
        have hB : Below W.heap.size W w' := ⟨hL.1.os, hL.1.tape, hL.1.output, hL.1.size, hL.1.block⟩
        have e77 : ac.eval (.tmp 77) = .pointer (some ⟨q5, 32, none⟩) := hP 10 (by kernel_rfl)
        exact rop_ld _ _ rfl e77 (load_sumslP (claim_c (heap_oldP Jq5.out hB) HXl.out)) (wanted_none rfl) (hK _ _ (LeT.refl) rfl)
      · intro ac w' hF hL hP hU K hK
        have hB : Below W.heap.size W w' := ⟨hL.1.os, hL.1.tape, hL.1.output, hL.1.size, hL.1.block⟩
        have e67 : ac.eval (.tmp 67) = .int .i64 (m : Int) := hP 0 (by kernel_rfl)
        have e69 : ac.eval (.tmp 69) = .int .i64 (n : Int) := hP 2 (by kernel_rfl)
        have e73 : ac.eval (.tmp 73) = sumV x0 := hP 6 (by kernel_rfl)
        have e75 : ac.eval (.tmp 75) = sumV x := hP 8 (by kernel_rfl)
        have e76 : ac.eval (.tmp 76) = .slice a10 k c10 := hP 9 (by kernel_rfl)
        have e78 : ac.eval (.tmp 78) = .slice ap kp cp := hP 11 (by kernel_rfl)
        refine rop_call 11 _ _ rfl #[.int .i64 (m : Int), .int .i64 (n : Int), sumV x0, sumV x, .slice a10 k c10, .slice ap kp cp] (by simp [e67, e69, e73, e75, e76, e78]) (by kernel_rfl) (wanted_none rfl) ?_
        refine (HLV.out (by first | rfl | trivial) _ _ w' (below_step HBW.out (Nat.le_refl _) hB) (HPP.out.old hB) (HSP.out.old hB)).mono ?_
        rintro e w2 ⟨rfl, hb⟩
        exact ⟨_, rfl, hK _ _ (LeT.call hB.size hb) rfl⟩
      · intro ac w' hF hL hP hU K hK
        have hB : Below W.heap.size W w' := ⟨hL.1.os, hL.1.tape, hL.1.output, hL.1.size, hL.1.block⟩
        have e79 : ac.eval (.tmp 79) = .tuple #[twV pr, .bool s] := hP 12 (by kernel_rfl)
        exact rop_move _ rfl e79 (wanted_none rfl) (hK _ _ (LeT.refl) rfl)
      · intro ac w' hF hL hP hU K hK
        have hB : Below W.heap.size W w' := ⟨hL.1.os, hL.1.tape, hL.1.output, hL.1.size, hL.1.block⟩
        have e66 : ac.eval (.tmp 66) = .tuple #[twV pr, .bool s] := hP 13 (by kernel_rfl)
        exact rop_extractT _ 0 rfl e66 rfl (wanted_none rfl) (hK _ _ LeT.refl rfl)
      · intro ac w' hF hL hP hU K hK
        have hB : Below W.heap.size W w' := ⟨hL.1.os, hL.1.tape, hL.1.output, hL.1.size, hL.1.block⟩
        have e66 : ac.eval (.tmp 66) = .tuple #[twV pr, .bool s] := hP 13 (by kernel_rfl)
        exact rop_extractT _ 1 rfl e66 rfl (wanted_none rfl) (hK _ _ LeT.refl rfl)
      · intro ac w' hF hL hP hU K hK
        have hB : Below W.heap.size W w' := ⟨hL.1.os, hL.1.tape, hL.1.output, hL.1.size, hL.1.block⟩
        exact rop_allocP _ rfl (alloc_tw' w') (wanted_none rfl) (hK _ _ (LeT.call hB.size ((Below.refl _ _).alloc (Nat.le_refl _) _)) ⟨w'.heap.size, rfl, hB.size, ([], []), heap_alloc_last w' _⟩)
      · intro ac w' hF hL hP hU K hK
        have hB : Below W.heap.size W w' := ⟨hL.1.os, hL.1.tape, hL.1.output, hL.1.size, hL.1.block⟩
        have e15 : ∃ e, (ac.eval (.tmp 15)) = .pointer (some ⟨e, 0, none⟩) ∧ W.heap.size ≤ e ∧ ∃ p, IsTw p w' e := hP 16 (by kernel_rfl)
        have e80 : ac.eval (.tmp 80) = twV pr := hP 14 (by kernel_rfl)
        obtain ⟨e, he, hge, p0, hp0⟩ := e15
        exact rop_storeG _ _ _ rfl he e80 (store_tw hp0) (wanted_none rfl) (hK _ _ (LeT.set hge hp0) trivial)
      · intro ac w' hF hL hP hU K hK
        have hB : Below W.heap.size W w' := ⟨hL.1.os, hL.1.tape, hL.1.output, hL.1.size, hL.1.block⟩
        have e81 : ac.eval (.tmp 81) = .bool s := hP 15 (by kernel_rfl)
        exact rop_assign _ rfl e81 (wanted_none rfl) (hK _ _ (LeT.refl) rfl)
      · intro ac w' hF hL hT
        have e16 : ac.eval (.tmp 16) = .bool s := hT 18 (by decide)
        rw [hF.setsG [67, 68, 69, 70, 71, 72, 73, 74, 75, 76, 77, 78, 79, 66, 80, 81, 15, 16] (by kernel_rfl)]
        simp only [List.foldl_cons, List.foldl_nil, List.setIfInBounds_toArray, List.set_cons_succ, List.set_cons_zero, e16]
        generalize ac.eval (.tmp 67) = u67
        generalize ac.eval (.tmp 68) = u68
        generalize ac.eval (.tmp 69) = u69
        generalize ac.eval (.tmp 70) = u70
        generalize ac.eval (.tmp 71) = u71
        generalize ac.eval (.tmp 72) = u72
        generalize ac.eval (.tmp 73) = u73
        generalize ac.eval (.tmp 74) = u74
        generalize ac.eval (.tmp 75) = u75
        generalize ac.eval (.tmp 76) = u76
        generalize ac.eval (.tmp 77) = u77
        generalize ac.eval (.tmp 78) = u78
        generalize ac.eval (.tmp 79) = u79
        generalize ac.eval (.tmp 66) = u66
        generalize ac.eval (.tmp 80) = u80
        generalize ac.eval (.tmp 81) = u81
        generalize ac.eval (.tmp 15) = u15
        clear e16 hT hF ac
        have hB : Below W.heap.size W w' := ⟨hL.1.os, hL.1.tape, hL.1.output, hL.1.size, hL.1.block⟩
        replace Jq5 := Lib.hid (heap_oldP Jq5.out hB)
        replace HRM := Lib.hid (below_range' hB hb6W HRM.out)
        replace HBW := Lib.hid (below_step HBW.out (Nat.le_refl _) hB)
        replace hb6W := Nat.lt_of_lt_of_le hb6W hB.size
        obtain ⟨w9, hw9⟩ : ∃ W, W = w' := ⟨_, rfl⟩
        subst hw9
        clear hB hL hq5W
        go_upto_region 16 with (fail)
        obtain ⟨W, hW⟩ : ∃ W, W = w9 := ⟨_, rfl⟩
        subst hW
        cases sm with
        | false =>
          have hs0 : s = true := HSV.out
          subst hs0
          have hxe : True := trivial
          try simp only [Act.put]
          refine wp_region_tab [RT.is (.bool true), RT.is (.bool true), RT.is (.bool true), RT.is (.bool false), RT.is (.bool false), RT.is undef, RT.is undef, RT.is undef, RT.is undef, RT.is undef, RT.is undef, RT.is undef, RT.is (.bool false), RT.is (.bool true), RT.is (.bool true), RT.is (.bool true), RT.is (.bool true)] (by kernel_rfl) (by kernel_rfl) (by kernel_rfl) (by kernel_rfl) ⟨?_, ?_, ?_, ?_, ?_, ?_, ?_, ?_, ?_, ?_, ?_, ?_, ?_, ?_, ?_, ?_, ?_, trivial⟩ ?_
          · intro ac w' hF hL hP hU K hK
            have hB := below_undrew hL
            have e7 : ac.eval (.tmp 7) = .bool true := hF.at 7 (by kernel_rfl)
            exact rop_move _ rfl e7 (wanted_none rfl) (hK _ _ (le8_refl _) rfl)
          · intro ac w' hF hL hP hU K hK
            have hB := below_undrew hL
            have e82 : ac.eval (.tmp 82) = .bool true := hP 0 (by kernel_rfl)
            exact rop_move _ rfl e82 (wanted_none rfl) (hK _ _ (le8_refl _) rfl)
          · intro ac w' hF hL hP hU K hK
            have hB := below_undrew hL
            have e16 : ac.eval (.tmp 16) = .bool true := hF.at 16 (by kernel_rfl)
            have e83 : ac.eval (.tmp 83) = .bool true := hP 1 (by kernel_rfl)
            exact rop_move _ rfl e16 (wanted_of (j := 1) (b := true) rfl rfl e83) (hK _ _ (le8_refl _) rfl)
          · intro ac w' hF hL hP hU K hK
            have hB := below_undrew hL
            have e14 : ac.eval (.tmp 14) = .bool false := hF.at 14 (by kernel_rfl)
            have e83 : ac.eval (.tmp 83) = .bool true := hP 1 (by kernel_rfl)
            exact rop_move _ rfl e14 (wanted_of (j := 1) (b := true) rfl rfl e83) (hK _ _ (le8_refl _) rfl)
          · intro ac w' hF hL hP hU K hK
            have hB := below_undrew hL
            have e85 : ac.eval (.tmp 85) = .bool false := hP 3 (by kernel_rfl)
            have e83 : ac.eval (.tmp 83) = .bool true := hP 1 (by kernel_rfl)
            exact rop_move _ rfl e85 (wanted_of (j := 1) (b := true) rfl rfl e83) (hK _ _ (le8_refl _) rfl)
          · intro ac w' hF hL hP hU K hK
            have hB := below_undrew hL
            have e86 : ac.eval (.tmp 86) = .bool false := hP 4 (by kernel_rfl)
            exact rop_offG (j := 4) (b := true) rfl rfl e86 (by decide) (hK _ _ (le8_refl _) rfl)
          · intro ac w' hF hL hP hU K hK
            have hB := below_undrew hL
            have e86 : ac.eval (.tmp 86) = .bool false := hP 4 (by kernel_rfl)
            exact rop_offG (j := 4) (b := true) rfl rfl e86 (by decide) (hK _ _ (le8_refl _) rfl)
          · intro ac w' hF hL hP hU K hK
            have hB := below_undrew hL
            have e86 : ac.eval (.tmp 86) = .bool false := hP 4 (by kernel_rfl)
            exact rop_offG (j := 4) (b := true) rfl rfl e86 (by decide) (hK _ _ (le8_refl _) rfl)
          · intro ac w' hF hL hP hU K hK
            have hB := below_undrew hL
            have e86 : ac.eval (.tmp 86) = .bool false := hP 4 (by kernel_rfl)
            exact rop_offG (j := 4) (b := true) rfl rfl e86 (by decide) (hK _ _ (le8_refl _) rfl)
          · intro ac w' hF hL hP hU K hK
            have hB := below_undrew hL
            have e86 : ac.eval (.tmp 86) = .bool false := hP 4 (by kernel_rfl)
            exact rop_offG (j := 4) (b := true) rfl rfl e86 (by decide) (hK _ _ (le8_refl _) rfl)
          · intro ac w' hF hL hP hU K hK
            have hB := below_undrew hL
            have e86 : ac.eval (.tmp 86) = .bool false := hP 4 (by kernel_rfl)
            exact rop_offG (j := 4) (b := true) rfl rfl e86 (by decide) (hK _ _ (le8_refl _) rfl)
          · intro ac w' hF hL hP hU K hK
            have hB := below_undrew hL
            have e86 : ac.eval (.tmp 86) = .bool false := hP 4 (by kernel_rfl)
            exact rop_offG (j := 4) (b := true) rfl rfl e86 (by decide) (hK _ _ (le8_refl _) rfl)
          · intro ac w' hF hL hP hU K hK
            have hB := below_undrew hL
            have e86 : ac.eval (.tmp 86) = .bool false := hP 4 (by kernel_rfl)
            have e83 : ac.eval (.tmp 83) = .bool true := hP 1 (by kernel_rfl)
            exact rop_pick _ _ _ rfl false e86 (by rfl) (wanted_of (j := 1) (b := true) rfl rfl e83) (hK _ _ (le8_refl _) rfl)
          · intro ac w' hF hL hP hU K hK
            have hB := below_undrew hL
            have e94 : ac.eval (.tmp 94) = .bool false := hP 12 (by kernel_rfl)
            have e83 : ac.eval (.tmp 83) = .bool true := hP 1 (by kernel_rfl)
            exact rop_not _ _ rfl false e94 (wanted_of (j := 1) (b := true) rfl rfl e83) (hK _ _ (le8_refl _) rfl)
          · intro ac w' hF hL hP hU K hK
            have hB := below_undrew hL
            have e84 : ac.eval (.tmp 84) = .bool true := hP 2 (by kernel_rfl)
            have e95 : ac.eval (.tmp 95) = .bool true := hP 13 (by kernel_rfl)
            have e83 : ac.eval (.tmp 83) = .bool true := hP 1 (by kernel_rfl)
            exact rop_bin _ _ _ _ _ rfl e84 e95 (guard_bool _ _ _ _ _ _ w') (eql_bool_sameP true w') (wanted_of (j := 1) (b := true) rfl rfl e83) (hK _ _ (le8_refl _) rfl)
          · intro ac w' hF hL hP hU K hK
            have hB := below_undrew hL
            have e83 : ac.eval (.tmp 83) = .bool true := hP 1 (by kernel_rfl)
            have e96 : ac.eval (.tmp 96) = .bool true := hP 14 (by kernel_rfl)
            exact rop_pick _ _ _ rfl true e83 (by simpa using e96) (wanted_none rfl) (hK _ _ (le8_refl _) rfl)
          · intro ac w' hF hL hP hU K hK
            have hB := below_undrew hL
            have e97 : ac.eval (.tmp 97) = .bool true := hP 15 (by kernel_rfl)
            exact rop_assign _ rfl e97 (wanted_none rfl) (hK _ _ (le8_refl _) rfl)
          · intro ac w' hF hB hT
            have e6 : ac.eval (.tmp 6) = .bool true := hT 16 (by decide)
            rw [hF.setsG [82, 83, 84, 85, 86, 87, 88, 89, 90, 91, 92, 93, 94, 95, 96, 97, 6] (by kernel_rfl)]
            simp only [List.foldl_cons, List.foldl_nil, List.setIfInBounds_toArray, List.set_cons_succ, List.set_cons_zero, e6]
            generalize ac.eval (.tmp 82) = u82
            generalize ac.eval (.tmp 83) = u83
            generalize ac.eval (.tmp 84) = u84
            generalize ac.eval (.tmp 85) = u85
            generalize ac.eval (.tmp 86) = u86
            generalize ac.eval (.tmp 87) = u87
            generalize ac.eval (.tmp 88) = u88
            generalize ac.eval (.tmp 89) = u89
            generalize ac.eval (.tmp 90) = u90
            generalize ac.eval (.tmp 91) = u91
            generalize ac.eval (.tmp 92) = u92
            generalize ac.eval (.tmp 93) = u93
            generalize ac.eval (.tmp 94) = u94
            generalize ac.eval (.tmp 95) = u95
            generalize ac.eval (.tmp 96) = u96
            generalize ac.eval (.tmp 97) = u97
            clear e6 hT hF ac
            have HF := Lib.hid (below_step HBW.out (Nat.le_refl _) hB)
            clear hB
            go_wp2
            go_ret
            exact ⟨rfl, HF.out⟩
        | true =>
          by_cases hxe : x = x0
          · have hs0 : s = false := by rw [HSV.out, decide_eq_true hxe]; rfl
            subst hs0
            try simp only [Act.put]
            refine wp_region_tab [RT.is (.bool true), RT.is (.bool true), RT.is (.bool false), RT.is (.bool true), RT.is (.bool true), RT.is (.pointer (some ⟨q5, 0, none⟩)), RT.is (sumV x), RT.is (.slice (some ⟨b6, o6, none⟩) n ca), RT.is (.int .i64 (m : Int)), RT.is (.pointer (some ⟨b6, o6 + m * 32, none⟩)), RT.is (sumV x0), RT.is (.bool true), RT.is (.bool true), RT.is (.bool false), RT.is (.bool true), RT.is (.bool true), RT.is (.bool true)] (by kernel_rfl) (by kernel_rfl) (by kernel_rfl) (by kernel_rfl) ⟨?_, ?_, ?_, ?_, ?_, ?_, ?_, ?_, ?_, ?_, ?_, ?_, ?_, ?_, ?_, ?_, ?_, trivial⟩ ?_
            · intro ac w' hF hL hP hU K hK
              have hB := below_undrew hL
              have e7 : ac.eval (.tmp 7) = .bool true := hF.at 7 (by kernel_rfl)
              exact rop_move _ rfl e7 (wanted_none rfl) (hK _ _ (le8_refl _) rfl)
            · intro ac w' hF hL hP hU K hK
              have hB := below_undrew hL
              have e82 : ac.eval (.tmp 82) = .bool true := hP 0 (by kernel_rfl)
              exact rop_move _ rfl e82 (wanted_none rfl) (hK _ _ (le8_refl _) rfl)
            · intro ac w' hF hL hP hU K hK
              have hB := below_undrew hL
              have e16 : ac.eval (.tmp 16) = .bool false := hF.at 16 (by kernel_rfl)
              have e83 : ac.eval (.tmp 83) = .bool true := hP 1 (by kernel_rfl)
              exact rop_move _ rfl e16 (wanted_of (j := 1) (b := true) rfl rfl e83) (hK _ _ (le8_refl _) rfl)
            · intro ac w' hF hL hP hU K hK
              have hB := below_undrew hL
              have e14 : ac.eval (.tmp 14) = .bool true := hF.at 14 (by kernel_rfl)
              have e83 : ac.eval (.tmp 83) = .bool true := hP 1 (by kernel_rfl)
              exact rop_move _ rfl e14 (wanted_of (j := 1) (b := true) rfl rfl e83) (hK _ _ (le8_refl _) rfl)
            · intro ac w' hF hL hP hU K hK
              have hB := below_undrew hL
              have e85 : ac.eval (.tmp 85) = .bool true := hP 3 (by kernel_rfl)
              have e83 : ac.eval (.tmp 83) = .bool true := hP 1 (by kernel_rfl)
              exact rop_move _ rfl e85 (wanted_of (j := 1) (b := true) rfl rfl e83) (hK _ _ (le8_refl _) rfl)
            · intro ac w' hF hL hP hU K hK
              have hB := below_undrew hL
              have e5 : ac.eval (.tmp 5) = .pointer (some ⟨q5, 0, none⟩) := hF.at 5 (by kernel_rfl)
              have e86 : ac.eval (.tmp 86) = .bool true := hP 4 (by kernel_rfl)
              exact rop_fld _ _ _ rfl e5 (fld_claim0 q5 w') (wanted_of (j := 4) (b := true) rfl rfl e86) (hK _ _ (le8_refl _) rfl)
            · intro ac w' hF hL hP hU K hK
              have hB := below_undrew hL
              have e87 : ac.eval (.tmp 87) = .pointer (some ⟨q5, 0, none⟩) := hP 5 (by kernel_rfl)
              have e86 : ac.eval (.tmp 86) = .bool true := hP 4 (by kernel_rfl)
              exact rop_ld _ _ rfl e87 (load_sumP HXl.out (claim_r (heap_oldP Jq5.out hB) HXl.out)) (wanted_of (j := 4) (b := true) rfl rfl e86) (hK _ _ (le8_refl _) rfl)
            · intro ac w' hF hL hP hU K hK
              have hB := below_undrew hL
              have e8 : ac.eval (.tmp 8) = .slice (some ⟨b6, o6, none⟩) n ca := hF.at 8 (by kernel_rfl)
              have e86 : ac.eval (.tmp 86) = .bool true := hP 4 (by kernel_rfl)
              exact rop_move _ rfl e8 (wanted_of (j := 4) (b := true) rfl rfl e86) (hK _ _ (le8_refl _) rfl)
            · intro ac w' hF hL hP hU K hK
              have hB := below_undrew hL
              have e9 : ac.eval (.tmp 9) = .int .i64 (m : Int) := hF.at 9 (by kernel_rfl)
              have e86 : ac.eval (.tmp 86) = .bool true := hP 4 (by kernel_rfl)
              exact rop_move _ rfl e9 (wanted_of (j := 4) (b := true) rfl rfl e86) (hK _ _ (le8_refl _) rfl)
            · intro ac w' hF hL hP hU K hK
              have hB := below_undrew hL
              have e89 : ac.eval (.tmp 89) = .slice (some ⟨b6, o6, none⟩) n ca := hP 7 (by kernel_rfl)
              have e90 : ac.eval (.tmp 90) = .int .i64 (m : Int) := hP 8 (by kernel_rfl)
              have e86 : ac.eval (.tmp 86) = .bool true := hP 4 (by kernel_rfl)
              exact rop_idx _ _ _ rfl e89 e90 (index_sums b6 o6 n ca m hm w') (wanted_of (j := 4) (b := true) rfl rfl e86) (hK _ _ (le8_refl _) rfl)
            · intro ac w' hF hL hP hU K hK
              have hB := below_undrew hL
              have e91 : ac.eval (.tmp 91) = .pointer (some ⟨b6, o6 + m * 32, none⟩) := hP 9 (by kernel_rfl)
              have e86 : ac.eval (.tmp 86) = .bool true := hP 4 (by kernel_rfl)
              exact rop_ld _ _ rfl e91 (load_sumP HX0l.out (below_range' hB hb6W HRM.out)) (wanted_of (j := 4) (b := true) rfl rfl e86) (hK _ _ (le8_refl _) rfl)
            · intro ac w' hF hL hP hU K hK
              have hB := below_undrew hL
              have e88 : ac.eval (.tmp 88) = sumV x := hP 6 (by kernel_rfl)
              have e92 : ac.eval (.tmp 92) = sumV x0 := hP 10 (by kernel_rfl)
              have e86 : ac.eval (.tmp 86) = .bool true := hP 4 (by kernel_rfl)
              exact rop_bin _ _ _ _ _ rfl e88 e92 (guard_run _ _ _ _ _ w') (eql_sum_tt x x0 HXl.out HX0l.out hxe w') (wanted_of (j := 4) (b := true) rfl rfl e86) (hK _ _ (le8_refl _) rfl)
            · intro ac w' hF hL hP hU K hK
              have hB := below_undrew hL
              have e86 : ac.eval (.tmp 86) = .bool true := hP 4 (by kernel_rfl)
              have e93 : ac.eval (.tmp 93) = .bool true := hP 11 (by kernel_rfl)
              have e83 : ac.eval (.tmp 83) = .bool true := hP 1 (by kernel_rfl)
              exact rop_pick _ _ _ rfl true e86 (by simpa using e93) (wanted_of (j := 1) (b := true) rfl rfl e83) (hK _ _ (le8_refl _) rfl)
            · intro ac w' hF hL hP hU K hK
              have hB := below_undrew hL
              have e94 : ac.eval (.tmp 94) = .bool true := hP 12 (by kernel_rfl)
              have e83 : ac.eval (.tmp 83) = .bool true := hP 1 (by kernel_rfl)
              exact rop_not _ _ rfl true e94 (wanted_of (j := 1) (b := true) rfl rfl e83) (hK _ _ (le8_refl _) rfl)
            · intro ac w' hF hL hP hU K hK
              have hB := below_undrew hL
              have e84 : ac.eval (.tmp 84) = .bool false := hP 2 (by kernel_rfl)
              have e95 : ac.eval (.tmp 95) = .bool false := hP 13 (by kernel_rfl)
              have e83 : ac.eval (.tmp 83) = .bool true := hP 1 (by kernel_rfl)
              exact rop_bin _ _ _ _ _ rfl e84 e95 (guard_bool _ _ _ _ _ _ w') (eql_bool_sameP false w') (wanted_of (j := 1) (b := true) rfl rfl e83) (hK _ _ (le8_refl _) rfl)
            · intro ac w' hF hL hP hU K hK
              have hB := below_undrew hL
              have e83 : ac.eval (.tmp 83) = .bool true := hP 1 (by kernel_rfl)
              have e96 : ac.eval (.tmp 96) = .bool true := hP 14 (by kernel_rfl)
              exact rop_pick _ _ _ rfl true e83 (by simpa using e96) (wanted_none rfl) (hK _ _ (le8_refl _) rfl)
            · intro ac w' hF hL hP hU K hK
              have hB := below_undrew hL
              have e97 : ac.eval (.tmp 97) = .bool true := hP 15 (by kernel_rfl)
              exact rop_assign _ rfl e97 (wanted_none rfl) (hK _ _ (le8_refl _) rfl)
            · intro ac w' hF hB hT
              have e6 : ac.eval (.tmp 6) = .bool true := hT 16 (by decide)
              rw [hF.setsG [82, 83, 84, 85, 86, 87, 88, 89, 90, 91, 92, 93, 94, 95, 96, 97, 6] (by kernel_rfl)]
              simp only [List.foldl_cons, List.foldl_nil, List.setIfInBounds_toArray, List.set_cons_succ, List.set_cons_zero, e6]
              generalize ac.eval (.tmp 82) = u82
              generalize ac.eval (.tmp 83) = u83
              generalize ac.eval (.tmp 84) = u84
              generalize ac.eval (.tmp 85) = u85
              generalize ac.eval (.tmp 86) = u86
              generalize ac.eval (.tmp 87) = u87
              generalize ac.eval (.tmp 88) = u88
              generalize ac.eval (.tmp 89) = u89
              generalize ac.eval (.tmp 90) = u90
              generalize ac.eval (.tmp 91) = u91
              generalize ac.eval (.tmp 92) = u92
              generalize ac.eval (.tmp 93) = u93
              generalize ac.eval (.tmp 94) = u94
              generalize ac.eval (.tmp 95) = u95
              generalize ac.eval (.tmp 96) = u96
              generalize ac.eval (.tmp 97) = u97
              clear e6 hT hF ac
              have HF := Lib.hid (below_step HBW.out (Nat.le_refl _) hB)
              clear hB
              go_wp2
              go_ret
              exact ⟨rfl, HF.out⟩
          · have hs0 : s = true := by rw [HSV.out, decide_eq_false hxe]; rfl
            subst hs0
            try simp only [Act.put]
            refine wp_region_tab [RT.is (.bool true), RT.is (.bool true), RT.is (.bool true), RT.is (.bool true), RT.is (.bool true), RT.is (.pointer (some ⟨q5, 0, none⟩)), RT.is (sumV x), RT.is (.slice (some ⟨b6, o6, none⟩) n ca), RT.is (.int .i64 (m : Int)), RT.is (.pointer (some ⟨b6, o6 + m * 32, none⟩)), RT.is (sumV x0), RT.is (.bool false), RT.is (.bool false), RT.is (.bool true), RT.is (.bool true), RT.is (.bool true), RT.is (.bool true)] (by kernel_rfl) (by kernel_rfl) (by kernel_rfl) (by kernel_rfl) ⟨?_, ?_, ?_, ?_, ?_, ?_, ?_, ?_, ?_, ?_, ?_, ?_, ?_, ?_, ?_, ?_, ?_, trivial⟩ ?_
            · intro ac w' hF hL hP hU K hK
              have hB := below_undrew hL
              have e7 : ac.eval (.tmp 7) = .bool true := hF.at 7 (by kernel_rfl)
              exact rop_move _ rfl e7 (wanted_none rfl) (hK _ _ (le8_refl _) rfl)
            · intro ac w' hF hL hP hU K hK
              have hB := below_undrew hL
              have e82 : ac.eval (.tmp 82) = .bool true := hP 0 (by kernel_rfl)
              exact rop_move _ rfl e82 (wanted_none rfl) (hK _ _ (le8_refl _) rfl)
            · intro ac w' hF hL hP hU K hK
              have hB := below_undrew hL
              have e16 : ac.eval (.tmp 16) = .bool true := hF.at 16 (by kernel_rfl)
              have e83 : ac.eval (.tmp 83) = .bool true := hP 1 (by kernel_rfl)
              exact rop_move _ rfl e16 (wanted_of (j := 1) (b := true) rfl rfl e83) (hK _ _ (le8_refl _) rfl)
            · intro ac w' hF hL hP hU K hK
              have hB := below_undrew hL
              have e14 : ac.eval (.tmp 14) = .bool true := hF.at 14 (by kernel_rfl)
              have e83 : ac.eval (.tmp 83) = .bool true := hP 1 (by kernel_rfl)
              exact rop_move _ rfl e14 (wanted_of (j := 1) (b := true) rfl rfl e83) (hK _ _ (le8_refl _) rfl)
            · intro ac w' hF hL hP hU K hK
              have hB := below_undrew hL
              have e85 : ac.eval (.tmp 85) = .bool true := hP 3 (by kernel_rfl)
              have e83 : ac.eval (.tmp 83) = .bool true := hP 1 (by kernel_rfl)
              exact rop_move _ rfl e85 (wanted_of (j := 1) (b := true) rfl rfl e83) (hK _ _ (le8_refl _) rfl)
            · intro ac w' hF hL hP hU K hK
              have hB := below_undrew hL
              have e5 : ac.eval (.tmp 5) = .pointer (some ⟨q5, 0, none⟩) := hF.at 5 (by kernel_rfl)
              have e86 : ac.eval (.tmp 86) = .bool true := hP 4 (by kernel_rfl)
              exact rop_fld _ _ _ rfl e5 (fld_claim0 q5 w') (wanted_of (j := 4) (b := true) rfl rfl e86) (hK _ _ (le8_refl _) rfl)
            · intro ac w' hF hL hP hU K hK
              have hB := below_undrew hL
              have e87 : ac.eval (.tmp 87) = .pointer (some ⟨q5, 0, none⟩) := hP 5 (by kernel_rfl)
              have e86 : ac.eval (.tmp 86) = .bool true := hP 4 (by kernel_rfl)
              exact rop_ld _ _ rfl e87 (load_sumP HXl.out (claim_r (heap_oldP Jq5.out hB) HXl.out)) (wanted_of (j := 4) (b := true) rfl rfl e86) (hK _ _ (le8_refl _) rfl)
            · intro ac w' hF hL hP hU K hK
              have hB := below_undrew hL
              have e8 : ac.eval (.tmp 8) = .slice (some ⟨b6, o6, none⟩) n ca := hF.at 8 (by kernel_rfl)
              have e86 : ac.eval (.tmp 86) = .bool true := hP 4 (by kernel_rfl)
              exact rop_move _ rfl e8 (wanted_of (j := 4) (b := true) rfl rfl e86) (hK _ _ (le8_refl _) rfl)
            · intro ac w' hF hL hP hU K hK
              have hB := below_undrew hL
              have e9 : ac.eval (.tmp 9) = .int .i64 (m : Int) := hF.at 9 (by kernel_rfl)
              have e86 : ac.eval (.tmp 86) = .bool true := hP 4 (by kernel_rfl)
              exact rop_move _ rfl e9 (wanted_of (j := 4) (b := true) rfl rfl e86) (hK _ _ (le8_refl _) rfl)
            · intro ac w' hF hL hP hU K hK
              have hB := below_undrew hL
              have e89 : ac.eval (.tmp 89) = .slice (some ⟨b6, o6, none⟩) n ca := hP 7 (by kernel_rfl)
              have e90 : ac.eval (.tmp 90) = .int .i64 (m : Int) := hP 8 (by kernel_rfl)
              have e86 : ac.eval (.tmp 86) = .bool true := hP 4 (by kernel_rfl)
              exact rop_idx _ _ _ rfl e89 e90 (index_sums b6 o6 n ca m hm w') (wanted_of (j := 4) (b := true) rfl rfl e86) (hK _ _ (le8_refl _) rfl)
            · intro ac w' hF hL hP hU K hK
              have hB := below_undrew hL
              have e91 : ac.eval (.tmp 91) = .pointer (some ⟨b6, o6 + m * 32, none⟩) := hP 9 (by kernel_rfl)
              have e86 : ac.eval (.tmp 86) = .bool true := hP 4 (by kernel_rfl)
              exact rop_ld _ _ rfl e91 (load_sumP HX0l.out (below_range' hB hb6W HRM.out)) (wanted_of (j := 4) (b := true) rfl rfl e86) (hK _ _ (le8_refl _) rfl)
            · intro ac w' hF hL hP hU K hK
              have hB := below_undrew hL
              have e88 : ac.eval (.tmp 88) = sumV x := hP 6 (by kernel_rfl)
              have e92 : ac.eval (.tmp 92) = sumV x0 := hP 10 (by kernel_rfl)
              have e86 : ac.eval (.tmp 86) = .bool true := hP 4 (by kernel_rfl)
              exact rop_bin _ _ _ _ _ rfl e88 e92 (guard_run _ _ _ _ _ w') (eql_sum_ff x x0 HXl.out HX0l.out hxe w') (wanted_of (j := 4) (b := true) rfl rfl e86) (hK _ _ (le8_refl _) rfl)
            · intro ac w' hF hL hP hU K hK
              have hB := below_undrew hL
              have e86 : ac.eval (.tmp 86) = .bool true := hP 4 (by kernel_rfl)
              have e93 : ac.eval (.tmp 93) = .bool false := hP 11 (by kernel_rfl)
              have e83 : ac.eval (.tmp 83) = .bool true := hP 1 (by kernel_rfl)
              exact rop_pick _ _ _ rfl true e86 (by simpa using e93) (wanted_of (j := 1) (b := true) rfl rfl e83) (hK _ _ (le8_refl _) rfl)
            · intro ac w' hF hL hP hU K hK
              have hB := below_undrew hL
              have e94 : ac.eval (.tmp 94) = .bool false := hP 12 (by kernel_rfl)
              have e83 : ac.eval (.tmp 83) = .bool true := hP 1 (by kernel_rfl)
              exact rop_not _ _ rfl false e94 (wanted_of (j := 1) (b := true) rfl rfl e83) (hK _ _ (le8_refl _) rfl)
            · intro ac w' hF hL hP hU K hK
              have hB := below_undrew hL
              have e84 : ac.eval (.tmp 84) = .bool true := hP 2 (by kernel_rfl)
              have e95 : ac.eval (.tmp 95) = .bool true := hP 13 (by kernel_rfl)
              have e83 : ac.eval (.tmp 83) = .bool true := hP 1 (by kernel_rfl)
              exact rop_bin _ _ _ _ _ rfl e84 e95 (guard_bool _ _ _ _ _ _ w') (eql_bool_sameP true w') (wanted_of (j := 1) (b := true) rfl rfl e83) (hK _ _ (le8_refl _) rfl)
            · intro ac w' hF hL hP hU K hK
              have hB := below_undrew hL
              have e83 : ac.eval (.tmp 83) = .bool true := hP 1 (by kernel_rfl)
              have e96 : ac.eval (.tmp 96) = .bool true := hP 14 (by kernel_rfl)
              exact rop_pick _ _ _ rfl true e83 (by simpa using e96) (wanted_none rfl) (hK _ _ (le8_refl _) rfl)
            · intro ac w' hF hL hP hU K hK
              have hB := below_undrew hL
              have e97 : ac.eval (.tmp 97) = .bool true := hP 15 (by kernel_rfl)
              exact rop_assign _ rfl e97 (wanted_none rfl) (hK _ _ (le8_refl _) rfl)
            · intro ac w' hF hB hT
              have e6 : ac.eval (.tmp 6) = .bool true := hT 16 (by decide)
              rw [hF.setsG [82, 83, 84, 85, 86, 87, 88, 89, 90, 91, 92, 93, 94, 95, 96, 97, 6] (by kernel_rfl)]
              simp only [List.foldl_cons, List.foldl_nil, List.setIfInBounds_toArray, List.set_cons_succ, List.set_cons_zero, e6]
              generalize ac.eval (.tmp 82) = u82
              generalize ac.eval (.tmp 83) = u83
              generalize ac.eval (.tmp 84) = u84
              generalize ac.eval (.tmp 85) = u85
              generalize ac.eval (.tmp 86) = u86
              generalize ac.eval (.tmp 87) = u87
              generalize ac.eval (.tmp 88) = u88
              generalize ac.eval (.tmp 89) = u89
              generalize ac.eval (.tmp 90) = u90
              generalize ac.eval (.tmp 91) = u91
              generalize ac.eval (.tmp 92) = u92
              generalize ac.eval (.tmp 93) = u93
              generalize ac.eval (.tmp 94) = u94
              generalize ac.eval (.tmp 95) = u95
              generalize ac.eval (.tmp 96) = u96
              generalize ac.eval (.tmp 97) = u97
              clear e6 hT hF ac
              have HF := Lib.hid (below_step HBW.out (Nat.le_refl _) hB)
              clear hB
              go_wp2
              go_ret
              exact ⟨rfl, HF.out⟩

set_option maxRecDepth 100000 in
theorem lifted (os : Os) (started : os.Started) (H : Type) (enc : TypeId × Value → H) :
    ReturnsInHanded {} Tryd.checked os 7 .any (fun w args => (Rows.twinTreeSpec.pre enc Tryd.prog Tryd.f7 [] false w args ∧ laidMetH Tryd.prog [("scrinium/sha.k", Rows.laid_scrinium_sha_k)] w) ∧ sizedMet enc Tryd.prog Tryd.f7 (OpenSpec.ofChange Rows.twinTreeSpec) false w args)
      (Rows.twinTreeSpec.post enc Tryd.prog Tryd.f7 false true false false) := by
  refine returnsInHanded_of_change_and (C := Tryd.checked) (X := fun w _ => laidMetH Tryd.prog [("scrinium/sha.k", Rows.laid_scrinium_sha_k)] w) (fun _ _ _ hh h => h.of_heap hh) lawOwn started (by kernel_rfl) Tryd.func7
    (ChangeSpec.witness_shaped (enc := enc) (C := Tryd.checked) (os := os) (X := fun w _ => laidMetH Tryd.prog [("scrinium/sha.k", Rows.laid_scrinium_sha_k)] w) false (World.doorLaid Tryd.prog 400 os) #[.slice none 0 0, .int .i64 0, .agg ((List.replicate 32 (0 : UInt8)).map u8V ++ [Value.slice none 0 0]).toArray] 8 rfl (World.shaped_of_RefB (by kernel_rfl) (by kernel_rfl)) (by kernel_rfl) (by kernel_rfl) (by kernel_rfl) (door_met os _)) ?_
  intro W base args ds gs before hval0 hW _ _ hL _
  have hval : ∀ (j : Nat) t v, Tryd.f7.params[j]? = some t → args[j]? = some v → Value.okWide Tryd.prog W .any base t v := hval0
  have hW' := hW
  obtain ⟨p, q, hA0, hV, rfl, hfz, hnd⟩ := hW
  have hA : DataW.TrodAll enc Tryd.prog W 0 (fun _ => true) true Tryd.f7.params.toList args.toList ds p := hA0
  rw [Tryd.params7] at hA hval
  obtain ⟨v0, vs0, d0, ds0, p0, q0, hargs, rfl, rfl, h0, r0⟩ := trodAll_cons hA
  obtain ⟨v1, vs1, d1, ds1, p1, q1, rfl, rfl, rfl, h1, r1⟩ := trodAll_cons r0
  obtain ⟨v2, vs2, d2, ds2, p2, q2, rfl, rfl, rfl, h2, r2⟩ := trodAll_cons r1
  obtain ⟨rfl, rfl, rfl⟩ := trodAll_nil r2
  obtain rfl : args = #[v0, v1, v2] := by cases args; simp_all
  obtain ⟨rfl, rfl⟩ := trodVars_none hV
  have hKT := KT_of_laid hL
  obtain ⟨a0, len0, cap0, rfl⟩ := okWide_slice Tryd.underlying26 (hval 0 26 v0 rfl rfl)
  obtain ⟨l0, w0⟩ := sums_of h0
  obtain ⟨a1, rfl, rfl, rfl, w1⟩ := open_int Tryd.underlying3 (hval 1 3 v1 rfl rfl) h1
  obtain ⟨x2, r2v, l2, rfl, w2, u2⟩ := open_claim (hval 2 47 v2 rfl rfl) h2
  clear hA0 hval0
  obtain ⟨l1, m1⟩ := i64_bounds w1
  refine (walk (w := W) hKT _ l0 w0 a1 l1 m1 x2 w2 r2v l2 u2).mono fun e W' ⟨he, bel⟩ => ?_
  subst he
  exact ⟨_, rfl, law_post rfl rfl (by kernel_rfl) hW' rfl bel⟩

theorem row_holds : Rows.TwinTreeSaid :=
  OpenClaim.holds_of_wide 7 Tryd.f7 rfl rfl rfl rfl rfl rfl rfl ⟨rfl, rfl, rfl, rfl, rfl⟩ rfl rfl rfl rfl rfl (by kernel_rfl) Tryd.func7 (by kernel_rfl)
    (of_decide_eq_true (by kernel_rfl)) (by unfold Func.isWrapper; first | (rw [if_pos (by decide +kernel)]; kernel_rfl) | (rw [if_neg (by decide +kernel)]; exact ⟨rfl, rfl⟩))
    (fun os started H enc _ => lifted os started H enc)

theorem holds : Rows.TwinTreeCardSaid :=
  Claim7.holds_tied_plain_at .later [] [.data] true Rows.twinTreeCard.stood.harness false
    row_holds (fun _ h => by cases h) (by kernel_rfl) (fun _ h => by cases h) twinTree_row_tie rfl ⟨rfl, rfl⟩ (by kernel_rfl) rfl
    (fun f fn hf hfn => by
      obtain rfl : f = 7 := Option.some.inj ((show Tryd.prog.funcNamed "scrinium/scriniumlaw13.TwinTree" = some 7 by kernel_rfl).symm.trans hf) |>.symm
      obtain rfl : fn = Tryd.f7 := (Option.some.inj (Tryd.func7.symm.trans hfn)).symm
      exact ⟨by kernel_rfl, fun j t ht => by
        rw [Tryd.params7] at ht
        have hm : t ∈ [26, 3, 47] := by simpa using Array.mem_of_getElem? ht
        have hall : ([26, 3, 47].all fun u => !Tryd.prog.wantsStandIn u) = true := by kernel_rfl
        exact (show Tryd.prog.wantsStandIn t = false by simpa using List.all_eq_true.1 hall t hm)⟩)
    (by kernel_rfl)
end Go.Proofs.YtdcebdleneieeaaDoor.twinTree

theorem Go.Proofs.YtdcebdleneieeaaDoor.twinTree_holds : Go.Proofs.YtdcebdleneieeaaDoor.Rows.TwinTreeCardSaid := Go.Proofs.YtdcebdleneieeaaDoor.twinTree.holds
#print axioms Go.Proofs.YtdcebdleneieeaaDoor.twinTree_holds
