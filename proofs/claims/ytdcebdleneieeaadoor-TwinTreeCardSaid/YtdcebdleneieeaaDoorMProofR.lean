/-
  Several texts in one (RProofFold, RProofBoth, RProofGoes, ProofAwake, ProofArg, ProofHelp).
-/
import Derived.Test.YtdcebdleneieeaaDoorMProofA
import Derived.Test.YtdcebdleneieeaaDoorMGen
import Derived.Test.YtdcebdleneieeaaDoorMLeafB
import Derived.Test.YtdcebdleneieeaaDoorMProofB
import Derived.Test.YtdcebdleneieeaaDoorMPathB
import Derived.Test.YtdcebdleneieeaaDoorMLeafL
import Derived.Test.YtdcebdleneieeaaDoorMLeafA
import Derived.Test.YtdcebdleneieeaaDoorMArg
/-! ## The document's own Fold (scriniumref12). -/
namespace Go.Proofs.YtdcebdleneieeaaDoor
open Go.RowKit

set_option maxHeartbeats 4000000 in
set_option maxRecDepth 100000 in
theorem rfold_any (x : List UInt8) (hx : x.length = 32) (m n : Int) (l1 : m ≤ 9223372036854775807) (l2 : n ≤ 9223372036854775807) (v : Value) (P : Hs) (w : World) (hv : Sums w v P) (hP : P.length ≤ 1000) :
    Calls Tryd.prog 20 #[sumV x, .int .i64 m, .int .i64 n, v] w fun e w' => e = .returned (.tuple #[sumV (foldZ x m n P).1, .bool (foldZ x m n P).2]) ∧ Below w.heap.size w w' := by
  obtain ⟨va, cap, rfl, hlc, hcap⟩ := hv.slice
  obtain ⟨k, hk⟩ : ∃ k, k = P.length := ⟨_, rfl⟩
  obtain ⟨w0, hw0⟩ : ∃ w0, w0 = (w.alloc (.cells (x.map u8V).toArray 24)).alloc zSum := ⟨_, rfl⟩
  have b0 : Below w.heap.size w w0 := by rw [hw0]; exact ((Below.refl _ _).alloc (Nat.le_refl _) _).alloc (by simp) _
  have h1 : w0.heap[w.heap.size]? = some (.cells (x.map u8V).toArray 24 (0, 0)) := by
    rw [hw0]
    exact (((Below.refl (w.alloc (.cells (x.map u8V).toArray 24)).heap.size _).alloc (Nat.le_refl _) _).block w.heap.size (by simp)).trans (heap_alloc_last w _)
  have h2 : w0.heap[w.heap.size + 1]? = some (.cells ((List.replicate 32 (0 : UInt8)).map u8V).toArray 24 (0, 0)) := by
    have := heap_alloc_last (w.alloc (.cells (x.map u8V).toArray 24)) zSum
    rwa [World.size_alloc, ← hw0] at this
  have hsz : w0.heap.size = w.heap.size + 2 := by rw [hw0]; simp
  obtain ⟨z, hz⟩ : ∃ z, z = (if okP m n then ((Tree.long m.toNat n.toNat : Nat) : Int) else -1) := ⟨_, rfl⟩
  have HLO : Hid (∀ u, Calls Tryd.prog 19 #[.int .i64 m, .int .i64 n] u fun e w' => e = .returned (.int .i64 z) ∧ Below u.heap.size u w') := Lib.hid fun u => by rw [hz]; exact rlong_any m n u l1 l2
  have hfl : foldLen m n P = decide ((k : Int) = z) := by unfold foldLen; rw [hz, hk]
  have hfz : foldZ x m n P = if decide ((k : Int) = z) then (Tree.fold x P (turnsZ m n), true) else (List.replicate 32 0, false) := by unfold foldZ; rw [hfl]
  have HV := Lib.hid hv
  have HB := Lib.hid b0
  have HX := Lib.hid hx
  have H1 := Lib.hid h1
  have H2 := Lib.hid h2
  rw [← hk] at HV ⊢
  by_cases hkz : (k : Int) = z
  · obtain ⟨hok, hkl⟩ := foldLen_t (by rw [hfl]; exact decide_eq_true hkz)
    rw [hfz, if_pos (decide_eq_true hkz)]
    obtain ⟨T, hT⟩ : ∃ T, T = turnsZ m n := ⟨_, rfl⟩
    have hTl : T.length = k := by rw [hT, hk, hkl]; unfold turnsZ; rw [if_pos hok]; rfl
    have HTU : Hid (∀ u, Calls Tryd.prog 40 #[.int .i64 m, .int .i64 n] u fun e w' => ∃ b c, e = .returned (.slice b k c) ∧ OwnB u.heap.size w' (.slice b k c) T ∧ Below u.heap.size u w') := Lib.hid fun u => by
      have := rturns_any m n u l1 l2
      rw [← hT] at this
      refine this.mono fun e w' ⟨v', he, ho, hb⟩ => ?_
      obtain ⟨b, c, rfl, -, -⟩ := ho.bools.slice
      have hs := ho
      rw [hTl] at he hs
      exact ⟨b, c, he, hs, hb⟩
    rw [← hT]
    obtain ⟨D, hD⟩ : ∃ D, D = Tree.fold x P T := ⟨_, rfl⟩
    rw [← hD]
    have HD := Lib.hid hD
    have HTl := Lib.hid hTl
    have Hk := Lib.hid hk
    have HPok := Lib.hid hv.ok
    have hsz1 : w.heap.size < w0.heap.size := by omega
    have hsz2 : w.heap.size + 1 < w0.heap.size := by omega
    obtain rfl : z = (k : Int) := hkz.symm
    clear hfz hfl hz hok hkl hT hTl hD hkz hk b0 h1 h2 hx hv l1 l2 hsz hcap hlc
    unfold sumV
    go_enter Tryd.func20, Tryd.ntmps20
    go_upto_region 1 with (fail)
    change Code.wp _ _ _ _ ((w.alloc (.cells (x.map u8V).toArray 24)).alloc zSum)
    rw [← hw0]
    clear hw0
    go_upto_region 5 with (first
      | (go_at_call 19; ((with_reducible refine (HLO.out _).mono ?_); rintro e w1 ⟨rfl, b1⟩))
      | (go_at_call 40; ((with_reducible refine (HTU.out _).mono ?_); rintro e w3 ⟨aT, cT, rfl, hst, b3⟩; have HST := Lib.hid hst; clear hst)))
    have b13 := below_step b1 (Nat.le_refl _) b3
    have hbv : Below w.heap.size w w3 := below_step HB.out (Nat.le_refl _) b13
    have z1 := Lib.hid ((b13.block _ hsz1).trans H1.out)
    have z2 := Lib.hid ((b13.block _ hsz2).trans H2.out)
    have hq2 : w.heap.size + 1 < w3.heap.size := Nat.lt_of_lt_of_le hsz2 b13.size
    obtain ⟨V, hV⟩ : ∃ V, V = w3 := ⟨_, rfl⟩
    obtain ⟨r, hr⟩ : ∃ r, r = w.heap.size + 1 := ⟨_, rfl⟩
    obtain ⟨q, hq⟩ : ∃ q, q = w.heap.size := ⟨_, rfl⟩
    have hw1s : w0.heap.size ≤ w1.heap.size := b1.size
    rw [← hV] at hbv z1 z2 hq2 HST ⊢
    have hs3 : Sums V (.slice va k cap) P := HV.out.old hbv
    have hsb : ∀ b off, va = some ⟨b, off, none⟩ → 0 < k → b < q := fun b off e h0 => by
      obtain ⟨b', off', e', hb, -⟩ := HV.out.at 0 (by rw [← Hk.out]; exact h0)
      rw [e] at e'
      injection e' with e'
      injection e' with e1
      omega
    rw [← hr] at z2 hq2 ⊢
    rw [← hq] at z1 ⊢
    have hqr : q < r := by omega
    have hqV : q < V.heap.size := by omega
    have hw02 : r < w0.heap.size := by omega
    have HS3 := Lib.hid hs3
    have Hq := Lib.hid hq
    have Hr := Lib.hid hr
    have HBV := Lib.hid hbv
    clear hs3 hV b1 b3 b13 hq hr hbv hsz1 hsz2
    go_wp2
    go_loopw [11] (FoRel P T D q V) (fun s11 _ => k - (intOf s11).toNat)
    case atStart => exact ⟨0, x, rfl, by omega, HX.out, HD.out.symm, Only.refl _ _, z1.out⟩
    case round =>
      obtain ⟨i, X, rfl, hi, hXl, hfo, honly, hqc⟩ := hrel
      rw [HTl.out] at hi
      have HXl := Lib.hid hXl
      have HFo := Lib.hid hfo
      have HO := Lib.hid honly
      have HQC := Lib.hid hqc
      have hzr : wr.heap[r]? = some (.cells ((List.replicate 32 (0 : UInt8)).map u8V).toArray 24 (0, 0)) := (honly.block r hq2 (by omega)).trans z2.out
      have HZR := Lib.hid hzr
      clear hXl hfo honly hqc hzr
      by_cases hik : i < k
      · have hik' : (i : Int) < (k : Int) := by omega
        obtain ⟨p, hp⟩ : ∃ p, P[i]? = some p := ⟨_, List.getElem?_eq_getElem (by rw [← Hk.out]; exact hik)⟩
        obtain ⟨tb, htb⟩ : ∃ tb, T[i]? = some tb := ⟨_, List.getElem?_eq_getElem (by rw [HTl.out]; exact hik)⟩
        have hpl : p.length = 32 := HPok.out p (List.mem_of_getElem? hp)
        obtain ⟨gT, rfl, hg1, hg2, -, hgc⟩ := HST.out.at0 htb
        obtain ⟨bp, op, rfl, hb2, -, hrp⟩ := HS3.out.at0 hp
        have hbq := hsb bp op rfl (by omega)
        have hct : wr.cell? ⟨gT, i, none⟩ = some (.bool tb) := (HO.out.cell hg2 (by omega)).trans hgc
        have hrp' : wr.rangeAt bp (op + i * 32) (p.map u8V) := fun j u hu => (HO.out.cell hb2 (by omega)).trans (hrp j u hu)
        have hidx1 := fun u => index_bools gT 0 k cT i (i : Int) rfl hik u
        have hidx2 := fun u => index_sums bp op k cap i hik u
        rw [Nat.zero_add] at hidx1
        obtain ⟨D2, hD2⟩ : ∃ D2, D2 = Tree.step X p tb := ⟨_, rfl⟩
        have hD2l : D2.length = 32 := by rw [hD2]; exact Tree.step_length _ _ _
        have hfo2 : Tree.fold D2 (P.drop (i + 1)) (T.drop (i + 1)) = D := by
          have e := HFo.out
          obtain ⟨hi1, hi2⟩ := List.getElem?_eq_some_iff.1 hp
          obtain ⟨hj1, hj2⟩ := List.getElem?_eq_some_iff.1 htb
          rw [List.drop_eq_getElem_cons hi1, List.drop_eq_getElem_cons hj1, hi2, hj2, foldP_cons, ← hD2] at e
          exact e
        have HRP := Lib.hid hrp'
        have HPl := Lib.hid hpl
        have HD2 := Lib.hid hD2
        have HD2l := Lib.hid hD2l
        have HFo2 := Lib.hid hfo2
        have hqw : q < wr.heap.size := Nat.lt_of_lt_of_le hqV HO.out.size
        have hwr := IntWalk.i64_in ((i : Int) + 1) (by have := Hk.out; omega)
        have hbpW : bp < wr.heap.size := Nat.lt_of_lt_of_le hb2 HO.out.size
        have HN : Hid (∀ u : World, Calls Tryd.prog 41 #[if tb then sumV p else sumV X, if tb then sumV X else sumV p] u fun e w' => e = .returned (sumV D2) ∧ Below u.heap.size u w') := Lib.hid fun u => by
          rw [hD2]
          cases tb with
          | true => exact rleafNode_any p X hpl HXl.out u
          | false => exact rleafNode_any X p HXl.out hpl u
        clear hp htb hpl hrp hrp' hgc hD2 hD2l hfo2 hb2 hbq hg1 hg2 HFo hsb
        obtain ⟨W, hW⟩ : ∃ W, W = wr := ⟨_, rfl⟩
        subst hW
        cases tb with
        | true =>
          have HN : Hid (∀ u : World, Calls Tryd.prog 41 #[sumV p, sumV X] u fun e w' => e = .returned (sumV D2) ∧ Below u.heap.size u w') := HN
          go_upto_region 8 with (fail)
          try simp only [Act.put]
          refine wp_region_ph (Lx := GLx 2) [RXP.is (.slice (some ⟨bp, op, none⟩) k cap), RXP.is (.int .i64 (i : Int)), RXP.is (.pointer (some ⟨bp, op + i * 32, none⟩)), RXP.is (sumV p), RXP.is (sumV X), RXP.is (sumV D2), RXP.any] [5, 6] (fun k w' => (k < 2 → Below W.heap.size W w') ∧ (k = 2 → ∃ u, Below W.heap.size W u ∧ w' = u.setCells q 0 (D2.map u8V))) (by kernel_rfl) (by kernel_rfl) (by kernel_rfl) (by kernel_rfl) (by kernel_rfl) (⟨fun _ => below_drew (Below.refl _ _), fun h => absurd h (by decide)⟩) ⟨?_, ?_, ?_, ?_, ?_, ?_, ?_, trivial⟩ ?_
          · intro ac w' ph hF hPh hlt hP hU K hK0
            have e3 : ac.eval (.tmp 3) = .slice (some ⟨bp, op, none⟩) k cap := hF.at 3 (by kernel_rfl)
            exact rop_move _ rfl e3 (wanted_none rfl) (hK0 _ _ GLx.same hPh rfl)
          · intro ac w' ph hF hPh hlt hP hU K hK0
            have e11 : ac.eval (.tmp 11) = .int .i64 (i : Int) := hF.at 11 (by kernel_rfl)
            exact rop_move _ rfl e11 (wanted_none rfl) (hK0 _ _ GLx.same hPh rfl)
          · intro ac w' ph hF hPh hlt hP hU K hK0
            have e32 : ac.eval (.tmp 32) = .slice (some ⟨bp, op, none⟩) k cap := hP 0 (by kernel_rfl)
            have e33 : ac.eval (.tmp 33) = .int .i64 (i : Int) := hP 1 (by kernel_rfl)
            exact rop_idx _ _ _ rfl e32 e33 (index_sums bp op k cap i hik w') (wanted_none rfl) (hK0 _ _ GLx.same hPh rfl)
          · intro ac w' ph hF hPh hlt hP hU K hK0
            have hph : ph ≤ 0 := (hlt 0 5 rfl).2 (by kernel_rfl)
            have e34 : ac.eval (.tmp 34) = .pointer (some ⟨bp, op + i * 32, none⟩) := hP 2 (by kernel_rfl)
            exact rop_ld _ _ rfl e34 (load_sumP HPl.out (below_range (hPh.1 (by omega)) hbpW HRP.out)) (wanted_none rfl) (hK0 _ _ GLx.same hPh rfl)
          · intro ac w' ph hF hPh hlt hP hU K hK0
            have hph : ph ≤ 0 := (hlt 0 5 rfl).2 (by kernel_rfl)
            have e4 : ac.eval (.tmp 4) = .pointer (some ⟨q, 0, none⟩) := hF.at 4 (by kernel_rfl)
            exact rop_ld _ _ rfl e4 (load_sumP HXl.out (below_range (hPh.1 (by omega)) hqw (range_var HQC.out))) (wanted_none rfl) (hK0 _ _ GLx.same hPh rfl)
          · intro ac w' ph hF hPh hlt hP hU K hK0
            obtain rfl : ph = 0 := (hlt 0 5 rfl).1 rfl
            have e35 : ac.eval (.tmp 35) = sumV p := hP 3 (by kernel_rfl)
            have e36 : ac.eval (.tmp 36) = sumV X := hP 4 (by kernel_rfl)
            have hB : Below W.heap.size W w' := hPh.1 (by decide)
            refine rop_call 41 _ _ rfl #[sumV p, sumV X] (by simp [e35, e36]) (by kernel_rfl) (wanted_none rfl) ?_
            refine (HN.out w').mono ?_
            rintro e w2 ⟨rfl, hb⟩
            exact ⟨_, rfl, hK0 _ _ (GLx.old (by decide) hb) ⟨fun _ => below_step hB (Nat.le_refl _) hb, fun h => absurd h (by decide)⟩ rfl⟩
          · intro ac w' ph hF hPh hlt hP hU K hK0
            obtain rfl : ph = 1 := (hlt 1 6 rfl).1 rfl
            have e4 : ac.eval (.tmp 4) = .pointer (some ⟨q, 0, none⟩) := hF.at 4 (by kernel_rfl)
            have e37 : ac.eval (.tmp 37) = sumV D2 := hP 5 (by kernel_rfl)
            have hB : Below W.heap.size W w' := hPh.1 (by decide)
            have hz := (hB.block q hqw).trans HQC.out
            exact rop_storeG _ _ _ rfl e4 e37 (run_storeAt_mid w' q 0 _ _ (sum_thereP hz HXl.out HD2l.out) (sum_info HD2l.out) (sum_one D2)) (wanted_none rfl) (hK0 undef _ (GLx.last rfl) ⟨fun h => absurd h (by decide), fun _ => ⟨w', hB, rfl⟩⟩ trivial)
          · intro ac w' hF hPh hT
            rw [hF.setsG [32, 33, 34, 35, 36, 37] (by kernel_rfl)]
            simp only [List.foldl_cons, List.foldl_nil, List.setIfInBounds_toArray, List.set_cons_succ, List.set_cons_zero]
            generalize ac.eval (.tmp 32) = u32
            generalize ac.eval (.tmp 33) = u33
            generalize ac.eval (.tmp 34) = u34
            generalize ac.eval (.tmp 35) = u35
            generalize ac.eval (.tmp 36) = u36
            generalize ac.eval (.tmp 37) = u37
            clear  hT hF ac
            obtain ⟨u2, hu2, rfl⟩ := hPh.2 rfl
            have hz2 := (hu2.block q hqw).trans HQC.out
            have HG : Hid (FoRel P T D q V (.int .i64 (((i + 1 : Nat)) : Int)) (u2.setCells q 0 (D2.map u8V))) := Lib.hid ⟨i + 1, D2, rfl, by rw [HTl.out]; omega, HD2l.out, HFo2.out, (HO.out.trans (Only.of_below hu2)).trans (only_setCells (b := q) (D2.map u8V) 0 _ (Only.refl _ _)), set_sumP u2 q X D2 HXl.out HD2l.out hz2⟩
            clear hz2 hu2 hPh
            go_wp2
            exact ⟨by have := HG.out; simpa using this, by simp [intOf]; omega⟩
        | false =>
          have HN : Hid (∀ u : World, Calls Tryd.prog 41 #[sumV X, sumV p] u fun e w' => e = .returned (sumV D2) ∧ Below u.heap.size u w') := HN
          go_upto_region 9 with (fail)
          try simp only [Act.put]
          refine wp_region_ph (Lx := GLx 2) [RXP.is (sumV X), RXP.is (.slice (some ⟨bp, op, none⟩) k cap), RXP.is (.int .i64 (i : Int)), RXP.is (.pointer (some ⟨bp, op + i * 32, none⟩)), RXP.is (sumV p), RXP.is (sumV D2), RXP.any] [5, 6] (fun k w' => (k < 2 → Below W.heap.size W w') ∧ (k = 2 → ∃ u, Below W.heap.size W u ∧ w' = u.setCells q 0 (D2.map u8V))) (by kernel_rfl) (by kernel_rfl) (by kernel_rfl) (by kernel_rfl) (by kernel_rfl) (⟨fun _ => below_drew (Below.refl _ _), fun h => absurd h (by decide)⟩) ⟨?_, ?_, ?_, ?_, ?_, ?_, ?_, trivial⟩ ?_
          · intro ac w' ph hF hPh hlt hP hU K hK0
            have hph : ph ≤ 0 := (hlt 0 5 rfl).2 (by kernel_rfl)
            have e4 : ac.eval (.tmp 4) = .pointer (some ⟨q, 0, none⟩) := hF.at 4 (by kernel_rfl)
            exact rop_ld _ _ rfl e4 (load_sumP HXl.out (below_range (hPh.1 (by omega)) hqw (range_var HQC.out))) (wanted_none rfl) (hK0 _ _ GLx.same hPh rfl)
          · intro ac w' ph hF hPh hlt hP hU K hK0
            have e3 : ac.eval (.tmp 3) = .slice (some ⟨bp, op, none⟩) k cap := hF.at 3 (by kernel_rfl)
            exact rop_move _ rfl e3 (wanted_none rfl) (hK0 _ _ GLx.same hPh rfl)
          · intro ac w' ph hF hPh hlt hP hU K hK0
            have e11 : ac.eval (.tmp 11) = .int .i64 (i : Int) := hF.at 11 (by kernel_rfl)
            exact rop_move _ rfl e11 (wanted_none rfl) (hK0 _ _ GLx.same hPh rfl)
          · intro ac w' ph hF hPh hlt hP hU K hK0
            have e39 : ac.eval (.tmp 39) = .slice (some ⟨bp, op, none⟩) k cap := hP 1 (by kernel_rfl)
            have e40 : ac.eval (.tmp 40) = .int .i64 (i : Int) := hP 2 (by kernel_rfl)
            exact rop_idx _ _ _ rfl e39 e40 (index_sums bp op k cap i hik w') (wanted_none rfl) (hK0 _ _ GLx.same hPh rfl)
          · intro ac w' ph hF hPh hlt hP hU K hK0
            have hph : ph ≤ 0 := (hlt 0 5 rfl).2 (by kernel_rfl)
            have e41 : ac.eval (.tmp 41) = .pointer (some ⟨bp, op + i * 32, none⟩) := hP 3 (by kernel_rfl)
            exact rop_ld _ _ rfl e41 (load_sumP HPl.out (below_range (hPh.1 (by omega)) hbpW HRP.out)) (wanted_none rfl) (hK0 _ _ GLx.same hPh rfl)
          · intro ac w' ph hF hPh hlt hP hU K hK0
            obtain rfl : ph = 0 := (hlt 0 5 rfl).1 rfl
            have e38 : ac.eval (.tmp 38) = sumV X := hP 0 (by kernel_rfl)
            have e42 : ac.eval (.tmp 42) = sumV p := hP 4 (by kernel_rfl)
            have hB : Below W.heap.size W w' := hPh.1 (by decide)
            refine rop_call 41 _ _ rfl #[sumV X, sumV p] (by simp [e38, e42]) (by kernel_rfl) (wanted_none rfl) ?_
            refine (HN.out w').mono ?_
            rintro e w2 ⟨rfl, hb⟩
            exact ⟨_, rfl, hK0 _ _ (GLx.old (by decide) hb) ⟨fun _ => below_step hB (Nat.le_refl _) hb, fun h => absurd h (by decide)⟩ rfl⟩
          · intro ac w' ph hF hPh hlt hP hU K hK0
            obtain rfl : ph = 1 := (hlt 1 6 rfl).1 rfl
            have e4 : ac.eval (.tmp 4) = .pointer (some ⟨q, 0, none⟩) := hF.at 4 (by kernel_rfl)
            have e43 : ac.eval (.tmp 43) = sumV D2 := hP 5 (by kernel_rfl)
            have hB : Below W.heap.size W w' := hPh.1 (by decide)
            have hz := (hB.block q hqw).trans HQC.out
            exact rop_storeG _ _ _ rfl e4 e43 (run_storeAt_mid w' q 0 _ _ (sum_thereP hz HXl.out HD2l.out) (sum_info HD2l.out) (sum_one D2)) (wanted_none rfl) (hK0 undef _ (GLx.last rfl) ⟨fun h => absurd h (by decide), fun _ => ⟨w', hB, rfl⟩⟩ trivial)
          · intro ac w' hF hPh hT
            rw [hF.setsG [38, 39, 40, 41, 42, 43] (by kernel_rfl)]
            simp only [List.foldl_cons, List.foldl_nil, List.setIfInBounds_toArray, List.set_cons_succ, List.set_cons_zero]
            generalize ac.eval (.tmp 38) = u38
            generalize ac.eval (.tmp 39) = u39
            generalize ac.eval (.tmp 40) = u40
            generalize ac.eval (.tmp 41) = u41
            generalize ac.eval (.tmp 42) = u42
            generalize ac.eval (.tmp 43) = u43
            clear  hT hF ac
            obtain ⟨u2, hu2, rfl⟩ := hPh.2 rfl
            have hz2 := (hu2.block q hqw).trans HQC.out
            have HG : Hid (FoRel P T D q V (.int .i64 (((i + 1 : Nat)) : Int)) (u2.setCells q 0 (D2.map u8V))) := Lib.hid ⟨i + 1, D2, rfl, by rw [HTl.out]; omega, HD2l.out, HFo2.out, (HO.out.trans (Only.of_below hu2)).trans (only_setCells (b := q) (D2.map u8V) 0 _ (Only.refl _ _)), set_sumP u2 q X D2 HXl.out HD2l.out hz2⟩
            clear hz2 hu2 hPh
            go_wp2
            exact ⟨by have := HG.out; simpa using this, by simp [intOf]; omega⟩
      · have hik' : ¬ (i : Int) < (k : Int) := by omega
        have hDX : X = D := by
          have e := HFo.out
          rw [List.drop_eq_nil_of_le (by rw [← Hk.out]; omega), foldP_nil] at e
          exact e
        subst hDX
        have hbf : Below q V wr := HO.out.below (Nat.le_refl _) (Nat.le_of_lt hqV)
        have HBF := Lib.hid hbf
        clear HFo HD hbf hsb
        go_wp2_with (first
          | refine wpList_load_mid rfl 24 (.tmp 4) rfl q 0 rfl (X.map u8V) _ (range_var HQC.out) Tryd.underlying24 rfl (sum_info' HXl.out) ?_
          | refine wpList_store_mid rfl 24 (.tmp 8) (.tmp 44) rfl r 0 (X.map u8V).toArray rfl rfl (sum_there HZR.out HXl.out) (sum_info HXl.out) (sum_one X) ?_)
        refine bodyPost_ret (results_ct (t := 8) (u := 9) (ty := 24) (b := r) (cs := X.map u8V) rfl _ _ _ rfl (sum_range HZR.out HXl.out) Tryd.underlying24 rfl (sum_info' HXl.out)) rfl ⟨rfl, below_setCells (by rw [← Hq.out]; omega) _ _ _ ?_⟩
        exact HBV.out.trans (by rw [← Hq.out]; exact HBF.out)
  · rw [hfz, if_neg (by simpa using hkz)]
    obtain ⟨Z, hZ⟩ : ∃ Z, Z = List.replicate 32 (0 : UInt8) := ⟨_, rfl⟩
    have HZB : Hid (Tryd.prog.built 24 [] = some (Z.map u8V).toArray) := Lib.hid (by rw [hZ]; exact built_zeroP)
    have HZl : Hid (Z.length = 32) := Lib.hid (by rw [hZ]; simp)
    rw [← hZ]
    have hsz2 : w.heap.size + 1 < w0.heap.size := by omega
    clear hZ hfz hfl hz b0 h1 h2 hx hv l1 l2 hsz hcap hlc hk
    unfold sumV
    go_enter Tryd.func20, Tryd.ntmps20
    go_upto_region 1 with (fail)
    change Code.wp _ _ _ _ ((w.alloc (.cells (x.map u8V).toArray 24)).alloc zSum)
    rw [← hw0]
    clear hw0
    go_wp2_with (first
      | (go_at_call 19; ((with_reducible refine (HLO.out _).mono ?_); rintro e w1 ⟨rfl, b1⟩; have z2 := Lib.hid ((b1.block _ hsz2).trans H2.out)))
      | refine wpList_build_at rfl 24 #[] rfl (Z.map u8V).toArray [] (by simp) HZB.out ?_
      | refine wpList_store_mid rfl 24 (.tmp 8) (.tmp 18) rfl (w.heap.size + 1) 0 (Z.map u8V).toArray rfl rfl (sum_there z2.out HZl.out) (sum_info HZl.out) (sum_one _) ?_)
    exact bodyPost_ret (results_ct (t := 8) (u := 9) (ty := 24) (b := w.heap.size + 1) (cs := Z.map u8V) rfl _ _ _ rfl (sum_range z2.out HZl.out) Tryd.underlying24 rfl (sum_info' HZl.out)) rfl ⟨rfl, below_setCells (Nat.le_succ _) _ _ _ (below_step HB.out (Nat.le_refl _) b1)⟩
end Go.Proofs.YtdcebdleneieeaaDoor
/-! ## The document's own both, Both (scriniumref12). -/
namespace Go.Proofs.YtdcebdleneieeaaDoor
open Go.RowKit

theorem IsH.old {x : List UInt8} {w w' : World} {q : Nat} (h : IsH x w q) (hb : Below w.heap.size w w') : IsH x w' q := (hb.block q (Array.getElem?_eq_some_iff.1 h).1).trans h
theorem IsH.lt {x : List UInt8} {w : World} {q : Nat} (h : IsH x w q) : q < w.heap.size := (Array.getElem?_eq_some_iff.1 h).1
/-- Two results that lie in memory, behind so many effects: the stores are effects i and j; the sources stay. -/
def RePh (w : World) (S : List (Nat × List UInt8)) (p q : Nat) (X Y : List UInt8) (i j ph : Nat) (u : World) : Prop :=
  Below w.heap.size w u ∧ (∀ s ∈ S, IsH s.2 u s.1) ∧ IsH (if ph ≤ i then List.replicate 32 0 else X) u p ∧ IsH (if ph ≤ j then List.replicate 32 0 else Y) u q
theorem RePh.call {w : World} {S : List (Nat × List UInt8)} {p q : Nat} {X Y : List UInt8} {i j ph : Nat} {u u' : World} (h : RePh w S p q X Y i j ph u) (hi : ph + 1 ≤ i) (hj : ph + 1 ≤ j) (hb : Below u.heap.size u u') : RePh w S p q X Y i j (ph + 1) u' := by
  obtain ⟨h1, h2, h3, h4⟩ := h
  rw [if_pos (by omega)] at h3 h4
  exact ⟨below_step h1 (Nat.le_of_lt_succ (Nat.lt_succ_of_le (Nat.le_refl _))) hb, fun s hs => (h2 s hs).old hb, by rw [if_pos hi]; exact h3.old hb, by rw [if_pos hj]; exact h4.old hb⟩
theorem RePh.p {w : World} {S : List (Nat × List UInt8)} {p q : Nat} {X Y : List UInt8} {i : Nat} {u : World} (h : RePh w S p q X Y i (i + 1) i u) (hX : X.length = 32) (hpq : w.heap.size ≤ p ∧ p ≠ q) (hS : ∀ s ∈ S, s.1 ≠ p) : RePh w S p q X Y i (i + 1) (i + 1) (u.setCells p 0 (X.map u8V)) := by
  obtain ⟨h1, h2, h3, h4⟩ := h
  rw [if_pos (by omega)] at h3 h4
  exact ⟨below_setCells hpq.1 _ _ _ h1, fun s hs => (h2 s hs).far (hS s hs), by rw [if_neg (by omega)]; exact set_sumP u p _ X (by simp) hX h3, by rw [if_pos (by omega)]; exact h4.far (Ne.symm hpq.2)⟩
theorem RePh.q {w : World} {S : List (Nat × List UInt8)} {p q : Nat} {X Y : List UInt8} {i : Nat} {u : World} (h : RePh w S p q X Y i (i + 1) (i + 1) u) (hY : Y.length = 32) (hpq : w.heap.size ≤ q ∧ p ≠ q) (hS : ∀ s ∈ S, s.1 ≠ q) : RePh w S p q X Y i (i + 1) (i + 1 + 1) (u.setCells q 0 (Y.map u8V)) := by
  obtain ⟨h1, h2, h3, h4⟩ := h
  rw [if_neg (by omega)] at h3
  rw [if_pos (by omega)] at h4
  exact ⟨below_setCells hpq.1 _ _ _ h1, fun s hs => (h2 s hs).far (hS s hs), by rw [if_neg (by omega)]; exact h3.far hpq.2, by rw [if_neg (by omega)]; exact set_sumP u q _ Y (by simp) hY h4⟩
/-- Two new variables, both set. -/
theorem two_set (w : World) (x y : List UInt8) (hx : x.length = 32) (hy : y.length = 32) (W : World) (hW : W = (((w.alloc zSum).alloc zSum).setCells w.heap.size 0 (x.map u8V)).setCells (w.heap.size + 1) 0 (y.map u8V)) :
    IsH x W w.heap.size ∧ IsH y W (w.heap.size + 1) ∧ Below w.heap.size w W := by
  have h := two_new w x hx
  rw [hW]
  exact ⟨h.2.2.far (by omega), set_sumP _ _ _ y (by simp) hy h.2.1, below_setCells (Nat.le_succ _) _ _ _ (below_setCells (Nat.le_refl _) _ _ _ (((Below.refl _ _).alloc (Nat.le_refl _) _).alloc (by simp) _))⟩
set_option maxHeartbeats 8000000 in
set_option maxRecDepth 100000 in
theorem rboth_any (n : Nat) : ∀ (a : List UInt8) (m : Nat) (c : Bool) (v : Value) (P : Hs) (w : World), a.length = 32 → 1 ≤ m → m ≤ n → n ≤ 1099511627776 → Tree.llong m n c ≤ P.length → P.length ≤ 1000 → Sums w v P →
    Calls Tryd.prog 43 #[sumV a, .int .i64 (m : Int), .int .i64 (n : Int), .bool c, v] w fun e w' => e = .returned (.tuple #[sumV (Tree.boths a m n c P).1, sumV (Tree.boths a m n c P).2, .int .i64 ((Tree.llong m n c : Nat) : Int)]) ∧ Below w.heap.size w w' := by
  induction n using Nat.strongRecOn with
  | _ n ih =>
  intro a m c v P w ha h1m hmn hn hl hP hv
  obtain ⟨va, cap, rfl, hlc, hcap⟩ := hv.slice
  obtain ⟨k, hk⟩ : ∃ k, k = P.length := ⟨_, rfl⟩
  have hok := hv.ok
  obtain ⟨w0, hw0⟩ : ∃ w0, w0 = ((w.alloc (.cells (a.map u8V).toArray 24)).alloc zSum).alloc zSum := ⟨_, rfl⟩
  have b0 : Below w.heap.size w w0 := by rw [hw0]; exact (((Below.refl _ _).alloc (Nat.le_refl _) _).alloc (by simp) _).alloc (by simp; omega) _
  have h1 : IsH a w0 w.heap.size := by
    rw [hw0]
    exact ((((Below.refl (w.alloc (.cells (a.map u8V).toArray 24)).heap.size _).alloc (Nat.le_refl _) _).alloc (by simp) _).block w.heap.size (by simp)).trans (heap_alloc_last w _)
  have h2 : ZeroH w0 (w.heap.size + 1) := by
    rw [hw0]
    refine (Below.heap_alloc _ _ _ (by simp)).trans ?_
    have := heap_alloc_last (w.alloc (.cells (a.map u8V).toArray 24)) zSum
    rwa [World.size_alloc] at this
  have h3 : ZeroH w0 (w.heap.size + 1 + 1) := by
    have := heap_alloc_last ((w.alloc (.cells (a.map u8V).toArray 24)).alloc zSum) zSum
    rwa [World.size_alloc, World.size_alloc, ← hw0] at this
  have hsz : w0.heap.size = w.heap.size + 3 := by rw [hw0]; simp
  have hvs := hv
  rw [← hk] at hvs hl ⊢
  by_cases he : m = n
  · subst he
    clear ih hmn
    have e1 : ((m : Int) = (m : Int)) := rfl
    rw [Tree.boths_end, Tree.llong_end h1m]
    rw [Tree.llong_end h1m] at hl
    cases c with
    | true =>
      have HA := Lib.hid ha
      have H1 := Lib.hid h1
      have H2 := Lib.hid h2
      have H3 := Lib.hid h3
      have HB := Lib.hid b0
      clear hv hvs hl hlc hcap hok h1 h2 h3 b0 ha
      unfold sumV
      go_enter Tryd.func43, Tryd.ntmps43
      go_upto_region 1 with (fail)
      change Code.wp _ _ _ _ (((w.alloc (.cells (a.map u8V).toArray 24)).alloc zSum).alloc zSum)
      rw [← hw0]
      clear hw0
      go_upto_region 3 with (fail)
      try simp only [Act.put]
      refine wp_region_ph (Lx := fun _ _ _ _ => True) [RXP.is (sumV a), RXP.is (sumV a), RXP.any, RXP.any, RXP.is (.int .i64 0)] [2, 3] (RePh w [(w.heap.size, a)] (w.heap.size + 1) (w.heap.size + 1 + 1) (a) (a) 0 1) (by kernel_rfl) (by kernel_rfl) (by kernel_rfl) (by kernel_rfl) (by kernel_rfl) (⟨below_drew HB.out, (by intro s hs; simp at hs; subst hs; exact H1.out), H2.out, H3.out⟩) ⟨?_, ?_, ?_, ?_, ?_, trivial⟩ ?_
      · intro ac w' ph hF hPh hlt hP hU K hK0
        have e5 : ac.eval (.tmp 5) = .pointer (some ⟨w.heap.size, 0, none⟩) := hF.at 5 (by kernel_rfl)
        exact rop_ld _ _ rfl e5 (load_sumP HA.out (range_var (hPh.2.1 (w.heap.size, a) (by simp)))) (wanted_none rfl) (hK0 _ _ trivial hPh rfl)
      · intro ac w' ph hF hPh hlt hP hU K hK0
        have e5 : ac.eval (.tmp 5) = .pointer (some ⟨w.heap.size, 0, none⟩) := hF.at 5 (by kernel_rfl)
        exact rop_ld _ _ rfl e5 (load_sumP HA.out (range_var (hPh.2.1 (w.heap.size, a) (by simp)))) (wanted_none rfl) (hK0 _ _ trivial hPh rfl)
      · intro ac w' ph hF hPh hlt hP hU K hK0
        obtain rfl : ph = 0 := (hlt 0 2 rfl).1 rfl
        have e10 : ac.eval (.tmp 10) = .pointer (some ⟨w.heap.size + 1, 0, none⟩) := hF.at 10 (by kernel_rfl)
        have e25 : ac.eval (.tmp 25) = sumV a := hP 0 (by kernel_rfl)
        have hz : ZeroH w' (w.heap.size + 1) := hPh.2.2.1
        exact rop_storeG _ _ _ rfl e10 e25 (run_storeAt_mid w' _ 0 _ _ (sum_there hz HA.out) (sum_info HA.out) (sum_one a)) (wanted_none rfl) (hK0 undef _ trivial (hPh.p HA.out (by omega) (by intro s hs; simp at hs; subst hs; simp only; omega)) trivial)
      · intro ac w' ph hF hPh hlt hP hU K hK0
        obtain rfl : ph = 1 := (hlt 1 3 rfl).1 rfl
        have e11 : ac.eval (.tmp 11) = .pointer (some ⟨w.heap.size + 1 + 1, 0, none⟩) := hF.at 11 (by kernel_rfl)
        have e26 : ac.eval (.tmp 26) = sumV a := hP 1 (by kernel_rfl)
        have hz : ZeroH w' (w.heap.size + 1 + 1) := hPh.2.2.2
        exact rop_storeG _ _ _ rfl e11 e26 (run_storeAt_mid w' _ 0 _ _ (sum_there hz HA.out) (sum_info HA.out) (sum_one a)) (wanted_none rfl) (hK0 undef _ trivial (hPh.q HA.out (by omega) (by intro s hs; simp at hs; subst hs; simp only; omega)) trivial)
      · intro ac w' ph hF hPh hlt hP hU K hK0
        exact rop_assign _ rfl rfl (wanted_none rfl) (hK0 _ _ trivial hPh rfl)
      · intro ac w' hF hPh hT
        have e12 : ac.eval (.tmp 12) = .int .i64 0 := hT 4 (by decide)
        rw [hF.setsG [25, 26, 12] (by kernel_rfl)]
        simp only [List.foldl_cons, List.foldl_nil, List.setIfInBounds_toArray, List.set_cons_succ, List.set_cons_zero, e12]
        generalize ac.eval (.tmp 25) = u25
        generalize ac.eval (.tmp 26) = u26
        clear e12 hT hF ac
        obtain ⟨hQ1, hQ2, hQ3, hQ4⟩ := hPh
        have hQ3' : IsH (a) w' (w.heap.size + 1) := hQ3
        have hQ4' : IsH (a) w' (w.heap.size + 1 + 1) := hQ4
        have HQ1 := Lib.hid hQ1
        have HQ3 := Lib.hid hQ3'
        have HQ4 := Lib.hid hQ4'
        clear hQ1 hQ2 hQ3 hQ4 hQ3' hQ4'
        go_wp2
        exact bodyPost_ret (results_cct (t := 10) (t' := 11) (u := 12) (ty := 24) (b := w.heap.size + 1) (b' := w.heap.size + 1 + 1) (cs := (a).map u8V) (cs' := (a).map u8V) rfl _ _ _ rfl rfl (range_var HQ3.out) (range_var HQ4.out) Tryd.underlying24 rfl (sum_info' HA.out) (sum_info' HA.out)) rfl ⟨rfl, HQ1.out⟩
    | false =>
      have hk0 : 0 < k := by
        have : (if false = true then 0 else 1 : Nat) = 1 := rfl
        omega
      obtain ⟨p, hp⟩ : ∃ p, P[0]? = some p := ⟨_, List.getElem?_eq_getElem (by omega)⟩
      have hph : P.headD [] = p := by
        cases P with
        | nil => simp at hp
        | cons x P => simpa using hp
      rw [if_neg (by decide), hph, if_neg (by decide)]
      obtain ⟨bp, op, rfl, hbp, -, hrp⟩ := hvs.at0 hp
      have HPl := Lib.hid (hok p (List.mem_of_getElem? hp))
      have HRP : Hid (w.rangeAt bp (op + 0 * 32) (p.map u8V)) := Lib.hid hrp
      have HA := Lib.hid ha
      have H1 := Lib.hid h1
      have H2 := Lib.hid h2
      have H3 := Lib.hid h3
      have HB := Lib.hid b0
      clear hv hvs hl hlc hcap hok h1 h2 h3 b0 ha hp hph hrp
      unfold sumV
      go_enter Tryd.func43, Tryd.ntmps43
      go_upto_region 1 with (fail)
      change Code.wp _ _ _ _ (((w.alloc (.cells (a.map u8V).toArray 24)).alloc zSum).alloc zSum)
      rw [← hw0]
      clear hw0
      go_upto_region 4 with (fail)
      try simp only [Act.put]
      refine wp_region_ph (Lx := fun _ _ _ _ => True) [RXP.is (.slice (some ⟨bp, op, none⟩) k cap), RXP.is (.pointer (some ⟨bp, op + 0 * 32, none⟩)), RXP.is (sumV p), RXP.is (.slice (some ⟨bp, op, none⟩) k cap), RXP.is (.pointer (some ⟨bp, op + 0 * 32, none⟩)), RXP.is (sumV p), RXP.any, RXP.any, RXP.is (.int .i64 1)] [6, 7] (RePh w [] (w.heap.size + 1) (w.heap.size + 1 + 1) (p) (p) 0 1) (by kernel_rfl) (by kernel_rfl) (by kernel_rfl) (by kernel_rfl) (by kernel_rfl) (⟨below_drew HB.out, (by intro s hs; cases hs), H2.out, H3.out⟩) ⟨?_, ?_, ?_, ?_, ?_, ?_, ?_, ?_, ?_, trivial⟩ ?_
      · intro ac w' ph hF hPh hlt hP hU K hK0
        have e4 : ac.eval (.tmp 4) = .slice (some ⟨bp, op, none⟩) k cap := hF.at 4 (by kernel_rfl)
        exact rop_move _ rfl e4 (wanted_none rfl) (hK0 _ _ trivial hPh rfl)
      · intro ac w' ph hF hPh hlt hP hU K hK0
        have e27 : ac.eval (.tmp 27) = .slice (some ⟨bp, op, none⟩) k cap := hP 0 (by kernel_rfl)
        exact rop_idx _ _ _ rfl e27 rfl (index_sums bp op k cap 0 hk0 w') (wanted_none rfl) (hK0 _ _ trivial hPh rfl)
      · intro ac w' ph hF hPh hlt hP hU K hK0
        have e28 : ac.eval (.tmp 28) = .pointer (some ⟨bp, op + 0 * 32, none⟩) := hP 1 (by kernel_rfl)
        exact rop_ld _ _ rfl e28 (load_sumP HPl.out (below_range' hPh.1 hbp HRP.out)) (wanted_none rfl) (hK0 _ _ trivial hPh rfl)
      · intro ac w' ph hF hPh hlt hP hU K hK0
        have e4 : ac.eval (.tmp 4) = .slice (some ⟨bp, op, none⟩) k cap := hF.at 4 (by kernel_rfl)
        exact rop_move _ rfl e4 (wanted_none rfl) (hK0 _ _ trivial hPh rfl)
      · intro ac w' ph hF hPh hlt hP hU K hK0
        have e30 : ac.eval (.tmp 30) = .slice (some ⟨bp, op, none⟩) k cap := hP 3 (by kernel_rfl)
        exact rop_idx _ _ _ rfl e30 rfl (index_sums bp op k cap 0 hk0 w') (wanted_none rfl) (hK0 _ _ trivial hPh rfl)
      · intro ac w' ph hF hPh hlt hP hU K hK0
        have e31 : ac.eval (.tmp 31) = .pointer (some ⟨bp, op + 0 * 32, none⟩) := hP 4 (by kernel_rfl)
        exact rop_ld _ _ rfl e31 (load_sumP HPl.out (below_range' hPh.1 hbp HRP.out)) (wanted_none rfl) (hK0 _ _ trivial hPh rfl)
      · intro ac w' ph hF hPh hlt hP hU K hK0
        obtain rfl : ph = 0 := (hlt 0 6 rfl).1 rfl
        have e10 : ac.eval (.tmp 10) = .pointer (some ⟨w.heap.size + 1, 0, none⟩) := hF.at 10 (by kernel_rfl)
        have e29 : ac.eval (.tmp 29) = sumV p := hP 2 (by kernel_rfl)
        have hz : ZeroH w' (w.heap.size + 1) := hPh.2.2.1
        exact rop_storeG _ _ _ rfl e10 e29 (run_storeAt_mid w' _ 0 _ _ (sum_there hz HPl.out) (sum_info HPl.out) (sum_one p)) (wanted_none rfl) (hK0 undef _ trivial (hPh.p HPl.out (by omega) (by intro s hs; cases hs)) trivial)
      · intro ac w' ph hF hPh hlt hP hU K hK0
        obtain rfl : ph = 1 := (hlt 1 7 rfl).1 rfl
        have e11 : ac.eval (.tmp 11) = .pointer (some ⟨w.heap.size + 1 + 1, 0, none⟩) := hF.at 11 (by kernel_rfl)
        have e32 : ac.eval (.tmp 32) = sumV p := hP 5 (by kernel_rfl)
        have hz : ZeroH w' (w.heap.size + 1 + 1) := hPh.2.2.2
        exact rop_storeG _ _ _ rfl e11 e32 (run_storeAt_mid w' _ 0 _ _ (sum_there hz HPl.out) (sum_info HPl.out) (sum_one p)) (wanted_none rfl) (hK0 undef _ trivial (hPh.q HPl.out (by omega) (by intro s hs; cases hs)) trivial)
      · intro ac w' ph hF hPh hlt hP hU K hK0
        exact rop_assign _ rfl rfl (wanted_none rfl) (hK0 _ _ trivial hPh rfl)
      · intro ac w' hF hPh hT
        have e12 : ac.eval (.tmp 12) = .int .i64 1 := hT 8 (by decide)
        rw [hF.setsG [27, 28, 29, 30, 31, 32, 12] (by kernel_rfl)]
        simp only [List.foldl_cons, List.foldl_nil, List.setIfInBounds_toArray, List.set_cons_succ, List.set_cons_zero, e12]
        generalize ac.eval (.tmp 27) = u27
        generalize ac.eval (.tmp 28) = u28
        generalize ac.eval (.tmp 29) = u29
        generalize ac.eval (.tmp 30) = u30
        generalize ac.eval (.tmp 31) = u31
        generalize ac.eval (.tmp 32) = u32
        clear e12 hT hF ac
        obtain ⟨hQ1, hQ2, hQ3, hQ4⟩ := hPh
        have hQ3' : IsH (p) w' (w.heap.size + 1) := hQ3
        have hQ4' : IsH (p) w' (w.heap.size + 1 + 1) := hQ4
        have HQ1 := Lib.hid hQ1
        have HQ3 := Lib.hid hQ3'
        have HQ4 := Lib.hid hQ4'
        clear hQ1 hQ2 hQ3 hQ4 hQ3' hQ4'
        go_wp2
        exact bodyPost_ret (results_cct (t := 10) (t' := 11) (u := 12) (ty := 24) (b := w.heap.size + 1) (b' := w.heap.size + 1 + 1) (cs := (p).map u8V) (cs' := (p).map u8V) rfl _ _ _ rfl rfl (range_var HQ3.out) (range_var HQ4.out) Tryd.underlying24 rfl (sum_info' HPl.out) (sum_info' HPl.out)) rfl ⟨rfl, HQ1.out⟩
  · have he' : ¬ (m : Int) = (n : Int) := by omega
    obtain ⟨s, hs⟩ : ∃ s, s = Tree.split n := ⟨_, rfl⟩
    have hsl := Tree.split_lt (n := n) (by omega)
    have hsp := Tree.split_pos (n := n) (by omega)
    have HSP : Hid (∀ u : World, Calls Tryd.prog 42 #[.int .i64 (n : Int)] u fun e w' => e = .returned (.int .i64 (s : Int)) ∧ u = w') := Lib.hid fun u => by
      have := rleafSplit_any (n : Int) (by omega) (by omega) u
      rwa [Int.toNat_natCast, ← hs] at this
    rw [← hs] at hsl hsp
    by_cases hms : m ≤ s
    · have hms' : (m : Int) ≤ (s : Int) := by omega
      obtain ⟨u, hu⟩ : ∃ u, u = Tree.llong m s c := ⟨_, rfl⟩
      have hll := Tree.llong_left (b := c) h1m (show m < n by omega) (by omega)
      rw [← hs, ← hu] at hll
      rw [hll] at hl
      have huk : u < k := by omega
      obtain ⟨p, hp⟩ : ∃ p, P[u]? = some p := ⟨_, List.getElem?_eq_getElem (by omega)⟩
      have hbo := Tree.boths_left (a := a) (b := c) (L := P) (p := p) h1m (show m < n by omega) (by omega) (by rw [← hs, ← hu]; exact hp)
      rw [← hs] at hbo
      rw [hbo, hll]
      obtain ⟨X, hX⟩ : ∃ X, X = (Tree.boths a m s c P).1 := ⟨_, rfl⟩
      obtain ⟨Y, hY⟩ : ∃ Y, Y = (Tree.boths a m s c P).2 := ⟨_, rfl⟩
      have hXY := Tree.boths_length a m s c P ha hok (fun hld => by
        rw [Tree.llong_inw _ m s c h1m hms (Nat.le_refl _), hld, if_pos rfl] at hu
        intro e
        rw [e] at hp
        simp at hp)
      rw [← hX, ← hY] at hXY ⊢
      obtain ⟨D2, hD2⟩ : ∃ D2, D2 = Tree.node Y p := ⟨_, rfl⟩
      rw [← hD2]
      have hpl := hok p (List.mem_of_getElem? hp)
      have HIH : Hid (∀ u0 : World, Below w.heap.size w u0 → Calls Tryd.prog 43 #[sumV a, .int .i64 (m : Int), .int .i64 (s : Int), .bool c, .slice va k cap] u0 fun e w' => e = .returned (.tuple #[sumV X, sumV Y, .int .i64 (u : Int)]) ∧ Below u0.heap.size u0 w') := Lib.hid fun u0 hu0 => by
        rw [hX, hY, hu]
        exact ih s (by omega) a m c _ P u0 ha h1m hms (by omega) (by omega) hP (hvs.old hu0)
      have HN : Hid (∀ u0 : World, Calls Tryd.prog 41 #[sumV Y, sumV p] u0 fun e w' => e = .returned (sumV D2) ∧ Below u0.heap.size u0 w') := Lib.hid fun u0 => by rw [hD2]; exact rleafNode_any Y p hXY.2 hpl u0
      obtain ⟨bp, op, rfl, hbp, -, hrp⟩ := hvs.at0 hp
      have HXl := Lib.hid hXY.1
      have HYl := Lib.hid hXY.2
      have HPl := Lib.hid hpl
      have HD2l : Hid (D2.length = 32) := Lib.hid (by rw [hD2]; exact Tree.node_length _ _)
      have HRP : Hid (w.rangeAt bp (op + u * 32) (p.map u8V)) := Lib.hid hrp
      have hadd := IntWalk.i64_in ((u : Int) + 1) (by omega)
      have hu1 : Hid (((u + 1 : Nat) : Int) = (u : Int) + 1) := Lib.hid rfl
      have HA := Lib.hid ha
      have H1 := Lib.hid h1
      have H2 := Lib.hid h2
      have H3 := Lib.hid h3
      have HB := Lib.hid b0
      have hs1 : w.heap.size < w0.heap.size ∧ w.heap.size + 1 < w0.heap.size ∧ w.heap.size + 1 + 1 < w0.heap.size := by omega
      clear ih hv hvs hl hlc hcap hok h1 h2 h3 b0 ha hp hrp hXY hX hY hD2 hpl hbo hll hu hs hk he hsl hsp hms hsz
      rw [hu1.out]
      unfold sumV
      go_enter Tryd.func43, Tryd.ntmps43
      go_upto_region 1 with (fail)
      change Code.wp _ _ _ _ (((w.alloc (.cells (a.map u8V).toArray 24)).alloc zSum).alloc zSum)
      rw [← hw0]
      clear hw0
      go_upto_region 8 with (first
        | (go_at_call 42; ((with_reducible refine (HSP.out _).mono ?_); rintro e w1 ⟨rfl, rfl⟩))
        | refine wpList_load_mid rfl 24 (.tmp 5) rfl w.heap.size 0 rfl (a.map u8V) _ (range_var H1.out) Tryd.underlying24 rfl (sum_info' HA.out) ?_
        | (go_at_call 43; (refine (HIH.out _ HB.out).mono ?_); rintro e w2 ⟨rfl, b2⟩; have hz0 := two_new w2 X HXl.out)
        | refine wpList_store_mid rfl 24 (.tmp 14) (.tmp 45) rfl w2.heap.size 0 (X.map u8V).toArray rfl rfl (sum_there hz0.1 HXl.out) (sum_info HXl.out) (sum_one X) ?_
        | refine wpList_store_mid rfl 24 (.tmp 15) (.tmp 46) rfl (w2.heap.size + 1) 0 (Y.map u8V).toArray rfl rfl (sum_there hz0.2.1 HYl.out) (sum_info HYl.out) (sum_one Y) ?_)
      change Code.wp _ _ _ _ ((((w2.alloc zSum).alloc zSum).setCells w2.heap.size 0 (X.map u8V)).setCells (w2.heap.size + 1) 0 (Y.map u8V))
      obtain ⟨W, hW⟩ : ∃ u, u = (((w2.alloc zSum).alloc zSum).setCells w2.heap.size 0 (X.map u8V)).setCells (w2.heap.size + 1) 0 (Y.map u8V) := ⟨_, rfl⟩
      obtain ⟨hq14, hq15, k6⟩ := two_set w2 X Y HXl.out HYl.out W hW
      have z10 : ZeroH W (w.heap.size + 1) := IsH.old (IsH.old (x := List.replicate 32 0) H2.out b2) k6
      have z11 : ZeroH W (w.heap.size + 1 + 1) := IsH.old (IsH.old (x := List.replicate 32 0) H3.out b2) k6
      have bW : Below w.heap.size w W := below_step (below_step HB.out (Nat.le_refl _) b2) (Nat.le_refl _) k6
      have l2 := b2.size
      rw [← hW]
      obtain ⟨q15, hq15'⟩ : ∃ q15, q15 = w2.heap.size + 1 := ⟨_, rfl⟩
      obtain ⟨q14, hq14'⟩ : ∃ q14, q14 = w2.heap.size := ⟨_, rfl⟩
      have hw14 : w.heap.size + 1 + 1 < q14 := by omega
      have hw15 : w.heap.size + 1 + 1 < q15 := by omega
      rw [← hq15'] at hq15 ⊢
      rw [← hq14'] at hq14 ⊢
      have HQ14 := Lib.hid hq14
      have HQ15 := Lib.hid hq15
      have HZ10 := Lib.hid z10
      have HZ11 := Lib.hid z11
      have HBW := Lib.hid bW
      clear hq15' hq14' hq14 hq15 z10 z11 bW k6 hW hz0 b2 l2
      try simp only [Act.put]
      refine wp_region_ph (Lx := fun _ _ _ _ => True) [RXP.is (sumV X), RXP.is (sumV Y), RXP.is (.slice (some ⟨bp, op, none⟩) k cap), RXP.is (.int .i64 (u : Int)), RXP.is (.pointer (some ⟨bp, op + u * 32, none⟩)), RXP.is (sumV p), RXP.is (sumV D2), RXP.is (.int .i64 (u : Int)), RXP.is (.int .i64 ((u : Int) + 1)), RXP.any, RXP.any, RXP.is (.int .i64 ((u : Int) + 1))] [6, 9, 10] (RePh w [(q14, X), (q15, Y)] (w.heap.size + 1) (w.heap.size + 1 + 1) (X) (D2) 1 2) (by kernel_rfl) (by kernel_rfl) (by kernel_rfl) (by kernel_rfl) (by kernel_rfl) (⟨below_drew HBW.out, (by intro s hs; simp at hs; rcases hs with rfl | rfl; exact HQ14.out; exact HQ15.out), HZ10.out, HZ11.out⟩) ⟨?_, ?_, ?_, ?_, ?_, ?_, ?_, ?_, ?_, ?_, ?_, ?_, trivial⟩ ?_
      · intro ac w' ph hF hPh hlt hP hU K hK0
        have e14 : ac.eval (.tmp 14) = .pointer (some ⟨q14, 0, none⟩) := hF.at 14 (by kernel_rfl)
        exact rop_ld _ _ rfl e14 (load_sumP HXl.out (range_var (hPh.2.1 (q14, X) (by simp)))) (wanted_none rfl) (hK0 _ _ trivial hPh rfl)
      · intro ac w' ph hF hPh hlt hP hU K hK0
        have e15 : ac.eval (.tmp 15) = .pointer (some ⟨q15, 0, none⟩) := hF.at 15 (by kernel_rfl)
        exact rop_ld _ _ rfl e15 (load_sumP HYl.out (range_var (hPh.2.1 (q15, Y) (by simp)))) (wanted_none rfl) (hK0 _ _ trivial hPh rfl)
      · intro ac w' ph hF hPh hlt hP hU K hK0
        have e4 : ac.eval (.tmp 4) = .slice (some ⟨bp, op, none⟩) k cap := hF.at 4 (by kernel_rfl)
        exact rop_move _ rfl e4 (wanted_none rfl) (hK0 _ _ trivial hPh rfl)
      · intro ac w' ph hF hPh hlt hP hU K hK0
        have e16 : ac.eval (.tmp 16) = .int .i64 (u : Int) := hF.at 16 (by kernel_rfl)
        exact rop_move _ rfl e16 (wanted_none rfl) (hK0 _ _ trivial hPh rfl)
      · intro ac w' ph hF hPh hlt hP hU K hK0
        have e50 : ac.eval (.tmp 50) = .slice (some ⟨bp, op, none⟩) k cap := hP 2 (by kernel_rfl)
        have e51 : ac.eval (.tmp 51) = .int .i64 (u : Int) := hP 3 (by kernel_rfl)
        exact rop_idx _ _ _ rfl e50 e51 (index_sums bp op k cap u huk w') (wanted_none rfl) (hK0 _ _ trivial hPh rfl)
      · intro ac w' ph hF hPh hlt hP hU K hK0
        have e52 : ac.eval (.tmp 52) = .pointer (some ⟨bp, op + u * 32, none⟩) := hP 4 (by kernel_rfl)
        exact rop_ld _ _ rfl e52 (load_sumP HPl.out (below_range' hPh.1 hbp HRP.out)) (wanted_none rfl) (hK0 _ _ trivial hPh rfl)
      · intro ac w' ph hF hPh hlt hP hU K hK0
        obtain rfl : ph = 0 := (hlt 0 6 rfl).1 rfl
        have e49 : ac.eval (.tmp 49) = sumV Y := hP 1 (by kernel_rfl)
        have e53 : ac.eval (.tmp 53) = sumV p := hP 5 (by kernel_rfl)
        refine rop_call 41 _ _ rfl #[sumV Y, sumV p] (by simp [e49, e53]) (by kernel_rfl) (wanted_none rfl) ?_
        refine (HN.out w').mono ?_
        rintro e w2 ⟨rfl, hb⟩
        exact ⟨_, rfl, hK0 _ _ trivial (hPh.call (by decide) (by decide) hb) rfl⟩
      · intro ac w' ph hF hPh hlt hP hU K hK0
        have e16 : ac.eval (.tmp 16) = .int .i64 (u : Int) := hF.at 16 (by kernel_rfl)
        exact rop_move _ rfl e16 (wanted_none rfl) (hK0 _ _ trivial hPh rfl)
      · intro ac w' ph hF hPh hlt hP hU K hK0
        have e55 : ac.eval (.tmp 55) = .int .i64 (u : Int) := hP 7 (by kernel_rfl)
        exact rop_bin _ _ _ _ _ rfl e55 rfl (guard_int _ _ _ _ _ _ _ w') (add_iG _ _ hadd w') (wanted_none rfl) (hK0 _ _ trivial hPh rfl)
      · intro ac w' ph hF hPh hlt hP hU K hK0
        obtain rfl : ph = 1 := (hlt 1 9 rfl).1 rfl
        have e10 : ac.eval (.tmp 10) = .pointer (some ⟨w.heap.size + 1, 0, none⟩) := hF.at 10 (by kernel_rfl)
        have e48 : ac.eval (.tmp 48) = sumV X := hP 0 (by kernel_rfl)
        have hz : ZeroH w' (w.heap.size + 1) := hPh.2.2.1
        exact rop_storeG _ _ _ rfl e10 e48 (run_storeAt_mid w' _ 0 _ _ (sum_there hz HXl.out) (sum_info HXl.out) (sum_one X)) (wanted_none rfl) (hK0 undef _ trivial (hPh.p HXl.out (by omega) (by intro s hs; simp at hs; rcases hs with rfl | rfl <;> simp only <;> omega)) trivial)
      · intro ac w' ph hF hPh hlt hP hU K hK0
        obtain rfl : ph = 2 := (hlt 2 10 rfl).1 rfl
        have e11 : ac.eval (.tmp 11) = .pointer (some ⟨w.heap.size + 1 + 1, 0, none⟩) := hF.at 11 (by kernel_rfl)
        have e54 : ac.eval (.tmp 54) = sumV D2 := hP 6 (by kernel_rfl)
        have hz : ZeroH w' (w.heap.size + 1 + 1) := hPh.2.2.2
        exact rop_storeG _ _ _ rfl e11 e54 (run_storeAt_mid w' _ 0 _ _ (sum_there hz HD2l.out) (sum_info HD2l.out) (sum_one D2)) (wanted_none rfl) (hK0 undef _ trivial (hPh.q HD2l.out (by omega) (by intro s hs; simp at hs; rcases hs with rfl | rfl <;> simp only <;> omega)) trivial)
      · intro ac w' ph hF hPh hlt hP hU K hK0
        have e56 : ac.eval (.tmp 56) = .int .i64 ((u : Int) + 1) := hP 8 (by kernel_rfl)
        exact rop_assign _ rfl e56 (wanted_none rfl) (hK0 _ _ trivial hPh rfl)
      · intro ac w' hF hPh hT
        have e12 : ac.eval (.tmp 12) = .int .i64 ((u : Int) + 1) := hT 11 (by decide)
        rw [hF.setsG [48, 49, 50, 51, 52, 53, 54, 55, 56, 12] (by kernel_rfl)]
        simp only [List.foldl_cons, List.foldl_nil, List.setIfInBounds_toArray, List.set_cons_succ, List.set_cons_zero, e12]
        generalize ac.eval (.tmp 48) = u48
        generalize ac.eval (.tmp 49) = u49
        generalize ac.eval (.tmp 50) = u50
        generalize ac.eval (.tmp 51) = u51
        generalize ac.eval (.tmp 52) = u52
        generalize ac.eval (.tmp 53) = u53
        generalize ac.eval (.tmp 54) = u54
        generalize ac.eval (.tmp 55) = u55
        generalize ac.eval (.tmp 56) = u56
        clear e12 hT hF ac
        obtain ⟨hQ1, hQ2, hQ3, hQ4⟩ := hPh
        have hQ3' : IsH (X) w' (w.heap.size + 1) := hQ3
        have hQ4' : IsH (D2) w' (w.heap.size + 1 + 1) := hQ4
        have HQ1 := Lib.hid hQ1
        have HQ3 := Lib.hid hQ3'
        have HQ4 := Lib.hid hQ4'
        clear hQ1 hQ2 hQ3 hQ4 hQ3' hQ4'
        go_wp2
        exact bodyPost_ret (results_cct (t := 10) (t' := 11) (u := 12) (ty := 24) (b := w.heap.size + 1) (b' := w.heap.size + 1 + 1) (cs := (X).map u8V) (cs' := (D2).map u8V) rfl _ _ _ rfl rfl (range_var HQ3.out) (range_var HQ4.out) Tryd.underlying24 rfl (sum_info' HXl.out) (sum_info' HD2l.out)) rfl ⟨rfl, HQ1.out⟩
    · have hms' : ¬ (m : Int) ≤ (s : Int) := by omega
      obtain ⟨u, hu⟩ : ∃ u, u = Tree.llong (m - s) (n - s) false := ⟨_, rfl⟩
      have hll := Tree.llong_right (b := c) (show m < n by omega) (show ¬ m ≤ Tree.split n by omega)
      rw [← hs, ← hu] at hll
      rw [hll] at hl
      have huk : u < k := by omega
      obtain ⟨p, hp⟩ : ∃ p, P[u]? = some p := ⟨_, List.getElem?_eq_getElem (by omega)⟩
      have hbo := Tree.boths_right (a := a) (b := c) (L := P) (p := p) (show m < n by omega) (show ¬ m ≤ Tree.split n by omega) (by rw [← hs, ← hu]; exact hp)
      rw [← hs] at hbo
      rw [hbo, hll]
      obtain ⟨X, hX⟩ : ∃ X, X = (Tree.boths a (m - s) (n - s) false P).1 := ⟨_, rfl⟩
      obtain ⟨Y, hY⟩ : ∃ Y, Y = (Tree.boths a (m - s) (n - s) false P).2 := ⟨_, rfl⟩
      have hXY := Tree.boths_length a (m - s) (n - s) false P ha hok (fun _ => by
        intro e
        rw [e] at hp
        simp at hp)
      rw [← hX, ← hY] at hXY ⊢
      obtain ⟨D1, hD1⟩ : ∃ D1, D1 = Tree.node p X := ⟨_, rfl⟩
      obtain ⟨D2, hD2⟩ : ∃ D2, D2 = Tree.node p Y := ⟨_, rfl⟩
      rw [← hD1, ← hD2]
      have hpl := hok p (List.mem_of_getElem? hp)
      have hmi : (m : Int) - (s : Int) = ((m - s : Nat) : Int) := by omega
      have hni : (n : Int) - (s : Int) = ((n - s : Nat) : Int) := by omega
      have HIH : Hid (∀ u0 : World, Below w.heap.size w u0 → Calls Tryd.prog 43 #[sumV a, .int .i64 ((m : Int) - (s : Int)), .int .i64 ((n : Int) - (s : Int)), .bool false, .slice va k cap] u0 fun e w' => e = .returned (.tuple #[sumV X, sumV Y, .int .i64 (u : Int)]) ∧ Below u0.heap.size u0 w') := Lib.hid fun u0 hu0 => by
        rw [hX, hY, hu, hmi, hni]
        exact ih (n - s) (by omega) a (m - s) false _ P u0 ha (by omega) (by omega) (by omega) (by omega) hP (hvs.old hu0)
      have HN1 : Hid (∀ u0 : World, Calls Tryd.prog 41 #[sumV p, sumV X] u0 fun e w' => e = .returned (sumV D1) ∧ Below u0.heap.size u0 w') := Lib.hid fun u0 => by rw [hD1]; exact rleafNode_any p X hpl hXY.1 u0
      have HN2 : Hid (∀ u0 : World, Calls Tryd.prog 41 #[sumV p, sumV Y] u0 fun e w' => e = .returned (sumV D2) ∧ Below u0.heap.size u0 w') := Lib.hid fun u0 => by rw [hD2]; exact rleafNode_any p Y hpl hXY.2 u0
      obtain ⟨bp, op, rfl, hbp, -, hrp⟩ := hvs.at0 hp
      have HXl := Lib.hid hXY.1
      have HYl := Lib.hid hXY.2
      have HPl := Lib.hid hpl
      have HD1l : Hid (D1.length = 32) := Lib.hid (by rw [hD1]; exact Tree.node_length _ _)
      have HD2l : Hid (D2.length = 32) := Lib.hid (by rw [hD2]; exact Tree.node_length _ _)
      have HRP : Hid (w.rangeAt bp (op + u * 32) (p.map u8V)) := Lib.hid hrp
      have hadd := IntWalk.i64_in ((u : Int) + 1) (by omega)
      have hw1 := IntWalk.i64_in ((m : Int) - (s : Int)) (by omega)
      have hw2 := IntWalk.i64_in ((n : Int) - (s : Int)) (by omega)
      have hu1 : Hid (((u + 1 : Nat) : Int) = (u : Int) + 1) := Lib.hid rfl
      have hidx := fun u0 => index_sums bp op k cap u huk u0
      have HA := Lib.hid ha
      have H1 := Lib.hid h1
      have H2 := Lib.hid h2
      have H3 := Lib.hid h3
      have HB := Lib.hid b0
      have hs1 : w.heap.size < w0.heap.size ∧ w.heap.size + 1 < w0.heap.size ∧ w.heap.size + 1 + 1 < w0.heap.size := by omega
      clear ih hv hvs hl hlc hcap hok h1 h2 h3 b0 ha hp hrp hXY hX hY hD1 hD2 hpl hbo hll hu hs hk he hsl hsp hms hsz hmi hni
      rw [hu1.out]
      unfold sumV
      go_enter Tryd.func43, Tryd.ntmps43
      go_upto_region 1 with (fail)
      change Code.wp _ _ _ _ (((w.alloc (.cells (a.map u8V).toArray 24)).alloc zSum).alloc zSum)
      rw [← hw0]
      clear hw0
      go_upto_region 10 with (first
        | (go_at_call 42; ((with_reducible refine (HSP.out _).mono ?_); rintro e w1 ⟨rfl, rfl⟩))
        | refine wpList_load_mid rfl 24 (.tmp 5) rfl w.heap.size 0 rfl (a.map u8V) _ (range_var H1.out) Tryd.underlying24 rfl (sum_info' HA.out) ?_
        | (go_at_call 43; (refine (HIH.out _ HB.out).mono ?_); rintro e w2 ⟨rfl, b2⟩; have hz0 := two_new w2 X HXl.out)
        | refine wpList_store_mid rfl 24 (.tmp 17) (.tmp 67) rfl w2.heap.size 0 (X.map u8V).toArray rfl rfl (sum_there hz0.1 HXl.out) (sum_info HXl.out) (sum_one X) ?_
        | refine wpList_store_mid rfl 24 (.tmp 18) (.tmp 68) rfl (w2.heap.size + 1) 0 (Y.map u8V).toArray rfl rfl (sum_there hz0.2.1 HYl.out) (sum_info HYl.out) (sum_one Y) ?_)
      change Code.wp _ _ _ _ ((((w2.alloc zSum).alloc zSum).setCells w2.heap.size 0 (X.map u8V)).setCells (w2.heap.size + 1) 0 (Y.map u8V))
      obtain ⟨W, hW⟩ : ∃ u, u = (((w2.alloc zSum).alloc zSum).setCells w2.heap.size 0 (X.map u8V)).setCells (w2.heap.size + 1) 0 (Y.map u8V) := ⟨_, rfl⟩
      obtain ⟨hq14, hq15, k6⟩ := two_set w2 X Y HXl.out HYl.out W hW
      have z10 : ZeroH W (w.heap.size + 1) := IsH.old (IsH.old (x := List.replicate 32 0) H2.out b2) k6
      have z11 : ZeroH W (w.heap.size + 1 + 1) := IsH.old (IsH.old (x := List.replicate 32 0) H3.out b2) k6
      have bW : Below w.heap.size w W := below_step (below_step HB.out (Nat.le_refl _) b2) (Nat.le_refl _) k6
      have l2 := b2.size
      rw [← hW]
      obtain ⟨q15, hq15'⟩ : ∃ q15, q15 = w2.heap.size + 1 := ⟨_, rfl⟩
      obtain ⟨q14, hq14'⟩ : ∃ q14, q14 = w2.heap.size := ⟨_, rfl⟩
      have hw14 : w.heap.size + 1 + 1 < q14 := by omega
      have hw15 : w.heap.size + 1 + 1 < q15 := by omega
      rw [← hq15'] at hq15 ⊢
      rw [← hq14'] at hq14 ⊢
      have HQ14 := Lib.hid hq14
      have HQ15 := Lib.hid hq15
      have HZ10 := Lib.hid z10
      have HZ11 := Lib.hid z11
      have HBW := Lib.hid bW
      clear hq15' hq14' hq14 hq15 z10 z11 bW k6 hW hz0 b2 l2
      have HRW : Hid (W.rangeAt bp (op + u * 32) (p.map u8V)) := Lib.hid (below_range' HBW.out hbp HRP.out)
      have hz20 := heap_alloc_last W zSum
      obtain ⟨z20, k20⟩ := var_sum W p HPl.out
      go_upto_region 11 with (first
        | refine wpList_load_mid rfl 24 (.tmp 72) rfl bp (op + u * 32) rfl (p.map u8V) _ HRW.out Tryd.underlying24 rfl (sum_info' HPl.out) ?_
        | refine wpList_store_mid rfl 24 (.tmp 20) (.tmp 73) rfl W.heap.size 0 (p.map u8V).toArray rfl rfl (sum_there hz20 HPl.out) (sum_info HPl.out) (sum_one p) ?_)
      change Code.wp _ _ _ _ ((W.alloc zSum).setCells W.heap.size 0 (p.map u8V))
      obtain ⟨V, hV⟩ : ∃ u, u = (W.alloc zSum).setCells W.heap.size 0 (p.map u8V) := ⟨_, rfl⟩
      rw [← hV] at z20 k20 ⊢
      obtain ⟨q20, hq20⟩ : ∃ q20, q20 = W.heap.size := ⟨_, rfl⟩
      have hw20 : w.heap.size + 1 + 1 < q20 := by have := HQ14.out.lt; omega
      rw [← hq20] at z20 ⊢
      have HQ20 : Hid (IsH p V q20) := Lib.hid z20
      replace HQ14 := Lib.hid (HQ14.out.old k20)
      replace HQ15 := Lib.hid (HQ15.out.old k20)
      replace HZ10 : Hid (ZeroH V (w.heap.size + 1)) := Lib.hid (IsH.old HZ10.out k20)
      replace HZ11 : Hid (ZeroH V (w.heap.size + 1 + 1)) := Lib.hid (IsH.old HZ11.out k20)
      replace HBW := Lib.hid (below_step HBW.out (Nat.le_refl _) k20)
      clear hz20 z20 k20 hV hq20 HRW
      try simp only [Act.put]
      refine wp_region_ph (Lx := fun _ _ _ _ => True) [RXP.is (sumV p), RXP.is (sumV X), RXP.is (sumV D1), RXP.is (sumV p), RXP.is (sumV Y), RXP.is (sumV D2), RXP.is (.int .i64 (u : Int)), RXP.is (.int .i64 ((u : Int) + 1)), RXP.any, RXP.any, RXP.is (.int .i64 ((u : Int) + 1))] [2, 5, 8, 9] (RePh w [(q14, X), (q15, Y), (q20, p)] (w.heap.size + 1) (w.heap.size + 1 + 1) (D1) (D2) 2 3) (by kernel_rfl) (by kernel_rfl) (by kernel_rfl) (by kernel_rfl) (by kernel_rfl) (⟨below_drew HBW.out, (by intro s hs; simp at hs; rcases hs with rfl | rfl | rfl; exact HQ14.out; exact HQ15.out; exact HQ20.out), HZ10.out, HZ11.out⟩) ⟨?_, ?_, ?_, ?_, ?_, ?_, ?_, ?_, ?_, ?_, ?_, trivial⟩ ?_
      · intro ac w' ph hF hPh hlt hP hU K hK0
        have e20 : ac.eval (.tmp 20) = .pointer (some ⟨q20, 0, none⟩) := hF.at 20 (by kernel_rfl)
        exact rop_ld _ _ rfl e20 (load_sumP HPl.out (range_var (hPh.2.1 (q20, p) (by simp)))) (wanted_none rfl) (hK0 _ _ trivial hPh rfl)
      · intro ac w' ph hF hPh hlt hP hU K hK0
        have e17 : ac.eval (.tmp 17) = .pointer (some ⟨q14, 0, none⟩) := hF.at 17 (by kernel_rfl)
        exact rop_ld _ _ rfl e17 (load_sumP HXl.out (range_var (hPh.2.1 (q14, X) (by simp)))) (wanted_none rfl) (hK0 _ _ trivial hPh rfl)
      · intro ac w' ph hF hPh hlt hP hU K hK0
        obtain rfl : ph = 0 := (hlt 0 2 rfl).1 rfl
        have e74 : ac.eval (.tmp 74) = sumV p := hP 0 (by kernel_rfl)
        have e75 : ac.eval (.tmp 75) = sumV X := hP 1 (by kernel_rfl)
        refine rop_call 41 _ _ rfl #[sumV p, sumV X] (by simp [e74, e75]) (by kernel_rfl) (wanted_none rfl) ?_
        refine (HN1.out w').mono ?_
        rintro e w2 ⟨rfl, hb⟩
        exact ⟨_, rfl, hK0 _ _ trivial (hPh.call (by decide) (by decide) hb) rfl⟩
      · intro ac w' ph hF hPh hlt hP hU K hK0
        have e20 : ac.eval (.tmp 20) = .pointer (some ⟨q20, 0, none⟩) := hF.at 20 (by kernel_rfl)
        exact rop_ld _ _ rfl e20 (load_sumP HPl.out (range_var (hPh.2.1 (q20, p) (by simp)))) (wanted_none rfl) (hK0 _ _ trivial hPh rfl)
      · intro ac w' ph hF hPh hlt hP hU K hK0
        have e18 : ac.eval (.tmp 18) = .pointer (some ⟨q15, 0, none⟩) := hF.at 18 (by kernel_rfl)
        exact rop_ld _ _ rfl e18 (load_sumP HYl.out (range_var (hPh.2.1 (q15, Y) (by simp)))) (wanted_none rfl) (hK0 _ _ trivial hPh rfl)
      · intro ac w' ph hF hPh hlt hP hU K hK0
        obtain rfl : ph = 1 := (hlt 1 5 rfl).1 rfl
        have e77 : ac.eval (.tmp 77) = sumV p := hP 3 (by kernel_rfl)
        have e78 : ac.eval (.tmp 78) = sumV Y := hP 4 (by kernel_rfl)
        refine rop_call 41 _ _ rfl #[sumV p, sumV Y] (by simp [e77, e78]) (by kernel_rfl) (wanted_none rfl) ?_
        refine (HN2.out w').mono ?_
        rintro e w2 ⟨rfl, hb⟩
        exact ⟨_, rfl, hK0 _ _ trivial (hPh.call (by decide) (by decide) hb) rfl⟩
      · intro ac w' ph hF hPh hlt hP hU K hK0
        have e19 : ac.eval (.tmp 19) = .int .i64 (u : Int) := hF.at 19 (by kernel_rfl)
        exact rop_move _ rfl e19 (wanted_none rfl) (hK0 _ _ trivial hPh rfl)
      · intro ac w' ph hF hPh hlt hP hU K hK0
        have e80 : ac.eval (.tmp 80) = .int .i64 (u : Int) := hP 6 (by kernel_rfl)
        exact rop_bin _ _ _ _ _ rfl e80 rfl (guard_int _ _ _ _ _ _ _ w') (add_iG _ _ hadd w') (wanted_none rfl) (hK0 _ _ trivial hPh rfl)
      · intro ac w' ph hF hPh hlt hP hU K hK0
        obtain rfl : ph = 2 := (hlt 2 8 rfl).1 rfl
        have e10 : ac.eval (.tmp 10) = .pointer (some ⟨w.heap.size + 1, 0, none⟩) := hF.at 10 (by kernel_rfl)
        have e76 : ac.eval (.tmp 76) = sumV D1 := hP 2 (by kernel_rfl)
        have hz : ZeroH w' (w.heap.size + 1) := hPh.2.2.1
        exact rop_storeG _ _ _ rfl e10 e76 (run_storeAt_mid w' _ 0 _ _ (sum_there hz HD1l.out) (sum_info HD1l.out) (sum_one D1)) (wanted_none rfl) (hK0 undef _ trivial (hPh.p HD1l.out (by omega) (by intro s hs; simp at hs; rcases hs with rfl | rfl | rfl <;> simp only <;> omega)) trivial)
      · intro ac w' ph hF hPh hlt hP hU K hK0
        obtain rfl : ph = 3 := (hlt 3 9 rfl).1 rfl
        have e11 : ac.eval (.tmp 11) = .pointer (some ⟨w.heap.size + 1 + 1, 0, none⟩) := hF.at 11 (by kernel_rfl)
        have e79 : ac.eval (.tmp 79) = sumV D2 := hP 5 (by kernel_rfl)
        have hz : ZeroH w' (w.heap.size + 1 + 1) := hPh.2.2.2
        exact rop_storeG _ _ _ rfl e11 e79 (run_storeAt_mid w' _ 0 _ _ (sum_there hz HD2l.out) (sum_info HD2l.out) (sum_one D2)) (wanted_none rfl) (hK0 undef _ trivial (hPh.q HD2l.out (by omega) (by intro s hs; simp at hs; rcases hs with rfl | rfl | rfl <;> simp only <;> omega)) trivial)
      · intro ac w' ph hF hPh hlt hP hU K hK0
        have e81 : ac.eval (.tmp 81) = .int .i64 ((u : Int) + 1) := hP 7 (by kernel_rfl)
        exact rop_assign _ rfl e81 (wanted_none rfl) (hK0 _ _ trivial hPh rfl)
      · intro ac w' hF hPh hT
        have e12 : ac.eval (.tmp 12) = .int .i64 ((u : Int) + 1) := hT 10 (by decide)
        rw [hF.setsG [74, 75, 76, 77, 78, 79, 80, 81, 12] (by kernel_rfl)]
        simp only [List.foldl_cons, List.foldl_nil, List.setIfInBounds_toArray, List.set_cons_succ, List.set_cons_zero, e12]
        generalize ac.eval (.tmp 74) = u74
        generalize ac.eval (.tmp 75) = u75
        generalize ac.eval (.tmp 76) = u76
        generalize ac.eval (.tmp 77) = u77
        generalize ac.eval (.tmp 78) = u78
        generalize ac.eval (.tmp 79) = u79
        generalize ac.eval (.tmp 80) = u80
        generalize ac.eval (.tmp 81) = u81
        clear e12 hT hF ac
        obtain ⟨hQ1, hQ2, hQ3, hQ4⟩ := hPh
        have hQ3' : IsH (D1) w' (w.heap.size + 1) := hQ3
        have hQ4' : IsH (D2) w' (w.heap.size + 1 + 1) := hQ4
        have HQ1 := Lib.hid hQ1
        have HQ3 := Lib.hid hQ3'
        have HQ4 := Lib.hid hQ4'
        clear hQ1 hQ2 hQ3 hQ4 hQ3' hQ4'
        go_wp2
        exact bodyPost_ret (results_cct (t := 10) (t' := 11) (u := 12) (ty := 24) (b := w.heap.size + 1) (b' := w.heap.size + 1 + 1) (cs := (D1).map u8V) (cs' := (D2).map u8V) rfl _ _ _ rfl rfl (range_var HQ3.out) (range_var HQ4.out) Tryd.underlying24 rfl (sum_info' HD1l.out) (sum_info' HD2l.out)) rfl ⟨rfl, HQ1.out⟩
set_option maxHeartbeats 8000000 in
set_option maxRecDepth 100000 in
theorem rBoth_any (a : List UInt8) (ha : a.length = 32) (m n : Int) (l1 : m ≤ 9223372036854775807) (l2 : n ≤ 9223372036854775807) (v : Value) (P : Hs) (w : World) (hv : Sums w v P) (hP : P.length ≤ 1000) :
    Calls Tryd.prog 23 #[sumV a, .int .i64 m, .int .i64 n, v] w fun e w' => e = .returned (.tuple #[sumV (bothZ a m n P).1.1, sumV (bothZ a m n P).1.2, .bool (bothZ a m n P).2]) ∧ Below w.heap.size w w' := by
  obtain ⟨va, cap, rfl, hlc, hcap⟩ := hv.slice
  obtain ⟨k, hk⟩ : ∃ k, k = P.length := ⟨_, rfl⟩
  obtain ⟨w0, hw0⟩ : ∃ w0, w0 = ((w.alloc (.cells (a.map u8V).toArray 24)).alloc zSum).alloc zSum := ⟨_, rfl⟩
  have b0 : Below w.heap.size w w0 := by rw [hw0]; exact (((Below.refl _ _).alloc (Nat.le_refl _) _).alloc (by simp) _).alloc (by simp; omega) _
  have h1 : IsH a w0 w.heap.size := by
    rw [hw0]
    exact ((((Below.refl (w.alloc (.cells (a.map u8V).toArray 24)).heap.size _).alloc (Nat.le_refl _) _).alloc (by simp) _).block w.heap.size (by simp)).trans (heap_alloc_last w _)
  have h2 : ZeroH w0 (w.heap.size + 1) := by
    rw [hw0]
    refine (Below.heap_alloc _ _ _ (by simp)).trans ?_
    have := heap_alloc_last (w.alloc (.cells (a.map u8V).toArray 24)) zSum
    rwa [World.size_alloc] at this
  have h3 : ZeroH w0 (w.heap.size + 1 + 1) := by
    have := heap_alloc_last ((w.alloc (.cells (a.map u8V).toArray 24)).alloc zSum) zSum
    rwa [World.size_alloc, World.size_alloc, ← hw0] at this
  have hsz : w0.heap.size = w.heap.size + 3 := by rw [hw0]; simp
  obtain ⟨z, hz⟩ : ∃ z, z = (if okL m n then ((Tree.llong m.toNat n.toNat true : Nat) : Int) else -1) := ⟨_, rfl⟩
  have HLO : Hid (∀ u, Calls Tryd.prog 22 #[.int .i64 m, .int .i64 n] u fun e w' => e = .returned (.int .i64 z) ∧ u = w') := Lib.hid fun u => by rw [hz]; exact rlinksLong_any m n u l1 l2
  have hfl : bothLen m n P = decide ((k : Int) = z) := by unfold bothLen; rw [hz, hk]
  have hfz : bothZ a m n P = if decide ((k : Int) = z) then (Tree.boths a m.toNat n.toNat true P, true) else ((List.replicate 32 0, List.replicate 32 0), false) := by unfold bothZ; rw [hfl]
  have hvs := hv
  rw [← hk] at hvs ⊢
  by_cases hkz : (k : Int) = z
  · obtain ⟨hok, hkl⟩ := bothLen_t (by rw [hfl]; exact decide_eq_true hkz)
    rw [hfz, if_pos (decide_eq_true hkz)]
    have hok' := okL_t hok
    obtain ⟨M, rfl⟩ := Int.eq_ofNat_of_zero_le (show 0 ≤ m by omega)
    obtain ⟨N, rfl⟩ := Int.eq_ofNat_of_zero_le (show 0 ≤ n by omega)
    simp only [Int.toNat_natCast] at hkl ⊢
    have hkz' : z = (k : Int) := hkz.symm
    obtain ⟨X, hX⟩ : ∃ X, X = (Tree.boths a M N true P).1 := ⟨_, rfl⟩
    obtain ⟨Y, hY⟩ : ∃ Y, Y = (Tree.boths a M N true P).2 := ⟨_, rfl⟩
    have hXY := Tree.boths_length a M N true P ha hv.ok (lead_ne (by omega) (by omega) hkl)
    have HIH : Hid (∀ u0 : World, Below w.heap.size w u0 → Calls Tryd.prog 43 #[sumV a, .int .i64 (M : Int), .int .i64 (N : Int), .bool true, .slice va k cap] u0 fun e w' => e = .returned (.tuple #[sumV X, sumV Y, .int .i64 ((Tree.llong M N true : Nat) : Int)]) ∧ Below u0.heap.size u0 w') := Lib.hid fun u0 hu0 => by
      rw [hX, hY]
      exact rboth_any N a M true _ P u0 ha (by omega) (by omega) (by omega) (by omega) hP (hvs.old hu0)
    rw [← hX, ← hY] at hXY ⊢
    have HXl := Lib.hid hXY.1
    have HYl := Lib.hid hXY.2
    rw [hkz'] at HLO
    have HA := Lib.hid ha
    have H1 := Lib.hid h1
    have H2 := Lib.hid h2
    have H3 := Lib.hid h3
    have HB := Lib.hid b0
    have hs1 : w.heap.size < w0.heap.size ∧ w.heap.size + 1 < w0.heap.size ∧ w.heap.size + 1 + 1 < w0.heap.size := by omega
    clear hfz hfl hz hok hkl hkz hkz' hk h1 h2 h3 b0 ha hv hvs l1 l2 hcap hlc hXY hX hY hok' hsz
    unfold sumV
    go_enter Tryd.func23, Tryd.ntmps23
    go_upto_region 1 with (fail)
    change Code.wp _ _ _ _ (((w.alloc (.cells (a.map u8V).toArray 24)).alloc zSum).alloc zSum)
    rw [← hw0]
    clear hw0
    go_upto_region 4 with (first
      | (go_at_call 22; ((with_reducible refine (HLO.out _).mono ?_); rintro e w1 ⟨rfl, rfl⟩))
      | refine wpList_load_mid rfl 24 (.tmp 4) rfl w.heap.size 0 rfl (a.map u8V) _ (range_var H1.out) Tryd.underlying24 rfl (sum_info' HA.out) ?_
      | (go_at_call 43; (refine (HIH.out _ HB.out).mono ?_); rintro e w2 ⟨rfl, b2⟩; have hz0 := two_new w2 X HXl.out)
      | refine wpList_store_mid rfl 24 (.tmp 11) (.tmp 28) rfl w2.heap.size 0 (X.map u8V).toArray rfl rfl (sum_there hz0.1 HXl.out) (sum_info HXl.out) (sum_one X) ?_
      | refine wpList_store_mid rfl 24 (.tmp 12) (.tmp 29) rfl (w2.heap.size + 1) 0 (Y.map u8V).toArray rfl rfl (sum_there hz0.2.1 HYl.out) (sum_info HYl.out) (sum_one Y) ?_)
    change Code.wp _ _ _ _ ((((w2.alloc zSum).alloc zSum).setCells w2.heap.size 0 (X.map u8V)).setCells (w2.heap.size + 1) 0 (Y.map u8V))
    obtain ⟨W, hW⟩ : ∃ u, u = (((w2.alloc zSum).alloc zSum).setCells w2.heap.size 0 (X.map u8V)).setCells (w2.heap.size + 1) 0 (Y.map u8V) := ⟨_, rfl⟩
    obtain ⟨hq14, hq15, k6⟩ := two_set w2 X Y HXl.out HYl.out W hW
    have z10 : ZeroH W (w.heap.size + 1) := IsH.old (IsH.old (x := List.replicate 32 0) H2.out b2) k6
    have z11 : ZeroH W (w.heap.size + 1 + 1) := IsH.old (IsH.old (x := List.replicate 32 0) H3.out b2) k6
    have bW : Below w.heap.size w W := below_step (below_step HB.out (Nat.le_refl _) b2) (Nat.le_refl _) k6
    have l2 := b2.size
    rw [← hW]
    obtain ⟨q15, hq15'⟩ : ∃ q15, q15 = w2.heap.size + 1 := ⟨_, rfl⟩
    obtain ⟨q14, hq14'⟩ : ∃ q14, q14 = w2.heap.size := ⟨_, rfl⟩
    have hw14 : w.heap.size + 1 + 1 < q14 := by omega
    have hw15 : w.heap.size + 1 + 1 < q15 := by omega
    rw [← hq15'] at hq15 ⊢
    rw [← hq14'] at hq14 ⊢
    have HQ14 := Lib.hid hq14
    have HQ15 := Lib.hid hq15
    have HZ10 := Lib.hid z10
    have HZ11 := Lib.hid z11
    have HBW := Lib.hid bW
    clear hq15' hq14' hq14 hq15 z10 z11 bW k6 hW hz0 b2 l2
    try simp only [Act.put]
    refine wp_region_ph (Lx := fun _ _ _ _ => True) [RXP.is (sumV X), RXP.is (sumV Y), RXP.any, RXP.any, RXP.is (.bool true)] [2, 3] (RePh w [(q14, X), (q15, Y)] (w.heap.size + 1) (w.heap.size + 1 + 1) (X) (Y) 0 1) (by kernel_rfl) (by kernel_rfl) (by kernel_rfl) (by kernel_rfl) (by kernel_rfl) (⟨below_drew HBW.out, (by intro s hs; simp at hs; rcases hs with rfl | rfl; exact HQ14.out; exact HQ15.out), HZ10.out, HZ11.out⟩) ⟨?_, ?_, ?_, ?_, ?_, trivial⟩ ?_
    · intro ac w' ph hF hPh hlt hP hU K hK0
      have e11 : ac.eval (.tmp 11) = .pointer (some ⟨q14, 0, none⟩) := hF.at 11 (by kernel_rfl)
      exact rop_ld _ _ rfl e11 (load_sumP HXl.out (range_var (hPh.2.1 (q14, X) (by simp)))) (wanted_none rfl) (hK0 _ _ trivial hPh rfl)
    · intro ac w' ph hF hPh hlt hP hU K hK0
      have e12 : ac.eval (.tmp 12) = .pointer (some ⟨q15, 0, none⟩) := hF.at 12 (by kernel_rfl)
      exact rop_ld _ _ rfl e12 (load_sumP HYl.out (range_var (hPh.2.1 (q15, Y) (by simp)))) (wanted_none rfl) (hK0 _ _ trivial hPh rfl)
    · intro ac w' ph hF hPh hlt hP hU K hK0
      obtain rfl : ph = 0 := (hlt 0 2 rfl).1 rfl
      have e8 : ac.eval (.tmp 8) = .pointer (some ⟨w.heap.size + 1, 0, none⟩) := hF.at 8 (by kernel_rfl)
      have e31 : ac.eval (.tmp 31) = sumV X := hP 0 (by kernel_rfl)
      have hz : ZeroH w' (w.heap.size + 1) := hPh.2.2.1
      exact rop_storeG _ _ _ rfl e8 e31 (run_storeAt_mid w' _ 0 _ _ (sum_there hz HXl.out) (sum_info HXl.out) (sum_one X)) (wanted_none rfl) (hK0 undef _ trivial (hPh.p HXl.out (by omega) (by intro s hs; simp at hs; rcases hs with rfl | rfl <;> simp only <;> omega)) trivial)
    · intro ac w' ph hF hPh hlt hP hU K hK0
      obtain rfl : ph = 1 := (hlt 1 3 rfl).1 rfl
      have e9 : ac.eval (.tmp 9) = .pointer (some ⟨w.heap.size + 1 + 1, 0, none⟩) := hF.at 9 (by kernel_rfl)
      have e32 : ac.eval (.tmp 32) = sumV Y := hP 1 (by kernel_rfl)
      have hz : ZeroH w' (w.heap.size + 1 + 1) := hPh.2.2.2
      exact rop_storeG _ _ _ rfl e9 e32 (run_storeAt_mid w' _ 0 _ _ (sum_there hz HYl.out) (sum_info HYl.out) (sum_one Y)) (wanted_none rfl) (hK0 undef _ trivial (hPh.q HYl.out (by omega) (by intro s hs; simp at hs; rcases hs with rfl | rfl <;> simp only <;> omega)) trivial)
    · intro ac w' ph hF hPh hlt hP hU K hK0
      exact rop_assign _ rfl rfl (wanted_none rfl) (hK0 _ _ trivial hPh rfl)
    · intro ac w' hF hPh hT
      have e10 : ac.eval (.tmp 10) = .bool true := hT 4 (by decide)
      rw [hF.setsG [31, 32, 10] (by kernel_rfl)]
      simp only [List.foldl_cons, List.foldl_nil, List.setIfInBounds_toArray, List.set_cons_succ, List.set_cons_zero, e10]
      generalize ac.eval (.tmp 31) = u31
      generalize ac.eval (.tmp 32) = u32
      clear e10 hT hF ac
      obtain ⟨hQ1, hQ2, hQ3, hQ4⟩ := hPh
      have hQ3' : IsH (X) w' (w.heap.size + 1) := hQ3
      have hQ4' : IsH (Y) w' (w.heap.size + 1 + 1) := hQ4
      have HQ1 := Lib.hid hQ1
      have HQ3 := Lib.hid hQ3'
      have HQ4 := Lib.hid hQ4'
      clear hQ1 hQ2 hQ3 hQ4 hQ3' hQ4'
      go_wp2
      exact bodyPost_ret (results_cct (t := 8) (t' := 9) (u := 10) (ty := 24) (b := w.heap.size + 1) (b' := w.heap.size + 1 + 1) (cs := (X).map u8V) (cs' := (Y).map u8V) rfl _ _ _ rfl rfl (range_var HQ3.out) (range_var HQ4.out) Tryd.underlying24 rfl (sum_info' HXl.out) (sum_info' HYl.out)) rfl ⟨rfl, HQ1.out⟩
  · rw [hfz, if_neg (by simpa using hkz)]
    obtain ⟨Z, hZ⟩ : ∃ Z, Z = List.replicate 32 (0 : UInt8) := ⟨_, rfl⟩
    have HZB : Hid (Tryd.prog.built 24 [] = some (Z.map u8V).toArray) := Lib.hid (by rw [hZ]; exact built_zeroP)
    have HZl : Hid (Z.length = 32) := Lib.hid (by rw [hZ]; simp)
    rw [← hZ]
    have h23 : Hid (((w0.setCells (w.heap.size + 1) 0 (Z.map u8V))).heap[w.heap.size + 1 + 1]? = some (.cells ((List.replicate 32 (0 : UInt8)).map u8V).toArray 24 (0, 0))) := Lib.hid (((only_setCells (b := w.heap.size + 1) (Z.map u8V) 0 w0 (Only.refl _ _)).block _ (Array.getElem?_eq_some_iff.1 h3).1 (by omega)).trans h3)
    have hkz' : ¬ z = (k : Int) := fun e => hkz e.symm
    have HA := Lib.hid ha
    have H1 := Lib.hid h1
    have H2 := Lib.hid h2
    have H3 := Lib.hid h3
    have HB := Lib.hid b0
    clear hZ hfz hfl hz b0 h1 h2 h3 ha hv hvs l1 l2 hsz hcap hlc hk
    unfold sumV
    go_enter Tryd.func23, Tryd.ntmps23
    go_upto_region 1 with (fail)
    change Code.wp _ _ _ _ (((w.alloc (.cells (a.map u8V).toArray 24)).alloc zSum).alloc zSum)
    rw [← hw0]
    clear hw0
    go_wp2_with (first
      | (go_at_call 22; ((with_reducible refine (HLO.out _).mono ?_); rintro e w1 ⟨rfl, rfl⟩))
      | refine wpList_build_at rfl 24 #[] rfl (Z.map u8V).toArray [] (by simp) HZB.out ?_
      | refine wpList_store_mid rfl 24 (.tmp 8) (.tmp 20) rfl (w.heap.size + 1) 0 (Z.map u8V).toArray rfl rfl (sum_there H2.out HZl.out) (sum_info HZl.out) (sum_one _) ?_
      | refine wpList_store_mid rfl 24 (.tmp 9) (.tmp 21) rfl (w.heap.size + 1 + 1) 0 (Z.map u8V).toArray rfl rfl (sum_there h23.out HZl.out) (sum_info HZl.out) (sum_one _) ?_)
    exact bodyPost_ret (results_cct (t := 8) (t' := 9) (u := 10) (ty := 24) (b := w.heap.size + 1) (b' := w.heap.size + 1 + 1) (cs := Z.map u8V) (cs' := Z.map u8V) rfl _ _ _ rfl rfl (World.rangeAt_setCells_apart (sum_range H2.out HZl.out) _ _ _ (.inl (by omega))) (sum_range h23.out HZl.out) Tryd.underlying24 rfl (sum_info' HZl.out) (sum_info' HZl.out)) rfl ⟨rfl, below_setCells (by omega) _ _ _ (below_setCells (Nat.le_succ _) _ _ _ HB.out)⟩
end Go.Proofs.YtdcebdleneieeaaDoor
/-! ## The document's own Goes (scriniumref12). Made of ProofGoes' text by rgoes.py. -/
namespace Go.Proofs.YtdcebdleneieeaaDoor
open Go.RowKit

end Go.Proofs.YtdcebdleneieeaaDoor
/-! ## The statements' own helpers awake and few (scriniumlaw12). -/
namespace Go.Proofs.YtdcebdleneieeaaDoor
open Go.RowKit

theorem foldLen_eq (m n : Int) (P : Hs) : foldLen m n P = decide ((P.length : Int) = if okP m n then ((Tree.long m.toNat n.toNat : Nat) : Int) else -1) := rfl
theorem bothLen_eq (m n : Int) (P : Hs) : bothLen m n P = decide ((P.length : Int) = if okL m n then ((Tree.llong m.toNat n.toNat true : Nat) : Int) else -1) := rfl
theorem root3 (A B C : List UInt8) : Tree.root [A, B, C] = Tree.node (Tree.node A B) C := by
  rw [Tree.root_go _ (by simp), show [A, B, C].length = 3 from rfl, split3, show [A, B, C].take 2 = [A, B] from rfl, root2]
  rfl
end Go.Proofs.YtdcebdleneieeaaDoor
/-! ## Arguments of the statements of layer 12: arrays of hashes, a number with a row of hashes, two rows of hashes. -/
namespace Go.Proofs.YtdcebdleneieeaaDoor
open Go.ChangeShapes Go.WideShapes Go.ChangeAt Go.RowKit

/-- Two numbers by value. -/
theorem ints2_argP {H : Type} {enc : TypeId × Value → H} {W : World} {r : Reach} {b0 : Nat} {v : Value} {d : DataW H} {ps : List MemPlace} (hv : Value.okWide Tryd.prog W r b0 22 v)
    (h : DataW.Trod enc Tryd.prog W 0 (fun _ => true) true 22 v d ps) : ∃ a n : Int, v = .agg #[.int .i64 a, .int .i64 n] ∧ (-9223372036854775808 ≤ a ∧ a ≤ 9223372036854775807) ∧ (-9223372036854775808 ≤ n ∧ n ≤ 9223372036854775807) := by
  obtain ⟨l, rfl, hl, hw⟩ := int_array Tryd.underlying22 Tryd.underlying3 (by kernel_rfl) (by kernel_rfl) hv h
  match l, hl with
  | [a, n], _ => exact ⟨a, n, rfl, i64_bounds (hw a (by simp)), i64_bounds (hw n (by simp))⟩
theorem chunks32 : ∀ (n : Nat) (c : List Value), c.length = n * 32 → (∀ i, i < n → ∃ x : List UInt8, (c.drop (i * 32)).take 32 = x.map u8V ∧ x.length = 32) → ∃ l : Hs, c = sc l ∧ l.length = n ∧ all32 l
  | 0, c, hc, _ => ⟨[], by
    have h0 : c = [] := List.eq_nil_of_length_eq_zero (by omega)
    rw [h0]; rfl, rfl, all32.nil⟩
  | n + 1, c, hc, h => by
    obtain ⟨x, hx, hxl⟩ := h 0 (by omega)
    rw [Nat.zero_mul, List.drop_zero] at hx
    obtain ⟨l, hl, hll, hlo⟩ := chunks32 n (c.drop 32) (by rw [List.length_drop]; omega) fun i hi => by
      obtain ⟨y, hy, hyl⟩ := h (i + 1) (by omega)
      refine ⟨y, ?_, hyl⟩
      rw [List.drop_drop, ← hy]
      congr 2
      omega
    refine ⟨x :: l, ?_, by simp [hll], fun y hy => (List.mem_cons.1 hy).elim (fun e => e ▸ hxl) (hlo y)⟩
    rw [sc_cons, ← hx, ← hl, List.take_append_drop]
set_option maxRecDepth 100000 in
theorem open_sumsN {H : Type} {enc : TypeId × Value → H} {W : World} {r : Reach} {b0 n : Nat} {t : TypeId} {v : Value} {d : DataW H} {ps : List MemPlace} (ht : Tryd.prog.underlying t = some (.array n 24)) (hcs : Tryd.prog.cellsOf t = n * 32)
    (hv : Value.okWide Tryd.prog W r b0 t v) (h : DataW.Trod enc Tryd.prog W 0 (fun _ => true) true t v d ps) : ∃ l : Hs, v = .agg (sc l).toArray ∧ l.length = n ∧ all32 l := by
  have k1 : Tryd.prog.cellsOf 24 = 32 := by kernel_rfl
  obtain ⟨cs, rfl, hsz⟩ : ∃ cs, v = .agg cs ∧ cs.size = n * 32 := by
    unfold Value.okWide at hv
    simp only [ht] at hv
    obtain ⟨cs, h1, h2, _⟩ := hv
    exact ⟨cs, h1, h2.trans hcs⟩
  obtain ⟨c⟩ := cs
  have hcl : c.length = n * 32 := by simpa using hsz
  obtain ⟨fuel, hf⟩ := h
  obtain ⟨xs, m, _, _, _, hl, hx⟩ := DataW.trod_array ht hf
  obtain ⟨l, hl, h1, h2⟩ := chunks32 n c hcl fun i hi => by
    have h0 := hx i hi
    rw [k1] at h0
    obtain ⟨y, hy⟩ : ∃ y, xs[i]? = some y := ⟨xs[i], List.getElem?_eq_getElem (by omega)⟩
    rw [hy] at h0
    exact sum_cells h0
  exact ⟨l, by rw [hl], h1, h2⟩
theorem slice_cellsP {H : Type} {enc : TypeId × Value → H} {W : World} {fuel : Nat} {cs : List Value} {x : DataW H × List MemPlace}
    (hf : DataW.trod enc Tryd.prog W 0 (fun _ => true) true fuel 26 cs = some x) : ∃ v l, cs = [v] ∧ Sums W v l := by
  have key : ∃ a len cap, cs = [.slice a len cap] := by
    rcases DataW.trod_slice Tryd.underlying26 hf with ⟨hcs, _⟩ | ⟨a', len', cap', elems, rest, n, _, hcs, _, _, hl, hm, hlen', hel, _, _⟩
    · exact ⟨_, _, _, hcs⟩
    · exact ⟨_, _, _, hcs⟩
  obtain ⟨a, len, cap, rfl⟩ := key
  obtain ⟨d, ps⟩ := x
  obtain ⟨l, hl⟩ := sums_of (enc := enc) (W := W) (a := a) (len := len) (cap := cap) (d := d) (ps := ps) ⟨fuel, by simpa [Value.cells] using hf⟩
  exact ⟨_, l, rfl, hl⟩
theorem eql_bool_sameP (x : Bool) (w : World) : (binOp .eql 4 (.bool x) (.bool x)).run Tryd.prog w = .ok (.bool true) w := by cases x <;> go_simp
theorem len2P {L : Hs} (h : L.length = 2) : ∃ a b, L = [a, b] := by
  match L, h with
  | [a, b], _ => exact ⟨a, b, rfl⟩
theorem len3P {L : Hs} (h : L.length = 3) : ∃ a b c, L = [a, b, c] := by
  match L, h with
  | [a, b, c], _ => exact ⟨a, b, c, rfl⟩
end Go.Proofs.YtdcebdleneieeaaDoor
/-! ## What the laws of layer 12 want besides: arrays in variables. -/
namespace Go.Proofs.YtdcebdleneieeaaDoor
open Go.RowKit

theorem heap_oldP {w w' : World} {q : Nat} {o : Obj} (h : w.heap[q]? = some o) (hb : Below w.heap.size w w') : w'.heap[q]? = some o := (hb.block q (Array.getElem?_eq_some_iff.1 h).1).trans h
theorem load_intP {b o : Nat} {x : Int} {w : World} (h0 : w.cell? ⟨b, o, none⟩ = some (.int .i64 x)) : (Instr.loadAt 3 (.pointer (some ⟨b, o, none⟩))).run Tryd.prog w = .ok (.int .i64 x) w := by
  go_simp
theorem idx2i (q k : Nat) (K : Int) (hK : K = (k : Int)) (h : k < 2) (w : World) : (Instr.indexAt 22 (.pointer (some ⟨q, 0, none⟩)) (.int .i64 K)).run Tryd.prog w = .ok (.pointer (some ⟨q, k, none⟩)) w := by
  subst hK
  have : k = 0 ∨ k = 1 := by omega
  rcases this with rfl | rfl <;> go_simp
theorem idx2S (q k : Nat) (K : Int) (hK : K = (k : Int)) (h : k < 2) (w : World) : (Instr.indexAt 25 (.pointer (some ⟨q, 0, none⟩)) (.int .i64 K)).run Tryd.prog w = .ok (.pointer (some ⟨q, k * 32, none⟩)) w := by
  subst hK
  have : k = 0 ∨ k = 1 := by omega
  rcases this with rfl | rfl <;> go_simp
theorem sc_rangeAt {w : World} {q : Nat} {L : Hs} {T : TypeId} (h : w.heap[q]? = some (.cells (sc L).toArray T (0, 0))) (ho : all32 L) (k : Nat) (x : List UInt8) (hk : L[k]? = some x) : w.rangeAt q (k * 32) (x.map u8V) := fun j v hv => by
  obtain ⟨h1, rfl⟩ := List.getElem?_eq_some_iff.1 hk
  rw [cell_of h]
  simpa using sc_get L ho k h1 j v hv
theorem rightF {r x : List UInt8} {m n : Int} {P : Hs} (h : foldLen m n P = false) : ((foldZ x m n P).2 && decide ((foldZ x m n P).1 = r)) = false := by
  unfold foldZ
  rw [h]
  rfl
theorem goesF {a b : List UInt8} {m n : Int} {P : Hs} (h : bothLen m n P = false) : goesZ a m b n P = false := by
  unfold goesZ bothZ
  rw [h]
  rfl
end Go.Proofs.YtdcebdleneieeaaDoor
