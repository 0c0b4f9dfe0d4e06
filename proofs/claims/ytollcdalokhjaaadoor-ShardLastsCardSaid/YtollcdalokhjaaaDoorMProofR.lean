/-
  Several texts in one (RProofFold, RProofBoth, RProofGoes, ProofAwake, ProofArg, ProofHelp).
-/
import Derived.Test.YtollcdalokhjaaaDoorMProofA
import Derived.Test.YtollcdalokhjaaaDoorMGen
import Derived.Test.YtollcdalokhjaaaDoorMLeafB
import Derived.Test.YtollcdalokhjaaaDoorMProofB
import Derived.Test.YtollcdalokhjaaaDoorMPathB
import Derived.Test.YtollcdalokhjaaaDoorMLeafL
import Derived.Test.YtollcdalokhjaaaDoorMLeafA
import Derived.Test.YtollcdalokhjaaaDoorMArg
/-! ## The document's own Fold (scriniumref12). -/
namespace Go.Proofs.YtollcdalokhjaaaDoor
open Go.RowKit

set_option maxHeartbeats 4000000 in
set_option maxRecDepth 100000 in
theorem rfold_any (x : List UInt8) (hx : x.length = 32) (m n : Int) (l1 : m ≤ 9223372036854775807) (l2 : n ≤ 9223372036854775807) (v : Value) (P : Hs) (w : World) (hv : Sums w v P) (hP : P.length ≤ 1000) :
    Calls Tryd.prog 37 #[sumV x, .int .i64 m, .int .i64 n, v] w fun e w' => e = .returned (.tuple #[sumV (foldZ x m n P).1, .bool (foldZ x m n P).2]) ∧ Below w.heap.size w w' := by
  obtain ⟨va, cap, rfl, hlc, hcap⟩ := hv.slice
  obtain ⟨k, hk⟩ : ∃ k, k = P.length := ⟨_, rfl⟩
  obtain ⟨w0, hw0⟩ : ∃ w0, w0 = (w.alloc (.cells (x.map u8V).toArray 33)).alloc zSum := ⟨_, rfl⟩
  have b0 : Below w.heap.size w w0 := by rw [hw0]; exact ((Below.refl _ _).alloc (Nat.le_refl _) _).alloc (by simp) _
  have h1 : w0.heap[w.heap.size]? = some (.cells (x.map u8V).toArray 33 (0, 0)) := by
    rw [hw0]
    exact (((Below.refl (w.alloc (.cells (x.map u8V).toArray 33)).heap.size _).alloc (Nat.le_refl _) _).block w.heap.size (by simp)).trans (heap_alloc_last w _)
  have h2 : w0.heap[w.heap.size + 1]? = some (.cells ((List.replicate 32 (0 : UInt8)).map u8V).toArray 33 (0, 0)) := by
    have := heap_alloc_last (w.alloc (.cells (x.map u8V).toArray 33)) zSum
    rwa [World.size_alloc, ← hw0] at this
  have hsz : w0.heap.size = w.heap.size + 2 := by rw [hw0]; simp
  obtain ⟨z, hz⟩ : ∃ z, z = (if okP m n then ((Tree.long m.toNat n.toNat : Nat) : Int) else -1) := ⟨_, rfl⟩
  have HLO : Hid (∀ u, Calls Tryd.prog 58 #[.int .i64 m, .int .i64 n] u fun e w' => e = .returned (.int .i64 z) ∧ Below u.heap.size u w') := Lib.hid fun u => by rw [hz]; exact prlong_any m n u l1 l2
  have hfl : foldLen m n P = decide ((k : Int) = z) := by unfold foldLen; rw [hz, hk]
  have hfz : foldZ x m n P = if decide ((k : Int) = z) then (Tree.fold x P (turnsZ m n), true) else (List.replicate 32 0, false) := by unfold foldZ; rw [hfl]
  have HV := Lib.hid hv
  have HB := Lib.hid b0
  have HX := Lib.hid hx
  have H1 := Lib.hid h1
  have H2 := Lib.hid h2
  rw [← hk] at HV ⊢
  by_cases hkz : (k : Int) = z
  · obtain ⟨hok, hkl⟩ := foldLen_t (by rw [hfl]; exact decide_eq_true hkz)
    rw [hfz, if_pos (decide_eq_true hkz)]
    obtain ⟨T, hT⟩ : ∃ T, T = turnsZ m n := ⟨_, rfl⟩
    have hTl : T.length = k := by rw [hT, hk, hkl]; unfold turnsZ; rw [if_pos hok]; rfl
    have HTU : Hid (∀ u, Calls Tryd.prog 59 #[.int .i64 m, .int .i64 n] u fun e w' => ∃ b c, e = .returned (.slice b k c) ∧ OwnB u.heap.size w' (.slice b k c) T ∧ Below u.heap.size u w') := Lib.hid fun u => by
      have := rturns_any m n u l1 l2
      rw [← hT] at this
      refine this.mono fun e w' ⟨v', he, ho, hb⟩ => ?_
      obtain ⟨b, c, rfl, -, -⟩ := ho.bools.slice
      have hs := ho
      rw [hTl] at he hs
      exact ⟨b, c, he, hs, hb⟩
    rw [← hT]
    obtain ⟨D, hD⟩ : ∃ D, D = Tree.fold x P T := ⟨_, rfl⟩
    rw [← hD]
    have HD := Lib.hid hD
    have HTl := Lib.hid hTl
    have Hk := Lib.hid hk
    have HPok := Lib.hid hv.ok
    have hsz1 : w.heap.size < w0.heap.size := by omega
    have hsz2 : w.heap.size + 1 < w0.heap.size := by omega
    obtain rfl : z = (k : Int) := hkz.symm
    clear hfz hfl hz hok hkl hT hTl hD hkz hk b0 h1 h2 hx hv l1 l2 hsz hcap hlc
    unfold sumV
    go_enter Tryd.func37, Tryd.ntmps37
    go_upto_region 1 with (fail)
    change Code.wp _ _ _ _ ((w.alloc (.cells (x.map u8V).toArray 33)).alloc zSum)
    rw [← hw0]
    clear hw0
    go_upto_region 5 with (first
      | (go_at_call 58; ((with_reducible refine (HLO.out _).mono ?_); rintro e w1 ⟨rfl, b1⟩))
      | (go_at_call 59; ((with_reducible refine (HTU.out _).mono ?_); rintro e w3 ⟨aT, cT, rfl, hst, b3⟩; have HST := Lib.hid hst; clear hst)))
    have b13 := below_step b1 (Nat.le_refl _) b3
    have hbv : Below w.heap.size w w3 := below_step HB.out (Nat.le_refl _) b13
    have z1 := Lib.hid ((b13.block _ hsz1).trans H1.out)
    have z2 := Lib.hid ((b13.block _ hsz2).trans H2.out)
    have hq2 : w.heap.size + 1 < w3.heap.size := Nat.lt_of_lt_of_le hsz2 b13.size
    obtain ⟨V, hV⟩ : ∃ V, V = w3 := ⟨_, rfl⟩
    obtain ⟨r, hr⟩ : ∃ r, r = w.heap.size + 1 := ⟨_, rfl⟩
    obtain ⟨q, hq⟩ : ∃ q, q = w.heap.size := ⟨_, rfl⟩
    have hw1s : w0.heap.size ≤ w1.heap.size := b1.size
    rw [← hV] at hbv z1 z2 hq2 HST ⊢
    have hs3 : Sums V (.slice va k cap) P := HV.out.old hbv
    have hsb : ∀ b off, va = some ⟨b, off, none⟩ → 0 < k → b < q := fun b off e h0 => by
      obtain ⟨b', off', e', hb, -⟩ := HV.out.at 0 (by rw [← Hk.out]; exact h0)
      rw [e] at e'
      injection e' with e'
      injection e' with e1
      omega
    rw [← hr] at z2 hq2 ⊢
    rw [← hq] at z1 ⊢
    have hqr : q < r := by omega
    have hqV : q < V.heap.size := by omega
    have hw02 : r < w0.heap.size := by omega
    have HS3 := Lib.hid hs3
    have Hq := Lib.hid hq
    have Hr := Lib.hid hr
    have HBV := Lib.hid hbv
    clear hs3 hV b1 b3 b13 hq hr hbv hsz1 hsz2
    go_wp2
    go_loopw [11] (FoRel P T D q V) (fun s11 _ => k - (intOf s11).toNat)
    case atStart => exact ⟨0, x, rfl, by omega, HX.out, HD.out.symm, Only.refl _ _, z1.out⟩
    case round =>
      obtain ⟨i, X, rfl, hi, hXl, hfo, honly, hqc⟩ := hrel
      rw [HTl.out] at hi
      have HXl := Lib.hid hXl
      have HFo := Lib.hid hfo
      have HO := Lib.hid honly
      have HQC := Lib.hid hqc
      have hzr : wr.heap[r]? = some (.cells ((List.replicate 32 (0 : UInt8)).map u8V).toArray 33 (0, 0)) := (honly.block r hq2 (by omega)).trans z2.out
      have HZR := Lib.hid hzr
      clear hXl hfo honly hqc hzr
      by_cases hik : i < k
      · have hik' : (i : Int) < (k : Int) := by omega
        obtain ⟨p, hp⟩ : ∃ p, P[i]? = some p := ⟨_, List.getElem?_eq_getElem (by rw [← Hk.out]; exact hik)⟩
        obtain ⟨tb, htb⟩ : ∃ tb, T[i]? = some tb := ⟨_, List.getElem?_eq_getElem (by rw [HTl.out]; exact hik)⟩
        have hpl : p.length = 32 := HPok.out p (List.mem_of_getElem? hp)
        obtain ⟨gT, rfl, hg1, hg2, -, hgc⟩ := HST.out.at0 htb
        obtain ⟨bp, op, rfl, hb2, -, hrp⟩ := HS3.out.at0 hp
        have hbq := hsb bp op rfl (by omega)
        have hct : wr.cell? ⟨gT, i, none⟩ = some (.bool tb) := (HO.out.cell hg2 (by omega)).trans hgc
        have hrp' : wr.rangeAt bp (op + i * 32) (p.map u8V) := fun j u hu => (HO.out.cell hb2 (by omega)).trans (hrp j u hu)
        have hidx1 := fun u => index_bools gT 0 k cT i (i : Int) rfl hik u
        have hidx2 := fun u => index_sums bp op k cap i hik u
        rw [Nat.zero_add] at hidx1
        obtain ⟨D2, hD2⟩ : ∃ D2, D2 = Tree.step X p tb := ⟨_, rfl⟩
        have hD2l : D2.length = 32 := by rw [hD2]; exact Tree.step_length _ _ _
        have hfo2 : Tree.fold D2 (P.drop (i + 1)) (T.drop (i + 1)) = D := by
          have e := HFo.out
          obtain ⟨hi1, hi2⟩ := List.getElem?_eq_some_iff.1 hp
          obtain ⟨hj1, hj2⟩ := List.getElem?_eq_some_iff.1 htb
          rw [List.drop_eq_getElem_cons hi1, List.drop_eq_getElem_cons hj1, hi2, hj2, foldP_cons, ← hD2] at e
          exact e
        have HRP := Lib.hid hrp'
        have HPl := Lib.hid hpl
        have HD2 := Lib.hid hD2
        have HD2l := Lib.hid hD2l
        have HFo2 := Lib.hid hfo2
        have hqw : q < wr.heap.size := Nat.lt_of_lt_of_le hqV HO.out.size
        have hwr := IntWalk.i64_in ((i : Int) + 1) (by have := Hk.out; omega)
        have hbpW : bp < wr.heap.size := Nat.lt_of_lt_of_le hb2 HO.out.size
        have HN : Hid (∀ u : World, Calls Tryd.prog 44 #[if tb then sumV p else sumV X, if tb then sumV X else sumV p] u fun e w' => e = .returned (sumV D2) ∧ Below u.heap.size u w') := Lib.hid fun u => by
          rw [hD2]
          cases tb with
          | true => exact rleafNode_any p X hpl HXl.out u
          | false => exact rleafNode_any X p HXl.out hpl u
        clear hp htb hpl hrp hrp' hgc hD2 hD2l hfo2 hb2 hbq hg1 hg2 HFo hsb
        obtain ⟨W, hW⟩ : ∃ W, W = wr := ⟨_, rfl⟩
        subst hW
        cases tb with
        | true =>
          have HN : Hid (∀ u : World, Calls Tryd.prog 44 #[sumV p, sumV X] u fun e w' => e = .returned (sumV D2) ∧ Below u.heap.size u w') := HN
          go_upto_region 8 with (fail)
          try simp only [Act.put]
          refine wp_region_ph (Lx := GLx 2) [RXP.is (.slice (some ⟨bp, op, none⟩) k cap), RXP.is (.int .i64 (i : Int)), RXP.is (.pointer (some ⟨bp, op + i * 32, none⟩)), RXP.is (sumV p), RXP.is (sumV X), RXP.is (sumV D2), RXP.any] [5, 6] (fun k w' => (k < 2 → Below W.heap.size W w') ∧ (k = 2 → ∃ u, Below W.heap.size W u ∧ w' = u.setCells q 0 (D2.map u8V))) (by kernel_rfl) (by kernel_rfl) (by kernel_rfl) (by kernel_rfl) (by kernel_rfl) (⟨fun _ => below_drew (Below.refl _ _), fun h => absurd h (by decide)⟩) ⟨?_, ?_, ?_, ?_, ?_, ?_, ?_, trivial⟩ ?_
          · intro ac w' ph hF hPh hlt hP hU K hK0
            have e3 : ac.eval (.tmp 3) = .slice (some ⟨bp, op, none⟩) k cap := hF.at 3 (by kernel_rfl)
            exact rop_move _ rfl e3 (wanted_none rfl) (hK0 _ _ GLx.same hPh rfl)
          · intro ac w' ph hF hPh hlt hP hU K hK0
            have e11 : ac.eval (.tmp 11) = .int .i64 (i : Int) := hF.at 11 (by kernel_rfl)
            exact rop_move _ rfl e11 (wanted_none rfl) (hK0 _ _ GLx.same hPh rfl)
          · intro ac w' ph hF hPh hlt hP hU K hK0
            have e32 : ac.eval (.tmp 32) = .slice (some ⟨bp, op, none⟩) k cap := hP 0 (by kernel_rfl)
            have e33 : ac.eval (.tmp 33) = .int .i64 (i : Int) := hP 1 (by kernel_rfl)
            exact rop_idx _ _ _ rfl e32 e33 (index_sums bp op k cap i hik w') (wanted_none rfl) (hK0 _ _ GLx.same hPh rfl)
          · intro ac w' ph hF hPh hlt hP hU K hK0
            have hph : ph ≤ 0 := (hlt 0 5 rfl).2 (by kernel_rfl)
            have e34 : ac.eval (.tmp 34) = .pointer (some ⟨bp, op + i * 32, none⟩) := hP 2 (by kernel_rfl)
            exact rop_ld _ _ rfl e34 (load_sumP HPl.out (below_range (hPh.1 (by omega)) hbpW HRP.out)) (wanted_none rfl) (hK0 _ _ GLx.same hPh rfl)
          · intro ac w' ph hF hPh hlt hP hU K hK0
            have hph : ph ≤ 0 := (hlt 0 5 rfl).2 (by kernel_rfl)
            have e4 : ac.eval (.tmp 4) = .pointer (some ⟨q, 0, none⟩) := hF.at 4 (by kernel_rfl)
            exact rop_ld _ _ rfl e4 (load_sumP HXl.out (below_range (hPh.1 (by omega)) hqw (range_var HQC.out))) (wanted_none rfl) (hK0 _ _ GLx.same hPh rfl)
          · intro ac w' ph hF hPh hlt hP hU K hK0
            obtain rfl : ph = 0 := (hlt 0 5 rfl).1 rfl
            have e35 : ac.eval (.tmp 35) = sumV p := hP 3 (by kernel_rfl)
            have e36 : ac.eval (.tmp 36) = sumV X := hP 4 (by kernel_rfl)
            have hB : Below W.heap.size W w' := hPh.1 (by decide)
            refine rop_call 44 _ _ rfl #[sumV p, sumV X] (by simp [e35, e36]) (by kernel_rfl) (wanted_none rfl) ?_
            refine (HN.out w').mono ?_
            rintro e w2 ⟨rfl, hb⟩
            exact ⟨_, rfl, hK0 _ _ (GLx.old (by decide) hb) ⟨fun _ => below_step hB (Nat.le_refl _) hb, fun h => absurd h (by decide)⟩ rfl⟩
          · intro ac w' ph hF hPh hlt hP hU K hK0
            obtain rfl : ph = 1 := (hlt 1 6 rfl).1 rfl
            have e4 : ac.eval (.tmp 4) = .pointer (some ⟨q, 0, none⟩) := hF.at 4 (by kernel_rfl)
            have e37 : ac.eval (.tmp 37) = sumV D2 := hP 5 (by kernel_rfl)
            have hB : Below W.heap.size W w' := hPh.1 (by decide)
            have hz := (hB.block q hqw).trans HQC.out
            exact rop_storeG _ _ _ rfl e4 e37 (run_storeAt_mid w' q 0 _ _ (sum_thereP hz HXl.out HD2l.out) (sum_info HD2l.out) (sum_one D2)) (wanted_none rfl) (hK0 undef _ (GLx.last rfl) ⟨fun h => absurd h (by decide), fun _ => ⟨w', hB, rfl⟩⟩ trivial)
          · intro ac w' hF hPh hT
            rw [hF.setsG [32, 33, 34, 35, 36, 37] (by kernel_rfl)]
            simp only [List.foldl_cons, List.foldl_nil, List.setIfInBounds_toArray, List.set_cons_succ, List.set_cons_zero]
            generalize ac.eval (.tmp 32) = u32
            generalize ac.eval (.tmp 33) = u33
            generalize ac.eval (.tmp 34) = u34
            generalize ac.eval (.tmp 35) = u35
            generalize ac.eval (.tmp 36) = u36
            generalize ac.eval (.tmp 37) = u37
            clear  hT hF ac
            obtain ⟨u2, hu2, rfl⟩ := hPh.2 rfl
            have hz2 := (hu2.block q hqw).trans HQC.out
            have HG : Hid (FoRel P T D q V (.int .i64 (((i + 1 : Nat)) : Int)) (u2.setCells q 0 (D2.map u8V))) := Lib.hid ⟨i + 1, D2, rfl, by rw [HTl.out]; omega, HD2l.out, HFo2.out, (HO.out.trans (Only.of_below hu2)).trans (only_setCells (b := q) (D2.map u8V) 0 _ (Only.refl _ _)), set_sumP u2 q X D2 HXl.out HD2l.out hz2⟩
            clear hz2 hu2 hPh
            go_wp2
            exact ⟨by have := HG.out; simpa using this, by simp [intOf]; omega⟩
        | false =>
          have HN : Hid (∀ u : World, Calls Tryd.prog 44 #[sumV X, sumV p] u fun e w' => e = .returned (sumV D2) ∧ Below u.heap.size u w') := HN
          go_upto_region 9 with (fail)
          try simp only [Act.put]
          refine wp_region_ph (Lx := GLx 2) [RXP.is (sumV X), RXP.is (.slice (some ⟨bp, op, none⟩) k cap), RXP.is (.int .i64 (i : Int)), RXP.is (.pointer (some ⟨bp, op + i * 32, none⟩)), RXP.is (sumV p), RXP.is (sumV D2), RXP.any] [5, 6] (fun k w' => (k < 2 → Below W.heap.size W w') ∧ (k = 2 → ∃ u, Below W.heap.size W u ∧ w' = u.setCells q 0 (D2.map u8V))) (by kernel_rfl) (by kernel_rfl) (by kernel_rfl) (by kernel_rfl) (by kernel_rfl) (⟨fun _ => below_drew (Below.refl _ _), fun h => absurd h (by decide)⟩) ⟨?_, ?_, ?_, ?_, ?_, ?_, ?_, trivial⟩ ?_
          · intro ac w' ph hF hPh hlt hP hU K hK0
            have hph : ph ≤ 0 := (hlt 0 5 rfl).2 (by kernel_rfl)
            have e4 : ac.eval (.tmp 4) = .pointer (some ⟨q, 0, none⟩) := hF.at 4 (by kernel_rfl)
            exact rop_ld _ _ rfl e4 (load_sumP HXl.out (below_range (hPh.1 (by omega)) hqw (range_var HQC.out))) (wanted_none rfl) (hK0 _ _ GLx.same hPh rfl)
          · intro ac w' ph hF hPh hlt hP hU K hK0
            have e3 : ac.eval (.tmp 3) = .slice (some ⟨bp, op, none⟩) k cap := hF.at 3 (by kernel_rfl)
            exact rop_move _ rfl e3 (wanted_none rfl) (hK0 _ _ GLx.same hPh rfl)
          · intro ac w' ph hF hPh hlt hP hU K hK0
            have e11 : ac.eval (.tmp 11) = .int .i64 (i : Int) := hF.at 11 (by kernel_rfl)
            exact rop_move _ rfl e11 (wanted_none rfl) (hK0 _ _ GLx.same hPh rfl)
          · intro ac w' ph hF hPh hlt hP hU K hK0
            have e39 : ac.eval (.tmp 39) = .slice (some ⟨bp, op, none⟩) k cap := hP 1 (by kernel_rfl)
            have e40 : ac.eval (.tmp 40) = .int .i64 (i : Int) := hP 2 (by kernel_rfl)
            exact rop_idx _ _ _ rfl e39 e40 (index_sums bp op k cap i hik w') (wanted_none rfl) (hK0 _ _ GLx.same hPh rfl)
          · intro ac w' ph hF hPh hlt hP hU K hK0
            have hph : ph ≤ 0 := (hlt 0 5 rfl).2 (by kernel_rfl)
            have e41 : ac.eval (.tmp 41) = .pointer (some ⟨bp, op + i * 32, none⟩) := hP 3 (by kernel_rfl)
            exact rop_ld _ _ rfl e41 (load_sumP HPl.out (below_range (hPh.1 (by omega)) hbpW HRP.out)) (wanted_none rfl) (hK0 _ _ GLx.same hPh rfl)
          · intro ac w' ph hF hPh hlt hP hU K hK0
            obtain rfl : ph = 0 := (hlt 0 5 rfl).1 rfl
            have e38 : ac.eval (.tmp 38) = sumV X := hP 0 (by kernel_rfl)
            have e42 : ac.eval (.tmp 42) = sumV p := hP 4 (by kernel_rfl)
            have hB : Below W.heap.size W w' := hPh.1 (by decide)
            refine rop_call 44 _ _ rfl #[sumV X, sumV p] (by simp [e38, e42]) (by kernel_rfl) (wanted_none rfl) ?_
            refine (HN.out w').mono ?_
            rintro e w2 ⟨rfl, hb⟩
            exact ⟨_, rfl, hK0 _ _ (GLx.old (by decide) hb) ⟨fun _ => below_step hB (Nat.le_refl _) hb, fun h => absurd h (by decide)⟩ rfl⟩
          · intro ac w' ph hF hPh hlt hP hU K hK0
            obtain rfl : ph = 1 := (hlt 1 6 rfl).1 rfl
            have e4 : ac.eval (.tmp 4) = .pointer (some ⟨q, 0, none⟩) := hF.at 4 (by kernel_rfl)
            have e43 : ac.eval (.tmp 43) = sumV D2 := hP 5 (by kernel_rfl)
            have hB : Below W.heap.size W w' := hPh.1 (by decide)
            have hz := (hB.block q hqw).trans HQC.out
            exact rop_storeG _ _ _ rfl e4 e43 (run_storeAt_mid w' q 0 _ _ (sum_thereP hz HXl.out HD2l.out) (sum_info HD2l.out) (sum_one D2)) (wanted_none rfl) (hK0 undef _ (GLx.last rfl) ⟨fun h => absurd h (by decide), fun _ => ⟨w', hB, rfl⟩⟩ trivial)
          · intro ac w' hF hPh hT
            rw [hF.setsG [38, 39, 40, 41, 42, 43] (by kernel_rfl)]
            simp only [List.foldl_cons, List.foldl_nil, List.setIfInBounds_toArray, List.set_cons_succ, List.set_cons_zero]
            generalize ac.eval (.tmp 38) = u38
            generalize ac.eval (.tmp 39) = u39
            generalize ac.eval (.tmp 40) = u40
            generalize ac.eval (.tmp 41) = u41
            generalize ac.eval (.tmp 42) = u42
            generalize ac.eval (.tmp 43) = u43
            clear  hT hF ac
            obtain ⟨u2, hu2, rfl⟩ := hPh.2 rfl
            have hz2 := (hu2.block q hqw).trans HQC.out
            have HG : Hid (FoRel P T D q V (.int .i64 (((i + 1 : Nat)) : Int)) (u2.setCells q 0 (D2.map u8V))) := Lib.hid ⟨i + 1, D2, rfl, by rw [HTl.out]; omega, HD2l.out, HFo2.out, (HO.out.trans (Only.of_below hu2)).trans (only_setCells (b := q) (D2.map u8V) 0 _ (Only.refl _ _)), set_sumP u2 q X D2 HXl.out HD2l.out hz2⟩
            clear hz2 hu2 hPh
            go_wp2
            exact ⟨by have := HG.out; simpa using this, by simp [intOf]; omega⟩
      · have hik' : ¬ (i : Int) < (k : Int) := by omega
        have hDX : X = D := by
          have e := HFo.out
          rw [List.drop_eq_nil_of_le (by rw [← Hk.out]; omega), foldP_nil] at e
          exact e
        subst hDX
        have hbf : Below q V wr := HO.out.below (Nat.le_refl _) (Nat.le_of_lt hqV)
        have HBF := Lib.hid hbf
        clear HFo HD hbf hsb
        go_wp2_with (first
          | refine wpList_load_mid rfl 33 (.tmp 4) rfl q 0 rfl (X.map u8V) _ (range_var HQC.out) Tryd.underlying33 rfl (sum_info' HXl.out) ?_
          | refine wpList_store_mid rfl 33 (.tmp 8) (.tmp 44) rfl r 0 (X.map u8V).toArray rfl rfl (sum_there HZR.out HXl.out) (sum_info HXl.out) (sum_one X) ?_)
        refine bodyPost_ret (results_ct (t := 8) (u := 9) (ty := 33) (b := r) (cs := X.map u8V) rfl _ _ _ rfl (sum_range HZR.out HXl.out) Tryd.underlying33 rfl (sum_info' HXl.out)) rfl ⟨rfl, below_setCells (by rw [← Hq.out]; omega) _ _ _ ?_⟩
        exact HBV.out.trans (by rw [← Hq.out]; exact HBF.out)
  · rw [hfz, if_neg (by simpa using hkz)]
    obtain ⟨Z, hZ⟩ : ∃ Z, Z = List.replicate 32 (0 : UInt8) := ⟨_, rfl⟩
    have HZB : Hid (Tryd.prog.built 33 [] = some (Z.map u8V).toArray) := Lib.hid (by rw [hZ]; exact built_zeroP)
    have HZl : Hid (Z.length = 32) := Lib.hid (by rw [hZ]; simp)
    rw [← hZ]
    have hsz2 : w.heap.size + 1 < w0.heap.size := by omega
    clear hZ hfz hfl hz b0 h1 h2 hx hv l1 l2 hsz hcap hlc hk
    unfold sumV
    go_enter Tryd.func37, Tryd.ntmps37
    go_upto_region 1 with (fail)
    change Code.wp _ _ _ _ ((w.alloc (.cells (x.map u8V).toArray 33)).alloc zSum)
    rw [← hw0]
    clear hw0
    go_wp2_with (first
      | (go_at_call 58; ((with_reducible refine (HLO.out _).mono ?_); rintro e w1 ⟨rfl, b1⟩; have z2 := Lib.hid ((b1.block _ hsz2).trans H2.out)))
      | refine wpList_build_at rfl 33 #[] rfl (Z.map u8V).toArray [] (by simp) HZB.out ?_
      | refine wpList_store_mid rfl 33 (.tmp 8) (.tmp 18) rfl (w.heap.size + 1) 0 (Z.map u8V).toArray rfl rfl (sum_there z2.out HZl.out) (sum_info HZl.out) (sum_one _) ?_)
    exact bodyPost_ret (results_ct (t := 8) (u := 9) (ty := 33) (b := w.heap.size + 1) (cs := Z.map u8V) rfl _ _ _ rfl (sum_range z2.out HZl.out) Tryd.underlying33 rfl (sum_info' HZl.out)) rfl ⟨rfl, below_setCells (Nat.le_succ _) _ _ _ (below_step HB.out (Nat.le_refl _) b1)⟩
end Go.Proofs.YtollcdalokhjaaaDoor
/-! ## The document's own both, Both (scriniumref12). -/
namespace Go.Proofs.YtollcdalokhjaaaDoor
open Go.RowKit

theorem IsH.old {x : List UInt8} {w w' : World} {q : Nat} (h : IsH x w q) (hb : Below w.heap.size w w') : IsH x w' q := (hb.block q (Array.getElem?_eq_some_iff.1 h).1).trans h
theorem IsH.lt {x : List UInt8} {w : World} {q : Nat} (h : IsH x w q) : q < w.heap.size := (Array.getElem?_eq_some_iff.1 h).1
/-- Two results that lie in memory, behind so many effects: the stores are effects i and j; the sources stay. -/
def RePh (w : World) (S : List (Nat × List UInt8)) (p q : Nat) (X Y : List UInt8) (i j ph : Nat) (u : World) : Prop :=
  Below w.heap.size w u ∧ (∀ s ∈ S, IsH s.2 u s.1) ∧ IsH (if ph ≤ i then List.replicate 32 0 else X) u p ∧ IsH (if ph ≤ j then List.replicate 32 0 else Y) u q
theorem RePh.call {w : World} {S : List (Nat × List UInt8)} {p q : Nat} {X Y : List UInt8} {i j ph : Nat} {u u' : World} (h : RePh w S p q X Y i j ph u) (hi : ph + 1 ≤ i) (hj : ph + 1 ≤ j) (hb : Below u.heap.size u u') : RePh w S p q X Y i j (ph + 1) u' := by
  obtain ⟨h1, h2, h3, h4⟩ := h
  rw [if_pos (by omega)] at h3 h4
  exact ⟨below_step h1 (Nat.le_of_lt_succ (Nat.lt_succ_of_le (Nat.le_refl _))) hb, fun s hs => (h2 s hs).old hb, by rw [if_pos hi]; exact h3.old hb, by rw [if_pos hj]; exact h4.old hb⟩
theorem RePh.p {w : World} {S : List (Nat × List UInt8)} {p q : Nat} {X Y : List UInt8} {i : Nat} {u : World} (h : RePh w S p q X Y i (i + 1) i u) (hX : X.length = 32) (hpq : w.heap.size ≤ p ∧ p ≠ q) (hS : ∀ s ∈ S, s.1 ≠ p) : RePh w S p q X Y i (i + 1) (i + 1) (u.setCells p 0 (X.map u8V)) := by
  obtain ⟨h1, h2, h3, h4⟩ := h
  rw [if_pos (by omega)] at h3 h4
  exact ⟨below_setCells hpq.1 _ _ _ h1, fun s hs => (h2 s hs).far (hS s hs), by rw [if_neg (by omega)]; exact set_sumP u p _ X (by simp) hX h3, by rw [if_pos (by omega)]; exact h4.far (Ne.symm hpq.2)⟩
theorem RePh.q {w : World} {S : List (Nat × List UInt8)} {p q : Nat} {X Y : List UInt8} {i : Nat} {u : World} (h : RePh w S p q X Y i (i + 1) (i + 1) u) (hY : Y.length = 32) (hpq : w.heap.size ≤ q ∧ p ≠ q) (hS : ∀ s ∈ S, s.1 ≠ q) : RePh w S p q X Y i (i + 1) (i + 1 + 1) (u.setCells q 0 (Y.map u8V)) := by
  obtain ⟨h1, h2, h3, h4⟩ := h
  rw [if_neg (by omega)] at h3
  rw [if_pos (by omega)] at h4
  exact ⟨below_setCells hpq.1 _ _ _ h1, fun s hs => (h2 s hs).far (hS s hs), by rw [if_neg (by omega)]; exact h3.far hpq.2, by rw [if_neg (by omega)]; exact set_sumP u q _ Y (by simp) hY h4⟩
/-- Two new variables, both set. -/
theorem two_set (w : World) (x y : List UInt8) (hx : x.length = 32) (hy : y.length = 32) (W : World) (hW : W = (((w.alloc zSum).alloc zSum).setCells w.heap.size 0 (x.map u8V)).setCells (w.heap.size + 1) 0 (y.map u8V)) :
    IsH x W w.heap.size ∧ IsH y W (w.heap.size + 1) ∧ Below w.heap.size w W := by
  have h := two_new w x hx
  rw [hW]
  exact ⟨h.2.2.far (by omega), set_sumP _ _ _ y (by simp) hy h.2.1, below_setCells (Nat.le_succ _) _ _ _ (below_setCells (Nat.le_refl _) _ _ _ (((Below.refl _ _).alloc (Nat.le_refl _) _).alloc (by simp) _))⟩
end Go.Proofs.YtollcdalokhjaaaDoor
/-! ## The document's own Goes (scriniumref12). Made of ProofGoes' text by rgoes.py. -/
namespace Go.Proofs.YtollcdalokhjaaaDoor
open Go.RowKit

end Go.Proofs.YtollcdalokhjaaaDoor
/-! ## The statements' own helpers awake and few (scriniumlaw12). -/
namespace Go.Proofs.YtollcdalokhjaaaDoor
open Go.RowKit

theorem foldLen_eq (m n : Int) (P : Hs) : foldLen m n P = decide ((P.length : Int) = if okP m n then ((Tree.long m.toNat n.toNat : Nat) : Int) else -1) := rfl
theorem bothLen_eq (m n : Int) (P : Hs) : bothLen m n P = decide ((P.length : Int) = if okL m n then ((Tree.llong m.toNat n.toNat true : Nat) : Int) else -1) := rfl
theorem root3 (A B C : List UInt8) : Tree.root [A, B, C] = Tree.node (Tree.node A B) C := by
  rw [Tree.root_go _ (by simp), show [A, B, C].length = 3 from rfl, split3, show [A, B, C].take 2 = [A, B] from rfl, root2]
  rfl
end Go.Proofs.YtollcdalokhjaaaDoor
/-! ## Arguments of the statements of layer 12: arrays of hashes, a number with a row of hashes, two rows of hashes. -/
namespace Go.Proofs.YtollcdalokhjaaaDoor
open Go.ChangeShapes Go.WideShapes Go.ChangeAt Go.RowKit

set_option maxRecDepth 1000000 in
/-- Two numbers by value. -/
theorem ints2_argP {H : Type} {enc : TypeId × Value → H} {W : World} {r : Reach} {b0 : Nat} {v : Value} {d : DataW H} {ps : List MemPlace} (hv : Value.okWide Tryd.prog W r b0 74 v)
    (h : DataW.Trod enc Tryd.prog W 0 (fun _ => true) true 74 v d ps) : ∃ a n : Int, v = .agg #[.int .i64 a, .int .i64 n] ∧ (-9223372036854775808 ≤ a ∧ a ≤ 9223372036854775807) ∧ (-9223372036854775808 ≤ n ∧ n ≤ 9223372036854775807) := by
  obtain ⟨l, rfl, hl, hw⟩ := int_array Tryd.underlying74 Tryd.underlying3 (by kernel_rfl) (by kernel_rfl) hv h
  match l, hl with
  | [a, n], _ => exact ⟨a, n, rfl, i64_bounds (hw a (by simp)), i64_bounds (hw n (by simp))⟩
theorem chunks32 : ∀ (n : Nat) (c : List Value), c.length = n * 32 → (∀ i, i < n → ∃ x : List UInt8, (c.drop (i * 32)).take 32 = x.map u8V ∧ x.length = 32) → ∃ l : Hs, c = sc l ∧ l.length = n ∧ all32 l
  | 0, c, hc, _ => ⟨[], by
    have h0 : c = [] := List.eq_nil_of_length_eq_zero (by omega)
    rw [h0]; rfl, rfl, all32.nil⟩
  | n + 1, c, hc, h => by
    obtain ⟨x, hx, hxl⟩ := h 0 (by omega)
    rw [Nat.zero_mul, List.drop_zero] at hx
    obtain ⟨l, hl, hll, hlo⟩ := chunks32 n (c.drop 32) (by rw [List.length_drop]; omega) fun i hi => by
      obtain ⟨y, hy, hyl⟩ := h (i + 1) (by omega)
      refine ⟨y, ?_, hyl⟩
      rw [List.drop_drop, ← hy]
      congr 2
      omega
    refine ⟨x :: l, ?_, by simp [hll], fun y hy => (List.mem_cons.1 hy).elim (fun e => e ▸ hxl) (hlo y)⟩
    rw [sc_cons, ← hx, ← hl, List.take_append_drop]
set_option maxRecDepth 100000 in
theorem open_sumsN {H : Type} {enc : TypeId × Value → H} {W : World} {r : Reach} {b0 n : Nat} {t : TypeId} {v : Value} {d : DataW H} {ps : List MemPlace} (ht : Tryd.prog.underlying t = some (.array n 33)) (hcs : Tryd.prog.cellsOf t = n * 32)
    (hv : Value.okWide Tryd.prog W r b0 t v) (h : DataW.Trod enc Tryd.prog W 0 (fun _ => true) true t v d ps) : ∃ l : Hs, v = .agg (sc l).toArray ∧ l.length = n ∧ all32 l := by
  have k1 : Tryd.prog.cellsOf 33 = 32 := by kernel_rfl
  obtain ⟨cs, rfl, hsz⟩ : ∃ cs, v = .agg cs ∧ cs.size = n * 32 := by
    unfold Value.okWide at hv
    simp only [ht] at hv
    obtain ⟨cs, h1, h2, _⟩ := hv
    exact ⟨cs, h1, h2.trans hcs⟩
  obtain ⟨c⟩ := cs
  have hcl : c.length = n * 32 := by simpa using hsz
  obtain ⟨fuel, hf⟩ := h
  obtain ⟨xs, m, _, _, _, hl, hx⟩ := DataW.trod_array ht hf
  obtain ⟨l, hl, h1, h2⟩ := chunks32 n c hcl fun i hi => by
    have h0 := hx i hi
    rw [k1] at h0
    obtain ⟨y, hy⟩ : ∃ y, xs[i]? = some y := ⟨xs[i], List.getElem?_eq_getElem (by omega)⟩
    rw [hy] at h0
    exact sum_cells h0
  exact ⟨l, by rw [hl], h1, h2⟩
theorem slice_cellsP {H : Type} {enc : TypeId × Value → H} {W : World} {fuel : Nat} {cs : List Value} {x : DataW H × List MemPlace}
    (hf : DataW.trod enc Tryd.prog W 0 (fun _ => true) true fuel 27 cs = some x) : ∃ v l, cs = [v] ∧ Sums W v l := by
  have key : ∃ a len cap, cs = [.slice a len cap] := by
    rcases DataW.trod_slice Tryd.underlying27 hf with ⟨hcs, _⟩ | ⟨a', len', cap', elems, rest, n, _, hcs, _, _, hl, hm, hlen', hel, _, _⟩
    · exact ⟨_, _, _, hcs⟩
    · exact ⟨_, _, _, hcs⟩
  obtain ⟨a, len, cap, rfl⟩ := key
  obtain ⟨d, ps⟩ := x
  obtain ⟨l, hl⟩ := sums_of (enc := enc) (W := W) (a := a) (len := len) (cap := cap) (d := d) (ps := ps) ⟨fuel, by simpa [Value.cells] using hf⟩
  exact ⟨_, l, rfl, hl⟩
theorem eql_bool_sameP (x : Bool) (w : World) : (binOp .eql 4 (.bool x) (.bool x)).run Tryd.prog w = .ok (.bool true) w := by cases x <;> go_simp
theorem len2P {L : Hs} (h : L.length = 2) : ∃ a b, L = [a, b] := by
  match L, h with
  | [a, b], _ => exact ⟨a, b, rfl⟩
theorem len3P {L : Hs} (h : L.length = 3) : ∃ a b c, L = [a, b, c] := by
  match L, h with
  | [a, b, c], _ => exact ⟨a, b, c, rfl⟩
end Go.Proofs.YtollcdalokhjaaaDoor
/-! ## What the laws of layer 12 want besides: arrays in variables. -/
namespace Go.Proofs.YtollcdalokhjaaaDoor
open Go.RowKit

theorem heap_oldP {w w' : World} {q : Nat} {o : Obj} (h : w.heap[q]? = some o) (hb : Below w.heap.size w w') : w'.heap[q]? = some o := (hb.block q (Array.getElem?_eq_some_iff.1 h).1).trans h
theorem load_intP {b o : Nat} {x : Int} {w : World} (h0 : w.cell? ⟨b, o, none⟩ = some (.int .i64 x)) : (Instr.loadAt 3 (.pointer (some ⟨b, o, none⟩))).run Tryd.prog w = .ok (.int .i64 x) w := by
  go_simp
theorem idx2i (q k : Nat) (K : Int) (hK : K = (k : Int)) (h : k < 2) (w : World) : (Instr.indexAt 74 (.pointer (some ⟨q, 0, none⟩)) (.int .i64 K)).run Tryd.prog w = .ok (.pointer (some ⟨q, k, none⟩)) w := by
  subst hK
  have : k = 0 ∨ k = 1 := by omega
  rcases this with rfl | rfl <;> go_simp
theorem sc_rangeAt {w : World} {q : Nat} {L : Hs} {T : TypeId} (h : w.heap[q]? = some (.cells (sc L).toArray T (0, 0))) (ho : all32 L) (k : Nat) (x : List UInt8) (hk : L[k]? = some x) : w.rangeAt q (k * 32) (x.map u8V) := fun j v hv => by
  obtain ⟨h1, rfl⟩ := List.getElem?_eq_some_iff.1 hk
  rw [cell_of h]
  simpa using sc_get L ho k h1 j v hv
theorem rightF {r x : List UInt8} {m n : Int} {P : Hs} (h : foldLen m n P = false) : ((foldZ x m n P).2 && decide ((foldZ x m n P).1 = r)) = false := by
  unfold foldZ
  rw [h]
  rfl
theorem goesF {a b : List UInt8} {m n : Int} {P : Hs} (h : bothLen m n P = false) : goesZ a m b n P = false := by
  unfold goesZ bothZ
  rw [h]
  rfl
end Go.Proofs.YtollcdalokhjaaaDoor
