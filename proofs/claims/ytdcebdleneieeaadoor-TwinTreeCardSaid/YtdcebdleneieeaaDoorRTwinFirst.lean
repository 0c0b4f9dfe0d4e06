/-
  The document's own first (scriniumref13).
-/
import Derived.Test.YtdcebdleneieeaaDoorTwinDef
namespace Go.Proofs.YtdcebdleneieeaaDoor
open Go.RowKit

theorem alloc_tw (u : World) : (Instr.alloc 32 true (.tuple #[])).run Tryd.prog u = .ok (.pointer (some ⟨u.heap.size, 0, none⟩)) (u.alloc (.cells #[tV [], tV []] 32)) := by go_simp; rfl
theorem built_tw (S T : ByteArray) : Tryd.prog.built 32 [(0, .string S), (1, .string T)] = some #[.string S, .string T] := by kernel_rfl
theorem store_tw2 {p : List UInt8 × List UInt8} {w : World} {q : Nat} (h : IsTw p w q) (S T : ByteArray) : (Instr.storeAt 32 (.pointer (some ⟨q, 0, none⟩)) (.agg #[.string S, .string T])).run Tryd.prog w = .ok () (w.setCells q 0 [.string S, .string T]) :=
  run_storeAt_mid w q 0 _ #[.string S, .string T] h.there tw_info (by simp; first | rfl | exact ⟨rfl, rfl⟩)
theorem set_tw2 {p : List UInt8 × List UInt8} {w : World} {q : Nat} (h : IsTw p w q) (S T : ByteArray) : (w.setCells q 0 [.string S, .string T]).heap[q]? = some (.cells #[.string S, .string T] 32 (0, 0)) := by
  have := heap_setCells q 32 [.string S, .string T] 0 [tV p.1, tV p.2] w (by simp) h
  simpa using this
set_option maxHeartbeats 4000000 in
set_option maxRecDepth 100000 in
theorem rfirst_any (va vb : Value) (A B : Ts) (w : World) (hA : Texts w va A) (hB : Texts w vb B) (hlA : A.length ≤ 1000000) (hlB : B.length ≤ 1000000) (hsA : ∀ t ∈ A, t.length ≤ 1000000) (hsB : ∀ t ∈ B, t.length ≤ 1000000) :
    Calls Tryd.prog 32 #[va, vb] w fun e w' => e = .returned (twR (Tree.firstT A B)) ∧ Below w.heap.size w w' := by
  obtain ⟨aa, ca, rfl⟩ := hA.slice
  obtain ⟨ba, cb, rfl⟩ := hB.slice
  obtain ⟨nA, hnA⟩ : ∃ k, k = A.length := ⟨_, rfl⟩
  obtain ⟨nB, hnB⟩ : ∃ k, k = B.length := ⟨_, rfl⟩
  rw [← hnA] at hA ⊢
  rw [← hnB] at hB ⊢
  obtain ⟨w0, hw0⟩ : ∃ w0, w0 = w.alloc (.cells #[tV [], tV []] 32) := ⟨_, rfl⟩
  have b0 : Below w.heap.size w w0 := by rw [hw0]; exact (Below.refl _ _).alloc (Nat.le_refl _) _
  have h1 : IsTw ([], []) w0 w.heap.size := by rw [hw0]; exact heap_alloc_last w _
  have hpl : places A B = min nA nB := by rw [hnA, hnB]; rfl
  have HA := Lib.hid hA
  have HB := Lib.hid hB
  have H1 := Lib.hid h1
  have HBW := Lib.hid b0
  have HSA := Lib.hid hsA
  have HSB := Lib.hid hsB
  have HnA := Lib.hid hnA
  have HnB := Lib.hid hnB
  have HPL := Lib.hid hpl
  have hlA' : nA ≤ 1000000 := by omega
  have hlB' : nB ≤ 1000000 := by omega
  obtain ⟨Res, hRes⟩ : ∃ Res, Res = Tree.firstT A B := ⟨_, rfl⟩
  have HRes := Lib.hid hRes
  rw [← hRes]
  clear hA hB h1 b0 hsA hsB hnA hnB hlA hlB hpl hRes
  go_enter Tryd.func32, Tryd.ntmps32
  go_upto_region 1 with (fail)
  change Code.wp _ _ _ _ (w.alloc (.cells #[tV [], tV []] 32))
  rw [← hw0]
  clear hw0
  obtain ⟨q4, hq4⟩ : ∃ q, q = w.heap.size := ⟨_, rfl⟩
  rw [← hq4] at H1 HBW ⊢
  have Hq4 := Lib.hid hq4
  clear hq4
  go_wp2
  go_loopw [6] (fun s6 wr => ∃ i : Nat, s6 = .int .i64 (i : Int) ∧ i ≤ nA ∧ i ≤ nB ∧ (∀ j ∈ List.range i, Tree.areT (tAt A j) (tAt B j) = false) ∧ IsTw ([], []) wr q4 ∧ Below q4 w wr) (fun s6 _ => nA - (intOf s6).toNat)
  case atStart => exact ⟨0, rfl, Nat.zero_le _, Nat.zero_le _, by simp, H1.out, HBW.out⟩
  case round =>
    obtain ⟨i, rfl, hi1, hi2, hno, h4, hbel⟩ := hrel
    by_cases hiB0 : i < nA ∧ i < nB
    · obtain ⟨hiA, hiB⟩ := hiB0
      have hiA' : (i : Int) < (nA : Int) := by omega
      have hiB' : (i : Int) < (nB : Int) := by omega
      obtain ⟨bA, oA, rfl, hbA0, -, hcA⟩ := HA.out.at (tAt_get (A := A) (i := i) (by rw [← HnA.out]; exact hiA))
      obtain ⟨bB, oB, rfl, hbB0, -, hcB⟩ := HB.out.at (tAt_get (A := B) (i := i) (by rw [← HnB.out]; exact hiB))
      have hq4w : q4 < wr.heap.size := h4.lt
      have hbA : bA < wr.heap.size := by have := Hq4.out; omega
      have hbB : bB < wr.heap.size := by have := Hq4.out; omega
      obtain ⟨SA, hSA⟩ : ∃ S, S = tS (tAt A i) := ⟨_, rfl⟩
      obtain ⟨SB, hSB⟩ : ∃ S, S = tS (tAt B i) := ⟨_, rfl⟩
      have hcA2 : wr.cell? ⟨bA, oA + i, none⟩ = some (.string SA) := by rw [hSA]; exact (hbel.cell (p := ⟨bA, oA + i, none⟩) (by rw [Hq4.out]; exact hbA0)).trans hcA
      have hcB2 : wr.cell? ⟨bB, oB + i, none⟩ = some (.string SB) := by rw [hSB]; exact (hbel.cell (p := ⟨bB, oB + i, none⟩) (by rw [Hq4.out]; exact hbB0)).trans hcB
      have HCA := Lib.hid hcA2
      have HCB := Lib.hid hcB2
      obtain ⟨ab, hab⟩ : ∃ ab, ab = Tree.areT (tAt A i) (tAt B i) := ⟨_, rfl⟩
      have HAB := Lib.hid hab
      have HAR : Hid (∀ u, Calls Tryd.prog 51 #[.agg #[.string SA, .string SB]] u fun e w' => e = .returned (.bool ab) ∧ Below u.heap.size u w') := Lib.hid fun u => by
        rw [hSA, hSB, hab]
        exact rare_any (tAt A i) (tAt B i) u (tAt_le HSA.out i) (tAt_le HSB.out i)
      have hwr := IntWalk.i64_in ((i : Int) + 1) (by omega)
      have HNO := Lib.hid hno
      have HH4 := Lib.hid h4
      have HBEL := Lib.hid hbel
      have HS1 := Lib.hid hSA
      have HS2 := Lib.hid hSB
      clear hcA hcB hcA2 hcB2 hab hno h4 hbel hSA hSB hbA0 hbB0
      go_upto_region 4 with (fail)
      obtain ⟨W, hW⟩ : ∃ W, W = wr := ⟨_, rfl⟩
      subst hW
      try simp only [Act.put]
      refine wp_region_ph (Lx := GLx 2) [RXP.is (.slice (some ⟨bA, oA, none⟩) nA ca), RXP.is (.int .i64 (i : Int)), RXP.is (.pointer (some ⟨bA, oA + i, none⟩)), RXP.is (.string SA), RXP.is (.slice (some ⟨bB, oB, none⟩) nB cb), RXP.is (.int .i64 (i : Int)), RXP.is (.pointer (some ⟨bB, oB + i, none⟩)), RXP.is (.string SB), RXP.is (.agg #[.string SA, .string SB]), RXP.is (.pointer (some ⟨W.heap.size, 0, none⟩)), RXP.any] [9, 10] (fun k w' => Below W.heap.size W w' ∧ (k = 0 → w'.heap.size = W.heap.size) ∧ (k = 1 → IsTw ([], []) w' W.heap.size) ∧ (k = 2 → w'.heap[W.heap.size]? = some (.cells #[.string SA, .string SB] 32 (0, 0)))) (by kernel_rfl) (by kernel_rfl) (by kernel_rfl) (by kernel_rfl) (by kernel_rfl) (⟨below_drew (Below.refl _ _), fun _ => rfl, (fun h => by cases h), (fun h => by cases h)⟩) ⟨?_, ?_, ?_, ?_, ?_, ?_, ?_, ?_, ?_, ?_, ?_, trivial⟩ ?_
      · intro ac w' ph hF hPh hlt hP hU K hK0
        have e0 : ac.eval (.tmp 0) = .slice (some ⟨bA, oA, none⟩) nA ca := hF.at 0 (by kernel_rfl)
        exact rop_move _ rfl e0 (wanted_none rfl) (hK0 _ _ GLx.same hPh rfl)
      · intro ac w' ph hF hPh hlt hP hU K hK0
        have e6 : ac.eval (.tmp 6) = .int .i64 (i : Int) := hF.at 6 (by kernel_rfl)
        exact rop_move _ rfl e6 (wanted_none rfl) (hK0 _ _ GLx.same hPh rfl)
      · intro ac w' ph hF hPh hlt hP hU K hK0
        have e21 : ac.eval (.tmp 21) = .slice (some ⟨bA, oA, none⟩) nA ca := hP 0 (by kernel_rfl)
        have e22 : ac.eval (.tmp 22) = .int .i64 (i : Int) := hP 1 (by kernel_rfl)
        exact rop_idx _ _ _ rfl e21 e22 (index_texts bA oA nA ca i (i : Int) rfl hiA w') (wanted_none rfl) (hK0 _ _ GLx.same hPh rfl)
      · intro ac w' ph hF hPh hlt hP hU K hK0
        have e23 : ac.eval (.tmp 23) = .pointer (some ⟨bA, oA + i, none⟩) := hP 2 (by kernel_rfl)
        exact rop_ld _ _ rfl e23 (load_text ((hPh.1.cell (p := ⟨bA, oA + i, none⟩) hbA).trans HCA.out)) (wanted_none rfl) (hK0 _ _ GLx.same hPh rfl)
      · intro ac w' ph hF hPh hlt hP hU K hK0
        have e1 : ac.eval (.tmp 1) = .slice (some ⟨bB, oB, none⟩) nB cb := hF.at 1 (by kernel_rfl)
        exact rop_move _ rfl e1 (wanted_none rfl) (hK0 _ _ GLx.same hPh rfl)
      · intro ac w' ph hF hPh hlt hP hU K hK0
        have e6 : ac.eval (.tmp 6) = .int .i64 (i : Int) := hF.at 6 (by kernel_rfl)
        exact rop_move _ rfl e6 (wanted_none rfl) (hK0 _ _ GLx.same hPh rfl)
      · intro ac w' ph hF hPh hlt hP hU K hK0
        have e25 : ac.eval (.tmp 25) = .slice (some ⟨bB, oB, none⟩) nB cb := hP 4 (by kernel_rfl)
        have e26 : ac.eval (.tmp 26) = .int .i64 (i : Int) := hP 5 (by kernel_rfl)
        exact rop_idx _ _ _ rfl e25 e26 (index_texts bB oB nB cb i (i : Int) rfl hiB w') (wanted_none rfl) (hK0 _ _ GLx.same hPh rfl)
      · intro ac w' ph hF hPh hlt hP hU K hK0
        have e27 : ac.eval (.tmp 27) = .pointer (some ⟨bB, oB + i, none⟩) := hP 6 (by kernel_rfl)
        exact rop_ld _ _ rfl e27 (load_text ((hPh.1.cell (p := ⟨bB, oB + i, none⟩) hbB).trans HCB.out)) (wanted_none rfl) (hK0 _ _ GLx.same hPh rfl)
      · intro ac w' ph hF hPh hlt hP hU K hK0
        have e24 : ac.eval (.tmp 24) = .string SA := hP 3 (by kernel_rfl)
        have e28 : ac.eval (.tmp 28) = .string SB := hP 7 (by kernel_rfl)
        exact rop_buildT _ _ rfl _ (by simp [e24, e28]) (built_tw SA SB) (wanted_none rfl) (hK0 _ _ GLx.same hPh rfl)
      · intro ac w' ph hF hPh hlt hP hU K hK0
        obtain rfl : ph = 0 := (hlt 0 9 rfl).1 rfl
        have hsz : w'.heap.size = W.heap.size := hPh.2.1 rfl
        have hve : Value.pointer (some ⟨w'.heap.size, 0, none⟩) = .pointer (some ⟨W.heap.size, 0, none⟩) := by rw [hsz]
        refine rop_allocP _ rfl (alloc_tw w') (wanted_none rfl) ?_
        exact hK0 _ _ (GLx.old (by decide) ((Below.refl _ _).alloc (Nat.le_refl _) _)) ⟨hPh.1.alloc (by omega) _, (fun h => by cases h), fun _ => by rw [← hsz]; exact heap_alloc_last w' _, fun h => by cases h⟩ hve
      · intro ac w' ph hF hPh hlt hP hU K hK0
        obtain rfl : ph = 1 := (hlt 1 10 rfl).1 rfl
        have e7 : ac.eval (.tmp 7) = .pointer (some ⟨W.heap.size, 0, none⟩) := hP 9 (by kernel_rfl)
        have e29 : ac.eval (.tmp 29) = .agg #[.string SA, .string SB] := hP 8 (by kernel_rfl)
        have hz : IsTw ([], []) w' W.heap.size := hPh.2.2.1 rfl
        exact rop_storeG _ _ _ rfl e7 e29 (store_tw2 hz SA SB) (wanted_none rfl) (hK0 _ _ (GLx.last rfl) ⟨below_setCells (Nat.le_refl _) _ _ _ hPh.1, (fun h => by cases h), (fun h => by cases h), fun _ => set_tw2 hz SA SB⟩ trivial)
      · intro ac w' hF hPh hT
        have e7 : ac.eval (.tmp 7) = .pointer (some ⟨W.heap.size, 0, none⟩) := hT 9 (by decide)
        rw [hF.setsG [21, 22, 23, 24, 25, 26, 27, 28, 29, 7] (by kernel_rfl)]
        simp only [List.foldl_cons, List.foldl_nil, List.setIfInBounds_toArray, List.set_cons_succ, List.set_cons_zero, e7]
        generalize ac.eval (.tmp 21) = u21
        generalize ac.eval (.tmp 22) = u22
        generalize ac.eval (.tmp 23) = u23
        generalize ac.eval (.tmp 24) = u24
        generalize ac.eval (.tmp 25) = u25
        generalize ac.eval (.tmp 26) = u26
        generalize ac.eval (.tmp 27) = u27
        generalize ac.eval (.tmp 28) = u28
        generalize ac.eval (.tmp 29) = u29
        clear e7 hT hF ac
        obtain ⟨hQ1, -, -, hQ4⟩ := hPh
        have hT : w'.heap[W.heap.size]? = some (.cells #[.string SA, .string SB] 32 (0, 0)) := hQ4 rfl
        have HT := Lib.hid hT
        have H4' := Lib.hid (HH4.out.old hQ1)
        have HBEL' := Lib.hid (HBEL.out.trans (hQ1.mono (Nat.le_of_lt hq4w)))
        have hc0 : w'.cell? ⟨W.heap.size, 0, none⟩ = some (.string SA) := cell_of hT 0
        have hc1 : w'.cell? ⟨W.heap.size, 1, none⟩ = some (.string SB) := cell_of hT 1
        have hWw : W.heap.size < w'.heap.size := (Array.getElem?_eq_some_iff.1 hT).1
        have hqw : q4 < w'.heap.size := H4'.out.lt
        clear hQ1 hQ4 hT
        cases ab with
        | false =>
          go_wp2_with (go_at_call 51; ((with_reducible refine (HAR.out _).mono ?_); rintro e w5 ⟨rfl, b5⟩; have H45 := Lib.hid (H4'.out.old b5); have HB5 := Lib.hid (HBEL'.out.trans (b5.mono (Nat.le_of_lt hqw))); clear b5))
          refine ⟨⟨i + 1, by simp, hiA, hiB, fun j hj => ?_, H45.out, HB5.out⟩, by simp [intOf]; omega⟩
          rw [List.range_succ] at hj
          rcases List.mem_append.1 hj with hj | hj
          · exact HNO.out j hj
          · obtain rfl : j = i := by simpa using hj
            exact HAB.out.symm
        | true =>
          go_upto_region 7 with (go_at_call 51; ((with_reducible refine (HAR.out _).mono ?_); rintro e w5 ⟨rfl, b5⟩; have H45 := Lib.hid (H4'.out.old b5); have HT5 := Lib.hid ((b5.block _ hWw).trans HT.out); have HB5 := Lib.hid (HBEL'.out.trans (b5.mono (Nat.le_of_lt hqw))); clear b5))
          have hfs : Tree.firstT A B = some (tAt A i, tAt B i) := first_some (k := i + 1) (by rw [HPL.out]; omega) (List.range_succ) HNO.out HAB.out.symm
          have c50 : w5.cell? ⟨W.heap.size, 0, none⟩ = some (.string SA) := cell_of HT5.out 0
          have c51 : w5.cell? ⟨W.heap.size, 1, none⟩ = some (.string SB) := cell_of HT5.out 1
          have c40 : w5.cell? ⟨q4, 0, none⟩ = some (tV []) := H45.out.c0
          have c41 : w5.cell? ⟨q4, 1, none⟩ = some (tV []) := H45.out.c1
          have f40 : w5.frozen? ⟨q4, 0, none⟩ = false := fz_of H45.out 0
          have f41 : w5.frozen? ⟨q4, 1, none⟩ = false := fz_of H45.out 1
          have HFS := Lib.hid hfs
          clear hfs
          go_wp2
          refine bodyPost_ret (results_ct (t := 4) (u := 5) (ty := 32) (b := q4) (cs := [.string SA, .string SB]) rfl _ _ _ rfl (fun j u hu => by
            rw [Nat.zero_add, cell_of (heap_set (heap_set H45.out _) _)]
            simpa using hu) Tryd.underlying32 rfl tw_info) rfl ⟨?_, ?_⟩
          · rw [HRes.out, HFS.out, HS1.out, HS2.out]
            rfl
          · rw [← Hq4.out]
            exact (HB5.out.setCell (p := ⟨q4, 0, none⟩) (Nat.le_refl _) _).setCell (p := ⟨q4, 1, none⟩) (Nat.le_refl _) _
    · have hfn : Tree.firstT A B = none := first_none (by rw [HPL.out]; rw [show min nA nB = i by omega]; exact hno)
      have c40 : wr.cell? ⟨q4, 0, none⟩ = some (tV []) := h4.c0
      have c41 : wr.cell? ⟨q4, 1, none⟩ = some (tV []) := h4.c1
      have f40 : wr.frozen? ⟨q4, 0, none⟩ = false := fz_of h4 0
      have f41 : wr.frozen? ⟨q4, 1, none⟩ = false := fz_of h4 1
      have HFN := Lib.hid hfn
      have HH4 := Lib.hid h4
      have HBEL := Lib.hid hbel
      clear hfn h4 hbel hno
      by_cases hiA : i < nA
      · have hiB : ¬ i < nB := fun h => hiB0 ⟨hiA, h⟩
        have hiA' : (i : Int) < (nA : Int) := by omega
        have hiB' : ¬ (i : Int) < (nB : Int) := by omega
        clear hiB0
        go_wp2
        refine bodyPost_ret (results_ct (t := 4) (u := 5) (ty := 32) (b := q4) (cs := [.string ⟨#[]⟩, .string ⟨#[]⟩]) rfl _ _ _ rfl (fun j u hu => by
          rw [Nat.zero_add, cell_of (heap_set (heap_set HH4.out _) _)]
          simpa using hu) Tryd.underlying32 rfl tw_info) rfl ⟨?_, ?_⟩
        · rw [HRes.out, HFN.out]
          rfl
        · rw [← Hq4.out]
          exact (HBEL.out.setCell (p := ⟨q4, 0, none⟩) (Nat.le_refl _) _).setCell (p := ⟨q4, 1, none⟩) (Nat.le_refl _) _
      · have hiA' : ¬ (i : Int) < (nA : Int) := by omega
        clear hiB0
        go_wp2
        refine bodyPost_ret (results_ct (t := 4) (u := 5) (ty := 32) (b := q4) (cs := [.string ⟨#[]⟩, .string ⟨#[]⟩]) rfl _ _ _ rfl (fun j u hu => by
          rw [Nat.zero_add, cell_of (heap_set (heap_set HH4.out _) _)]
          simpa using hu) Tryd.underlying32 rfl tw_info) rfl ⟨?_, ?_⟩
        · rw [HRes.out, HFN.out]
          rfl
        · rw [← Hq4.out]
          exact (HBEL.out.setCell (p := ⟨q4, 0, none⟩) (Nat.le_refl _) _).setCell (p := ⟨q4, 1, none⟩) (Nat.le_refl _) _
end Go.Proofs.YtdcebdleneieeaaDoor
