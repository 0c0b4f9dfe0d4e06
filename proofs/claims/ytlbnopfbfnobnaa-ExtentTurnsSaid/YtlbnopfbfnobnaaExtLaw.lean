/-
  The statements' few, free, file.
-/
import Derived.Test.YtlbnopfbfnobnaaExtRefD
namespace Go.Proofs.Ytlbnopfbfnobnaa
open Go.RowKit Ext

theorem and_mask (n : Int) (j : Nat) (m : Int) (hj : j < 63) (hm : (BitVec.ofInt 64 m).toNat = 2 ^ j - 1) : bits .and .i64 n m = n % ((2 ^ j : Nat) : Int) := by
  have key : (BitVec.ofInt 64 n &&& BitVec.ofInt 64 m).toNat = (n % ((2 ^ 64 : Nat) : Int)).toNat % 2 ^ j := by
    rw [BitVec.toNat_and, BitVec.toNat_ofInt, hm, Nat.and_two_pow_sub_one_eq_mod]
  show IntKind.i64.wrap ((BitVec.ofInt 64 n &&& BitVec.ofInt 64 m).toNat : Nat) = n % ((2 ^ j : Nat) : Int)
  have hp : (2 : Nat) ^ j ≤ 2 ^ 62 := Nat.pow_le_pow_right (by decide) (by omega)
  have hpos : 0 < 2 ^ j := Nat.pow_pos (by decide)
  have hd : (2 : Nat) ^ j ∣ 2 ^ 64 := Nat.pow_dvd_pow 2 (by omega)
  have e1 : ((n % ((2 ^ 64 : Nat) : Int)).toNat % 2 ^ j : Nat) = (n % ((2 ^ j : Nat) : Int)).toNat := by
    have h0 := Int.emod_nonneg n (show ((2 ^ 64 : Nat) : Int) ≠ 0 by decide)
    have h1 := Int.emod_nonneg n (show ((2 ^ j : Nat) : Int) ≠ 0 by omega)
    have : (((n % ((2 ^ 64 : Nat) : Int)).toNat % 2 ^ j : Nat) : Int) = n % ((2 ^ j : Nat) : Int) := by
      rw [Int.natCast_emod, Int.toNat_of_nonneg h0, Int.emod_emod_of_dvd n (Int.natCast_dvd_natCast.2 hd)]
    omega
  rw [key, e1]
  have h1 := Int.emod_nonneg n (show ((2 ^ j : Nat) : Int) ≠ 0 by omega)
  have h2 := Int.emod_lt_of_pos n (show (0 : Int) < ((2 ^ j : Nat) : Int) by omega)
  rw [Int.toNat_of_nonneg h1]
  exact IntWalk.i64_in _ (by omega)
theorem and_low (z : Int) (k : Nat) (M : Int) (hM : (BitVec.ofInt 64 M).toNat = 2 ^ k - 1) (hk : k < 63) (hp : M + 1 = ((2 ^ k : Nat) : Int)) : ∃ c : Int, bits .and .i64 z M = c ∧ 0 ≤ c ∧ c ≤ M := by
  refine ⟨_, and_mask z k M hk hM, ?_, ?_⟩
  · exact Int.emod_nonneg z (by have : 0 < 2 ^ k := Nat.pow_pos (by decide); omega)
  · have := Int.emod_lt_of_pos z (show (0 : Int) < ((2 ^ k : Nat) : Int) by rw [← hp]; have : 0 < 2 ^ k := Nat.pow_pos (by decide); omega)
    omega
theorem and_i (z M c : Int) (h : bits .and .i64 z M = c) (w : World) : (binOp .and 3 (.int .i64 z) (.int .i64 M)).run Try.prog w = .ok (.int .i64 c) w := by
  subst h; go_simp
theorem alloc_run (w : World) : (Instr.alloc 24 true (.tuple #[])).run Try.prog w = .ok (.pointer (some ⟨w.heap.size, 0, none⟩)) (w.alloc (.cells #[.int .i64 0, .int .i64 0] 24)) := by
  go_simp
theorem store_new (w : World) (a n : Int) : (Instr.storeAt 24 (.pointer (some ⟨w.heap.size, 0, none⟩)) (.agg #[.int .i64 a, .int .i64 n])).run Try.prog (w.alloc (.cells #[.int .i64 0, .int .i64 0] 24)) = .ok () (w.alloc (.cells #[.int .i64 a, .int .i64 n] 24)) := by
  go_simp
theorem rop_alloc {ops : Array Oper} {Q : Exit → Act → World → Prop} {a : Act} {w w' : World} {K : Act → World → Prop} {o : Oper} (t : TypeId) (hop : o.op = .alloc t) {v : Value} (hr : (Instr.alloc t true (.tuple #[])).run Try.prog w = .ok v w') (hw : Region.wanted o (yielded ops a.tmps) = true) (h : K (a.put o.dst v) w') :
    if Region.wanted o (yielded ops a.tmps) = true then Oper.wp Try.prog o a w K Q else K (a.put o.dst undef) w :=
  rop_v hw (by simp [execOp, hop, hr]) h
set_option maxHeartbeats 800000 in
theorem few_any (v : Value) (l : List Rn) (w : World) (hl : Runs w v l) :
    Calls Try.prog 10 #[v] w fun e w' => ∃ v', e = .returned v' ∧ Runs w v' (l.take 20) ∧ w = w' := by
  obtain ⟨va, cap, rfl, hlc, hcap⟩ := hl.slice
  by_cases h20 : 20 < l.length
  · have h20' : (20 : Int) < (l.length : Int) := by omega
    have q1 : ∀ u, (Instr.sliceAt 22 (.slice va l.length cap) none (some (.int .i64 20)) none).run Try.prog u = .ok (.slice va 20 cap) u := fun u => (sliceAt_run _ _ _ _ _).trans (slice_h va l.length cap 20 (by omega) u)
    go_enter Try.func10, Try.ntmps10
    go_wp2_with (with_reducible refine wpList_slice_run rfl 22 (.tmp 6) none (some (.const (.int .i64 20))) none rfl rfl rfl rfl rfl (q1 _) ?_)
    go_ret
    exact ⟨_, rfl, hl.head' 20 (by omega), rfl⟩
  · go_enter Try.func10, Try.ntmps10
    go_wp2
    go_ret
    exact ⟨_, rfl, by rw [List.take_of_length_le (by omega)]; exact hl, rfl⟩
set_option maxHeartbeats 3200000 in
set_option maxRecDepth 100000 in
theorem free_any (v : Value) (l : List Rn) (w : World) (hl : Runs w v l) :
    Calls Try.prog 11 #[v] w fun e w' => ∃ v' m, e = .returned v' ∧ Runs w' v' m ∧ chk 0 m = true ∧ m.length ≤ 20 ∧ Below w.heap.size w w' := by
  obtain ⟨va, cap, rfl, hlc, hcap⟩ := hl.slice
  go_enter Try.func11, Try.ntmps11
  go_wp2
  go_loopw [3, 4] (fun s3 s4 wr => ∃ (k : Nat) (m : List Rn), k ≤ l.length ∧ k ≤ 20 ∧ s4 = .int .i64 k ∧ Runs wr s3 m ∧ chk 0 m = true ∧ m.length ≤ k ∧ Below w.heap.size w wr) (fun _ s4 _ => 20 - (intOf s4).toNat)
  case atStart => exact ⟨0, [], by omega, by omega, rfl, Runs.nil _, rfl, by simp, Below.refl _ _⟩
  case round =>
    obtain ⟨k, M0, hk, hk20, rfl, hm, hcm, hml, hb⟩ := hrel
    have HCM := Lib.hid hcm
    clear hcm
    by_cases hkl : k < l.length ∧ k < 20
    · obtain ⟨hkl, h20⟩ := hkl
      have h20' : (k : Int) < 20 := by omega
      obtain ⟨p, o, rfl, hp, -, e0, e1⟩ := (hl.old hb).at k hkl
      obtain ⟨xx, hx⟩ : ∃ xx, xx = l[k] := ⟨_, rfl⟩
      rw [← hx] at e0 e1
      obtain ⟨x, m⟩ := xx
      simp only at e0 e1
      clear hx
      obtain ⟨X, hX, x1, x2⟩ := and_low x 10 1023 (by decide) (by decide) (by decide)
      obtain ⟨M, hM, m1, m2⟩ := and_low m 5 31 (by decide) (by decide) (by decide)
      have hand1 := and_i x 1023 X hX
      have hand2 := and_i m 31 M hM
      clear hX hM
      have hx0 : ∀ j : Nat, (([wr.drew, (wr.drew.alloc (.cells #[.int .i64 0, .int .i64 0] 24)), (wr.drew.alloc (.cells #[.int .i64 X, .int .i64 (1 + M)] 24))] : List World).getD j wr.drew).cell? ⟨p, o + k * 2, none⟩ = some (.int .i64 x) := fun j => by
        match j with
        | 0 => exact e0
        | 1 => exact (World.cell?_alloc_lt _ _ ⟨p, _, none⟩ hp).trans e0
        | 2 => exact (World.cell?_alloc_lt _ _ ⟨p, _, none⟩ hp).trans e0
        | j + 3 => exact e0
      have hx1 : ∀ j : Nat, (([wr.drew, (wr.drew.alloc (.cells #[.int .i64 0, .int .i64 0] 24)), (wr.drew.alloc (.cells #[.int .i64 X, .int .i64 (1 + M)] 24))] : List World).getD j wr.drew).cell? ⟨p, o + k * 2 + 1, none⟩ = some (.int .i64 m) := fun j => by
        match j with
        | 0 => exact e1
        | 1 => exact (World.cell?_alloc_lt _ _ ⟨p, _, none⟩ hp).trans e1
        | 2 => exact (World.cell?_alloc_lt _ _ ⟨p, _, none⟩ hp).trans e1
        | j + 3 => exact e1
      have HX0 := Lib.hid hx0
      have HX1 := Lib.hid hx1
      clear hx0 hx1 e0 e1
      go_wp2
      have hx0 := HX0.out
      have hx1 := HX1.out
      try simp only [Act.put]
      refine wp_region_eff (Lx := fun _ _ => True) [RX.is (.slice (some ⟨p, o, none⟩) l.length cap), RX.is (.int .i64 ((k : Nat) : Int)), RX.is (.pointer (some ⟨p, o + k * 2, none⟩)), RX.is (.pointer (some ⟨p, o + k * 2, none⟩)), RX.is (.int .i64 x), RX.is (.int .i64 X), RX.is (.slice (some ⟨p, o, none⟩) l.length cap), RX.is (.int .i64 ((k : Nat) : Int)), RX.is (.pointer (some ⟨p, o + k * 2, none⟩)), RX.is (.pointer (some ⟨p, o + k * 2 + 1, none⟩)), RX.is (.int .i64 m), RX.is (.int .i64 M), RX.is (.int .i64 (1 + M)), RX.is (.agg #[.int .i64 X, .int .i64 (1 + M)]), RX.is (.pointer (some ⟨wr.heap.size, 0, none⟩)), RX.any] [14, 15] (fun k w' => w' = [wr.drew, (wr.drew.alloc (.cells #[.int .i64 0, .int .i64 0] 24)), (wr.drew.alloc (.cells #[.int .i64 X, .int .i64 (1 + M)] 24))].getD k wr.drew) (by kernel_rfl) (by kernel_rfl) (by kernel_rfl) (by kernel_rfl) (by kernel_rfl) rfl ⟨?_, ?_, ?_, ?_, ?_, ?_, ?_, ?_, ?_, ?_, ?_, ?_, ?_, ?_, ?_, ?_, trivial⟩ ?_
      · intro ac w' ph hF hPh hlt hP hU K hK0
        have e0 : ac.eval (.tmp 0) = .slice (some ⟨p, o, none⟩) l.length cap := hF.at 0 (by kernel_rfl)
        exact rop_move _ rfl e0 (wanted_none rfl) (hK0 _ _ trivial hPh rfl)
      · intro ac w' ph hF hPh hlt hP hU K hK0
        have e4 : ac.eval (.tmp 4) = .int .i64 ((k : Nat) : Int) := hF.at 4 (by kernel_rfl)
        exact rop_move _ rfl e4 (wanted_none rfl) (hK0 _ _ trivial hPh rfl)
      · intro ac w' ph hF hPh hlt hP hU K hK0
        have e18 : ac.eval (.tmp 18) = .slice (some ⟨p, o, none⟩) l.length cap := hP 0 (by kernel_rfl)
        have e19 : ac.eval (.tmp 19) = .int .i64 ((k : Nat) : Int) := hP 1 (by kernel_rfl)
        exact rop_idx _ _ _ rfl e18 e19 (idx_run p o l.length cap k hkl _) (wanted_none rfl) (hK0 _ _ trivial hPh rfl)
      · intro ac w' ph hF hPh hlt hP hU K hK0
        have e20 : ac.eval (.tmp 20) = .pointer (some ⟨p, o + k * 2, none⟩) := hP 2 (by kernel_rfl)
        exact rop_fld _ _ _ rfl e20 (fld_run0 _ _ _) (wanted_none rfl) (hK0 _ _ trivial hPh rfl)
      · intro ac w' ph hF hPh hlt hP hU K hK0
        have e21 : ac.eval (.tmp 21) = .pointer (some ⟨p, o + k * 2, none⟩) := hP 3 (by kernel_rfl)
        exact rop_ld _ _ rfl e21 (load_int ((congrArg (fun u : World => u.cell? ⟨p, o + k * 2, none⟩) (show w' = ([wr.drew, (wr.drew.alloc (.cells #[.int .i64 0, .int .i64 0] 24)), (wr.drew.alloc (.cells #[.int .i64 X, .int .i64 (1 + M)] 24))] : List World).getD ph wr.drew from hPh)).trans (hx0 ph))) (wanted_none rfl) (hK0 _ _ trivial hPh rfl)
      · intro ac w' ph hF hPh hlt hP hU K hK0
        have e22 : ac.eval (.tmp 22) = .int .i64 x := hP 4 (by kernel_rfl)
        exact rop_bin _ _ _ _ _ rfl e22 rfl (guard_int _ _ _ _ _ _ _ w') (hand1 w') (wanted_none rfl) (hK0 _ _ trivial hPh rfl)
      · intro ac w' ph hF hPh hlt hP hU K hK0
        have e0 : ac.eval (.tmp 0) = .slice (some ⟨p, o, none⟩) l.length cap := hF.at 0 (by kernel_rfl)
        exact rop_move _ rfl e0 (wanted_none rfl) (hK0 _ _ trivial hPh rfl)
      · intro ac w' ph hF hPh hlt hP hU K hK0
        have e4 : ac.eval (.tmp 4) = .int .i64 ((k : Nat) : Int) := hF.at 4 (by kernel_rfl)
        exact rop_move _ rfl e4 (wanted_none rfl) (hK0 _ _ trivial hPh rfl)
      · intro ac w' ph hF hPh hlt hP hU K hK0
        have e24 : ac.eval (.tmp 24) = .slice (some ⟨p, o, none⟩) l.length cap := hP 6 (by kernel_rfl)
        have e25 : ac.eval (.tmp 25) = .int .i64 ((k : Nat) : Int) := hP 7 (by kernel_rfl)
        exact rop_idx _ _ _ rfl e24 e25 (idx_run p o l.length cap k hkl _) (wanted_none rfl) (hK0 _ _ trivial hPh rfl)
      · intro ac w' ph hF hPh hlt hP hU K hK0
        have e26 : ac.eval (.tmp 26) = .pointer (some ⟨p, o + k * 2, none⟩) := hP 8 (by kernel_rfl)
        exact rop_fld _ _ _ rfl e26 (fld_run1 _ _ _) (wanted_none rfl) (hK0 _ _ trivial hPh rfl)
      · intro ac w' ph hF hPh hlt hP hU K hK0
        have e27 : ac.eval (.tmp 27) = .pointer (some ⟨p, o + k * 2 + 1, none⟩) := hP 9 (by kernel_rfl)
        exact rop_ld _ _ rfl e27 (load_int ((congrArg (fun u : World => u.cell? ⟨p, o + k * 2 + 1, none⟩) (show w' = ([wr.drew, (wr.drew.alloc (.cells #[.int .i64 0, .int .i64 0] 24)), (wr.drew.alloc (.cells #[.int .i64 X, .int .i64 (1 + M)] 24))] : List World).getD ph wr.drew from hPh)).trans (hx1 ph))) (wanted_none rfl) (hK0 _ _ trivial hPh rfl)
      · intro ac w' ph hF hPh hlt hP hU K hK0
        have e28 : ac.eval (.tmp 28) = .int .i64 m := hP 10 (by kernel_rfl)
        exact rop_bin _ _ _ _ _ rfl e28 rfl (guard_int _ _ _ _ _ _ _ w') (hand2 w') (wanted_none rfl) (hK0 _ _ trivial hPh rfl)
      · intro ac w' ph hF hPh hlt hP hU K hK0
        have e29 : ac.eval (.tmp 29) = .int .i64 M := hP 11 (by kernel_rfl)
        exact rop_bin _ _ _ _ _ rfl rfl e29 (guard_int _ _ _ _ _ _ _ w') (add_int _ _ _ (rfl) (by omega) w') (wanted_none rfl) (hK0 _ _ trivial hPh rfl)
      · intro ac w' ph hF hPh hlt hP hU K hK0
        have e23 : ac.eval (.tmp 23) = .int .i64 X := hP 5 (by kernel_rfl)
        have e30 : ac.eval (.tmp 30) = .int .i64 (1 + M) := hP 12 (by kernel_rfl)
        exact rop_build _ _ rfl _ (by simp [e23, e30]) (built_run _ _) (wanted_none rfl) (hK0 _ _ trivial hPh rfl)
      · intro ac w' ph hF hPh hlt hP hU K hK0
        obtain rfl : ph = 0 := (hlt 0 14 rfl).1 rfl
        obtain rfl : w' = wr.drew := hPh
        exact rop_alloc _ rfl (alloc_run _) (wanted_none rfl) (hK0 _ _ trivial rfl rfl)
      · intro ac w' ph hF hPh hlt hP hU K hK0
        obtain rfl : ph = 1 := (hlt 1 15 rfl).1 rfl
        obtain rfl : w' = (wr.drew.alloc (.cells #[.int .i64 0, .int .i64 0] 24)) := hPh
        have e5 : ac.eval (.tmp 5) = .pointer (some ⟨wr.heap.size, 0, none⟩) := hP 14 (by kernel_rfl)
        have e31 : ac.eval (.tmp 31) = .agg #[.int .i64 X, .int .i64 (1 + M)] := hP 13 (by kernel_rfl)
        exact rop_store _ _ _ rfl e5 e31 (store_new _ _ _) (wanted_none rfl) (hK0 undef _ trivial rfl trivial)
      · intro ac w' hF hPh hT
        obtain rfl : w' = (wr.drew.alloc (.cells #[.int .i64 X, .int .i64 (1 + M)] 24)) := hPh
        have e5 : ac.eval (.tmp 5) = .pointer (some ⟨wr.heap.size, 0, none⟩) := hT 14 (by decide)
        rw [hF.lit 41 rfl]
        simp only [List.range, List.range.loop, List.map_cons, List.map_nil, e5, hF.at 0 (by kernel_rfl), hF.at 1 (by kernel_rfl), hF.at 2 (by kernel_rfl), hF.at 3 (by kernel_rfl), hF.at 4 (by kernel_rfl), hF.at 6 (by kernel_rfl), hF.at 7 (by kernel_rfl), hF.at 8 (by kernel_rfl), hF.at 9 (by kernel_rfl), hF.at 10 (by kernel_rfl), hF.at 11 (by kernel_rfl), hF.at 12 (by kernel_rfl), hF.at 13 (by kernel_rfl), hF.at 14 (by kernel_rfl), hF.at 15 (by kernel_rfl), hF.at 16 (by kernel_rfl), hF.at 17 (by kernel_rfl), hF.at 32 (by kernel_rfl), hF.at 33 (by kernel_rfl), hF.at 34 (by kernel_rfl), hF.at 35 (by kernel_rfl), hF.at 36 (by kernel_rfl), hF.at 37 (by kernel_rfl), hF.at 38 (by kernel_rfl), hF.at 39 (by kernel_rfl), hF.at 40 (by kernel_rfl)]
        generalize ac.eval (.tmp 18) = u18
        generalize ac.eval (.tmp 19) = u19
        generalize ac.eval (.tmp 20) = u20
        generalize ac.eval (.tmp 21) = u21
        generalize ac.eval (.tmp 22) = u22
        generalize ac.eval (.tmp 23) = u23
        generalize ac.eval (.tmp 24) = u24
        generalize ac.eval (.tmp 25) = u25
        generalize ac.eval (.tmp 26) = u26
        generalize ac.eval (.tmp 27) = u27
        generalize ac.eval (.tmp 28) = u28
        generalize ac.eval (.tmp 29) = u29
        generalize ac.eval (.tmp 30) = u30
        generalize ac.eval (.tmp 31) = u31
        simp only [Act.eval, Array.getD_eq_getD_getElem?, List.getElem?_toArray, List.getElem?_cons_succ, List.getElem?_cons_zero, Option.getD_some]
        clear e5 hT hF ac
        clear hx0 hx1 HX0 HX1 hand1 hand2
        obtain ⟨B5, hB5⟩ : ∃ B5, B5 = wr.heap.size := ⟨_, rfl⟩
        obtain ⟨w5, hw5⟩ : ∃ w5, w5 = wr.drew.alloc (.cells #[.int .i64 X, .int .i64 (1 + M)] 24) := ⟨_, rfl⟩
        have b5 : Below wr.heap.size wr w5 := by rw [hw5]; exact (below_drew (Below.refl _ _)).alloc (Nat.le_refl _) _
        have x5 : BoxAt w5 B5 X (1 + M) := by rw [hw5, hB5]; exact BoxAt.new _ _ _
        rw [← hw5, ← hB5]
        clear hw5 hB5
        have hokr : okR (X, 1 + M) := by unfold okR; simp only; omega
        have hgv := rgive_any _ M0 X (1 + M) w5 (hm.old b5) hokr (by omega)
        have c0 := x5.c0
        have c1 := x5.c1
        obtain ⟨mv, mcap, rfl, _, _⟩ := hm.slice
        cases hg : givB M0 (X, 1 + M) with
        | false =>
          rw [hg] at hgv
          go_wp2_with (go_at_call 15; refine hgv.mono ?_; rintro e w6 ⟨v6, rfl, h6, b6⟩)
          go_roundw
          case rel => exact ⟨k + 1, M0, by omega, by omega, by go_num, (hm.old b5).old b6, HCM.out, by omega, below_step (below_step hb (Nat.le_refl _) b5) (Nat.le_refl _) b6⟩
          case measure => simp [intOf]; omega
        | true =>
          rw [hg] at hgv
          have hgs : ∃ m', givO M0 (X, 1 + M) = some m' := by
            unfold givB at hg
            exact Option.isSome_iff_exists.1 hg
          obtain ⟨m', hm'⟩ := hgs
          have hval : givV M0 (X, 1 + M) = m' := by unfold givV; rw [hm']; rfl
          have hsp := gv_spec (l := M0) (n := 0) (r := (X, 1 + M)) HCM.out x1 (by simp only; omega) (by simp only; omega) x1
          have hgo : gv M0 (X, 1 + M) = some m' := by
            unfold givO at hm'
            split at hm'
            · exact hm'
            · cases hm'
          rw [hgo] at hsp
          rw [hval] at hgv
          have h1 := hsp.chk
          have h2 := hsp.len
          have H1 := Lib.hid h1
          clear hg hm' hval hgo hsp h1
          go_wp2_with (go_at_call 15; refine hgv.mono ?_; rintro e w6 ⟨v6, rfl, h6, b6⟩)
          go_roundw
          case rel => exact ⟨k + 1, m', by omega, by omega, by go_num, h6, H1.out, by omega, below_step (below_step hb (Nat.le_refl _) b5) (Nat.le_refl _) b6⟩
          case measure => simp [intOf]; omega
    · by_cases hle : k < l.length
      · have h20 : ¬ (k : Int) < 20 := by omega
        obtain rfl : k = 20 := by omega
        go_wp2
        go_ret
        first | exact ⟨_, M0, rfl, hm, HCM.out, by omega, hb⟩ | exact ⟨_, rfl, M0, hm, HCM.out, by omega, hb⟩
      · go_wp2
        go_ret
        first | exact ⟨_, M0, rfl, hm, HCM.out, by omega, hb⟩ | exact ⟨_, rfl, M0, hm, HCM.out, by omega, hb⟩
/-- A file's list as the statements make it. -/
structure FileL (m : List Rn) : Prop where
  file : fileB m = true
  low : ∀ r ∈ m, r.1 ≤ 1023 ∧ r.2 ≤ 32
  len : m.length ≤ 12
set_option maxHeartbeats 3200000 in
set_option maxRecDepth 100000 in
theorem file_any (v : Value) (l : List Rn) (w : World) (hl : Runs w v l) :
    Calls Try.prog 17 #[v] w fun e w' => ∃ v' m, e = .returned v' ∧ Runs w' v' m ∧ FileL m ∧ Below w.heap.size w w' := by
  obtain ⟨va, cap, rfl, hlc, hcap⟩ := hl.slice
  go_enter Try.func17, Try.ntmps17
  go_wp2
  go_loopw [3, 4] (fun s3 s4 wr => ∃ (k : Nat) (m : List Rn), k ≤ l.length ∧ k ≤ 12 ∧ s4 = .int .i64 k ∧ Own w.heap.size wr s3 m ∧ FileL m ∧ m.length = k ∧ Below w.heap.size w wr) (fun _ s4 _ => 12 - (intOf s4).toNat)
  case atStart => exact ⟨0, [], by omega, by omega, rfl, Own.nil _ _, ⟨rfl, (fun r hr => by cases hr), by simp⟩, rfl, Below.refl _ _⟩
  case round =>
    obtain ⟨k, M0, hk, hk20, rfl, ho, hfl, hml, hb⟩ := hrel
    have HML := Lib.hid hml
    clear hml
    by_cases hkl : k < l.length ∧ k < 12
    · obtain ⟨hkl, h20⟩ := hkl
      have h20' : (k : Int) < 12 := by omega
      obtain ⟨p, o, rfl, hp, -, e0, e1⟩ := (hl.old hb).at k hkl
      obtain ⟨p', o', ep, hp0, -, -, -⟩ := hl.at k hkl
      injection ep with ep
      injection ep with ep1 ep2 _
      subst ep1 ep2
      obtain ⟨xx, hx⟩ : ∃ xx, xx = l[k] := ⟨_, rfl⟩
      rw [← hx] at e0 e1
      obtain ⟨x, m⟩ := xx
      simp only at e0 e1
      clear hx
      obtain ⟨X, hX, x1, x2⟩ := and_low x 10 1023 (by decide) (by decide) (by decide)
      obtain ⟨M, hM, m1, m2⟩ := and_low m 5 31 (by decide) (by decide) (by decide)
      have hand1 := and_i x 1023 X hX
      have hand2 := and_i m 31 M hM
      clear hX hM
      obtain ⟨v7, w7, hr7, ho7, b7, _⟩ := append_one (w := wr.drew) (X, 1 + M) (by unfold okR; simp only; omega) ho.drew hb.size (by rw [HML.out]; omega)
      simp only at hr7
      have HR7 := Lib.hid hr7
      have HO7 := Lib.hid ho7
      have hb7 : Below w.heap.size wr w7 := ⟨b7.os, b7.tape, b7.output, b7.size, b7.block⟩
      have hx0 : ∀ j : Nat, (([wr.drew, (wr.drew.alloc (.cells #[.int .i64 X, .int .i64 (1 + M)] 24)), w7] : List World).getD j wr.drew).cell? ⟨p, o + k * 2, none⟩ = some (.int .i64 x) := fun j => by
        match j with
        | 0 => exact e0
        | 1 => exact (World.cell?_alloc_lt _ _ ⟨p, _, none⟩ hp).trans e0
        | 2 => exact (hb7.cell (p := ⟨p, _, none⟩) hp0).trans e0
        | j + 3 => exact e0
      have hx1 : ∀ j : Nat, (([wr.drew, (wr.drew.alloc (.cells #[.int .i64 X, .int .i64 (1 + M)] 24)), w7] : List World).getD j wr.drew).cell? ⟨p, o + k * 2 + 1, none⟩ = some (.int .i64 m) := fun j => by
        match j with
        | 0 => exact e1
        | 1 => exact (World.cell?_alloc_lt _ _ ⟨p, _, none⟩ hp).trans e1
        | 2 => exact (hb7.cell (p := ⟨p, _, none⟩) hp0).trans e1
        | j + 3 => exact e1
      have HX0 := Lib.hid hx0
      have HX1 := Lib.hid hx1
      clear hx0 hx1 e0 e1 hr7 ho7 b7
      go_wp2
      have hx0 := HX0.out
      have hx1 := HX1.out
      try simp only [Act.put]
      refine wp_region_eff (Lx := fun _ _ => True) [RX.is (u3), RX.is (.slice (some ⟨p, o, none⟩) l.length cap), RX.is (.int .i64 ((k : Nat) : Int)), RX.is (.pointer (some ⟨p, o + k * 2, none⟩)), RX.is (.pointer (some ⟨p, o + k * 2, none⟩)), RX.is (.int .i64 x), RX.is (.int .i64 X), RX.is (.slice (some ⟨p, o, none⟩) l.length cap), RX.is (.int .i64 ((k : Nat) : Int)), RX.is (.pointer (some ⟨p, o + k * 2, none⟩)), RX.is (.pointer (some ⟨p, o + k * 2 + 1, none⟩)), RX.is (.int .i64 m), RX.is (.int .i64 M), RX.is (.int .i64 (1 + M)), RX.is (.agg #[.int .i64 X, .int .i64 (1 + M)]), RX.is (.slice (some ⟨wr.heap.size, 0, none⟩) 1 1), RX.is (v7), RX.is (v7)] [15, 16] (fun k w' => w' = [wr.drew, (wr.drew.alloc (.cells #[.int .i64 X, .int .i64 (1 + M)] 24)), w7].getD k wr.drew) (by kernel_rfl) (by kernel_rfl) (by kernel_rfl) (by kernel_rfl) (by kernel_rfl) rfl ⟨?_, ?_, ?_, ?_, ?_, ?_, ?_, ?_, ?_, ?_, ?_, ?_, ?_, ?_, ?_, ?_, ?_, ?_, trivial⟩ ?_
      · intro ac w' ph hF hPh hlt hP hU K hK0
        have e3 : ac.eval (.tmp 3) = u3 := by
          have hu := hU 17 3 (by kernel_rfl) rfl
          simp [Act.eval, hu]
        exact rop_move _ rfl e3 (wanted_none rfl) (hK0 _ _ trivial hPh rfl)
      · intro ac w' ph hF hPh hlt hP hU K hK0
        have e0 : ac.eval (.tmp 0) = .slice (some ⟨p, o, none⟩) l.length cap := hF.at 0 (by kernel_rfl)
        exact rop_move _ rfl e0 (wanted_none rfl) (hK0 _ _ trivial hPh rfl)
      · intro ac w' ph hF hPh hlt hP hU K hK0
        have e4 : ac.eval (.tmp 4) = .int .i64 ((k : Nat) : Int) := hF.at 4 (by kernel_rfl)
        exact rop_move _ rfl e4 (wanted_none rfl) (hK0 _ _ trivial hPh rfl)
      · intro ac w' ph hF hPh hlt hP hU K hK0
        have e16 : ac.eval (.tmp 16) = .slice (some ⟨p, o, none⟩) l.length cap := hP 1 (by kernel_rfl)
        have e17 : ac.eval (.tmp 17) = .int .i64 ((k : Nat) : Int) := hP 2 (by kernel_rfl)
        exact rop_idx _ _ _ rfl e16 e17 (idx_run p o l.length cap k hkl _) (wanted_none rfl) (hK0 _ _ trivial hPh rfl)
      · intro ac w' ph hF hPh hlt hP hU K hK0
        have e18 : ac.eval (.tmp 18) = .pointer (some ⟨p, o + k * 2, none⟩) := hP 3 (by kernel_rfl)
        exact rop_fld _ _ _ rfl e18 (fld_run0 _ _ _) (wanted_none rfl) (hK0 _ _ trivial hPh rfl)
      · intro ac w' ph hF hPh hlt hP hU K hK0
        have e19 : ac.eval (.tmp 19) = .pointer (some ⟨p, o + k * 2, none⟩) := hP 4 (by kernel_rfl)
        exact rop_ld _ _ rfl e19 (load_int ((congrArg (fun u : World => u.cell? ⟨p, o + k * 2, none⟩) (show w' = ([wr.drew, (wr.drew.alloc (.cells #[.int .i64 X, .int .i64 (1 + M)] 24)), w7] : List World).getD ph wr.drew from hPh)).trans (hx0 ph))) (wanted_none rfl) (hK0 _ _ trivial hPh rfl)
      · intro ac w' ph hF hPh hlt hP hU K hK0
        have e20 : ac.eval (.tmp 20) = .int .i64 x := hP 5 (by kernel_rfl)
        exact rop_bin _ _ _ _ _ rfl e20 rfl (guard_int _ _ _ _ _ _ _ w') (hand1 w') (wanted_none rfl) (hK0 _ _ trivial hPh rfl)
      · intro ac w' ph hF hPh hlt hP hU K hK0
        have e0 : ac.eval (.tmp 0) = .slice (some ⟨p, o, none⟩) l.length cap := hF.at 0 (by kernel_rfl)
        exact rop_move _ rfl e0 (wanted_none rfl) (hK0 _ _ trivial hPh rfl)
      · intro ac w' ph hF hPh hlt hP hU K hK0
        have e4 : ac.eval (.tmp 4) = .int .i64 ((k : Nat) : Int) := hF.at 4 (by kernel_rfl)
        exact rop_move _ rfl e4 (wanted_none rfl) (hK0 _ _ trivial hPh rfl)
      · intro ac w' ph hF hPh hlt hP hU K hK0
        have e22 : ac.eval (.tmp 22) = .slice (some ⟨p, o, none⟩) l.length cap := hP 7 (by kernel_rfl)
        have e23 : ac.eval (.tmp 23) = .int .i64 ((k : Nat) : Int) := hP 8 (by kernel_rfl)
        exact rop_idx _ _ _ rfl e22 e23 (idx_run p o l.length cap k hkl _) (wanted_none rfl) (hK0 _ _ trivial hPh rfl)
      · intro ac w' ph hF hPh hlt hP hU K hK0
        have e24 : ac.eval (.tmp 24) = .pointer (some ⟨p, o + k * 2, none⟩) := hP 9 (by kernel_rfl)
        exact rop_fld _ _ _ rfl e24 (fld_run1 _ _ _) (wanted_none rfl) (hK0 _ _ trivial hPh rfl)
      · intro ac w' ph hF hPh hlt hP hU K hK0
        have e25 : ac.eval (.tmp 25) = .pointer (some ⟨p, o + k * 2 + 1, none⟩) := hP 10 (by kernel_rfl)
        exact rop_ld _ _ rfl e25 (load_int ((congrArg (fun u : World => u.cell? ⟨p, o + k * 2 + 1, none⟩) (show w' = ([wr.drew, (wr.drew.alloc (.cells #[.int .i64 X, .int .i64 (1 + M)] 24)), w7] : List World).getD ph wr.drew from hPh)).trans (hx1 ph))) (wanted_none rfl) (hK0 _ _ trivial hPh rfl)
      · intro ac w' ph hF hPh hlt hP hU K hK0
        have e26 : ac.eval (.tmp 26) = .int .i64 m := hP 11 (by kernel_rfl)
        exact rop_bin _ _ _ _ _ rfl e26 rfl (guard_int _ _ _ _ _ _ _ w') (hand2 w') (wanted_none rfl) (hK0 _ _ trivial hPh rfl)
      · intro ac w' ph hF hPh hlt hP hU K hK0
        have e27 : ac.eval (.tmp 27) = .int .i64 M := hP 12 (by kernel_rfl)
        exact rop_bin _ _ _ _ _ rfl rfl e27 (guard_int _ _ _ _ _ _ _ w') (add_int _ _ _ (rfl) (by omega) w') (wanted_none rfl) (hK0 _ _ trivial hPh rfl)
      · intro ac w' ph hF hPh hlt hP hU K hK0
        have e21 : ac.eval (.tmp 21) = .int .i64 X := hP 6 (by kernel_rfl)
        have e28 : ac.eval (.tmp 28) = .int .i64 (1 + M) := hP 13 (by kernel_rfl)
        exact rop_build _ _ rfl _ (by simp [e21, e28]) (built_run _ _) (wanted_none rfl) (hK0 _ _ trivial hPh rfl)
      · intro ac w' ph hF hPh hlt hP hU K hK0
        obtain rfl : ph = 0 := (hlt 0 15 rfl).1 rfl
        obtain rfl : w' = wr.drew := hPh
        have e29 : ac.eval (.tmp 29) = .agg #[.int .i64 X, .int .i64 (1 + M)] := hP 14 (by kernel_rfl)
        exact rop_run1 _ rfl e29 (wanted_none rfl) (hK0 _ _ trivial rfl rfl)
      · intro ac w' ph hF hPh hlt hP hU K hK0
        obtain rfl : ph = 1 := (hlt 1 16 rfl).1 rfl
        obtain rfl : w' = (wr.drew.alloc (.cells #[.int .i64 X, .int .i64 (1 + M)] 24)) := hPh
        have e15 : ac.eval (.tmp 15) = u3 := hP 0 (by kernel_rfl)
        have e30 : ac.eval (.tmp 30) = .slice (some ⟨wr.heap.size, 0, none⟩) 1 1 := hP 15 (by kernel_rfl)
        exact rop_append _ _ _ rfl e15 e30 HR7.out (wanted_none rfl) (hK0 _ _ trivial rfl rfl)
      · intro ac w' ph hF hPh hlt hP hU K hK0
        have e31 : ac.eval (.tmp 31) = v7 := hP 16 (by kernel_rfl)
        exact rop_assign _ rfl e31 (wanted_none rfl) (hK0 _ _ trivial hPh rfl)
      · intro ac w' hF hPh hT
        obtain rfl : w' = w7 := hPh
        have e3 : ac.eval (.tmp 3) = v7 := hT 17 (by decide)
        rw [hF.lit 33 rfl]
        simp only [List.range, List.range.loop, List.map_cons, List.map_nil, e3, hF.at 0 (by kernel_rfl), hF.at 1 (by kernel_rfl), hF.at 2 (by kernel_rfl), hF.at 4 (by kernel_rfl), hF.at 5 (by kernel_rfl), hF.at 6 (by kernel_rfl), hF.at 7 (by kernel_rfl), hF.at 8 (by kernel_rfl), hF.at 9 (by kernel_rfl), hF.at 10 (by kernel_rfl), hF.at 11 (by kernel_rfl), hF.at 12 (by kernel_rfl), hF.at 13 (by kernel_rfl), hF.at 14 (by kernel_rfl), hF.at 32 (by kernel_rfl)]
        generalize ac.eval (.tmp 15) = u15
        generalize ac.eval (.tmp 16) = u16
        generalize ac.eval (.tmp 17) = u17
        generalize ac.eval (.tmp 18) = u18
        generalize ac.eval (.tmp 19) = u19
        generalize ac.eval (.tmp 20) = u20
        generalize ac.eval (.tmp 21) = u21
        generalize ac.eval (.tmp 22) = u22
        generalize ac.eval (.tmp 23) = u23
        generalize ac.eval (.tmp 24) = u24
        generalize ac.eval (.tmp 25) = u25
        generalize ac.eval (.tmp 26) = u26
        generalize ac.eval (.tmp 27) = u27
        generalize ac.eval (.tmp 28) = u28
        generalize ac.eval (.tmp 29) = u29
        generalize ac.eval (.tmp 30) = u30
        generalize ac.eval (.tmp 31) = u31
        simp only [Act.eval, Array.getD_eq_getD_getElem?, List.getElem?_toArray, List.getElem?_cons_succ, List.getElem?_cons_zero, Option.getD_some]
        clear e3 hT hF ac
        clear hx0 hx1 HX0 HX1 hand1 hand2
        go_wp2
        go_roundw
        case rel =>
          refine ⟨k + 1, M0 ++ [(X, 1 + M)], by omega, by omega, by go_num, HO7.out, ⟨?_, fun r hr => ?_, ?_⟩, ?_, hb.trans hb7⟩
          · rw [fileB_append, hfl.file, fileB_cons, (sndB_iff _).2 (by simp only; omega)]; rfl
          · rcases List.mem_append.1 hr with hr | hr
            · exact hfl.low r hr
            · simp at hr; subst hr; simp only; omega
          · have := HML.out; simp; omega
          · have := HML.out; simp; omega
        case measure => simp [intOf]; omega
    · by_cases hle : k < l.length
      · have h20 : ¬ (k : Int) < 12 := by omega
        obtain rfl : k = 12 := by omega
        go_wp2
        go_ret
        first | exact ⟨_, M0, rfl, ho.runs, hfl, hb⟩ | exact ⟨_, rfl, M0, ho.runs, hfl, hb⟩
      · go_wp2
        go_ret
        first | exact ⟨_, M0, rfl, ho.runs, hfl, hb⟩ | exact ⟨_, rfl, M0, ho.runs, hfl, hb⟩
end Go.Proofs.Ytlbnopfbfnobnaa
