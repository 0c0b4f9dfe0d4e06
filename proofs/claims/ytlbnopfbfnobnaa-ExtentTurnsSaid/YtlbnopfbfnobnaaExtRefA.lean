/-
  The document's own Files, Check, Total, All, Same.
-/
import Derived.Test.YtlbnopfbfnobnaaExtAll
namespace Go.Proofs.Ytlbnopfbfnobnaa
open Go.RowKit Ext

theorem neq_rn (a n : Int) (w : World) : (binOp .neq 24 (.agg #[.int .i64 a, .int .i64 n]) (.agg #[.int .i64 a, .int .i64 n])).run Try.prog w = .ok (.bool false) w := by
  go_simp
theorem eql_rn (a n : Int) (w : World) : (binOp .eql 24 (.agg #[.int .i64 a, .int .i64 n]) (.agg #[.int .i64 a, .int .i64 n])).run Try.prog w = .ok (.bool true) w := by
  go_simp
theorem guard_rn (op : BinOp) (x y : Operand) (a n b m : Int) (w : World) : (eqGuard op 24 x y (.agg #[.int .i64 a, .int .i64 n]) (.agg #[.int .i64 b, .int .i64 m])).run Try.prog w = .ok () w := by
  unfold eqGuard
  cases op <;> go_simp
theorem adj_of_chk : ∀ {l : List Rn} {n : Int}, chk n l = true → ∀ i (h : i + 1 < l.length), l[i].1 + l[i].2 < l[i + 1].1
  | [], _, _, i, h => by simp at h
  | [x], _, _, i, h => by simp at h
  | x :: y :: t, n, hc, i, h => by
    obtain ⟨h1, h2, h3⟩ := chk_cons.1 hc
    cases i with
    | zero => obtain ⟨k1, k2, k3⟩ := chk_cons.1 h3; simp; omega
    | succ i => exact adj_of_chk h3 i (by simpa using h)
theorem chk_of_adj : ∀ {l : List Rn} {n : Int}, fileB l = true → (∀ (h : 0 < l.length), n ≤ l[0].1) → (∀ i (h : i + 1 < l.length), l[i].1 + l[i].2 < l[i + 1].1) → chk n l = true
  | [], _, _, _, _ => rfl
  | x :: t, n, hf, h0, ha => by
    rw [fileB_cons, Bool.and_eq_true, sndB_iff] at hf
    refine chk_cons.2 ⟨hf.1, h0 (by simp), chk_of_adj hf.2 (fun h => ?_) (fun i h => ha (i + 1) (by simpa using h))⟩
    have := ha 0 (by simpa using h)
    simp at this
    omega
set_option maxHeartbeats 1600000 in
set_option maxRecDepth 100000 in
theorem files_any (v : Value) (l : List Rn) (w : World) (hl : Runs w v l) :
    Calls Try.prog 43 #[v] w fun e w' => e = .returned (.bool (fileB l)) ∧ Below w.heap.size w w' := by
  obtain ⟨va, cap, rfl, hlc, hcap⟩ := hl.slice
  have HOK := Lib.hid hl.ok
  go_enter Try.func43, Try.ntmps43
  go_wp2
  go_loopw [3] (fun s3 wr => ∃ k : Nat, k ≤ l.length ∧ s3 = .int .i64 k ∧ fileB (l.take k) = true ∧ Below w.heap.size w wr) (fun s3 _ => l.length - (intOf s3).toNat)
  case atStart => exact ⟨0, by omega, rfl, rfl, Below.refl _ _⟩
  case round =>
    obtain ⟨k, hk, rfl, hc, hb⟩ := hrel
    have HC := Lib.hid hc
    clear hc
    by_cases hlt : k < l.length
    · have hokr := HOK.out l[k] (List.getElem_mem hlt)
      have htk := List.take_succ_eq_append_getElem hlt
      have hdr := List.drop_eq_getElem_cons hlt
      obtain ⟨b, off, rfl, hbB, -, e0, e1⟩ := (hl.old hb).at k hlt
      obtain ⟨x, hx⟩ : ∃ x, x = l[k] := ⟨_, rfl⟩
      rw [← hx] at hokr e0 e1 htk hdr
      obtain ⟨a, n⟩ := x
      simp only at e0 e1
      have HTK := Lib.hid htk
      have HDR := Lib.hid hdr
      have hg := good_any a n wr hokr
      clear htk hdr hokr hx
      cases hs : sndB (a, n) with
      | false =>
        rw [hs] at hg
        go_wp2_with (go_at_call 37; refine hg.mono ?_; rintro e w1 ⟨rfl, b1⟩)
        go_ret
        refine ⟨?_, below_step hb (Nat.le_refl _) b1⟩
        have : fileB l = false := by
          rw [← List.take_append_drop k l, fileB_append, HDR.out, fileB_cons, hs]; simp
        rw [this]; rfl
      | true =>
        rw [hs] at hg
        go_wp2_with (go_at_call 37; refine hg.mono ?_; rintro e w1 ⟨rfl, b1⟩)
        go_roundw
        case rel => exact ⟨k + 1, by omega, by go_num, by rw [HTK.out, fileB_append, HC.out, fileB_cons, hs]; rfl, below_step hb (Nat.le_refl _) b1⟩
        case measure => simp [intOf]; omega
    · go_wp2
      go_ret
      refine ⟨?_, hb⟩
      have := HC.out
      rw [List.take_of_length_le (by omega)] at this
      rw [this]; rfl
set_option maxHeartbeats 3200000 in
set_option maxRecDepth 100000 in
theorem rcheck_any (v : Value) (l : List Rn) (w : World) (hl : Runs w v l) :
    Calls Try.prog 31 #[v] w fun e w' => e = .returned (.int .i64 (chkE l)) ∧ Below w.heap.size w w' := by
  obtain ⟨va, cap, rfl, hlc, hcap⟩ := hl.slice
  have hfl := files_any _ l w hl
  cases hf : fileB l with
  | false =>
    rw [hf] at hfl
    have hce : chkE l = 1 := by
      unfold chkE
      rw [if_neg]
      intro h
      rw [chk_file h] at hf
      cases hf
    rw [hce]
    clear hce
    go_enter Try.func31, Try.ntmps31
    go_wp2_with (go_at_call 43; refine hfl.mono ?_; rintro e w1 ⟨rfl, b1⟩)
    go_ret
    exact ⟨rfl, b1⟩
  | true =>
    rw [hf] at hfl
    go_enter Try.func31, Try.ntmps31
    go_wp2_with (go_at_call 43; refine hfl.mono ?_; rintro e w1 ⟨rfl, b1⟩)
    go_loopw [4] (fun s4 wr => ∃ k : Nat, 1 ≤ k ∧ k ≤ l.length + 1 ∧ s4 = .int .i64 k ∧ (∀ i (h : i + 1 < l.length), i + 1 < k → l[i].1 + l[i].2 < l[i + 1].1) ∧ Below w.heap.size w wr) (fun s4 _ => l.length + 1 - (intOf s4).toNat)
    case atStart => exact ⟨1, by omega, by omega, rfl, fun i _ h => by omega, b1⟩
    case round =>
      clear b1
      obtain ⟨k, hk1, hk, rfl, hc, hb⟩ := hrel
      have HC := Lib.hid hc
      clear hc
      by_cases hlt : k < l.length
      · obtain ⟨j, rfl⟩ : ∃ j, k = j + 1 := ⟨k - 1, by omega⟩
        obtain ⟨k, hkj⟩ : ∃ k, k = j + 1 := ⟨_, rfl⟩
        have hkj' : (k : Int) - 1 = (j : Int) := by omega
        have hltj : j < l.length := by omega
        rw [← hkj] at hlt hk hk1
        have hrun := hl.old hb
        obtain ⟨b, off, rfl, hbB, -, e0, e1⟩ := hrun.at j hltj
        obtain ⟨b', off', ebb, -, -, d0, -⟩ := hrun.at k hlt
        injection ebb with ebb
        injection ebb with eb1 eb2 _
        subst eb1 eb2
        have hsx := fileB_get hf j hltj
        have hsy := fileB_get hf k hlt
        have hadj : (l[j].1 + l[j].2 < l[k].1) ∨ ¬ (l[j].1 + l[j].2 < l[k].1) := Classical.em _
        obtain ⟨xx, hx⟩ : ∃ xx, xx = l[j] := ⟨_, rfl⟩
        obtain ⟨yy, hy⟩ : ∃ yy, yy = l[k] := ⟨_, rfl⟩
        have HX := Lib.hid hx
        have HY := Lib.hid hy
        rw [← hx] at e0 e1 hsx hadj
        rw [← hy] at d0 hsy hadj
        clear hx hy
        obtain ⟨x, m⟩ := xx
        obtain ⟨y, n⟩ := yy
        simp only at e0 e1 d0 hsx hsy hadj
        have HKJ := Lib.hid hkj
        rw [← hkj]
        clear hkj
        rcases hadj with hadj | hadj
        · go_wp2
          try simp only [Act.put]
          refine wp_region_tab [RT.is (.slice (some ⟨b, off, none⟩) l.length cap), RT.is (.int .i64 ((k : Nat) : Int)), RT.is (.int .i64 ((j : Nat))), RT.is (.pointer (some ⟨b, off + j * 2, none⟩)), RT.is (.pointer (some ⟨b, off + j * 2, none⟩)), RT.is (.int .i64 x), RT.is (.slice (some ⟨b, off, none⟩) l.length cap), RT.is (.int .i64 ((k : Nat) : Int)), RT.is (.int .i64 ((j : Nat))), RT.is (.pointer (some ⟨b, off + j * 2, none⟩)), RT.is (.pointer (some ⟨b, off + j * 2 + 1, none⟩)), RT.is (.int .i64 m), RT.is (.int .i64 (x + m)), RT.is (.slice (some ⟨b, off, none⟩) l.length cap), RT.is (.int .i64 ((k : Nat) : Int)), RT.is (.pointer (some ⟨b, off + k * 2, none⟩)), RT.is (.pointer (some ⟨b, off + k * 2, none⟩)), RT.is (.int .i64 y), RT.is (.bool false)] (by kernel_rfl) (by kernel_rfl) (by kernel_rfl) (by kernel_rfl) ⟨?_, ?_, ?_, ?_, ?_, ?_, ?_, ?_, ?_, ?_, ?_, ?_, ?_, ?_, ?_, ?_, ?_, ?_, ?_, trivial⟩ ?_
          · intro ac w' hF hL hP hU K hK
            have hB := below_undrew hL
            have e0 : ac.eval (.tmp 0) = .slice (some ⟨b, off, none⟩) l.length cap := hF.at 0 (by kernel_rfl)
            exact rop_move _ rfl e0 (wanted_none rfl) (hK _ _ (le8_refl _) rfl)
          · intro ac w' hF hL hP hU K hK
            have hB := below_undrew hL
            have e4 : ac.eval (.tmp 4) = .int .i64 ((k : Nat) : Int) := hF.at 4 (by kernel_rfl)
            exact rop_move _ rfl e4 (wanted_none rfl) (hK _ _ (le8_refl _) rfl)
          · intro ac w' hF hL hP hU K hK
            have hB := below_undrew hL
            have e16 : ac.eval (.tmp 16) = .int .i64 ((k : Nat) : Int) := hP 1 (by kernel_rfl)
            exact rop_bin _ _ _ _ _ rfl e16 rfl (guard_int _ _ _ _ _ _ _ w') (sub_int _ _ _ (by omega) (by omega) w') (wanted_none rfl) (hK _ _ (le8_refl _) rfl)
          · intro ac w' hF hL hP hU K hK
            have hB := below_undrew hL
            have e15 : ac.eval (.tmp 15) = .slice (some ⟨b, off, none⟩) l.length cap := hP 0 (by kernel_rfl)
            have e17 : ac.eval (.tmp 17) = .int .i64 ((j : Nat)) := hP 2 (by kernel_rfl)
            exact rop_idx _ _ _ rfl e15 e17 (idx_run b off l.length cap j (by omega) _) (wanted_none rfl) (hK _ _ (le8_refl _) rfl)
          · intro ac w' hF hL hP hU K hK
            have hB := below_undrew hL
            have e18 : ac.eval (.tmp 18) = .pointer (some ⟨b, off + j * 2, none⟩) := hP 3 (by kernel_rfl)
            exact rop_fld _ _ _ rfl e18 (fld_run0 _ _ _) (wanted_none rfl) (hK _ _ (le8_refl _) rfl)
          · intro ac w' hF hL hP hU K hK
            have hB := below_undrew hL
            have e19 : ac.eval (.tmp 19) = .pointer (some ⟨b, off + j * 2, none⟩) := hP 4 (by kernel_rfl)
            exact rop_ld _ _ rfl e19 (load_int ((hB.cell (p := ⟨b, _, none⟩) hbB).trans e0)) (wanted_none rfl) (hK _ _ (le8_refl _) rfl)
          · intro ac w' hF hL hP hU K hK
            have hB := below_undrew hL
            have e0 : ac.eval (.tmp 0) = .slice (some ⟨b, off, none⟩) l.length cap := hF.at 0 (by kernel_rfl)
            exact rop_move _ rfl e0 (wanted_none rfl) (hK _ _ (le8_refl _) rfl)
          · intro ac w' hF hL hP hU K hK
            have hB := below_undrew hL
            have e4 : ac.eval (.tmp 4) = .int .i64 ((k : Nat) : Int) := hF.at 4 (by kernel_rfl)
            exact rop_move _ rfl e4 (wanted_none rfl) (hK _ _ (le8_refl _) rfl)
          · intro ac w' hF hL hP hU K hK
            have hB := below_undrew hL
            have e22 : ac.eval (.tmp 22) = .int .i64 ((k : Nat) : Int) := hP 7 (by kernel_rfl)
            exact rop_bin _ _ _ _ _ rfl e22 rfl (guard_int _ _ _ _ _ _ _ w') (sub_int _ _ _ (by omega) (by omega) w') (wanted_none rfl) (hK _ _ (le8_refl _) rfl)
          · intro ac w' hF hL hP hU K hK
            have hB := below_undrew hL
            have e21 : ac.eval (.tmp 21) = .slice (some ⟨b, off, none⟩) l.length cap := hP 6 (by kernel_rfl)
            have e23 : ac.eval (.tmp 23) = .int .i64 ((j : Nat)) := hP 8 (by kernel_rfl)
            exact rop_idx _ _ _ rfl e21 e23 (idx_run b off l.length cap j (by omega) _) (wanted_none rfl) (hK _ _ (le8_refl _) rfl)
          · intro ac w' hF hL hP hU K hK
            have hB := below_undrew hL
            have e24 : ac.eval (.tmp 24) = .pointer (some ⟨b, off + j * 2, none⟩) := hP 9 (by kernel_rfl)
            exact rop_fld _ _ _ rfl e24 (fld_run1 _ _ _) (wanted_none rfl) (hK _ _ (le8_refl _) rfl)
          · intro ac w' hF hL hP hU K hK
            have hB := below_undrew hL
            have e25 : ac.eval (.tmp 25) = .pointer (some ⟨b, off + j * 2 + 1, none⟩) := hP 10 (by kernel_rfl)
            exact rop_ld _ _ rfl e25 (load_int ((hB.cell (p := ⟨b, _, none⟩) hbB).trans e1)) (wanted_none rfl) (hK _ _ (le8_refl _) rfl)
          · intro ac w' hF hL hP hU K hK
            have hB := below_undrew hL
            have e20 : ac.eval (.tmp 20) = .int .i64 x := hP 5 (by kernel_rfl)
            have e26 : ac.eval (.tmp 26) = .int .i64 m := hP 11 (by kernel_rfl)
            exact rop_bin _ _ _ _ _ rfl e20 e26 (guard_int _ _ _ _ _ _ _ w') (add_int _ _ _ (rfl) (by omega) w') (wanted_none rfl) (hK _ _ (le8_refl _) rfl)
          · intro ac w' hF hL hP hU K hK
            have hB := below_undrew hL
            have e0 : ac.eval (.tmp 0) = .slice (some ⟨b, off, none⟩) l.length cap := hF.at 0 (by kernel_rfl)
            exact rop_move _ rfl e0 (wanted_none rfl) (hK _ _ (le8_refl _) rfl)
          · intro ac w' hF hL hP hU K hK
            have hB := below_undrew hL
            have e4 : ac.eval (.tmp 4) = .int .i64 ((k : Nat) : Int) := hF.at 4 (by kernel_rfl)
            exact rop_move _ rfl e4 (wanted_none rfl) (hK _ _ (le8_refl _) rfl)
          · intro ac w' hF hL hP hU K hK
            have hB := below_undrew hL
            have e28 : ac.eval (.tmp 28) = .slice (some ⟨b, off, none⟩) l.length cap := hP 13 (by kernel_rfl)
            have e29 : ac.eval (.tmp 29) = .int .i64 ((k : Nat) : Int) := hP 14 (by kernel_rfl)
            exact rop_idx _ _ _ rfl e28 e29 (idx_run b off l.length cap k (by omega) _) (wanted_none rfl) (hK _ _ (le8_refl _) rfl)
          · intro ac w' hF hL hP hU K hK
            have hB := below_undrew hL
            have e30 : ac.eval (.tmp 30) = .pointer (some ⟨b, off + k * 2, none⟩) := hP 15 (by kernel_rfl)
            exact rop_fld _ _ _ rfl e30 (fld_run0 _ _ _) (wanted_none rfl) (hK _ _ (le8_refl _) rfl)
          · intro ac w' hF hL hP hU K hK
            have hB := below_undrew hL
            have e31 : ac.eval (.tmp 31) = .pointer (some ⟨b, off + k * 2, none⟩) := hP 16 (by kernel_rfl)
            exact rop_ld _ _ rfl e31 (load_int ((hB.cell (p := ⟨b, _, none⟩) hbB).trans d0)) (wanted_none rfl) (hK _ _ (le8_refl _) rfl)
          · intro ac w' hF hL hP hU K hK
            have hB := below_undrew hL
            have e27 : ac.eval (.tmp 27) = .int .i64 (x + m) := hP 12 (by kernel_rfl)
            have e32 : ac.eval (.tmp 32) = .int .i64 y := hP 17 (by kernel_rfl)
            exact rop_bin _ _ _ _ _ rfl e27 e32 (guard_int _ _ _ _ _ _ _ w') (geq_i _ _ _ (by rw [decide_eq_false_iff_not]; omega) w') (wanted_none rfl) (hK _ _ (le8_refl _) rfl)
          · intro ac w' hF hB hT
            have e33 : ac.eval (.tmp 33) = .bool false := hT 18 (by decide)
            rw [hF.lit 34 rfl]
            simp only [List.range, List.range.loop, List.map_cons, List.map_nil, e33, hF.at 0 (by kernel_rfl), hF.at 1 (by kernel_rfl), hF.at 2 (by kernel_rfl), hF.at 3 (by kernel_rfl), hF.at 4 (by kernel_rfl), hF.at 5 (by kernel_rfl), hF.at 6 (by kernel_rfl), hF.at 7 (by kernel_rfl), hF.at 8 (by kernel_rfl), hF.at 9 (by kernel_rfl), hF.at 10 (by kernel_rfl), hF.at 11 (by kernel_rfl), hF.at 12 (by kernel_rfl), hF.at 13 (by kernel_rfl), hF.at 14 (by kernel_rfl)]
            generalize ac.eval (.tmp 15) = u15
            generalize ac.eval (.tmp 16) = u16
            generalize ac.eval (.tmp 17) = u17
            generalize ac.eval (.tmp 18) = u18
            generalize ac.eval (.tmp 19) = u19
            generalize ac.eval (.tmp 20) = u20
            generalize ac.eval (.tmp 21) = u21
            generalize ac.eval (.tmp 22) = u22
            generalize ac.eval (.tmp 23) = u23
            generalize ac.eval (.tmp 24) = u24
            generalize ac.eval (.tmp 25) = u25
            generalize ac.eval (.tmp 26) = u26
            generalize ac.eval (.tmp 27) = u27
            generalize ac.eval (.tmp 28) = u28
            generalize ac.eval (.tmp 29) = u29
            generalize ac.eval (.tmp 30) = u30
            generalize ac.eval (.tmp 31) = u31
            generalize ac.eval (.tmp 32) = u32
            simp only [Act.eval, Array.getD_eq_getD_getElem?, List.getElem?_toArray, List.getElem?_cons_succ, List.getElem?_cons_zero, Option.getD_some]
            clear e33 hT hF ac
            go_wp2
            go_roundw
            case rel =>
              refine ⟨k + 1, by omega, by omega, by go_num, fun i h hik => ?_, below_step hb (Nat.le_refl _) hB⟩
              by_cases hi : i + 1 < k
              · exact HC.out i h (by rw [← HKJ.out]; exact hi)
              · have h2 := HKJ.out
                obtain rfl : i = j := by omega
                have hx := HX.out
                have hy := HY.out
                subst h2
                rw [← hx, ← hy]
                exact hadj
            case measure => simp [intOf]; omega
        · go_wp2
          try simp only [Act.put]
          refine wp_region_tab [RT.is (.slice (some ⟨b, off, none⟩) l.length cap), RT.is (.int .i64 ((k : Nat) : Int)), RT.is (.int .i64 ((j : Nat))), RT.is (.pointer (some ⟨b, off + j * 2, none⟩)), RT.is (.pointer (some ⟨b, off + j * 2, none⟩)), RT.is (.int .i64 x), RT.is (.slice (some ⟨b, off, none⟩) l.length cap), RT.is (.int .i64 ((k : Nat) : Int)), RT.is (.int .i64 ((j : Nat))), RT.is (.pointer (some ⟨b, off + j * 2, none⟩)), RT.is (.pointer (some ⟨b, off + j * 2 + 1, none⟩)), RT.is (.int .i64 m), RT.is (.int .i64 (x + m)), RT.is (.slice (some ⟨b, off, none⟩) l.length cap), RT.is (.int .i64 ((k : Nat) : Int)), RT.is (.pointer (some ⟨b, off + k * 2, none⟩)), RT.is (.pointer (some ⟨b, off + k * 2, none⟩)), RT.is (.int .i64 y), RT.is (.bool true)] (by kernel_rfl) (by kernel_rfl) (by kernel_rfl) (by kernel_rfl) ⟨?_, ?_, ?_, ?_, ?_, ?_, ?_, ?_, ?_, ?_, ?_, ?_, ?_, ?_, ?_, ?_, ?_, ?_, ?_, trivial⟩ ?_
          · intro ac w' hF hL hP hU K hK
            have hB := below_undrew hL
            have e0 : ac.eval (.tmp 0) = .slice (some ⟨b, off, none⟩) l.length cap := hF.at 0 (by kernel_rfl)
            exact rop_move _ rfl e0 (wanted_none rfl) (hK _ _ (le8_refl _) rfl)
          · intro ac w' hF hL hP hU K hK
            have hB := below_undrew hL
            have e4 : ac.eval (.tmp 4) = .int .i64 ((k : Nat) : Int) := hF.at 4 (by kernel_rfl)
            exact rop_move _ rfl e4 (wanted_none rfl) (hK _ _ (le8_refl _) rfl)
          · intro ac w' hF hL hP hU K hK
            have hB := below_undrew hL
            have e16 : ac.eval (.tmp 16) = .int .i64 ((k : Nat) : Int) := hP 1 (by kernel_rfl)
            exact rop_bin _ _ _ _ _ rfl e16 rfl (guard_int _ _ _ _ _ _ _ w') (sub_int _ _ _ (by omega) (by omega) w') (wanted_none rfl) (hK _ _ (le8_refl _) rfl)
          · intro ac w' hF hL hP hU K hK
            have hB := below_undrew hL
            have e15 : ac.eval (.tmp 15) = .slice (some ⟨b, off, none⟩) l.length cap := hP 0 (by kernel_rfl)
            have e17 : ac.eval (.tmp 17) = .int .i64 ((j : Nat)) := hP 2 (by kernel_rfl)
            exact rop_idx _ _ _ rfl e15 e17 (idx_run b off l.length cap j (by omega) _) (wanted_none rfl) (hK _ _ (le8_refl _) rfl)
          · intro ac w' hF hL hP hU K hK
            have hB := below_undrew hL
            have e18 : ac.eval (.tmp 18) = .pointer (some ⟨b, off + j * 2, none⟩) := hP 3 (by kernel_rfl)
            exact rop_fld _ _ _ rfl e18 (fld_run0 _ _ _) (wanted_none rfl) (hK _ _ (le8_refl _) rfl)
          · intro ac w' hF hL hP hU K hK
            have hB := below_undrew hL
            have e19 : ac.eval (.tmp 19) = .pointer (some ⟨b, off + j * 2, none⟩) := hP 4 (by kernel_rfl)
            exact rop_ld _ _ rfl e19 (load_int ((hB.cell (p := ⟨b, _, none⟩) hbB).trans e0)) (wanted_none rfl) (hK _ _ (le8_refl _) rfl)
          · intro ac w' hF hL hP hU K hK
            have hB := below_undrew hL
            have e0 : ac.eval (.tmp 0) = .slice (some ⟨b, off, none⟩) l.length cap := hF.at 0 (by kernel_rfl)
            exact rop_move _ rfl e0 (wanted_none rfl) (hK _ _ (le8_refl _) rfl)
          · intro ac w' hF hL hP hU K hK
            have hB := below_undrew hL
            have e4 : ac.eval (.tmp 4) = .int .i64 ((k : Nat) : Int) := hF.at 4 (by kernel_rfl)
            exact rop_move _ rfl e4 (wanted_none rfl) (hK _ _ (le8_refl _) rfl)
          · intro ac w' hF hL hP hU K hK
            have hB := below_undrew hL
            have e22 : ac.eval (.tmp 22) = .int .i64 ((k : Nat) : Int) := hP 7 (by kernel_rfl)
            exact rop_bin _ _ _ _ _ rfl e22 rfl (guard_int _ _ _ _ _ _ _ w') (sub_int _ _ _ (by omega) (by omega) w') (wanted_none rfl) (hK _ _ (le8_refl _) rfl)
          · intro ac w' hF hL hP hU K hK
            have hB := below_undrew hL
            have e21 : ac.eval (.tmp 21) = .slice (some ⟨b, off, none⟩) l.length cap := hP 6 (by kernel_rfl)
            have e23 : ac.eval (.tmp 23) = .int .i64 ((j : Nat)) := hP 8 (by kernel_rfl)
            exact rop_idx _ _ _ rfl e21 e23 (idx_run b off l.length cap j (by omega) _) (wanted_none rfl) (hK _ _ (le8_refl _) rfl)
          · intro ac w' hF hL hP hU K hK
            have hB := below_undrew hL
            have e24 : ac.eval (.tmp 24) = .pointer (some ⟨b, off + j * 2, none⟩) := hP 9 (by kernel_rfl)
            exact rop_fld _ _ _ rfl e24 (fld_run1 _ _ _) (wanted_none rfl) (hK _ _ (le8_refl _) rfl)
          · intro ac w' hF hL hP hU K hK
            have hB := below_undrew hL
            have e25 : ac.eval (.tmp 25) = .pointer (some ⟨b, off + j * 2 + 1, none⟩) := hP 10 (by kernel_rfl)
            exact rop_ld _ _ rfl e25 (load_int ((hB.cell (p := ⟨b, _, none⟩) hbB).trans e1)) (wanted_none rfl) (hK _ _ (le8_refl _) rfl)
          · intro ac w' hF hL hP hU K hK
            have hB := below_undrew hL
            have e20 : ac.eval (.tmp 20) = .int .i64 x := hP 5 (by kernel_rfl)
            have e26 : ac.eval (.tmp 26) = .int .i64 m := hP 11 (by kernel_rfl)
            exact rop_bin _ _ _ _ _ rfl e20 e26 (guard_int _ _ _ _ _ _ _ w') (add_int _ _ _ (rfl) (by omega) w') (wanted_none rfl) (hK _ _ (le8_refl _) rfl)
          · intro ac w' hF hL hP hU K hK
            have hB := below_undrew hL
            have e0 : ac.eval (.tmp 0) = .slice (some ⟨b, off, none⟩) l.length cap := hF.at 0 (by kernel_rfl)
            exact rop_move _ rfl e0 (wanted_none rfl) (hK _ _ (le8_refl _) rfl)
          · intro ac w' hF hL hP hU K hK
            have hB := below_undrew hL
            have e4 : ac.eval (.tmp 4) = .int .i64 ((k : Nat) : Int) := hF.at 4 (by kernel_rfl)
            exact rop_move _ rfl e4 (wanted_none rfl) (hK _ _ (le8_refl _) rfl)
          · intro ac w' hF hL hP hU K hK
            have hB := below_undrew hL
            have e28 : ac.eval (.tmp 28) = .slice (some ⟨b, off, none⟩) l.length cap := hP 13 (by kernel_rfl)
            have e29 : ac.eval (.tmp 29) = .int .i64 ((k : Nat) : Int) := hP 14 (by kernel_rfl)
            exact rop_idx _ _ _ rfl e28 e29 (idx_run b off l.length cap k (by omega) _) (wanted_none rfl) (hK _ _ (le8_refl _) rfl)
          · intro ac w' hF hL hP hU K hK
            have hB := below_undrew hL
            have e30 : ac.eval (.tmp 30) = .pointer (some ⟨b, off + k * 2, none⟩) := hP 15 (by kernel_rfl)
            exact rop_fld _ _ _ rfl e30 (fld_run0 _ _ _) (wanted_none rfl) (hK _ _ (le8_refl _) rfl)
          · intro ac w' hF hL hP hU K hK
            have hB := below_undrew hL
            have e31 : ac.eval (.tmp 31) = .pointer (some ⟨b, off + k * 2, none⟩) := hP 16 (by kernel_rfl)
            exact rop_ld _ _ rfl e31 (load_int ((hB.cell (p := ⟨b, _, none⟩) hbB).trans d0)) (wanted_none rfl) (hK _ _ (le8_refl _) rfl)
          · intro ac w' hF hL hP hU K hK
            have hB := below_undrew hL
            have e27 : ac.eval (.tmp 27) = .int .i64 (x + m) := hP 12 (by kernel_rfl)
            have e32 : ac.eval (.tmp 32) = .int .i64 y := hP 17 (by kernel_rfl)
            exact rop_bin _ _ _ _ _ rfl e27 e32 (guard_int _ _ _ _ _ _ _ w') (geq_i _ _ _ (by rw [decide_eq_true_iff]; omega) w') (wanted_none rfl) (hK _ _ (le8_refl _) rfl)
          · intro ac w' hF hB hT
            have e33 : ac.eval (.tmp 33) = .bool true := hT 18 (by decide)
            rw [hF.lit 34 rfl]
            simp only [List.range, List.range.loop, List.map_cons, List.map_nil, e33, hF.at 0 (by kernel_rfl), hF.at 1 (by kernel_rfl), hF.at 2 (by kernel_rfl), hF.at 3 (by kernel_rfl), hF.at 4 (by kernel_rfl), hF.at 5 (by kernel_rfl), hF.at 6 (by kernel_rfl), hF.at 7 (by kernel_rfl), hF.at 8 (by kernel_rfl), hF.at 9 (by kernel_rfl), hF.at 10 (by kernel_rfl), hF.at 11 (by kernel_rfl), hF.at 12 (by kernel_rfl), hF.at 13 (by kernel_rfl), hF.at 14 (by kernel_rfl)]
            generalize ac.eval (.tmp 15) = u15
            generalize ac.eval (.tmp 16) = u16
            generalize ac.eval (.tmp 17) = u17
            generalize ac.eval (.tmp 18) = u18
            generalize ac.eval (.tmp 19) = u19
            generalize ac.eval (.tmp 20) = u20
            generalize ac.eval (.tmp 21) = u21
            generalize ac.eval (.tmp 22) = u22
            generalize ac.eval (.tmp 23) = u23
            generalize ac.eval (.tmp 24) = u24
            generalize ac.eval (.tmp 25) = u25
            generalize ac.eval (.tmp 26) = u26
            generalize ac.eval (.tmp 27) = u27
            generalize ac.eval (.tmp 28) = u28
            generalize ac.eval (.tmp 29) = u29
            generalize ac.eval (.tmp 30) = u30
            generalize ac.eval (.tmp 31) = u31
            generalize ac.eval (.tmp 32) = u32
            simp only [Act.eval, Array.getD_eq_getD_getElem?, List.getElem?_toArray, List.getElem?_cons_succ, List.getElem?_cons_zero, Option.getD_some]
            clear e33 hT hF ac
            go_wp2
            go_ret
            refine ⟨?_, below_step hb (Nat.le_refl _) hB⟩
            have : chkE l = 1 := by
              unfold chkE
              rw [if_neg]
              intro h
              have h2 := HKJ.out
              have hx := HX.out
              have hy := HY.out
              subst h2
              have := adj_of_chk h j hlt
              rw [← hx, ← hy] at this
              simp only at this
              omega
            rw [this]; rfl
      · go_wp2
        go_ret
        refine ⟨?_, hb⟩
        have : chkE l = 0 := by
          unfold chkE
          rw [if_pos (chk_of_adj hf (fun h => (fileB_get hf 0 h).1) fun i h => HC.out i h (by omega))]
        rw [this]; rfl
set_option maxHeartbeats 1600000 in
set_option maxRecDepth 100000 in
theorem rtotal_any (v : Value) (l : List Rn) (w : World) (hl : Runs w v l) (hf : fileB l = true) (hn : l.length ≤ 1000000) :
    Calls Try.prog 32 #[v] w fun e w' => e = .returned (.int .i64 (tot l)) ∧ w = w' := by
  obtain ⟨va, cap, rfl, hlc, hcap⟩ := hl.slice
  go_enter Try.func32, Try.ntmps32
  go_wp2
  go_loop [3, 4] (fun s3 s4 => ∃ (k : Nat) (t : Int), k ≤ l.length ∧ s4 = .int .i64 k ∧ s3 = .int .i64 t ∧ (0 ≤ t ∧ t ≤ 65536000000) ∧ t = tot (l.take k)) (fun _ s4 => l.length - (intOf s4).toNat)
  case atStart => exact ⟨0, 0, by omega, rfl, rfl, by omega, rfl⟩
  case round =>
    obtain ⟨k, t, hk, rfl, rfl, ⟨hn1, hn2⟩, hc⟩ := hrel
    have HC := Lib.hid hc
    clear hc
    by_cases hlt : k < l.length
    · obtain ⟨b, off, rfl, hbB, -, e0, e1⟩ := hl.at k hlt
      have hs := fileB_get hf k hlt
      have htk := tot_take l k hlt
      obtain ⟨x, hx⟩ : ∃ x, x = l[k] := ⟨_, rfl⟩
      rw [← hx] at e0 e1 hs htk
      obtain ⟨a, n⟩ := x
      simp only at e0 e1 hs htk
      obtain ⟨s1, s2, s3⟩ := hs
      have hn3 : n ≤ 65536 := by omega
      have htn := tot_nonneg (file_take hf (k + 1))
      rw [List.length_take, Nat.min_eq_left (show k + 1 ≤ l.length by omega), htk, ← HC.out] at htn
      have hb1 : t + n ≤ 65536000000 := by omega
      have HT := Lib.hid htk
      clear htk htn hx
      have m1 : ¬ 1125899906842624 < n := by omega
      have m2 : 0 < n := by omega
      have m3 : ¬ 1125899906842624 < t + n := by omega
      go_wp2
      go_round
      case rel =>
        refine ⟨k + 1, t + n, by omega, by go_num, rfl, by omega, ?_⟩
        rw [HT.out, HC.out]
      case measure => simp [intOf]; omega
    · go_wp2
      go_ret
      refine ⟨?_, rfl⟩
      rw [HC.out, List.take_of_length_le (by omega)]; rfl
set_option maxHeartbeats 3200000 in
set_option maxRecDepth 100000 in
theorem rall_any (v : Value) (l : List Rn) (w : World) (hl : Runs w v l) (hf : fileB l = true) (hln : l.length ≤ 1000) :
    Calls Try.prog 19 #[v] w fun e w' => ∃ v', e = .returned v' ∧ Nums w' v' (allS l) ∧ Below w.heap.size w w' := by
  obtain ⟨va, cap, rfl, hlc, hcap⟩ := hl.slice
  go_enter Try.func19, Try.ntmps19
  go_wp2
  go_loopw [3, 4] (fun s3 s4 wr => ∃ k : Nat, k ≤ l.length ∧ s4 = .int .i64 k ∧ OwnI w.heap.size wr s3 (allS (l.take k)) ∧ Below w.heap.size w wr) (fun _ s4 _ => l.length - (intOf s4).toNat)
  case atStart => exact ⟨0, by omega, rfl, World.ownsRow_nil _ _ _ _, Below.refl _ _⟩
  case round =>
    obtain ⟨k, hk, rfl, ho, hb⟩ := hrel
    by_cases hlt : k < l.length
    · have hs := fileB_get hf k hlt
      have hat := allS_take k hlt
      have hal := allS_len_take hf k hln
      obtain ⟨b, off, rfl, hbB, -, e0, e1⟩ := hl.at k hlt
      obtain ⟨xx, hx⟩ : ∃ xx, xx = l[k] := ⟨_, rfl⟩
      rw [← hx] at e0 e1 hs hat
      obtain ⟨a, n⟩ := xx
      simp only at e0 e1 hs hat
      obtain ⟨s1, s2, s3⟩ := hs
      obtain ⟨A, hA⟩ : ∃ A, A = allS (l.take k) := ⟨_, rfl⟩
      rw [← hA] at hat hal ho
      have HAT := Lib.hid hat
      clear hat hx hA
      obtain ⟨N, rfl⟩ : ∃ N : Nat, n = N := ⟨n.toNat, by omega⟩
      have HE0 := Lib.hid e0
      have HE1 := Lib.hid e1
      clear e0 e1
      go_wp2
      go_loopw [3, 5] (fun s3 s5 wr => ∃ j : Nat, j ≤ N ∧ s5 = .int .i64 j ∧ OwnI w.heap.size wr s3 (A ++ rowS a j) ∧ Below w.heap.size w wr) (fun _ s5 _ => N - (intOf s5).toNat)
      case atStart => exact ⟨0, by omega, rfl, by rw [rowS, List.append_nil]; exact ho, hb⟩
      case round =>
        clear ho hb
        obtain ⟨j, hj, rfl, hoj, hb⟩ := hrel
        have e0 := (hb.cell (p := ⟨b, _, none⟩) hbB).trans HE0.out
        have e1 := (hb.cell (p := ⟨b, _, none⟩) hbB).trans HE1.out
        by_cases hjn : j < N
        · have hjn' : (j : Int) < (N : Int) := by omega
          obtain ⟨v', w', hr, ho', b', hx'⟩ := append_num (a + j) hoj hb.size (by rw [List.length_append, rowS_length]; omega)
          rw [List.append_assoc, ← rowS_snoc] at ho'
          have HR := Lib.hid hr
          have HO := Lib.hid ho'
          have hb' := hb.trans b'
          clear hr ho' hx' hoj b' hb
          go_wp2_with (at_builtin; refine Lib.wpList_append_run _ rfl _ _ _ _ rfl _ _ rfl rfl _ _ HR.out ?_)
          go_roundw
          case rel => exact ⟨j + 1, by omega, by go_num, HO.out, hb'⟩
          case measure => simp [intOf]; omega
        · obtain rfl : j = N := by omega
          go_wp2
          go_roundw
          case rel => exact ⟨k + 1, by omega, by go_num, by rw [HAT.out]; exact hoj, hb⟩
          case measure => simp [intOf]; omega
    · obtain rfl : k = l.length := by omega
      rw [List.take_of_length_le (Nat.le_refl _)] at ho
      have hal := allS_len_take hf l.length hln
      rw [List.take_of_length_le (Nat.le_refl _)] at hal
      have HO := Lib.hid (ho.nums (by omega))
      clear ho
      go_wp2
      go_ret
      exact ⟨_, rfl, HO.out, hb⟩
set_option maxHeartbeats 3200000 in
set_option maxRecDepth 100000 in
theorem same_any (va vb : Value) (l : List Rn) (w : World) (ha : Runs w va l) (hb : Runs w vb l) :
    Calls Try.prog 16 #[va, vb] w fun e w' => e = .returned (.bool true) ∧ Below w.heap.size w w' := by
  obtain ⟨xa, ca, rfl, hca, hca'⟩ := ha.slice
  obtain ⟨xb, cb, rfl, hcb, hcb'⟩ := hb.slice
  go_enter Try.func16, Try.ntmps16
  go_wp2
  go_loopw [5] (fun s5 wr => ∃ k : Nat, k ≤ l.length ∧ s5 = .int .i64 k ∧ Below w.heap.size w wr) (fun s5 _ => l.length - (intOf s5).toNat)
  case atStart => exact ⟨0, by omega, rfl, Below.refl _ _⟩
  case round =>
    obtain ⟨k, hk, rfl, hbw⟩ := hrel
    by_cases hlt : k < l.length
    · obtain ⟨p, o, rfl, hp, -, c0, c1⟩ := (ha.old hbw).at k hlt
      obtain ⟨q, r, rfl, hq, -, d0, d1⟩ := (hb.old hbw).at k hlt
      obtain ⟨xx, hx⟩ : ∃ xx, xx = l[k] := ⟨_, rfl⟩
      rw [← hx] at c0 c1 d0 d1
      obtain ⟨x, m⟩ := xx
      simp only at c0 c1 d0 d1
      clear hx
      go_wp2
      try simp only [Act.put]
      refine wp_region_tab [RT.is (.slice (some ⟨p, o, none⟩) l.length ca), RT.is (.int .i64 ((k : Nat) : Int)), RT.is (.pointer (some ⟨p, o + k * 2, none⟩)), RT.is (.agg #[.int .i64 x, .int .i64 m]), RT.is (.slice (some ⟨q, r, none⟩) l.length cb), RT.is (.int .i64 ((k : Nat) : Int)), RT.is (.pointer (some ⟨q, r + k * 2, none⟩)), RT.is (.agg #[.int .i64 x, .int .i64 m]), RT.is (.bool false)] (by kernel_rfl) (by kernel_rfl) (by kernel_rfl) (by kernel_rfl) ⟨?_, ?_, ?_, ?_, ?_, ?_, ?_, ?_, ?_, trivial⟩ ?_
      · intro ac w' hF hL hP hU K hK
        have hB := below_undrew hL
        have e0 : ac.eval (.tmp 0) = .slice (some ⟨p, o, none⟩) l.length ca := hF.at 0 (by kernel_rfl)
        exact rop_move _ rfl e0 (wanted_none rfl) (hK _ _ (le8_refl _) rfl)
      · intro ac w' hF hL hP hU K hK
        have hB := below_undrew hL
        have e5 : ac.eval (.tmp 5) = .int .i64 ((k : Nat) : Int) := hF.at 5 (by kernel_rfl)
        exact rop_move _ rfl e5 (wanted_none rfl) (hK _ _ (le8_refl _) rfl)
      · intro ac w' hF hL hP hU K hK
        have hB := below_undrew hL
        have e17 : ac.eval (.tmp 17) = .slice (some ⟨p, o, none⟩) l.length ca := hP 0 (by kernel_rfl)
        have e18 : ac.eval (.tmp 18) = .int .i64 ((k : Nat) : Int) := hP 1 (by kernel_rfl)
        exact rop_idx _ _ _ rfl e17 e18 (idx_run p o l.length ca k hlt _) (wanted_none rfl) (hK _ _ (le8_refl _) rfl)
      · intro ac w' hF hL hP hU K hK
        have hB := below_undrew hL
        have e19 : ac.eval (.tmp 19) = .pointer (some ⟨p, o + k * 2, none⟩) := hP 2 (by kernel_rfl)
        exact rop_ld _ _ rfl e19 (load_run ((hB.cell (p := ⟨p, _, none⟩) hp).trans c0) ((hB.cell (p := ⟨p, _, none⟩) hp).trans c1)) (wanted_none rfl) (hK _ _ (le8_refl _) rfl)
      · intro ac w' hF hL hP hU K hK
        have hB := below_undrew hL
        have e1 : ac.eval (.tmp 1) = .slice (some ⟨q, r, none⟩) l.length cb := hF.at 1 (by kernel_rfl)
        exact rop_move _ rfl e1 (wanted_none rfl) (hK _ _ (le8_refl _) rfl)
      · intro ac w' hF hL hP hU K hK
        have hB := below_undrew hL
        have e5 : ac.eval (.tmp 5) = .int .i64 ((k : Nat) : Int) := hF.at 5 (by kernel_rfl)
        exact rop_move _ rfl e5 (wanted_none rfl) (hK _ _ (le8_refl _) rfl)
      · intro ac w' hF hL hP hU K hK
        have hB := below_undrew hL
        have e21 : ac.eval (.tmp 21) = .slice (some ⟨q, r, none⟩) l.length cb := hP 4 (by kernel_rfl)
        have e22 : ac.eval (.tmp 22) = .int .i64 ((k : Nat) : Int) := hP 5 (by kernel_rfl)
        exact rop_idx _ _ _ rfl e21 e22 (idx_run q r l.length cb k hlt _) (wanted_none rfl) (hK _ _ (le8_refl _) rfl)
      · intro ac w' hF hL hP hU K hK
        have hB := below_undrew hL
        have e23 : ac.eval (.tmp 23) = .pointer (some ⟨q, r + k * 2, none⟩) := hP 6 (by kernel_rfl)
        exact rop_ld _ _ rfl e23 (load_run ((hB.cell (p := ⟨q, _, none⟩) hq).trans d0) ((hB.cell (p := ⟨q, _, none⟩) hq).trans d1)) (wanted_none rfl) (hK _ _ (le8_refl _) rfl)
      · intro ac w' hF hL hP hU K hK
        have hB := below_undrew hL
        have e20 : ac.eval (.tmp 20) = .agg #[.int .i64 x, .int .i64 m] := hP 3 (by kernel_rfl)
        have e24 : ac.eval (.tmp 24) = .agg #[.int .i64 x, .int .i64 m] := hP 7 (by kernel_rfl)
        exact rop_bin _ _ _ _ _ rfl e20 e24 (guard_rn _ _ _ _ _ _ _ _) (neq_rn _ _ _) (wanted_none rfl) (hK _ _ (le8_refl _) rfl)
      · intro ac w' hF hB hT
        have e25 : ac.eval (.tmp 25) = .bool false := hT 8 (by decide)
        rw [hF.lit 26 rfl]
        simp only [List.range, List.range.loop, List.map_cons, List.map_nil, e25, hF.at 0 (by kernel_rfl), hF.at 1 (by kernel_rfl), hF.at 2 (by kernel_rfl), hF.at 3 (by kernel_rfl), hF.at 4 (by kernel_rfl), hF.at 5 (by kernel_rfl), hF.at 6 (by kernel_rfl), hF.at 7 (by kernel_rfl), hF.at 8 (by kernel_rfl), hF.at 9 (by kernel_rfl), hF.at 10 (by kernel_rfl), hF.at 11 (by kernel_rfl), hF.at 12 (by kernel_rfl), hF.at 13 (by kernel_rfl), hF.at 14 (by kernel_rfl), hF.at 15 (by kernel_rfl), hF.at 16 (by kernel_rfl)]
        generalize ac.eval (.tmp 17) = u17
        generalize ac.eval (.tmp 18) = u18
        generalize ac.eval (.tmp 19) = u19
        generalize ac.eval (.tmp 20) = u20
        generalize ac.eval (.tmp 21) = u21
        generalize ac.eval (.tmp 22) = u22
        generalize ac.eval (.tmp 23) = u23
        generalize ac.eval (.tmp 24) = u24
        simp only [Act.eval, Array.getD_eq_getD_getElem?, List.getElem?_toArray, List.getElem?_cons_succ, List.getElem?_cons_zero, Option.getD_some]
        clear e25 hT hF ac
        go_wp2
        go_roundw
        case rel => exact ⟨k + 1, by omega, by go_num, below_step hbw (Nat.le_refl _) hB⟩
        case measure => simp [intOf]; omega
    · go_wp2
      go_ret
      exact ⟨rfl, hbw⟩
end Go.Proofs.Ytlbnopfbfnobnaa
