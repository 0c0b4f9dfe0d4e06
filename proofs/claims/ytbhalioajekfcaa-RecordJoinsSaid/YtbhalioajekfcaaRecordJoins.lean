/-
  RecordJoins: the row of two rows, one behind the other, is that of both put together. For every two slices of records (of longer ones the first 12, of longer payloads the first 100 bytes), no condition.
-/
import Derived.Test.YtbhalioajekfcaaRecLoop
namespace Go.Proofs.Ytbhalioajekfcaa.recordJoins
open Go.ChangeShapes Go.WideShapes Go.ChangeAt Go.RowKit

set_option maxHeartbeats 12800000 in
set_option maxRecDepth 100000 in
theorem walk {w : World} (va : Value) (la : List RecR) (ha : RowR w va la) (_ka : ∀ r ∈ la, RecOk r) (vb : Value) (lb : List RecR) (hb : RowR w vb lb) (_kb : ∀ r ∈ lb, RecOk r) :
    Calls Try.prog 7 #[va, vb] w fun e w' => e = .returned (.bool true) ∧ Below w.heap.size w w' := by
  obtain ⟨aa, cap0, rfl⟩ := ha.slice
  obtain ⟨ab, cap1, rfl⟩ := hb.slice
  obtain ⟨n0, hn0⟩ : ∃ n, n = la.length := ⟨_, rfl⟩
  obtain ⟨n1, hn1⟩ : ∃ n, n = lb.length := ⟨_, rfl⟩
  rw [← hn0] at ha ⊢
  rw [← hn1] at hb ⊢
  have HN0 := Lib.hid hn0
  have HN1 := Lib.hid hn1
  have HA := Lib.hid ha
  have HB := Lib.hid hb
  clear _ka _kb hn0 hn1 ha hb
  go_enter Try.func7, Try.ntmps7
  go_upto_region 5 with (go_at_call 8; ((with_reducible refine (awake15_any _).mono ?_); rintro e w1 ⟨rfl, hb1⟩))
  obtain ⟨B, hB⟩ : ∃ B, B = w1.heap.size := ⟨_, rfl⟩
  have HBS := Lib.hid hB
  have HBW := Lib.hid hb1
  clear hB hb1
  go_loopw [7, 8] (fun s7 s8 wr => ∃ (j : Nat) (X : List RecR), j ≤ 12 ∧ s8 = .int .i64 j ∧ OwnR B wr s7 X ∧ X.length = j ∧ (∀ r ∈ X, r.pay.size ≤ 1000) ∧ Below B w1 wr) (fun _ s8 _ => 12 - (intOf s8).toNat)
  case atStart => exact ⟨0, [], by omega, rfl, OwnR.nil _ _, rfl, fun r hr => (by cases hr), Below.refl _ _⟩
  case round =>
    obtain ⟨j, X, hj, rfl, ho, hX, hsm, hb⟩ := hrel
    have HSM := Lib.hid hsm
    have HX := Lib.hid hX
    have hXj : X.length ≤ 12 := by omega
    have HO := Lib.hid ho
    clear hsm hX ho
    go_upto_region 5 with fail
    go_cut [19] (fun sc wx => wr = wx ∧ sc = .bool (decide (j < n0 ∧ j < 12)))
    case first =>
      by_cases hlt : j < n0
      · have hlt' : (j : Int) < (n0 : Int) := by omega
        by_cases h12 : j < 12
        · have h12' : (j : Int) < 12 := by omega
          go_wp2
          go_meet
          case rel => exact ⟨rfl, by simp [hlt, h12]⟩
        · have h12' : ¬ (j : Int) < 12 := by omega
          go_wp2
          go_meet
          case rel => exact ⟨rfl, by simp [h12]⟩
      · have hlt' : ¬ (j : Int) < (n0 : Int) := by omega
        go_wp2
        go_meet
        case rel => exact ⟨rfl, by simp [hlt]⟩
    case rest =>
    obtain ⟨rfl, rfl⟩ := hcut
    by_cases hc : j < n0 ∧ j < 12
    · rw [decide_eq_true hc]
      obtain ⟨hjn, h12⟩ := hc
      have hw1 := IntWalk.i64_in ((j : Int) + 1) (by omega)
      obtain ⟨r, hr⟩ : ∃ r, la[j]? = some r := ⟨la[j]'(by rw [← HN0.out]; exact hjn), List.getElem?_eq_getElem _⟩
      have hBW : B ≤ wr.heap.size := by have := hb.size; have := HBS.out; omega
      obtain ⟨b, off, rfl, hbl0, _, _, c2, c3⟩ := HA.out.at j r hr
      have hbw : Below w.heap.size w wr := HBW.out.trans (hb.mono (by have := HBS.out; have := HBW.out.size; omega))
      replace c2 := (hbw.cell (p := ⟨b, _, none⟩) hbl0).trans c2
      replace c3 := (hbw.cell (p := ⟨b, _, none⟩) hbl0).trans c3
      have hbl : b < B := by have := HBS.out; have := HBW.out.size; omega
      obtain ⟨win, idx, tim, pay⟩ := r
      simp only at c2 c3
      obtain ⟨P, hP⟩ : ∃ P, P = shortB pay 100 := ⟨_, rfl⟩
      have HSH : Hid (∀ u, Calls Try.prog 9 #[.string pay, .int .i64 100] u fun e w' => e = .returned (.string P) ∧ u = w') := Lib.hid fun u => by rw [hP]; exact short15_any pay 100 100 rfl u
      have HPZ : Hid (P.size ≤ 1000) := Lib.hid (by rw [hP]; have := shortB_size pay 100; omega)
      clear hr hP hbw hbl0
      go_upto_region 7 with fail
      try simp only [Act.put]
      refine wp_region_ph (Lx := GLx 2) [RXP.is (u7), RXP.is (.slice (some ⟨b, off, none⟩) n0 cap0), RXP.is (.int .i64 (j : Int)), RXP.is (.pointer (some ⟨b, off + j * 4, none⟩)), RXP.is (.pointer (some ⟨b, off + j * 4 + 2, none⟩)), RXP.is (.int .i64 tim), RXP.is (.slice (some ⟨b, off, none⟩) n0 cap0), RXP.is (.int .i64 (j : Int)), RXP.is (.pointer (some ⟨b, off + j * 4, none⟩)), RXP.is (.pointer (some ⟨b, off + j * 4 + 3, none⟩)), RXP.is (.string pay), RXP.is (.string P), RXP.is (.agg #[.int .i64 0, .int .i64 0, .int .i64 tim, .string P]), RXP.till (fun v w => OwnR 0 w v [⟨0, 0, tim, P⟩]) (fun _ _ _ h k => h.kept k), RXP.behind (fun v w => OwnR B w v (X ++ [⟨0, 0, tim, P⟩])), RXP.behind (fun v w => OwnR B w v (X ++ [⟨0, 0, tim, P⟩]))] [13, 14] (fun k w' => Below B wr w' ∧ (k < 2 → Below wr.heap.size wr w')) (by kernel_rfl) (by kernel_rfl) (by kernel_rfl) (by kernel_rfl) (by kernel_rfl) (⟨below_drew (Below.refl _ _), fun _ => below_drew (Below.refl _ _)⟩) ⟨?_, ?_, ?_, ?_, ?_, ?_, ?_, ?_, ?_, ?_, ?_, ?_, ?_, ?_, ?_, ?_, trivial⟩ ?_
      · intro ac w' ph hF hPh hlt hP hU K hK0
        have e7 : ac.eval (.tmp 7) = u7 := by
          have hu := hU 15 7 (by kernel_rfl) rfl
          simp [Act.eval, hu]
        exact rop_move _ rfl e7 (wanted_none rfl) (hK0 _ _ GLx.same hPh rfl)
      · intro ac w' ph hF hPh hlt hP hU K hK0
        have e0 : ac.eval (.tmp 0) = .slice (some ⟨b, off, none⟩) n0 cap0 := hF.at 0 (by kernel_rfl)
        exact rop_move _ rfl e0 (wanted_none rfl) (hK0 _ _ GLx.same hPh rfl)
      · intro ac w' ph hF hPh hlt hP hU K hK0
        have e8 : ac.eval (.tmp 8) = .int .i64 (j : Int) := hF.at 8 (by kernel_rfl)
        exact rop_move _ rfl e8 (wanted_none rfl) (hK0 _ _ GLx.same hPh rfl)
      · intro ac w' ph hF hPh hlt hP hU K hK0
        have e23 : ac.eval (.tmp 23) = .slice (some ⟨b, off, none⟩) n0 cap0 := hP 1 (by kernel_rfl)
        have e24 : ac.eval (.tmp 24) = .int .i64 (j : Int) := hP 2 (by kernel_rfl)
        exact rop_idx _ _ _ rfl e23 e24 (index_rec b off n0 cap0 j hjn w') (wanted_none rfl) (hK0 _ _ GLx.same hPh rfl)
      · intro ac w' ph hF hPh hlt hP hU K hK0
        have e25 : ac.eval (.tmp 25) = .pointer (some ⟨b, off + j * 4, none⟩) := hP 3 (by kernel_rfl)
        exact rop_fld _ _ _ rfl e25 ((recFld b (off + j * 4) _).2.2.1) (wanted_none rfl) (hK0 _ _ GLx.same hPh rfl)
      · intro ac w' ph hF hPh hlt hP hU K hK0
        have e26 : ac.eval (.tmp 26) = .pointer (some ⟨b, off + j * 4 + 2, none⟩) := hP 4 (by kernel_rfl)
        exact rop_ld _ _ rfl e26 (load_intR ((hPh.1.cell (p := ⟨b, _, none⟩) hbl).trans c2)) (wanted_none rfl) (hK0 _ _ GLx.same hPh rfl)
      · intro ac w' ph hF hPh hlt hP hU K hK0
        have e0 : ac.eval (.tmp 0) = .slice (some ⟨b, off, none⟩) n0 cap0 := hF.at 0 (by kernel_rfl)
        exact rop_move _ rfl e0 (wanted_none rfl) (hK0 _ _ GLx.same hPh rfl)
      · intro ac w' ph hF hPh hlt hP hU K hK0
        have e8 : ac.eval (.tmp 8) = .int .i64 (j : Int) := hF.at 8 (by kernel_rfl)
        exact rop_move _ rfl e8 (wanted_none rfl) (hK0 _ _ GLx.same hPh rfl)
      · intro ac w' ph hF hPh hlt hP hU K hK0
        have e28 : ac.eval (.tmp 28) = .slice (some ⟨b, off, none⟩) n0 cap0 := hP 6 (by kernel_rfl)
        have e29 : ac.eval (.tmp 29) = .int .i64 (j : Int) := hP 7 (by kernel_rfl)
        exact rop_idx _ _ _ rfl e28 e29 (index_rec b off n0 cap0 j hjn w') (wanted_none rfl) (hK0 _ _ GLx.same hPh rfl)
      · intro ac w' ph hF hPh hlt hP hU K hK0
        have e30 : ac.eval (.tmp 30) = .pointer (some ⟨b, off + j * 4, none⟩) := hP 8 (by kernel_rfl)
        exact rop_fld _ _ _ rfl e30 ((recFld b (off + j * 4) _).2.2.2) (wanted_none rfl) (hK0 _ _ GLx.same hPh rfl)
      · intro ac w' ph hF hPh hlt hP hU K hK0
        have e31 : ac.eval (.tmp 31) = .pointer (some ⟨b, off + j * 4 + 3, none⟩) := hP 9 (by kernel_rfl)
        exact rop_ld _ _ rfl e31 (load_strR ((hPh.1.cell (p := ⟨b, _, none⟩) hbl).trans c3)) (wanted_none rfl) (hK0 _ _ GLx.same hPh rfl)
      · intro ac w' ph hF hPh hlt hP hU K hK0
        have e32 : ac.eval (.tmp 32) = .string pay := hP 10 (by kernel_rfl)
        refine rop_call 9 _ _ rfl #[.string pay, .int .i64 100] (by simp [e32, eval_const]) (by kernel_rfl) (wanted_none rfl) ?_
        refine (HSH.out w').mono ?_
        rintro e w2 ⟨rfl, rfl⟩
        exact ⟨_, rfl, hK0 _ _ GLx.same hPh rfl⟩
      · intro ac w' ph hF hPh hlt hP hU K hK0
        have e27 : ac.eval (.tmp 27) = .int .i64 tim := hP 5 (by kernel_rfl)
        have e33 : ac.eval (.tmp 33) = .string P := hP 11 (by kernel_rfl)
        exact rop_buildR _ _ rfl _ (by simp [e27, e33]) (built_rec2 tim P) (wanted_none rfl) (hK0 _ _ GLx.same hPh rfl)
      · intro ac w' ph hF hPh hlt hP hU K hK0
        obtain rfl : ph = 0 := (hlt 0 13 rfl).1 rfl
        have e34 : ac.eval (.tmp 34) = .agg #[.int .i64 0, .int .i64 0, .int .i64 tim, .string P] := hP 12 (by kernel_rfl)
        have hB : Below wr.heap.size wr w' := hPh.2 (by omega)
        have hb2 := below_step hB (Nat.le_refl _) (below_box' w' (.cells #[.int .i64 0, .int .i64 0, .int .i64 tim, .string P] 25))
        exact rop_bslG _ _ _ rfl #[(0, .agg #[.int .i64 0, .int .i64 0, .int .i64 tim, .string P])] (by simp [e34]) (build_rec1 0 0 tim P w') (wanted_none rfl) (hK0 _ _ (GLx.old (by decide) (below_box' _ _)) ⟨hb2.mono hBW, fun _ => hb2⟩ (fun _ => OwnR.one w' ⟨0, 0, tim, P⟩))
      · intro ac w' ph hF hPh hlt hP hU K hK0
        obtain rfl : ph = 1 := (hlt 1 14 rfl).1 rfl
        have e22 : ac.eval (.tmp 22) = u7 := hP 0 (by kernel_rfl)
        have e35 : 1 < 2 → OwnR 0 w' (ac.eval (.tmp 35)) [⟨0, 0, tim, P⟩] := hP 13 (by kernel_rfl)
        have hB : Below wr.heap.size wr w' := hPh.2 (by omega)
        obtain ⟨v6, w6, hr6, ho6, b6, _⟩ := rappend_row (B := B) 29 (HO.out.kept hB) (e35 (by decide)) (Nat.le_trans hBW hB.size) (by simp; omega)
        exact rop_appendG _ _ _ rfl e22 rfl hr6 (wanted_none rfl) (hK0 _ _ (GLx.last rfl) ⟨(hB.mono hBW).trans b6, fun h => absurd h (by decide)⟩ ⟨rfl, ho6⟩)
      · intro ac w' ph hF hPh hlt hP hU K hK0
        have e36 : ph = 2 ∧ OwnR B w' (ac.eval (.tmp 36)) (X ++ [⟨0, 0, tim, P⟩]) := hP 14 (by kernel_rfl)
        exact rop_assign _ rfl rfl (wanted_none rfl) (hK0 _ _ GLx.same hPh e36)
      · intro ac w' hF hPh hT
        have e7 : 2 = 2 ∧ OwnR B w' (ac.eval (.tmp 7)) (X ++ [⟨0, 0, tim, P⟩]) := hT 15 (by decide)
        rw [hF.setsG [22, 23, 24, 25, 26, 27, 28, 29, 30, 31, 32, 33, 34, 35, 36, 7] (by kernel_rfl)]
        simp only [List.foldl_cons, List.foldl_nil, List.setIfInBounds_toArray, List.set_cons_succ, List.set_cons_zero]
        generalize ac.eval (.tmp 22) = u22
        generalize ac.eval (.tmp 23) = u23
        generalize ac.eval (.tmp 24) = u24
        generalize ac.eval (.tmp 25) = u25
        generalize ac.eval (.tmp 26) = u26
        generalize ac.eval (.tmp 27) = u27
        generalize ac.eval (.tmp 28) = u28
        generalize ac.eval (.tmp 29) = u29
        generalize ac.eval (.tmp 30) = u30
        generalize ac.eval (.tmp 31) = u31
        generalize ac.eval (.tmp 32) = u32
        generalize ac.eval (.tmp 33) = u33
        generalize ac.eval (.tmp 34) = u34
        generalize ac.eval (.tmp 35) = u35
        generalize ac.eval (.tmp 36) = u36
        generalize ac.eval (.tmp 7) = v7 at e7 ⊢
        clear  hT hF ac
        have ho2 := e7.2
        have hbn := hPh.1
        clear hPh e7 c2 c3
        go_wp2
        go_roundw
        case rel => exact ⟨j + 1, X ++ [⟨0, 0, tim, P⟩], by omega, by go_num, ho2, by rw [List.length_append, HX.out]; rfl, (fun r hr => (List.mem_append.1 hr).elim (fun h => HSM.out r h) (fun h => by simp at h; subst h; exact HPZ.out)), hb.trans hbn⟩
        case measure => simp [intOf]; omega
    · rw [decide_eq_false hc]
      have hx1 : ∃ X1 : List RecR, OwnR B wr u7 X1 ∧ X1.length ≤ 12 ∧ ∀ r ∈ X1, r.pay.size ≤ 1000 := ⟨X, HO.out, hXj, HSM.out⟩
      have H1 := Lib.hid hx1
      have hbw2 : Below w.heap.size w wr := HBW.out.trans (hb.mono (by have := HBS.out; have := HBW.out.size; omega))
      obtain ⟨W2, hW2⟩ : ∃ u, u = wr := ⟨_, rfl⟩
      rw [← hW2] at hbw2 H1
      obtain ⟨B2, hB2⟩ : ∃ B, B = W2.heap.size := ⟨_, rfl⟩
      have HBS2 := Lib.hid hB2
      have HBW2 := Lib.hid hbw2
      clear HO HX HSM hx1 hb hXj hc hbw2 hB2 HBW
      go_upto_region 10 with fail
      rw [← hW2]
      clear hW2
      go_loopw [9, 10] (fun s9 s10 wr => ∃ (j : Nat) (X : List RecR), j ≤ 12 ∧ s10 = .int .i64 j ∧ OwnR B2 wr s9 X ∧ X.length = j ∧ (∀ r ∈ X, r.pay.size ≤ 1000) ∧ Below B2 W2 wr) (fun _ s10 _ => 12 - (intOf s10).toNat)
      case atStart => exact ⟨0, [], by omega, rfl, OwnR.nil _ _, rfl, fun r hr => (by cases hr), Below.refl _ _⟩
      case round =>
        obtain ⟨j, X, hj, rfl, ho, hX, hsm, hb⟩ := hrel
        have HSM := Lib.hid hsm
        have HX := Lib.hid hX
        have hXj : X.length ≤ 12 := by omega
        have HO := Lib.hid ho
        clear hsm hX ho
        go_upto_region 10 with fail
        go_cut [44] (fun sc wx => wr = wx ∧ sc = .bool (decide (j < n1 ∧ j < 12)))
        case first =>
          by_cases hlt : j < n1
          · have hlt' : (j : Int) < (n1 : Int) := by omega
            by_cases h12 : j < 12
            · have h12' : (j : Int) < 12 := by omega
              go_wp2
              go_meet
              case rel => exact ⟨rfl, by simp [hlt, h12]⟩
            · have h12' : ¬ (j : Int) < 12 := by omega
              go_wp2
              go_meet
              case rel => exact ⟨rfl, by simp [h12]⟩
          · have hlt' : ¬ (j : Int) < (n1 : Int) := by omega
            go_wp2
            go_meet
            case rel => exact ⟨rfl, by simp [hlt]⟩
        case rest =>
        obtain ⟨rfl, rfl⟩ := hcut
        by_cases hc : j < n1 ∧ j < 12
        · rw [decide_eq_true hc]
          obtain ⟨hjn, h12⟩ := hc
          have hw1 := IntWalk.i64_in ((j : Int) + 1) (by omega)
          obtain ⟨r, hr⟩ : ∃ r, lb[j]? = some r := ⟨lb[j]'(by rw [← HN1.out]; exact hjn), List.getElem?_eq_getElem _⟩
          have hBW : B2 ≤ wr.heap.size := by have := hb.size; have := HBS2.out; omega
          obtain ⟨b, off, rfl, hbl0, _, _, c2, c3⟩ := HB.out.at j r hr
          have hbw : Below w.heap.size w wr := HBW2.out.trans (hb.mono (by have := HBS2.out; have := HBW2.out.size; omega))
          replace c2 := (hbw.cell (p := ⟨b, _, none⟩) hbl0).trans c2
          replace c3 := (hbw.cell (p := ⟨b, _, none⟩) hbl0).trans c3
          have hbl : b < B2 := by have := HBS2.out; have := HBW2.out.size; omega
          obtain ⟨win, idx, tim, pay⟩ := r
          simp only at c2 c3
          obtain ⟨P, hP⟩ : ∃ P, P = shortB pay 100 := ⟨_, rfl⟩
          have HSH : Hid (∀ u, Calls Try.prog 9 #[.string pay, .int .i64 100] u fun e w' => e = .returned (.string P) ∧ u = w') := Lib.hid fun u => by rw [hP]; exact short15_any pay 100 100 rfl u
          have HPZ : Hid (P.size ≤ 1000) := Lib.hid (by rw [hP]; have := shortB_size pay 100; omega)
          clear hr hP hbw hbl0
          go_upto_region 12 with fail
          try simp only [Act.put]
          refine wp_region_ph (Lx := GLx 2) [RXP.is (u9), RXP.is (.slice (some ⟨b, off, none⟩) n1 cap1), RXP.is (.int .i64 (j : Int)), RXP.is (.pointer (some ⟨b, off + j * 4, none⟩)), RXP.is (.pointer (some ⟨b, off + j * 4 + 2, none⟩)), RXP.is (.int .i64 tim), RXP.is (.slice (some ⟨b, off, none⟩) n1 cap1), RXP.is (.int .i64 (j : Int)), RXP.is (.pointer (some ⟨b, off + j * 4, none⟩)), RXP.is (.pointer (some ⟨b, off + j * 4 + 3, none⟩)), RXP.is (.string pay), RXP.is (.string P), RXP.is (.agg #[.int .i64 0, .int .i64 0, .int .i64 tim, .string P]), RXP.till (fun v w => OwnR 0 w v [⟨0, 0, tim, P⟩]) (fun _ _ _ h k => h.kept k), RXP.behind (fun v w => OwnR B2 w v (X ++ [⟨0, 0, tim, P⟩])), RXP.behind (fun v w => OwnR B2 w v (X ++ [⟨0, 0, tim, P⟩]))] [13, 14] (fun k w' => Below B2 wr w' ∧ (k < 2 → Below wr.heap.size wr w')) (by kernel_rfl) (by kernel_rfl) (by kernel_rfl) (by kernel_rfl) (by kernel_rfl) (⟨below_drew (Below.refl _ _), fun _ => below_drew (Below.refl _ _)⟩) ⟨?_, ?_, ?_, ?_, ?_, ?_, ?_, ?_, ?_, ?_, ?_, ?_, ?_, ?_, ?_, ?_, trivial⟩ ?_
          · intro ac w' ph hF hPh hlt hP hU K hK0
            have e9 : ac.eval (.tmp 9) = u9 := by
              have hu := hU 15 9 (by kernel_rfl) rfl
              simp [Act.eval, hu]
            exact rop_move _ rfl e9 (wanted_none rfl) (hK0 _ _ GLx.same hPh rfl)
          · intro ac w' ph hF hPh hlt hP hU K hK0
            have e1 : ac.eval (.tmp 1) = .slice (some ⟨b, off, none⟩) n1 cap1 := hF.at 1 (by kernel_rfl)
            exact rop_move _ rfl e1 (wanted_none rfl) (hK0 _ _ GLx.same hPh rfl)
          · intro ac w' ph hF hPh hlt hP hU K hK0
            have e10 : ac.eval (.tmp 10) = .int .i64 (j : Int) := hF.at 10 (by kernel_rfl)
            exact rop_move _ rfl e10 (wanted_none rfl) (hK0 _ _ GLx.same hPh rfl)
          · intro ac w' ph hF hPh hlt hP hU K hK0
            have e48 : ac.eval (.tmp 48) = .slice (some ⟨b, off, none⟩) n1 cap1 := hP 1 (by kernel_rfl)
            have e49 : ac.eval (.tmp 49) = .int .i64 (j : Int) := hP 2 (by kernel_rfl)
            exact rop_idx _ _ _ rfl e48 e49 (index_rec b off n1 cap1 j hjn w') (wanted_none rfl) (hK0 _ _ GLx.same hPh rfl)
          · intro ac w' ph hF hPh hlt hP hU K hK0
            have e50 : ac.eval (.tmp 50) = .pointer (some ⟨b, off + j * 4, none⟩) := hP 3 (by kernel_rfl)
            exact rop_fld _ _ _ rfl e50 ((recFld b (off + j * 4) _).2.2.1) (wanted_none rfl) (hK0 _ _ GLx.same hPh rfl)
          · intro ac w' ph hF hPh hlt hP hU K hK0
            have e51 : ac.eval (.tmp 51) = .pointer (some ⟨b, off + j * 4 + 2, none⟩) := hP 4 (by kernel_rfl)
            exact rop_ld _ _ rfl e51 (load_intR ((hPh.1.cell (p := ⟨b, _, none⟩) hbl).trans c2)) (wanted_none rfl) (hK0 _ _ GLx.same hPh rfl)
          · intro ac w' ph hF hPh hlt hP hU K hK0
            have e1 : ac.eval (.tmp 1) = .slice (some ⟨b, off, none⟩) n1 cap1 := hF.at 1 (by kernel_rfl)
            exact rop_move _ rfl e1 (wanted_none rfl) (hK0 _ _ GLx.same hPh rfl)
          · intro ac w' ph hF hPh hlt hP hU K hK0
            have e10 : ac.eval (.tmp 10) = .int .i64 (j : Int) := hF.at 10 (by kernel_rfl)
            exact rop_move _ rfl e10 (wanted_none rfl) (hK0 _ _ GLx.same hPh rfl)
          · intro ac w' ph hF hPh hlt hP hU K hK0
            have e53 : ac.eval (.tmp 53) = .slice (some ⟨b, off, none⟩) n1 cap1 := hP 6 (by kernel_rfl)
            have e54 : ac.eval (.tmp 54) = .int .i64 (j : Int) := hP 7 (by kernel_rfl)
            exact rop_idx _ _ _ rfl e53 e54 (index_rec b off n1 cap1 j hjn w') (wanted_none rfl) (hK0 _ _ GLx.same hPh rfl)
          · intro ac w' ph hF hPh hlt hP hU K hK0
            have e55 : ac.eval (.tmp 55) = .pointer (some ⟨b, off + j * 4, none⟩) := hP 8 (by kernel_rfl)
            exact rop_fld _ _ _ rfl e55 ((recFld b (off + j * 4) _).2.2.2) (wanted_none rfl) (hK0 _ _ GLx.same hPh rfl)
          · intro ac w' ph hF hPh hlt hP hU K hK0
            have e56 : ac.eval (.tmp 56) = .pointer (some ⟨b, off + j * 4 + 3, none⟩) := hP 9 (by kernel_rfl)
            exact rop_ld _ _ rfl e56 (load_strR ((hPh.1.cell (p := ⟨b, _, none⟩) hbl).trans c3)) (wanted_none rfl) (hK0 _ _ GLx.same hPh rfl)
          · intro ac w' ph hF hPh hlt hP hU K hK0
            have e57 : ac.eval (.tmp 57) = .string pay := hP 10 (by kernel_rfl)
            refine rop_call 9 _ _ rfl #[.string pay, .int .i64 100] (by simp [e57, eval_const]) (by kernel_rfl) (wanted_none rfl) ?_
            refine (HSH.out w').mono ?_
            rintro e w2 ⟨rfl, rfl⟩
            exact ⟨_, rfl, hK0 _ _ GLx.same hPh rfl⟩
          · intro ac w' ph hF hPh hlt hP hU K hK0
            have e52 : ac.eval (.tmp 52) = .int .i64 tim := hP 5 (by kernel_rfl)
            have e58 : ac.eval (.tmp 58) = .string P := hP 11 (by kernel_rfl)
            exact rop_buildR _ _ rfl _ (by simp [e52, e58]) (built_rec2 tim P) (wanted_none rfl) (hK0 _ _ GLx.same hPh rfl)
          · intro ac w' ph hF hPh hlt hP hU K hK0
            obtain rfl : ph = 0 := (hlt 0 13 rfl).1 rfl
            have e59 : ac.eval (.tmp 59) = .agg #[.int .i64 0, .int .i64 0, .int .i64 tim, .string P] := hP 12 (by kernel_rfl)
            have hB : Below wr.heap.size wr w' := hPh.2 (by omega)
            have hb2 := below_step hB (Nat.le_refl _) (below_box' w' (.cells #[.int .i64 0, .int .i64 0, .int .i64 tim, .string P] 25))
            exact rop_bslG _ _ _ rfl #[(0, .agg #[.int .i64 0, .int .i64 0, .int .i64 tim, .string P])] (by simp [e59]) (build_rec1 0 0 tim P w') (wanted_none rfl) (hK0 _ _ (GLx.old (by decide) (below_box' _ _)) ⟨hb2.mono hBW, fun _ => hb2⟩ (fun _ => OwnR.one w' ⟨0, 0, tim, P⟩))
          · intro ac w' ph hF hPh hlt hP hU K hK0
            obtain rfl : ph = 1 := (hlt 1 14 rfl).1 rfl
            have e47 : ac.eval (.tmp 47) = u9 := hP 0 (by kernel_rfl)
            have e60 : 1 < 2 → OwnR 0 w' (ac.eval (.tmp 60)) [⟨0, 0, tim, P⟩] := hP 13 (by kernel_rfl)
            have hB : Below wr.heap.size wr w' := hPh.2 (by omega)
            obtain ⟨v6, w6, hr6, ho6, b6, _⟩ := rappend_row (B := B2) 29 (HO.out.kept hB) (e60 (by decide)) (Nat.le_trans hBW hB.size) (by simp; omega)
            exact rop_appendG _ _ _ rfl e47 rfl hr6 (wanted_none rfl) (hK0 _ _ (GLx.last rfl) ⟨(hB.mono hBW).trans b6, fun h => absurd h (by decide)⟩ ⟨rfl, ho6⟩)
          · intro ac w' ph hF hPh hlt hP hU K hK0
            have e61 : ph = 2 ∧ OwnR B2 w' (ac.eval (.tmp 61)) (X ++ [⟨0, 0, tim, P⟩]) := hP 14 (by kernel_rfl)
            exact rop_assign _ rfl rfl (wanted_none rfl) (hK0 _ _ GLx.same hPh e61)
          · intro ac w' hF hPh hT
            have e9 : 2 = 2 ∧ OwnR B2 w' (ac.eval (.tmp 9)) (X ++ [⟨0, 0, tim, P⟩]) := hT 15 (by decide)
            rw [hF.setsG [47, 48, 49, 50, 51, 52, 53, 54, 55, 56, 57, 58, 59, 60, 61, 9] (by kernel_rfl)]
            simp only [List.foldl_cons, List.foldl_nil, List.setIfInBounds_toArray, List.set_cons_succ, List.set_cons_zero]
            generalize ac.eval (.tmp 47) = u47
            generalize ac.eval (.tmp 48) = u48
            generalize ac.eval (.tmp 49) = u49
            generalize ac.eval (.tmp 50) = u50
            generalize ac.eval (.tmp 51) = u51
            generalize ac.eval (.tmp 52) = u52
            generalize ac.eval (.tmp 53) = u53
            generalize ac.eval (.tmp 54) = u54
            generalize ac.eval (.tmp 55) = u55
            generalize ac.eval (.tmp 56) = u56
            generalize ac.eval (.tmp 57) = u57
            generalize ac.eval (.tmp 58) = u58
            generalize ac.eval (.tmp 59) = u59
            generalize ac.eval (.tmp 60) = u60
            generalize ac.eval (.tmp 61) = u61
            generalize ac.eval (.tmp 9) = v9 at e9 ⊢
            clear  hT hF ac
            have ho2 := e9.2
            have hbn := hPh.1
            clear hPh e9 c2 c3
            go_wp2
            go_roundw
            case rel => exact ⟨j + 1, X ++ [⟨0, 0, tim, P⟩], by omega, by go_num, ho2, by rw [List.length_append, HX.out]; rfl, (fun r hr => (List.mem_append.1 hr).elim (fun h => HSM.out r h) (fun h => by simp at h; subst h; exact HPZ.out)), hb.trans hbn⟩
            case measure => simp [intOf]; omega
        · rw [decide_eq_false hc]
          have hx2 : ∃ Y : List RecR, OwnR B2 wr u9 Y ∧ Y.length ≤ 12 ∧ ∀ r ∈ Y, r.pay.size ≤ 1000 := ⟨X, HO.out, hXj, HSM.out⟩
          obtain ⟨Y, hoy, hyl, hys⟩ := hx2
          obtain ⟨X1, hox, hxl, hxs⟩ := H1.out
          replace hox := hox.kept (w' := wr) (by have := HBS2.out; rw [← this]; exact hb)
          have hbw3 : Below w.heap.size w wr := HBW2.out.trans (hb.mono (by have := HBS2.out; have := HBW2.out.size; omega))
          obtain ⟨v4, w4, r4, o4, b4, -⟩ := rappend_row (B := wr.heap.size) 29 (OwnR.nil _ wr) hox (Nat.le_refl _) (by rw [List.length_nil]; omega)
          rw [List.nil_append] at o4
          have hoy4 := hoy.kept b4
          have hox4 := hox.kept b4
          obtain ⟨v5, w5, r5, o5, b5, -⟩ := rappend_row (B := wr.heap.size) 29 o4 hoy4 b4.size (by omega)
          have b45 := b4.trans b5
          have rx := (hox.kept b45).row
          have ry := (hoy.kept b45).row
          have rz := o5.row
          have hbw5 := below_step hbw3 (Nat.le_refl _) b45
          have hxys : ∀ r ∈ X1 ++ Y, r.pay.size ≤ 1000 := fun r hr => (List.mem_append.1 hr).elim (hxs r) (hys r)
          have l1 := rowsL_length X1 hxs
          have l2 := rowsL_length Y hys
          obtain ⟨S1, hS1⟩ : ∃ S : ByteArray, S = ⟨(rowsL X1).toArray⟩ := ⟨_, rfl⟩
          obtain ⟨S2, hS2⟩ : ∃ S : ByteArray, S = ⟨(rowsL Y).toArray⟩ := ⟨_, rfl⟩
          obtain ⟨S3, hS3⟩ : ∃ S : ByteArray, S = ⟨(rowsL (X1 ++ Y)).toArray⟩ := ⟨_, rfl⟩
          have z1 : S1.size ≤ 13000 := by rw [hS1, ByteArray.size, List.size_toArray]; omega
          have z2 : S2.size ≤ 13000 := by rw [hS2, ByteArray.size, List.size_toArray]; omega
          have hS : S3 = S1 ++ S2 := by rw [hS1, hS2, hS3, app_list, rowsL_append]
          have qx : ∀ u, Below w5.heap.size w5 u → Calls Try.prog 17 #[u7] u fun e w' => e = .returned (.string S1) ∧ Below u.heap.size u w' := fun u hu => by rw [hS1]; exact row_any _ X1 u (rx.old hu) (by omega) hxs
          have qy : ∀ u, Below w5.heap.size w5 u → Calls Try.prog 17 #[u9] u fun e w' => e = .returned (.string S2) ∧ Below u.heap.size u w' := fun u hu => by rw [hS2]; exact row_any _ Y u (ry.old hu) (by omega) hys
          have qz : ∀ u, Below w5.heap.size w5 u → Calls Try.prog 17 #[v5] u fun e w' => e = .returned (.string S3) ∧ Below u.heap.size u w' := fun u hu => by rw [hS3]; exact row_any _ (X1 ++ Y) u (rz.old hu) (by simp; omega) hxys
          have qn : ∀ u, Calls Try.prog 17 #[.slice none 0 0] u fun e w' => e = .returned (.string ⟨#[]⟩) ∧ Below u.heap.size u w' := fun u => row_any _ [] u (RowR.nil u) (by simp) (fun r hr => by cases hr)
          have hto : S3.toList = (S1 ++ S2).toList := by rw [hS]
          have R4 := Lib.hid r4
          have R5 := Lib.hid r5
          have QX := Lib.hid qx
          have QY := Lib.hid qy
          have QZ := Lib.hid qz
          have QN := Lib.hid qn
          have HW5 := Lib.hid hbw5
          clear H1 HO HX HSM hb hXj hc hbw3 hoy hyl hys hox hxl hxs r4 o4 b4 hoy4 hox4 r5 o5 b5 b45 rx ry rz hbw5 hxys l1 l2 hS1 hS2 hS3 hS qx qy qz qn HBS HBS2 HBW2 HA HB HN0 HN1
          go_upto_region 14 with (at_builtin; refine wpList_append_run rfl _ _ _ rfl rfl rfl R4.out ?_)
          go_upto_region 15 with (at_builtin; refine wpList_append_run rfl _ _ _ rfl rfl rfl R5.out ?_)
          go_wp2_with (first
            | (go_at_call 17; ((with_reducible refine (QZ.out _ (Below.refl _ _)).mono ?_); rintro e w6 ⟨rfl, b6⟩))
            | (go_at_call 17; ((with_reducible refine (QX.out _ b6).mono ?_); rintro e w7 ⟨rfl, b7⟩; have b67 := below_step b6 (Nat.le_refl _) b7))
            | (go_at_call 17; ((with_reducible refine (QY.out _ b67).mono ?_); rintro e w8 ⟨rfl, b8⟩; have b68 := below_step b67 (Nat.le_refl _) b8))
            | (go_at_call 17; ((with_reducible refine (QN.out _).mono ?_); rintro e w9 ⟨rfl, b9⟩; have b69 := below_step b68 (Nat.le_refl _) b9)))
          go_ret
          exact ⟨by simp, below_step HW5.out (Nat.le_refl _) b69⟩

set_option maxRecDepth 100000 in
theorem lifted (os : Os) (started : os.Started) (H : Type) (enc : TypeId × Value → H) :
    ReturnsInHanded {} Try.checked os 7 .any (Rows.recordJoinsSpec.pre6 enc Try.prog Try.f7 Rows.recordJoinsRow.domain false) (Rows.recordJoinsSpec.post enc Try.prog Try.f7 false true false false) := by
  refine returnsInHanded_of_change (C := Try.checked) lawOwn started (by kernel_rfl) Try.func7
    (ChangeSpec.witness6 (enc := enc) (C := Try.checked) false ⟨#[], #[.slice none 0 0, .slice none 0 0], []⟩ 8 (by kernel_rfl) (by kernel_rfl) (by kernel_rfl) (by kernel_rfl)) ?_
  intro W base args ds gs before hval0 hW hcnd _
  have hval : ∀ (j : Nat) t v, Try.f7.params[j]? = some t → args[j]? = some v → Value.okWide Try.prog W .any base t v := hval0
  have hW' := hW
  obtain ⟨p, q, hA0, hV, rfl, hfz, hnd⟩ := hW
  have hA : DataW.TrodAll enc Try.prog W 0 (fun _ => true) true Try.f7.params.toList args.toList ds p := hA0
  rw [Try.params7] at hA hval
  obtain ⟨v0, vs0, d0, ds0, p0, q0, hargs, rfl, rfl, h0, r0⟩ := trodAll_cons hA
  obtain ⟨v1, vs1, d1, ds1, p1, q1, rfl, rfl, rfl, h1, r1⟩ := trodAll_cons r0
  obtain ⟨rfl, rfl, rfl⟩ := trodAll_nil r1
  obtain rfl : args = #[v0, v1] := by cases args; simp_all
  obtain ⟨rfl, rfl⟩ := trodVars_none hV
  obtain ⟨a0, len0, cap0, rfl⟩ := okWide_slice Try.underlying29 (hval 0 29 v0 rfl rfl)
  obtain ⟨l0, w0, k0⟩ := recs_of h0
  obtain ⟨a1, len1, cap1, rfl⟩ := okWide_slice Try.underlying29 (hval 1 29 v1 rfl rfl)
  obtain ⟨l1, w1, k1⟩ := recs_of h1
  clear hA0 hval0 hcnd
  refine (walk (w := W) _ l0 w0 k0 _ l1 w1 k1).mono fun e W' ⟨he, bel⟩ => ?_
  subst he
  exact ⟨_, rfl, law_post rfl rfl (by kernel_rfl) hW' rfl bel⟩

theorem holds : Rows.RecordJoinsSaid :=
  OpenClaim.holds_of_wide 7 Try.f7 rfl rfl rfl rfl rfl rfl rfl ⟨rfl, rfl, rfl, rfl, rfl⟩ rfl rfl rfl rfl rfl (by kernel_rfl) Try.func7 (by kernel_rfl)
    (of_decide_eq_true (by kernel_rfl)) (by unfold Func.isWrapper; first | (rw [if_pos (by decide +kernel)]; kernel_rfl) | (rw [if_neg (by decide +kernel)]; exact ⟨rfl, rfl⟩))
    (fun os started H enc _ => lifted os started H enc)
end Go.Proofs.Ytbhalioajekfcaa.recordJoins

theorem Go.Proofs.Ytbhalioajekfcaa.recordJoins_holds : Go.Proofs.Ytbhalioajekfcaa.Rows.RecordJoinsSaid := Go.Proofs.Ytbhalioajekfcaa.recordJoins.holds
#print axioms Go.Proofs.Ytbhalioajekfcaa.recordJoins_holds
