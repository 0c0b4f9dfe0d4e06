/-
  RecordRows: rows are written as the document says; of records that may be they are read again. For every slice of records (of a longer one the first 20, of longer payloads the first 100 bytes) and every window, no condition.
-/
import Derived.Test.YtbhalioajekfcaaRecLoop
namespace Go.Proofs.Ytbhalioajekfcaa.recordRows
open Go.ChangeShapes Go.WideShapes Go.ChangeAt Go.RowKit

section
variable {ops : Array Oper} {Q : Exit → Act → World → Prop} {a : Act} {w w' : World} {K : Act → World → Prop} {o : Oper}
theorem rop_allocR (t : TypeId) (hop : o.op = .alloc t) {v : Value} (hr : (Instr.alloc t true (.tuple #[])).run Try.prog w = .ok v w') (hw : Region.wanted o (yielded ops a.tmps) = true) (h : K (a.put o.dst v) w') :
    if Region.wanted o (yielded ops a.tmps) = true then Oper.wp Try.prog o a w K Q else K (a.put o.dst undef) w := by
  rw [if_pos hw]
  unfold Oper.wp
  simp [execOp, hop, hr]
  exact h
end
theorem alloc_rec (u : World) : (Instr.alloc 25 true (.tuple #[])).run Try.prog u = .ok (.pointer (some ⟨u.heap.size, 0, none⟩)) (u.alloc (.cells #[.int .i64 0, .int .i64 0, .int .i64 0, .string ⟨#[]⟩] 25)) := by go_simp
theorem rec_there {q : Nat} {w : World} {a b c : Int} {s : ByteArray} (h : RecAt q a b c s w) : w.there q 0 4 := there_of (l := [.int .i64 a, .int .i64 b, .int .i64 c, .string s]) h (by simp)
theorem rec_info : (Try.prog.info? 25).map (·.size) = some 4 := by kernel_rfl
theorem store_rec {q : Nat} {w : World} {a b c : Int} {s : ByteArray} (h : RecAt q a b c s w) (x y z : Int) (t : ByteArray) : (Instr.storeAt 25 (.pointer (some ⟨q, 0, none⟩)) (.agg #[.int .i64 x, .int .i64 y, .int .i64 z, .string t])).run Try.prog w = .ok () (w.setCells q 0 [.int .i64 x, .int .i64 y, .int .i64 z, .string t]) :=
  run_storeAt_mid w q 0 _ #[.int .i64 x, .int .i64 y, .int .i64 z, .string t] (rec_there h) rec_info (by simp; first | rfl | exact ⟨rfl, rfl, rfl, rfl⟩)
theorem set_rec {q : Nat} {w : World} {a b c : Int} {s : ByteArray} (h : RecAt q a b c s w) (x y z : Int) (t : ByteArray) : RecAt q x y z t (w.setCells q 0 [.int .i64 x, .int .i64 y, .int .i64 z, .string t]) := by
  have := heap_setCells q 25 [.int .i64 x, .int .i64 y, .int .i64 z, .string t] 0 [.int .i64 a, .int .i64 b, .int .i64 c, .string s] w (by simp) h
  simpa [RecAt] using this
/-- All of them may be. -/
def AllMay (win : Int) (M : List RecR) : Prop := ∀ (k : Nat) (r : RecR), M[k]? = some r → r.win = win ∧ r.idx = ((0 + k : Nat) : Int) ∧ chkZ r.win r.idx r.tim r.pay = 0
theorem AllMay.snoc {win : Int} {M : List RecR} (h : AllMay win M) (tim : Int) (P : ByteArray) (hc : chkZ win (M.length : Int) tim P = 0) : AllMay win (M ++ [⟨win, M.length, tim, P⟩]) := by
  intro k r hr
  by_cases hk : k < M.length
  · rw [List.getElem?_append_left hk] at hr; exact h k r hr
  · rw [List.getElem?_append_right (by omega)] at hr
    have hz : k - M.length = 0 := by have := (List.getElem?_eq_some_iff.1 hr).1; simp at this; omega
    rw [hz] at hr
    simp at hr
    subst hr
    exact ⟨rfl, by simp only; omega, hc⟩
set_option maxHeartbeats 12800000 in
set_option maxRecDepth 100000 in
theorem walk {w : World} (va : Value) (la : List RecR) (ha : RowR w va la) (_ka : ∀ r ∈ la, RecOk r) (win : Int) (_n1 : -9223372036854775808 ≤ win) (_n2 : win ≤ 9223372036854775807) :
    Calls Try.prog 4 #[va, .int .i64 win] w fun e w' => e = .returned (.bool true) ∧ Below w.heap.size w w' := by
  obtain ⟨aa, cap0, rfl⟩ := ha.slice
  obtain ⟨n0, hn0⟩ : ∃ n, n = la.length := ⟨_, rfl⟩
  rw [← hn0] at ha ⊢
  have HN0 := Lib.hid hn0
  have HA := Lib.hid ha
  clear _ka hn0 ha
  go_enter Try.func4, Try.ntmps4
  go_upto_region 6 with (go_at_call 8; ((with_reducible refine (awake15_any _).mono ?_); rintro e w1 ⟨rfl, hb1⟩))
  obtain ⟨B, hB⟩ : ∃ B, B = w1.heap.size := ⟨_, rfl⟩
  have HBS := Lib.hid hB
  have HBW := Lib.hid hb1
  clear hB hb1
  go_loopw [6, 7, 8, 9] (fun s6 s7 s8 s9 wr => ∃ (j : Nat) (M : List RecR) (may : Bool) (z : Nat), j ≤ 20 ∧ s9 = .int .i64 j ∧ OwnR B wr s6 M ∧ M.length = j ∧ (∀ r ∈ M, r.pay.size ≤ 1000) ∧ s7 = .bool may ∧ s8 = .int .i64 z ∧ z = (rowsL M).length ∧ (may = true → AllMay win M) ∧ Below B w1 wr) (fun _ _ _ s9 _ => 20 - (intOf s9).toNat)
  case atStart => exact ⟨0, [], true, 0, by omega, rfl, OwnR.nil _ _, rfl, fun r hr => (by cases hr), rfl, rfl, rfl, (fun _ k r hr => by simp at hr), Below.refl _ _⟩
  case round =>
    obtain ⟨j, M, may, z, hj, rfl, ho, hM, hsm, rfl, rfl, hz, hmay, hb⟩ := hrel
    have hz2 : z ≤ 20360 := by have := rowsL_length M hsm; omega
    have HSM := Lib.hid hsm
    have HM := Lib.hid hM
    have HZ := Lib.hid hz
    have HMAY := Lib.hid hmay
    have HO := Lib.hid ho
    clear hsm hM ho hz hmay
    go_upto_region 6 with fail
    go_cut [23] (fun sc wx => wr = wx ∧ sc = .bool (decide (j < n0 ∧ j < 20)))
    case first =>
      by_cases hlt : j < n0
      · have hlt' : (j : Int) < (n0 : Int) := by omega
        by_cases h12 : j < 20
        · have h12' : (j : Int) < 20 := by omega
          go_wp2
          go_meet
          case rel => exact ⟨rfl, by simp [hlt, h12]⟩
        · have h12' : ¬ (j : Int) < 20 := by omega
          go_wp2
          go_meet
          case rel => exact ⟨rfl, by simp [h12]⟩
      · have hlt' : ¬ (j : Int) < (n0 : Int) := by omega
        go_wp2
        go_meet
        case rel => exact ⟨rfl, by simp [hlt]⟩
    case rest =>
    obtain ⟨rfl, rfl⟩ := hcut
    by_cases hc : j < n0 ∧ j < 20
    · rw [decide_eq_true hc]
      obtain ⟨hjn, h12⟩ := hc
      have hw1 := IntWalk.i64_in ((j : Int) + 1) (by omega)
      obtain ⟨r, hr⟩ : ∃ r, la[j]? = some r := ⟨la[j]'(by rw [← HN0.out]; exact hjn), List.getElem?_eq_getElem _⟩
      have hBW : B ≤ wr.heap.size := by have := hb.size; have := HBS.out; omega
      obtain ⟨b, off, rfl, hbl0, _, _, c2, c3⟩ := HA.out.at j r hr
      have hbw : Below w.heap.size w wr := HBW.out.trans (hb.mono (by have := HBS.out; have := HBW.out.size; omega))
      replace c2 := (hbw.cell (p := ⟨b, _, none⟩) hbl0).trans c2
      replace c3 := (hbw.cell (p := ⟨b, _, none⟩) hbl0).trans c3
      have hbl : b < wr.heap.size := by have := HBS.out; have := HBW.out.size; omega
      obtain ⟨win0, idx0, tim, pay⟩ := r
      simp only at c2 c3
      obtain ⟨P, hP⟩ : ∃ P, P = shortB pay 100 := ⟨_, rfl⟩
      have HSH : Hid (∀ u, Calls Try.prog 9 #[.string pay, .int .i64 100] u fun e w' => e = .returned (.string P) ∧ u = w') := Lib.hid fun u => by rw [hP]; exact short15_any pay 100 100 rfl u
      have hpz : P.size ≤ 1000 := by rw [hP]; have := shortB_size pay 100; omega
      clear hr hP hbw hbl0
      go_upto_region 8 with fail
      try simp only [Act.put]
      refine wp_region_ph (Lx := GLx 2) [RXP.is (.int .i64 win), RXP.is (.int .i64 (j : Int)), RXP.is (.slice (some ⟨b, off, none⟩) n0 cap0), RXP.is (.int .i64 (j : Int)), RXP.is (.pointer (some ⟨b, off + j * 4, none⟩)), RXP.is (.pointer (some ⟨b, off + j * 4 + 2, none⟩)), RXP.is (.int .i64 tim), RXP.is (.slice (some ⟨b, off, none⟩) n0 cap0), RXP.is (.int .i64 (j : Int)), RXP.is (.pointer (some ⟨b, off + j * 4, none⟩)), RXP.is (.pointer (some ⟨b, off + j * 4 + 3, none⟩)), RXP.is (.string pay), RXP.is (.string P), RXP.is (.agg #[.int .i64 win, .int .i64 (j : Int), .int .i64 tim, .string P]), RXP.is (.pointer (some ⟨wr.heap.size, 0, none⟩)), RXP.any] [14, 15] (fun k w' => Below wr.heap.size wr w' ∧ (k = 0 → w'.heap.size = wr.heap.size) ∧ (k = 1 → RecAt wr.heap.size 0 0 0 ⟨#[]⟩ w') ∧ (k = 2 → RecAt wr.heap.size win j tim P w')) (by kernel_rfl) (by kernel_rfl) (by kernel_rfl) (by kernel_rfl) (by kernel_rfl) (⟨below_drew (Below.refl _ _), fun _ => rfl, (fun h => by cases h), (fun h => by cases h)⟩) ⟨?_, ?_, ?_, ?_, ?_, ?_, ?_, ?_, ?_, ?_, ?_, ?_, ?_, ?_, ?_, ?_, trivial⟩ ?_
      · intro ac w' ph hF hPh hlt hP hU K hK0
        have e1 : ac.eval (.tmp 1) = .int .i64 win := hF.at 1 (by kernel_rfl)
        exact rop_move _ rfl e1 (wanted_none rfl) (hK0 _ _ GLx.same hPh rfl)
      · intro ac w' ph hF hPh hlt hP hU K hK0
        have e9 : ac.eval (.tmp 9) = .int .i64 (j : Int) := hF.at 9 (by kernel_rfl)
        exact rop_move _ rfl e9 (wanted_none rfl) (hK0 _ _ GLx.same hPh rfl)
      · intro ac w' ph hF hPh hlt hP hU K hK0
        have e0 : ac.eval (.tmp 0) = .slice (some ⟨b, off, none⟩) n0 cap0 := hF.at 0 (by kernel_rfl)
        exact rop_move _ rfl e0 (wanted_none rfl) (hK0 _ _ GLx.same hPh rfl)
      · intro ac w' ph hF hPh hlt hP hU K hK0
        have e9 : ac.eval (.tmp 9) = .int .i64 (j : Int) := hF.at 9 (by kernel_rfl)
        exact rop_move _ rfl e9 (wanted_none rfl) (hK0 _ _ GLx.same hPh rfl)
      · intro ac w' ph hF hPh hlt hP hU K hK0
        have e28 : ac.eval (.tmp 28) = .slice (some ⟨b, off, none⟩) n0 cap0 := hP 2 (by kernel_rfl)
        have e29 : ac.eval (.tmp 29) = .int .i64 (j : Int) := hP 3 (by kernel_rfl)
        exact rop_idx _ _ _ rfl e28 e29 (index_rec b off n0 cap0 j hjn w') (wanted_none rfl) (hK0 _ _ GLx.same hPh rfl)
      · intro ac w' ph hF hPh hlt hP hU K hK0
        have e30 : ac.eval (.tmp 30) = .pointer (some ⟨b, off + j * 4, none⟩) := hP 4 (by kernel_rfl)
        exact rop_fld _ _ _ rfl e30 ((recFld b (off + j * 4) _).2.2.1) (wanted_none rfl) (hK0 _ _ GLx.same hPh rfl)
      · intro ac w' ph hF hPh hlt hP hU K hK0
        have e31 : ac.eval (.tmp 31) = .pointer (some ⟨b, off + j * 4 + 2, none⟩) := hP 5 (by kernel_rfl)
        exact rop_ld _ _ rfl e31 (load_intR ((hPh.1.cell (p := ⟨b, _, none⟩) hbl).trans c2)) (wanted_none rfl) (hK0 _ _ GLx.same hPh rfl)
      · intro ac w' ph hF hPh hlt hP hU K hK0
        have e0 : ac.eval (.tmp 0) = .slice (some ⟨b, off, none⟩) n0 cap0 := hF.at 0 (by kernel_rfl)
        exact rop_move _ rfl e0 (wanted_none rfl) (hK0 _ _ GLx.same hPh rfl)
      · intro ac w' ph hF hPh hlt hP hU K hK0
        have e9 : ac.eval (.tmp 9) = .int .i64 (j : Int) := hF.at 9 (by kernel_rfl)
        exact rop_move _ rfl e9 (wanted_none rfl) (hK0 _ _ GLx.same hPh rfl)
      · intro ac w' ph hF hPh hlt hP hU K hK0
        have e33 : ac.eval (.tmp 33) = .slice (some ⟨b, off, none⟩) n0 cap0 := hP 7 (by kernel_rfl)
        have e34 : ac.eval (.tmp 34) = .int .i64 (j : Int) := hP 8 (by kernel_rfl)
        exact rop_idx _ _ _ rfl e33 e34 (index_rec b off n0 cap0 j hjn w') (wanted_none rfl) (hK0 _ _ GLx.same hPh rfl)
      · intro ac w' ph hF hPh hlt hP hU K hK0
        have e35 : ac.eval (.tmp 35) = .pointer (some ⟨b, off + j * 4, none⟩) := hP 9 (by kernel_rfl)
        exact rop_fld _ _ _ rfl e35 ((recFld b (off + j * 4) _).2.2.2) (wanted_none rfl) (hK0 _ _ GLx.same hPh rfl)
      · intro ac w' ph hF hPh hlt hP hU K hK0
        have e36 : ac.eval (.tmp 36) = .pointer (some ⟨b, off + j * 4 + 3, none⟩) := hP 10 (by kernel_rfl)
        exact rop_ld _ _ rfl e36 (load_strR ((hPh.1.cell (p := ⟨b, _, none⟩) hbl).trans c3)) (wanted_none rfl) (hK0 _ _ GLx.same hPh rfl)
      · intro ac w' ph hF hPh hlt hP hU K hK0
        have e37 : ac.eval (.tmp 37) = .string pay := hP 11 (by kernel_rfl)
        refine rop_call 9 _ _ rfl #[.string pay, .int .i64 100] (by simp [e37, eval_const]) (by kernel_rfl) (wanted_none rfl) ?_
        refine (HSH.out w').mono ?_
        rintro e w2 ⟨rfl, rfl⟩
        exact ⟨_, rfl, hK0 _ _ GLx.same hPh rfl⟩
      · intro ac w' ph hF hPh hlt hP hU K hK0
        have e26 : ac.eval (.tmp 26) = .int .i64 win := hP 0 (by kernel_rfl)
        have e27 : ac.eval (.tmp 27) = .int .i64 (j : Int) := hP 1 (by kernel_rfl)
        have e32 : ac.eval (.tmp 32) = .int .i64 tim := hP 6 (by kernel_rfl)
        have e38 : ac.eval (.tmp 38) = .string P := hP 12 (by kernel_rfl)
        exact rop_buildR _ _ rfl _ (by simp [e26, e27, e32, e38]) (built_rec4 win j tim P) (wanted_none rfl) (hK0 _ _ GLx.same hPh rfl)
      · intro ac w' ph hF hPh hlt hP hU K hK0
        obtain rfl : ph = 0 := (hlt 0 14 rfl).1 rfl
        have hsz : w'.heap.size = wr.heap.size := hPh.2.1 rfl
        have hve : Value.pointer (some ⟨w'.heap.size, 0, none⟩) = .pointer (some ⟨wr.heap.size, 0, none⟩) := by rw [hsz]
        refine rop_allocR _ rfl (alloc_rec w') (wanted_none rfl) ?_
        exact hK0 _ _ (GLx.old (by decide) (below_box' _ _)) ⟨hPh.1.alloc (by omega) _, (fun h => by cases h), fun _ => by rw [← hsz]; exact RecAt.alloc w' 0 0 0 ⟨#[]⟩, fun h => by cases h⟩ hve
      · intro ac w' ph hF hPh hlt hP hU K hK0
        obtain rfl : ph = 1 := (hlt 1 15 rfl).1 rfl
        have e10 : ac.eval (.tmp 10) = .pointer (some ⟨wr.heap.size, 0, none⟩) := hP 14 (by kernel_rfl)
        have e39 : ac.eval (.tmp 39) = .agg #[.int .i64 win, .int .i64 (j : Int), .int .i64 tim, .string P] := hP 13 (by kernel_rfl)
        have hz : RecAt wr.heap.size 0 0 0 ⟨#[]⟩ w' := hPh.2.2.1 rfl
        exact rop_storeG _ _ _ rfl e10 e39 (store_rec hz win j tim P) (wanted_none rfl) (hK0 _ _ (GLx.last rfl) ⟨below_setCells (Nat.le_refl _) _ _ _ hPh.1, (fun h => by cases h), (fun h => by cases h), fun _ => set_rec hz win j tim P⟩ trivial)
      · intro ac w' hF hPh hT
        have e10 : ac.eval (.tmp 10) = .pointer (some ⟨wr.heap.size, 0, none⟩) := hT 14 (by decide)
        rw [hF.setsG [26, 27, 28, 29, 30, 31, 32, 33, 34, 35, 36, 37, 38, 39, 10] (by kernel_rfl)]
        simp only [List.foldl_cons, List.foldl_nil, List.setIfInBounds_toArray, List.set_cons_succ, List.set_cons_zero, e10]
        generalize ac.eval (.tmp 26) = u26
        generalize ac.eval (.tmp 27) = u27
        generalize ac.eval (.tmp 28) = u28
        generalize ac.eval (.tmp 29) = u29
        generalize ac.eval (.tmp 30) = u30
        generalize ac.eval (.tmp 31) = u31
        generalize ac.eval (.tmp 32) = u32
        generalize ac.eval (.tmp 33) = u33
        generalize ac.eval (.tmp 34) = u34
        generalize ac.eval (.tmp 35) = u35
        generalize ac.eval (.tmp 36) = u36
        generalize ac.eval (.tmp 37) = u37
        generalize ac.eval (.tmp 38) = u38
        generalize ac.eval (.tmp 39) = u39
        clear e10 hT hF ac
        have hrec : RecAt wr.heap.size win j tim P w' := hPh.2.2.2 rfl
        have hbn := hPh.1
        have hown := HO.out.kept hbn
        have hbw := hb.trans (hbn.mono hBW)
        obtain ⟨p, hp⟩ : ∃ p, p = wr.heap.size := ⟨_, rfl⟩
        rw [← hp] at hrec ⊢
        clear hPh c2 c3 HO hbn hb hp
        have qs : ∀ u, Calls Try.prog 16 #[.agg #[.int .i64 win, .int .i64 (j : Int), .int .i64 tim, .string P]] u fun e w' => e = .returned (.int .i64 ((rowL ⟨win, j, tim, P⟩).length : Int)) ∧ Below u.heap.size u w' := fun u => by
          have := recSize_any win j tim P u (by omega)
          have e := rowB_eq ⟨win, j, tim, P⟩
          simp only at e
          rw [e] at this
          exact this
        have hrl := rowL_length ⟨win, j, tim, P⟩ hpz
        obtain ⟨y, hy⟩ : ∃ y, y = (rowL ⟨win, (j : Int), tim, P⟩).length := ⟨_, rfl⟩
        rw [← hy] at qs hrl
        have HY := Lib.hid hy
        have hadd := IntWalk.i64_in ((z : Int) + (y : Int)) (by omega)
        have qc := fun u => rcheck_any win j tim P u (by omega)
        obtain ⟨c, hcz⟩ : ∃ c, c = chkZ win j tim P := ⟨_, rfl⟩
        rw [← hcz] at qc
        have HCZ := Lib.hid hcz
        clear hy hcz
        -- may it be, and is the size that
        go_upto_region 9 with fail
        go_cut [7] (fun s7 wx => s7 = .bool (may && decide (c = 0)) ∧ Below w'.heap.size w' wx)
        case first =>
          have c0 := hrec.c0
          have c1 := hrec.c1
          have c2 := hrec.c2
          have c3 := hrec.c3
          cases may
          · go_wp2
            go_meet
            case rel => exact ⟨rfl, Below.refl _ _⟩
          · by_cases hc0 : c = 0
            · subst hc0
              go_wp2_with (go_at_call 15; ((with_reducible refine (qc _).mono ?_); rintro e w9 ⟨rfl, b9⟩))
              go_meet
              case rel => exact ⟨rfl, b9⟩
            · go_wp2_with (go_at_call 15; ((with_reducible refine (qc _).mono ?_); rintro e w9 ⟨rfl, b9⟩))
              go_meet
              case rel => exact ⟨by simp [hc0], b9⟩
        case rest =>
          obtain ⟨rfl, b9⟩ := hcut
          have hrec9 := hrec.old b9 hrec.lt
          have hown9 := hown.kept b9
          have hbw9 := hbw.trans (b9.mono (by have := hbw.size; have := HBS.out; omega))
          clear hrec hown hbw b9 qc
          have c0 := hrec9.c0
          have c1 := hrec9.c1
          have c2 := hrec9.c2
          have c3 := hrec9.c3
          go_upto_region 11 with (go_at_call 16; ((with_reducible refine (qs _).mono ?_); rintro e w10 ⟨rfl, b10⟩))
          have hrec10 := hrec9.old b10 hrec9.lt
          have hown10 := hown9.kept b10
          have hbw10 := hbw9.trans (b10.mono (by have := hbw9.size; have := HBS.out; omega))
          clear hrec9 hown9 hbw9 b10 qs c0 c1 c2 c3
          have c0 := hrec10.c0
          have c1 := hrec10.c1
          have c2 := hrec10.c2
          have c3 := hrec10.c3
          have hjM : M.length = j := HM.out
          obtain ⟨v', w'', hap, ho', hb', -⟩ := rappend_own 29 ⟨win, j, tim, P⟩ hown10 (by have := hbw10.size; have := HBS.out; omega) (by omega)
          simp only at hap
          have HAP := Lib.hid hap
          have hbz := hbw10.trans hb'
          clear hap hown10 hrec10 hbw10 hb' hjM
          go_wp2_with (at_builtin; refine wpList_append_run rfl _ _ _ rfl rfl rfl HAP.out ?_)
          go_roundw
          case rel =>
            refine ⟨j + 1, M ++ [⟨win, j, tim, P⟩], _, z + y, by omega, by go_num, ho', by rw [List.length_append, HM.out]; rfl, (fun r hr => (List.mem_append.1 hr).elim (fun h => HSM.out r h) (fun h => by simp at h; subst h; exact hpz)), rfl, by simp, by rw [rowsL_append, List.length_append, ← HZ.out]; simp [rowsL, ← HY.out], fun hm => ?_, hbz⟩
            simp only [Bool.and_eq_true, decide_eq_true_eq] at hm
            have hcc := HCZ.out
            rw [hm.2] at hcc
            have := (HMAY.out hm.1).snoc tim P (by rw [HM.out]; exact hcc.symm)
            rw [HM.out] at this
            exact this
          case measure => simp [intOf]; omega
    · rw [decide_eq_false hc]
      have hown := HO.out
      have hMl : M.length ≤ 20 := by have := HM.out; omega
      have hrow := hown.row
      have hbw : Below w.heap.size w wr := HBW.out.trans (hb.mono (by have := HBS.out; have := HBW.out.size; omega))
      obtain ⟨S, hS⟩ : ∃ S : ByteArray, S = ⟨(rowsL M).toArray⟩ := ⟨_, rfl⟩
      have q1 : ∀ u, Below wr.heap.size wr u → Calls Try.prog 17 #[u6] u fun e w' => e = .returned (.string S) ∧ Below u.heap.size u w' := fun u hu => by rw [hS]; exact row_any _ M u (hrow.old hu) (by omega) HSM.out
      have q2 : ∀ u, Below wr.heap.size wr u → Calls Try.prog 18 #[u6] u fun e w' => e = .returned (.string S) ∧ Below u.heap.size u w' := fun u hu => by rw [hS]; exact rrow_any _ M u (hrow.old hu) (by omega) HSM.out
      have hSz : S.size = z := by rw [hS, ByteArray.size, List.size_toArray]; exact HZ.out.symm
      have hSL : S.data.toList = rowsL M := by rw [hS]
      have q3 := fun u => rows_any win S u (by omega)
      rw [hSL] at q3
      have q4 : may = true → rowsR win (rowsL M) = some M := fun h => rows_read win M 0 _ (Nat.le_refl _) (HMAY.out h)
      have hSz' : (S.size : Int) = (z : Int) := by omega
      have HR := Lib.hid hrow
      have Q1 := Lib.hid q1
      have Q2 := Lib.hid q2
      have Q3 := Lib.hid q3
      have Q4 := Lib.hid q4
      have HBWW := Lib.hid hbw
      clear hS hSL hSz q1 q2 q3 q4 hown HO HM HSM HZ HMAY hrow hb hbw hc HA HBW HN0
      cases may
      · go_wp2_with (first
          | (go_at_call 17; ((with_reducible refine (Q1.out _ (Below.refl _ _)).mono ?_); rintro e w6 ⟨rfl, b6⟩))
          | (go_at_call 18; ((with_reducible refine (Q2.out _ b6).mono ?_); rintro e w7 ⟨rfl, b7⟩; have b67 := below_step b6 (Nat.le_refl _) b7)))
        go_ret
        exact ⟨rfl, below_step HBWW.out (Nat.le_refl _) b67⟩
      · have h4 := Q4.out rfl
        have H4 := Lib.hid h4
        clear h4 Q4
        go_upto_region 18 with (first
          | (go_at_call 17; ((with_reducible refine (Q1.out _ (Below.refl _ _)).mono ?_); rintro e w6 ⟨rfl, b6⟩))
          | (go_at_call 18; ((with_reducible refine (Q2.out _ b6).mono ?_); rintro e w7 ⟨rfl, b7⟩; have b67 := below_step b6 (Nat.le_refl _) b7))
          | (go_at_call 12; ((with_reducible refine (Q3.out _).mono ?_); rintro e w8 ⟨⟨v8, z8, l8, rfl, o8, k8⟩, b8⟩; have b68 := below_step b67 (Nat.le_refl _) b8; obtain ⟨rfl, rfl⟩ : l8 = M ∧ z8 = 0 := pick_some15 H4.out k8)))
        have r1 := HR.out.old b68
        have r2 := o8.row
        go_wp2_with (go_at_call 14; ((with_reducible refine (same15_any _ _ l8 _ r2 r1 (by omega)).mono ?_); rintro e w9 ⟨rfl, b9⟩))
        go_ret
        exact ⟨rfl, below_step (below_step HBWW.out (Nat.le_refl _) b68) (Nat.le_refl _) b9⟩

set_option maxRecDepth 100000 in
theorem lifted (os : Os) (started : os.Started) (H : Type) (enc : TypeId × Value → H) :
    ReturnsInHanded {} Try.checked os 4 .any (Rows.recordRowsSpec.pre6 enc Try.prog Try.f4 Rows.recordRowsRow.domain false) (Rows.recordRowsSpec.post enc Try.prog Try.f4 false true false false) := by
  refine returnsInHanded_of_change (C := Try.checked) lawOwn started (by kernel_rfl) Try.func4
    (ChangeSpec.witness6 (enc := enc) (C := Try.checked) false ⟨#[], #[.slice none 0 0, .int .i64 0], []⟩ 8 (by kernel_rfl) (by kernel_rfl) (by kernel_rfl) (by kernel_rfl)) ?_
  intro W base args ds gs before hval0 hW hcnd _
  have hval : ∀ (j : Nat) t v, Try.f4.params[j]? = some t → args[j]? = some v → Value.okWide Try.prog W .any base t v := hval0
  have hW' := hW
  obtain ⟨p, q, hA0, hV, rfl, hfz, hnd⟩ := hW
  have hA : DataW.TrodAll enc Try.prog W 0 (fun _ => true) true Try.f4.params.toList args.toList ds p := hA0
  rw [Try.params4] at hA hval
  obtain ⟨v0, vs0, d0, ds0, p0, q0, hargs, rfl, rfl, h0, r0⟩ := trodAll_cons hA
  obtain ⟨v1, vs1, d1, ds1, p1, q1, rfl, rfl, rfl, h1, r1⟩ := trodAll_cons r0
  obtain ⟨rfl, rfl, rfl⟩ := trodAll_nil r1
  obtain rfl : args = #[v0, v1] := by cases args; simp_all
  obtain ⟨rfl, rfl⟩ := trodVars_none hV
  obtain ⟨a0, len0, cap0, rfl⟩ := okWide_slice Try.underlying29 (hval 0 29 v0 rfl rfl)
  obtain ⟨l0, w0, k0⟩ := recs_of h0
  obtain ⟨a1, rfl, rfl, rfl, w1⟩ := open_int Try.underlying3 (hval 1 3 v1 rfl rfl) h1
  clear hA0 hval0 hcnd
  obtain ⟨l1, m1⟩ := i64_bounds w1
  refine (walk (w := W) _ l0 w0 k0 a1 l1 m1).mono fun e W' ⟨he, bel⟩ => ?_
  subst he
  exact ⟨_, rfl, law_post rfl rfl (by kernel_rfl) hW' rfl bel⟩

theorem holds : Rows.RecordRowsSaid :=
  OpenClaim.holds_of_wide 4 Try.f4 rfl rfl rfl rfl rfl rfl rfl ⟨rfl, rfl, rfl, rfl, rfl⟩ rfl rfl rfl rfl rfl (by kernel_rfl) Try.func4 (by kernel_rfl)
    (of_decide_eq_true (by kernel_rfl)) (by unfold Func.isWrapper; first | (rw [if_pos (by decide +kernel)]; kernel_rfl) | (rw [if_neg (by decide +kernel)]; exact ⟨rfl, rfl⟩))
    (fun os started H enc _ => lifted os started H enc)
end Go.Proofs.Ytbhalioajekfcaa.recordRows

theorem Go.Proofs.Ytbhalioajekfcaa.recordRows_holds : Go.Proofs.Ytbhalioajekfcaa.Rows.RecordRowsSaid := Go.Proofs.Ytbhalioajekfcaa.recordRows.holds
#print axioms Go.Proofs.Ytbhalioajekfcaa.recordRows_holds
