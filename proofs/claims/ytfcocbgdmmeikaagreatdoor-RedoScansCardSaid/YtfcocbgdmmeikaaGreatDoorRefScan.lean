/-
  The document's own look through a region (scriniumref07.Scan): it finds what the package's own look finds.
-/
import Derived.Test.YtfcocbgdmmeikaaGreatDoorRefSame
import Derived.Test.YtfcocbgdmmeikaaGreatDoorMRedC
namespace Go.Proofs.YtfcocbgdmmeikaaGreatDoor
open Go.RowKit Dsk

theorem neq_err0 (w : World) : (binOp .neq 41 (.int .i64 0) (.int .i64 0)).run Tryz.prog w = .ok (.bool false) w := by go_simp
theorem neq_err10 (w : World) : (binOp .neq 41 (.int .i64 10) (.int .i64 0)).run Tryz.prog w = .ok (.bool true) w := by go_simp
theorem fld_bad (q : Nat) (w : World) : (Instr.fieldAt 84 (.pointer (some ⟨q, 0, none⟩)) 2).run Tryz.prog w = .ok (.pointer (some ⟨q, 2, none⟩)) w := by go_simp
theorem load_bool {b o : Nat} {x : Bool} {w : World} (h0 : w.cell? ⟨b, o, none⟩ = some (.bool x)) : (Instr.loadAt 4 (.pointer (some ⟨b, o, none⟩))).run Tryz.prog w = .ok (.bool x) w := by go_simp
/-! ### The head, as the document reads it -/
def dP (x : ByteArray) : Nat := numV (textOf x [83, 67, 72]) (65535 : Nat)
def dT (x : ByteArray) : Option (List UInt8) := numS (textOf x [83, 67, 72]) (65535 : Nat)
def dS (x : ByteArray) : Nat := numV (dT x) (549755813888 : Nat)
def dE (x : ByteArray) : Option (List UInt8) := numS (dT x) (549755813888 : Nat)
theorem numS_of_none (most : Int) : numS none most = none := by
  unfold numS
  split
  · rfl
  · rfl
theorem endV_two (st : Option (List UInt8)) : endV st = 0 ∨ endV st = 10 := by
  unfold endV
  split
  · exact .inl rfl
  · exact .inr rfl
theorem endV_none : endV none = 10 := rfl
theorem head_doc (x : ByteArray) (m : Nat) (h1 : 1 ≤ m) (hm : m ≤ 65536) : (hOk x m = true ↔ endV (dE x) = 0 ∧ dP x < m ∧ 1 ≤ dS x) ∧ (hOk x m = true → dP x = hP x m ∧ dS x = hS x m) := by
  obtain ⟨st, hst⟩ : ∃ st, st = textOf x [83, 67, 72] := ⟨_, rfl⟩
  by_cases hl : longV st ≤ m - 1
  · have a1 : numV st ((m - 1 : Nat) : Int) = longV st := if_neg (by omega)
    have a2 : numS st ((m - 1 : Nat) : Int) = longS st := if_neg (by omega)
    have b1 : numV st (65535 : Nat) = longV st := if_neg (by omega)
    have b2 : numS st (65535 : Nat) = longS st := if_neg (by omega)
    have e1 : dP x = hP x m := by unfold dP hP; rw [← hst, a1, b1]
    have e2 : dT x = numS (textOf x [83, 67, 72]) ((m - 1 : Nat) : Int) := by unfold dT; rw [← hst, a2, b2]
    have e3 : dS x = hS x m := by unfold dS hS; rw [e2]
    have e4 : dE x = hE x m := by unfold dE hE; rw [e2]
    refine ⟨?_, fun _ => ⟨e1, e3⟩⟩
    rw [e4, e1, e3]
    unfold hOk
    simp only [Bool.and_eq_true, decide_eq_true_eq]
    exact ⟨fun h => ⟨h.1, hP_lt x (by omega), h.2⟩, fun h => ⟨h.1, h.2.2⟩⟩
  · have a2 : numS st ((m - 1 : Nat) : Int) = none := if_pos (by omega)
    have hE0 : hE x m = none := by unfold hE; rw [← hst, a2]; exact numS_of_none _
    have hf : ¬ hOk x m = true := by
      unfold hOk
      rw [hE0, endV_none]
      simp
    refine ⟨⟨fun h => absurd h hf, fun h => ?_⟩, fun h => absurd h hf⟩
    exfalso
    obtain ⟨h1', h2, h3⟩ := h
    by_cases hbig : longV st ≤ 65535
    · have b1 : numV st (65535 : Nat) = longV st := if_neg (by omega)
      have : dP x = longV st := by unfold dP; rw [← hst, b1]
      omega
    · have b2 : numS st (65535 : Nat) = none := if_pos (by omega)
      have : dE x = none := by unfold dE dT; rw [← hst, b2]; exact numS_of_none _
      rw [this, endV_none] at h1'
      cases h1'
/-! ### The document's scanner, call by call -/
theorem refNum_any (st : Option (List UInt8)) (most : Nat) (M : Int) (hM : M = (most : Int)) (hm : most ≤ 9223372036854775807) (q : Nat) (S : ByteArray) (u : World) (hS : S.size ≤ 1000000) (h : RScn q S st u) :
    Calls Tryz.prog 42 #[.pointer (some ⟨q, 0, none⟩), .int .i64 M] u fun e w' => e = .returned (.int .i64 (numV st (most : Int) : Nat)) ∧ RScn q S (numS st (most : Int)) w' ∧ Only q u w' := by
  subst hM
  exact rnum_any q S st (most : Int) u (by omega) h (by omega) (by omega)
theorem refEnd_any (st : Option (List UInt8)) (q : Nat) (S : ByteArray) (u : World) (hS : S.size ≤ 1000000) (h : RScn q S st u) :
    Calls Tryz.prog 43 #[.pointer (some ⟨q, 0, none⟩)] u fun e w' => e = .returned (.int .i64 (endV st)) ∧ Below u.heap.size u w' :=
  (rend_any q S st u (by omega) h).mono fun _ _ ⟨h1, n, h2⟩ => ⟨h1, h2 ▸ below_drewN (Below.refl _ _) n⟩

set_option maxHeartbeats 6400000 in
set_option maxRecDepth 100000 in
theorem refScan_bad (ts : List ByteArray) (m : Nat) (X0 : ByteArray) (rv : Value) (w : World) (hv : StrRow w rv ts) (hm : ts.length = m + 1) (hX : X0 = ts.getD 0 .empty) (hm2 : m ≤ 60000) (hsz : ∀ t ∈ ts, t.size ≤ 1000000) (h3 : 3 ≤ m) (hok : hOk X0 m = false) :
    Calls Tryz.prog 16 #[rv] w fun e w' => e = .returned (.tuple #[.int .i64 0, .int .i64 0, .slice none 0 0, .bool false]) ∧ Below w.heap.size w w' := by
  obtain ⟨ra, rcap, rfl, _, hc⟩ := hv
  obtain ⟨b, off, rfl, hb, hj⟩ := hc (by intro e; rw [e] at hm; simp at hm)
  have hx0 : X0.size ≤ 1000000 := by
    rw [hX, List.getD_eq_getElem?_getD, List.getElem?_eq_getElem (by omega)]
    exact hsz _ (List.getElem_mem _)
  have c0 : w.cell? ⟨b, off, none⟩ = some (.string X0) := by have := hj 0 (by omega); rwa [Nat.add_zero, ← hX] at this
  have hwm := IntWalk.i64_in ((m : Int)) (by omega)
  have hwm1 := IntWalk.i64_in ((m : Int) + 1) (by omega)
  have ht := refText7_any X0 72 w hx0
  unfold mkB at ht
  obtain ⟨hd1, hd2⟩ := head_doc X0 m (by omega) (by omega)
  rw [hm]
  have hN1 := refNum_any (textOf X0 [83, 67, 72]) 65535 65535 rfl (by decide)
  have hN2 := refNum_any (dT X0) 549755813888 549755813888 rfl (by decide)
  have hE3 := refEnd_any (dE X0)
  change ∀ (q : Nat) (S : ByteArray) (u : World), S.size ≤ 1000000 → RScn q S _ u → Calls Tryz.prog _ _ u fun e w' => e = .returned (.int .i64 (dP X0 : Nat)) ∧ RScn q S (dT X0) w' ∧ Only q u w' at hN1
  change ∀ (q : Nat) (S : ByteArray) (u : World), S.size ≤ 1000000 → RScn q S _ u → Calls Tryz.prog _ _ u fun e w' => e = .returned (.int .i64 (dS X0 : Nat)) ∧ RScn q S (dE X0) w' ∧ Only q u w' at hN2
  have hbad : ¬ (endV (dE X0) = 0 ∧ dP X0 < m ∧ 1 ≤ dS X0) := fun h => by have := hd1.2 h; rw [hok] at this; cases this
  have hP63 : dP X0 ≤ 65535 := numV_most _ _
  have hQ63 : dS X0 ≤ 549755813888 := numV_most _ _
  clear hd1 hd2 hok hsz hc hj hX hm
  generalize dP X0 = P at *
  generalize dS X0 = Q at *
  generalize dT X0 = st1 at *
  generalize dE X0 = st2 at *
  generalize textOf X0 [83, 67, 72] = st0 at *
  have HT := Lib.hid ht
  have HN1 := Lib.hid hN1
  have HN2 := Lib.hid hN2
  clear ht hN1 hN2
  go_enter Tryz.func16, Tryz.ntmps16
  go_upto_region 7 with (first
    | (go_at_call 41; refine HT.out.mono ?_; rintro e w1 ⟨q, S, rfl, s1, hS, hq, b1⟩)
    | (go_at_call 42; with_reducible refine (HN1.out q S w1 hS s1).mono ?_; rintro e w2 ⟨rfl, s2, o2⟩)
    | (go_at_call 42; with_reducible refine (HN2.out q S w2 hS s2).mono ?_; rintro e w3 ⟨rfl, s3, o3⟩))
  have b3 : Below w.heap.size w w3 := (b1.trans (o2.below hq b1.size)).trans (o3.below hq (b1.trans (o2.below hq b1.size)).size)

  rcases endV_two st2 with he | he
  · rw [he] at hE3
    have HEND := Lib.hid hE3
    by_cases hp : P < m
    · have hq1 : Q < 1 := by
        apply Nat.lt_of_not_le
        exact fun h => hbad ⟨he, hp, h⟩
      clear hE3 hbad he
      try simp only [Act.put]
      refine wp_region_tab0 [RT.is (.pointer (some ⟨q, 0, none⟩)), RT.is (.int .i64 0), RT.is (.bool false), RT.is (.bool false), RT.is (.int .i64 (P : Int)), RT.is (.int .i64 (m : Int)), RT.is (.bool false), RT.is (.bool false), RT.is (.bool false), RT.is (.int .i64 (Q : Int)), RT.is (.bool true), RT.is (.bool true)] (by kernel_rfl) (by kernel_rfl) (by kernel_rfl) ⟨?_, ?_, ?_, ?_, ?_, ?_, ?_, ?_, ?_, ?_, ?_, ?_, trivial⟩ ?_
      · intro ac w' hF hL hP hU K hK
        have hB : Below _ _ _ := hL
        have e7 : ac.eval (.tmp 7) = .pointer (some ⟨q, 0, none⟩) := hF.at 7 (by kernel_rfl)
        exact rop_move _ rfl e7 (wanted_none rfl) (hK _ _ (le8_refl _) rfl)
      · intro ac w' hF hL hP hU K hK
        have hB : Below _ _ _ := hL
        have e32 : ac.eval (.tmp 32) = .pointer (some ⟨q, 0, none⟩) := hP 0 (by kernel_rfl)
        refine rop_call 43 _ _ rfl #[.pointer (some ⟨q, 0, none⟩)] (by simp [e32]) (by kernel_rfl) (wanted_none rfl) ?_
        refine (HEND.out q S w' hS (s3.old hB s3.lt)).mono ?_
        rintro e w2 ⟨rfl, hb⟩
        exact ⟨_, rfl, hK _ _ hb rfl⟩
      · intro ac w' hF hL hP hU K hK
        have hB : Below _ _ _ := hL
        have e33 : ac.eval (.tmp 33) = .int .i64 0 := hP 1 (by kernel_rfl)
        exact rop_bin _ _ _ _ _ rfl e33 rfl (guard_int _ _ _ _ _ _ _ w') (neq_err0 w') (wanted_none rfl) (hK _ _ (le8_refl _) rfl)
      · intro ac w' hF hL hP hU K hK
        have hB : Below _ _ _ := hL
        have e34 : ac.eval (.tmp 34) = .bool false := hP 2 (by kernel_rfl)
        exact rop_move _ rfl e34 (wanted_none rfl) (hK _ _ (le8_refl _) rfl)
      · intro ac w' hF hL hP hU K hK
        have hB : Below _ _ _ := hL
        have e8 : ac.eval (.tmp 8) = .int .i64 (P : Int) := hF.at 8 (by kernel_rfl)
        have e35 : ac.eval (.tmp 35) = .bool false := hP 3 (by kernel_rfl)
        exact rop_move _ rfl e8 (wanted_of (j := 3) (b := false) rfl rfl e35) (hK _ _ (le8_refl _) rfl)
      · intro ac w' hF hL hP hU K hK
        have hB : Below _ _ _ := hL
        have e6 : ac.eval (.tmp 6) = .int .i64 (m : Int) := hF.at 6 (by kernel_rfl)
        have e35 : ac.eval (.tmp 35) = .bool false := hP 3 (by kernel_rfl)
        exact rop_move _ rfl e6 (wanted_of (j := 3) (b := false) rfl rfl e35) (hK _ _ (le8_refl _) rfl)
      · intro ac w' hF hL hP hU K hK
        have hB : Below _ _ _ := hL
        have e36 : ac.eval (.tmp 36) = .int .i64 (P : Int) := hP 4 (by kernel_rfl)
        have e37 : ac.eval (.tmp 37) = .int .i64 (m : Int) := hP 5 (by kernel_rfl)
        have e35 : ac.eval (.tmp 35) = .bool false := hP 3 (by kernel_rfl)
        exact rop_bin _ _ _ _ _ rfl e36 e37 (guard_int _ _ _ _ _ _ _ w') (geq_iG _ _ _ (decide_eq_false (by omega)) w') (wanted_of (j := 3) (b := false) rfl rfl e35) (hK _ _ (le8_refl _) rfl)
      · intro ac w' hF hL hP hU K hK
        have hB : Below _ _ _ := hL
        have e35 : ac.eval (.tmp 35) = .bool false := hP 3 (by kernel_rfl)
        have e38 : ac.eval (.tmp 38) = .bool false := hP 6 (by kernel_rfl)
        exact rop_pick _ _ _ rfl false e35 (by simpa using e38) (wanted_none rfl) (hK _ _ (le8_refl _) rfl)
      · intro ac w' hF hL hP hU K hK
        have hB : Below _ _ _ := hL
        have e39 : ac.eval (.tmp 39) = .bool false := hP 7 (by kernel_rfl)
        exact rop_move _ rfl e39 (wanted_none rfl) (hK _ _ (le8_refl _) rfl)
      · intro ac w' hF hL hP hU K hK
        have hB : Below _ _ _ := hL
        have e9 : ac.eval (.tmp 9) = .int .i64 (Q : Int) := hF.at 9 (by kernel_rfl)
        have e40 : ac.eval (.tmp 40) = .bool false := hP 8 (by kernel_rfl)
        exact rop_move _ rfl e9 (wanted_of (j := 8) (b := false) rfl rfl e40) (hK _ _ (le8_refl _) rfl)
      · intro ac w' hF hL hP hU K hK
        have hB : Below _ _ _ := hL
        have e41 : ac.eval (.tmp 41) = .int .i64 (Q : Int) := hP 9 (by kernel_rfl)
        have e40 : ac.eval (.tmp 40) = .bool false := hP 8 (by kernel_rfl)
        exact rop_bin _ _ _ _ _ rfl e41 rfl (guard_int _ _ _ _ _ _ _ w') (lss_iG _ _ _ (decide_eq_true (by omega)) w') (wanted_of (j := 8) (b := false) rfl rfl e40) (hK _ _ (le8_refl _) rfl)
      · intro ac w' hF hL hP hU K hK
        have hB : Below _ _ _ := hL
        have e40 : ac.eval (.tmp 40) = .bool false := hP 8 (by kernel_rfl)
        have e42 : ac.eval (.tmp 42) = .bool true := hP 10 (by kernel_rfl)
        exact rop_pick _ _ _ rfl false e40 (by simpa using e42) (wanted_none rfl) (hK _ _ (le8_refl _) rfl)
      · intro ac w' hF hB hT
        have e43 : ac.eval (.tmp 43) = .bool true := hT 11 (by decide)
        rw [hF.setsG [32, 33, 34, 35, 36, 37, 38, 39, 40, 41, 42, 43] (by kernel_rfl)]
        simp only [List.foldl_cons, List.foldl_nil, List.setIfInBounds_toArray, List.set_cons_succ, List.set_cons_zero, e43]
        generalize ac.eval (.tmp 32) = u32
        generalize ac.eval (.tmp 33) = u33
        generalize ac.eval (.tmp 34) = u34
        generalize ac.eval (.tmp 35) = u35
        generalize ac.eval (.tmp 36) = u36
        generalize ac.eval (.tmp 37) = u37
        generalize ac.eval (.tmp 38) = u38
        generalize ac.eval (.tmp 39) = u39
        generalize ac.eval (.tmp 40) = u40
        generalize ac.eval (.tmp 41) = u41
        generalize ac.eval (.tmp 42) = u42
        clear e43 hT hF ac
        have b4 := below_step b3 (Nat.le_refl _) hB
        go_wp2
        (try simp only [Exit.inBlock, Exit.then]); refine bodyPost_ret (results_tmp4 rfl _ _ _) rfl ?_
        exact ⟨rfl, b4⟩
    · clear hE3 hbad he
      try simp only [Act.put]
      refine wp_region_tab0 [RT.is (.pointer (some ⟨q, 0, none⟩)), RT.is (.int .i64 0), RT.is (.bool false), RT.is (.bool false), RT.is (.int .i64 (P : Int)), RT.is (.int .i64 (m : Int)), RT.is (.bool true), RT.is (.bool true), RT.is (.bool true), RT.any, RT.any, RT.is (.bool true)] (by kernel_rfl) (by kernel_rfl) (by kernel_rfl) ⟨?_, ?_, ?_, ?_, ?_, ?_, ?_, ?_, ?_, ?_, ?_, ?_, trivial⟩ ?_
      · intro ac w' hF hL hP hU K hK
        have hB : Below _ _ _ := hL
        have e7 : ac.eval (.tmp 7) = .pointer (some ⟨q, 0, none⟩) := hF.at 7 (by kernel_rfl)
        exact rop_move _ rfl e7 (wanted_none rfl) (hK _ _ (le8_refl _) rfl)
      · intro ac w' hF hL hP hU K hK
        have hB : Below _ _ _ := hL
        have e32 : ac.eval (.tmp 32) = .pointer (some ⟨q, 0, none⟩) := hP 0 (by kernel_rfl)
        refine rop_call 43 _ _ rfl #[.pointer (some ⟨q, 0, none⟩)] (by simp [e32]) (by kernel_rfl) (wanted_none rfl) ?_
        refine (HEND.out q S w' hS (s3.old hB s3.lt)).mono ?_
        rintro e w2 ⟨rfl, hb⟩
        exact ⟨_, rfl, hK _ _ hb rfl⟩
      · intro ac w' hF hL hP hU K hK
        have hB : Below _ _ _ := hL
        have e33 : ac.eval (.tmp 33) = .int .i64 0 := hP 1 (by kernel_rfl)
        exact rop_bin _ _ _ _ _ rfl e33 rfl (guard_int _ _ _ _ _ _ _ w') (neq_err0 w') (wanted_none rfl) (hK _ _ (le8_refl _) rfl)
      · intro ac w' hF hL hP hU K hK
        have hB : Below _ _ _ := hL
        have e34 : ac.eval (.tmp 34) = .bool false := hP 2 (by kernel_rfl)
        exact rop_move _ rfl e34 (wanted_none rfl) (hK _ _ (le8_refl _) rfl)
      · intro ac w' hF hL hP hU K hK
        have hB : Below _ _ _ := hL
        have e8 : ac.eval (.tmp 8) = .int .i64 (P : Int) := hF.at 8 (by kernel_rfl)
        have e35 : ac.eval (.tmp 35) = .bool false := hP 3 (by kernel_rfl)
        exact rop_move _ rfl e8 (wanted_of (j := 3) (b := false) rfl rfl e35) (hK _ _ (le8_refl _) rfl)
      · intro ac w' hF hL hP hU K hK
        have hB : Below _ _ _ := hL
        have e6 : ac.eval (.tmp 6) = .int .i64 (m : Int) := hF.at 6 (by kernel_rfl)
        have e35 : ac.eval (.tmp 35) = .bool false := hP 3 (by kernel_rfl)
        exact rop_move _ rfl e6 (wanted_of (j := 3) (b := false) rfl rfl e35) (hK _ _ (le8_refl _) rfl)
      · intro ac w' hF hL hP hU K hK
        have hB : Below _ _ _ := hL
        have e36 : ac.eval (.tmp 36) = .int .i64 (P : Int) := hP 4 (by kernel_rfl)
        have e37 : ac.eval (.tmp 37) = .int .i64 (m : Int) := hP 5 (by kernel_rfl)
        have e35 : ac.eval (.tmp 35) = .bool false := hP 3 (by kernel_rfl)
        exact rop_bin _ _ _ _ _ rfl e36 e37 (guard_int _ _ _ _ _ _ _ w') (geq_iG _ _ _ (decide_eq_true (by omega)) w') (wanted_of (j := 3) (b := false) rfl rfl e35) (hK _ _ (le8_refl _) rfl)
      · intro ac w' hF hL hP hU K hK
        have hB : Below _ _ _ := hL
        have e35 : ac.eval (.tmp 35) = .bool false := hP 3 (by kernel_rfl)
        have e38 : ac.eval (.tmp 38) = .bool true := hP 6 (by kernel_rfl)
        exact rop_pick _ _ _ rfl false e35 (by simpa using e38) (wanted_none rfl) (hK _ _ (le8_refl _) rfl)
      · intro ac w' hF hL hP hU K hK
        have hB : Below _ _ _ := hL
        have e39 : ac.eval (.tmp 39) = .bool true := hP 7 (by kernel_rfl)
        exact rop_move _ rfl e39 (wanted_none rfl) (hK _ _ (le8_refl _) rfl)
      · intro ac w' hF hL hP hU K hK
        have hB : Below _ _ _ := hL
        have e40 : ac.eval (.tmp 40) = .bool true := hP 8 (by kernel_rfl)
        exact rop_offG (j := 8) (b := false) rfl rfl e40 (by decide) (hK _ _ (le8_refl _) trivial)
      · intro ac w' hF hL hP hU K hK
        have hB : Below _ _ _ := hL
        have e40 : ac.eval (.tmp 40) = .bool true := hP 8 (by kernel_rfl)
        exact rop_offG (j := 8) (b := false) rfl rfl e40 (by decide) (hK _ _ (le8_refl _) trivial)
      · intro ac w' hF hL hP hU K hK
        have hB : Below _ _ _ := hL
        have e40 : ac.eval (.tmp 40) = .bool true := hP 8 (by kernel_rfl)
        exact rop_pick _ _ _ rfl true e40 (by rfl) (wanted_none rfl) (hK _ _ (le8_refl _) rfl)
      · intro ac w' hF hB hT
        have e43 : ac.eval (.tmp 43) = .bool true := hT 11 (by decide)
        rw [hF.setsG [32, 33, 34, 35, 36, 37, 38, 39, 40, 41, 42, 43] (by kernel_rfl)]
        simp only [List.foldl_cons, List.foldl_nil, List.setIfInBounds_toArray, List.set_cons_succ, List.set_cons_zero, e43]
        generalize ac.eval (.tmp 32) = u32
        generalize ac.eval (.tmp 33) = u33
        generalize ac.eval (.tmp 34) = u34
        generalize ac.eval (.tmp 35) = u35
        generalize ac.eval (.tmp 36) = u36
        generalize ac.eval (.tmp 37) = u37
        generalize ac.eval (.tmp 38) = u38
        generalize ac.eval (.tmp 39) = u39
        generalize ac.eval (.tmp 40) = u40
        generalize ac.eval (.tmp 41) = u41
        generalize ac.eval (.tmp 42) = u42
        clear e43 hT hF ac
        have b4 := below_step b3 (Nat.le_refl _) hB
        go_wp2
        (try simp only [Exit.inBlock, Exit.then]); refine bodyPost_ret (results_tmp4 rfl _ _ _) rfl ?_
        exact ⟨rfl, b4⟩
  · rw [he] at hE3
    have HEND := Lib.hid hE3
    clear hE3 hbad he
    try simp only [Act.put]
    refine wp_region_tab0 [RT.is (.pointer (some ⟨q, 0, none⟩)), RT.is (.int .i64 10), RT.is (.bool true), RT.is (.bool true), RT.any, RT.any, RT.any, RT.is (.bool true), RT.is (.bool true), RT.any, RT.any, RT.is (.bool true)] (by kernel_rfl) (by kernel_rfl) (by kernel_rfl) ⟨?_, ?_, ?_, ?_, ?_, ?_, ?_, ?_, ?_, ?_, ?_, ?_, trivial⟩ ?_
    · intro ac w' hF hL hP hU K hK
      have hB : Below _ _ _ := hL
      have e7 : ac.eval (.tmp 7) = .pointer (some ⟨q, 0, none⟩) := hF.at 7 (by kernel_rfl)
      exact rop_move _ rfl e7 (wanted_none rfl) (hK _ _ (le8_refl _) rfl)
    · intro ac w' hF hL hP hU K hK
      have hB : Below _ _ _ := hL
      have e32 : ac.eval (.tmp 32) = .pointer (some ⟨q, 0, none⟩) := hP 0 (by kernel_rfl)
      refine rop_call 43 _ _ rfl #[.pointer (some ⟨q, 0, none⟩)] (by simp [e32]) (by kernel_rfl) (wanted_none rfl) ?_
      refine (HEND.out q S w' hS (s3.old hB s3.lt)).mono ?_
      rintro e w2 ⟨rfl, hb⟩
      exact ⟨_, rfl, hK _ _ hb rfl⟩
    · intro ac w' hF hL hP hU K hK
      have hB : Below _ _ _ := hL
      have e33 : ac.eval (.tmp 33) = .int .i64 10 := hP 1 (by kernel_rfl)
      exact rop_bin _ _ _ _ _ rfl e33 rfl (guard_int _ _ _ _ _ _ _ w') (neq_err10 w') (wanted_none rfl) (hK _ _ (le8_refl _) rfl)
    · intro ac w' hF hL hP hU K hK
      have hB : Below _ _ _ := hL
      have e34 : ac.eval (.tmp 34) = .bool true := hP 2 (by kernel_rfl)
      exact rop_move _ rfl e34 (wanted_none rfl) (hK _ _ (le8_refl _) rfl)
    · intro ac w' hF hL hP hU K hK
      have hB : Below _ _ _ := hL
      have e35 : ac.eval (.tmp 35) = .bool true := hP 3 (by kernel_rfl)
      exact rop_offG (j := 3) (b := false) rfl rfl e35 (by decide) (hK _ _ (le8_refl _) trivial)
    · intro ac w' hF hL hP hU K hK
      have hB : Below _ _ _ := hL
      have e35 : ac.eval (.tmp 35) = .bool true := hP 3 (by kernel_rfl)
      exact rop_offG (j := 3) (b := false) rfl rfl e35 (by decide) (hK _ _ (le8_refl _) trivial)
    · intro ac w' hF hL hP hU K hK
      have hB : Below _ _ _ := hL
      have e35 : ac.eval (.tmp 35) = .bool true := hP 3 (by kernel_rfl)
      exact rop_offG (j := 3) (b := false) rfl rfl e35 (by decide) (hK _ _ (le8_refl _) trivial)
    · intro ac w' hF hL hP hU K hK
      have hB : Below _ _ _ := hL
      have e35 : ac.eval (.tmp 35) = .bool true := hP 3 (by kernel_rfl)
      exact rop_pick _ _ _ rfl true e35 (by rfl) (wanted_none rfl) (hK _ _ (le8_refl _) rfl)
    · intro ac w' hF hL hP hU K hK
      have hB : Below _ _ _ := hL
      have e39 : ac.eval (.tmp 39) = .bool true := hP 7 (by kernel_rfl)
      exact rop_move _ rfl e39 (wanted_none rfl) (hK _ _ (le8_refl _) rfl)
    · intro ac w' hF hL hP hU K hK
      have hB : Below _ _ _ := hL
      have e40 : ac.eval (.tmp 40) = .bool true := hP 8 (by kernel_rfl)
      exact rop_offG (j := 8) (b := false) rfl rfl e40 (by decide) (hK _ _ (le8_refl _) trivial)
    · intro ac w' hF hL hP hU K hK
      have hB : Below _ _ _ := hL
      have e40 : ac.eval (.tmp 40) = .bool true := hP 8 (by kernel_rfl)
      exact rop_offG (j := 8) (b := false) rfl rfl e40 (by decide) (hK _ _ (le8_refl _) trivial)
    · intro ac w' hF hL hP hU K hK
      have hB : Below _ _ _ := hL
      have e40 : ac.eval (.tmp 40) = .bool true := hP 8 (by kernel_rfl)
      exact rop_pick _ _ _ rfl true e40 (by rfl) (wanted_none rfl) (hK _ _ (le8_refl _) rfl)
    · intro ac w' hF hB hT
      have e43 : ac.eval (.tmp 43) = .bool true := hT 11 (by decide)
      rw [hF.setsG [32, 33, 34, 35, 36, 37, 38, 39, 40, 41, 42, 43] (by kernel_rfl)]
      simp only [List.foldl_cons, List.foldl_nil, List.setIfInBounds_toArray, List.set_cons_succ, List.set_cons_zero, e43]
      generalize ac.eval (.tmp 32) = u32
      generalize ac.eval (.tmp 33) = u33
      generalize ac.eval (.tmp 34) = u34
      generalize ac.eval (.tmp 35) = u35
      generalize ac.eval (.tmp 36) = u36
      generalize ac.eval (.tmp 37) = u37
      generalize ac.eval (.tmp 38) = u38
      generalize ac.eval (.tmp 39) = u39
      generalize ac.eval (.tmp 40) = u40
      generalize ac.eval (.tmp 41) = u41
      generalize ac.eval (.tmp 42) = u42
      clear e43 hT hF ac
      have b4 := below_step b3 (Nat.le_refl _) hB
      go_wp2
      (try simp only [Exit.inBlock, Exit.then]); refine bodyPost_ret (results_tmp4 rfl _ _ _) rfl ?_
      exact ⟨rfl, b4⟩

theorem index_strs (b o n cap k : Nat) (K : Int) (hK : K = (k : Int)) (h : k < n) (w : World) : (Instr.indexAt 30 (.slice (some ⟨b, o, none⟩) n cap) (.int .i64 K)).run Tryz.prog w = .ok (.pointer (some ⟨b, o + k, none⟩)) w := by
  subst hK
  go_simp
theorem load_str7 {b o : Nat} {s : ByteArray} {w : World} (h0 : w.cell? ⟨b, o, none⟩ = some (.string s)) : (Instr.loadAt 9 (.pointer (some ⟨b, o, none⟩))).run Tryz.prog w = .ok (.string s) w := by
  go_simp
theorem rem_int (a m r : Int) (h : a.tmod m = r) (hm : ¬ m = 0) (hb : -9223372036854775808 ≤ r ∧ r ≤ 9223372036854775807) (w : World) : (binOp .rem 3 (.int .i64 a) (.int .i64 m)).run Tryz.prog w = .ok (.int .i64 r) w := by
  have hw := IntWalk.i64_in r hb
  go_simp
/-! ### Rows beside a scanner -/
theorem own_type {T : TypeId} {sz n g : Nat} {v : Value} {xs : List Value} {w : World} (h : w.ownsRow 0 T sz v n xs) (e : v.ownBlock = some g) : ∃ C, w.heap[g]? = some (.cells C T (0, 0)) := by
  rcases h.2 with ⟨rfl, _⟩ | ⟨g', cap, cur, rfl, _, hg, _⟩
  · simp [Value.ownBlock] at e
  · simp [Value.ownBlock] at e
    subst e
    exact ⟨_, hg⟩
theorem own_kept {T : TypeId} {sz n : Nat} {v : Value} {xs : List Value} {w w' : World} (h : w.ownsRow 0 T sz v n xs) (hk : ∀ g, v.ownBlock = some g → w'.heap[g]? = w.heap[g]?) : w'.ownsRow 0 T sz v n xs := by
  refine ⟨h.1, ?_⟩
  rcases h.2 with e | ⟨g, cap, cur, e1, e2, hg, r⟩
  · exact .inl e
  · exact .inr ⟨g, cap, cur, e1, e2, (hk g (by rw [e1]; rfl)).trans hg, r⟩
theorem own_scan {T : TypeId} {sz n q : Nat} {S : ByteArray} {st : Option (List UInt8)} {v : Value} {xs : List Value} {w w' : World} (hT : T ≠ 84) (h : w.ownsRow 0 T sz v n xs) (hs : RScn q S st w) (ho : Only q w w') : w'.ownsRow 0 T sz v n xs := by
  refine own_kept h fun g e => ho.block g (World.ownsRow.lt h g e).2 fun e' => ?_
  obtain ⟨C, hC⟩ := own_type h e
  obtain ⟨p, bad, _, hR, _⟩ := hs
  unfold RAt at hR
  rw [e', hR] at hC
  simp at hC
  exact hT hC.2.symm
theorem own_grown {T T' : TypeId} {sz sz' n n' : Nat} {v v' : Value} {xs xs' : List Value} {w w' : World} (hT : T ≠ T') (h : w.ownsRow 0 T sz v n xs) (h' : w.ownsRow 0 T' sz' v' n' xs') (hg : w.grownBy w' v'.ownBlock) : w'.ownsRow 0 T sz v n xs := by
  refine own_kept h fun g e => hg.block g (World.ownsRow.lt h g e).2 fun e' => ?_
  obtain ⟨C, hC⟩ := own_type h e
  obtain ⟨D, hD⟩ := own_type h' e'.symm
  rw [hC] at hD
  simp at hD
  exact hT hD.2
theorem rscn_grown {T' : TypeId} {sz' n' q : Nat} {S : ByteArray} {st : Option (List UInt8)} {v' : Value} {xs' : List Value} {w w' : World} (hT : T' ≠ 84) (h : RScn q S st w) (h' : w.ownsRow 0 T' sz' v' n' xs') (hg : w.grownBy w' v'.ownBlock) : RScn q S st w' := by
  obtain ⟨p, bad, hp, hR, hst⟩ := h
  refine ⟨p, bad, hp, ?_, hst⟩
  have hlt := hR.lt
  unfold RAt at hR ⊢
  rw [hg.block q hlt fun e' => ?_]
  · exact hR
  · obtain ⟨D, hD⟩ := own_type h' e'.symm
    rw [hR] at hD
    simp at hD
    exact hT hD.2.symm
theorem nmK_get (st : Option (List UInt8)) (most : Int) (n i : Nat) (h : i < n) : (nmK st most n).getD i 0 = numV (afK st most i) most := by
  unfold nmK
  rw [List.getD_eq_getElem?_getD, List.getElem?_map, List.getElem?_range h]
  rfl
/-- The first k writes of a transaction, as the document reads them. -/
def putsK (st : Option (List UInt8)) (R : Nat → ByteArray) (m p k : Nat) : Jnl.Txn := (List.range k).map fun i => (numV (afK st (65535 : Nat) i) (65535 : Nat), R ((p + (1 + i)) % m))
theorem putsK_succ (st : Option (List UInt8)) (R : Nat → ByteArray) (m p k : Nat) : putsK st R m p (k + 1) = putsK st R m p k ++ [(numV (afK st (65535 : Nat) k) (65535 : Nat), R ((p + (1 + k)) % m))] := by simp [putsK, List.range_succ]
theorem putsK_at (st : Option (List UInt8)) (R : Nat → ByteArray) (m p n : Nat) : ((List.range n).map fun i => ((nmK st (65535 : Nat) n).getD i 0, R ((p + (1 + i)) % m))) = putsK st R m p n := by
  unfold putsK
  exact List.map_congr_left fun i hi => by rw [nmK_get _ _ _ _ (List.mem_range.1 hi)]
theorem putsK_len (st : Option (List UInt8)) (R : Nat → ByteArray) (m p k : Nat) : (putsK st R m p k).length = k := by simp [putsK]
/-- What holds ahead of write k. -/
def InRel7 (B q : Nat) (S : ByteArray) (st : Option (List UInt8)) (R : Nat → ByteArray) (m p n : Nat) (wo : World) (s15 s16 s17 : Value) (wr : World) : Prop :=
  ∃ k : Nat, s17 = .int .i64 (k : Int) ∧ k ≤ n ∧ RScn q S (afK st (65535 : Nat) k) wr ∧ (OwnI s16 ((nmK st (65535 : Nat) k).map Int.ofNat) wr ∧ ∀ g, s16.ownBlock = some g → B ≤ g) ∧ (CacheAt s15 (putsK st R m p k) wr ∧ ∀ g, s15.ownBlock = some g → B ≤ g) ∧ Below B wo wr
theorem put_one (w : World) (a : Int) (s : ByteArray) : ∀ j u, [Value.int .i64 a, .string s][j]? = some u → (w.alloc (.cells #[.int .i64 a, .string s] 64)).cell? ⟨w.heap.size, j, none⟩ = some u := by
  intro j u hu
  rw [cell_of (heap_alloc_last w _)]
  match j, hu with
  | 0, hu => simpa using hu
  | 1, hu => simpa using hu

/-! ### What the document's look finds -/
theorem fE_none {x : ByteArray} (h : f2 x = none) : ∀ k, afK (f2 x) (65535 : Nat) k = none := by
  intro k
  induction k with
  | zero => exact h
  | succ k ih => show numS (afK (f2 x) (65535 : Nat) k) _ = none; rw [ih]; exact numS_of_none _
theorem txF_stop {R : Nat → ByteArray} {m p s left : Nat} {X : ByteArray} (hX : X = R (p % m)) (h : f2 X = none ∨ fFound X ≠ s ∨ fN X < 1 ∨ left < fN X + 2 ∨ endV (afK (f2 X) (65535 : Nat) (fN X)) ≠ 0 ∨ R ((p + (fN X + 1)) % m) ≠ lsL s (fN X)) : txF R m p s left = none := by
  unfold txF
  rw [← hX]
  rw [if_neg]
  intro hc
  simp only [Bool.and_eq_true, decide_eq_true_eq] at hc
  obtain ⟨⟨h1, h2⟩, h3⟩ := hc
  have h1' := h1
  unfold fOk at h1'
  simp only [Bool.and_eq_true, decide_eq_true_eq] at h1'
  obtain ⟨⟨k1, k2⟩, k3⟩ := h1'
  rcases h with h | h | h | h | h | h
  · rw [fE_none h] at k1; cases k1
  · exact h k2
  · omega
  · omega
  · exact h k1
  · exact h h3
theorem txF_go {R : Nat → ByteArray} {m p s left : Nat} {X : ByteArray} (hX : X = R (p % m)) (h1 : fFound X = s) (h2 : 1 ≤ fN X) (h3 : fN X + 2 ≤ left) (h4 : endV (afK (f2 X) (65535 : Nat) (fN X)) = 0) (h5 : R ((p + (fN X + 1)) % m) = lsL s (fN X)) : txF R m p s left = some ((List.range (fN X)).map fun i => ((fAt X).getD i 0, R ((p + (1 + i)) % m))) := by
  unfold txF
  rw [← hX]
  rw [if_pos]
  simp only [Bool.and_eq_true, decide_eq_true_eq]
  refine ⟨⟨?_, h3⟩, h5⟩
  unfold fOk
  simp only [Bool.and_eq_true, decide_eq_true_eq]
  exact ⟨⟨h4, h1⟩, h2⟩
set_option maxHeartbeats 12800000 in
set_option maxRecDepth 100000 in
theorem refScan_ok (ts : List ByteArray) (m : Nat) (X0 : ByteArray) (rv : Value) (w : World) (hv : StrRow w rv ts) (hm : ts.length = m + 1) (hX : X0 = ts.getD 0 .empty) (hm2 : m ≤ 60000) (hsz : ∀ t ∈ ts, t.size ≤ 1000000) (h3 : 3 ≤ m) (hok : hOk X0 m = true) :
    Calls Tryz.prog 16 #[rv] w fun e w' => ∃ l v', e = .returned (.tuple #[.int .i64 ((hP X0 m + Jnl.slots l) % m : Nat), .int .i64 (hS X0 m + l.length : Nat), v', .bool true]) ∧ Found (rowR (ts.drop 1)) m (hP X0 m) (hS X0 m) l ∧ Rows w.heap.size v' l w' ∧ Below w.heap.size w w' := by
  obtain ⟨ra, rcap, rfl, _, hc⟩ := hv
  obtain ⟨b, off, rfl, hb, hj⟩ := hc (by intro e; rw [e] at hm; simp at hm)
  have hx0 : X0.size ≤ 1000000 := by
    rw [hX, List.getD_eq_getElem?_getD, List.getElem?_eq_getElem (by omega)]
    exact hsz _ (List.getElem_mem _)
  have c0 : w.cell? ⟨b, off, none⟩ = some (.string X0) := by have := hj 0 (by omega); rwa [Nat.add_zero, ← hX] at this
  have hwm := IntWalk.i64_in ((m : Int)) (by omega)
  have hwm1 := IntWalk.i64_in ((m : Int) + 1) (by omega)
  have ht := refText7_any X0 72 w hx0
  unfold mkB at ht
  obtain ⟨hd1, hd2⟩ := head_doc X0 m (by omega) (by omega)
  rw [hm]
  have hN1 := refNum_any (textOf X0 [83, 67, 72]) 65535 65535 rfl (by decide)
  have hN2 := refNum_any (dT X0) 549755813888 549755813888 rfl (by decide)
  have hE3 := refEnd_any (dE X0)
  change ∀ (q : Nat) (S : ByteArray) (u : World), S.size ≤ 1000000 → RScn q S _ u → Calls Tryz.prog _ _ u fun e w' => e = .returned (.int .i64 (dP X0 : Nat)) ∧ RScn q S (dT X0) w' ∧ Only q u w' at hN1
  change ∀ (q : Nat) (S : ByteArray) (u : World), S.size ≤ 1000000 → RScn q S _ u → Calls Tryz.prog _ _ u fun e w' => e = .returned (.int .i64 (dS X0 : Nat)) ∧ RScn q S (dE X0) w' ∧ Only q u w' at hN2
  obtain ⟨hend, hPm, hQ1⟩ := hd1.1 hok
  obtain ⟨hPe, hQe⟩ := hd2 hok
  rw [← hPe, ← hQe]
  have hQ63 : dS X0 ≤ 549755813888 := numV_most _ _
  obtain ⟨R, hRd⟩ : ∃ R, R = rowR (ts.drop 1) := ⟨_, rfl⟩
  have hRv : ∀ i, i < m → R i = ts.getD (1 + i) .empty := fun i hi => by
    rw [hRd]
    unfold rowR
    rw [List.getD_eq_getElem?_getD, List.getElem?_drop, ← List.getD_eq_getElem?_getD]
  have hRs : ∀ i, i < m → (R i).size ≤ 1000000 := fun i hi => by
    rw [hRv i hi, List.getD_eq_getElem?_getD, List.getElem?_eq_getElem (by omega)]
    exact hsz _ (List.getElem_mem _)
  have hRc : ∀ i, i < m → w.cell? ⟨b, off + (1 + i), none⟩ = some (.string (R i)) := fun i hi => by
    have := hj (1 + i) (by omega)
    rwa [← hRv i hi] at this
  rw [hend] at hE3
  have HEND := Lib.hid hE3
  have HRC := Lib.hid hRc
  have HRS := Lib.hid hRs
  rw [← hRd]
  clear hd1 hd2 hok hsz hc hj hX hm hPe hQe hend hRv hRd hE3 hRs hRc
  generalize dP X0 = P at *
  generalize dS X0 = Q at *
  generalize dT X0 = st1 at *
  generalize dE X0 = st2 at *
  generalize textOf X0 [83, 67, 72] = st0 at *
  have HT := Lib.hid ht
  have HN1 := Lib.hid hN1
  have HN2 := Lib.hid hN2
  clear ht hN1 hN2
  go_enter Tryz.func16, Tryz.ntmps16
  go_upto_region 7 with (first
    | (go_at_call 41; refine HT.out.mono ?_; rintro e w1 ⟨q, S, rfl, s1, hS, hq, b1⟩)
    | (go_at_call 42; with_reducible refine (HN1.out q S w1 hS s1).mono ?_; rintro e w2 ⟨rfl, s2, o2⟩)
    | (go_at_call 42; with_reducible refine (HN2.out q S w2 hS s2).mono ?_; rintro e w3 ⟨rfl, s3, o3⟩))
  have b3 : Below w.heap.size w w3 := (b1.trans (o2.below hq b1.size)).trans (o3.below hq (b1.trans (o2.below hq b1.size)).size)

  try simp only [Act.put]
  refine wp_region_tab0 [RT.is (.pointer (some ⟨q, 0, none⟩)), RT.is (.int .i64 0), RT.is (.bool false), RT.is (.bool false), RT.is (.int .i64 (P : Int)), RT.is (.int .i64 (m : Int)), RT.is (.bool false), RT.is (.bool false), RT.is (.bool false), RT.is (.int .i64 (Q : Int)), RT.is (.bool false), RT.is (.bool false)] (by kernel_rfl) (by kernel_rfl) (by kernel_rfl) ⟨?_, ?_, ?_, ?_, ?_, ?_, ?_, ?_, ?_, ?_, ?_, ?_, trivial⟩ ?_
  · intro ac w' hF hL hP hU K hK
    have hB : Below _ _ _ := hL
    have e7 : ac.eval (.tmp 7) = .pointer (some ⟨q, 0, none⟩) := hF.at 7 (by kernel_rfl)
    exact rop_move _ rfl e7 (wanted_none rfl) (hK _ _ (le8_refl _) rfl)
  · intro ac w' hF hL hP hU K hK
    have hB : Below _ _ _ := hL
    have e32 : ac.eval (.tmp 32) = .pointer (some ⟨q, 0, none⟩) := hP 0 (by kernel_rfl)
    refine rop_call 43 _ _ rfl #[.pointer (some ⟨q, 0, none⟩)] (by simp [e32]) (by kernel_rfl) (wanted_none rfl) ?_
    refine (HEND.out q S w' hS (s3.old hB s3.lt)).mono ?_
    rintro e w2 ⟨rfl, hb⟩
    exact ⟨_, rfl, hK _ _ hb rfl⟩
  · intro ac w' hF hL hP hU K hK
    have hB : Below _ _ _ := hL
    have e33 : ac.eval (.tmp 33) = .int .i64 0 := hP 1 (by kernel_rfl)
    exact rop_bin _ _ _ _ _ rfl e33 rfl (guard_int _ _ _ _ _ _ _ w') (neq_err0 w') (wanted_none rfl) (hK _ _ (le8_refl _) rfl)
  · intro ac w' hF hL hP hU K hK
    have hB : Below _ _ _ := hL
    have e34 : ac.eval (.tmp 34) = .bool false := hP 2 (by kernel_rfl)
    exact rop_move _ rfl e34 (wanted_none rfl) (hK _ _ (le8_refl _) rfl)
  · intro ac w' hF hL hP hU K hK
    have hB : Below _ _ _ := hL
    have e8 : ac.eval (.tmp 8) = .int .i64 (P : Int) := hF.at 8 (by kernel_rfl)
    have e35 : ac.eval (.tmp 35) = .bool false := hP 3 (by kernel_rfl)
    exact rop_move _ rfl e8 (wanted_of (j := 3) (b := false) rfl rfl e35) (hK _ _ (le8_refl _) rfl)
  · intro ac w' hF hL hP hU K hK
    have hB : Below _ _ _ := hL
    have e6 : ac.eval (.tmp 6) = .int .i64 (m : Int) := hF.at 6 (by kernel_rfl)
    have e35 : ac.eval (.tmp 35) = .bool false := hP 3 (by kernel_rfl)
    exact rop_move _ rfl e6 (wanted_of (j := 3) (b := false) rfl rfl e35) (hK _ _ (le8_refl _) rfl)
  · intro ac w' hF hL hP hU K hK
    have hB : Below _ _ _ := hL
    have e36 : ac.eval (.tmp 36) = .int .i64 (P : Int) := hP 4 (by kernel_rfl)
    have e37 : ac.eval (.tmp 37) = .int .i64 (m : Int) := hP 5 (by kernel_rfl)
    have e35 : ac.eval (.tmp 35) = .bool false := hP 3 (by kernel_rfl)
    exact rop_bin _ _ _ _ _ rfl e36 e37 (guard_int _ _ _ _ _ _ _ w') (geq_iG _ _ _ (decide_eq_false (by omega)) w') (wanted_of (j := 3) (b := false) rfl rfl e35) (hK _ _ (le8_refl _) rfl)
  · intro ac w' hF hL hP hU K hK
    have hB : Below _ _ _ := hL
    have e35 : ac.eval (.tmp 35) = .bool false := hP 3 (by kernel_rfl)
    have e38 : ac.eval (.tmp 38) = .bool false := hP 6 (by kernel_rfl)
    exact rop_pick _ _ _ rfl false e35 (by simpa using e38) (wanted_none rfl) (hK _ _ (le8_refl _) rfl)
  · intro ac w' hF hL hP hU K hK
    have hB : Below _ _ _ := hL
    have e39 : ac.eval (.tmp 39) = .bool false := hP 7 (by kernel_rfl)
    exact rop_move _ rfl e39 (wanted_none rfl) (hK _ _ (le8_refl _) rfl)
  · intro ac w' hF hL hP hU K hK
    have hB : Below _ _ _ := hL
    have e9 : ac.eval (.tmp 9) = .int .i64 (Q : Int) := hF.at 9 (by kernel_rfl)
    have e40 : ac.eval (.tmp 40) = .bool false := hP 8 (by kernel_rfl)
    exact rop_move _ rfl e9 (wanted_of (j := 8) (b := false) rfl rfl e40) (hK _ _ (le8_refl _) rfl)
  · intro ac w' hF hL hP hU K hK
    have hB : Below _ _ _ := hL
    have e41 : ac.eval (.tmp 41) = .int .i64 (Q : Int) := hP 9 (by kernel_rfl)
    have e40 : ac.eval (.tmp 40) = .bool false := hP 8 (by kernel_rfl)
    exact rop_bin _ _ _ _ _ rfl e41 rfl (guard_int _ _ _ _ _ _ _ w') (lss_iG _ _ _ (decide_eq_false (by omega)) w') (wanted_of (j := 8) (b := false) rfl rfl e40) (hK _ _ (le8_refl _) rfl)
  · intro ac w' hF hL hP hU K hK
    have hB : Below _ _ _ := hL
    have e40 : ac.eval (.tmp 40) = .bool false := hP 8 (by kernel_rfl)
    have e42 : ac.eval (.tmp 42) = .bool false := hP 10 (by kernel_rfl)
    exact rop_pick _ _ _ rfl false e40 (by simpa using e42) (wanted_none rfl) (hK _ _ (le8_refl _) rfl)
  · intro ac w' hF hB hT
    have e43 : ac.eval (.tmp 43) = .bool false := hT 11 (by decide)
    rw [hF.setsG [32, 33, 34, 35, 36, 37, 38, 39, 40, 41, 42, 43] (by kernel_rfl)]
    simp only [List.foldl_cons, List.foldl_nil, List.setIfInBounds_toArray, List.set_cons_succ, List.set_cons_zero, e43]
    generalize ac.eval (.tmp 32) = u32
    generalize ac.eval (.tmp 33) = u33
    generalize ac.eval (.tmp 34) = u34
    generalize ac.eval (.tmp 35) = u35
    generalize ac.eval (.tmp 36) = u36
    generalize ac.eval (.tmp 37) = u37
    generalize ac.eval (.tmp 38) = u38
    generalize ac.eval (.tmp 39) = u39
    generalize ac.eval (.tmp 40) = u40
    generalize ac.eval (.tmp 41) = u41
    generalize ac.eval (.tmp 42) = u42
    clear e43 hT hF ac
    have b4 := below_step b3 (Nat.le_refl _) hB
    obtain ⟨W, hW⟩ : ∃ W, W = w' := ⟨_, rfl⟩
    subst hW
    clear b1 b3 hB s1 s2 s3 o2 o3 hq HN1 HN2 HT HEND hS
    go_wp2
    go_loopw [8, 9, 10, 11] (fun v8 v9 v10 v11 wr => ∃ l : List Jnl.Txn, Path R m P Q m l ∧ v8 = .int .i64 ((P + Jnl.slots l) % m : Nat) ∧ v9 = .int .i64 (Q + l.length : Nat) ∧ v11 = .int .i64 (Jnl.slots l : Nat) ∧ Rows w.heap.size v10 l wr ∧ Below w.heap.size w wr) (fun _ _ _ v11 _ => m - (intOf v11).toNat)
    case atStart => exact ⟨[], trivial, by rw [show P + Jnl.slots [] = P from rfl, Nat.mod_eq_of_lt hPm], rfl, rfl, Rows.nil _ _, b4⟩
    case round =>
      clear b4 c0
      obtain ⟨l, hpath, rfl, rfl, rfl, hrows, hbl⟩ := hrel
      obtain ⟨wo, hwo⟩ : ∃ wo, wo = wr := ⟨_, rfl⟩
      subst hwo
      have hroom := hpath.room
      have hge := slots_ge l
      obtain ⟨pl, hpl⟩ : ∃ pl, pl = (P + Jnl.slots l) % m := ⟨_, rfl⟩
      have hplm : pl < m := by rw [hpl]; exact Nat.mod_lt _ (by omega)
      obtain ⟨sq, hsq⟩ : ∃ sq, sq = Q + l.length := ⟨_, rfl⟩
      obtain ⟨us, hus⟩ : ∃ us, us = Jnl.slots l := ⟨_, rfl⟩
      obtain ⟨X, hXd⟩ : ∃ X, X = R pl := ⟨_, rfl⟩
      have hXs : X.size ≤ 1000000 := by rw [hXd]; exact HRS.out pl hplm
      have hcx : wo.cell? ⟨b, off + (1 + pl), none⟩ = some (.string X) := by rw [hXd]; exact (hbl.cell (p := ⟨b, _, none⟩) hb).trans (HRC.out pl hplm)
      have hXm : X = R ((P + us) % m) := by rw [hXd, hpl, hus]
      have ht2 := refText7_any X 68 wo hXs
      unfold mkB at ht2
      change Calls _ _ _ _ fun e w' => ∃ q S, e = .returned (.pointer (some ⟨q, 0, none⟩)) ∧ RScn q S (f0 X) w' ∧ S.size ≤ 1000000 ∧ wo.heap.size ≤ q ∧ Below wo.heap.size wo w' at ht2
      have hN3 := refNum_any (f0 X) 1099511627776 1099511627776 rfl (by decide)
      change ∀ (q : Nat) (S : ByteArray) (u : World), S.size ≤ 1000000 → RScn q S _ u → Calls Tryz.prog _ _ u fun e w' => e = .returned (.int .i64 (fFound X : Nat)) ∧ RScn q S (f1 X) w' ∧ Only q u w' at hN3
      have hN4 := refNum_any (f1 X) 60 60 rfl (by decide)
      change ∀ (q : Nat) (S : ByteArray) (u : World), S.size ≤ 1000000 → RScn q S _ u → Calls Tryz.prog _ _ u fun e w' => e = .returned (.int .i64 (fN X : Nat)) ∧ RScn q S (f2 X) w' ∧ Only q u w' at hN4
      have hf40 : fFound X ≤ 1099511627776 := numV_most _ _
      have hn60 := fN_le X
      have hcases : f2 X = none ∨ (f2 X ≠ none ∧ fFound X ≠ sq) ∨ (f2 X ≠ none ∧ fFound X = sq ∧ fN X < 1) ∨ (f2 X ≠ none ∧ fFound X = sq ∧ 1 ≤ fN X ∧ m - us < fN X + 2) ∨ (f2 X ≠ none ∧ fFound X = sq ∧ 1 ≤ fN X ∧ fN X + 2 ≤ m - us) := by
        by_cases a : f2 X = none
        · exact .inl a
        · by_cases b : fFound X = sq
          · by_cases c : fN X < 1
            · exact .inr (.inr (.inl ⟨a, b, c⟩))
            · by_cases d : m - us < fN X + 2
              · exact .inr (.inr (.inr (.inl ⟨a, b, by omega, d⟩)))
              · exact .inr (.inr (.inr (.inr ⟨a, b, by omega, by omega⟩)))
          · exact .inr (.inl ⟨a, b⟩)
      have hgo := txF_go (R := R) (m := m) (p := P + us) (s := sq) (left := m - us) hXm
      have hline : endV (afK (f2 X) (65535 : Nat) (fN X)) = 0 → fFound X = sq → 1 ≤ fN X → X = fsL sq (fAt X) := fun h1 h2 h3 => by
        refine (fOk_inv (s := sq) ?_).1
        unfold fOk
        simp only [Bool.and_eq_true, decide_eq_true_eq]
        exact ⟨⟨h1, h2⟩, h3⟩
      have hAt : fAt X = nmK (f2 X) (65535 : Nat) (fN X) := rfl
      have hAl := fAt_len X
      have hAle := fAt_le X
      have hstop := fun h => txF_stop (R := R) (m := m) (p := P + us) (s := sq) (left := m - us) hXm h
      generalize fAt X = At at *
      generalize fFound X = f at *
      generalize fN X = n at *
      generalize f2 X = st2 at *
      generalize f1 X = st1' at *
      generalize f0 X = st0' at *
      have HGO := Lib.hid hgo
      have HLI := Lib.hid hline
      have HAT := Lib.hid hAt
      have HAL := Lib.hid hAl
      have HALE := Lib.hid hAle
      have HCS := Lib.hid hcases
      have HT2 := Lib.hid ht2
      have HN3 := Lib.hid hN3
      have HN4 := Lib.hid hN4
      have HST := Lib.hid hstop
      have Hsq := Lib.hid hsq
      have Hus := Lib.hid hus
      have Hpl := Lib.hid hpl
      have Hpath := Lib.hid hpath
      have Hrows := Lib.hid hrows
      have HXm := Lib.hid hXm
      rw [← hpl, ← hsq, ← hus]
      have hus2 : us ≤ m := by omega
      have hsqb : sq ≤ 549755813888 + 60000 := by omega
      clear ht2 hN3 hN4 hstop hgo hline hAt hAl hAle hcases hXm hXd hsq hus hpl hpath hrows hroom hge
      go_upto_region 14 with (first
        | (go_at_call 41; refine HT2.out.mono ?_; rintro e w1 ⟨q, S, rfl, s1, hS, hq, b1⟩)
        | (go_at_call 42; with_reducible refine (HN3.out q S w1 hS s1).mono ?_; rintro e w2 ⟨rfl, s2, o2⟩)
        | (go_at_call 42; with_reducible refine (HN4.out q S w2 hS s2).mono ?_; rintro e w3 ⟨rfl, s3, o3⟩))
      have b3 : Below wo.heap.size wo w3 := (b1.trans (o2.below hq b1.size)).trans (o3.below hq (b1.trans (o2.below hq b1.size)).size)
      have cbad := s3.c2
      rcases HCS.out with a | ⟨a, a2⟩ | ⟨a, a2, a3⟩ | ⟨a, a2, a3, a4⟩ | ⟨a, a2, a3, a4⟩
      · have hnb : st2.isNone = true := by rw [a]; rfl
        rw [hnb] at cbad
        try simp only [Act.put]
        refine wp_region_tab0 [RT.is (.pointer (some ⟨q, 0, none⟩)), RT.is (.pointer (some ⟨q, 0, none⟩)), RT.is (.pointer (some ⟨q, 2, none⟩)), RT.is (.bool true), RT.is (.bool true), RT.any, RT.any, RT.any, RT.is (.bool true), RT.is (.bool true), RT.any, RT.any, RT.is (.bool true), RT.is (.bool true), RT.any, RT.any, RT.any, RT.any, RT.any, RT.any, RT.is (.bool true)] (by kernel_rfl) (by kernel_rfl) (by kernel_rfl) ⟨?_, ?_, ?_, ?_, ?_, ?_, ?_, ?_, ?_, ?_, ?_, ?_, ?_, ?_, ?_, ?_, ?_, ?_, ?_, ?_, ?_, trivial⟩ ?_
        · intro ac w' hF hL hP hU K hK
          have hB : Below _ _ _ := hL
          have e12 : ac.eval (.tmp 12) = .pointer (some ⟨q, 0, none⟩) := hF.at 12 (by kernel_rfl)
          exact rop_move _ rfl e12 (wanted_none rfl) (hK _ _ (le8_refl _) rfl)
        · intro ac w' hF hL hP hU K hK
          have hB : Below _ _ _ := hL
          have e54 : ac.eval (.tmp 54) = .pointer (some ⟨q, 0, none⟩) := hP 0 (by kernel_rfl)
          exact rop_nilG _ rfl e54 (wanted_none rfl) (hK _ _ (le8_refl _) rfl)
        · intro ac w' hF hL hP hU K hK
          have hB : Below _ _ _ := hL
          have e55 : ac.eval (.tmp 55) = .pointer (some ⟨q, 0, none⟩) := hP 1 (by kernel_rfl)
          exact rop_fld _ _ _ rfl e55 (fld_bad q w') (wanted_none rfl) (hK _ _ (le8_refl _) rfl)
        · intro ac w' hF hL hP hU K hK
          have hB : Below _ _ _ := hL
          have e56 : ac.eval (.tmp 56) = .pointer (some ⟨q, 2, none⟩) := hP 2 (by kernel_rfl)
          exact rop_ld _ _ rfl e56 (load_bool ((hB.cell (p := ⟨q, 2, none⟩) s3.lt).trans cbad)) (wanted_none rfl) (hK _ _ (le8_refl _) rfl)
        · intro ac w' hF hL hP hU K hK
          have hB : Below _ _ _ := hL
          have e57 : ac.eval (.tmp 57) = .bool true := hP 3 (by kernel_rfl)
          exact rop_move _ rfl e57 (wanted_none rfl) (hK _ _ (le8_refl _) rfl)
        · intro ac w' hF hL hP hU K hK
          have hB : Below _ _ _ := hL
          have e58 : ac.eval (.tmp 58) = .bool true := hP 4 (by kernel_rfl)
          exact rop_offG (j := 4) (b := false) rfl rfl e58 (by decide) (hK _ _ (le8_refl _) trivial)
        · intro ac w' hF hL hP hU K hK
          have hB : Below _ _ _ := hL
          have e58 : ac.eval (.tmp 58) = .bool true := hP 4 (by kernel_rfl)
          exact rop_offG (j := 4) (b := false) rfl rfl e58 (by decide) (hK _ _ (le8_refl _) trivial)
        · intro ac w' hF hL hP hU K hK
          have hB : Below _ _ _ := hL
          have e58 : ac.eval (.tmp 58) = .bool true := hP 4 (by kernel_rfl)
          exact rop_offG (j := 4) (b := false) rfl rfl e58 (by decide) (hK _ _ (le8_refl _) trivial)
        · intro ac w' hF hL hP hU K hK
          have hB : Below _ _ _ := hL
          have e58 : ac.eval (.tmp 58) = .bool true := hP 4 (by kernel_rfl)
          exact rop_pick _ _ _ rfl true e58 (by rfl) (wanted_none rfl) (hK _ _ (le8_refl _) rfl)
        · intro ac w' hF hL hP hU K hK
          have hB : Below _ _ _ := hL
          have e62 : ac.eval (.tmp 62) = .bool true := hP 8 (by kernel_rfl)
          exact rop_move _ rfl e62 (wanted_none rfl) (hK _ _ (le8_refl _) rfl)
        · intro ac w' hF hL hP hU K hK
          have hB : Below _ _ _ := hL
          have e63 : ac.eval (.tmp 63) = .bool true := hP 9 (by kernel_rfl)
          exact rop_offG (j := 9) (b := false) rfl rfl e63 (by decide) (hK _ _ (le8_refl _) trivial)
        · intro ac w' hF hL hP hU K hK
          have hB : Below _ _ _ := hL
          have e63 : ac.eval (.tmp 63) = .bool true := hP 9 (by kernel_rfl)
          exact rop_offG (j := 9) (b := false) rfl rfl e63 (by decide) (hK _ _ (le8_refl _) trivial)
        · intro ac w' hF hL hP hU K hK
          have hB : Below _ _ _ := hL
          have e63 : ac.eval (.tmp 63) = .bool true := hP 9 (by kernel_rfl)
          exact rop_pick _ _ _ rfl true e63 (by rfl) (wanted_none rfl) (hK _ _ (le8_refl _) rfl)
        · intro ac w' hF hL hP hU K hK
          have hB : Below _ _ _ := hL
          have e66 : ac.eval (.tmp 66) = .bool true := hP 12 (by kernel_rfl)
          exact rop_move _ rfl e66 (wanted_none rfl) (hK _ _ (le8_refl _) rfl)
        · intro ac w' hF hL hP hU K hK
          have hB : Below _ _ _ := hL
          have e67 : ac.eval (.tmp 67) = .bool true := hP 13 (by kernel_rfl)
          exact rop_offG (j := 13) (b := false) rfl rfl e67 (by decide) (hK _ _ (le8_refl _) trivial)
        · intro ac w' hF hL hP hU K hK
          have hB : Below _ _ _ := hL
          have e67 : ac.eval (.tmp 67) = .bool true := hP 13 (by kernel_rfl)
          exact rop_offG (j := 13) (b := false) rfl rfl e67 (by decide) (hK _ _ (le8_refl _) trivial)
        · intro ac w' hF hL hP hU K hK
          have hB : Below _ _ _ := hL
          have e67 : ac.eval (.tmp 67) = .bool true := hP 13 (by kernel_rfl)
          exact rop_offG (j := 13) (b := false) rfl rfl e67 (by decide) (hK _ _ (le8_refl _) trivial)
        · intro ac w' hF hL hP hU K hK
          have hB : Below _ _ _ := hL
          have e67 : ac.eval (.tmp 67) = .bool true := hP 13 (by kernel_rfl)
          exact rop_offG (j := 13) (b := false) rfl rfl e67 (by decide) (hK _ _ (le8_refl _) trivial)
        · intro ac w' hF hL hP hU K hK
          have hB : Below _ _ _ := hL
          have e67 : ac.eval (.tmp 67) = .bool true := hP 13 (by kernel_rfl)
          exact rop_offG (j := 13) (b := false) rfl rfl e67 (by decide) (hK _ _ (le8_refl _) trivial)
        · intro ac w' hF hL hP hU K hK
          have hB : Below _ _ _ := hL
          have e67 : ac.eval (.tmp 67) = .bool true := hP 13 (by kernel_rfl)
          exact rop_offG (j := 13) (b := false) rfl rfl e67 (by decide) (hK _ _ (le8_refl _) trivial)
        · intro ac w' hF hL hP hU K hK
          have hB : Below _ _ _ := hL
          have e67 : ac.eval (.tmp 67) = .bool true := hP 13 (by kernel_rfl)
          exact rop_pick _ _ _ rfl true e67 (by rfl) (wanted_none rfl) (hK _ _ (le8_refl _) rfl)
        · intro ac w' hF hB hT
          have e74 : ac.eval (.tmp 74) = .bool true := hT 20 (by decide)
          rw [hF.setsG [54, 55, 56, 57, 58, 59, 60, 61, 62, 63, 64, 65, 66, 67, 68, 69, 70, 71, 72, 73, 74] (by kernel_rfl)]
          simp only [List.foldl_cons, List.foldl_nil, List.setIfInBounds_toArray, List.set_cons_succ, List.set_cons_zero, e74]
          generalize ac.eval (.tmp 54) = u54
          generalize ac.eval (.tmp 55) = u55
          generalize ac.eval (.tmp 56) = u56
          generalize ac.eval (.tmp 57) = u57
          generalize ac.eval (.tmp 58) = u58
          generalize ac.eval (.tmp 59) = u59
          generalize ac.eval (.tmp 60) = u60
          generalize ac.eval (.tmp 61) = u61
          generalize ac.eval (.tmp 62) = u62
          generalize ac.eval (.tmp 63) = u63
          generalize ac.eval (.tmp 64) = u64
          generalize ac.eval (.tmp 65) = u65
          generalize ac.eval (.tmp 66) = u66
          generalize ac.eval (.tmp 67) = u67
          generalize ac.eval (.tmp 68) = u68
          generalize ac.eval (.tmp 69) = u69
          generalize ac.eval (.tmp 70) = u70
          generalize ac.eval (.tmp 71) = u71
          generalize ac.eval (.tmp 72) = u72
          generalize ac.eval (.tmp 73) = u73
          clear e74 hT hF ac
          have b5 := below_step b3 (Nat.le_refl _) hB
          go_wp2
          (try simp only [Exit.inBlock, Exit.then]); refine bodyPost_ret (results_tmp4 rfl _ _ _) rfl ?_
          refine ⟨l, _, ?_, ⟨Hpath.out, ?_⟩, Hrows.out.old b5, below_step hbl (Nat.le_refl _) b5⟩
          · have z1 : ((P : Int) + (Jnl.slots l : Int)) % (m : Int) = (pl : Int) := by rw [Hpl.out]; simp
            have z2 : (Q : Int) + (l.length : Int) = (sq : Int) := by rw [Hsq.out]; simp
            first
              | (rw [← Hpl.out, ← Hsq.out]; rfl)
              | (rw [z1, z2]; rfl)
          · rw [← Hus.out, ← Hsq.out]; exact HST.out (.inl a)
      · have hnb : st2.isNone = false := by cases st2 with
          | none => exact absurd rfl a
          | some r => rfl
        rw [hnb] at cbad
        clear hnb
        try simp only [Act.put]
        refine wp_region_tab0 [RT.is (.pointer (some ⟨q, 0, none⟩)), RT.is (.pointer (some ⟨q, 0, none⟩)), RT.is (.pointer (some ⟨q, 2, none⟩)), RT.is (.bool false), RT.is (.bool false), RT.is (.int .i64 (f : Int)), RT.is (.int .i64 (sq : Int)), RT.is (.bool true), RT.is (.bool true), RT.is (.bool true), RT.any, RT.any, RT.is (.bool true), RT.is (.bool true), RT.any, RT.any, RT.any, RT.any, RT.any, RT.any, RT.is (.bool true)] (by kernel_rfl) (by kernel_rfl) (by kernel_rfl) ⟨?_, ?_, ?_, ?_, ?_, ?_, ?_, ?_, ?_, ?_, ?_, ?_, ?_, ?_, ?_, ?_, ?_, ?_, ?_, ?_, ?_, trivial⟩ ?_
        · intro ac w' hF hL hP hU K hK
          have hB : Below _ _ _ := hL
          have e12 : ac.eval (.tmp 12) = .pointer (some ⟨q, 0, none⟩) := hF.at 12 (by kernel_rfl)
          exact rop_move _ rfl e12 (wanted_none rfl) (hK _ _ (le8_refl _) rfl)
        · intro ac w' hF hL hP hU K hK
          have hB : Below _ _ _ := hL
          have e54 : ac.eval (.tmp 54) = .pointer (some ⟨q, 0, none⟩) := hP 0 (by kernel_rfl)
          exact rop_nilG _ rfl e54 (wanted_none rfl) (hK _ _ (le8_refl _) rfl)
        · intro ac w' hF hL hP hU K hK
          have hB : Below _ _ _ := hL
          have e55 : ac.eval (.tmp 55) = .pointer (some ⟨q, 0, none⟩) := hP 1 (by kernel_rfl)
          exact rop_fld _ _ _ rfl e55 (fld_bad q w') (wanted_none rfl) (hK _ _ (le8_refl _) rfl)
        · intro ac w' hF hL hP hU K hK
          have hB : Below _ _ _ := hL
          have e56 : ac.eval (.tmp 56) = .pointer (some ⟨q, 2, none⟩) := hP 2 (by kernel_rfl)
          exact rop_ld _ _ rfl e56 (load_bool ((hB.cell (p := ⟨q, 2, none⟩) s3.lt).trans cbad)) (wanted_none rfl) (hK _ _ (le8_refl _) rfl)
        · intro ac w' hF hL hP hU K hK
          have hB : Below _ _ _ := hL
          have e57 : ac.eval (.tmp 57) = .bool false := hP 3 (by kernel_rfl)
          exact rop_move _ rfl e57 (wanted_none rfl) (hK _ _ (le8_refl _) rfl)
        · intro ac w' hF hL hP hU K hK
          have hB : Below _ _ _ := hL
          have e13 : ac.eval (.tmp 13) = .int .i64 (f : Int) := hF.at 13 (by kernel_rfl)
          have e58 : ac.eval (.tmp 58) = .bool false := hP 4 (by kernel_rfl)
          exact rop_move _ rfl e13 (wanted_of (j := 4) (b := false) rfl rfl e58) (hK _ _ (le8_refl _) rfl)
        · intro ac w' hF hL hP hU K hK
          have hB : Below _ _ _ := hL
          have e9 : ac.eval (.tmp 9) = .int .i64 (sq : Int) := hF.at 9 (by kernel_rfl)
          have e58 : ac.eval (.tmp 58) = .bool false := hP 4 (by kernel_rfl)
          exact rop_move _ rfl e9 (wanted_of (j := 4) (b := false) rfl rfl e58) (hK _ _ (le8_refl _) rfl)
        · intro ac w' hF hL hP hU K hK
          have hB : Below _ _ _ := hL
          have e59 : ac.eval (.tmp 59) = .int .i64 (f : Int) := hP 5 (by kernel_rfl)
          have e60 : ac.eval (.tmp 60) = .int .i64 (sq : Int) := hP 6 (by kernel_rfl)
          have e58 : ac.eval (.tmp 58) = .bool false := hP 4 (by kernel_rfl)
          exact rop_bin _ _ _ _ _ rfl e59 e60 (guard_int _ _ _ _ _ _ _ w') (neq_iG _ _ _ (decide_eq_true (by omega)) w') (wanted_of (j := 4) (b := false) rfl rfl e58) (hK _ _ (le8_refl _) rfl)
        · intro ac w' hF hL hP hU K hK
          have hB : Below _ _ _ := hL
          have e58 : ac.eval (.tmp 58) = .bool false := hP 4 (by kernel_rfl)
          have e61 : ac.eval (.tmp 61) = .bool true := hP 7 (by kernel_rfl)
          exact rop_pick _ _ _ rfl false e58 (by simpa using e61) (wanted_none rfl) (hK _ _ (le8_refl _) rfl)
        · intro ac w' hF hL hP hU K hK
          have hB : Below _ _ _ := hL
          have e62 : ac.eval (.tmp 62) = .bool true := hP 8 (by kernel_rfl)
          exact rop_move _ rfl e62 (wanted_none rfl) (hK _ _ (le8_refl _) rfl)
        · intro ac w' hF hL hP hU K hK
          have hB : Below _ _ _ := hL
          have e63 : ac.eval (.tmp 63) = .bool true := hP 9 (by kernel_rfl)
          exact rop_offG (j := 9) (b := false) rfl rfl e63 (by decide) (hK _ _ (le8_refl _) trivial)
        · intro ac w' hF hL hP hU K hK
          have hB : Below _ _ _ := hL
          have e63 : ac.eval (.tmp 63) = .bool true := hP 9 (by kernel_rfl)
          exact rop_offG (j := 9) (b := false) rfl rfl e63 (by decide) (hK _ _ (le8_refl _) trivial)
        · intro ac w' hF hL hP hU K hK
          have hB : Below _ _ _ := hL
          have e63 : ac.eval (.tmp 63) = .bool true := hP 9 (by kernel_rfl)
          exact rop_pick _ _ _ rfl true e63 (by rfl) (wanted_none rfl) (hK _ _ (le8_refl _) rfl)
        · intro ac w' hF hL hP hU K hK
          have hB : Below _ _ _ := hL
          have e66 : ac.eval (.tmp 66) = .bool true := hP 12 (by kernel_rfl)
          exact rop_move _ rfl e66 (wanted_none rfl) (hK _ _ (le8_refl _) rfl)
        · intro ac w' hF hL hP hU K hK
          have hB : Below _ _ _ := hL
          have e67 : ac.eval (.tmp 67) = .bool true := hP 13 (by kernel_rfl)
          exact rop_offG (j := 13) (b := false) rfl rfl e67 (by decide) (hK _ _ (le8_refl _) trivial)
        · intro ac w' hF hL hP hU K hK
          have hB : Below _ _ _ := hL
          have e67 : ac.eval (.tmp 67) = .bool true := hP 13 (by kernel_rfl)
          exact rop_offG (j := 13) (b := false) rfl rfl e67 (by decide) (hK _ _ (le8_refl _) trivial)
        · intro ac w' hF hL hP hU K hK
          have hB : Below _ _ _ := hL
          have e67 : ac.eval (.tmp 67) = .bool true := hP 13 (by kernel_rfl)
          exact rop_offG (j := 13) (b := false) rfl rfl e67 (by decide) (hK _ _ (le8_refl _) trivial)
        · intro ac w' hF hL hP hU K hK
          have hB : Below _ _ _ := hL
          have e67 : ac.eval (.tmp 67) = .bool true := hP 13 (by kernel_rfl)
          exact rop_offG (j := 13) (b := false) rfl rfl e67 (by decide) (hK _ _ (le8_refl _) trivial)
        · intro ac w' hF hL hP hU K hK
          have hB : Below _ _ _ := hL
          have e67 : ac.eval (.tmp 67) = .bool true := hP 13 (by kernel_rfl)
          exact rop_offG (j := 13) (b := false) rfl rfl e67 (by decide) (hK _ _ (le8_refl _) trivial)
        · intro ac w' hF hL hP hU K hK
          have hB : Below _ _ _ := hL
          have e67 : ac.eval (.tmp 67) = .bool true := hP 13 (by kernel_rfl)
          exact rop_offG (j := 13) (b := false) rfl rfl e67 (by decide) (hK _ _ (le8_refl _) trivial)
        · intro ac w' hF hL hP hU K hK
          have hB : Below _ _ _ := hL
          have e67 : ac.eval (.tmp 67) = .bool true := hP 13 (by kernel_rfl)
          exact rop_pick _ _ _ rfl true e67 (by rfl) (wanted_none rfl) (hK _ _ (le8_refl _) rfl)
        · intro ac w' hF hB hT
          have e74 : ac.eval (.tmp 74) = .bool true := hT 20 (by decide)
          rw [hF.setsG [54, 55, 56, 57, 58, 59, 60, 61, 62, 63, 64, 65, 66, 67, 68, 69, 70, 71, 72, 73, 74] (by kernel_rfl)]
          simp only [List.foldl_cons, List.foldl_nil, List.setIfInBounds_toArray, List.set_cons_succ, List.set_cons_zero, e74]
          generalize ac.eval (.tmp 54) = u54
          generalize ac.eval (.tmp 55) = u55
          generalize ac.eval (.tmp 56) = u56
          generalize ac.eval (.tmp 57) = u57
          generalize ac.eval (.tmp 58) = u58
          generalize ac.eval (.tmp 59) = u59
          generalize ac.eval (.tmp 60) = u60
          generalize ac.eval (.tmp 61) = u61
          generalize ac.eval (.tmp 62) = u62
          generalize ac.eval (.tmp 63) = u63
          generalize ac.eval (.tmp 64) = u64
          generalize ac.eval (.tmp 65) = u65
          generalize ac.eval (.tmp 66) = u66
          generalize ac.eval (.tmp 67) = u67
          generalize ac.eval (.tmp 68) = u68
          generalize ac.eval (.tmp 69) = u69
          generalize ac.eval (.tmp 70) = u70
          generalize ac.eval (.tmp 71) = u71
          generalize ac.eval (.tmp 72) = u72
          generalize ac.eval (.tmp 73) = u73
          clear e74 hT hF ac
          have b5 := below_step b3 (Nat.le_refl _) hB
          go_wp2
          (try simp only [Exit.inBlock, Exit.then]); refine bodyPost_ret (results_tmp4 rfl _ _ _) rfl ?_
          refine ⟨l, _, ?_, ⟨Hpath.out, ?_⟩, Hrows.out.old b5, below_step hbl (Nat.le_refl _) b5⟩
          · have z1 : ((P : Int) + (Jnl.slots l : Int)) % (m : Int) = (pl : Int) := by rw [Hpl.out]; simp
            have z2 : (Q : Int) + (l.length : Int) = (sq : Int) := by rw [Hsq.out]; simp
            first
              | (rw [← Hpl.out, ← Hsq.out]; rfl)
              | (rw [z1, z2]; rfl)
          · rw [← Hus.out, ← Hsq.out]; exact HST.out (.inr (.inl a2))
      · have hnb : st2.isNone = false := by cases st2 with
          | none => exact absurd rfl a
          | some r => rfl
        rw [hnb] at cbad
        clear hnb
        try simp only [Act.put]
        refine wp_region_tab0 [RT.is (.pointer (some ⟨q, 0, none⟩)), RT.is (.pointer (some ⟨q, 0, none⟩)), RT.is (.pointer (some ⟨q, 2, none⟩)), RT.is (.bool false), RT.is (.bool false), RT.is (.int .i64 (f : Int)), RT.is (.int .i64 (sq : Int)), RT.is (.bool false), RT.is (.bool false), RT.is (.bool false), RT.is (.int .i64 (n : Int)), RT.is (.bool true), RT.is (.bool true), RT.is (.bool true), RT.any, RT.any, RT.any, RT.any, RT.any, RT.any, RT.is (.bool true)] (by kernel_rfl) (by kernel_rfl) (by kernel_rfl) ⟨?_, ?_, ?_, ?_, ?_, ?_, ?_, ?_, ?_, ?_, ?_, ?_, ?_, ?_, ?_, ?_, ?_, ?_, ?_, ?_, ?_, trivial⟩ ?_
        · intro ac w' hF hL hP hU K hK
          have hB : Below _ _ _ := hL
          have e12 : ac.eval (.tmp 12) = .pointer (some ⟨q, 0, none⟩) := hF.at 12 (by kernel_rfl)
          exact rop_move _ rfl e12 (wanted_none rfl) (hK _ _ (le8_refl _) rfl)
        · intro ac w' hF hL hP hU K hK
          have hB : Below _ _ _ := hL
          have e54 : ac.eval (.tmp 54) = .pointer (some ⟨q, 0, none⟩) := hP 0 (by kernel_rfl)
          exact rop_nilG _ rfl e54 (wanted_none rfl) (hK _ _ (le8_refl _) rfl)
        · intro ac w' hF hL hP hU K hK
          have hB : Below _ _ _ := hL
          have e55 : ac.eval (.tmp 55) = .pointer (some ⟨q, 0, none⟩) := hP 1 (by kernel_rfl)
          exact rop_fld _ _ _ rfl e55 (fld_bad q w') (wanted_none rfl) (hK _ _ (le8_refl _) rfl)
        · intro ac w' hF hL hP hU K hK
          have hB : Below _ _ _ := hL
          have e56 : ac.eval (.tmp 56) = .pointer (some ⟨q, 2, none⟩) := hP 2 (by kernel_rfl)
          exact rop_ld _ _ rfl e56 (load_bool ((hB.cell (p := ⟨q, 2, none⟩) s3.lt).trans cbad)) (wanted_none rfl) (hK _ _ (le8_refl _) rfl)
        · intro ac w' hF hL hP hU K hK
          have hB : Below _ _ _ := hL
          have e57 : ac.eval (.tmp 57) = .bool false := hP 3 (by kernel_rfl)
          exact rop_move _ rfl e57 (wanted_none rfl) (hK _ _ (le8_refl _) rfl)
        · intro ac w' hF hL hP hU K hK
          have hB : Below _ _ _ := hL
          have e13 : ac.eval (.tmp 13) = .int .i64 (f : Int) := hF.at 13 (by kernel_rfl)
          have e58 : ac.eval (.tmp 58) = .bool false := hP 4 (by kernel_rfl)
          exact rop_move _ rfl e13 (wanted_of (j := 4) (b := false) rfl rfl e58) (hK _ _ (le8_refl _) rfl)
        · intro ac w' hF hL hP hU K hK
          have hB : Below _ _ _ := hL
          have e9 : ac.eval (.tmp 9) = .int .i64 (sq : Int) := hF.at 9 (by kernel_rfl)
          have e58 : ac.eval (.tmp 58) = .bool false := hP 4 (by kernel_rfl)
          exact rop_move _ rfl e9 (wanted_of (j := 4) (b := false) rfl rfl e58) (hK _ _ (le8_refl _) rfl)
        · intro ac w' hF hL hP hU K hK
          have hB : Below _ _ _ := hL
          have e59 : ac.eval (.tmp 59) = .int .i64 (f : Int) := hP 5 (by kernel_rfl)
          have e60 : ac.eval (.tmp 60) = .int .i64 (sq : Int) := hP 6 (by kernel_rfl)
          have e58 : ac.eval (.tmp 58) = .bool false := hP 4 (by kernel_rfl)
          exact rop_bin _ _ _ _ _ rfl e59 e60 (guard_int _ _ _ _ _ _ _ w') (neq_iG _ _ _ (decide_eq_false (by omega)) w') (wanted_of (j := 4) (b := false) rfl rfl e58) (hK _ _ (le8_refl _) rfl)
        · intro ac w' hF hL hP hU K hK
          have hB : Below _ _ _ := hL
          have e58 : ac.eval (.tmp 58) = .bool false := hP 4 (by kernel_rfl)
          have e61 : ac.eval (.tmp 61) = .bool false := hP 7 (by kernel_rfl)
          exact rop_pick _ _ _ rfl false e58 (by simpa using e61) (wanted_none rfl) (hK _ _ (le8_refl _) rfl)
        · intro ac w' hF hL hP hU K hK
          have hB : Below _ _ _ := hL
          have e62 : ac.eval (.tmp 62) = .bool false := hP 8 (by kernel_rfl)
          exact rop_move _ rfl e62 (wanted_none rfl) (hK _ _ (le8_refl _) rfl)
        · intro ac w' hF hL hP hU K hK
          have hB : Below _ _ _ := hL
          have e14 : ac.eval (.tmp 14) = .int .i64 (n : Int) := hF.at 14 (by kernel_rfl)
          have e63 : ac.eval (.tmp 63) = .bool false := hP 9 (by kernel_rfl)
          exact rop_move _ rfl e14 (wanted_of (j := 9) (b := false) rfl rfl e63) (hK _ _ (le8_refl _) rfl)
        · intro ac w' hF hL hP hU K hK
          have hB : Below _ _ _ := hL
          have e64 : ac.eval (.tmp 64) = .int .i64 (n : Int) := hP 10 (by kernel_rfl)
          have e63 : ac.eval (.tmp 63) = .bool false := hP 9 (by kernel_rfl)
          exact rop_bin _ _ _ _ _ rfl e64 rfl (guard_int _ _ _ _ _ _ _ w') (lss_iG _ _ _ (decide_eq_true (by omega)) w') (wanted_of (j := 9) (b := false) rfl rfl e63) (hK _ _ (le8_refl _) rfl)
        · intro ac w' hF hL hP hU K hK
          have hB : Below _ _ _ := hL
          have e63 : ac.eval (.tmp 63) = .bool false := hP 9 (by kernel_rfl)
          have e65 : ac.eval (.tmp 65) = .bool true := hP 11 (by kernel_rfl)
          exact rop_pick _ _ _ rfl false e63 (by simpa using e65) (wanted_none rfl) (hK _ _ (le8_refl _) rfl)
        · intro ac w' hF hL hP hU K hK
          have hB : Below _ _ _ := hL
          have e66 : ac.eval (.tmp 66) = .bool true := hP 12 (by kernel_rfl)
          exact rop_move _ rfl e66 (wanted_none rfl) (hK _ _ (le8_refl _) rfl)
        · intro ac w' hF hL hP hU K hK
          have hB : Below _ _ _ := hL
          have e67 : ac.eval (.tmp 67) = .bool true := hP 13 (by kernel_rfl)
          exact rop_offG (j := 13) (b := false) rfl rfl e67 (by decide) (hK _ _ (le8_refl _) trivial)
        · intro ac w' hF hL hP hU K hK
          have hB : Below _ _ _ := hL
          have e67 : ac.eval (.tmp 67) = .bool true := hP 13 (by kernel_rfl)
          exact rop_offG (j := 13) (b := false) rfl rfl e67 (by decide) (hK _ _ (le8_refl _) trivial)
        · intro ac w' hF hL hP hU K hK
          have hB : Below _ _ _ := hL
          have e67 : ac.eval (.tmp 67) = .bool true := hP 13 (by kernel_rfl)
          exact rop_offG (j := 13) (b := false) rfl rfl e67 (by decide) (hK _ _ (le8_refl _) trivial)
        · intro ac w' hF hL hP hU K hK
          have hB : Below _ _ _ := hL
          have e67 : ac.eval (.tmp 67) = .bool true := hP 13 (by kernel_rfl)
          exact rop_offG (j := 13) (b := false) rfl rfl e67 (by decide) (hK _ _ (le8_refl _) trivial)
        · intro ac w' hF hL hP hU K hK
          have hB : Below _ _ _ := hL
          have e67 : ac.eval (.tmp 67) = .bool true := hP 13 (by kernel_rfl)
          exact rop_offG (j := 13) (b := false) rfl rfl e67 (by decide) (hK _ _ (le8_refl _) trivial)
        · intro ac w' hF hL hP hU K hK
          have hB : Below _ _ _ := hL
          have e67 : ac.eval (.tmp 67) = .bool true := hP 13 (by kernel_rfl)
          exact rop_offG (j := 13) (b := false) rfl rfl e67 (by decide) (hK _ _ (le8_refl _) trivial)
        · intro ac w' hF hL hP hU K hK
          have hB : Below _ _ _ := hL
          have e67 : ac.eval (.tmp 67) = .bool true := hP 13 (by kernel_rfl)
          exact rop_pick _ _ _ rfl true e67 (by rfl) (wanted_none rfl) (hK _ _ (le8_refl _) rfl)
        · intro ac w' hF hB hT
          have e74 : ac.eval (.tmp 74) = .bool true := hT 20 (by decide)
          rw [hF.setsG [54, 55, 56, 57, 58, 59, 60, 61, 62, 63, 64, 65, 66, 67, 68, 69, 70, 71, 72, 73, 74] (by kernel_rfl)]
          simp only [List.foldl_cons, List.foldl_nil, List.setIfInBounds_toArray, List.set_cons_succ, List.set_cons_zero, e74]
          generalize ac.eval (.tmp 54) = u54
          generalize ac.eval (.tmp 55) = u55
          generalize ac.eval (.tmp 56) = u56
          generalize ac.eval (.tmp 57) = u57
          generalize ac.eval (.tmp 58) = u58
          generalize ac.eval (.tmp 59) = u59
          generalize ac.eval (.tmp 60) = u60
          generalize ac.eval (.tmp 61) = u61
          generalize ac.eval (.tmp 62) = u62
          generalize ac.eval (.tmp 63) = u63
          generalize ac.eval (.tmp 64) = u64
          generalize ac.eval (.tmp 65) = u65
          generalize ac.eval (.tmp 66) = u66
          generalize ac.eval (.tmp 67) = u67
          generalize ac.eval (.tmp 68) = u68
          generalize ac.eval (.tmp 69) = u69
          generalize ac.eval (.tmp 70) = u70
          generalize ac.eval (.tmp 71) = u71
          generalize ac.eval (.tmp 72) = u72
          generalize ac.eval (.tmp 73) = u73
          clear e74 hT hF ac
          have b5 := below_step b3 (Nat.le_refl _) hB
          go_wp2
          (try simp only [Exit.inBlock, Exit.then]); refine bodyPost_ret (results_tmp4 rfl _ _ _) rfl ?_
          refine ⟨l, _, ?_, ⟨Hpath.out, ?_⟩, Hrows.out.old b5, below_step hbl (Nat.le_refl _) b5⟩
          · have z1 : ((P : Int) + (Jnl.slots l : Int)) % (m : Int) = (pl : Int) := by rw [Hpl.out]; simp
            have z2 : (Q : Int) + (l.length : Int) = (sq : Int) := by rw [Hsq.out]; simp
            first
              | (rw [← Hpl.out, ← Hsq.out]; rfl)
              | (rw [z1, z2]; rfl)
          · rw [← Hus.out, ← Hsq.out]; exact HST.out (.inr (.inr (.inl a3)))
      · have hnb : st2.isNone = false := by cases st2 with
          | none => exact absurd rfl a
          | some r => rfl
        rw [hnb] at cbad
        clear hnb
        try simp only [Act.put]
        refine wp_region_tab0 [RT.is (.pointer (some ⟨q, 0, none⟩)), RT.is (.pointer (some ⟨q, 0, none⟩)), RT.is (.pointer (some ⟨q, 2, none⟩)), RT.is (.bool false), RT.is (.bool false), RT.is (.int .i64 (f : Int)), RT.is (.int .i64 (sq : Int)), RT.is (.bool false), RT.is (.bool false), RT.is (.bool false), RT.is (.int .i64 (n : Int)), RT.is (.bool false), RT.is (.bool false), RT.is (.bool false), RT.is (.int .i64 (us : Int)), RT.is (.int .i64 (n : Int)), RT.is (.int .i64 ((us : Int) + (n : Int))), RT.is (.int .i64 ((us : Int) + (n : Int) + 2)), RT.is (.int .i64 (m : Int)), RT.is (.bool true), RT.is (.bool true)] (by kernel_rfl) (by kernel_rfl) (by kernel_rfl) ⟨?_, ?_, ?_, ?_, ?_, ?_, ?_, ?_, ?_, ?_, ?_, ?_, ?_, ?_, ?_, ?_, ?_, ?_, ?_, ?_, ?_, trivial⟩ ?_
        · intro ac w' hF hL hP hU K hK
          have hB : Below _ _ _ := hL
          have e12 : ac.eval (.tmp 12) = .pointer (some ⟨q, 0, none⟩) := hF.at 12 (by kernel_rfl)
          exact rop_move _ rfl e12 (wanted_none rfl) (hK _ _ (le8_refl _) rfl)
        · intro ac w' hF hL hP hU K hK
          have hB : Below _ _ _ := hL
          have e54 : ac.eval (.tmp 54) = .pointer (some ⟨q, 0, none⟩) := hP 0 (by kernel_rfl)
          exact rop_nilG _ rfl e54 (wanted_none rfl) (hK _ _ (le8_refl _) rfl)
        · intro ac w' hF hL hP hU K hK
          have hB : Below _ _ _ := hL
          have e55 : ac.eval (.tmp 55) = .pointer (some ⟨q, 0, none⟩) := hP 1 (by kernel_rfl)
          exact rop_fld _ _ _ rfl e55 (fld_bad q w') (wanted_none rfl) (hK _ _ (le8_refl _) rfl)
        · intro ac w' hF hL hP hU K hK
          have hB : Below _ _ _ := hL
          have e56 : ac.eval (.tmp 56) = .pointer (some ⟨q, 2, none⟩) := hP 2 (by kernel_rfl)
          exact rop_ld _ _ rfl e56 (load_bool ((hB.cell (p := ⟨q, 2, none⟩) s3.lt).trans cbad)) (wanted_none rfl) (hK _ _ (le8_refl _) rfl)
        · intro ac w' hF hL hP hU K hK
          have hB : Below _ _ _ := hL
          have e57 : ac.eval (.tmp 57) = .bool false := hP 3 (by kernel_rfl)
          exact rop_move _ rfl e57 (wanted_none rfl) (hK _ _ (le8_refl _) rfl)
        · intro ac w' hF hL hP hU K hK
          have hB : Below _ _ _ := hL
          have e13 : ac.eval (.tmp 13) = .int .i64 (f : Int) := hF.at 13 (by kernel_rfl)
          have e58 : ac.eval (.tmp 58) = .bool false := hP 4 (by kernel_rfl)
          exact rop_move _ rfl e13 (wanted_of (j := 4) (b := false) rfl rfl e58) (hK _ _ (le8_refl _) rfl)
        · intro ac w' hF hL hP hU K hK
          have hB : Below _ _ _ := hL
          have e9 : ac.eval (.tmp 9) = .int .i64 (sq : Int) := hF.at 9 (by kernel_rfl)
          have e58 : ac.eval (.tmp 58) = .bool false := hP 4 (by kernel_rfl)
          exact rop_move _ rfl e9 (wanted_of (j := 4) (b := false) rfl rfl e58) (hK _ _ (le8_refl _) rfl)
        · intro ac w' hF hL hP hU K hK
          have hB : Below _ _ _ := hL
          have e59 : ac.eval (.tmp 59) = .int .i64 (f : Int) := hP 5 (by kernel_rfl)
          have e60 : ac.eval (.tmp 60) = .int .i64 (sq : Int) := hP 6 (by kernel_rfl)
          have e58 : ac.eval (.tmp 58) = .bool false := hP 4 (by kernel_rfl)
          exact rop_bin _ _ _ _ _ rfl e59 e60 (guard_int _ _ _ _ _ _ _ w') (neq_iG _ _ _ (decide_eq_false (by omega)) w') (wanted_of (j := 4) (b := false) rfl rfl e58) (hK _ _ (le8_refl _) rfl)
        · intro ac w' hF hL hP hU K hK
          have hB : Below _ _ _ := hL
          have e58 : ac.eval (.tmp 58) = .bool false := hP 4 (by kernel_rfl)
          have e61 : ac.eval (.tmp 61) = .bool false := hP 7 (by kernel_rfl)
          exact rop_pick _ _ _ rfl false e58 (by simpa using e61) (wanted_none rfl) (hK _ _ (le8_refl _) rfl)
        · intro ac w' hF hL hP hU K hK
          have hB : Below _ _ _ := hL
          have e62 : ac.eval (.tmp 62) = .bool false := hP 8 (by kernel_rfl)
          exact rop_move _ rfl e62 (wanted_none rfl) (hK _ _ (le8_refl _) rfl)
        · intro ac w' hF hL hP hU K hK
          have hB : Below _ _ _ := hL
          have e14 : ac.eval (.tmp 14) = .int .i64 (n : Int) := hF.at 14 (by kernel_rfl)
          have e63 : ac.eval (.tmp 63) = .bool false := hP 9 (by kernel_rfl)
          exact rop_move _ rfl e14 (wanted_of (j := 9) (b := false) rfl rfl e63) (hK _ _ (le8_refl _) rfl)
        · intro ac w' hF hL hP hU K hK
          have hB : Below _ _ _ := hL
          have e64 : ac.eval (.tmp 64) = .int .i64 (n : Int) := hP 10 (by kernel_rfl)
          have e63 : ac.eval (.tmp 63) = .bool false := hP 9 (by kernel_rfl)
          exact rop_bin _ _ _ _ _ rfl e64 rfl (guard_int _ _ _ _ _ _ _ w') (lss_iG _ _ _ (decide_eq_false (by omega)) w') (wanted_of (j := 9) (b := false) rfl rfl e63) (hK _ _ (le8_refl _) rfl)
        · intro ac w' hF hL hP hU K hK
          have hB : Below _ _ _ := hL
          have e63 : ac.eval (.tmp 63) = .bool false := hP 9 (by kernel_rfl)
          have e65 : ac.eval (.tmp 65) = .bool false := hP 11 (by kernel_rfl)
          exact rop_pick _ _ _ rfl false e63 (by simpa using e65) (wanted_none rfl) (hK _ _ (le8_refl _) rfl)
        · intro ac w' hF hL hP hU K hK
          have hB : Below _ _ _ := hL
          have e66 : ac.eval (.tmp 66) = .bool false := hP 12 (by kernel_rfl)
          exact rop_move _ rfl e66 (wanted_none rfl) (hK _ _ (le8_refl _) rfl)
        · intro ac w' hF hL hP hU K hK
          have hB : Below _ _ _ := hL
          have e11 : ac.eval (.tmp 11) = .int .i64 (us : Int) := hF.at 11 (by kernel_rfl)
          have e67 : ac.eval (.tmp 67) = .bool false := hP 13 (by kernel_rfl)
          exact rop_move _ rfl e11 (wanted_of (j := 13) (b := false) rfl rfl e67) (hK _ _ (le8_refl _) rfl)
        · intro ac w' hF hL hP hU K hK
          have hB : Below _ _ _ := hL
          have e14 : ac.eval (.tmp 14) = .int .i64 (n : Int) := hF.at 14 (by kernel_rfl)
          have e67 : ac.eval (.tmp 67) = .bool false := hP 13 (by kernel_rfl)
          exact rop_move _ rfl e14 (wanted_of (j := 13) (b := false) rfl rfl e67) (hK _ _ (le8_refl _) rfl)
        · intro ac w' hF hL hP hU K hK
          have hB : Below _ _ _ := hL
          have e68 : ac.eval (.tmp 68) = .int .i64 (us : Int) := hP 14 (by kernel_rfl)
          have e69 : ac.eval (.tmp 69) = .int .i64 (n : Int) := hP 15 (by kernel_rfl)
          have e67 : ac.eval (.tmp 67) = .bool false := hP 13 (by kernel_rfl)
          exact rop_bin _ _ _ _ _ rfl e68 e69 (guard_int _ _ _ _ _ _ _ w') (add_int _ _ _ (rfl) (by omega) w') (wanted_of (j := 13) (b := false) rfl rfl e67) (hK _ _ (le8_refl _) rfl)
        · intro ac w' hF hL hP hU K hK
          have hB : Below _ _ _ := hL
          have e70 : ac.eval (.tmp 70) = .int .i64 ((us : Int) + (n : Int)) := hP 16 (by kernel_rfl)
          have e67 : ac.eval (.tmp 67) = .bool false := hP 13 (by kernel_rfl)
          exact rop_bin _ _ _ _ _ rfl e70 rfl (guard_int _ _ _ _ _ _ _ w') (add_int _ _ _ (rfl) (by omega) w') (wanted_of (j := 13) (b := false) rfl rfl e67) (hK _ _ (le8_refl _) rfl)
        · intro ac w' hF hL hP hU K hK
          have hB : Below _ _ _ := hL
          have e6 : ac.eval (.tmp 6) = .int .i64 (m : Int) := hF.at 6 (by kernel_rfl)
          have e67 : ac.eval (.tmp 67) = .bool false := hP 13 (by kernel_rfl)
          exact rop_move _ rfl e6 (wanted_of (j := 13) (b := false) rfl rfl e67) (hK _ _ (le8_refl _) rfl)
        · intro ac w' hF hL hP hU K hK
          have hB : Below _ _ _ := hL
          have e71 : ac.eval (.tmp 71) = .int .i64 ((us : Int) + (n : Int) + 2) := hP 17 (by kernel_rfl)
          have e72 : ac.eval (.tmp 72) = .int .i64 (m : Int) := hP 18 (by kernel_rfl)
          have e67 : ac.eval (.tmp 67) = .bool false := hP 13 (by kernel_rfl)
          exact rop_bin _ _ _ _ _ rfl e71 e72 (guard_int _ _ _ _ _ _ _ w') (gtr_iG _ _ _ (decide_eq_true (by omega)) w') (wanted_of (j := 13) (b := false) rfl rfl e67) (hK _ _ (le8_refl _) rfl)
        · intro ac w' hF hL hP hU K hK
          have hB : Below _ _ _ := hL
          have e67 : ac.eval (.tmp 67) = .bool false := hP 13 (by kernel_rfl)
          have e73 : ac.eval (.tmp 73) = .bool true := hP 19 (by kernel_rfl)
          exact rop_pick _ _ _ rfl false e67 (by simpa using e73) (wanted_none rfl) (hK _ _ (le8_refl _) rfl)
        · intro ac w' hF hB hT
          have e74 : ac.eval (.tmp 74) = .bool true := hT 20 (by decide)
          rw [hF.setsG [54, 55, 56, 57, 58, 59, 60, 61, 62, 63, 64, 65, 66, 67, 68, 69, 70, 71, 72, 73, 74] (by kernel_rfl)]
          simp only [List.foldl_cons, List.foldl_nil, List.setIfInBounds_toArray, List.set_cons_succ, List.set_cons_zero, e74]
          generalize ac.eval (.tmp 54) = u54
          generalize ac.eval (.tmp 55) = u55
          generalize ac.eval (.tmp 56) = u56
          generalize ac.eval (.tmp 57) = u57
          generalize ac.eval (.tmp 58) = u58
          generalize ac.eval (.tmp 59) = u59
          generalize ac.eval (.tmp 60) = u60
          generalize ac.eval (.tmp 61) = u61
          generalize ac.eval (.tmp 62) = u62
          generalize ac.eval (.tmp 63) = u63
          generalize ac.eval (.tmp 64) = u64
          generalize ac.eval (.tmp 65) = u65
          generalize ac.eval (.tmp 66) = u66
          generalize ac.eval (.tmp 67) = u67
          generalize ac.eval (.tmp 68) = u68
          generalize ac.eval (.tmp 69) = u69
          generalize ac.eval (.tmp 70) = u70
          generalize ac.eval (.tmp 71) = u71
          generalize ac.eval (.tmp 72) = u72
          generalize ac.eval (.tmp 73) = u73
          clear e74 hT hF ac
          have b5 := below_step b3 (Nat.le_refl _) hB
          go_wp2
          (try simp only [Exit.inBlock, Exit.then]); refine bodyPost_ret (results_tmp4 rfl _ _ _) rfl ?_
          refine ⟨l, _, ?_, ⟨Hpath.out, ?_⟩, Hrows.out.old b5, below_step hbl (Nat.le_refl _) b5⟩
          · have z1 : ((P : Int) + (Jnl.slots l : Int)) % (m : Int) = (pl : Int) := by rw [Hpl.out]; simp
            have z2 : (Q : Int) + (l.length : Int) = (sq : Int) := by rw [Hsq.out]; simp
            first
              | (rw [← Hpl.out, ← Hsq.out]; rfl)
              | (rw [z1, z2]; rfl)
          · rw [← Hus.out, ← Hsq.out]; exact HST.out (.inr (.inr (.inr (.inl a4))))
      · have hnb : st2.isNone = false := by cases st2 with
          | none => exact absurd rfl a
          | some r => rfl
        rw [hnb] at cbad
        clear hnb
        try simp only [Act.put]
        refine wp_region_tab0 [RT.is (.pointer (some ⟨q, 0, none⟩)), RT.is (.pointer (some ⟨q, 0, none⟩)), RT.is (.pointer (some ⟨q, 2, none⟩)), RT.is (.bool false), RT.is (.bool false), RT.is (.int .i64 (f : Int)), RT.is (.int .i64 (sq : Int)), RT.is (.bool false), RT.is (.bool false), RT.is (.bool false), RT.is (.int .i64 (n : Int)), RT.is (.bool false), RT.is (.bool false), RT.is (.bool false), RT.is (.int .i64 (us : Int)), RT.is (.int .i64 (n : Int)), RT.is (.int .i64 ((us : Int) + (n : Int))), RT.is (.int .i64 ((us : Int) + (n : Int) + 2)), RT.is (.int .i64 (m : Int)), RT.is (.bool false), RT.is (.bool false)] (by kernel_rfl) (by kernel_rfl) (by kernel_rfl) ⟨?_, ?_, ?_, ?_, ?_, ?_, ?_, ?_, ?_, ?_, ?_, ?_, ?_, ?_, ?_, ?_, ?_, ?_, ?_, ?_, ?_, trivial⟩ ?_
        · intro ac w' hF hL hP hU K hK
          have hB : Below _ _ _ := hL
          have e12 : ac.eval (.tmp 12) = .pointer (some ⟨q, 0, none⟩) := hF.at 12 (by kernel_rfl)
          exact rop_move _ rfl e12 (wanted_none rfl) (hK _ _ (le8_refl _) rfl)
        · intro ac w' hF hL hP hU K hK
          have hB : Below _ _ _ := hL
          have e54 : ac.eval (.tmp 54) = .pointer (some ⟨q, 0, none⟩) := hP 0 (by kernel_rfl)
          exact rop_nilG _ rfl e54 (wanted_none rfl) (hK _ _ (le8_refl _) rfl)
        · intro ac w' hF hL hP hU K hK
          have hB : Below _ _ _ := hL
          have e55 : ac.eval (.tmp 55) = .pointer (some ⟨q, 0, none⟩) := hP 1 (by kernel_rfl)
          exact rop_fld _ _ _ rfl e55 (fld_bad q w') (wanted_none rfl) (hK _ _ (le8_refl _) rfl)
        · intro ac w' hF hL hP hU K hK
          have hB : Below _ _ _ := hL
          have e56 : ac.eval (.tmp 56) = .pointer (some ⟨q, 2, none⟩) := hP 2 (by kernel_rfl)
          exact rop_ld _ _ rfl e56 (load_bool ((hB.cell (p := ⟨q, 2, none⟩) s3.lt).trans cbad)) (wanted_none rfl) (hK _ _ (le8_refl _) rfl)
        · intro ac w' hF hL hP hU K hK
          have hB : Below _ _ _ := hL
          have e57 : ac.eval (.tmp 57) = .bool false := hP 3 (by kernel_rfl)
          exact rop_move _ rfl e57 (wanted_none rfl) (hK _ _ (le8_refl _) rfl)
        · intro ac w' hF hL hP hU K hK
          have hB : Below _ _ _ := hL
          have e13 : ac.eval (.tmp 13) = .int .i64 (f : Int) := hF.at 13 (by kernel_rfl)
          have e58 : ac.eval (.tmp 58) = .bool false := hP 4 (by kernel_rfl)
          exact rop_move _ rfl e13 (wanted_of (j := 4) (b := false) rfl rfl e58) (hK _ _ (le8_refl _) rfl)
        · intro ac w' hF hL hP hU K hK
          have hB : Below _ _ _ := hL
          have e9 : ac.eval (.tmp 9) = .int .i64 (sq : Int) := hF.at 9 (by kernel_rfl)
          have e58 : ac.eval (.tmp 58) = .bool false := hP 4 (by kernel_rfl)
          exact rop_move _ rfl e9 (wanted_of (j := 4) (b := false) rfl rfl e58) (hK _ _ (le8_refl _) rfl)
        · intro ac w' hF hL hP hU K hK
          have hB : Below _ _ _ := hL
          have e59 : ac.eval (.tmp 59) = .int .i64 (f : Int) := hP 5 (by kernel_rfl)
          have e60 : ac.eval (.tmp 60) = .int .i64 (sq : Int) := hP 6 (by kernel_rfl)
          have e58 : ac.eval (.tmp 58) = .bool false := hP 4 (by kernel_rfl)
          exact rop_bin _ _ _ _ _ rfl e59 e60 (guard_int _ _ _ _ _ _ _ w') (neq_iG _ _ _ (decide_eq_false (by omega)) w') (wanted_of (j := 4) (b := false) rfl rfl e58) (hK _ _ (le8_refl _) rfl)
        · intro ac w' hF hL hP hU K hK
          have hB : Below _ _ _ := hL
          have e58 : ac.eval (.tmp 58) = .bool false := hP 4 (by kernel_rfl)
          have e61 : ac.eval (.tmp 61) = .bool false := hP 7 (by kernel_rfl)
          exact rop_pick _ _ _ rfl false e58 (by simpa using e61) (wanted_none rfl) (hK _ _ (le8_refl _) rfl)
        · intro ac w' hF hL hP hU K hK
          have hB : Below _ _ _ := hL
          have e62 : ac.eval (.tmp 62) = .bool false := hP 8 (by kernel_rfl)
          exact rop_move _ rfl e62 (wanted_none rfl) (hK _ _ (le8_refl _) rfl)
        · intro ac w' hF hL hP hU K hK
          have hB : Below _ _ _ := hL
          have e14 : ac.eval (.tmp 14) = .int .i64 (n : Int) := hF.at 14 (by kernel_rfl)
          have e63 : ac.eval (.tmp 63) = .bool false := hP 9 (by kernel_rfl)
          exact rop_move _ rfl e14 (wanted_of (j := 9) (b := false) rfl rfl e63) (hK _ _ (le8_refl _) rfl)
        · intro ac w' hF hL hP hU K hK
          have hB : Below _ _ _ := hL
          have e64 : ac.eval (.tmp 64) = .int .i64 (n : Int) := hP 10 (by kernel_rfl)
          have e63 : ac.eval (.tmp 63) = .bool false := hP 9 (by kernel_rfl)
          exact rop_bin _ _ _ _ _ rfl e64 rfl (guard_int _ _ _ _ _ _ _ w') (lss_iG _ _ _ (decide_eq_false (by omega)) w') (wanted_of (j := 9) (b := false) rfl rfl e63) (hK _ _ (le8_refl _) rfl)
        · intro ac w' hF hL hP hU K hK
          have hB : Below _ _ _ := hL
          have e63 : ac.eval (.tmp 63) = .bool false := hP 9 (by kernel_rfl)
          have e65 : ac.eval (.tmp 65) = .bool false := hP 11 (by kernel_rfl)
          exact rop_pick _ _ _ rfl false e63 (by simpa using e65) (wanted_none rfl) (hK _ _ (le8_refl _) rfl)
        · intro ac w' hF hL hP hU K hK
          have hB : Below _ _ _ := hL
          have e66 : ac.eval (.tmp 66) = .bool false := hP 12 (by kernel_rfl)
          exact rop_move _ rfl e66 (wanted_none rfl) (hK _ _ (le8_refl _) rfl)
        · intro ac w' hF hL hP hU K hK
          have hB : Below _ _ _ := hL
          have e11 : ac.eval (.tmp 11) = .int .i64 (us : Int) := hF.at 11 (by kernel_rfl)
          have e67 : ac.eval (.tmp 67) = .bool false := hP 13 (by kernel_rfl)
          exact rop_move _ rfl e11 (wanted_of (j := 13) (b := false) rfl rfl e67) (hK _ _ (le8_refl _) rfl)
        · intro ac w' hF hL hP hU K hK
          have hB : Below _ _ _ := hL
          have e14 : ac.eval (.tmp 14) = .int .i64 (n : Int) := hF.at 14 (by kernel_rfl)
          have e67 : ac.eval (.tmp 67) = .bool false := hP 13 (by kernel_rfl)
          exact rop_move _ rfl e14 (wanted_of (j := 13) (b := false) rfl rfl e67) (hK _ _ (le8_refl _) rfl)
        · intro ac w' hF hL hP hU K hK
          have hB : Below _ _ _ := hL
          have e68 : ac.eval (.tmp 68) = .int .i64 (us : Int) := hP 14 (by kernel_rfl)
          have e69 : ac.eval (.tmp 69) = .int .i64 (n : Int) := hP 15 (by kernel_rfl)
          have e67 : ac.eval (.tmp 67) = .bool false := hP 13 (by kernel_rfl)
          exact rop_bin _ _ _ _ _ rfl e68 e69 (guard_int _ _ _ _ _ _ _ w') (add_int _ _ _ (rfl) (by omega) w') (wanted_of (j := 13) (b := false) rfl rfl e67) (hK _ _ (le8_refl _) rfl)
        · intro ac w' hF hL hP hU K hK
          have hB : Below _ _ _ := hL
          have e70 : ac.eval (.tmp 70) = .int .i64 ((us : Int) + (n : Int)) := hP 16 (by kernel_rfl)
          have e67 : ac.eval (.tmp 67) = .bool false := hP 13 (by kernel_rfl)
          exact rop_bin _ _ _ _ _ rfl e70 rfl (guard_int _ _ _ _ _ _ _ w') (add_int _ _ _ (rfl) (by omega) w') (wanted_of (j := 13) (b := false) rfl rfl e67) (hK _ _ (le8_refl _) rfl)
        · intro ac w' hF hL hP hU K hK
          have hB : Below _ _ _ := hL
          have e6 : ac.eval (.tmp 6) = .int .i64 (m : Int) := hF.at 6 (by kernel_rfl)
          have e67 : ac.eval (.tmp 67) = .bool false := hP 13 (by kernel_rfl)
          exact rop_move _ rfl e6 (wanted_of (j := 13) (b := false) rfl rfl e67) (hK _ _ (le8_refl _) rfl)
        · intro ac w' hF hL hP hU K hK
          have hB : Below _ _ _ := hL
          have e71 : ac.eval (.tmp 71) = .int .i64 ((us : Int) + (n : Int) + 2) := hP 17 (by kernel_rfl)
          have e72 : ac.eval (.tmp 72) = .int .i64 (m : Int) := hP 18 (by kernel_rfl)
          have e67 : ac.eval (.tmp 67) = .bool false := hP 13 (by kernel_rfl)
          exact rop_bin _ _ _ _ _ rfl e71 e72 (guard_int _ _ _ _ _ _ _ w') (gtr_iG _ _ _ (decide_eq_false (by omega)) w') (wanted_of (j := 13) (b := false) rfl rfl e67) (hK _ _ (le8_refl _) rfl)
        · intro ac w' hF hL hP hU K hK
          have hB : Below _ _ _ := hL
          have e67 : ac.eval (.tmp 67) = .bool false := hP 13 (by kernel_rfl)
          have e73 : ac.eval (.tmp 73) = .bool false := hP 19 (by kernel_rfl)
          exact rop_pick _ _ _ rfl false e67 (by simpa using e73) (wanted_none rfl) (hK _ _ (le8_refl _) rfl)
        · intro ac w' hF hB hT
          have e74 : ac.eval (.tmp 74) = .bool false := hT 20 (by decide)
          rw [hF.setsG [54, 55, 56, 57, 58, 59, 60, 61, 62, 63, 64, 65, 66, 67, 68, 69, 70, 71, 72, 73, 74] (by kernel_rfl)]
          simp only [List.foldl_cons, List.foldl_nil, List.setIfInBounds_toArray, List.set_cons_succ, List.set_cons_zero, e74]
          generalize ac.eval (.tmp 54) = u54
          generalize ac.eval (.tmp 55) = u55
          generalize ac.eval (.tmp 56) = u56
          generalize ac.eval (.tmp 57) = u57
          generalize ac.eval (.tmp 58) = u58
          generalize ac.eval (.tmp 59) = u59
          generalize ac.eval (.tmp 60) = u60
          generalize ac.eval (.tmp 61) = u61
          generalize ac.eval (.tmp 62) = u62
          generalize ac.eval (.tmp 63) = u63
          generalize ac.eval (.tmp 64) = u64
          generalize ac.eval (.tmp 65) = u65
          generalize ac.eval (.tmp 66) = u66
          generalize ac.eval (.tmp 67) = u67
          generalize ac.eval (.tmp 68) = u68
          generalize ac.eval (.tmp 69) = u69
          generalize ac.eval (.tmp 70) = u70
          generalize ac.eval (.tmp 71) = u71
          generalize ac.eval (.tmp 72) = u72
          generalize ac.eval (.tmp 73) = u73
          clear e74 hT hF ac
          obtain ⟨W, hW⟩ : ∃ W, W = w' := ⟨_, rfl⟩
          subst hW
          have b5 := below_step b3 (Nat.le_refl _) hB
          have s4 := s3.old hB s3.lt
          have hqW : q < W.heap.size := Nat.lt_of_lt_of_le s3.lt hB.size
          have A2 := Lib.hid a2
          clear s1 s2 s3 o2 o3 b1 b3 hB cbad HT2 HN3 HN4 a2
          obtain ⟨B, hBd⟩ : ∃ B, B = wo.heap.size := ⟨_, rfl⟩
          have HBd := Lib.hid hBd
          rw [← hBd] at hq b5
          clear hBd
          go_wp2
          go_loopw [15, 16, 17] (fun s15 s16 s17 wr => InRel7 B q S st2 R m (P + us) n wo s15 s16 s17 wr) (fun _ _ s17 _ => n - (intOf s17).toNat)
          case atStart => exact ⟨0, rfl, by omega, s4, ⟨OwnI.nil _, fun g e => by simp [Value.ownBlock] at e⟩, ⟨World.ownsRow_nil _ _ _ _, fun g e => by simp [Value.ownBlock] at e⟩, b5⟩
          case round =>
            obtain ⟨k, rfl, hk, sk, ⟨hO, hOb⟩, ⟨hC, hCb⟩, hbi⟩ := hrel
            have hBr : B ≤ wr.heap.size := by rw [HBd.out]; exact hbi.size
            by_cases hkn : k < n
            · have hkn' : (k : Int) < (n : Int) := by omega
              have hw1 := IntWalk.i64_in ((k : Int) + 1) (by omega)
              obtain ⟨y, hy⟩ : ∃ y, y = numV (afK st2 (65535 : Nat) k) (65535 : Nat) := ⟨_, rfl⟩
              have hy16 : y ≤ 65535 := by rw [hy]; exact numV_most _ _
              obtain ⟨r, hr⟩ : ∃ r, r = (pl + 1 + k) % m := ⟨_, rfl⟩
              have hrm : r < m := by rw [hr]; exact Nat.mod_lt _ (by omega)
              have hr2 : r = (P + us + (1 + k)) % m := by rw [hr, Hpl.out, ← Hus.out, Nat.add_assoc, Nat.mod_add_mod]
              obtain ⟨Y, hY⟩ : ∃ Y, Y = R r := ⟨_, rfl⟩
              have hputs : putsK st2 R m (P + us) (k + 1) = putsK st2 R m (P + us) k ++ [(y, Y)] := by rw [putsK_succ, ← hy, hY, hr2]
              have hnums : nmK st2 (65535 : Nat) (k + 1) = nmK st2 (65535 : Nat) k ++ [y] := by rw [nmK_succ, ← hy]
              have hN5 := refNum_any (afK st2 (65535 : Nat) k) 65535 65535 rfl (by decide) q S wr hS sk
              rw [← hy] at hN5
              change Calls _ _ _ _ fun e w' => e = .returned (.int .i64 (y : Nat)) ∧ RScn q S (afK st2 (65535 : Nat) (k + 1)) w' ∧ Only q wr w' at hN5
              have hcY : ∀ u, Below B wo u → u.cell? ⟨b, off + (1 + r), none⟩ = some (.string Y) := fun u hu => by
                rw [hY]
                exact (hu.cell (p := ⟨b, _, none⟩) (Nat.lt_of_lt_of_le hb (by rw [HBd.out]; exact hbl.size))).trans ((hbl.cell (p := ⟨b, _, none⟩) hb).trans (HRC.out r hrm))
              have e1 : ((pl : Int) + 1 + (k : Int)).tmod (m : Int) = (r : Int) := by rw [hr, Int.ofNat_tmod]; rfl
              have hm0 : ¬ (m : Int) = 0 := by omega
              obtain ⟨va, vc, rfl⟩ := hO.slice
              obtain ⟨pa, pc, rfl⟩ := hC.slice
              have hol : ((nmK st2 (65535 : Nat) k).map Int.ofNat).length = k := by rw [List.length_map, nmK_len]
              have hpl2 : (putsK st2 R m (P + us) k).length = k := putsK_len _ _ _ _ _
              have hO' := hO
              unfold OwnI at hO'
              have hC' := hC
              unfold CacheAt at hC'
              rw [hol] at hO' hOb ⊢
              rw [hpl2] at hC' hCb ⊢
              have HO := Lib.hid hO'
              have HC := Lib.hid hC'
              have HOB := Lib.hid hOb
              have HCB := Lib.hid hCb
              have HN5 := Lib.hid hN5
              have HPU := Lib.hid hputs
              have HNU := Lib.hid hnums
              have HCY := Lib.hid hcY
              have HSK := Lib.hid sk
              clear hO hC hO' hC' hOb hCb hN5 hputs hnums hcY hy hr hr2 hY hol hpl2 sk
              go_wp2_with (first
                | (go_at_call 42; with_reducible refine HN5.out.mono ?_; rintro e w5 ⟨rfl, s5, o5⟩)
                | (at_builtin; refine wpList_append_one Tryz.underlying23 info_int rfl (by decide) (by decide) rfl (.tmp 85) (.tmp 87) rfl (.slice va k vc) k (((nmK st2 (65535 : Nat) k).map Int.ofNat).map fun z => Value.int .i64 z) rfl (World.ownsRow.alloc (own_scan (by decide) HO.out HSK.out o5) _) w5.heap.size rfl [.int .i64 (y : Int)] rfl (by intro u hu; simp at hu; subst hu; rfl) (int_one w5 _) (by omega) ?_; intro v6 w6 hO6 hg6 hgo6; have b5i := hbi.trans (o5.below hq hBr); have b6i := below_grown (b5i.alloc (by have := HBd.out; have := b5i.size; omega) _) hg6 (by have := HBd.out; have := b5i.size; simp; omega) (fun j e => HOB.out j e); have hcr := HCY.out w6 b6i)
                | (at_builtin; refine wpList_append_one Tryz.underlying58 info_put rfl (by decide) (by decide) rfl (.tmp 89) (.tmp 102) rfl (.slice pa k pc) k (putCs (putsK st2 R m (P + us) k)) rfl (World.ownsRow.alloc (own_grown (by decide) (World.ownsRow.alloc (own_scan (by decide) HC.out HSK.out o5) _) (World.ownsRow.alloc (own_scan (by decide) HO.out HSK.out o5) _) hg6) _) w6.heap.size rfl [.int .i64 (y : Int), .string Y] rfl (by intro u hu; simp at hu; rcases hu with rfl | rfl <;> rfl) (put_one w6 _ _) (by omega) ?_; intro v7 w7 hC7 hg7 hgo7))
              have hC6 := own_grown (T := 64) (by decide) (World.ownsRow.alloc (own_scan (by decide) HC.out HSK.out o5) (.cells #[.int .i64 (y : Int)] 3)) (World.ownsRow.alloc (own_scan (by decide) HO.out HSK.out o5) (.cells #[.int .i64 (y : Int)] 3)) hg6
              have s6 : RScn q S (afK st2 (65535 : Nat) (k + 1)) w6 := rscn_grown (T' := 3) (by decide) (s5.old ((Below.refl w5.heap.size w5).alloc (Nat.le_refl _) (.cells #[.int .i64 (y : Int)] 3)) s5.lt) (World.ownsRow.alloc (own_scan (by decide) HO.out HSK.out o5) _) hg6
              have hC6a := World.ownsRow.alloc hC6 (.cells #[.int .i64 (y : Int), .string Y] 64)
              have s7 : RScn q S (afK st2 (65535 : Nat) (k + 1)) w7 := rscn_grown (T' := 64) (by decide) (s6.old ((Below.refl w6.heap.size w6).alloc (Nat.le_refl _) _) s6.lt) hC6a hg7
              have hO7 := own_grown (T := 3) (by decide) (World.ownsRow.alloc hO6 (.cells #[.int .i64 (y : Int), .string Y] 64)) hC6a hg7
              have b7i := below_grown (b6i.alloc (by have := HBd.out; have := b6i.size; omega) _) hg7 (by have := HBd.out; have := b6i.size; simp; omega) (fun j e => HCB.out j e)
              go_roundw
              case rel =>
                refine ⟨k + 1, by simp, by omega, s7, ⟨?_, fun j e => ?_⟩, ⟨?_, fun j e => ?_⟩, b7i⟩
                · rw [HNU.out]
                  unfold OwnI
                  have e1 : (List.map Int.ofNat (nmK st2 (65535 : Nat) k ++ [y])).length = k + 1 := by
                    rw [List.length_map, List.length_append, nmK_len]; rfl
                  rw [e1]
                  simpa using hO7
                · rcases hgo6 j e with e' | e'
                  · exact HOB.out j e'
                  · have := b5i.size
                    have := HBd.out
                    simp at e'
                    omega
                · rw [HPU.out]
                  unfold CacheAt
                  rw [putCs_snoc, List.length_append, putsK_len]
                  exact hC7
                · rcases hgo7 j e with e' | e'
                  · exact HCB.out j e'
                  · have := b6i.size
                    have := HBd.out
                    simp at e'
                    omega
              case measure => simp [intOf]; omega
            · obtain rfl : k = n := by omega
              have hkn' : ¬ (k : Int) < (k : Int) := by omega
              obtain ⟨ib, hints, -⟩ := hO.ints
              obtain ⟨va, vc, rfl⟩ := hO.slice
              obtain ⟨pa, pc, rfl⟩ := hC.slice
              have hol : ((nmK st2 (65535 : Nat) k).map Int.ofNat).length = k := by rw [List.length_map, nmK_len]
              have hpl2 : (putsK st2 R m (P + us) k).length = k := putsK_len _ _ _ _ _
              rw [hol] at hints ⊢
              rw [hpl2] at hC hCb ⊢
              have hk60 : k ≤ 60 := hn60
              have hats : atsK ((nmK st2 (65535 : Nat) k).map Int.ofNat) = At := by
                have := atsK_nat At (by rw [HAL.out]; exact hn60) HALE.out
                rw [← HAT.out]
                exact this
              have hkq : keptN (sq : Int) 1099511627776 = sq := keptN_id sq _ (by omega)
              have hkk : keptN (k : Int) 1099511627776 = k := keptN_id k _ (by omega)
              have hfst := fun u (hu : Below wr.heap.size wr u) => refFirst_any (sq : Int) (.slice va k vc) _ ib u (hints.kept fun h => ⟨Nat.lt_of_lt_of_le h hu.size, hu.block _ h⟩) (fun j => by
                rw [List.getD_eq_getElem?_getD, List.getElem?_map]
                cases hx : (nmK st2 (65535 : Nat) k)[j]? with
                | none => simp
                | some z =>
                  have := nmK_le st2 65535 k z (List.mem_of_getElem? hx)
                  simp
                  omega) (by omega) (by omega)
              rw [hats, hkq] at hfst
              have hlst := fun u => refLast_any (sq : Int) (k : Int) u (by omega) (by omega) (by omega) (by omega)
              rw [hkq, hkk] at hlst
              have hendf := refEnd_any (afK st2 (65535 : Nat) k) q S
              obtain ⟨r, hr⟩ : ∃ r, r = (pl + k + 1) % m := ⟨_, rfl⟩
              have hrm : r < m := by rw [hr]; exact Nat.mod_lt _ (by omega)
              have hr2 : r = (P + us + (k + 1)) % m := by rw [hr, Hpl.out, ← Hus.out, Nat.add_assoc, Nat.mod_add_mod]
              have e1 : ((pl : Int) + (k : Int) + 1).tmod (m : Int) = (r : Int) := by rw [hr, Int.ofNat_tmod]; rfl
              obtain ⟨Y, hY⟩ : ∃ Y, Y = R r := ⟨_, rfl⟩
              have hbow : b < wr.heap.size := Nat.lt_of_lt_of_le hb (Nat.le_trans hbl.size (by have := hbi.size; exact this))
              have hcY : wr.cell? ⟨b, off + (1 + r), none⟩ = some (.string Y) := by
                rw [hY]
                exact (hbi.cell (p := ⟨b, _, none⟩) (Nat.lt_of_lt_of_le hb (by rw [HBd.out]; exact hbl.size))).trans ((hbl.cell (p := ⟨b, _, none⟩) hb).trans (HRC.out r hrm))
              have hcX : wr.cell? ⟨b, off + (1 + pl), none⟩ = some (.string X) := (hbi.cell (p := ⟨b, _, none⟩) (Nat.lt_of_lt_of_le hb (by rw [HBd.out]; exact hbl.size))).trans hcx
              obtain ⟨Z, hZ⟩ : ∃ Z, Z = lsL sq k := ⟨_, rfl⟩
              rw [← hZ] at hlst
              have HFST := Lib.hid hfst
              have HLST := Lib.hid hlst
              have HSK := Lib.hid sk
              have HCC := Lib.hid hC
              have HCCB := Lib.hid hCb
              have HR2 := Lib.hid hr2
              have HYR := Lib.hid hY
              have HZL := Lib.hid hZ
              have HE1 := Lib.hid e1
              have bww := below_step hbl (Nat.le_refl _) (by rw [← HBd.out]; exact hbi)
              have BWO : Hid (Below wo.heap.size wo wr) := Lib.hid (by rw [← HBd.out]; exact hbi)
              clear hO hOb hC hCb hol hpl2 hats hkq hkk hfst hlst hr hr2 hY hZ e1 hints sk
              rcases endV_two (afK st2 (65535 : Nat) k) with he | he
              · rw [he] at hendf
                have HENF := Lib.hid hendf
                have HFX : Hid (fsL sq At = X) := Lib.hid (HLI.out he A2.out a3).symm
                have HHE := Lib.hid he
                clear hendf he
                by_cases hzy : Z = Y
                · obtain ⟨ra4, rc4, rfl⟩ := Hrows.out.slice
                  go_upto_region 24 with (fail)
                  try simp only [Act.put]
                  refine wp_region_tab [RT.is (.pointer (some ⟨q, 0, none⟩)), RT.is (.int .i64 0), RT.is (.bool false), RT.is (.bool false), RT.is (.int .i64 (sq : Int)), RT.is (.slice va k vc), RT.is (.string (fsL sq At)), RT.is (.slice (some ⟨b, off, none⟩) (m + 1) rcap), RT.is (.int .i64 (pl : Int)), RT.is (.int .i64 (1 + (pl : Int))), RT.is (.pointer (some ⟨b, off + (1 + pl), none⟩)), RT.is (.string X), RT.is (.bool false), RT.is (.bool false), RT.is (.bool false), RT.is (.int .i64 (sq : Int)), RT.is (.int .i64 (k : Int)), RT.is (.string Z), RT.is (.slice (some ⟨b, off, none⟩) (m + 1) rcap), RT.is (.int .i64 (pl : Int)), RT.is (.int .i64 (k : Int)), RT.is (.int .i64 ((pl : Int) + (k : Int))), RT.is (.int .i64 ((pl : Int) + (k : Int) + 1)), RT.is (.int .i64 (m : Int)), RT.is (.int .i64 (r : Int)), RT.is (.int .i64 (1 + (r : Int))), RT.is (.pointer (some ⟨b, off + (1 + r), none⟩)), RT.is (.string Y), RT.is (.bool false), RT.is (.bool false)] (by kernel_rfl) (by kernel_rfl) (by kernel_rfl) (by kernel_rfl) ⟨?_, ?_, ?_, ?_, ?_, ?_, ?_, ?_, ?_, ?_, ?_, ?_, ?_, ?_, ?_, ?_, ?_, ?_, ?_, ?_, ?_, ?_, ?_, ?_, ?_, ?_, ?_, ?_, ?_, ?_, trivial⟩ ?_
                  · intro ac w' hF hL hP hU K hK
                    have hB := below_undrew hL
                    have e12 : ac.eval (.tmp 12) = .pointer (some ⟨q, 0, none⟩) := hF.at 12 (by kernel_rfl)
                    exact rop_move _ rfl e12 (wanted_none rfl) (hK _ _ (le8_refl _) rfl)
                  · intro ac w' hF hL hP hU K hK
                    have hB := below_undrew hL
                    have e104 : ac.eval (.tmp 104) = .pointer (some ⟨q, 0, none⟩) := hP 0 (by kernel_rfl)
                    refine rop_call 43 _ _ rfl #[.pointer (some ⟨q, 0, none⟩)] (by simp [e104]) (by kernel_rfl) (wanted_none rfl) ?_
                    refine (HENF.out w' hS (HSK.out.old hB HSK.out.lt)).mono ?_
                    rintro e w2 ⟨rfl, hb⟩
                    exact ⟨_, rfl, hK _ _ hb rfl⟩
                  · intro ac w' hF hL hP hU K hK
                    have hB := below_undrew hL
                    have e105 : ac.eval (.tmp 105) = .int .i64 0 := hP 1 (by kernel_rfl)
                    exact rop_bin _ _ _ _ _ rfl e105 rfl (guard_int _ _ _ _ _ _ _ w') (neq_err0 w') (wanted_none rfl) (hK _ _ (le8_refl _) rfl)
                  · intro ac w' hF hL hP hU K hK
                    have hB := below_undrew hL
                    have e106 : ac.eval (.tmp 106) = .bool false := hP 2 (by kernel_rfl)
                    exact rop_move _ rfl e106 (wanted_none rfl) (hK _ _ (le8_refl _) rfl)
                  · intro ac w' hF hL hP hU K hK
                    have hB := below_undrew hL
                    have e9 : ac.eval (.tmp 9) = .int .i64 (sq : Int) := hF.at 9 (by kernel_rfl)
                    have e107 : ac.eval (.tmp 107) = .bool false := hP 3 (by kernel_rfl)
                    exact rop_move _ rfl e9 (wanted_of (j := 3) (b := false) rfl rfl e107) (hK _ _ (le8_refl _) rfl)
                  · intro ac w' hF hL hP hU K hK
                    have hB := below_undrew hL
                    have e16 : ac.eval (.tmp 16) = .slice va k vc := hF.at 16 (by kernel_rfl)
                    have e107 : ac.eval (.tmp 107) = .bool false := hP 3 (by kernel_rfl)
                    exact rop_move _ rfl e16 (wanted_of (j := 3) (b := false) rfl rfl e107) (hK _ _ (le8_refl _) rfl)
                  · intro ac w' hF hL hP hU K hK
                    have hB := below_undrew hL
                    have e108 : ac.eval (.tmp 108) = .int .i64 (sq : Int) := hP 4 (by kernel_rfl)
                    have e109 : ac.eval (.tmp 109) = .slice va k vc := hP 5 (by kernel_rfl)
                    have e107 : ac.eval (.tmp 107) = .bool false := hP 3 (by kernel_rfl)
                    refine rop_call 10 _ _ rfl #[.int .i64 (sq : Int), .slice va k vc] (by simp [e108, e109]) (by kernel_rfl) (wanted_of (j := 3) (b := false) rfl rfl e107) ?_
                    refine (HFST.out w' hB).mono ?_
                    rintro e w2 ⟨rfl, hb⟩
                    exact ⟨_, rfl, hK _ _ hb rfl⟩
                  · intro ac w' hF hL hP hU K hK
                    have hB := below_undrew hL
                    have e0 : ac.eval (.tmp 0) = .slice (some ⟨b, off, none⟩) (m + 1) rcap := hF.at 0 (by kernel_rfl)
                    have e107 : ac.eval (.tmp 107) = .bool false := hP 3 (by kernel_rfl)
                    exact rop_move _ rfl e0 (wanted_of (j := 3) (b := false) rfl rfl e107) (hK _ _ (le8_refl _) rfl)
                  · intro ac w' hF hL hP hU K hK
                    have hB := below_undrew hL
                    have e8 : ac.eval (.tmp 8) = .int .i64 (pl : Int) := hF.at 8 (by kernel_rfl)
                    have e107 : ac.eval (.tmp 107) = .bool false := hP 3 (by kernel_rfl)
                    exact rop_move _ rfl e8 (wanted_of (j := 3) (b := false) rfl rfl e107) (hK _ _ (le8_refl _) rfl)
                  · intro ac w' hF hL hP hU K hK
                    have hB := below_undrew hL
                    have e112 : ac.eval (.tmp 112) = .int .i64 (pl : Int) := hP 8 (by kernel_rfl)
                    have e107 : ac.eval (.tmp 107) = .bool false := hP 3 (by kernel_rfl)
                    exact rop_bin _ _ _ _ _ rfl rfl e112 (guard_int _ _ _ _ _ _ _ w') (add_int _ _ _ (rfl) (by omega) w') (wanted_of (j := 3) (b := false) rfl rfl e107) (hK _ _ (le8_refl _) rfl)
                  · intro ac w' hF hL hP hU K hK
                    have hB := below_undrew hL
                    have e111 : ac.eval (.tmp 111) = .slice (some ⟨b, off, none⟩) (m + 1) rcap := hP 7 (by kernel_rfl)
                    have e113 : ac.eval (.tmp 113) = .int .i64 (1 + (pl : Int)) := hP 9 (by kernel_rfl)
                    have e107 : ac.eval (.tmp 107) = .bool false := hP 3 (by kernel_rfl)
                    exact rop_idx _ _ _ rfl e111 e113 (index_strs b off (m + 1) rcap (1 + pl) _ (by simp) (by omega) w') (wanted_of (j := 3) (b := false) rfl rfl e107) (hK _ _ (le8_refl _) rfl)
                  · intro ac w' hF hL hP hU K hK
                    have hB := below_undrew hL
                    have e114 : ac.eval (.tmp 114) = .pointer (some ⟨b, off + (1 + pl), none⟩) := hP 10 (by kernel_rfl)
                    have e107 : ac.eval (.tmp 107) = .bool false := hP 3 (by kernel_rfl)
                    exact rop_ld _ _ rfl e114 (load_str7 ((hB.cell (p := ⟨b, _, none⟩) hbow).trans hcX)) (wanted_of (j := 3) (b := false) rfl rfl e107) (hK _ _ (le8_refl _) rfl)
                  · intro ac w' hF hL hP hU K hK
                    have hB := below_undrew hL
                    have e110 : ac.eval (.tmp 110) = .string (fsL sq At) := hP 6 (by kernel_rfl)
                    have e115 : ac.eval (.tmp 115) = .string X := hP 11 (by kernel_rfl)
                    have e107 : ac.eval (.tmp 107) = .bool false := hP 3 (by kernel_rfl)
                    exact rop_bin _ _ _ _ _ rfl e110 e115 (guard_str _ _ _ _ _ _ w') (neq_str_f _ _ HFX.out w') (wanted_of (j := 3) (b := false) rfl rfl e107) (hK _ _ (le8_refl _) rfl)
                  · intro ac w' hF hL hP hU K hK
                    have hB := below_undrew hL
                    have e107 : ac.eval (.tmp 107) = .bool false := hP 3 (by kernel_rfl)
                    have e116 : ac.eval (.tmp 116) = .bool false := hP 12 (by kernel_rfl)
                    exact rop_pick _ _ _ rfl false e107 (by simpa using e116) (wanted_none rfl) (hK _ _ (le8_refl _) rfl)
                  · intro ac w' hF hL hP hU K hK
                    have hB := below_undrew hL
                    have e117 : ac.eval (.tmp 117) = .bool false := hP 13 (by kernel_rfl)
                    exact rop_move _ rfl e117 (wanted_none rfl) (hK _ _ (le8_refl _) rfl)
                  · intro ac w' hF hL hP hU K hK
                    have hB := below_undrew hL
                    have e9 : ac.eval (.tmp 9) = .int .i64 (sq : Int) := hF.at 9 (by kernel_rfl)
                    have e118 : ac.eval (.tmp 118) = .bool false := hP 14 (by kernel_rfl)
                    exact rop_move _ rfl e9 (wanted_of (j := 14) (b := false) rfl rfl e118) (hK _ _ (le8_refl _) rfl)
                  · intro ac w' hF hL hP hU K hK
                    have hB := below_undrew hL
                    have e14 : ac.eval (.tmp 14) = .int .i64 (k : Int) := hF.at 14 (by kernel_rfl)
                    have e118 : ac.eval (.tmp 118) = .bool false := hP 14 (by kernel_rfl)
                    exact rop_move _ rfl e14 (wanted_of (j := 14) (b := false) rfl rfl e118) (hK _ _ (le8_refl _) rfl)
                  · intro ac w' hF hL hP hU K hK
                    have hB := below_undrew hL
                    have e119 : ac.eval (.tmp 119) = .int .i64 (sq : Int) := hP 15 (by kernel_rfl)
                    have e120 : ac.eval (.tmp 120) = .int .i64 (k : Int) := hP 16 (by kernel_rfl)
                    have e118 : ac.eval (.tmp 118) = .bool false := hP 14 (by kernel_rfl)
                    refine rop_call 12 _ _ rfl #[.int .i64 (sq : Int), .int .i64 (k : Int)] (by simp [e119, e120]) (by kernel_rfl) (wanted_of (j := 14) (b := false) rfl rfl e118) ?_
                    refine (HLST.out w').mono ?_
                    rintro e w2 ⟨rfl, hb⟩
                    exact ⟨_, rfl, hK _ _ hb rfl⟩
                  · intro ac w' hF hL hP hU K hK
                    have hB := below_undrew hL
                    have e0 : ac.eval (.tmp 0) = .slice (some ⟨b, off, none⟩) (m + 1) rcap := hF.at 0 (by kernel_rfl)
                    have e118 : ac.eval (.tmp 118) = .bool false := hP 14 (by kernel_rfl)
                    exact rop_move _ rfl e0 (wanted_of (j := 14) (b := false) rfl rfl e118) (hK _ _ (le8_refl _) rfl)
                  · intro ac w' hF hL hP hU K hK
                    have hB := below_undrew hL
                    have e8 : ac.eval (.tmp 8) = .int .i64 (pl : Int) := hF.at 8 (by kernel_rfl)
                    have e118 : ac.eval (.tmp 118) = .bool false := hP 14 (by kernel_rfl)
                    exact rop_move _ rfl e8 (wanted_of (j := 14) (b := false) rfl rfl e118) (hK _ _ (le8_refl _) rfl)
                  · intro ac w' hF hL hP hU K hK
                    have hB := below_undrew hL
                    have e14 : ac.eval (.tmp 14) = .int .i64 (k : Int) := hF.at 14 (by kernel_rfl)
                    have e118 : ac.eval (.tmp 118) = .bool false := hP 14 (by kernel_rfl)
                    exact rop_move _ rfl e14 (wanted_of (j := 14) (b := false) rfl rfl e118) (hK _ _ (le8_refl _) rfl)
                  · intro ac w' hF hL hP hU K hK
                    have hB := below_undrew hL
                    have e123 : ac.eval (.tmp 123) = .int .i64 (pl : Int) := hP 19 (by kernel_rfl)
                    have e124 : ac.eval (.tmp 124) = .int .i64 (k : Int) := hP 20 (by kernel_rfl)
                    have e118 : ac.eval (.tmp 118) = .bool false := hP 14 (by kernel_rfl)
                    exact rop_bin _ _ _ _ _ rfl e123 e124 (guard_int _ _ _ _ _ _ _ w') (add_int _ _ _ (rfl) (by omega) w') (wanted_of (j := 14) (b := false) rfl rfl e118) (hK _ _ (le8_refl _) rfl)
                  · intro ac w' hF hL hP hU K hK
                    have hB := below_undrew hL
                    have e125 : ac.eval (.tmp 125) = .int .i64 ((pl : Int) + (k : Int)) := hP 21 (by kernel_rfl)
                    have e118 : ac.eval (.tmp 118) = .bool false := hP 14 (by kernel_rfl)
                    exact rop_bin _ _ _ _ _ rfl e125 rfl (guard_int _ _ _ _ _ _ _ w') (add_int _ _ _ (rfl) (by omega) w') (wanted_of (j := 14) (b := false) rfl rfl e118) (hK _ _ (le8_refl _) rfl)
                  · intro ac w' hF hL hP hU K hK
                    have hB := below_undrew hL
                    have e6 : ac.eval (.tmp 6) = .int .i64 (m : Int) := hF.at 6 (by kernel_rfl)
                    have e118 : ac.eval (.tmp 118) = .bool false := hP 14 (by kernel_rfl)
                    exact rop_move _ rfl e6 (wanted_of (j := 14) (b := false) rfl rfl e118) (hK _ _ (le8_refl _) rfl)
                  · intro ac w' hF hL hP hU K hK
                    have hB := below_undrew hL
                    have e126 : ac.eval (.tmp 126) = .int .i64 ((pl : Int) + (k : Int) + 1) := hP 22 (by kernel_rfl)
                    have e127 : ac.eval (.tmp 127) = .int .i64 (m : Int) := hP 23 (by kernel_rfl)
                    have e118 : ac.eval (.tmp 118) = .bool false := hP 14 (by kernel_rfl)
                    exact rop_bin _ _ _ _ _ rfl e126 e127 (guard_int _ _ _ _ _ _ _ w') (rem_int _ _ _ HE1.out (by omega) (by omega) w') (wanted_of (j := 14) (b := false) rfl rfl e118) (hK _ _ (le8_refl _) rfl)
                  · intro ac w' hF hL hP hU K hK
                    have hB := below_undrew hL
                    have e128 : ac.eval (.tmp 128) = .int .i64 (r : Int) := hP 24 (by kernel_rfl)
                    have e118 : ac.eval (.tmp 118) = .bool false := hP 14 (by kernel_rfl)
                    exact rop_bin _ _ _ _ _ rfl rfl e128 (guard_int _ _ _ _ _ _ _ w') (add_int _ _ _ (rfl) (by omega) w') (wanted_of (j := 14) (b := false) rfl rfl e118) (hK _ _ (le8_refl _) rfl)
                  · intro ac w' hF hL hP hU K hK
                    have hB := below_undrew hL
                    have e122 : ac.eval (.tmp 122) = .slice (some ⟨b, off, none⟩) (m + 1) rcap := hP 18 (by kernel_rfl)
                    have e129 : ac.eval (.tmp 129) = .int .i64 (1 + (r : Int)) := hP 25 (by kernel_rfl)
                    have e118 : ac.eval (.tmp 118) = .bool false := hP 14 (by kernel_rfl)
                    exact rop_idx _ _ _ rfl e122 e129 (index_strs b off (m + 1) rcap (1 + r) _ (by simp) (by omega) w') (wanted_of (j := 14) (b := false) rfl rfl e118) (hK _ _ (le8_refl _) rfl)
                  · intro ac w' hF hL hP hU K hK
                    have hB := below_undrew hL
                    have e130 : ac.eval (.tmp 130) = .pointer (some ⟨b, off + (1 + r), none⟩) := hP 26 (by kernel_rfl)
                    have e118 : ac.eval (.tmp 118) = .bool false := hP 14 (by kernel_rfl)
                    exact rop_ld _ _ rfl e130 (load_str7 ((hB.cell (p := ⟨b, _, none⟩) hbow).trans hcY)) (wanted_of (j := 14) (b := false) rfl rfl e118) (hK _ _ (le8_refl _) rfl)
                  · intro ac w' hF hL hP hU K hK
                    have hB := below_undrew hL
                    have e121 : ac.eval (.tmp 121) = .string Z := hP 17 (by kernel_rfl)
                    have e131 : ac.eval (.tmp 131) = .string Y := hP 27 (by kernel_rfl)
                    have e118 : ac.eval (.tmp 118) = .bool false := hP 14 (by kernel_rfl)
                    exact rop_bin _ _ _ _ _ rfl e121 e131 (guard_str _ _ _ _ _ _ w') (neq_str_f _ _ hzy w') (wanted_of (j := 14) (b := false) rfl rfl e118) (hK _ _ (le8_refl _) rfl)
                  · intro ac w' hF hL hP hU K hK
                    have hB := below_undrew hL
                    have e118 : ac.eval (.tmp 118) = .bool false := hP 14 (by kernel_rfl)
                    have e132 : ac.eval (.tmp 132) = .bool false := hP 28 (by kernel_rfl)
                    exact rop_pick _ _ _ rfl false e118 (by simpa using e132) (wanted_none rfl) (hK _ _ (le8_refl _) rfl)
                  · intro ac w' hF hB hT
                    have e133 : ac.eval (.tmp 133) = .bool false := hT 29 (by decide)
                    rw [hF.setsG [104, 105, 106, 107, 108, 109, 110, 111, 112, 113, 114, 115, 116, 117, 118, 119, 120, 121, 122, 123, 124, 125, 126, 127, 128, 129, 130, 131, 132, 133] (by kernel_rfl)]
                    simp only [List.foldl_cons, List.foldl_nil, List.setIfInBounds_toArray, List.set_cons_succ, List.set_cons_zero, e133]
                    generalize ac.eval (.tmp 104) = u104
                    generalize ac.eval (.tmp 105) = u105
                    generalize ac.eval (.tmp 106) = u106
                    generalize ac.eval (.tmp 107) = u107
                    generalize ac.eval (.tmp 108) = u108
                    generalize ac.eval (.tmp 109) = u109
                    generalize ac.eval (.tmp 110) = u110
                    generalize ac.eval (.tmp 111) = u111
                    generalize ac.eval (.tmp 112) = u112
                    generalize ac.eval (.tmp 113) = u113
                    generalize ac.eval (.tmp 114) = u114
                    generalize ac.eval (.tmp 115) = u115
                    generalize ac.eval (.tmp 116) = u116
                    generalize ac.eval (.tmp 117) = u117
                    generalize ac.eval (.tmp 118) = u118
                    generalize ac.eval (.tmp 119) = u119
                    generalize ac.eval (.tmp 120) = u120
                    generalize ac.eval (.tmp 121) = u121
                    generalize ac.eval (.tmp 122) = u122
                    generalize ac.eval (.tmp 123) = u123
                    generalize ac.eval (.tmp 124) = u124
                    generalize ac.eval (.tmp 125) = u125
                    generalize ac.eval (.tmp 126) = u126
                    generalize ac.eval (.tmp 127) = u127
                    generalize ac.eval (.tmp 128) = u128
                    generalize ac.eval (.tmp 129) = u129
                    generalize ac.eval (.tmp 130) = u130
                    generalize ac.eval (.tmp 131) = u131
                    generalize ac.eval (.tmp 132) = u132
                    clear e133 hT hF ac
                    have b5 := below_step BWO.out (Nat.le_refl _) hB
                    have htx := HGO.out A2.out a3 a4 HHE.out (by rw [← HR2.out, ← HYR.out, ← hzy, HZL.out])
                    rw [HAT.out, putsK_at] at htx
                    obtain ⟨T, hT⟩ : ∃ T, T = putsK st2 R m (P + us) k := ⟨_, rfl⟩
                    have hTl : T.length = k := by rw [hT]; exact putsK_len _ _ _ _ _
                    rw [← hT] at htx
                    have hnext : Path R m P Q m (l ++ [T]) := Hpath.out.snoc (by rw [← Hus.out, ← Hsq.out]; exact htx)
                    have hsl : Jnl.slots (l ++ [T]) = us + k + 2 := by rw [Jnl.slots_append, ← Hus.out, Nat.add_assoc, ← hTl]; rfl
                    obtain ⟨r9, hr9⟩ : ∃ r9, r9 = (pl + k + 2) % m := ⟨_, rfl⟩
                    have hr92 : r9 = (P + Jnl.slots (l ++ [T])) % m := by rw [hr9, hsl, Hpl.out, Hus.out, Nat.add_assoc, Nat.mod_add_mod, Nat.add_assoc, Nat.add_assoc]
                    have e9 : ((pl : Int) + (k : Int) + 2).tmod (m : Int) = (r9 : Int) := by rw [hr9, Int.ofNat_tmod]; rfl
                    have hr9m : r9 < m := by rw [hr9]; exact Nat.mod_lt _ (by omega)
                    have hm0 : ¬ (m : Int) = 0 := by omega
                    have hge9 := slots_ge l
                    rw [← Hus.out] at hge9
                    have hlb : l.length ≤ 60000 := by omega
                    have r5 := Hrows.out.old b5
                    have hpc1 : CacheAt (.slice pa k pc) T w' := by
                      rw [hT]
                      exact HCC.out.kept fun j e => hB.block j (World.ownsRow.lt HCC.out j e).2
                    have hr0 := r5
                    obtain ⟨hrb, vs, hvl, hvo, hvj⟩ := r5
                    have hw9 : w.heap.size ≤ w'.heap.size := Nat.le_trans hbl.size b5.size
                    have hpb9 : ∀ j, (Value.slice pa k pc).ownBlock = some j → w.heap.size ≤ j := fun j e => Nat.le_trans hbl.size (by rw [← HBd.out]; exact HCCB.out j e)
                    have HNX := Lib.hid hnext
                    have HSL := Lib.hid hsl
                    have HR9 := Lib.hid hr92
                    have HVJ := Lib.hid hvj
                    have HVL := Lib.hid hvl
                    have HVO := Lib.hid hvo
                    have HPB := Lib.hid hpb9
                    have HTL := Lib.hid hTl
                    have hfin := below_step hbl (Nat.le_refl _) b5
                    have HHB := Lib.hid hB
                    clear htx hT hnext hsl hr9 hr92 hvj hvl hvo hpb9 hTl hzy hge9 HGO HAT HLST HFST HENF HFX HHE HZL HYR HR2 HE1 HLI HCCB HSK HALE HCS HST HAL hB
                    obtain ⟨W, hW⟩ : ∃ W, W = w' := ⟨_, rfl⟩
                    subst hW
                    go_wp2_with (at_builtin; refine wpList_append_one Tryz.underlying33 info_rows rfl (by decide) (by decide) rfl (.tmp 137) (.tmp 139) rfl (.slice ra4 l.length rc4) l.length vs rfl (World.ownsRow.alloc HVO.out _) W.heap.size rfl [.slice pa k pc] rfl (by intro u hu; simp at hu; subst hu; rfl) (val_one W _ _) (by omega) ?_; intro v6 w6 hO6 hg6 hgo)
                    go_roundw
                    case rel =>
                      have hb3 : Below W.heap.size W (W.alloc (.cells #[.slice pa k pc] 58)) := (Below.refl _ _).alloc (Nat.le_refl _) _
                      refine ⟨l ++ [T], HNX.out, by rw [← HR9.out], ?_, ?_, ?_, ?_⟩
                      · rw [List.length_append, List.length_singleton, Hsq.out]
                        congr 1
                      · rw [HSL.out]
                        congr 1
                      · refine Rows.grow HVL.out (fun j hj => ⟨(HVJ.out j hj).1.kept fun i e => hb3.block i (World.ownsRow.lt (HVJ.out j hj).1 i e).2, (HVJ.out j hj).2⟩) (hpc1.kept fun i e => hb3.block i (World.ownsRow.lt hpc1 i e).2) (fun i e => HPB.out i e) (fun i e => (hr0.old hb3).type e) hO6 hg6 (fun i e => ?_)
                        rcases hgo i e with e' | e'
                        · exact hrb i e'
                        · simp at e'
                          omega
                      · exact below_grown (hfin.trans (hb3.mono hw9)) hg6 (by simp; omega) hrb
                    case measure => simp [intOf]; omega
                · go_upto_region 24 with (fail)
                  try simp only [Act.put]
                  refine wp_region_tab [RT.is (.pointer (some ⟨q, 0, none⟩)), RT.is (.int .i64 0), RT.is (.bool false), RT.is (.bool false), RT.is (.int .i64 (sq : Int)), RT.is (.slice va k vc), RT.is (.string (fsL sq At)), RT.is (.slice (some ⟨b, off, none⟩) (m + 1) rcap), RT.is (.int .i64 (pl : Int)), RT.is (.int .i64 (1 + (pl : Int))), RT.is (.pointer (some ⟨b, off + (1 + pl), none⟩)), RT.is (.string X), RT.is (.bool false), RT.is (.bool false), RT.is (.bool false), RT.is (.int .i64 (sq : Int)), RT.is (.int .i64 (k : Int)), RT.is (.string Z), RT.is (.slice (some ⟨b, off, none⟩) (m + 1) rcap), RT.is (.int .i64 (pl : Int)), RT.is (.int .i64 (k : Int)), RT.is (.int .i64 ((pl : Int) + (k : Int))), RT.is (.int .i64 ((pl : Int) + (k : Int) + 1)), RT.is (.int .i64 (m : Int)), RT.is (.int .i64 (r : Int)), RT.is (.int .i64 (1 + (r : Int))), RT.is (.pointer (some ⟨b, off + (1 + r), none⟩)), RT.is (.string Y), RT.is (.bool true), RT.is (.bool true)] (by kernel_rfl) (by kernel_rfl) (by kernel_rfl) (by kernel_rfl) ⟨?_, ?_, ?_, ?_, ?_, ?_, ?_, ?_, ?_, ?_, ?_, ?_, ?_, ?_, ?_, ?_, ?_, ?_, ?_, ?_, ?_, ?_, ?_, ?_, ?_, ?_, ?_, ?_, ?_, ?_, trivial⟩ ?_
                  · intro ac w' hF hL hP hU K hK
                    have hB := below_undrew hL
                    have e12 : ac.eval (.tmp 12) = .pointer (some ⟨q, 0, none⟩) := hF.at 12 (by kernel_rfl)
                    exact rop_move _ rfl e12 (wanted_none rfl) (hK _ _ (le8_refl _) rfl)
                  · intro ac w' hF hL hP hU K hK
                    have hB := below_undrew hL
                    have e104 : ac.eval (.tmp 104) = .pointer (some ⟨q, 0, none⟩) := hP 0 (by kernel_rfl)
                    refine rop_call 43 _ _ rfl #[.pointer (some ⟨q, 0, none⟩)] (by simp [e104]) (by kernel_rfl) (wanted_none rfl) ?_
                    refine (HENF.out w' hS (HSK.out.old hB HSK.out.lt)).mono ?_
                    rintro e w2 ⟨rfl, hb⟩
                    exact ⟨_, rfl, hK _ _ hb rfl⟩
                  · intro ac w' hF hL hP hU K hK
                    have hB := below_undrew hL
                    have e105 : ac.eval (.tmp 105) = .int .i64 0 := hP 1 (by kernel_rfl)
                    exact rop_bin _ _ _ _ _ rfl e105 rfl (guard_int _ _ _ _ _ _ _ w') (neq_err0 w') (wanted_none rfl) (hK _ _ (le8_refl _) rfl)
                  · intro ac w' hF hL hP hU K hK
                    have hB := below_undrew hL
                    have e106 : ac.eval (.tmp 106) = .bool false := hP 2 (by kernel_rfl)
                    exact rop_move _ rfl e106 (wanted_none rfl) (hK _ _ (le8_refl _) rfl)
                  · intro ac w' hF hL hP hU K hK
                    have hB := below_undrew hL
                    have e9 : ac.eval (.tmp 9) = .int .i64 (sq : Int) := hF.at 9 (by kernel_rfl)
                    have e107 : ac.eval (.tmp 107) = .bool false := hP 3 (by kernel_rfl)
                    exact rop_move _ rfl e9 (wanted_of (j := 3) (b := false) rfl rfl e107) (hK _ _ (le8_refl _) rfl)
                  · intro ac w' hF hL hP hU K hK
                    have hB := below_undrew hL
                    have e16 : ac.eval (.tmp 16) = .slice va k vc := hF.at 16 (by kernel_rfl)
                    have e107 : ac.eval (.tmp 107) = .bool false := hP 3 (by kernel_rfl)
                    exact rop_move _ rfl e16 (wanted_of (j := 3) (b := false) rfl rfl e107) (hK _ _ (le8_refl _) rfl)
                  · intro ac w' hF hL hP hU K hK
                    have hB := below_undrew hL
                    have e108 : ac.eval (.tmp 108) = .int .i64 (sq : Int) := hP 4 (by kernel_rfl)
                    have e109 : ac.eval (.tmp 109) = .slice va k vc := hP 5 (by kernel_rfl)
                    have e107 : ac.eval (.tmp 107) = .bool false := hP 3 (by kernel_rfl)
                    refine rop_call 10 _ _ rfl #[.int .i64 (sq : Int), .slice va k vc] (by simp [e108, e109]) (by kernel_rfl) (wanted_of (j := 3) (b := false) rfl rfl e107) ?_
                    refine (HFST.out w' hB).mono ?_
                    rintro e w2 ⟨rfl, hb⟩
                    exact ⟨_, rfl, hK _ _ hb rfl⟩
                  · intro ac w' hF hL hP hU K hK
                    have hB := below_undrew hL
                    have e0 : ac.eval (.tmp 0) = .slice (some ⟨b, off, none⟩) (m + 1) rcap := hF.at 0 (by kernel_rfl)
                    have e107 : ac.eval (.tmp 107) = .bool false := hP 3 (by kernel_rfl)
                    exact rop_move _ rfl e0 (wanted_of (j := 3) (b := false) rfl rfl e107) (hK _ _ (le8_refl _) rfl)
                  · intro ac w' hF hL hP hU K hK
                    have hB := below_undrew hL
                    have e8 : ac.eval (.tmp 8) = .int .i64 (pl : Int) := hF.at 8 (by kernel_rfl)
                    have e107 : ac.eval (.tmp 107) = .bool false := hP 3 (by kernel_rfl)
                    exact rop_move _ rfl e8 (wanted_of (j := 3) (b := false) rfl rfl e107) (hK _ _ (le8_refl _) rfl)
                  · intro ac w' hF hL hP hU K hK
                    have hB := below_undrew hL
                    have e112 : ac.eval (.tmp 112) = .int .i64 (pl : Int) := hP 8 (by kernel_rfl)
                    have e107 : ac.eval (.tmp 107) = .bool false := hP 3 (by kernel_rfl)
                    exact rop_bin _ _ _ _ _ rfl rfl e112 (guard_int _ _ _ _ _ _ _ w') (add_int _ _ _ (rfl) (by omega) w') (wanted_of (j := 3) (b := false) rfl rfl e107) (hK _ _ (le8_refl _) rfl)
                  · intro ac w' hF hL hP hU K hK
                    have hB := below_undrew hL
                    have e111 : ac.eval (.tmp 111) = .slice (some ⟨b, off, none⟩) (m + 1) rcap := hP 7 (by kernel_rfl)
                    have e113 : ac.eval (.tmp 113) = .int .i64 (1 + (pl : Int)) := hP 9 (by kernel_rfl)
                    have e107 : ac.eval (.tmp 107) = .bool false := hP 3 (by kernel_rfl)
                    exact rop_idx _ _ _ rfl e111 e113 (index_strs b off (m + 1) rcap (1 + pl) _ (by simp) (by omega) w') (wanted_of (j := 3) (b := false) rfl rfl e107) (hK _ _ (le8_refl _) rfl)
                  · intro ac w' hF hL hP hU K hK
                    have hB := below_undrew hL
                    have e114 : ac.eval (.tmp 114) = .pointer (some ⟨b, off + (1 + pl), none⟩) := hP 10 (by kernel_rfl)
                    have e107 : ac.eval (.tmp 107) = .bool false := hP 3 (by kernel_rfl)
                    exact rop_ld _ _ rfl e114 (load_str7 ((hB.cell (p := ⟨b, _, none⟩) hbow).trans hcX)) (wanted_of (j := 3) (b := false) rfl rfl e107) (hK _ _ (le8_refl _) rfl)
                  · intro ac w' hF hL hP hU K hK
                    have hB := below_undrew hL
                    have e110 : ac.eval (.tmp 110) = .string (fsL sq At) := hP 6 (by kernel_rfl)
                    have e115 : ac.eval (.tmp 115) = .string X := hP 11 (by kernel_rfl)
                    have e107 : ac.eval (.tmp 107) = .bool false := hP 3 (by kernel_rfl)
                    exact rop_bin _ _ _ _ _ rfl e110 e115 (guard_str _ _ _ _ _ _ w') (neq_str_f _ _ HFX.out w') (wanted_of (j := 3) (b := false) rfl rfl e107) (hK _ _ (le8_refl _) rfl)
                  · intro ac w' hF hL hP hU K hK
                    have hB := below_undrew hL
                    have e107 : ac.eval (.tmp 107) = .bool false := hP 3 (by kernel_rfl)
                    have e116 : ac.eval (.tmp 116) = .bool false := hP 12 (by kernel_rfl)
                    exact rop_pick _ _ _ rfl false e107 (by simpa using e116) (wanted_none rfl) (hK _ _ (le8_refl _) rfl)
                  · intro ac w' hF hL hP hU K hK
                    have hB := below_undrew hL
                    have e117 : ac.eval (.tmp 117) = .bool false := hP 13 (by kernel_rfl)
                    exact rop_move _ rfl e117 (wanted_none rfl) (hK _ _ (le8_refl _) rfl)
                  · intro ac w' hF hL hP hU K hK
                    have hB := below_undrew hL
                    have e9 : ac.eval (.tmp 9) = .int .i64 (sq : Int) := hF.at 9 (by kernel_rfl)
                    have e118 : ac.eval (.tmp 118) = .bool false := hP 14 (by kernel_rfl)
                    exact rop_move _ rfl e9 (wanted_of (j := 14) (b := false) rfl rfl e118) (hK _ _ (le8_refl _) rfl)
                  · intro ac w' hF hL hP hU K hK
                    have hB := below_undrew hL
                    have e14 : ac.eval (.tmp 14) = .int .i64 (k : Int) := hF.at 14 (by kernel_rfl)
                    have e118 : ac.eval (.tmp 118) = .bool false := hP 14 (by kernel_rfl)
                    exact rop_move _ rfl e14 (wanted_of (j := 14) (b := false) rfl rfl e118) (hK _ _ (le8_refl _) rfl)
                  · intro ac w' hF hL hP hU K hK
                    have hB := below_undrew hL
                    have e119 : ac.eval (.tmp 119) = .int .i64 (sq : Int) := hP 15 (by kernel_rfl)
                    have e120 : ac.eval (.tmp 120) = .int .i64 (k : Int) := hP 16 (by kernel_rfl)
                    have e118 : ac.eval (.tmp 118) = .bool false := hP 14 (by kernel_rfl)
                    refine rop_call 12 _ _ rfl #[.int .i64 (sq : Int), .int .i64 (k : Int)] (by simp [e119, e120]) (by kernel_rfl) (wanted_of (j := 14) (b := false) rfl rfl e118) ?_
                    refine (HLST.out w').mono ?_
                    rintro e w2 ⟨rfl, hb⟩
                    exact ⟨_, rfl, hK _ _ hb rfl⟩
                  · intro ac w' hF hL hP hU K hK
                    have hB := below_undrew hL
                    have e0 : ac.eval (.tmp 0) = .slice (some ⟨b, off, none⟩) (m + 1) rcap := hF.at 0 (by kernel_rfl)
                    have e118 : ac.eval (.tmp 118) = .bool false := hP 14 (by kernel_rfl)
                    exact rop_move _ rfl e0 (wanted_of (j := 14) (b := false) rfl rfl e118) (hK _ _ (le8_refl _) rfl)
                  · intro ac w' hF hL hP hU K hK
                    have hB := below_undrew hL
                    have e8 : ac.eval (.tmp 8) = .int .i64 (pl : Int) := hF.at 8 (by kernel_rfl)
                    have e118 : ac.eval (.tmp 118) = .bool false := hP 14 (by kernel_rfl)
                    exact rop_move _ rfl e8 (wanted_of (j := 14) (b := false) rfl rfl e118) (hK _ _ (le8_refl _) rfl)
                  · intro ac w' hF hL hP hU K hK
                    have hB := below_undrew hL
                    have e14 : ac.eval (.tmp 14) = .int .i64 (k : Int) := hF.at 14 (by kernel_rfl)
                    have e118 : ac.eval (.tmp 118) = .bool false := hP 14 (by kernel_rfl)
                    exact rop_move _ rfl e14 (wanted_of (j := 14) (b := false) rfl rfl e118) (hK _ _ (le8_refl _) rfl)
                  · intro ac w' hF hL hP hU K hK
                    have hB := below_undrew hL
                    have e123 : ac.eval (.tmp 123) = .int .i64 (pl : Int) := hP 19 (by kernel_rfl)
                    have e124 : ac.eval (.tmp 124) = .int .i64 (k : Int) := hP 20 (by kernel_rfl)
                    have e118 : ac.eval (.tmp 118) = .bool false := hP 14 (by kernel_rfl)
                    exact rop_bin _ _ _ _ _ rfl e123 e124 (guard_int _ _ _ _ _ _ _ w') (add_int _ _ _ (rfl) (by omega) w') (wanted_of (j := 14) (b := false) rfl rfl e118) (hK _ _ (le8_refl _) rfl)
                  · intro ac w' hF hL hP hU K hK
                    have hB := below_undrew hL
                    have e125 : ac.eval (.tmp 125) = .int .i64 ((pl : Int) + (k : Int)) := hP 21 (by kernel_rfl)
                    have e118 : ac.eval (.tmp 118) = .bool false := hP 14 (by kernel_rfl)
                    exact rop_bin _ _ _ _ _ rfl e125 rfl (guard_int _ _ _ _ _ _ _ w') (add_int _ _ _ (rfl) (by omega) w') (wanted_of (j := 14) (b := false) rfl rfl e118) (hK _ _ (le8_refl _) rfl)
                  · intro ac w' hF hL hP hU K hK
                    have hB := below_undrew hL
                    have e6 : ac.eval (.tmp 6) = .int .i64 (m : Int) := hF.at 6 (by kernel_rfl)
                    have e118 : ac.eval (.tmp 118) = .bool false := hP 14 (by kernel_rfl)
                    exact rop_move _ rfl e6 (wanted_of (j := 14) (b := false) rfl rfl e118) (hK _ _ (le8_refl _) rfl)
                  · intro ac w' hF hL hP hU K hK
                    have hB := below_undrew hL
                    have e126 : ac.eval (.tmp 126) = .int .i64 ((pl : Int) + (k : Int) + 1) := hP 22 (by kernel_rfl)
                    have e127 : ac.eval (.tmp 127) = .int .i64 (m : Int) := hP 23 (by kernel_rfl)
                    have e118 : ac.eval (.tmp 118) = .bool false := hP 14 (by kernel_rfl)
                    exact rop_bin _ _ _ _ _ rfl e126 e127 (guard_int _ _ _ _ _ _ _ w') (rem_int _ _ _ HE1.out (by omega) (by omega) w') (wanted_of (j := 14) (b := false) rfl rfl e118) (hK _ _ (le8_refl _) rfl)
                  · intro ac w' hF hL hP hU K hK
                    have hB := below_undrew hL
                    have e128 : ac.eval (.tmp 128) = .int .i64 (r : Int) := hP 24 (by kernel_rfl)
                    have e118 : ac.eval (.tmp 118) = .bool false := hP 14 (by kernel_rfl)
                    exact rop_bin _ _ _ _ _ rfl rfl e128 (guard_int _ _ _ _ _ _ _ w') (add_int _ _ _ (rfl) (by omega) w') (wanted_of (j := 14) (b := false) rfl rfl e118) (hK _ _ (le8_refl _) rfl)
                  · intro ac w' hF hL hP hU K hK
                    have hB := below_undrew hL
                    have e122 : ac.eval (.tmp 122) = .slice (some ⟨b, off, none⟩) (m + 1) rcap := hP 18 (by kernel_rfl)
                    have e129 : ac.eval (.tmp 129) = .int .i64 (1 + (r : Int)) := hP 25 (by kernel_rfl)
                    have e118 : ac.eval (.tmp 118) = .bool false := hP 14 (by kernel_rfl)
                    exact rop_idx _ _ _ rfl e122 e129 (index_strs b off (m + 1) rcap (1 + r) _ (by simp) (by omega) w') (wanted_of (j := 14) (b := false) rfl rfl e118) (hK _ _ (le8_refl _) rfl)
                  · intro ac w' hF hL hP hU K hK
                    have hB := below_undrew hL
                    have e130 : ac.eval (.tmp 130) = .pointer (some ⟨b, off + (1 + r), none⟩) := hP 26 (by kernel_rfl)
                    have e118 : ac.eval (.tmp 118) = .bool false := hP 14 (by kernel_rfl)
                    exact rop_ld _ _ rfl e130 (load_str7 ((hB.cell (p := ⟨b, _, none⟩) hbow).trans hcY)) (wanted_of (j := 14) (b := false) rfl rfl e118) (hK _ _ (le8_refl _) rfl)
                  · intro ac w' hF hL hP hU K hK
                    have hB := below_undrew hL
                    have e121 : ac.eval (.tmp 121) = .string Z := hP 17 (by kernel_rfl)
                    have e131 : ac.eval (.tmp 131) = .string Y := hP 27 (by kernel_rfl)
                    have e118 : ac.eval (.tmp 118) = .bool false := hP 14 (by kernel_rfl)
                    exact rop_bin _ _ _ _ _ rfl e121 e131 (guard_str _ _ _ _ _ _ w') (neq_str_t _ _ hzy w') (wanted_of (j := 14) (b := false) rfl rfl e118) (hK _ _ (le8_refl _) rfl)
                  · intro ac w' hF hL hP hU K hK
                    have hB := below_undrew hL
                    have e118 : ac.eval (.tmp 118) = .bool false := hP 14 (by kernel_rfl)
                    have e132 : ac.eval (.tmp 132) = .bool true := hP 28 (by kernel_rfl)
                    exact rop_pick _ _ _ rfl false e118 (by simpa using e132) (wanted_none rfl) (hK _ _ (le8_refl _) rfl)
                  · intro ac w' hF hB hT
                    have e133 : ac.eval (.tmp 133) = .bool true := hT 29 (by decide)
                    rw [hF.setsG [104, 105, 106, 107, 108, 109, 110, 111, 112, 113, 114, 115, 116, 117, 118, 119, 120, 121, 122, 123, 124, 125, 126, 127, 128, 129, 130, 131, 132, 133] (by kernel_rfl)]
                    simp only [List.foldl_cons, List.foldl_nil, List.setIfInBounds_toArray, List.set_cons_succ, List.set_cons_zero, e133]
                    generalize ac.eval (.tmp 104) = u104
                    generalize ac.eval (.tmp 105) = u105
                    generalize ac.eval (.tmp 106) = u106
                    generalize ac.eval (.tmp 107) = u107
                    generalize ac.eval (.tmp 108) = u108
                    generalize ac.eval (.tmp 109) = u109
                    generalize ac.eval (.tmp 110) = u110
                    generalize ac.eval (.tmp 111) = u111
                    generalize ac.eval (.tmp 112) = u112
                    generalize ac.eval (.tmp 113) = u113
                    generalize ac.eval (.tmp 114) = u114
                    generalize ac.eval (.tmp 115) = u115
                    generalize ac.eval (.tmp 116) = u116
                    generalize ac.eval (.tmp 117) = u117
                    generalize ac.eval (.tmp 118) = u118
                    generalize ac.eval (.tmp 119) = u119
                    generalize ac.eval (.tmp 120) = u120
                    generalize ac.eval (.tmp 121) = u121
                    generalize ac.eval (.tmp 122) = u122
                    generalize ac.eval (.tmp 123) = u123
                    generalize ac.eval (.tmp 124) = u124
                    generalize ac.eval (.tmp 125) = u125
                    generalize ac.eval (.tmp 126) = u126
                    generalize ac.eval (.tmp 127) = u127
                    generalize ac.eval (.tmp 128) = u128
                    generalize ac.eval (.tmp 129) = u129
                    generalize ac.eval (.tmp 130) = u130
                    generalize ac.eval (.tmp 131) = u131
                    generalize ac.eval (.tmp 132) = u132
                    clear e133 hT hF ac
                    have b5 := below_step BWO.out (Nat.le_refl _) hB
                    go_wp2
                    (try simp only [Exit.inBlock, Exit.then]); refine bodyPost_ret (results_tmp4 rfl _ _ _) rfl ?_
                    refine ⟨l, _, ?_, ⟨Hpath.out, ?_⟩, Hrows.out.old b5, below_step hbl (Nat.le_refl _) b5⟩
                    · have z1 : ((P : Int) + (Jnl.slots l : Int)) % (m : Int) = (pl : Int) := by rw [Hpl.out]; simp
                      have z2 : (Q : Int) + (l.length : Int) = (sq : Int) := by rw [Hsq.out]; simp
                      first
                        | (rw [← Hpl.out, ← Hsq.out]; rfl)
                        | (rw [z1, z2]; rfl)
                    · rw [← Hus.out, ← Hsq.out]; exact HST.out (.inr (.inr (.inr (.inr (.inr fun e => hzy (by rw [HZL.out, HYR.out, HR2.out, e]))))))
              · rw [he] at hendf
                have HENF := Lib.hid hendf
                have HHE : Hid (endV (afK st2 (65535 : Nat) k) ≠ 0) := Lib.hid (by rw [he]; decide)
                clear hendf he
                go_upto_region 24 with (fail)
                try simp only [Act.put]
                refine wp_region_tab [RT.is (.pointer (some ⟨q, 0, none⟩)), RT.is (.int .i64 10), RT.is (.bool true), RT.is (.bool true), RT.any, RT.any, RT.any, RT.any, RT.any, RT.any, RT.any, RT.any, RT.any, RT.is (.bool true), RT.is (.bool true), RT.any, RT.any, RT.any, RT.any, RT.any, RT.any, RT.any, RT.any, RT.any, RT.any, RT.any, RT.any, RT.any, RT.any, RT.is (.bool true)] (by kernel_rfl) (by kernel_rfl) (by kernel_rfl) (by kernel_rfl) ⟨?_, ?_, ?_, ?_, ?_, ?_, ?_, ?_, ?_, ?_, ?_, ?_, ?_, ?_, ?_, ?_, ?_, ?_, ?_, ?_, ?_, ?_, ?_, ?_, ?_, ?_, ?_, ?_, ?_, ?_, trivial⟩ ?_
                · intro ac w' hF hL hP hU K hK
                  have hB := below_undrew hL
                  have e12 : ac.eval (.tmp 12) = .pointer (some ⟨q, 0, none⟩) := hF.at 12 (by kernel_rfl)
                  exact rop_move _ rfl e12 (wanted_none rfl) (hK _ _ (le8_refl _) rfl)
                · intro ac w' hF hL hP hU K hK
                  have hB := below_undrew hL
                  have e104 : ac.eval (.tmp 104) = .pointer (some ⟨q, 0, none⟩) := hP 0 (by kernel_rfl)
                  refine rop_call 43 _ _ rfl #[.pointer (some ⟨q, 0, none⟩)] (by simp [e104]) (by kernel_rfl) (wanted_none rfl) ?_
                  refine (HENF.out w' hS (HSK.out.old hB HSK.out.lt)).mono ?_
                  rintro e w2 ⟨rfl, hb⟩
                  exact ⟨_, rfl, hK _ _ hb rfl⟩
                · intro ac w' hF hL hP hU K hK
                  have hB := below_undrew hL
                  have e105 : ac.eval (.tmp 105) = .int .i64 10 := hP 1 (by kernel_rfl)
                  exact rop_bin _ _ _ _ _ rfl e105 rfl (guard_int _ _ _ _ _ _ _ w') (neq_err10 w') (wanted_none rfl) (hK _ _ (le8_refl _) rfl)
                · intro ac w' hF hL hP hU K hK
                  have hB := below_undrew hL
                  have e106 : ac.eval (.tmp 106) = .bool true := hP 2 (by kernel_rfl)
                  exact rop_move _ rfl e106 (wanted_none rfl) (hK _ _ (le8_refl _) rfl)
                · intro ac w' hF hL hP hU K hK
                  have hB := below_undrew hL
                  have e107 : ac.eval (.tmp 107) = .bool true := hP 3 (by kernel_rfl)
                  exact rop_offG (j := 3) (b := false) rfl rfl e107 (by decide) (hK _ _ (le8_refl _) trivial)
                · intro ac w' hF hL hP hU K hK
                  have hB := below_undrew hL
                  have e107 : ac.eval (.tmp 107) = .bool true := hP 3 (by kernel_rfl)
                  exact rop_offG (j := 3) (b := false) rfl rfl e107 (by decide) (hK _ _ (le8_refl _) trivial)
                · intro ac w' hF hL hP hU K hK
                  have hB := below_undrew hL
                  have e107 : ac.eval (.tmp 107) = .bool true := hP 3 (by kernel_rfl)
                  exact rop_offG (j := 3) (b := false) rfl rfl e107 (by decide) (hK _ _ (le8_refl _) trivial)
                · intro ac w' hF hL hP hU K hK
                  have hB := below_undrew hL
                  have e107 : ac.eval (.tmp 107) = .bool true := hP 3 (by kernel_rfl)
                  exact rop_offG (j := 3) (b := false) rfl rfl e107 (by decide) (hK _ _ (le8_refl _) trivial)
                · intro ac w' hF hL hP hU K hK
                  have hB := below_undrew hL
                  have e107 : ac.eval (.tmp 107) = .bool true := hP 3 (by kernel_rfl)
                  exact rop_offG (j := 3) (b := false) rfl rfl e107 (by decide) (hK _ _ (le8_refl _) trivial)
                · intro ac w' hF hL hP hU K hK
                  have hB := below_undrew hL
                  have e107 : ac.eval (.tmp 107) = .bool true := hP 3 (by kernel_rfl)
                  exact rop_offG (j := 3) (b := false) rfl rfl e107 (by decide) (hK _ _ (le8_refl _) trivial)
                · intro ac w' hF hL hP hU K hK
                  have hB := below_undrew hL
                  have e107 : ac.eval (.tmp 107) = .bool true := hP 3 (by kernel_rfl)
                  exact rop_offG (j := 3) (b := false) rfl rfl e107 (by decide) (hK _ _ (le8_refl _) trivial)
                · intro ac w' hF hL hP hU K hK
                  have hB := below_undrew hL
                  have e107 : ac.eval (.tmp 107) = .bool true := hP 3 (by kernel_rfl)
                  exact rop_offG (j := 3) (b := false) rfl rfl e107 (by decide) (hK _ _ (le8_refl _) trivial)
                · intro ac w' hF hL hP hU K hK
                  have hB := below_undrew hL
                  have e107 : ac.eval (.tmp 107) = .bool true := hP 3 (by kernel_rfl)
                  exact rop_offG (j := 3) (b := false) rfl rfl e107 (by decide) (hK _ _ (le8_refl _) trivial)
                · intro ac w' hF hL hP hU K hK
                  have hB := below_undrew hL
                  have e107 : ac.eval (.tmp 107) = .bool true := hP 3 (by kernel_rfl)
                  exact rop_pick _ _ _ rfl true e107 (by rfl) (wanted_none rfl) (hK _ _ (le8_refl _) rfl)
                · intro ac w' hF hL hP hU K hK
                  have hB := below_undrew hL
                  have e117 : ac.eval (.tmp 117) = .bool true := hP 13 (by kernel_rfl)
                  exact rop_move _ rfl e117 (wanted_none rfl) (hK _ _ (le8_refl _) rfl)
                · intro ac w' hF hL hP hU K hK
                  have hB := below_undrew hL
                  have e118 : ac.eval (.tmp 118) = .bool true := hP 14 (by kernel_rfl)
                  exact rop_offG (j := 14) (b := false) rfl rfl e118 (by decide) (hK _ _ (le8_refl _) trivial)
                · intro ac w' hF hL hP hU K hK
                  have hB := below_undrew hL
                  have e118 : ac.eval (.tmp 118) = .bool true := hP 14 (by kernel_rfl)
                  exact rop_offG (j := 14) (b := false) rfl rfl e118 (by decide) (hK _ _ (le8_refl _) trivial)
                · intro ac w' hF hL hP hU K hK
                  have hB := below_undrew hL
                  have e118 : ac.eval (.tmp 118) = .bool true := hP 14 (by kernel_rfl)
                  exact rop_offG (j := 14) (b := false) rfl rfl e118 (by decide) (hK _ _ (le8_refl _) trivial)
                · intro ac w' hF hL hP hU K hK
                  have hB := below_undrew hL
                  have e118 : ac.eval (.tmp 118) = .bool true := hP 14 (by kernel_rfl)
                  exact rop_offG (j := 14) (b := false) rfl rfl e118 (by decide) (hK _ _ (le8_refl _) trivial)
                · intro ac w' hF hL hP hU K hK
                  have hB := below_undrew hL
                  have e118 : ac.eval (.tmp 118) = .bool true := hP 14 (by kernel_rfl)
                  exact rop_offG (j := 14) (b := false) rfl rfl e118 (by decide) (hK _ _ (le8_refl _) trivial)
                · intro ac w' hF hL hP hU K hK
                  have hB := below_undrew hL
                  have e118 : ac.eval (.tmp 118) = .bool true := hP 14 (by kernel_rfl)
                  exact rop_offG (j := 14) (b := false) rfl rfl e118 (by decide) (hK _ _ (le8_refl _) trivial)
                · intro ac w' hF hL hP hU K hK
                  have hB := below_undrew hL
                  have e118 : ac.eval (.tmp 118) = .bool true := hP 14 (by kernel_rfl)
                  exact rop_offG (j := 14) (b := false) rfl rfl e118 (by decide) (hK _ _ (le8_refl _) trivial)
                · intro ac w' hF hL hP hU K hK
                  have hB := below_undrew hL
                  have e118 : ac.eval (.tmp 118) = .bool true := hP 14 (by kernel_rfl)
                  exact rop_offG (j := 14) (b := false) rfl rfl e118 (by decide) (hK _ _ (le8_refl _) trivial)
                · intro ac w' hF hL hP hU K hK
                  have hB := below_undrew hL
                  have e118 : ac.eval (.tmp 118) = .bool true := hP 14 (by kernel_rfl)
                  exact rop_offG (j := 14) (b := false) rfl rfl e118 (by decide) (hK _ _ (le8_refl _) trivial)
                · intro ac w' hF hL hP hU K hK
                  have hB := below_undrew hL
                  have e118 : ac.eval (.tmp 118) = .bool true := hP 14 (by kernel_rfl)
                  exact rop_offG (j := 14) (b := false) rfl rfl e118 (by decide) (hK _ _ (le8_refl _) trivial)
                · intro ac w' hF hL hP hU K hK
                  have hB := below_undrew hL
                  have e118 : ac.eval (.tmp 118) = .bool true := hP 14 (by kernel_rfl)
                  exact rop_offG (j := 14) (b := false) rfl rfl e118 (by decide) (hK _ _ (le8_refl _) trivial)
                · intro ac w' hF hL hP hU K hK
                  have hB := below_undrew hL
                  have e118 : ac.eval (.tmp 118) = .bool true := hP 14 (by kernel_rfl)
                  exact rop_offG (j := 14) (b := false) rfl rfl e118 (by decide) (hK _ _ (le8_refl _) trivial)
                · intro ac w' hF hL hP hU K hK
                  have hB := below_undrew hL
                  have e118 : ac.eval (.tmp 118) = .bool true := hP 14 (by kernel_rfl)
                  exact rop_offG (j := 14) (b := false) rfl rfl e118 (by decide) (hK _ _ (le8_refl _) trivial)
                · intro ac w' hF hL hP hU K hK
                  have hB := below_undrew hL
                  have e118 : ac.eval (.tmp 118) = .bool true := hP 14 (by kernel_rfl)
                  exact rop_offG (j := 14) (b := false) rfl rfl e118 (by decide) (hK _ _ (le8_refl _) trivial)
                · intro ac w' hF hL hP hU K hK
                  have hB := below_undrew hL
                  have e118 : ac.eval (.tmp 118) = .bool true := hP 14 (by kernel_rfl)
                  exact rop_pick _ _ _ rfl true e118 (by rfl) (wanted_none rfl) (hK _ _ (le8_refl _) rfl)
                · intro ac w' hF hB hT
                  have e133 : ac.eval (.tmp 133) = .bool true := hT 29 (by decide)
                  rw [hF.setsG [104, 105, 106, 107, 108, 109, 110, 111, 112, 113, 114, 115, 116, 117, 118, 119, 120, 121, 122, 123, 124, 125, 126, 127, 128, 129, 130, 131, 132, 133] (by kernel_rfl)]
                  simp only [List.foldl_cons, List.foldl_nil, List.setIfInBounds_toArray, List.set_cons_succ, List.set_cons_zero, e133]
                  generalize ac.eval (.tmp 104) = u104
                  generalize ac.eval (.tmp 105) = u105
                  generalize ac.eval (.tmp 106) = u106
                  generalize ac.eval (.tmp 107) = u107
                  generalize ac.eval (.tmp 108) = u108
                  generalize ac.eval (.tmp 109) = u109
                  generalize ac.eval (.tmp 110) = u110
                  generalize ac.eval (.tmp 111) = u111
                  generalize ac.eval (.tmp 112) = u112
                  generalize ac.eval (.tmp 113) = u113
                  generalize ac.eval (.tmp 114) = u114
                  generalize ac.eval (.tmp 115) = u115
                  generalize ac.eval (.tmp 116) = u116
                  generalize ac.eval (.tmp 117) = u117
                  generalize ac.eval (.tmp 118) = u118
                  generalize ac.eval (.tmp 119) = u119
                  generalize ac.eval (.tmp 120) = u120
                  generalize ac.eval (.tmp 121) = u121
                  generalize ac.eval (.tmp 122) = u122
                  generalize ac.eval (.tmp 123) = u123
                  generalize ac.eval (.tmp 124) = u124
                  generalize ac.eval (.tmp 125) = u125
                  generalize ac.eval (.tmp 126) = u126
                  generalize ac.eval (.tmp 127) = u127
                  generalize ac.eval (.tmp 128) = u128
                  generalize ac.eval (.tmp 129) = u129
                  generalize ac.eval (.tmp 130) = u130
                  generalize ac.eval (.tmp 131) = u131
                  generalize ac.eval (.tmp 132) = u132
                  clear e133 hT hF ac
                  have b5 := below_step BWO.out (Nat.le_refl _) hB
                  go_wp2
                  (try simp only [Exit.inBlock, Exit.then]); refine bodyPost_ret (results_tmp4 rfl _ _ _) rfl ?_
                  refine ⟨l, _, ?_, ⟨Hpath.out, ?_⟩, Hrows.out.old b5, below_step hbl (Nat.le_refl _) b5⟩
                  · have z1 : ((P : Int) + (Jnl.slots l : Int)) % (m : Int) = (pl : Int) := by rw [Hpl.out]; simp
                    have z2 : (Q : Int) + (l.length : Int) = (sq : Int) := by rw [Hsq.out]; simp
                    first
                      | (rw [← Hpl.out, ← Hsq.out]; rfl)
                      | (rw [z1, z2]; rfl)
                  · rw [← Hus.out, ← Hsq.out]; exact HST.out (.inr (.inr (.inr (.inr (.inl HHE.out)))))
end Go.Proofs.YtfcocbgdmmeikaaGreatDoor
