/-
  The document's own SamePuts and Same (scriniumref07), of lists that are the same.
-/
import Derived.Test.YtfcocbgdmmeikaaGreatDoorRefText
import Derived.Test.YtfcocbgdmmeikaaGreatDoorMRedD
namespace Go.Proofs.YtfcocbgdmmeikaaGreatDoor
open Go.RowKit Dsk

theorem index_puts (b n cap k : Nat) (h : k < n) (w : World) : (Instr.indexAt 58 (.slice (some ⟨b, 0, none⟩) n cap) (.int .i64 (k : Int))).run Tryz.prog w = .ok (.pointer (some ⟨b, k * 2, none⟩)) w := by
  go_simp
theorem index_prow (b n cap k : Nat) (h : k < n) (w : World) : (Instr.indexAt 33 (.slice (some ⟨b, 0, none⟩) n cap) (.int .i64 (k : Int))).run Tryz.prog w = .ok (.pointer (some ⟨b, k, none⟩)) w := by
  go_simp
theorem load_put {b o : Nat} {a : Int} {s : ByteArray} {w : World} (h0 : w.cell? ⟨b, o, none⟩ = some (.int .i64 a)) (h1 : w.cell? ⟨b, o + 1, none⟩ = some (.string s)) : (Instr.loadAt 64 (.pointer (some ⟨b, o, none⟩))).run Tryz.prog w = .ok (.agg #[.int .i64 a, .string s]) w := by
  go_simp
theorem load_prow {b o : Nat} {x : Option Addr} {n c : Nat} {w : World} (h0 : w.cell? ⟨b, o, none⟩ = some (.slice x n c)) : (Instr.loadAt 58 (.pointer (some ⟨b, o, none⟩))).run Tryz.prog w = .ok (.slice x n c) w := by
  go_simp
theorem neq_put_f (a : Int) (s : ByteArray) (w : World) : (binOp .neq 64 (.agg #[.int .i64 a, .string s]) (.agg #[.int .i64 a, .string s])).run Tryz.prog w = .ok (.bool false) w := by
  go_simp
theorem guard_put (op : BinOp) (x y : Operand) (u v : Array Value) (w : World) : (eqGuard op 64 x y (.agg u) (.agg v)).run Tryz.prog w = .ok () w := run_eqGuard_agg w op 64 x y _ _ (by kernel_rfl)
set_option maxHeartbeats 3200000 in
set_option maxRecDepth 100000 in
theorem refSamePuts_any (va vb : Value) (t : Jnl.Txn) (w : World) (ha : CacheAt va t w) (hb : CacheAt vb t w) (hn : t.length ≤ 1000) :
    Calls Tryz.prog 44 #[va, vb] w fun e w' => e = .returned (.bool true) ∧ Below w.heap.size w w' := by
  obtain ⟨aa, ca, rfl⟩ := ha.slice
  obtain ⟨ab, cb, rfl⟩ := hb.slice
  obtain ⟨n, hnn⟩ : ∃ n, n = t.length := ⟨_, rfl⟩
  rw [← hnn] at ha hb ⊢
  have Hn := Lib.hid hnn
  have HA := Lib.hid ha
  have HBb := Lib.hid hb
  have hn9 : n ≤ 1000 := by omega
  clear hnn ha hb hn
  go_enter Tryz.func44, Tryz.ntmps44
  go_wp2
  go_loopw [5] (fun s5 wr => (∃ i : Nat, s5 = .int .i64 (i : Int) ∧ i ≤ n) ∧ Below w.heap.size w wr) (fun s5 _ => n - (intOf s5).toNat)
  case atStart => exact ⟨⟨0, rfl, by omega⟩, Below.refl _ _⟩
  case round =>
    obtain ⟨⟨i, rfl, hi⟩, hbel⟩ := hrel
    by_cases hin : i < n
    · have hlt' : (i : Int) < (n : Int) := by omega
      have hw1 := IntWalk.i64_in ((i : Int) + 1) (by omega)
      have hne : t ≠ [] := by intro e; have := Hn.out; rw [e] at this; simp at this; omega
      obtain ⟨g, ca', e1, -, hg0, hcg⟩ := HA.out.cells hne
      obtain ⟨h, cb', e2, -, hh0, hch⟩ := HBb.out.cells hne
      injection e1 with e1 _ _
      injection e2 with e2 _ _
      subst e1 e2
      obtain ⟨k, hk⟩ : ∃ k, k = (cAt t i).1 := ⟨_, rfl⟩
      obtain ⟨s, hs⟩ : ∃ s, s = (cAt t i).2 := ⟨_, rfl⟩
      have hil : i < t.length := by rw [← Hn.out]; exact hin
      have c0 := (hbel.cell (p := ⟨g, _, none⟩) hg0).trans (hcg i hil).1
      have c1 := (hbel.cell (p := ⟨g, _, none⟩) hg0).trans (hcg i hil).2
      have d0 := (hbel.cell (p := ⟨h, _, none⟩) hh0).trans (hch i hil).1
      have d1 := (hbel.cell (p := ⟨h, _, none⟩) hh0).trans (hch i hil).2
      rw [← hk] at c0 d0
      rw [← hs] at c1 d1
      have hg := Nat.lt_of_lt_of_le hg0 hbel.size
      have hh := Nat.lt_of_lt_of_le hh0 hbel.size
      clear hcg hch hk hs hne hil
      go_upto_region 6 with (fail)
      try simp only [Act.put]
      refine wp_region_tab [RT.is (.slice (some ⟨g, 0, none⟩) n ca), RT.is (.int .i64 (i : Int)), RT.is (.pointer (some ⟨g, i * 2, none⟩)), RT.is (.agg #[.int .i64 (k : Int), .string s]), RT.is (.slice (some ⟨h, 0, none⟩) n cb), RT.is (.int .i64 (i : Int)), RT.is (.pointer (some ⟨h, i * 2, none⟩)), RT.is (.agg #[.int .i64 (k : Int), .string s]), RT.is (.bool false)] (by kernel_rfl) (by kernel_rfl) (by kernel_rfl) (by kernel_rfl) ⟨?_, ?_, ?_, ?_, ?_, ?_, ?_, ?_, ?_, trivial⟩ ?_
      · intro ac w' hF hL hP hU K hK
        have hB := below_undrew hL
        have e0 : ac.eval (.tmp 0) = .slice (some ⟨g, 0, none⟩) n ca := hF.at 0 (by kernel_rfl)
        exact rop_move _ rfl e0 (wanted_none rfl) (hK _ _ (le8_refl _) rfl)
      · intro ac w' hF hL hP hU K hK
        have hB := below_undrew hL
        have e5 : ac.eval (.tmp 5) = .int .i64 (i : Int) := hF.at 5 (by kernel_rfl)
        exact rop_move _ rfl e5 (wanted_none rfl) (hK _ _ (le8_refl _) rfl)
      · intro ac w' hF hL hP hU K hK
        have hB := below_undrew hL
        have e17 : ac.eval (.tmp 17) = .slice (some ⟨g, 0, none⟩) n ca := hP 0 (by kernel_rfl)
        have e18 : ac.eval (.tmp 18) = .int .i64 (i : Int) := hP 1 (by kernel_rfl)
        exact rop_idx _ _ _ rfl e17 e18 (index_puts g n ca i hin w') (wanted_none rfl) (hK _ _ (le8_refl _) rfl)
      · intro ac w' hF hL hP hU K hK
        have hB := below_undrew hL
        have e19 : ac.eval (.tmp 19) = .pointer (some ⟨g, i * 2, none⟩) := hP 2 (by kernel_rfl)
        exact rop_ld _ _ rfl e19 (load_put ((hB.cell (p := ⟨g, _, none⟩) hg).trans c0) ((hB.cell (p := ⟨g, _, none⟩) hg).trans c1)) (wanted_none rfl) (hK _ _ (le8_refl _) rfl)
      · intro ac w' hF hL hP hU K hK
        have hB := below_undrew hL
        have e1 : ac.eval (.tmp 1) = .slice (some ⟨h, 0, none⟩) n cb := hF.at 1 (by kernel_rfl)
        exact rop_move _ rfl e1 (wanted_none rfl) (hK _ _ (le8_refl _) rfl)
      · intro ac w' hF hL hP hU K hK
        have hB := below_undrew hL
        have e5 : ac.eval (.tmp 5) = .int .i64 (i : Int) := hF.at 5 (by kernel_rfl)
        exact rop_move _ rfl e5 (wanted_none rfl) (hK _ _ (le8_refl _) rfl)
      · intro ac w' hF hL hP hU K hK
        have hB := below_undrew hL
        have e21 : ac.eval (.tmp 21) = .slice (some ⟨h, 0, none⟩) n cb := hP 4 (by kernel_rfl)
        have e22 : ac.eval (.tmp 22) = .int .i64 (i : Int) := hP 5 (by kernel_rfl)
        exact rop_idx _ _ _ rfl e21 e22 (index_puts h n cb i hin w') (wanted_none rfl) (hK _ _ (le8_refl _) rfl)
      · intro ac w' hF hL hP hU K hK
        have hB := below_undrew hL
        have e23 : ac.eval (.tmp 23) = .pointer (some ⟨h, i * 2, none⟩) := hP 6 (by kernel_rfl)
        exact rop_ld _ _ rfl e23 (load_put ((hB.cell (p := ⟨h, _, none⟩) hh).trans d0) ((hB.cell (p := ⟨h, _, none⟩) hh).trans d1)) (wanted_none rfl) (hK _ _ (le8_refl _) rfl)
      · intro ac w' hF hL hP hU K hK
        have hB := below_undrew hL
        have e20 : ac.eval (.tmp 20) = .agg #[.int .i64 (k : Int), .string s] := hP 3 (by kernel_rfl)
        have e24 : ac.eval (.tmp 24) = .agg #[.int .i64 (k : Int), .string s] := hP 7 (by kernel_rfl)
        exact rop_bin _ _ _ _ _ rfl e20 e24 (guard_put _ _ _ _ _ w') (neq_put_f _ _ w') (wanted_none rfl) (hK _ _ (le8_refl _) rfl)
      · intro ac w' hF hB hT
        have e25 : ac.eval (.tmp 25) = .bool false := hT 8 (by decide)
        rw [hF.setsG [17, 18, 19, 20, 21, 22, 23, 24, 25] (by kernel_rfl)]
        simp only [List.foldl_cons, List.foldl_nil, List.setIfInBounds_toArray, List.set_cons_succ, List.set_cons_zero, e25]
        generalize ac.eval (.tmp 17) = u17
        generalize ac.eval (.tmp 18) = u18
        generalize ac.eval (.tmp 19) = u19
        generalize ac.eval (.tmp 20) = u20
        generalize ac.eval (.tmp 21) = u21
        generalize ac.eval (.tmp 22) = u22
        generalize ac.eval (.tmp 23) = u23
        generalize ac.eval (.tmp 24) = u24
        clear e25 hT hF ac
        have hbw : Below w.heap.size w w' := below_step hbel (Nat.le_refl _) hB
        clear hB c0 c1 d0 d1
        go_wp2
        exact ⟨⟨⟨i + 1, by simp, by omega⟩, hbw⟩, by simp [intOf]; omega⟩
    · have hlt' : ¬ (i : Int) < (n : Int) := by omega
      go_wp2
      go_ret
      exact ⟨rfl, hbel⟩
theorem Rows.cells {B : Nat} {v : Value} {l : List Jnl.Txn} {w : World} (h : Rows B v l w) (hl : l ≠ []) : ∃ g cap, v = .slice (some ⟨g, 0, none⟩) l.length cap ∧ g < w.heap.size ∧ ∀ (i : Nat) (hi : i < l.length), ∃ x : Value, w.cell? ⟨g, i, none⟩ = some x ∧ CacheAt x l[i] w := by
  obtain ⟨_, vs, hvl, hown, hrow⟩ := h
  have h0 := hown
  rcases hown.2 with ⟨_, h1⟩ | ⟨g, cap, cur, rfl, _, hg, _⟩
  · exact absurd (List.eq_nil_of_length_eq_zero h1) hl
  · refine ⟨g, cap, rfl, (Array.getElem?_eq_some_iff.1 hg).1, fun i hi => ⟨vs.getD i undef, ?_, (hrow i hi).1⟩⟩
    have := World.ownsRow.cells h0 (g := g) rfl i (vs.getD i undef) (by rw [List.getD_eq_getElem?_getD, List.getElem?_eq_getElem (by omega)]; rfl)
    rw [Addr.add_mid, Nat.zero_add] at this
    exact this
set_option maxHeartbeats 3200000 in
set_option maxRecDepth 100000 in
theorem refSame_any (B C : Nat) (va vb : Value) (l : List Jnl.Txn) (w : World) (ha : Rows B va l w) (hb : Rows C vb l w) (hn : l.length ≤ 1000) (ht : ∀ t ∈ l, t.length ≤ 1000) :
    Calls Tryz.prog 17 #[va, vb] w fun e w' => e = .returned (.bool true) ∧ Below w.heap.size w w' := by
  obtain ⟨aa, ca, rfl⟩ := ha.slice
  obtain ⟨ab, cb, rfl⟩ := hb.slice
  obtain ⟨n, hnn⟩ : ∃ n, n = l.length := ⟨_, rfl⟩
  rw [← hnn] at ha hb ⊢
  have Hn := Lib.hid hnn
  have HA := Lib.hid ha
  have HBb := Lib.hid hb
  have hn9 : n ≤ 1000 := by omega
  clear hnn ha hb hn
  go_enter Tryz.func17, Tryz.ntmps17
  go_wp2
  go_loopw [5] (fun s5 wr => (∃ i : Nat, s5 = .int .i64 (i : Int) ∧ i ≤ n) ∧ Below w.heap.size w wr) (fun s5 _ => n - (intOf s5).toNat)
  case atStart => exact ⟨⟨0, rfl, by omega⟩, Below.refl _ _⟩
  case round =>
    obtain ⟨⟨i, rfl, hi⟩, hbel⟩ := hrel
    by_cases hin : i < n
    · have hlt' : (i : Int) < (n : Int) := by omega
      have hw1 := IntWalk.i64_in ((i : Int) + 1) (by omega)
      have hne : l ≠ [] := by intro e; have := Hn.out; rw [e] at this; simp at this; omega
      have hil : i < l.length := by rw [← Hn.out]; exact hin
      obtain ⟨g, ca', e1, hg0, hcg⟩ := (HA.out.old hbel).cells hne
      obtain ⟨h, cb', e2, hh0, hch⟩ := (HBb.out.old hbel).cells hne
      injection e1 with e1 _ _
      injection e2 with e2 _ _
      subst e1 e2
      obtain ⟨x, c0, hx⟩ := hcg i hil
      obtain ⟨y, d0, hy⟩ := hch i hil
      obtain ⟨xn, hxn⟩ : ∃ xn, xn = l[i].length := ⟨_, rfl⟩
      have htl := ht l[i] (List.getElem_mem _)
      obtain ⟨xa, xc, rfl⟩ := hx.slice
      obtain ⟨ya, yc, rfl⟩ := hy.slice
      rw [← hxn] at hx hy c0 d0
      have hg := hg0
      have hh := hh0
      have HSP : Hid (∀ u : World, Below wr.heap.size wr u → Calls Tryz.prog 44 #[.slice xa xn xc, .slice ya xn yc] u fun e w' => e = .returned (.bool true) ∧ Below u.heap.size u w') := Lib.hid fun u hu => refSamePuts_any _ _ l[i] u (own_old hx hu) (own_old hy hu) htl
      clear hcg hch hne hil hx hy hxn htl
      go_upto_region 6 with (fail)
      try simp only [Act.put]
      refine wp_region_tab [RT.is (.slice (some ⟨g, 0, none⟩) n ca), RT.is (.int .i64 (i : Int)), RT.is (.pointer (some ⟨g, i, none⟩)), RT.is (.slice xa xn xc), RT.is (.slice (some ⟨h, 0, none⟩) n cb), RT.is (.int .i64 (i : Int)), RT.is (.pointer (some ⟨h, i, none⟩)), RT.is (.slice ya xn yc), RT.is (.bool true), RT.is (.bool true)] (by kernel_rfl) (by kernel_rfl) (by kernel_rfl) (by kernel_rfl) ⟨?_, ?_, ?_, ?_, ?_, ?_, ?_, ?_, ?_, ?_, trivial⟩ ?_
      · intro ac w' hF hL hP hU K hK
        have hB := below_undrew hL
        have e0 : ac.eval (.tmp 0) = .slice (some ⟨g, 0, none⟩) n ca := hF.at 0 (by kernel_rfl)
        exact rop_move _ rfl e0 (wanted_none rfl) (hK _ _ (le8_refl _) rfl)
      · intro ac w' hF hL hP hU K hK
        have hB := below_undrew hL
        have e5 : ac.eval (.tmp 5) = .int .i64 (i : Int) := hF.at 5 (by kernel_rfl)
        exact rop_move _ rfl e5 (wanted_none rfl) (hK _ _ (le8_refl _) rfl)
      · intro ac w' hF hL hP hU K hK
        have hB := below_undrew hL
        have e18 : ac.eval (.tmp 18) = .slice (some ⟨g, 0, none⟩) n ca := hP 0 (by kernel_rfl)
        have e19 : ac.eval (.tmp 19) = .int .i64 (i : Int) := hP 1 (by kernel_rfl)
        exact rop_idx _ _ _ rfl e18 e19 (index_prow g n ca i hin w') (wanted_none rfl) (hK _ _ (le8_refl _) rfl)
      · intro ac w' hF hL hP hU K hK
        have hB := below_undrew hL
        have e20 : ac.eval (.tmp 20) = .pointer (some ⟨g, i, none⟩) := hP 2 (by kernel_rfl)
        exact rop_ld _ _ rfl e20 (load_prow ((hB.cell (p := ⟨g, _, none⟩) hg).trans c0)) (wanted_none rfl) (hK _ _ (le8_refl _) rfl)
      · intro ac w' hF hL hP hU K hK
        have hB := below_undrew hL
        have e1 : ac.eval (.tmp 1) = .slice (some ⟨h, 0, none⟩) n cb := hF.at 1 (by kernel_rfl)
        exact rop_move _ rfl e1 (wanted_none rfl) (hK _ _ (le8_refl _) rfl)
      · intro ac w' hF hL hP hU K hK
        have hB := below_undrew hL
        have e5 : ac.eval (.tmp 5) = .int .i64 (i : Int) := hF.at 5 (by kernel_rfl)
        exact rop_move _ rfl e5 (wanted_none rfl) (hK _ _ (le8_refl _) rfl)
      · intro ac w' hF hL hP hU K hK
        have hB := below_undrew hL
        have e22 : ac.eval (.tmp 22) = .slice (some ⟨h, 0, none⟩) n cb := hP 4 (by kernel_rfl)
        have e23 : ac.eval (.tmp 23) = .int .i64 (i : Int) := hP 5 (by kernel_rfl)
        exact rop_idx _ _ _ rfl e22 e23 (index_prow h n cb i hin w') (wanted_none rfl) (hK _ _ (le8_refl _) rfl)
      · intro ac w' hF hL hP hU K hK
        have hB := below_undrew hL
        have e24 : ac.eval (.tmp 24) = .pointer (some ⟨h, i, none⟩) := hP 6 (by kernel_rfl)
        exact rop_ld _ _ rfl e24 (load_prow ((hB.cell (p := ⟨h, _, none⟩) hh).trans d0)) (wanted_none rfl) (hK _ _ (le8_refl _) rfl)
      · intro ac w' hF hL hP hU K hK
        have hB := below_undrew hL
        have e21 : ac.eval (.tmp 21) = .slice xa xn xc := hP 3 (by kernel_rfl)
        have e25 : ac.eval (.tmp 25) = .slice ya xn yc := hP 7 (by kernel_rfl)
        refine rop_call 44 _ _ rfl #[.slice xa xn xc, .slice ya xn yc] (by simp [e21, e25]) (by kernel_rfl) (wanted_none rfl) ?_
        refine (HSP.out w' hB).mono ?_
        rintro e w2 ⟨rfl, hb⟩
        exact ⟨_, rfl, hK _ _ hb rfl⟩
      · intro ac w' hF hL hP hU K hK
        have hB := below_undrew hL
        have e26 : ac.eval (.tmp 26) = .bool true := hP 8 (by kernel_rfl)
        exact rop_assign _ rfl e26 (wanted_none rfl) (hK _ _ (le8_refl _) rfl)
      · intro ac w' hF hB hT
        have e6 : ac.eval (.tmp 6) = .bool true := hT 9 (by decide)
        rw [hF.setsG [18, 19, 20, 21, 22, 23, 24, 25, 26, 6] (by kernel_rfl)]
        simp only [List.foldl_cons, List.foldl_nil, List.setIfInBounds_toArray, List.set_cons_succ, List.set_cons_zero, e6]
        generalize ac.eval (.tmp 18) = u18
        generalize ac.eval (.tmp 19) = u19
        generalize ac.eval (.tmp 20) = u20
        generalize ac.eval (.tmp 21) = u21
        generalize ac.eval (.tmp 22) = u22
        generalize ac.eval (.tmp 23) = u23
        generalize ac.eval (.tmp 24) = u24
        generalize ac.eval (.tmp 25) = u25
        generalize ac.eval (.tmp 26) = u26
        clear e6 hT hF ac
        have hbw : Below w.heap.size w w' := below_step hbel (Nat.le_refl _) hB
        clear hB c0 d0
        go_wp2
        exact ⟨⟨⟨i + 1, by simp, by omega⟩, hbw⟩, by simp [intOf]; omega⟩
    · have hlt' : ¬ (i : Int) < (n : Int) := by omega
      go_wp2
      go_ret
      exact ⟨rfl, hbel⟩
end Go.Proofs.YtfcocbgdmmeikaaGreatDoor
