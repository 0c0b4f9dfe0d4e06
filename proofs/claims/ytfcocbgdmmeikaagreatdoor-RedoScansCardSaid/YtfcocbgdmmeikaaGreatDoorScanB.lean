/-
  Both looks at a row of texts, the package's and the document's own, tell the same.
-/
import Derived.Test.YtfcocbgdmmeikaaGreatDoorRegion
namespace Go.Proofs.YtfcocbgdmmeikaaGreatDoor
open Go.RowKit Dsk

theorem Path.most {R : Nat → ByteArray} {m : Nat} : ∀ {l : List Jnl.Txn} {p s left : Nat}, Path R m p s left l → ∀ t ∈ l, t.length ≤ 60
  | [], _, _, _, _, t, ht => by cases ht
  | u :: l, p, s, left, h, t, ht => by
    rcases List.mem_cons.1 ht with rfl | ht
    · exact (txF_some h.1).1.most
    · exact h.2.most t ht
theorem scan_short (ts : List ByteArray) (rv : Value) (w : World) (hv : StrRow w rv ts) (h4 : ts.length < 4) :
    Calls Tryz.prog 15 #[rv] w fun e w' => e = .returned (.tuple #[.int .i64 0, .int .i64 0, .slice none 0 0, .bool false]) ∧ Below w.heap.size w w' := by
  obtain ⟨ra, rcap, rfl, _, _⟩ := hv
  have hlen : (ts.length : Int) < 4 := by omega
  have hlen' : ts.length < 4 := h4
  generalize ts.length = n at *
  go_enter Tryz.func15, Tryz.ntmps15
  go_wp2
  go_step3
  go_wp2
  all_goals
    try rw [Exit.noGoto_ret]
    (try simp only [Exit.inBlock, Exit.then]); refine bodyPost_ret (results_tmp4 rfl _ _ _) rfl ?_
    exact ⟨rfl, Below.refl _ _⟩
theorem refScan_short (ts : List ByteArray) (rv : Value) (w : World) (hv : StrRow w rv ts) (h4 : ts.length < 4) :
    Calls Tryz.prog 16 #[rv] w fun e w' => e = .returned (.tuple #[.int .i64 0, .int .i64 0, .slice none 0 0, .bool false]) ∧ Below w.heap.size w w' := by
  obtain ⟨ra, rcap, rfl, _, _⟩ := hv
  have hlen : (ts.length : Int) - 1 < 3 := by omega
  have hw1 := IntWalk.i64_in ((ts.length : Int) - 1) (by omega)
  generalize ts.length = n at *
  go_enter Tryz.func16, Tryz.ntmps16
  go_wp2
  all_goals
    try rw [Exit.noGoto_ret]
    (try simp only [Exit.inBlock, Exit.then]); refine bodyPost_ret (results_tmp4 rfl _ _ _) rfl ?_
    exact ⟨rfl, Below.refl _ _⟩
/-- Both looks. -/
theorem scan_both (ts : List ByteArray) (rv : Value) (w : World) (hv : StrRow w rv ts) (hcap : ∀ a n c, rv = .slice a n c → n ≤ c) (hT : TW w) (hn : ts.length ≤ 40) (hsz : ∀ t ∈ ts, t.size ≤ 1000000) :
    Calls Tryz.prog 15 #[rv] w fun e w' => ∃ (a b : Int) (l : List Jnl.Txn) (v' : Value) (y : Bool), e = .returned (.tuple #[.int .i64 a, .int .i64 b, v', .bool y]) ∧ Rows w.heap.size v' l w' ∧ Below w.heap.size w w' ∧ l.length ≤ 1000 ∧ (∀ t ∈ l, t.length ≤ 1000) ∧
      ∀ u, Below w'.heap.size w' u → Calls Tryz.prog 16 #[rv] u fun e w2 => ∃ v2, e = .returned (.tuple #[.int .i64 a, .int .i64 b, v2, .bool y]) ∧ Rows u.heap.size v2 l w2 ∧ Below u.heap.size u w2 := by
  have hold : ∀ w' u, Below w.heap.size w w' → Below w'.heap.size w' u → StrRow u rv ts := fun w' u h1 h2 => hv.old (h1.trans (h2.mono h1.size))
  by_cases h4 : ts.length < 4
  · refine (scan_short ts rv w hv h4).mono fun e w' ⟨he, hb⟩ => ⟨0, 0, [], _, false, he, Rows.nil _ _, hb, by simp, (fun t ht => by cases ht), fun u hu => ?_⟩
    exact (refScan_short ts rv u (hold _ _ hb hu) h4).mono fun e w2 ⟨he, hb2⟩ => ⟨_, he, Rows.nil _ _, hb2⟩
  · obtain ⟨m, hm⟩ : ∃ m, m + 1 = ts.length := ⟨ts.length - 1, by omega⟩
    have hx0 : (ts.getD 0 .empty).size ≤ 1000000 := by
      rw [List.getD_eq_getElem?_getD, List.getElem?_eq_getElem (by omega)]
      exact hsz _ (List.getElem_mem _)
    cases hok : hOk (ts.getD 0 .empty) m with
    | false =>
      refine (scan_bad ts m _ rv w hv hT hm.symm rfl (by omega) hx0 (by omega) hok).mono fun e w' ⟨he, hb⟩ => ⟨0, 0, [], _, false, he, Rows.nil _ _, hb, by simp, (fun t ht => by cases ht), fun u hu => ?_⟩
      exact (refScan_bad ts m _ rv u (hold _ _ hb hu) hm.symm rfl (by omega) hsz (by omega) hok).mono fun e w2 ⟨he, hb2⟩ => ⟨_, he, Rows.nil _ _, hb2⟩
    | true =>
      refine (scan_any ts m _ rv w hv hcap hT hm.symm rfl (by omega) hsz (by omega) hok).mono fun e w' ⟨l, v', he, hF, hR, hb⟩ => ⟨_, _, l, v', true, he, hR, hb, ?_, fun t ht => Nat.le_trans (hF.1.most t ht) (by decide), fun u hu => ?_⟩
      · have h1 := hF.1.room
        have h2 := slots_ge l
        omega
      · refine (refScan_ok ts m _ rv u (hold _ _ hb hu) hm.symm rfl (by omega) hsz (by omega) hok).mono fun e w2 ⟨l2, v2, he2, hF2, hR2, hb2⟩ => ?_
        obtain rfl := hF.one hF2
        exact ⟨v2, he2, hR2, hb2⟩
/-- A row of its own block, and its beginnings, as rows of texts. -/
theorem Reg.row {g N : Nat} {w : World} (h : Reg g N w) (n cap : Nat) (hn : n ≤ N) (hN : N ≤ 1000) : ∃ ts : List ByteArray, ts.length = n ∧ StrRow w (.slice (some ⟨g, 0, none⟩) n cap) ts ∧ ∀ t ∈ ts, t.size ≤ 1000000 := by
  obtain ⟨f, hf⟩ : ∃ f : Nat → ByteArray, ∀ i, i < N → w.cell? ⟨g, i, none⟩ = some (.string (f i)) ∧ (f i).size ≤ 1000000 := by
    refine ⟨fun i => if hi : i < N then Classical.choose (h.2 i hi).1 else .empty, fun i hi => ?_⟩
    simp only [hi, dif_pos]
    exact Classical.choose_spec (h.2 i hi).1
  refine ⟨(List.range n).map f, by simp, ⟨_, cap, by simp, by simp; omega, fun _ => ⟨g, 0, rfl, h.1, fun j hj => ?_⟩⟩, fun t ht => ?_⟩
  · have hj' : j < n := by simpa using hj
    rw [Nat.zero_add, (hf j (by omega)).1]
    simp [List.getD_eq_getElem?_getD, hj']
  · obtain ⟨i, hi, rfl⟩ := List.mem_map.1 ht
    exact (hf i (by have := List.mem_range.1 hi; omega)).2
end Go.Proofs.YtfcocbgdmmeikaaGreatDoor
