/-
  Package octet: what List of a scanner does, for every scanner and every bound.
-/
import Derived.Test.YtnhpebhmihagbaaOctText
import Derived.Test.YtnhpebhmihagbaaOctRow
import Derived.WalkMore
import Derived.Deep.LoopGhost
namespace Go.Proofs.Ytnhpebhmihagbaa
open Go.RowKit

/-- k texts more, behind those that were read: all of them, or none. -/
def takeTexts : Nat → List (List UInt8) → Option (List UInt8) → List (List UInt8) × Option (List UInt8)
  | 0, acc, st => (acc, st)
  | k + 1, acc, st => match textS st 16777216 with
    | none => ([], none)
    | some l => takeTexts k (acc ++ [textV st 16777216]) (some l)
/-- What List tells, and what it leaves. -/
def listR (st : Option (List UInt8)) (most : Int) : List (List UInt8) × Option (List UInt8) := takeTexts (numV st most) [] (numS st most)

def strs (l : List (List UInt8)) : List ByteArray := l.map fun t => ⟨t.toArray⟩

theorem Only.cell {b : Nat} {w w' : World} (h : Only b w w') {p : Addr} (hp : p.block < w.heap.size) (hb : p.block ≠ b) : w'.cell? p = w.cell? p := World.cell?_of_block (w := w) (h.block p.block hp hb)
theorem Only.below_right {b B : Nat} {u w w' : World} (h : Only b u w) (k : Below B w w') (hB : u.heap.size ≤ B) : Only b u w' :=
  ⟨k.os.trans h.os, k.tape.trans h.tape, k.output.trans h.output, Nat.le_trans h.size k.size, fun i hi hb => (k.block i (by omega)).trans (h.block i hi hb)⟩
theorem Only.alloc {b : Nat} {u w : World} (h : Only b u w) (o : Obj) : Only b u (w.alloc o) :=
  h.trans ⟨rfl, rfl, rfl, by simp, fun k hk _ => Below.heap_alloc _ _ _ hk⟩
theorem Only.grown {b : Nat} {u w w' : World} {row : Option Nat} (h : Only b u w) (g : w.grownBy w' row) (hr : ∀ k, row = some k → u.heap.size ≤ k) : Only b u w' :=
  ⟨g.os.trans h.os, g.tape.trans h.tape, g.output.trans h.output, Nat.le_trans h.size g.size, fun k hk hb => (g.block k (Nat.lt_of_lt_of_le hk h.size) (fun e => by have := hr k e.symm; omega)).trans (h.block k hk hb)⟩

theorem longS_lt (l l' : List UInt8) (h : longS (some l) = some l') : l'.length < l.length := by
  unfold longS at h
  cases hn : Oct.num? l with
  | none => simp [hn] at h
  | some x =>
    simp [hn] at h
    subst h
    cases l with
    | nil => cases hn
    | cons b r =>
      unfold Oct.num? at hn
      simp only at hn
      split at hn
      · cases hn
      · simp only [Option.some.injEq] at hn
        subst hn
        simp only [List.length_drop, List.length_cons]
        omega

theorem numS_lt (l l' : List UInt8) (most : Int) (h : numS (some l) most = some l') : l'.length < l.length := by
  unfold numS at h
  split at h
  · cases h
  · exact longS_lt l l' h

theorem textS_lt (l l' : List UInt8) (most : Int) (h : textS (some l) most = some l') : l'.length < l.length := by
  unfold textS at h
  cases hn : numS (some l) most with
  | none => rw [hn] at h; cases h
  | some m =>
    rw [hn, Option.bind_some] at h
    split at h
    · cases h
    · simp only [Option.some.injEq] at h
      subst h
      have := numS_lt l m most hn
      rw [List.length_drop]
      omega

set_option maxHeartbeats 800000 in
theorem next_any (b c : Nat) (st : Option (List UInt8)) (w : World) (h : Scn b st w) (hc : w.cell? ⟨c, 0, none⟩ = some (.pointer (some ⟨b, 0, none⟩))) (hbc : c ≠ b) :
    Calls Try.prog 41 #[.pointer (some ⟨c, 0, none⟩)] w fun e w' => e = .returned (.tuple #[.string ⟨(textV st 16777216).toArray⟩, .bool (textS st 16777216).isSome]) ∧ Scn b (textS st 16777216) w' ∧ Only b w w' := by
  have hlt : c < w.heap.size := by
    unfold World.cell? at hc
    split at hc
    · rename_i heq; exact (Array.getElem?_eq_some_iff.1 heq).1
    · cases hc
  go_enter Try.func41, Try.ntmps41
  go_wp2_with (first
    | (go_at_call 26; refine (text_any b st 16777216 _ h (by decide) (by decide)).mono ?_; rintro e w1 ⟨rfl, h1, o1⟩; have hc1 : w1.cell? ⟨c, 0, none⟩ = some (.pointer (some ⟨b, 0, none⟩)) := (o1.cell (p := ⟨c, 0, none⟩) hlt hbc).trans hc)
    | (go_at_call 33; refine (sound_any _ _ _ h1).mono ?_; rintro e w2 ⟨rfl, rfl⟩))
  go_ret2
  exact ⟨rfl, h1, o1⟩

theorem own_only {base b : Nat} {e : TypeId} {size : Nat} {v : Value} {n : Nat} {xs : List Value} {w w' : World} (h : w.ownsRow base e size v n xs) (o : Only b w w') (hb : b < base) : w'.ownsRow base e size v n xs := by
  obtain ⟨h1, h2⟩ := h
  refine ⟨h1, ?_⟩
  rcases h2 with h2 | ⟨g, cap, cur, hv, hg, hh, r⟩
  · exact Or.inl h2
  · exact Or.inr ⟨g, cap, cur, hv, hg, (o.block g (Array.getElem?_eq_some_iff.1 hh).1 (by omega)).trans hh, r⟩

/-- v is a slice that reads as the texts ts; its row lies from lo on. -/
def FRow (lo : Nat) (w : World) (v : Value) (ts : List ByteArray) : Prop :=
  ∃ a cap, v = .slice a ts.length cap ∧ ts.length ≤ 9223372036854775807 ∧ (ts ≠ [] → ∃ b off, a = some ⟨b, off, none⟩ ∧ lo ≤ b ∧ b < w.heap.size ∧ ∀ j, j < ts.length → w.cell? ⟨b, off + j, none⟩ = some (.string (ts.getD j ByteArray.empty)))
theorem FRow.row {lo : Nat} {w : World} {v : Value} {ts : List ByteArray} (h : FRow lo w v ts) : StrRow w v ts := by
  obtain ⟨a, cap, hv, hl, hc⟩ := h
  refine ⟨a, cap, hv, hl, fun hn => ?_⟩
  obtain ⟨b, off, ha, _, hb, hj⟩ := hc hn
  exact ⟨b, off, ha, hb, hj⟩
theorem FRow.nil (lo : Nat) (w : World) : FRow lo w (.slice none 0 0) [] := ⟨none, 0, rfl, by decide, fun h => absurd rfl h⟩
theorem FRow.only {lo y : Nat} {w w' : World} {v : Value} {ts : List ByteArray} (h : FRow lo w v ts) (o : Only y w w') (hy : y < lo) : FRow lo w' v ts := by
  obtain ⟨a, cap, hv, hl, hc⟩ := h
  refine ⟨a, cap, hv, hl, fun hn => ?_⟩
  obtain ⟨b, off, ha, hlo, hb, hj⟩ := hc hn
  exact ⟨b, off, ha, hlo, Nat.lt_of_lt_of_le hb o.size, fun j h => (o.cell (p := ⟨b, off + j, none⟩) hb (by show b ≠ y; omega)).trans (hj j h)⟩
theorem FRow.of_own {w : World} {base n : Nat} {v : Value} {ts : List ByteArray} (h : w.ownsRow base 9 1 v n (ts.map Value.string)) (hn : ts.length ≤ 9223372036854775807) : FRow base w v ts := by
  have h1 := h.1
  simp at h1
  obtain rfl := h1
  rcases h.2 with ⟨rfl, h0⟩ | ⟨g, cap, cur, rfl, hg, hh, r⟩
  · have : ts = [] := List.eq_nil_of_length_eq_zero h0
    subst this
    exact FRow.nil _ w
  · refine ⟨_, cap, rfl, hn, fun _ => ⟨g, 0, rfl, hg, (Array.getElem?_eq_some_iff.1 hh).1, fun j hj => ?_⟩⟩
    have := h.cells rfl j (.string (ts.getD j ByteArray.empty)) (by simp [hj])
    rw [← this, Nat.zero_add]
    congr 1
    unfold Addr.add
    split <;> simp_all
theorem FRow.mono {lo lo' : Nat} {w : World} {v : Value} {ts : List ByteArray} (h : FRow lo w v ts) (hl : lo' ≤ lo) : FRow lo' w v ts := by
  obtain ⟨a, cap, hv, hln, hc⟩ := h
  refine ⟨a, cap, hv, hln, fun hn => ?_⟩
  obtain ⟨b, off, ha, hlo, r⟩ := hc hn
  exact ⟨b, off, ha, Nat.le_trans hl hlo, r⟩

/-- What List leaves: a slice that reads so; the scanner; nothing else that was there has turned. -/
def ListPost (b : Nat) (w : World) (r : List (List UInt8) × Option (List UInt8)) (e : Ending) (w' : World) : Prop :=
  ∃ v, e = .returned v ∧ FRow w.heap.size w' v (strs r.1) ∧ Scn b r.2 w' ∧ Only b w w'

theorem take_step (k : Nat) (acc : List (List UInt8)) (st : Option (List UInt8)) (l : List UInt8) (h : textS st 16777216 = some l) : takeTexts (k + 1) acc st = takeTexts k (acc ++ [textV st 16777216]) (some l) := by
  simp only [takeTexts, h]
theorem take_stop (k : Nat) (acc : List (List UInt8)) (st : Option (List UInt8)) (h : textS st 16777216 = none) : takeTexts (k + 1) acc st = ([], none) := by
  simp only [takeTexts, h]

set_option maxHeartbeats 1600000 in
theorem list_some (b : Nat) (st : Option (List UInt8)) (l0 : List UInt8) (n : Nat) (most : Int) (w : World) (h : Scn b st w) (m1 : -9223372036854775808 ≤ most) (m2 : most ≤ 9223372036854775807) (hs : numS st most = some l0) (hv : numV st most = n) (hL : l0.length ≤ 1099511627776) :
    Calls Try.prog 29 #[.pointer (some ⟨b, 0, none⟩), .int .i64 most] w (ListPost b w (takeTexts n [] (some l0))) := by
  have hmf : ∀ (fn : Fn) (first cap : Array Value) (w : World), (Instr.makeFunc fn first cap).run Try.prog w = .ok (.func fn first cap) w := fun _ _ _ _ => rfl
  obtain ⟨i0, hi, hz0, hz1, hz2⟩ := info_parts info_str
  have hN := fun w h => num_any b st most w h m1 m2
  have hb := numV_le st most m2
  rw [hs, hv] at hN
  rw [hv] at hb
  have HN := Lib.hid hN
  have hbl := h.lt
  have H1 : Hid (Scn b st (w.alloc (.cells #[.pointer (some ⟨b, 0, none⟩)] 34))) := h.old ((Below.refl w.heap.size w).alloc (Nat.le_refl _) _) hbl
  clear hN hs h hv
  go_enter Try.func29, Try.ntmps29
  go_wp2
  go_step3
  go_wp2
  go_step3
  go_wp2_with (first
    | (go_at_call 24; refine (HN.out _ H1.out).mono ?_; rintro e w1 ⟨rfl, h1, o1⟩))
  have O1 : Only b w w1 := ((Only.refl b w).alloc _).trans o1
  have C1 : w1.cell? ⟨w.heap.size, 0, none⟩ = some (.pointer (some ⟨b, 0, none⟩)) := by
    rw [o1.cell (by simp) (by simp; omega)]
    exact cell_one_new _ _ _ 0 _ rfl
  have S1 : w.heap.size + 1 ≤ w1.heap.size := by have := o1.size; simpa using this
  clear o1 H1 HN
  go_loopw [6, 13] (fun v i wr => ∃ (k : Nat) (acc : List (List UInt8)) (l : List UInt8), k ≤ n ∧ i = .int .i64 k ∧ wr.ownsRow (w.heap.size + 1) 9 1 v acc.length ((strs acc).map Value.string) ∧ Scn b (some l) wr ∧
      wr.cell? ⟨w.heap.size, 0, none⟩ = some (.pointer (some ⟨b, 0, none⟩)) ∧ Hid (takeTexts (n - k) acc (some l) = takeTexts n [] (some l0)) ∧ acc.length + l.length ≤ l0.length ∧ Only b w wr ∧ w.heap.size + 1 ≤ wr.heap.size)
    (fun _ i _ => n - (intOf i).toNat)
  case atStart => exact ⟨0, [], l0, Nat.zero_le _, rfl, World.ownsRow_nil _ _ _ _, h1, C1, rfl, by simp, O1, S1⟩
  case round =>
    obtain ⟨k, acc, l, hk, rfl, hown, hsc, hcx, ht, hal, ho, hsz⟩ := hrel
    clear O1 C1 S1 h1
    by_cases hlt : k < n
    · have hnb : w.heap.size ≠ b := by omega
      have hX := next_any b w.heap.size (some l) wr hsc hcx hnb
      obtain ⟨t, htv⟩ : ∃ t, t = textV (some l) 16777216 := ⟨_, rfl⟩
      cases hst : textS (some l) 16777216 with
      | none =>
        rw [hst, ← htv] at hX
        have HX := Lib.hid hX
        have HE : Hid (takeTexts n [] (some l0) = ([], none)) := by
          show _ = _
          rw [← ht.out, show n - k = (n - k - 1) + 1 by omega, take_stop _ _ _ hst]
        clear hX hst htv
        go_wp2_with (first
          | (go_at_call 41; refine HX.out.mono ?_; rintro e w2 ⟨rfl, h2, o2⟩))
        try rw [Exit.noGoto_ret]
        go_ret
        refine ⟨_, rfl, ?_, ?_, ho.trans o2⟩
        · rw [HE.out]; exact FRow.nil _ _
        · rw [HE.out]; exact h2
      | some l' =>
        rw [hst, ← htv] at hX
        have HX := Lib.hid hX
        have hll := textS_lt l l' _ hst
        have HE : Hid (takeTexts (n - (k + 1)) (acc ++ [t]) (some l') = takeTexts n [] (some l0)) := by
          show _ = _
          rw [← ht.out, show n - k = (n - (k + 1)) + 1 by omega, take_step _ _ _ _ hst, htv]
        clear hX hst htv
        go_wp2_with (first
          | (go_at_call 41; refine HX.out.mono ?_; rintro e w2 ⟨rfl, h2, o2⟩)
          | (at_builtin; refine wpList_append_own _ rfl _ _ 23 rfl (w.heap.size + 1) 9 i0 (.string ⟨#[]⟩) 1 16 Try.underlying23 hi hz0 hz1 hz2 rfl (by decide) _ _ _ rfl ((own_only hown o2 (by omega)).alloc _) ⟨w2.heap.size, 0, none⟩ 1 1 [.string ⟨t.toArray⟩] rfl rfl (cell_one_new _ _ _) (by intro u hu; simp at hu; subst hu; rfl) (by unfold maxLen; omega) (by omega) (by have := o2.size; simp; omega) ?_; intro v' w3 hown' hgrow _))
        have e1 : (strs acc).map Value.string ++ [Value.string ⟨t.toArray⟩] = (strs (acc ++ [t])).map Value.string := by simp [strs]
        have e2 : acc.length + 1 = (acc ++ [t]).length := by simp
        rw [e1, e2] at hown'
        have hs2 : w.heap.size + 1 ≤ w2.heap.size := Nat.le_trans hsz o2.size
        have Bl : Below (w.heap.size + 1) w2 w3 := ((Below.refl _ w2).alloc hs2 _).grown hgrow (by simp; omega) (fun g hg => (hown.lt g hg).1)
        go_roundw
        case rel =>
          refine ⟨k + 1, acc ++ [t], l', by omega, by go_num, hown', ?_, ?_, HE, by simp; omega, ?_, Nat.le_trans hs2 Bl.size⟩
          · exact h2.old Bl (by omega)
          · exact (Bl.cell (by simp)).trans ((o2.cell (by simp; omega) (by simp; omega)).trans hcx)
          · exact (ho.trans o2).below_right Bl (by omega)
        case measure => simp [intOf]; omega
    · have HE : Hid (takeTexts n [] (some l0) = (acc, some l)) := by
        show _ = _
        rw [← ht.out, show n - k = 0 by omega]; rfl
      have hal2 : (strs acc).length ≤ 9223372036854775807 := by simp [strs]; omega
      have H := (FRow.of_own hown hal2).mono (Nat.le_succ _)
      clear hown hal2
      go_wp2
      try rw [Exit.noGoto_ret]
      go_ret
      refine ⟨_, rfl, ?_, ?_, ho⟩
      · rw [HE.out]; exact H
      · rw [HE.out]; exact hsc

set_option maxHeartbeats 800000 in
theorem list_spoilt (b : Nat) (st : Option (List UInt8)) (most : Int) (w : World) (h : Scn b st w) (m1 : -9223372036854775808 ≤ most) (m2 : most ≤ 9223372036854775807) (hs : numS st most = none) :
    Calls Try.prog 29 #[.pointer (some ⟨b, 0, none⟩), .int .i64 most] w (ListPost b w ([], none)) := by
  have hmf : ∀ (fn : Fn) (first cap : Array Value) (w : World), (Instr.makeFunc fn first cap).run Try.prog w = .ok (.func fn first cap) w := fun _ _ _ _ => rfl
  have hN := fun w h => num_any b st most w h m1 m2
  rw [hs, num_none_zero st most hs] at hN
  have HN := Lib.hid hN
  have hbl := h.lt
  have H1 : Hid (Scn b st (w.alloc (.cells #[.pointer (some ⟨b, 0, none⟩)] 34))) := h.old ((Below.refl w.heap.size w).alloc (Nat.le_refl _) _) hbl
  clear hN hs h
  go_enter Try.func29, Try.ntmps29
  go_wp2
  go_step3
  go_wp2
  go_step3
  go_wp2_with (first
    | (go_at_call 24; refine (HN.out _ H1.out).mono ?_; rintro e w1 ⟨rfl, h1, o1⟩))
  refine wp_loop_rounds 1 ?_
  rw [rounds_succ]
  go_wp2
  try rw [Exit.noGoto_ret]
  go_ret
  exact ⟨_, rfl, FRow.nil _ _, h1, ((Only.refl b w).alloc _).trans o1⟩

/-- WHAT List DOES, of every scanner with at most 2^40 bytes left, with every bound. -/
theorem list_any (b : Nat) (st : Option (List UInt8)) (most : Int) (w : World) (h : Scn b st w) (m1 : -9223372036854775808 ≤ most) (m2 : most ≤ 9223372036854775807) (hL : (st.getD []).length ≤ 1099511627776) :
    Calls Try.prog 29 #[.pointer (some ⟨b, 0, none⟩), .int .i64 most] w (ListPost b w (listR st most)) := by
  unfold listR
  cases hs : numS st most with
  | none => rw [num_none_zero st most hs]; exact list_spoilt b st most w h m1 m2 hs
  | some l =>
    have := numS_len st most
    rw [hs, Option.getD_some] at this
    exact list_some b st l _ most w h m1 m2 hs rfl (by omega)

end Go.Proofs.Ytnhpebhmihagbaa
