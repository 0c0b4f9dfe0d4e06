/-
  The document's own scanner: what Text and List do.
-/
import Derived.Test.YtnhpebhmihagbaaOctRText
namespace Go.Proofs.Ytnhpebhmihagbaa
open Go.RowKit

theorem ret_str' {a b : ByteArray} (h : a = b) : Ending.returned (.string a) = .returned (.string b) := by rw [h]

set_option maxHeartbeats 1600000 in
theorem rtext_spoilt (b : Nat) (S : ByteArray) (st : Option (List UInt8)) (most : Int) (w : World) (hS : S.size ≤ 1099511627776) (h : RScn b S st w) (m1 : -9223372036854775808 ≤ most) (m2 : most ≤ 9223372036854775807) (hs : numS st most = none) :
    Calls Try.prog 27 #[.pointer (some ⟨b, 0, none⟩), .int .i64 most] w fun e w' => e = .returned (.string ⟨#[]⟩) ∧ RScn b S none w' ∧ Only b w w' := by
  have hN := rnum_any b S st most w hS h m1 m2
  rw [hs, num_none_zero st most hs] at hN
  have HN := Lib.hid hN
  clear hN hs h
  go_enter Try.func27, Try.ntmps27
  go_wp2_with (go_at_call 25; refine HN.out.mono ?_; rintro e w1 ⟨rfl, h1, o1⟩; obtain ⟨p, hp, hR⟩ := h1.isNone; have c2 := hR.c2; have f2 := hR.fz 2; have HR := Lib.hid hR; clear hR h1)
  go_quiet (fail)
  go_wp2
  go_ret
  exact ⟨rfl, (RAt.set2 (w := World.drewN _ _) HR.out).spoilt hp, (o1.drewN _).setCell _ _⟩

set_option maxHeartbeats 1600000 in
theorem rtext_short (b : Nat) (S : ByteArray) (st : Option (List UInt8)) (l : List UInt8) (n : Nat) (most : Int) (w : World) (hS : S.size ≤ 1099511627776) (h : RScn b S st w) (m1 : -9223372036854775808 ≤ most) (m2 : most ≤ 9223372036854775807) (hs : numS st most = some l) (hv : numV st most = n) (hl : l.length < n) :
    Calls Try.prog 27 #[.pointer (some ⟨b, 0, none⟩), .int .i64 most] w fun e w' => e = .returned (.string ⟨#[]⟩) ∧ RScn b S none w' ∧ Only b w w' := by
  have hN := rnum_any b S st most w hS h m1 m2
  rw [hs, hv] at hN
  have HN : Hid (Calls Try.prog 25 #[.pointer (some ⟨b, 0, none⟩), .int .i64 most] w fun e w' => e = .returned (.int .i64 n) ∧ (∃ p, p ≤ S.size ∧ l.length = S.size - p ∧ RAt b S p false w') ∧ Only b w w') :=
    hN.mono fun e w' ⟨he, h1, o1⟩ => ⟨he, by obtain ⟨p, hp, hl, hR⟩ := h1.isSome; exact ⟨p, hp, by rw [hl]; exact drop_len S p, hR⟩, o1⟩
  clear hN hs h hv
  go_enter Try.func27, Try.ntmps27
  go_wp2_with (go_at_call 25; refine HN.out.mono ?_; rintro e w1 ⟨rfl, ⟨p, hp, hlen, hR⟩, o1⟩; have c0 := hR.c0; have c1 := hR.c1; have c2 := hR.c2; have f2 := hR.fz 2; have k1 := IntWalk.i64_in ((S.size : Int) - (p : Int)) (by omega); have hd : decide ((S.size : Int) - (p : Int) < (n : Int)) = true := (by simp; omega); have HR := Lib.hid hR; have HL := Lib.hid hlen; clear hR hlen)
  go_quiet (fail)
  go_wp2
  go_ret
  exact ⟨rfl, (RAt.set2 (w := World.drewN _ _) HR.out).spoilt hp, (o1.drewN _).setCell _ _⟩

theorem take_drop_text (S : ByteArray) (p n : Nat) : S.extract p (p + n) = ⟨((S.data.toList.drop p).take n).toArray⟩ := by
  rw [Lib.extract_eq, show p + n - p = n by omega]

set_option maxHeartbeats 1600000 in
theorem rtext_ok (b : Nat) (S : ByteArray) (st : Option (List UInt8)) (l : List UInt8) (n : Nat) (most : Int) (w : World) (hS : S.size ≤ 1099511627776) (h : RScn b S st w) (m1 : -9223372036854775808 ≤ most) (m2 : most ≤ 9223372036854775807) (hs : numS st most = some l) (hv : numV st most = n) (hl : n ≤ l.length) :
    Calls Try.prog 27 #[.pointer (some ⟨b, 0, none⟩), .int .i64 most] w fun e w' => e = .returned (.string ⟨(l.take n).toArray⟩) ∧ RScn b S (some (l.drop n)) w' ∧ Only b w w' := by
  have hN := rnum_any b S st most w hS h m1 m2
  rw [hs, hv] at hN
  have HN : Hid (Calls Try.prog 25 #[.pointer (some ⟨b, 0, none⟩), .int .i64 most] w fun e w' => e = .returned (.int .i64 n) ∧ (∃ p, p ≤ S.size ∧ l = S.data.toList.drop p ∧ RAt b S p false w') ∧ Only b w w') :=
    hN.mono fun e w' ⟨he, h1, o1⟩ => ⟨he, h1.isSome, o1⟩
  clear hN hs h hv
  go_enter Try.func27, Try.ntmps27
  go_wp2_with (go_at_call 25; refine HN.out.mono ?_; rintro e w1 ⟨rfl, ⟨p, hp, hll, hR⟩, o1⟩; have hlen : l.length = S.size - p := (by rw [hll]; exact drop_len S p); have c0 := hR.c0; have c1 := hR.c1; have c2 := hR.c2; have f1 := hR.fz 1; have k1 := IntWalk.i64_in ((S.size : Int) - (p : Int)) (by omega); have hd : decide ((S.size : Int) - (p : Int) < (n : Int)) = false := (by simp; omega); have k2 := IntWalk.i64_in ((p : Int) + (n : Int)) (by omega); have k3 : (0 : Int) ≤ (p : Int) := (by omega); have k4 : (p : Int) ≤ (p : Int) + (n : Int) := (by omega); have k5 : (p : Int) + (n : Int) ≤ (S.size : Int) := (by omega); have k6 : ((p : Int) + (n : Int)).toNat = p + n := (by omega); have k7 : p + n ≤ S.size := (by omega); have HR := Lib.hid hR; have HL := Lib.hid hll; clear hR hlen hll)
  go_quiet (fail)
  go_wp2
  go_quiet (fail)
  go_wp2
  go_ret
  refine ⟨ret_str' (by rw [take_drop_text, ← HL.out]), ?_, (o1.drewN _).setCell _ _⟩
  have e : (p : Int) + (n : Int) = ((p + n : Nat) : Int) := by omega
  have e2 : l.drop n = S.data.toList.drop (p + n) := by rw [HL.out, List.drop_drop]
  rw [e, e2]
  exact (RAt.set1 (w := World.drewN _ _) HR.out (p + n)).sound k7

/-- WHAT THE DOCUMENT's Text DOES. -/
theorem rtext_any (b : Nat) (S : ByteArray) (st : Option (List UInt8)) (most : Int) (w : World) (hS : S.size ≤ 1099511627776) (h : RScn b S st w) (m1 : -9223372036854775808 ≤ most) (m2 : most ≤ 9223372036854775807) :
    Calls Try.prog 27 #[.pointer (some ⟨b, 0, none⟩), .int .i64 most] w fun e w' => e = .returned (.string ⟨(textV st most).toArray⟩) ∧ RScn b S (textS st most) w' ∧ Only b w w' := by
  cases hs : numS st most with
  | none =>
    have e1 : textV st most = [] := by unfold textV; rw [hs, num_none_zero st most hs]; rfl
    have e2 : textS st most = none := by unfold textS; rw [hs]; rfl
    rw [e1, e2]; exact rtext_spoilt b S st most w hS h m1 m2 hs
  | some l =>
    by_cases hl : l.length < numV st most
    · have e1 : textV st most = [] := by unfold textV; rw [hs, Option.getD_some, if_pos hl]
      have e2 : textS st most = none := by unfold textS; rw [hs, Option.bind_some, if_pos hl]
      rw [e1, e2]; exact rtext_short b S st l _ most w hS h m1 m2 hs rfl hl
    · have e1 : textV st most = l.take (numV st most) := by unfold textV; rw [hs, Option.getD_some, if_neg hl]
      have e2 : textS st most = some (l.drop (numV st most)) := by unfold textS; rw [hs, Option.bind_some, if_neg hl]
      rw [e1, e2]; exact rtext_ok b S st l _ most w hS h m1 m2 hs rfl (by omega)

/-- What the document's List leaves. -/
def RListPost (b : Nat) (S : ByteArray) (w : World) (r : List (List UInt8) × Option (List UInt8)) (e : Ending) (w' : World) : Prop :=
  ∃ v, e = .returned v ∧ StrRow w' v (strs r.1) ∧ RScn b S r.2 w' ∧ Only b w w'

/-- How far the reading has come: some texts are there, or it was in vain. -/
def Way (n k : Nat) (acc : List (List UInt8)) (st : Option (List UInt8)) (L : Nat) (R : List (List UInt8) × Option (List UInt8)) : Prop :=
  (∃ l, st = some l ∧ acc.length + l.length ≤ L ∧ takeTexts (n - k) acc (some l) = R) ∨ (st = none ∧ R = ([], none))

theorem way_start (n : Nat) (st : Option (List UInt8)) (h : st = none → n = 0) : Way n 0 [] st (st.getD []).length (takeTexts n [] st) := by
  cases st with
  | none => right; rw [h rfl]; exact ⟨rfl, rfl⟩
  | some l => left; exact ⟨l, rfl, by simp, rfl⟩

theorem way_step {n k : Nat} {acc : List (List UInt8)} {l : List UInt8} {L : Nat} {R : List (List UInt8) × Option (List UInt8)} (hk : k < n) (h : Way n k acc (some l) L R) :
    Way n (k + 1) (acc ++ [textV (some l) 16777216]) (textS (some l) 16777216) L R := by
  rcases h with ⟨l', e, hl, ht⟩ | ⟨e, _⟩
  · simp only [Option.some.injEq] at e
    subst e
    rw [show n - k = (n - (k + 1)) + 1 by omega] at ht
    cases hs : textS (some l) 16777216 with
    | none => right; rw [take_stop _ _ _ hs] at ht; exact ⟨rfl, ht.symm⟩
    | some l2 =>
      left
      have := textS_lt l l2 _ hs
      refine ⟨l2, rfl, by simp; omega, ?_⟩
      rw [take_step _ _ _ _ hs] at ht
      exact ht
  · cases e

set_option maxHeartbeats 3200000 in
theorem rlist_any (b : Nat) (S : ByteArray) (st : Option (List UInt8)) (most : Int) (w : World) (hS : S.size ≤ 1000000) (h : RScn b S st w) (m1 : -9223372036854775808 ≤ most) (m2 : most ≤ 9223372036854775807) :
    Calls Try.prog 30 #[.pointer (some ⟨b, 0, none⟩), .int .i64 most] w (RListPost b S w (listR st most)) := by
  obtain ⟨i0, hi, hz0, hz1, hz2⟩ := info_parts info_str
  have hbl := h.lt
  have hN := rnum_any b S st most w (by omega) h m1 m2
  have hb := numV_le st most m2
  have hW0 := way_start (numV st most) (numS st most) (num_none_zero st most)
  have hLL : ((numS st most).getD []).length ≤ 1000000 := by
    obtain ⟨p, bad, hp, _, hs⟩ := h
    have := numS_len st most
    have h2 : (st.getD []).length ≤ S.size := by
      rw [hs]; cases bad <;> simp
    omega
  unfold listR
  generalize takeTexts (numV st most) [] (numS st most) = R at hW0
  generalize ((numS st most).getD []).length = L at hW0 hLL
  generalize numV st most = n at hN hb hW0
  generalize numS st most = st1 at hN hW0
  have HN := Lib.hid hN
  have HW0 := Lib.hid hW0
  clear hN h hW0
  go_enter Try.func30, Try.ntmps30
  go_wp2_with (go_at_call 25; refine HN.out.mono ?_; rintro e w1 ⟨rfl, h1, o1⟩)
  go_loopw [6, 7] (fun v i wr => ∃ (k : Nat) (acc : List (List UInt8)) (stk : Option (List UInt8)), k ≤ n ∧ i = .int .i64 k ∧ acc.length ≤ L + 1 ∧ wr.ownsRow w.heap.size 9 1 v acc.length ((strs acc).map Value.string) ∧ RScn b S stk wr ∧ Hid (Way n k acc stk L R) ∧ Only b w wr)
    (fun _ i _ => n - (intOf i).toNat)
  case atStart => exact ⟨0, [], st1, Nat.zero_le _, rfl, by simp, World.ownsRow_nil _ _ _ _, h1, HW0, o1⟩
  case round =>
    obtain ⟨k, acc, stk, hk, rfl, hal, hown, hsc, hW, ho⟩ := hrel
    clear h1 o1 HN HW0
    by_cases hlt : k < n
    · cases stk with
      | none =>
        obtain ⟨p, hp, hR⟩ := hsc.isNone
        have c2 := hR.c2
        have HS := Lib.hid hsc
        clear hR hsc
        go_wp2
        go_ret
        rcases hW.out with ⟨l, e, _, _⟩ | ⟨_, e⟩
        · cases e
        · exact ⟨_, rfl, by rw [e]; exact StrRow.nil _, by rw [e]; exact HS.out, ho⟩
      | some l =>
        obtain ⟨p, hp, _, hR⟩ := hsc.isSome
        have c2 := hR.c2
        have hal2 : acc.length ≤ L := by
          rcases hW.out with ⟨l', e, hl, _⟩ | ⟨e, _⟩
          · omega
          · cases e
        have HT := Lib.hid (rtext_any b S (some l) 16777216 wr (by omega) hsc (by decide) (by decide))
        have HWn := Lib.hid (way_step hlt hW.out)
        clear hR hsc hW
        generalize textV (some l) 16777216 = t at HT HWn
        generalize textS (some l) 16777216 = stn at HT HWn
        have hsz : w.heap.size ≤ wr.heap.size := ho.size
        go_wp2_with (first
          | (go_at_call 27; refine HT.out.mono ?_; rintro e w2 ⟨rfl, h2, o2⟩)
          | (at_builtin; refine wpList_append_own _ rfl _ _ 23 rfl w.heap.size 9 i0 (.string ⟨#[]⟩) 1 16 Try.underlying23 hi hz0 hz1 hz2 rfl (by decide) _ _ _ rfl ((own_only hown o2 hbl).alloc _) ⟨w2.heap.size, 0, none⟩ 1 1 [.string ⟨t.toArray⟩] rfl rfl (cell_one_new _ _ _) (by intro u hu; simp at hu; subst hu; rfl) (by unfold maxLen; omega) (by omega) (by have := o2.size; simp; omega) ?_; intro v' w3 hown' hgrow _))
        have e1 : (strs acc).map Value.string ++ [Value.string ⟨t.toArray⟩] = (strs (acc ++ [t])).map Value.string := by simp [strs]
        have e2 : acc.length + 1 = (acc ++ [t]).length := by simp
        rw [e1, e2] at hown'
        have hs2 : w.heap.size ≤ w2.heap.size := Nat.le_trans hsz o2.size
        have Bl : Below w.heap.size w2 w3 := ((Below.refl _ w2).alloc hs2 _).grown hgrow (by simp; omega) (fun g hg => (hown.lt g hg).1)
        go_roundw
        case rel => exact ⟨k + 1, acc ++ [t], stn, by omega, by go_num, by simp; omega, hown', h2.old Bl hbl, HWn, (ho.trans o2).below_right Bl (Nat.le_refl _)⟩
        case measure => simp [intOf]; omega
    · cases stk with
      | none =>
        obtain ⟨p, hp, hR⟩ := hsc.isNone
        have c2 := hR.c2
        have HS := Lib.hid hsc
        clear hR hsc
        go_wp2
        go_ret
        rcases hW.out with ⟨l, e, _, _⟩ | ⟨_, e⟩
        · cases e
        · exact ⟨_, rfl, by rw [e]; exact StrRow.nil _, by rw [e]; exact HS.out, ho⟩
      | some l =>
        obtain ⟨p, hp, _, hR⟩ := hsc.isSome
        have c2 := hR.c2
        have HS := Lib.hid hsc
        have HE : Hid (R = (acc, some l)) := by
          rcases hW.out with ⟨l', e, _, ht⟩ | ⟨e, _⟩
          · simp only [Option.some.injEq] at e
            subst e
            rw [show n - k = 0 by omega] at ht
            exact ht.symm
          · cases e
        have H := StrRow.of_own hown (by simp [strs]; omega)
        clear hR hsc hown
        go_wp2
        go_ret
        exact ⟨_, rfl, by rw [HE.out]; exact H, by rw [HE.out]; exact HS.out, ho⟩

end Go.Proofs.Ytnhpebhmihagbaa
