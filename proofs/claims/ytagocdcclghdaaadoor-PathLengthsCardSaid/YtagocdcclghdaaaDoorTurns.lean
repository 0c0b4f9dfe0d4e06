/-
  Package path: Turns; the document's Turns, Long, LinksLong.
-/
import Derived.Test.YtagocdcclghdaaaDoorBoolRow
import Derived.Test.YtagocdcclghdaaaDoorPathLen
import Derived.Test.YtagocdcclghdaaaDoorSumBuild
namespace Go.Proofs.YtagocdcclghdaaaDoor
open Go.RowKit

/-- The sides, as they are told; none, where none are reckoned. -/
def turnsZ (m n : Int) : List Bool := if okP m n then Tree.turns m.toNat n.toNat else []
theorem turnsZ_len (m n : Int) : (turnsZ m n).length ≤ 40 := by
  unfold turnsZ
  split
  · rename_i h
    obtain ⟨h0, h1, h2⟩ := okP_t h
    exact long_40 m.toNat n.toNat (by omega)
  · simp
/-- Ahead of a part: D has the sides down to it. -/
def TurnRel (B M N : Nat) (w : World) (s0 s1 s5 : Value) (wr : World) : Prop :=
  ∃ (m n : Nat) (D : List Bool), s0 = .int .i64 (m : Int) ∧ s1 = .int .i64 (n : Int) ∧ m < n ∧ n ≤ 1099511627776 ∧ Tree.turns M N = Tree.turns m n ++ D.reverse ∧ OwnB B wr s5 D ∧ Below B w wr
set_option maxHeartbeats 1000000 in
set_option maxRecDepth 100000 in
theorem turns_any (m n : Int) (w : World) (_ : m ≤ 9223372036854775807) (_ : n ≤ 9223372036854775807) :
    Calls Tryd.prog 16 #[.int .i64 m, .int .i64 n] w fun e w' => ∃ v', e = .returned v' ∧ OwnB w.heap.size w' v' (turnsZ m n) ∧ Below w.heap.size w w' := by
  have hhp := fun u => hasPath_any m n u
  obtain ⟨b, hb⟩ : ∃ b, b = okP m n := ⟨_, rfl⟩
  have hz : turnsZ m n = if b then Tree.turns m.toNat n.toNat else [] := by unfold turnsZ; rw [← hb]
  rw [← hb] at hhp
  rw [hz]
  clear hz
  have HP := Lib.hid hhp
  clear hhp
  cases b with
  | false =>
    clear hb
    go_enter Tryd.func16, Tryd.ntmps16
    go_wp2_with (go_at_call 32; ((with_reducible refine (HP.out _).mono ?_); rintro e w1 ⟨rfl, rfl⟩))
    go_ret
    exact ⟨_, rfl, OwnB.nil _ _, Below.refl _ _⟩
  | true =>
    obtain ⟨h0, h1, h2⟩ := okP_t hb.symm
    obtain ⟨M, rfl⟩ := Int.eq_ofNat_of_zero_le h0
    obtain ⟨N, rfl⟩ := Int.eq_ofNat_of_zero_le (show 0 ≤ n by omega)
    clear hb h0
    have h40 := long_40 M N (by omega)
    obtain ⟨B, hBw⟩ : ∃ B, B = w.heap.size := ⟨_, rfl⟩
    have HBw := Lib.hid hBw
    have e1 : ((M : Int)).toNat = M := rfl
    have e2 : ((N : Int)).toNat = N := rfl
    rw [← hBw, e1, e2, if_pos rfl]
    clear hBw e1 e2
    go_enter Tryd.func16, Tryd.ntmps16
    go_wp2_with (go_at_call 32; ((with_reducible refine (HP.out _).mono ?_); rintro e w1 ⟨rfl, rfl⟩))
    go_loopw [0, 1, 5] (TurnRel B M N w) (fun _ s1 _ _ => (intOf s1).toNat)
    case atStart => exact ⟨M, N, [], rfl, rfl, by omega, by omega, by simp, OwnB.nil _ _, Below.refl _ _⟩
    case round =>
      obtain ⟨m, n, D, rfl, rfl, hmn, hn, hT, ho, hbel⟩ := hrel
      have hBW : B ≤ wr.heap.size := HBw.out ▸ hbel.size
      have hDl : D.length ≤ 40 := by
        have := congrArg List.length hT
        rw [List.length_append, List.length_reverse] at this
        have e : (Tree.turns M N).length = Tree.long M N := rfl
        omega
      by_cases h1' : n < 2
      · have h2' : ¬ 1 < (n : Int) := by omega
        rw [Tree.turns_small h1', List.nil_append] at hT
        have hrv := reverse_any B u5 D wr ho hBW (by omega)
        rw [← hT] at hrv
        have HRV := Lib.hid hrv
        clear ho hT hrv h1' h40
        go_wp2_with (go_at_call 34; ((with_reducible refine HRV.out.mono ?_); rintro e w1 ⟨rfl, ho1, b1⟩))
        have hfin := And.intro ho1 (hbel.trans b1)
        have HF := Lib.hid hfin
        clear ho1 hfin
        go_wp2
        go_ret
        exact ⟨_, rfl, HF.out.1, HF.out.2⟩
      · have h2' : 1 < (n : Int) := by omega
        obtain ⟨va, cap, rfl, hlc, hcap⟩ := ho.bools.slice
        obtain ⟨k, hk⟩ : ∃ k, k = Tree.split n := ⟨_, rfl⟩
        have HSP : Hid (∀ u : World, Calls Tryd.prog 33 #[.int .i64 (n : Int)] u fun e w' => e = .returned (.int .i64 (k : Int)) ∧ u = w') := Lib.hid fun u => by
          have := leafSplit_any (n : Int) (by omega) u
          rwa [Int.toNat_natCast, ← hk] at this
        have hlt := Tree.split_lt (n := n) (by omega)
        have hp := Tree.split_pos (n := n) (by omega)
        rw [← hk] at hlt hp
        by_cases hmk : m < k
        · have hmk' : ¬ k ≤ m := by omega
          obtain ⟨v5, w5, hr5, ho5, b5⟩ := bappend_own 29 false ho hBW (by omega)
          have hT2 : Tree.turns M N = Tree.turns m k ++ (D ++ [false]).reverse := by
            rw [Tree.turns_left (m := m) (n := n) (by omega) (by omega), ← hk] at hT
            rw [hT]
            simp
          have HR := Lib.hid hr5
          have HT := Lib.hid hT2
          have HO := Lib.hid ho5
          have b6 := hbel.trans b5
          clear hk hT hT2 hr5 ho5 ho h40 h1'
          go_wp2_with (first
            | (go_at_call 33; ((with_reducible refine (HSP.out _).mono ?_); rintro e w1 ⟨rfl, rfl⟩))
            | (at_builtin; refine Lib.wpList_append_run _ rfl _ _ _ _ rfl _ _ rfl rfl _ _ HR.out ?_))
          exact ⟨⟨m, k, _, rfl, rfl, hmk, by omega, HT.out, HO.out, b6⟩, by simp [intOf]; omega⟩
        · have hmk' : k ≤ m := by omega
          obtain ⟨v5, w5, hr5, ho5, b5⟩ := bappend_own 29 true ho hBW (by omega)
          have hT2 : Tree.turns M N = Tree.turns (m - k) (n - k) ++ (D ++ [true]).reverse := by
            rw [Tree.turns_right (m := m) (n := n) (by omega) (by omega), ← hk] at hT
            rw [hT]
            simp
          have HR := Lib.hid hr5
          have HT := Lib.hid hT2
          have HO := Lib.hid ho5
          have b6 := hbel.trans b5
          have hw1 := IntWalk.i64_in ((m : Int) - (k : Int)) (by omega)
          have hw2 := IntWalk.i64_in ((n : Int) - (k : Int)) (by omega)
          clear hk hT hT2 hr5 ho5 ho h40 h1'
          go_wp2_with (first
            | (go_at_call 33; ((with_reducible refine (HSP.out _).mono ?_); rintro e w1 ⟨rfl, rfl⟩))
            | (at_builtin; refine Lib.wpList_append_run _ rfl _ _ _ _ rfl _ _ rfl rfl _ _ HR.out ?_))
          exact ⟨⟨m - k, n - k, _, by rw [Int.ofNat_sub (by omega)], by rw [Int.ofNat_sub (by omega)], by omega, by omega, HT.out, HO.out, b6⟩, by simp [intOf]; omega⟩

/-! ### The document's own -/
/-- Ahead of element i - 1: what was put so far is the end of D, turned round. -/
def TurnRev (B : Nat) (D : List Bool) (w : World) (s7 s8 : Value) (wr : World) : Prop :=
  ∃ i : Nat, s8 = .int .i64 ((i : Int) - 1) ∧ i ≤ D.length ∧ OwnB B wr s7 (D.drop i).reverse ∧ Below B w wr
set_option maxHeartbeats 2000000 in
set_option maxRecDepth 100000 in
theorem rturns_any (m n : Int) (w : World) (_ : m ≤ 9223372036854775807) (_ : n ≤ 9223372036854775807) :
    Calls Tryd.prog 17 #[.int .i64 m, .int .i64 n] w fun e w' => ∃ v', e = .returned v' ∧ OwnB w.heap.size w' v' (turnsZ m n) ∧ Below w.heap.size w w' := by
  obtain ⟨b, hb⟩ : ∃ b, b = okP m n := ⟨_, rfl⟩
  have hz : turnsZ m n = if b then Tree.turns m.toNat n.toNat else [] := by unfold turnsZ; rw [← hb]
  rw [hz]
  clear hz
  cases b with
  | false =>
    rcases okP_f hb.symm with h | ⟨h, h1⟩ | ⟨h, h1, h2⟩ <;>
    · clear hb
      go_enter Tryd.func17, Tryd.ntmps17
      go_wp2
      go_ret
      exact ⟨_, rfl, OwnB.nil _ _, Below.refl _ _⟩
  | true =>
    obtain ⟨h0, h1, h2⟩ := okP_t hb.symm
    obtain ⟨M, rfl⟩ := Int.eq_ofNat_of_zero_le h0
    obtain ⟨N, rfl⟩ := Int.eq_ofNat_of_zero_le (show 0 ≤ n by omega)
    clear hb
    have h40 := long_40 M N (by omega)
    obtain ⟨B, hBw⟩ : ∃ B, B = w.heap.size := ⟨_, rfl⟩
    have HBw := Lib.hid hBw
    have e1 : ((M : Int)).toNat = M := rfl
    have e2 : ((N : Int)).toNat = N := rfl
    rw [← hBw, e1, e2, if_pos rfl]
    have h2' : ¬ 1099511627776 < (N : Int) := by omega
    clear hBw e1 e2
    go_enter Tryd.func17, Tryd.ntmps17
    go_wp2
    go_loopw [0, 1, 5] (TurnRel B M N w) (fun _ s1 _ _ => (intOf s1).toNat)
    case atStart => exact ⟨M, N, [], rfl, rfl, by omega, by omega, by simp, OwnB.nil _ _, Below.refl _ _⟩
    case round =>
      obtain ⟨m, n, D, rfl, rfl, hmn, hn, hT, ho, hbel⟩ := hrel
      have hBW : B ≤ wr.heap.size := HBw.out ▸ hbel.size
      have hDl : D.length ≤ 40 := by
        have := congrArg List.length hT
        rw [List.length_append, List.length_reverse] at this
        have e : (Tree.turns M N).length = Tree.long M N := rfl
        omega
      by_cases h1' : n < 2
      · have h2' : ¬ 1 < (n : Int) := by omega
        rw [Tree.turns_small h1', List.nil_append] at hT
        obtain ⟨va, cap, rfl, hlc, hcap⟩ := ho.bools.slice
        have HO := Lib.hid ho
        have HT := Lib.hid hT
        have hBWo := Lib.hid hBW
        have hbo := Lib.hid hbel
        obtain ⟨wo, hwo⟩ : ∃ wo, wo = wr := ⟨_, rfl⟩
        subst hwo
        obtain ⟨B2, hB2⟩ : ∃ B2, B2 = wo.heap.size := ⟨_, rfl⟩
        have HB2 := Lib.hid hB2
        have hw0 := IntWalk.i64_in ((D.length : Int) - 1) (by omega)
        clear ho hT h1' h40 hbel hBW hB2
        go_wp2
        go_loopw [7, 8] (TurnRev B2 D wo) (fun _ s8 _ => (intOf s8 + 1).toNat)
        case atStart => exact ⟨D.length, rfl, Nat.le_refl _, by rw [List.drop_length]; exact OwnB.nil _ _, Below.refl _ _⟩
        case round =>
          obtain ⟨i, rfl, hi, ho7, hb7⟩ := hrel
          by_cases hi0 : i = 0
          · subst hi0
            have hge : ¬ (0 : Int) ≤ ((0 : Nat) : Int) - 1 := by omega
            rw [List.drop_zero, ← HT.out] at ho7
            have hfin := And.intro (ho7.lower (show B ≤ B2 by rw [HB2.out]; exact hBWo.out)) (hbo.out.trans (hb7.mono (show B ≤ B2 by rw [HB2.out]; exact hBWo.out)))
            have HF := Lib.hid hfin
            clear ho7 hfin
            go_wp2
            go_ret
            exact ⟨_, rfl, HF.out.1, HF.out.2⟩
          · have hge : (0 : Int) ≤ (i : Int) - 1 := by omega
            obtain ⟨j, hj⟩ : ∃ j, i = j + 1 := ⟨i - 1, by omega⟩
            subst hj
            have hjz : ((j + 1 : Nat) : Int) - 1 = (j : Int) := by omega
            rw [hjz] at hge ⊢
            have hw1 := IntWalk.i64_in ((j : Int) - 1) (by omega)
            obtain ⟨x, hx⟩ : ∃ x, x = D[j]'(by omega) := ⟨_, rfl⟩
            have hxe : D[j]? = some x := by rw [List.getElem?_eq_getElem (by omega), hx]
            have hsz : B2 ≤ wr.heap.size := by have := HB2.out; have := hb7.size; omega
            obtain ⟨b, off, rfl, hbl, -, hcell⟩ := HO.out.bools.at hxe
            replace hcell := (hb7.cell (p := ⟨b, off + j, none⟩) (by rw [HB2.out]; exact hbl)).trans hcell
            have hix := fun u => index_bools b off D.length cap j (j : Int) rfl (by omega) u
            obtain ⟨v5, w5, hr5, ho5, b5⟩ := bappend_own 29 x ho7 hsz (by simp; omega)
            have hd : (D.drop (j + 1)).reverse ++ [x] = (D.drop j).reverse := by
              rw [List.drop_eq_getElem_cons (show j < D.length by omega), List.reverse_cons, hx]
            rw [hd] at ho5
            have HR := Lib.hid hr5
            have HO5 := Lib.hid ho5
            have b6 := hb7.trans b5
            clear hd hr5 ho5 ho7 hx hxe hi0 hjz
            go_wp2_with (at_builtin; refine Lib.wpList_append_run _ rfl _ _ _ _ rfl _ _ rfl rfl _ _ HR.out ?_)
            exact ⟨⟨j, rfl, by omega, HO5.out, b6⟩, by simp [intOf]⟩
      · have h2' : 1 < (n : Int) := by omega
        obtain ⟨va, cap, rfl, hlc, hcap⟩ := ho.bools.slice
        obtain ⟨k, hk⟩ : ∃ k, k = Tree.split n := ⟨_, rfl⟩
        have HSP : Hid (∀ u : World, Calls Tryd.prog 24 #[.int .i64 (n : Int)] u fun e w' => e = .returned (.int .i64 (k : Int)) ∧ u = w') := Lib.hid fun u => by
          have := rleafSplit_any (n : Int) (by omega) (by omega) u
          rwa [Int.toNat_natCast, ← hk] at this
        have hlt := Tree.split_lt (n := n) (by omega)
        have hp := Tree.split_pos (n := n) (by omega)
        rw [← hk] at hlt hp
        by_cases hmk : m < k
        · have hmk' : (m : Int) < (k : Int) := by omega
          obtain ⟨v5, w5, hr5, ho5, b5⟩ := bappend_own 29 false ho hBW (by omega)
          have hT2 : Tree.turns M N = Tree.turns m k ++ (D ++ [false]).reverse := by
            rw [Tree.turns_left (m := m) (n := n) (by omega) (by omega), ← hk] at hT
            rw [hT]
            simp
          have HR := Lib.hid hr5
          have HT := Lib.hid hT2
          have HO := Lib.hid ho5
          have b6 := hbel.trans b5
          clear hk hT hT2 hr5 ho5 ho h40 h1'
          go_wp2_with (first
            | (go_at_call 24; ((with_reducible refine (HSP.out _).mono ?_); rintro e w1 ⟨rfl, rfl⟩))
            | (at_builtin; refine Lib.wpList_append_run _ rfl _ _ _ _ rfl _ _ rfl rfl _ _ HR.out ?_))
          exact ⟨⟨m, k, _, rfl, rfl, hmk, by omega, HT.out, HO.out, b6⟩, by simp [intOf]; omega⟩
        · have hmk' : ¬ (m : Int) < (k : Int) := by omega
          obtain ⟨v5, w5, hr5, ho5, b5⟩ := bappend_own 29 true ho hBW (by omega)
          have hT2 : Tree.turns M N = Tree.turns (m - k) (n - k) ++ (D ++ [true]).reverse := by
            rw [Tree.turns_right (m := m) (n := n) (by omega) (by omega), ← hk] at hT
            rw [hT]
            simp
          have HR := Lib.hid hr5
          have HT := Lib.hid hT2
          have HO := Lib.hid ho5
          have b6 := hbel.trans b5
          have hw1 := IntWalk.i64_in ((m : Int) - (k : Int)) (by omega)
          have hw2 := IntWalk.i64_in ((n : Int) - (k : Int)) (by omega)
          clear hk hT hT2 hr5 ho5 ho h40 h1'
          go_wp2_with (first
            | (go_at_call 24; ((with_reducible refine (HSP.out _).mono ?_); rintro e w1 ⟨rfl, rfl⟩))
            | (at_builtin; refine Lib.wpList_append_run _ rfl _ _ _ _ rfl _ _ rfl rfl _ _ HR.out ?_))
          exact ⟨⟨m - k, n - k, _, by rw [Int.ofNat_sub (by omega)], by rw [Int.ofNat_sub (by omega)], by omega, by omega, HT.out, HO.out, b6⟩, by simp [intOf]; omega⟩
set_option maxHeartbeats 1000000 in
set_option maxRecDepth 100000 in
theorem rlong_any (m n : Int) (w : World) (l1 : m ≤ 9223372036854775807) (l2 : n ≤ 9223372036854775807) :
    Calls Tryd.prog 19 #[.int .i64 m, .int .i64 n] w fun e w' => e = .returned (.int .i64 (if okP m n then ((Tree.long m.toNat n.toNat : Nat) : Int) else -1)) ∧ Below w.heap.size w w' := by
  have hrt := rturns_any m n w l1 l2
  have hlen := turnsZ_len m n
  obtain ⟨b, hb⟩ : ∃ b, b = okP m n := ⟨_, rfl⟩
  have hz : turnsZ m n = if b then Tree.turns m.toNat n.toNat else [] := by unfold turnsZ; rw [← hb]
  cases b with
  | false =>
    rw [← hb]
    rcases okP_f hb.symm with h | ⟨h, h1⟩ | ⟨h, h1, h2⟩ <;>
    · clear hb hz hrt hlen
      go_enter Tryd.func19, Tryd.ntmps19
      go_wp2
      go_ret
      exact ⟨rfl, Below.refl _ _⟩
  | true =>
    obtain ⟨h0, h1, h2⟩ := okP_t hb.symm
    rw [← hb]
    rw [if_pos rfl] at hz
    have hll : (turnsZ m n).length = Tree.long m.toNat n.toNat := by rw [hz]; rfl
    rw [← hll]
    generalize turnsZ m n = T at *
    have HRT := Lib.hid hrt
    have h2' : ¬ 1099511627776 < n := by omega
    clear hb hz hrt hll
    go_enter Tryd.func19, Tryd.ntmps19
    go_wp2_with (go_at_call 17; ((with_reducible refine HRT.out.mono ?_); rintro e w1 ⟨v1, rfl, ho1, b1⟩; obtain ⟨a1, c1, rfl, _, _⟩ := ho1.bools.slice))
    go_ret
    exact ⟨rfl, b1⟩
set_option maxHeartbeats 1000000 in
set_option maxRecDepth 100000 in
theorem rlinksLong_any (m n : Int) (w : World) (_ : m ≤ 9223372036854775807) (_ : n ≤ 9223372036854775807) :
    Calls Tryd.prog 21 #[.int .i64 m, .int .i64 n] w fun e w' => e = .returned (.int .i64 (if okL m n then ((Tree.llong m.toNat n.toNat true : Nat) : Int) else -1)) ∧ w = w' := by
  obtain ⟨b, hb⟩ : ∃ b, b = okL m n := ⟨_, rfl⟩
  rw [← hb]
  cases b with
  | false =>
    rcases okL_f hb.symm with h | ⟨h, h1⟩ | ⟨h, h1, h2⟩ <;>
    · clear hb
      go_enter Tryd.func21, Tryd.ntmps21
      go_wp2
      go_ret
      exact ⟨rfl, rfl⟩
  | true =>
    obtain ⟨h0, h1, h2⟩ := okL_t hb.symm
    obtain ⟨M, rfl⟩ := Int.eq_ofNat_of_zero_le (show 0 ≤ m by omega)
    obtain ⟨N, rfl⟩ := Int.eq_ofNat_of_zero_le (show 0 ≤ n by omega)
    clear hb
    have h40 := Tree.llong_le N M N true (by omega) (by omega) (Nat.le_refl _)
    have h2' : ¬ 1099511627776 < (N : Int) := by omega
    go_enter Tryd.func21, Tryd.ntmps21
    go_wp2
    go_loop [0, 1, 5, 6] (LLongRel M N) (fun _ s1 _ _ => (intOf s1).toNat)
    case atStart => exact ⟨M, N, 0, true, rfl, rfl, rfl, rfl, by omega, by omega, by omega, by omega⟩
    case round =>
      obtain ⟨m, n, c, b, rfl, rfl, rfl, rfl, h1m, hmn, hn, hc⟩ := hrel
      obtain ⟨k, hk⟩ : ∃ k, k = Tree.split n := ⟨_, rfl⟩
      have HSP : Hid (∀ u : World, Calls Tryd.prog 24 #[.int .i64 (n : Int)] u fun e w' => e = .returned (.int .i64 (k : Int)) ∧ u = w') := Lib.hid fun u => by
        have := rleafSplit_any (n : Int) (by omega) (by omega) u
        rwa [Int.toNat_natCast, ← hk] at this
      by_cases he : m = n
      · subst he
        have hl : c + (if b then 0 else 1) = Tree.llong M N true := by rw [Tree.llong_end h1m] at hc; exact hc
        have hw := IntWalk.i64_in ((c : Int) + 1) (by omega)
        have HL := Lib.hid hl
        clear hk hc hl h40
        cases b with
        | true =>
          go_wp2
          go_ret
          exact ⟨by simp; have := HL.out; simp at this; omega, rfl⟩
        | false =>
          go_wp2
          go_ret
          exact ⟨by simp; have := HL.out; simp at this; omega, rfl⟩
      · have he' : ¬ (m : Int) = (n : Int) := by omega
        have hlt := Tree.split_lt (n := n) (by omega)
        have hp := Tree.split_pos (n := n) (by omega)
        rw [← hk] at hlt hp
        by_cases hmk : m ≤ k
        · have hmk' : (m : Int) ≤ (k : Int) := by omega
          have hc2 : c + 1 + Tree.llong m k b = Tree.llong M N true := by
            rw [Tree.llong_left (by omega) (by omega) (by omega), ← hk] at hc
            omega
          have HC := Lib.hid hc2
          have hw := IntWalk.i64_in ((c : Int) + 1) (by omega)
          clear hk hc hc2 h40
          go_wp2_with (go_at_call 24; ((with_reducible refine (HSP.out _).mono ?_); rintro e w1 ⟨rfl, rfl⟩))
          exact ⟨⟨m, k, c + 1, b, rfl, rfl, by simp, rfl, h1m, hmk, by omega, HC.out⟩, by simp [intOf]; omega⟩
        · have hmk' : ¬ (m : Int) ≤ (k : Int) := by omega
          have hc2 : c + 1 + Tree.llong (m - k) (n - k) false = Tree.llong M N true := by
            rw [Tree.llong_right (by omega) (by omega), ← hk] at hc
            omega
          have HC := Lib.hid hc2
          have hw := IntWalk.i64_in ((c : Int) + 1) (by omega)
          have hw1 := IntWalk.i64_in ((m : Int) - (k : Int)) (by omega)
          have hw2 := IntWalk.i64_in ((n : Int) - (k : Int)) (by omega)
          clear hk hc hc2 h40
          go_wp2_with (go_at_call 24; ((with_reducible refine (HSP.out _).mono ?_); rintro e w1 ⟨rfl, rfl⟩))
          exact ⟨⟨m - k, n - k, c + 1, false, by rw [Int.ofNat_sub (by omega)], by rw [Int.ofNat_sub (by omega)], by simp, rfl, by omega, by omega, by omega, HC.out⟩, by simp [intOf]; omega⟩
end Go.Proofs.YtagocdcclghdaaaDoor
