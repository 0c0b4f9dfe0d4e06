/-
  Package twin: linkTurns; the document's own sides.
-/
import Derived.Test.YtdcebdleneieeaaDoorTwinText
import Derived.Test.YtdcebdleneieeaaDoorMProofA
import Derived.Test.YtdcebdleneieeaaDoorMPathA
namespace Go.Proofs.YtdcebdleneieeaaDoor
open Go.RowKit

/-- Ahead of a part: D has the sides down to it. -/
def InwRel (B M N : Nat) (w : World) (s0 s1 s5 : Value) (wr : World) : Prop :=
  ∃ (m n : Nat) (D : List Bool), s0 = .int .i64 (m : Int) ∧ s1 = .int .i64 (n : Int) ∧ 1 ≤ m ∧ m ≤ n ∧ n ≤ 1099511627776 ∧ Tree.inw M N = D ++ Tree.inw m n ∧ OwnB B wr s5 D ∧ Below B w wr
set_option maxHeartbeats 2000000 in
set_option maxRecDepth 100000 in
theorem linkTurns_any (M N : Nat) (w : World) (h1 : 1 ≤ M) (hMN : M ≤ N) (hN : N ≤ 1099511627776) :
    Calls Tryd.prog 56 #[.int .i64 (M : Int), .int .i64 (N : Int)] w fun e w' => ∃ v', e = .returned v' ∧ OwnB w.heap.size w' v' (Tree.inw M N).reverse ∧ Below w.heap.size w w' := by
  have h40 := inw_40 M N h1 hMN hN
  obtain ⟨B, hBw⟩ : ∃ B, B = w.heap.size := ⟨_, rfl⟩
  have HBw := Lib.hid hBw
  rw [← hBw]
  clear hBw
  go_enter Tryd.func56, Tryd.ntmps56
  go_wp2
  go_loopw [0, 1, 5] (InwRel B M N w) (fun _ s1 _ _ => (intOf s1).toNat)
  case atStart => exact ⟨M, N, [], rfl, rfl, h1, hMN, hN, rfl, OwnB.nil _ _, Below.refl _ _⟩
  case round =>
    obtain ⟨m, n, D, rfl, rfl, hm1, hmn, hn, hT, ho, hbel⟩ := hrel
    have hBW : B ≤ wr.heap.size := HBw.out ▸ hbel.size
    have hDl : D.length ≤ 40 := by
      have := congrArg List.length hT
      rw [List.length_append] at this
      omega
    by_cases h1' : m = n
    · subst h1'
      rw [Tree.inw_end, List.append_nil] at hT
      have hrv := reverse_any B u5 D wr ho hBW (by omega)
      rw [← hT] at hrv
      have HRV := Lib.hid hrv
      clear ho hT hrv h40
      go_wp2_with (go_at_call 66; ((with_reducible refine HRV.out.mono ?_); rintro e w1 ⟨rfl, ho1, b1⟩))
      have hfin := And.intro ho1 (hbel.trans b1)
      have HF := Lib.hid hfin
      clear ho1 hfin
      go_wp2
      go_ret
      exact ⟨_, rfl, HF.out.1, HF.out.2⟩
    · have h2' : ¬ (m : Int) = (n : Int) := by omega
      obtain ⟨va, cap, rfl, hlc, hcap⟩ := ho.bools.slice
      obtain ⟨k, hk⟩ : ∃ k, k = Tree.split n := ⟨_, rfl⟩
      have HSP : Hid (∀ u : World, Calls Tryd.prog 63 #[.int .i64 (n : Int)] u fun e w' => e = .returned (.int .i64 (k : Int)) ∧ u = w') := Lib.hid fun u => by
        have := leafSplit_any (n : Int) (by omega) u
        rwa [Int.toNat_natCast, ← hk] at this
      have hlt := Tree.split_lt (n := n) (by omega)
      have hp := Tree.split_pos (n := n) (by omega)
      rw [← hk] at hlt hp
      by_cases hmk : m ≤ k
      · have hmk' : ¬ (k : Int) < (m : Int) := by omega
        have hnk : ¬ k < m := by omega
        obtain ⟨v5, w5, hr5, ho5, b5⟩ := bappend_own 67 false ho hBW (by omega)
        have hT2 : Tree.inw M N = (D ++ [false]) ++ Tree.inw m k := by
          rw [Tree.inw_left (m := m) (n := n) hm1 (by omega) (by omega), ← hk] at hT
          rw [hT]
          simp
        have HR := Lib.hid hr5
        have HT := Lib.hid hT2
        have HO := Lib.hid ho5
        have b6 := hbel.trans b5
        clear hk hT hT2 hr5 ho5 ho h40
        go_wp2_with (first
          | (go_at_call 63; ((with_reducible refine (HSP.out _).mono ?_); rintro e w1 ⟨rfl, rfl⟩))
          | (at_builtin; refine Lib.wpList_append_run _ rfl _ _ _ _ rfl _ _ rfl rfl _ _ HR.out ?_))
        exact ⟨⟨m, k, _, rfl, rfl, hm1, hmk, by omega, HT.out, HO.out, b6⟩, by simp [intOf]; omega⟩
      · have hmk' : (k : Int) < (m : Int) := by omega
        have hnk : k < m := by omega
        obtain ⟨v5, w5, hr5, ho5, b5⟩ := bappend_own 67 true ho hBW (by omega)
        have hT2 : Tree.inw M N = (D ++ [true]) ++ Tree.inw (m - k) (n - k) := by
          rw [Tree.inw_right (m := m) (n := n) (by omega) (by omega), ← hk] at hT
          rw [hT]
          simp
        have HR := Lib.hid hr5
        have HT := Lib.hid hT2
        have HO := Lib.hid ho5
        have b6 := hbel.trans b5
        have hw1 := IntWalk.i64_in ((m : Int) - (k : Int)) (by omega)
        have hw2 := IntWalk.i64_in ((n : Int) - (k : Int)) (by omega)
        clear hk hT hT2 hr5 ho5 ho h40
        go_wp2_with (first
          | (go_at_call 63; ((with_reducible refine (HSP.out _).mono ?_); rintro e w1 ⟨rfl, rfl⟩))
          | (at_builtin; refine Lib.wpList_append_run _ rfl _ _ _ _ rfl _ _ rfl rfl _ _ HR.out ?_))
        exact ⟨⟨m - k, n - k, _, by rw [Int.ofNat_sub (by omega)], by rw [Int.ofNat_sub (by omega)], by omega, by omega, by omega, HT.out, HO.out, b6⟩, by simp [intOf]; omega⟩

set_option maxHeartbeats 2000000 in
set_option maxRecDepth 100000 in
theorem sides_any (M N : Nat) (w : World) (h1 : 1 ≤ M) (hMN : M ≤ N) (hN : N ≤ 1099511627776) :
    Calls Tryd.prog 57 #[.int .i64 (M : Int), .int .i64 (N : Int)] w fun e w' => ∃ v', e = .returned v' ∧ OwnB w.heap.size w' v' (Tree.inw M N).reverse ∧ Below w.heap.size w w' := by
  have h40 := inw_40 M N h1 hMN hN
  obtain ⟨B, hBw⟩ : ∃ B, B = w.heap.size := ⟨_, rfl⟩
  have HBw := Lib.hid hBw
  rw [← hBw]
  clear hBw
  go_enter Tryd.func57, Tryd.ntmps57
  go_wp2
  go_loopw [0, 1, 5] (InwRel B M N w) (fun _ s1 _ _ => (intOf s1).toNat)
  case atStart => exact ⟨M, N, [], rfl, rfl, h1, hMN, hN, rfl, OwnB.nil _ _, Below.refl _ _⟩
  case round =>
    obtain ⟨m, n, D, rfl, rfl, hm1, hmn, hn, hT, ho, hbel⟩ := hrel
    have hBW : B ≤ wr.heap.size := HBw.out ▸ hbel.size
    have hDl : D.length ≤ 40 := by
      have := congrArg List.length hT
      rw [List.length_append] at this
      omega
    by_cases h1' : m = n
    · subst h1'
      rw [Tree.inw_end, List.append_nil] at hT
      obtain ⟨va, cap, rfl, hlc, hcap⟩ := ho.bools.slice
      have HO := Lib.hid ho
      have HT := Lib.hid hT
      have hBWo := Lib.hid hBW
      have hbo := Lib.hid hbel
      obtain ⟨wo, hwo⟩ : ∃ wo, wo = wr := ⟨_, rfl⟩
      subst hwo
      obtain ⟨B2, hB2⟩ : ∃ B2, B2 = wo.heap.size := ⟨_, rfl⟩
      have HB2 := Lib.hid hB2
      have hw0 := IntWalk.i64_in ((D.length : Int) - 1) (by omega)
      clear ho hT h40 hbel hBW hB2
      go_wp2
      go_loopw [7, 8] (TurnRev B2 D wo) (fun _ s8 _ => (intOf s8 + 1).toNat)
      case atStart => exact ⟨D.length, rfl, Nat.le_refl _, by rw [List.drop_length]; exact OwnB.nil _ _, Below.refl _ _⟩
      case round =>
        obtain ⟨i, rfl, hi, ho7, hb7⟩ := hrel
        by_cases hi0 : i = 0
        · subst hi0
          have hge : ¬ (0 : Int) ≤ ((0 : Nat) : Int) - 1 := by omega
          rw [List.drop_zero, ← HT.out] at ho7
          have hfin := And.intro (ho7.lower (show B ≤ B2 by rw [HB2.out]; exact hBWo.out)) (hbo.out.trans (hb7.mono (show B ≤ B2 by rw [HB2.out]; exact hBWo.out)))
          have HF := Lib.hid hfin
          clear ho7 hfin
          go_wp2
          go_ret
          exact ⟨_, rfl, HF.out.1, HF.out.2⟩
        · have hge : (0 : Int) ≤ (i : Int) - 1 := by omega
          obtain ⟨j, hj⟩ : ∃ j, i = j + 1 := ⟨i - 1, by omega⟩
          subst hj
          have hjz : ((j + 1 : Nat) : Int) - 1 = (j : Int) := by omega
          rw [hjz] at hge ⊢
          have hw1 := IntWalk.i64_in ((j : Int) - 1) (by omega)
          obtain ⟨x, hx⟩ : ∃ x, x = D[j]'(by omega) := ⟨_, rfl⟩
          have hxe : D[j]? = some x := by rw [List.getElem?_eq_getElem (by omega), hx]
          have hsz : B2 ≤ wr.heap.size := by have := HB2.out; have := hb7.size; omega
          obtain ⟨b, off, rfl, hbl, -, hcell⟩ := HO.out.bools.at hxe
          replace hcell := (hb7.cell (p := ⟨b, off + j, none⟩) (by rw [HB2.out]; exact hbl)).trans hcell
          have hix := fun u => index_bools b off D.length cap j (j : Int) rfl (by omega) u
          obtain ⟨v5, w5, hr5, ho5, b5⟩ := bappend_own 67 x ho7 hsz (by simp; omega)
          have hd : (D.drop (j + 1)).reverse ++ [x] = (D.drop j).reverse := by
            rw [List.drop_eq_getElem_cons (show j < D.length by omega), List.reverse_cons, hx]
          rw [hd] at ho5
          have HR := Lib.hid hr5
          have HO5 := Lib.hid ho5
          have b6 := hb7.trans b5
          clear hd hr5 ho5 ho7 hx hxe hi0 hjz
          go_wp2_with (at_builtin; refine Lib.wpList_append_run _ rfl _ _ _ _ rfl _ _ rfl rfl _ _ HR.out ?_)
          exact ⟨⟨j, rfl, by omega, HO5.out, b6⟩, by simp [intOf]⟩
    · have h2' : ¬ (m : Int) = (n : Int) := by omega
      obtain ⟨va, cap, rfl, hlc, hcap⟩ := ho.bools.slice
      obtain ⟨k, hk⟩ : ∃ k, k = Tree.split n := ⟨_, rfl⟩
      have HSP : Hid (∀ u : World, Calls Tryd.prog 42 #[.int .i64 (n : Int)] u fun e w' => e = .returned (.int .i64 (k : Int)) ∧ u = w') := Lib.hid fun u => by
        have := rleafSplit_any (n : Int) (by omega) (by omega) u
        rwa [Int.toNat_natCast, ← hk] at this
      have hlt := Tree.split_lt (n := n) (by omega)
      have hp := Tree.split_pos (n := n) (by omega)
      rw [← hk] at hlt hp
      by_cases hmk : m ≤ k
      · have hmk' : (m : Int) ≤ (k : Int) := by omega
        have hnk : ¬ k < m := by omega
        obtain ⟨v5, w5, hr5, ho5, b5⟩ := bappend_own 67 false ho hBW (by omega)
        have hT2 : Tree.inw M N = (D ++ [false]) ++ Tree.inw m k := by
          rw [Tree.inw_left (m := m) (n := n) hm1 (by omega) (by omega), ← hk] at hT
          rw [hT]
          simp
        have HR := Lib.hid hr5
        have HT := Lib.hid hT2
        have HO := Lib.hid ho5
        have b6 := hbel.trans b5
        clear hk hT hT2 hr5 ho5 ho h40
        go_wp2_with (first
          | (go_at_call 42; ((with_reducible refine (HSP.out _).mono ?_); rintro e w1 ⟨rfl, rfl⟩))
          | (at_builtin; refine Lib.wpList_append_run _ rfl _ _ _ _ rfl _ _ rfl rfl _ _ HR.out ?_))
        exact ⟨⟨m, k, _, rfl, rfl, hm1, hmk, by omega, HT.out, HO.out, b6⟩, by simp [intOf]; omega⟩
      · have hmk' : ¬ (m : Int) ≤ (k : Int) := by omega
        have hnk : k < m := by omega
        obtain ⟨v5, w5, hr5, ho5, b5⟩ := bappend_own 67 true ho hBW (by omega)
        have hT2 : Tree.inw M N = (D ++ [true]) ++ Tree.inw (m - k) (n - k) := by
          rw [Tree.inw_right (m := m) (n := n) (by omega) (by omega), ← hk] at hT
          rw [hT]
          simp
        have HR := Lib.hid hr5
        have HT := Lib.hid hT2
        have HO := Lib.hid ho5
        have b6 := hbel.trans b5
        have hw1 := IntWalk.i64_in ((m : Int) - (k : Int)) (by omega)
        have hw2 := IntWalk.i64_in ((n : Int) - (k : Int)) (by omega)
        clear hk hT hT2 hr5 ho5 ho h40
        go_wp2_with (first
          | (go_at_call 42; ((with_reducible refine (HSP.out _).mono ?_); rintro e w1 ⟨rfl, rfl⟩))
          | (at_builtin; refine Lib.wpList_append_run _ rfl _ _ _ _ rfl _ _ rfl rfl _ _ HR.out ?_))
        exact ⟨⟨m - k, n - k, _, by rw [Int.ofNat_sub (by omega)], by rw [Int.ofNat_sub (by omega)], by omega, by omega, by omega, HT.out, HO.out, b6⟩, by simp [intOf]; omega⟩

end Go.Proofs.YtdcebdleneieeaaDoor
