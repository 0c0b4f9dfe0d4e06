/-
  Package proof: parts; the library's slices.Contains and slices.Index over booleans.
-/
import Derived.Test.YtjdhcncjcencbaaDoorProofPure
import Derived.Test.YtjdhcncjcencbaaDoorMPathA
import Derived.Test.YtjdhcncjcencbaaDoorMPathB
namespace Go.Proofs.YtjdhcncjcencbaaDoor
open Go.RowKit

def PartRel (B M N : Nat) (w : World) (s0 s1 s5 : Value) (wr : World) : Prop :=
  ∃ (m n : Nat) (D : List Bool), s0 = .int .i64 (m : Int) ∧ s1 = .int .i64 (n : Int) ∧ 1 ≤ m ∧ m ≤ n ∧ n ≤ 1099511627776 ∧ Tree.inw M N = D ++ Tree.inw m n ∧ OwnB B wr s5 D ∧ Below B w wr
theorem inw_40 (m n : Nat) (h1 : 1 ≤ m) (hm : m ≤ n) (h : n ≤ 1099511627776) : (Tree.inw m n).length ≤ 40 := Tree.inw_le 40 m n h1 hm (Nat.le_trans h (by decide))
set_option maxHeartbeats 1000000 in
set_option maxRecDepth 100000 in
theorem parts_any (M N : Nat) (w : World) (h1 : 1 ≤ M) (hMN : M ≤ N) (hN : N ≤ 1099511627776) :
    Calls Tryd.prog 34 #[.int .i64 (M : Int), .int .i64 (N : Int)] w fun e w' => ∃ v', e = .returned v' ∧ OwnB w.heap.size w' v' (Tree.inw M N) ∧ Below w.heap.size w w' := by
  have h40 := inw_40 M N h1 hMN hN
  obtain ⟨B, hBw⟩ : ∃ B, B = w.heap.size := ⟨_, rfl⟩
  have HBw := Lib.hid hBw
  rw [← hBw]
  clear hBw
  go_enter Tryd.func34, Tryd.ntmps34
  go_wp2
  go_loopw [0, 1, 5] (PartRel B M N w) (fun _ s1 _ _ => (intOf s1).toNat)
  case atStart => exact ⟨M, N, [], rfl, rfl, h1, hMN, hN, by simp, OwnB.nil _ _, Below.refl _ _⟩
  case round =>
    obtain ⟨m, n, D, rfl, rfl, hm1, hmn, hn, hT, ho, hbel⟩ := hrel
    have hBW : B ≤ wr.heap.size := HBw.out ▸ hbel.size
    have hDl : D.length ≤ 40 := by
      have := congrArg List.length hT
      rw [List.length_append] at this
      omega
    by_cases h1' : m = n
    · have h2' : (m : Int) = (n : Int) := by omega
      rw [h1', Tree.inw_end, List.append_nil] at hT
      have HO : Hid (OwnB B wr u5 (Tree.inw M N)) := Lib.hid (by rw [hT]; exact ho)
      obtain rfl := h1'
      clear ho hT h40 h2'
      go_wp2
      go_ret
      exact ⟨_, rfl, HO.out, hbel⟩
    · have h2' : ¬ (m : Int) = (n : Int) := by omega
      obtain ⟨va, cap, rfl, hlc, hcap⟩ := ho.bools.slice
      obtain ⟨k, hk⟩ : ∃ k, k = Tree.split n := ⟨_, rfl⟩
      have HSP : Hid (∀ u : World, Calls Tryd.prog 45 #[.int .i64 (n : Int)] u fun e w' => e = .returned (.int .i64 (k : Int)) ∧ u = w') := Lib.hid fun u => by
        have := leafSplit_any (n : Int) (by omega) u
        rwa [Int.toNat_natCast, ← hk] at this
      have hlt := Tree.split_lt (n := n) (by omega)
      have hp := Tree.split_pos (n := n) (by omega)
      rw [← hk] at hlt hp
      by_cases hmk : m ≤ k
      · have hmk' : ¬ k < m := by omega
        obtain ⟨v5, w5, hr5, ho5, b5⟩ := bappend_own 45 false ho hBW (by omega)
        have hT2 : Tree.inw M N = (D ++ [false]) ++ Tree.inw m k := by
          rw [Tree.inw_left hm1 (by omega) (by omega), ← hk] at hT
          rw [hT]
          simp
        have HR := Lib.hid hr5
        have HT := Lib.hid hT2
        have HO := Lib.hid ho5
        have b6 := hbel.trans b5
        clear hk hT hT2 hr5 ho5 ho h40 h1'
        go_wp2_with (first
          | (go_at_call 45; ((with_reducible refine (HSP.out _).mono ?_); rintro e w1 ⟨rfl, rfl⟩))
          | (at_builtin; refine Lib.wpList_append_run _ rfl _ _ _ _ rfl _ _ rfl rfl _ _ HR.out ?_))
        exact ⟨⟨m, k, _, rfl, rfl, hm1, hmk, by omega, HT.out, HO.out, b6⟩, by simp [intOf]; omega⟩
      · have hmk' : k < m := by omega
        obtain ⟨v5, w5, hr5, ho5, b5⟩ := bappend_own 45 true ho hBW (by omega)
        have hT2 : Tree.inw M N = (D ++ [true]) ++ Tree.inw (m - k) (n - k) := by
          rw [Tree.inw_right (m := m) (n := n) (by omega) (by omega), ← hk] at hT
          rw [hT]
          simp
        have HR := Lib.hid hr5
        have HT := Lib.hid hT2
        have HO := Lib.hid ho5
        have b6 := hbel.trans b5
        have hw1 := IntWalk.i64_in ((m : Int) - (k : Int)) (by omega)
        have hw2 := IntWalk.i64_in ((n : Int) - (k : Int)) (by omega)
        clear hk hT hT2 hr5 ho5 ho h40 h1'
        go_wp2_with (first
          | (go_at_call 45; ((with_reducible refine (HSP.out _).mono ?_); rintro e w1 ⟨rfl, rfl⟩))
          | (at_builtin; refine Lib.wpList_append_run _ rfl _ _ _ _ rfl _ _ rfl rfl _ _ HR.out ?_))
        exact ⟨⟨m - k, n - k, _, by rw [Int.ofNat_sub (by omega)], by rw [Int.ofNat_sub (by omega)], by omega, by omega, by omega, HT.out, HO.out, b6⟩, by simp [intOf]; omega⟩

def IndRel (l : List Bool) (s8 : Value) : Prop := ∃ i : Nat, s8 = .int .i64 (i : Int) ∧ i ≤ l.length ∧ ∀ j, j < i → l[j]? = some false
set_option maxHeartbeats 1000000 in
set_option maxRecDepth 100000 in
theorem index_any (v : Value) (l : List Bool) (w : World) (hv : Bools w v l) (hn : l.length ≤ 1000000) :
    Calls Tryd.prog 50 #[v, .bool true] w fun e w' => ∃ r : Int, e = .returned (.int .i64 r) ∧ decide (0 ≤ r) = l.contains true ∧ w = w' := by
  obtain ⟨a, cap, rfl, hlc, hcap⟩ := hv.slice
  obtain ⟨n, hn'⟩ : ∃ n, n = l.length := ⟨_, rfl⟩
  have HV := Lib.hid hv
  obtain ⟨ct, hct⟩ : ∃ ct, ct = l.contains true := ⟨_, rfl⟩
  have Hct := Lib.hid hct
  rw [← hn'] at HV ⊢
  rw [← hct]
  have Hn := Lib.hid hn'
  clear hv hn' hlc hct
  go_enter Tryd.func50, Tryd.ntmps50
  go_wp2
  go_loop [8] (IndRel l) (fun s8 => n - (intOf s8).toNat)
  case atStart => exact ⟨0, rfl, by omega, fun j hj => absurd hj (by omega)⟩
  case round =>
    obtain ⟨i, rfl, hi, hall⟩ := hrel
    rw [← Hn.out] at hi
    by_cases h : i = n
    · have hc : l.contains true = false := by
        rw [Bool.eq_false_iff]
        intro hc
        obtain ⟨j, hj⟩ := List.getElem?_of_mem (List.contains_iff_mem.1 hc)
        have hjl := (List.getElem?_eq_some_iff.1 hj).1
        have := hall j (by have := Hn.out; omega)
        rw [hj] at this
        cases this
      have HC : Hid (ct = false) := Lib.hid (Hct.out.trans hc)
      have h2 : ¬ (i : Int) < (n : Int) := by omega
      clear hall hc h
      go_wp2
      go_ret
      exact ⟨_, rfl, by rw [HC.out]; rfl, rfl⟩
    · have hlt : i < l.length := by have := Hn.out; omega
      have h2 : (i : Int) < (n : Int) := by omega
      obtain ⟨x, hx⟩ : ∃ x, l[i]? = some x := ⟨_, List.getElem?_eq_getElem hlt⟩
      obtain ⟨b, off, rfl, hb, -, hcell⟩ := HV.out.at hx
      have hidx := fun u => index_bools b off n cap i (i : Int) rfl (by omega) u
      cases x with
      | true =>
        have hc : l.contains true = true := List.contains_iff_mem.2 (List.mem_of_getElem? hx)
        have HC : Hid (ct = true) := Lib.hid (Hct.out.trans hc)
        clear hall hc hx h hlt
        go_wp2
        go_ret
        exact ⟨_, rfl, by rw [HC.out]; simp, rfl⟩
      | false =>
        have hall' : ∀ j, j < i + 1 → l[j]? = some false := fun j hj => by
          by_cases e : j = i
          · rw [e]; exact hx
          · exact hall j (by omega)
        have HA := Lib.hid hall'
        clear hall hall' hx h hlt
        have hwr := IntWalk.i64_in ((i : Int) + 1) (by have := Hn.out; omega)
        go_wp2
        exact ⟨⟨i + 1, by simp, by have := Hn.out; omega, HA.out⟩, by simp [intOf]; omega⟩
set_option maxHeartbeats 1000000 in
set_option maxRecDepth 100000 in
theorem contains_any (v : Value) (l : List Bool) (w : World) (hv : Bools w v l) (hn : l.length ≤ 1000000) :
    Calls Tryd.prog 35 #[v, .bool true] w fun e w' => e = .returned (.bool (l.contains true)) ∧ w = w' := by
  obtain ⟨a, cap, rfl, hlc, hcap⟩ := hv.slice
  have HI := Lib.hid (index_any _ l w hv hn)
  clear hv hlc hcap
  obtain ⟨c, hc⟩ : ∃ c, c = l.contains true := ⟨_, rfl⟩
  rw [← hc] at HI ⊢
  clear hc
  go_enter Tryd.func35, Tryd.ntmps35
  go_wp2_with (go_at_call 50; ((with_reducible refine HI.out.mono ?_); rintro e w1 ⟨r, rfl, hr, rfl⟩; have HR := Lib.hid hr; clear hr))
  go_ret
  exact ⟨by rw [← HR.out]; rfl, rfl⟩
end Go.Proofs.YtjdhcncjcencbaaDoor
