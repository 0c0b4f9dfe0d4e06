/-
  ShaHex: the digits of a hash are those of its bytes, two each; no two hashes have the same digits, nor the same bytes. For every two hashes; the numbers K are as the program's text lays them.
-/
import Derived.Test.YtcecncbhfcoilaaDoorShaLaw
import Derived.Test.YtcecncbhfcoilaaDoorShaOneA
import Derived.Test.YtcecncbhfcoilaaDoorRegOps
namespace Go.Proofs.YtcecncbhfcoilaaDoor.shaHex
open Go.ChangeShapes Go.WideShapes Go.ChangeAt Go.RowKit

theorem hexD_val (d : Nat) (h : d < 16) : (Sha.hexD d).toNat = if d < 10 then 48 + d else 87 + d := by
  have : ∀ d : Fin 16, (Sha.hexD d.val).toNat = if d.val < 10 then 48 + d.val else 87 + d.val := by decide
  exact this ⟨d, h⟩
theorem hexD_inj (c d : Nat) (hc : c < 16) (hd : d < 16) (h : Sha.hexD c = Sha.hexD d) : c = d := by
  have : ∀ c d : Fin 16, Sha.hexD c.val = Sha.hexD d.val → c = d := by decide
  exact congrArg Fin.val (this ⟨c, hc⟩ ⟨d, hd⟩ h)
theorem hexL_inj : ∀ a b : List UInt8, Sha.hexL a = Sha.hexL b → a = b
  | [], [], _ => rfl
  | [], y :: b, h => by simp [Sha.hexL] at h
  | x :: a, [], h => by simp [Sha.hexL] at h
  | x :: a, y :: b, h => by
    have hx := x.toNat_lt
    have hy := y.toNat_lt
    have h' : Sha.hexD (x.toNat / 16) = Sha.hexD (y.toNat / 16) ∧ Sha.hexD (x.toNat % 16) = Sha.hexD (y.toNat % 16) ∧ Sha.hexL a = Sha.hexL b := by
      simpa [Sha.hexL] using h
    have e1 := hexD_inj _ _ (by omega) (by omega) h'.1
    have e2 := hexD_inj _ _ (by omega) (by omega) h'.2.1
    rw [hexL_inj a b h'.2.2, UInt8.toNat_inj.1 (show x.toNat = y.toNat by omega)]
/-- Digit i of a hash. -/
theorem hexL_at (a : List UInt8) : ∀ i, i < 2 * a.length → (Sha.hexL a)[i]? = some (Sha.hexD (if i % 2 = 1 then (a.getD (i / 2) 0).toNat % 16 else (a.getD (i / 2) 0).toNat / 16)) := by
  induction a with
  | nil => intro i h; simp at h
  | cons x a ih =>
    intro i h
    have e : Sha.hexL (x :: a) = Sha.hexD (x.toNat / 16) :: Sha.hexD (x.toNat % 16) :: Sha.hexL a := by simp [Sha.hexL]
    rw [e]
    match i, h with
    | 0, _ => rfl
    | 1, _ => rfl
    | i + 2, h =>
      rw [List.getElem?_cons_succ, List.getElem?_cons_succ, ih i (by simp only [List.length_cons] at h; omega), show (i + 2) % 2 = i % 2 by omega, show (i + 2) / 2 = i / 2 + 1 by omega, List.getD_cons_succ]

/-- Hex and Bytes, as the walk meets them. -/
theorem hex_e (a : List UInt8) (ha : a.length = 32) (S : ByteArray) (hS : S = ⟨(Sha.hexL a).toArray⟩) (w : World) : Calls Tryd.prog 20 #[.agg (a.map u8V).toArray] w fun e w' => e = .returned (.string S) ∧ Below w.heap.size w w' := by
  subst hS; exact hex_any a w ha
theorem bytes_e (a : List UInt8) (ha : a.length = 32) (S : ByteArray) (hS : S = ⟨a.toArray⟩) (w : World) : Calls Tryd.prog 22 #[.agg (a.map u8V).toArray] w fun e w' => e = .returned (.string S) ∧ Below w.heap.size w w' := by
  subst hS; exact bytes_any a w ha
theorem range_old {w w' : World} {p : Nat} {cs : List Value} {B : Nat} (h : w.rangeAt p 0 cs) (hb : Below B w w') (hp : p < B) : w'.rangeAt p 0 cs := fun j v hv => (hb.cell (p := ⟨p, 0 + j, none⟩) hp).trans (h j v hv)

set_option maxHeartbeats 4000000 in
set_option maxRecDepth 100000 in
theorem walk {w : World} (hK : KT w) (a : List UInt8) (ha : a.length = 32) (b : List UInt8) (hb : b.length = 32) :
    Calls Tryd.prog 5 #[sumV a, sumV b] w fun e w' => e = .returned (.bool true) ∧ Below w.heap.size w w' := by
  obtain ⟨SA, hSA⟩ : ∃ S : ByteArray, S = ⟨(Sha.hexL a).toArray⟩ := ⟨_, rfl⟩
  obtain ⟨SB, hSB⟩ : ∃ S : ByteArray, S = ⟨(Sha.hexL b).toArray⟩ := ⟨_, rfl⟩
  have sza : SA.size = 64 := by rw [hSA]; show (Sha.hexL a).toArray.size = 64; rw [List.size_toArray, hex_length, ha]
  have szb : SB.size = 64 := by rw [hSB]; show (Sha.hexL b).toArray.size = 64; rw [List.size_toArray, hex_length, hb]
  have HSA := Lib.hid hSA
  have HSB := Lib.hid hSB
  have Ha := Lib.hid ha
  have Hb := Lib.hid hb
  clear hSA hSB ha hb
  unfold sumV
  go_enter Tryd.func5, Tryd.ntmps5
  go_upto_region 1 with (fail)
  obtain ⟨w1, hw1⟩ : ∃ w1, w1 = (w.alloc (.cells (a.map u8V).toArray 30)).alloc (.cells (b.map u8V).toArray 30) := ⟨_, rfl⟩
  have b1 : Below w.heap.size w w1 := by rw [hw1]; exact ((Below.refl _ _).alloc (Nat.le_refl _) _).alloc (by simp) _
  have h1a : w1.heap[w.heap.size]? = some (.cells (a.map u8V).toArray 30 (0, 0)) := by rw [hw1]; exact (Below.heap_alloc _ _ _ (by simp)).trans (heap_alloc_last w _)
  have h1b : w1.heap[w.heap.size + 1]? = some (.cells (b.map u8V).toArray 30 (0, 0)) := by
    rw [hw1]
    have := heap_alloc_last (w.alloc (.cells (a.map u8V).toArray 30)) (.cells (b.map u8V).toArray 30)
    simp only [World.size_alloc] at this
    exact this
  have s1 : w1.heap.size = w.heap.size + 2 := by rw [hw1]; simp
  rw [← hw1]
  have hK1 := hK.old b1
  have ra : ∀ W : World, Below w1.heap.size w1 W → W.rangeAt w.heap.size 0 (a.map u8V) := fun W hW j x hx => by
    rw [Nat.zero_add, hW.cell (p := ⟨w.heap.size, j, none⟩) (by show w.heap.size < w1.heap.size; omega), cell_of h1a]; simpa using hx
  have rb : ∀ W : World, Below w1.heap.size w1 W → W.rangeAt (w.heap.size + 1) 0 (b.map u8V) := fun W hW j x hx => by
    rw [Nat.zero_add, hW.cell (p := ⟨w.heap.size + 1, j, none⟩) (by show w.heap.size + 1 < w1.heap.size; omega), cell_of h1b]; simpa using hx
  have RA := Lib.hid ra
  have RB := Lib.hid rb
  have H1A := Lib.hid h1a
  have S1 := Lib.hid s1
  clear hw1 h1a h1b s1 ra rb
  go_upto_region 4 with (first
    | (go_at_call 12; refine (awake_any _ hK1).mono ?_; rintro e w2 ⟨rfl, c2⟩)
    | (go_at_call 20; ((with_reducible refine (hex_e a Ha.out SA HSA.out w2).mono ?_); rintro e w3 ⟨rfl, b3⟩; have c3 := below_step c2 (Nat.le_refl _) b3))
    | (go_at_call 20; ((with_reducible refine (hex_e b Hb.out SB HSB.out w3).mono ?_); rintro e w4 ⟨rfl, b4⟩; have c4 := below_step c3 (Nat.le_refl _) b4))
    | refine wpList_load_mid rfl 30 (.tmp 2) rfl w.heap.size 0 rfl (a.map u8V) _ (RA.out w2 c2) Tryd.underlying30 rfl (sum_info' Ha.out) ?_
    | refine wpList_load_mid rfl 30 (.tmp 3) rfl (w.heap.size + 1) 0 rfl (b.map u8V) _ (RB.out w3 c3) Tryd.underlying30 rfl (sum_info' Hb.out) ?_)
  go_wp2
  go_loop [8] (fun i => ∃ k : Nat, k ≤ 64 ∧ i = .int .i64 k) (fun i => 64 - (intOf i).toNat)
  case atStart => exact ⟨0, by omega, rfl⟩
  case round =>
    obtain ⟨k, hk, rfl⟩ := hrel
    by_cases hlt : k < 64
    · obtain ⟨q, hq⟩ : ∃ q, q = k / 2 := ⟨_, rfl⟩
      have e2 : (k : Int) / 2 = (q : Int) := by omega
      have bq : q < 32 := by omega
      have cx : w4.cell? ⟨w.heap.size, q, none⟩ = some (.int .u8 ((a.getD q 0).toNat : Int)) := by
        rw [c4.cell (p := ⟨w.heap.size, q, none⟩) (by show w.heap.size < w1.heap.size; rw [S1.out]; omega)]
        exact cell_u8D H1A.out q (by rw [Ha.out]; exact bq)
      have hc : SA[k]'(by omega) = Sha.hexD (if k % 2 = 1 then (a.getD q 0).toNat % 16 else (a.getD q 0).toNat / 16) := by
        have e := hexL_at a k (by rw [Ha.out]; exact hlt)
        rw [← hq] at e
        have h2 := HSA.out
        subst h2
        have := (List.getElem?_eq_some_iff.1 e).2
        exact this
      generalize a.getD q 0 = x at *
      have hx := x.toNat_lt
      have hki : (k : Int) < SA.size := by omega
      have hkn : k < SA.size := by omega
      obtain ⟨hi, hhi⟩ : ∃ n, n = x.toNat / 16 := ⟨_, rfl⟩
      obtain ⟨lo, hlo⟩ : ∃ n, n = x.toNat % 16 := ⟨_, rfl⟩
      have e16 : (x.toNat : Int) / 16 = (hi : Int) := by omega
      have e16r : (x.toNat : Int) % 16 = (lo : Int) := by omega
      have bhi : hi < 16 := by omega
      have blo : lo < 16 := by omega
      rw [← hhi, ← hlo] at hc
      have Hq := Lib.hid hq
      have Hhi := Lib.hid hhi
      have Hlo := Lib.hid hlo
      clear hq hhi hlo
      by_cases hp : k % 2 = 1
      · rw [if_pos hp] at hc
        have ep : (k : Int) % 2 = 1 := by omega
        have hv := hexD_val lo blo
        rw [← hc] at hv
        have HCC := Lib.hid hc
        clear hc
        by_cases h10 : lo < 10
        · rw [if_pos h10] at hv
          go_wp2
          exact ⟨⟨k + 1, by omega, by go_num⟩, by simp [intOf]; omega⟩
        · rw [if_neg h10] at hv
          obtain ⟨m, rfl⟩ : ∃ m, lo = m + 10 := ⟨lo - 10, by omega⟩
          have hv' : (SA[k]'hkn).toNat = 97 + m := by omega
          have e16r' : (x.toNat : Int) % 16 = (m : Int) + 10 := by omega
          have bm : m < 6 := by omega
          clear hv e16r h10
          go_wp2
          exact ⟨⟨k + 1, by omega, by go_num⟩, by simp [intOf]; omega⟩
      · rw [if_neg hp] at hc
        have ep : (k : Int) % 2 = 0 := by omega
        have hv := hexD_val hi bhi
        rw [← hc] at hv
        have HCC := Lib.hid hc
        clear hc
        by_cases h10 : hi < 10
        · rw [if_pos h10] at hv
          go_wp2
          exact ⟨⟨k + 1, by omega, by go_num⟩, by simp [intOf]; omega⟩
        · rw [if_neg h10] at hv
          obtain ⟨m, rfl⟩ : ∃ m, hi = m + 10 := ⟨hi - 10, by omega⟩
          have hv' : (SA[k]'hkn).toNat = 97 + m := by omega
          have e16' : (x.toNat : Int) / 16 = (m : Int) + 10 := by omega
          have bm : m < 6 := by omega
          clear hv e16 h10
          go_wp2
          exact ⟨⟨k + 1, by omega, by go_num⟩, by simp [intOf]; omega⟩
    · obtain ⟨BA, hBA⟩ : ∃ S : ByteArray, S = ⟨a.toArray⟩ := ⟨_, rfl⟩
      obtain ⟨BB, hBB⟩ : ∃ S : ByteArray, S = ⟨b.toArray⟩ := ⟨_, rfl⟩
      have HBA := Lib.hid hBA
      have HBB := Lib.hid hBB
      have hsab : Hid (SA = SB ↔ a = b) := Lib.hid ⟨fun e => hexL_inj a b (by
        have h2 := congrArg (fun s : ByteArray => s.data.toList) (HSA.out.symm.trans (e.trans HSB.out))
        simpa using h2), fun e => by rw [HSA.out, HSB.out, e]⟩
      have hbab : Hid (BA = BB ↔ a = b) := Lib.hid ⟨fun e => by
        have h2 := congrArg (fun s : ByteArray => s.data.toList) (hBA.symm.trans (e.trans hBB))
        simpa using h2, fun e => by rw [hBA, hBB, e]⟩
      clear hBA hBB
      go_upto_region 21 with (fail)
      try simp only [Act.put]
      refine wp_region_tab [RT.is (.bool true), RT.is (.bool true), RT.is (.string SA), RT.is (.string SB), RT.is (.bool (decide (SA = SB))), RT.is (sumV a), RT.is (sumV b), RT.is (.bool (decide (a = b))), RT.is (.bool true), RT.is (.bool true), RT.is (.bool true), RT.is (sumV a), RT.is (.string BA), RT.is (sumV b), RT.is (.string BB), RT.is (.bool (decide (BA = BB))), RT.is (sumV a), RT.is (sumV b), RT.is (.bool (decide (a = b))), RT.is (.bool true), RT.is (.bool true), RT.is (.bool true)] (by kernel_rfl) (by kernel_rfl) (by kernel_rfl) (by kernel_rfl) ⟨?_, ?_, ?_, ?_, ?_, ?_, ?_, ?_, ?_, ?_, ?_, ?_, ?_, ?_, ?_, ?_, ?_, ?_, ?_, ?_, ?_, ?_, trivial⟩ ?_
      · intro ac w' hF hL hP hU K hK
        have hB := below_undrew hL
        have e5 : ac.eval (.tmp 5) = .bool true := hF.at 5 (by kernel_rfl)
        exact rop_move _ rfl e5 (wanted_none rfl) (hK _ _ (le8_refl _) rfl)
      · intro ac w' hF hL hP hU K hK
        have hB := below_undrew hL
        have e69 : ac.eval (.tmp 69) = .bool true := hP 0 (by kernel_rfl)
        exact rop_move _ rfl e69 (wanted_none rfl) (hK _ _ (le8_refl _) rfl)
      · intro ac w' hF hL hP hU K hK
        have hB := below_undrew hL
        have e6 : ac.eval (.tmp 6) = .string SA := hF.at 6 (by kernel_rfl)
        have e70 : ac.eval (.tmp 70) = .bool true := hP 1 (by kernel_rfl)
        exact rop_move _ rfl e6 (wanted_of (j := 1) (b := true) rfl rfl e70) (hK _ _ (le8_refl _) rfl)
      · intro ac w' hF hL hP hU K hK
        have hB := below_undrew hL
        have e7 : ac.eval (.tmp 7) = .string SB := hF.at 7 (by kernel_rfl)
        have e70 : ac.eval (.tmp 70) = .bool true := hP 1 (by kernel_rfl)
        exact rop_move _ rfl e7 (wanted_of (j := 1) (b := true) rfl rfl e70) (hK _ _ (le8_refl _) rfl)
      · intro ac w' hF hL hP hU K hK
        have hB := below_undrew hL
        have e71 : ac.eval (.tmp 71) = .string SA := hP 2 (by kernel_rfl)
        have e72 : ac.eval (.tmp 72) = .string SB := hP 3 (by kernel_rfl)
        have e70 : ac.eval (.tmp 70) = .bool true := hP 1 (by kernel_rfl)
        exact rop_bin _ _ _ _ _ rfl e71 e72 (guard_str _ _ _ _ _ _ w') (eql_str SA SB w') (wanted_of (j := 1) (b := true) rfl rfl e70) (hK _ _ (le8_refl _) rfl)
      · intro ac w' hF hL hP hU K hK
        have hB := below_undrew hL
        have e2 : ac.eval (.tmp 2) = .pointer (some ⟨w.heap.size, 0, none⟩) := hF.at 2 (by kernel_rfl)
        have e70 : ac.eval (.tmp 70) = .bool true := hP 1 (by kernel_rfl)
        exact rop_load _ _ rfl w.heap.size 0 e2 (a.map u8V) _ (RA.out w' (below_step c4 (Nat.le_refl _) hB)) Tryd.underlying30 rfl (sum_info' Ha.out) (wanted_of (j := 1) (b := true) rfl rfl e70) (hK _ _ (le8_refl _) rfl)
      · intro ac w' hF hL hP hU K hK
        have hB := below_undrew hL
        have e3 : ac.eval (.tmp 3) = .pointer (some ⟨w.heap.size + 1, 0, none⟩) := hF.at 3 (by kernel_rfl)
        have e70 : ac.eval (.tmp 70) = .bool true := hP 1 (by kernel_rfl)
        exact rop_load _ _ rfl (w.heap.size + 1) 0 e3 (b.map u8V) _ (RB.out w' (below_step c4 (Nat.le_refl _) hB)) Tryd.underlying30 rfl (sum_info' Hb.out) (wanted_of (j := 1) (b := true) rfl rfl e70) (hK _ _ (le8_refl _) rfl)
      · intro ac w' hF hL hP hU K hK
        have hB := below_undrew hL
        have e74 : ac.eval (.tmp 74) = sumV a := hP 5 (by kernel_rfl)
        have e75 : ac.eval (.tmp 75) = sumV b := hP 6 (by kernel_rfl)
        have e70 : ac.eval (.tmp 70) = .bool true := hP 1 (by kernel_rfl)
        exact rop_bin _ _ _ _ _ rfl e74 e75 (guard_run .eql _ _ a b w') (eql_sum a b Ha.out Hb.out w') (wanted_of (j := 1) (b := true) rfl rfl e70) (hK _ _ (le8_refl _) rfl)
      · intro ac w' hF hL hP hU K hK
        have hB := below_undrew hL
        have e73 : ac.eval (.tmp 73) = .bool (decide (SA = SB)) := hP 4 (by kernel_rfl)
        have e76 : ac.eval (.tmp 76) = .bool (decide (a = b)) := hP 7 (by kernel_rfl)
        have e70 : ac.eval (.tmp 70) = .bool true := hP 1 (by kernel_rfl)
        exact rop_bin _ _ _ _ _ rfl e73 e76 (guard_bool _ _ _ _ _ _ w') (eql_bool_t _ _ (decide_eq_decide.2 hsab.out) w') (wanted_of (j := 1) (b := true) rfl rfl e70) (hK _ _ (le8_refl _) rfl)
      · intro ac w' hF hL hP hU K hK
        have hB := below_undrew hL
        have e70 : ac.eval (.tmp 70) = .bool true := hP 1 (by kernel_rfl)
        have e77 : ac.eval (.tmp 77) = .bool true := hP 8 (by kernel_rfl)
        exact rop_pick _ _ _ rfl true e70 (by simpa using e77) (wanted_none rfl) (hK _ _ (le8_refl _) rfl)
      · intro ac w' hF hL hP hU K hK
        have hB := below_undrew hL
        have e78 : ac.eval (.tmp 78) = .bool true := hP 9 (by kernel_rfl)
        exact rop_move _ rfl e78 (wanted_none rfl) (hK _ _ (le8_refl _) rfl)
      · intro ac w' hF hL hP hU K hK
        have hB := below_undrew hL
        have e2 : ac.eval (.tmp 2) = .pointer (some ⟨w.heap.size, 0, none⟩) := hF.at 2 (by kernel_rfl)
        have e79 : ac.eval (.tmp 79) = .bool true := hP 10 (by kernel_rfl)
        exact rop_load _ _ rfl w.heap.size 0 e2 (a.map u8V) _ (RA.out w' (below_step c4 (Nat.le_refl _) hB)) Tryd.underlying30 rfl (sum_info' Ha.out) (wanted_of (j := 10) (b := true) rfl rfl e79) (hK _ _ (le8_refl _) rfl)
      · intro ac w' hF hL hP hU K hK
        have hB := below_undrew hL
        have e80 : ac.eval (.tmp 80) = sumV a := hP 11 (by kernel_rfl)
        have e79 : ac.eval (.tmp 79) = .bool true := hP 10 (by kernel_rfl)
        refine rop_call 22 _ _ rfl #[sumV a] (by simp [e80]) (by kernel_rfl) (wanted_of (j := 10) (b := true) rfl rfl e79) ?_
        refine (bytes_e a Ha.out BA HBA.out w').mono ?_
        rintro e w2 ⟨rfl, hb⟩
        exact ⟨_, rfl, hK _ _ hb rfl⟩
      · intro ac w' hF hL hP hU K hK
        have hB := below_undrew hL
        have e3 : ac.eval (.tmp 3) = .pointer (some ⟨w.heap.size + 1, 0, none⟩) := hF.at 3 (by kernel_rfl)
        have e79 : ac.eval (.tmp 79) = .bool true := hP 10 (by kernel_rfl)
        exact rop_load _ _ rfl (w.heap.size + 1) 0 e3 (b.map u8V) _ (RB.out w' (below_step c4 (Nat.le_refl _) hB)) Tryd.underlying30 rfl (sum_info' Hb.out) (wanted_of (j := 10) (b := true) rfl rfl e79) (hK _ _ (le8_refl _) rfl)
      · intro ac w' hF hL hP hU K hK
        have hB := below_undrew hL
        have e82 : ac.eval (.tmp 82) = sumV b := hP 13 (by kernel_rfl)
        have e79 : ac.eval (.tmp 79) = .bool true := hP 10 (by kernel_rfl)
        refine rop_call 22 _ _ rfl #[sumV b] (by simp [e82]) (by kernel_rfl) (wanted_of (j := 10) (b := true) rfl rfl e79) ?_
        refine (bytes_e b Hb.out BB HBB.out w').mono ?_
        rintro e w2 ⟨rfl, hb⟩
        exact ⟨_, rfl, hK _ _ hb rfl⟩
      · intro ac w' hF hL hP hU K hK
        have hB := below_undrew hL
        have e81 : ac.eval (.tmp 81) = .string BA := hP 12 (by kernel_rfl)
        have e83 : ac.eval (.tmp 83) = .string BB := hP 14 (by kernel_rfl)
        have e79 : ac.eval (.tmp 79) = .bool true := hP 10 (by kernel_rfl)
        exact rop_bin _ _ _ _ _ rfl e81 e83 (guard_str _ _ _ _ _ _ w') (eql_str BA BB w') (wanted_of (j := 10) (b := true) rfl rfl e79) (hK _ _ (le8_refl _) rfl)
      · intro ac w' hF hL hP hU K hK
        have hB := below_undrew hL
        have e2 : ac.eval (.tmp 2) = .pointer (some ⟨w.heap.size, 0, none⟩) := hF.at 2 (by kernel_rfl)
        have e79 : ac.eval (.tmp 79) = .bool true := hP 10 (by kernel_rfl)
        exact rop_load _ _ rfl w.heap.size 0 e2 (a.map u8V) _ (RA.out w' (below_step c4 (Nat.le_refl _) hB)) Tryd.underlying30 rfl (sum_info' Ha.out) (wanted_of (j := 10) (b := true) rfl rfl e79) (hK _ _ (le8_refl _) rfl)
      · intro ac w' hF hL hP hU K hK
        have hB := below_undrew hL
        have e3 : ac.eval (.tmp 3) = .pointer (some ⟨w.heap.size + 1, 0, none⟩) := hF.at 3 (by kernel_rfl)
        have e79 : ac.eval (.tmp 79) = .bool true := hP 10 (by kernel_rfl)
        exact rop_load _ _ rfl (w.heap.size + 1) 0 e3 (b.map u8V) _ (RB.out w' (below_step c4 (Nat.le_refl _) hB)) Tryd.underlying30 rfl (sum_info' Hb.out) (wanted_of (j := 10) (b := true) rfl rfl e79) (hK _ _ (le8_refl _) rfl)
      · intro ac w' hF hL hP hU K hK
        have hB := below_undrew hL
        have e85 : ac.eval (.tmp 85) = sumV a := hP 16 (by kernel_rfl)
        have e86 : ac.eval (.tmp 86) = sumV b := hP 17 (by kernel_rfl)
        have e79 : ac.eval (.tmp 79) = .bool true := hP 10 (by kernel_rfl)
        exact rop_bin _ _ _ _ _ rfl e85 e86 (guard_run .eql _ _ a b w') (eql_sum a b Ha.out Hb.out w') (wanted_of (j := 10) (b := true) rfl rfl e79) (hK _ _ (le8_refl _) rfl)
      · intro ac w' hF hL hP hU K hK
        have hB := below_undrew hL
        have e84 : ac.eval (.tmp 84) = .bool (decide (BA = BB)) := hP 15 (by kernel_rfl)
        have e87 : ac.eval (.tmp 87) = .bool (decide (a = b)) := hP 18 (by kernel_rfl)
        have e79 : ac.eval (.tmp 79) = .bool true := hP 10 (by kernel_rfl)
        exact rop_bin _ _ _ _ _ rfl e84 e87 (guard_bool _ _ _ _ _ _ w') (eql_bool_t _ _ (decide_eq_decide.2 hbab.out) w') (wanted_of (j := 10) (b := true) rfl rfl e79) (hK _ _ (le8_refl _) rfl)
      · intro ac w' hF hL hP hU K hK
        have hB := below_undrew hL
        have e79 : ac.eval (.tmp 79) = .bool true := hP 10 (by kernel_rfl)
        have e88 : ac.eval (.tmp 88) = .bool true := hP 19 (by kernel_rfl)
        exact rop_pick _ _ _ rfl true e79 (by simpa using e88) (wanted_none rfl) (hK _ _ (le8_refl _) rfl)
      · intro ac w' hF hL hP hU K hK
        have hB := below_undrew hL
        have e89 : ac.eval (.tmp 89) = .bool true := hP 20 (by kernel_rfl)
        exact rop_assign _ rfl e89 (wanted_none rfl) (hK _ _ (le8_refl _) rfl)
      · intro ac w' hF hB hT
        have e4 : ac.eval (.tmp 4) = .bool true := hT 21 (by decide)
        rw [hF.lit 90 rfl]
        simp only [List.range, List.range.loop, List.map_cons, List.map_nil, e4]
        go_wp2
        go_ret
        exact ⟨rfl, below_step b1 (Nat.le_refl _) (below_step c4 (Nat.le_refl _) hB)⟩

set_option maxRecDepth 100000 in
theorem lifted (os : Os) (started : os.Started) (H : Type) (enc : TypeId × Value → H) :
    ReturnsInHanded {} Tryd.checked os 5 .any (fun w args => (Rows.shaHexSpec.pre enc Tryd.prog Tryd.f5 [] false w args ∧ laidMetH Tryd.prog [("scrinium/sha.k", Rows.laid_scrinium_sha_k)] w) ∧ sizedMet enc Tryd.prog Tryd.f5 (OpenSpec.ofChange Rows.shaHexSpec) false w args)
      (Rows.shaHexSpec.post enc Tryd.prog Tryd.f5 false true false false) := by
  refine returnsInHanded_of_change_and (C := Tryd.checked) (X := fun w _ => laidMetH Tryd.prog [("scrinium/sha.k", Rows.laid_scrinium_sha_k)] w) (fun _ _ _ hh h => h.of_heap hh) lawOwn started (by kernel_rfl) Tryd.func5
    (ChangeSpec.witness_shaped (enc := enc) (C := Tryd.checked) (os := os) (X := fun w _ => laidMetH Tryd.prog [("scrinium/sha.k", Rows.laid_scrinium_sha_k)] w) false (World.doorLaid Tryd.prog 400 os) #[sumV (List.replicate 32 0), sumV (List.replicate 32 0)] 8 rfl (World.shaped_of_RefB (by kernel_rfl) (by kernel_rfl)) (by kernel_rfl) (by kernel_rfl) (by kernel_rfl) (door_met os _)) ?_
  intro W base args ds gs before hval0 hW _ _ hL _
  have hval : ∀ (j : Nat) t v, Tryd.f5.params[j]? = some t → args[j]? = some v → Value.okWide Tryd.prog W .any base t v := hval0
  have hW' := hW
  obtain ⟨p, q, hA0, hV, rfl, hfz, hnd⟩ := hW
  have hA : DataW.TrodAll enc Tryd.prog W 0 (fun _ => true) true Tryd.f5.params.toList args.toList ds p := hA0
  rw [Tryd.params5] at hA hval
  obtain ⟨v0, vs0, d0, ds0, p0, q0, hargs, rfl, rfl, h0, r0⟩ := trodAll_cons hA
  obtain ⟨v1, vs1, d1, ds1, p1, q1, rfl, rfl, rfl, h1, r1⟩ := trodAll_cons r0
  obtain ⟨rfl, rfl, rfl⟩ := trodAll_nil r1
  obtain rfl : args = #[v0, v1] := by cases args; simp_all
  obtain ⟨rfl, rfl⟩ := trodVars_none hV
  have hKT := KT_of_laid hL
  obtain ⟨x0, rfl, w0⟩ := open_sum (hval 0 30 v0 rfl rfl) h0
  obtain ⟨x1, rfl, w1⟩ := open_sum (hval 1 30 v1 rfl rfl) h1
  clear hA0 hval0
  refine (walk (w := W) hKT x0 w0 x1 w1).mono fun e W' ⟨he, bel⟩ => ?_
  subst he
  exact ⟨_, rfl, law_post rfl rfl (by kernel_rfl) hW' rfl bel⟩

theorem row_holds : Rows.ShaHexSaid :=
  OpenClaim.holds_of_wide 5 Tryd.f5 rfl rfl rfl rfl rfl rfl rfl ⟨rfl, rfl, rfl, rfl, rfl⟩ rfl rfl rfl rfl rfl (by kernel_rfl) Tryd.func5 (by kernel_rfl)
    (of_decide_eq_true (by kernel_rfl)) (by unfold Func.isWrapper; first | (rw [if_pos (by decide +kernel)]; kernel_rfl) | (rw [if_neg (by decide +kernel)]; exact ⟨rfl, rfl⟩))
    (fun os started H enc _ => lifted os started H enc)

theorem holds : Rows.ShaHexCardSaid :=
  Claim7.holds_tied_plain_at .later [] [.data] true Rows.shaHexCard.stood.harness false
    row_holds (fun _ h => by cases h) (by kernel_rfl) (fun _ h => by cases h) shaHex_row_tie rfl ⟨rfl, rfl⟩ (by kernel_rfl) rfl
    (fun f fn hf hfn => by
      obtain rfl : f = 5 := Option.some.inj ((show Tryd.prog.funcNamed "scrinium/scriniumlaw02.ShaHex" = some 5 by kernel_rfl).symm.trans hf) |>.symm
      obtain rfl : fn = Tryd.f5 := (Option.some.inj (Tryd.func5.symm.trans hfn)).symm
      exact ⟨by kernel_rfl, fun j t ht => by
        rw [Tryd.params5] at ht
        have hm : t ∈ [30, 30] := by simpa using Array.mem_of_getElem? ht
        have hall : ([30, 30].all fun u => !Tryd.prog.wantsStandIn u) = true := by kernel_rfl
        exact (show Tryd.prog.wantsStandIn t = false by simpa using List.all_eq_true.1 hall t hm)⟩)
    (by kernel_rfl)
end Go.Proofs.YtcecncbhfcoilaaDoor.shaHex

theorem Go.Proofs.YtcecncbhfcoilaaDoor.shaHex_holds : Go.Proofs.YtcecncbhfcoilaaDoor.Rows.ShaHexCardSaid := Go.Proofs.YtcecncbhfcoilaaDoor.shaHex.holds
#print axioms Go.Proofs.YtcecncbhfcoilaaDoor.shaHex_holds
