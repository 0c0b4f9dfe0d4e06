/-
  Package path: hasPath, hasLinks, Long, LinksLong; the document's LinksLong.
-/
import Derived.Test.YtagocdcclghdaaaDoorPathPure
import Derived.Test.YtagocdcclghdaaaDoorLeafSplit
import Derived.Deep.DeepCutAuto
namespace Go.Proofs.YtagocdcclghdaaaDoor
open Go.RowKit

/-- Is there a path of m in n leaves whose length is reckoned? -/
def okP (m n : Int) : Bool := decide (0 ≤ m) && (decide (m < n) && decide (n ≤ 1099511627776))
/-- Are there links from m leaves on to n whose length is reckoned? -/
def okL (m n : Int) : Bool := decide (1 ≤ m) && (decide (m ≤ n) && decide (n ≤ 1099511627776))
theorem okP_t {m n : Int} (h : okP m n = true) : 0 ≤ m ∧ m < n ∧ n ≤ 1099511627776 := by simpa [okP] using h
theorem okL_t {m n : Int} (h : okL m n = true) : 1 ≤ m ∧ m ≤ n ∧ n ≤ 1099511627776 := by simpa [okL] using h
theorem okP_f {m n : Int} (h : okP m n = false) : m < 0 ∨ (0 ≤ m ∧ n ≤ m) ∨ (0 ≤ m ∧ m < n ∧ 1099511627776 < n) := by
  simp [okP] at h
  omega
theorem okL_f {m n : Int} (h : okL m n = false) : m < 1 ∨ (1 ≤ m ∧ n < m) ∨ (1 ≤ m ∧ m ≤ n ∧ 1099511627776 < n) := by
  simp [okL] at h
  omega
set_option maxRecDepth 100000 in
theorem hasPath_any (m n : Int) (w : World) :
    Calls Tryd.prog 32 #[.int .i64 m, .int .i64 n] w fun e w' => e = .returned (.bool (okP m n)) ∧ w = w' := by
  obtain ⟨b, hb⟩ : ∃ b, b = okP m n := ⟨_, rfl⟩
  rw [← hb]
  cases b with
  | true =>
    obtain ⟨h0, h1, h2⟩ := okP_t hb.symm
    clear hb
    go_enter Tryd.func32, Tryd.ntmps32
    go_wp2
    go_ret
    exact ⟨rfl, rfl⟩
  | false =>
    rcases okP_f hb.symm with h | ⟨h, h1⟩ | ⟨h, h1, h2⟩ <;>
    · try have h2' : ¬ n ≤ 1099511627776 := by omega
      clear hb
      go_enter Tryd.func32, Tryd.ntmps32
      go_wp2
      go_ret
      exact ⟨rfl, rfl⟩
set_option maxRecDepth 100000 in
theorem hasLinks_any (m n : Int) (w : World) :
    Calls Tryd.prog 35 #[.int .i64 m, .int .i64 n] w fun e w' => e = .returned (.bool (okL m n)) ∧ w = w' := by
  obtain ⟨b, hb⟩ : ∃ b, b = okL m n := ⟨_, rfl⟩
  rw [← hb]
  cases b with
  | true =>
    obtain ⟨h0, h1, h2⟩ := okL_t hb.symm
    clear hb
    go_enter Tryd.func35, Tryd.ntmps35
    go_wp2
    go_ret
    exact ⟨rfl, rfl⟩
  | false =>
    rcases okL_f hb.symm with h | ⟨h, h1⟩ | ⟨h, h1, h2⟩ <;>
    · try have h2' : ¬ n ≤ 1099511627776 := by omega
      clear hb
      go_enter Tryd.func35, Tryd.ntmps35
      go_wp2
      go_ret
      exact ⟨rfl, rfl⟩

/-- Ahead of a part. -/
def LongRel (M N : Nat) (s0 s1 s5 : Value) : Prop :=
  ∃ m n c : Nat, s0 = .int .i64 (m : Int) ∧ s1 = .int .i64 (n : Int) ∧ s5 = .int .i64 (c : Int) ∧ m < n ∧ n ≤ 1099511627776 ∧ c + Tree.long m n = Tree.long M N
theorem long_40 (m n : Nat) (h : n ≤ 1099511627776) : Tree.long m n ≤ 40 := Tree.long_le 40 m n (Nat.le_trans h (by decide))
set_option maxHeartbeats 1000000 in
set_option maxRecDepth 100000 in
theorem long_any (m n : Int) (w : World) (_ : m ≤ 9223372036854775807) (_ : n ≤ 9223372036854775807) :
    Calls Tryd.prog 18 #[.int .i64 m, .int .i64 n] w fun e w' => e = .returned (.int .i64 (if okP m n then ((Tree.long m.toNat n.toNat : Nat) : Int) else -1)) ∧ w = w' := by
  have hhp := fun u => hasPath_any m n u
  obtain ⟨b, hb⟩ : ∃ b, b = okP m n := ⟨_, rfl⟩
  rw [← hb] at hhp ⊢
  have HP := Lib.hid hhp
  clear hhp
  cases b with
  | false =>
    clear hb
    go_enter Tryd.func18, Tryd.ntmps18
    go_wp2
    go_step3
    go_wp2_with (go_at_call 32; ((with_reducible refine (HP.out _).mono ?_); rintro e w1 ⟨rfl, rfl⟩))
    try rw [Exit.noGoto_ret]
    go_ret
    exact ⟨rfl, rfl⟩
  | true =>
    obtain ⟨h0, h1, h2⟩ := okP_t hb.symm
    obtain ⟨M, rfl⟩ := Int.eq_ofNat_of_zero_le h0
    obtain ⟨N, rfl⟩ := Int.eq_ofNat_of_zero_le (show 0 ≤ n by omega)
    clear hb h0
    have h40 := long_40 M N (by omega)
    go_enter Tryd.func18, Tryd.ntmps18
    go_wp2
    go_step3
    go_wp2_with (go_at_call 32; ((with_reducible refine (HP.out _).mono ?_); rintro e w1 ⟨rfl, rfl⟩))
    go_step3
    go_wp2
    go_loop [0, 1, 5] (LongRel M N) (fun _ s1 _ => (intOf s1).toNat)
    case atStart => exact ⟨M, N, 0, rfl, rfl, rfl, by omega, by omega, by omega⟩
    case round =>
      obtain ⟨m, n, c, rfl, rfl, rfl, hmn, hn, hc⟩ := hrel
      obtain ⟨k, hk⟩ : ∃ k, k = Tree.split n := ⟨_, rfl⟩
      have HSP : Hid (∀ u : World, Calls Tryd.prog 33 #[.int .i64 (n : Int)] u fun e w' => e = .returned (.int .i64 (k : Int)) ∧ u = w') := Lib.hid fun u => by
        have := leafSplit_any (n : Int) (by omega) u
        rwa [Int.toNat_natCast, ← hk] at this
      by_cases h1' : n = 1
      · have hl : c = Tree.long M N := by rw [Tree.long_small (by omega)] at hc; omega
        have HL := Lib.hid hl
        have HS1 : Hid (∀ u : World, Calls Tryd.prog 33 #[.int .i64 1] u fun e w' => e = .returned (.int .i64 0) ∧ u = w') := Lib.hid fun u => leafSplit_any 1 (by omega) u
        obtain rfl : n = 1 := h1'
        clear hk hc hl h40 HSP
        simp only [Int.natCast_one]
        go_wp2_with (go_at_call 33; ((with_reducible refine (HS1.out _).mono ?_); rintro e w1 ⟨rfl, rfl⟩))
        try rw [Exit.noGoto_ret]
        go_ret
        exact ⟨by rw [HL.out]; simp, rfl⟩
      · have h2' : ¬ (n : Int) = 1 := by omega
        have hlt := Tree.split_lt (n := n) (by omega)
        have hp := Tree.split_pos (n := n) (by omega)
        rw [← hk] at hlt hp
        by_cases hmk : m < k
        · have hmk' : (m : Int) < (k : Int) := by omega
          have hc2 : c + 1 + Tree.long m k = Tree.long M N := by
            rw [Tree.long_left (by omega) (by omega), ← hk] at hc
            omega
          have HC := Lib.hid hc2
          have hw := IntWalk.i64_in ((c : Int) + 1) (by omega)
          clear hk hc hc2 h40
          go_wp2_with (go_at_call 33; ((with_reducible refine (HSP.out _).mono ?_); rintro e w1 ⟨rfl, rfl⟩))
          exact ⟨⟨m, k, c + 1, rfl, rfl, by simp, hmk, by omega, HC.out⟩, by simp [intOf]; omega⟩
        · have hmk' : ¬ (m : Int) < (k : Int) := by omega
          have hc2 : c + 1 + Tree.long (m - k) (n - k) = Tree.long M N := by
            rw [Tree.long_right (by omega) (by omega), ← hk] at hc
            omega
          have HC := Lib.hid hc2
          have hw := IntWalk.i64_in ((c : Int) + 1) (by omega)
          have hw1 := IntWalk.i64_in ((m : Int) - (k : Int)) (by omega)
          have hw2 := IntWalk.i64_in ((n : Int) - (k : Int)) (by omega)
          clear hk hc hc2 h40
          go_wp2_with (go_at_call 33; ((with_reducible refine (HSP.out _).mono ?_); rintro e w1 ⟨rfl, rfl⟩))
          exact ⟨⟨m - k, n - k, c + 1, by rw [Int.ofNat_sub (by omega)], by rw [Int.ofNat_sub (by omega)], by simp, by omega, by omega, HC.out⟩, by simp [intOf]; omega⟩

/-- Ahead of a part; 'whole' is slot 6. -/
def LLongRel (M N : Nat) (s0 s1 s5 s6 : Value) : Prop :=
  ∃ (m n c : Nat) (b : Bool), s0 = .int .i64 (m : Int) ∧ s1 = .int .i64 (n : Int) ∧ s5 = .int .i64 (c : Int) ∧ s6 = .bool b ∧ 1 ≤ m ∧ m ≤ n ∧ n ≤ 1099511627776 ∧ c + Tree.llong m n b = Tree.llong M N true
set_option maxHeartbeats 1000000 in
set_option maxRecDepth 100000 in
theorem linksLong_any (m n : Int) (w : World) (_ : m ≤ 9223372036854775807) (_ : n ≤ 9223372036854775807) :
    Calls Tryd.prog 20 #[.int .i64 m, .int .i64 n] w fun e w' => e = .returned (.int .i64 (if okL m n then ((Tree.llong m.toNat n.toNat true : Nat) : Int) else -1)) ∧ w = w' := by
  have hhp := fun u => hasLinks_any m n u
  obtain ⟨b, hb⟩ : ∃ b, b = okL m n := ⟨_, rfl⟩
  rw [← hb] at hhp ⊢
  have HP := Lib.hid hhp
  clear hhp
  cases b with
  | false =>
    clear hb
    go_enter Tryd.func20, Tryd.ntmps20
    go_wp2
    go_step3
    go_wp2_with (go_at_call 35; ((with_reducible refine (HP.out _).mono ?_); rintro e w1 ⟨rfl, rfl⟩))
    try rw [Exit.noGoto_ret]
    go_ret
    exact ⟨rfl, rfl⟩
  | true =>
    obtain ⟨h0, h1, h2⟩ := okL_t hb.symm
    obtain ⟨M, rfl⟩ := Int.eq_ofNat_of_zero_le (show 0 ≤ m by omega)
    obtain ⟨N, rfl⟩ := Int.eq_ofNat_of_zero_le (show 0 ≤ n by omega)
    clear hb
    have h40 := Tree.llong_le N M N true (by omega) (by omega) (Nat.le_refl _)
    go_enter Tryd.func20, Tryd.ntmps20
    go_wp2
    go_step3
    go_wp2_with (go_at_call 35; ((with_reducible refine (HP.out _).mono ?_); rintro e w1 ⟨rfl, rfl⟩))
    go_step3
    go_wp2
    go_loop [0, 1, 5, 6] (LLongRel M N) (fun _ s1 _ _ => (intOf s1).toNat)
    case atStart => exact ⟨M, N, 0, true, rfl, rfl, rfl, rfl, by omega, by omega, by omega, by omega⟩
    case round =>
      obtain ⟨m, n, c, b, rfl, rfl, rfl, rfl, h1m, hmn, hn, hc⟩ := hrel
      obtain ⟨k, hk⟩ : ∃ k, k = Tree.split n := ⟨_, rfl⟩
      have HSP : Hid (∀ u : World, Calls Tryd.prog 33 #[.int .i64 (n : Int)] u fun e w' => e = .returned (.int .i64 (k : Int)) ∧ u = w') := Lib.hid fun u => by
        have := leafSplit_any (n : Int) (by omega) u
        rwa [Int.toNat_natCast, ← hk] at this
      by_cases he : m = n
      · subst he
        have hl : c + (if b then 0 else 1) = Tree.llong M N true := by rw [Tree.llong_end h1m] at hc; exact hc
        have hw := IntWalk.i64_in ((c : Int) + 1) (by omega)
        have HL := Lib.hid hl
        clear hk hc hl h40
        cases b with
        | true =>
          go_wp2_with (go_at_call 33; ((with_reducible refine (HSP.out _).mono ?_); rintro e w1 ⟨rfl, rfl⟩))
          try rw [Exit.noGoto_ret]
          go_ret
          exact ⟨by simp; have := HL.out; simp at this; omega, rfl⟩
        | false =>
          go_wp2_with (go_at_call 33; ((with_reducible refine (HSP.out _).mono ?_); rintro e w1 ⟨rfl, rfl⟩))
          try rw [Exit.noGoto_ret]
          go_ret
          exact ⟨by simp; have := HL.out; simp at this; omega, rfl⟩
      · have he' : ¬ (m : Int) = (n : Int) := by omega
        have hlt := Tree.split_lt (n := n) (by omega)
        have hp := Tree.split_pos (n := n) (by omega)
        rw [← hk] at hlt hp
        by_cases hmk : m ≤ k
        · have hmk' : (m : Int) ≤ (k : Int) := by omega
          have hc2 : c + 1 + Tree.llong m k b = Tree.llong M N true := by
            rw [Tree.llong_left (by omega) (by omega) (by omega), ← hk] at hc
            omega
          have HC := Lib.hid hc2
          have hw := IntWalk.i64_in ((c : Int) + 1) (by omega)
          clear hk hc hc2 h40
          go_wp2_with (go_at_call 33; ((with_reducible refine (HSP.out _).mono ?_); rintro e w1 ⟨rfl, rfl⟩))
          exact ⟨⟨m, k, c + 1, b, rfl, rfl, by simp, rfl, h1m, hmk, by omega, HC.out⟩, by simp [intOf]; omega⟩
        · have hmk' : ¬ (m : Int) ≤ (k : Int) := by omega
          have hc2 : c + 1 + Tree.llong (m - k) (n - k) false = Tree.llong M N true := by
            rw [Tree.llong_right (by omega) (by omega), ← hk] at hc
            omega
          have HC := Lib.hid hc2
          have hw := IntWalk.i64_in ((c : Int) + 1) (by omega)
          have hw1 := IntWalk.i64_in ((m : Int) - (k : Int)) (by omega)
          have hw2 := IntWalk.i64_in ((n : Int) - (k : Int)) (by omega)
          clear hk hc hc2 h40
          go_wp2_with (go_at_call 33; ((with_reducible refine (HSP.out _).mono ?_); rintro e w1 ⟨rfl, rfl⟩))
          exact ⟨⟨m - k, n - k, c + 1, false, by rw [Int.ofNat_sub (by omega)], by rw [Int.ofNat_sub (by omega)], by simp, rfl, by omega, by omega, by omega, HC.out⟩, by simp [intOf]; omega⟩
end Go.Proofs.YtagocdcclghdaaaDoor
