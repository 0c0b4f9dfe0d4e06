/-
  Package octet: the number at the beginning of a text, for every text.
-/
import Derived.Test.YtnieebkkpmdgmaaOctPut
namespace Go.Proofs.Ytnieebkkpmdgmaa
open Go.RowKit


/-- A tuple of three, as it is told. -/
theorem ret_num {a b c d : Int} (h1 : a = c) (h2 : b = d) : Ending.returned (.tuple #[.int .u64 a, .int .i64 b, .bool true]) = .returned (.tuple #[.int .u64 c, .int .i64 d, .bool true]) := by rw [h1, h2]

set_option maxHeartbeats 800000 in
theorem number_none (s : ByteArray) (w : World) (hs : s.size ≤ maxLen) (h : Oct.num? s.data.toList = none) :
    Calls Try.prog 74 #[.string s] w fun e w' => e = .returned (.tuple #[.int .u64 0, .int .i64 0, .bool false]) ∧ w = w' := by
  unfold maxLen at hs
  by_cases h0 : s.size = 0
  · have H := toList_nil h0
    clear h h0
    go_enter Try.func74, Try.ntmps74
    go_wp2
    go_ret3
    exact ⟨rfl, rfl⟩
  · have h0' : 0 < s.size := by omega
    obtain ⟨hne, hem⟩ := toList_ne h0'
    rw [Oct.num_eq s h0'] at h
    have hc : 8 < s[0].toNat ∨ s.size - 1 < s[0].toNat ∨ (0 < s[0].toNat ∧ (s.data.toList.drop 1).headD 0 = 0) := by
      by_cases hc : 8 < s[0].toNat ∨ s.size - 1 < s[0].toNat ∨ (0 < s[0].toNat ∧ (s.data.toList.drop 1).headD 0 = 0)
      · exact hc
      · rw [if_neg hc] at h; cases h
    clear h h0
    by_cases h8 : (8 : Int) < s[0].toNat
    · clear hc
      go_enter Try.func74, Try.ntmps74
      go_wp2
      go_ret3
      exact ⟨rfl, rfl⟩
    · have h8' : (s[0].toNat : Int) ≤ 8 := by omega
      by_cases hl : s.size ≤ s[0].toNat
      · clear hc h8
        go_enter Try.func74, Try.ntmps74
        go_wp2
        go_ret3
        exact ⟨rfl, rfl⟩
      · have hp : 0 < s[0].toNat := by omega
        have h1 : 1 < s.size := by omega
        have hz : ((s[1].toNat : Int) == 0) = true := by
          rcases hc with hc | hc | ⟨_, hc⟩
          · omega
          · omega
          · rw [Oct.tail_head s h1] at hc
            rw [hc]; rfl
        have hd : 1 < (1 : Int) + s[0].toNat := by omega
        have h1' : (1 : Int) < s.size := by omega
        clear hc h8
        go_enter Try.func74, Try.ntmps74
        go_wp2
        go_ret3
        exact ⟨rfl, rfl⟩

set_option maxHeartbeats 800000 in
theorem number_ok (s : ByteArray) (w : World) (hs : s.size ≤ maxLen) (h0 : 0 < s.size) (h8' : (s[0].toNat : Int) ≤ 8) (hl : ¬ s.size ≤ s[0].toNat) (hd : (1 : Int) + s[0].toNat ≤ 1 ∨ (1 < (1 : Int) + s[0].toNat ∧ ∃ _ : 1 < s.size, ((s[1].toNat : Int) == 0) = false)) :
    Calls Try.prog 74 #[.string s] w fun e w' => e = .returned (.tuple #[.int .u64 (Oct.val ((s.data.toList.drop 1).take s[0].toNat)), .int .i64 (1 + s[0].toNat), .bool true]) ∧ w = w' := by
  unfold maxLen at hs
  obtain ⟨hne, hem⟩ := toList_ne h0
  have h8 : decide ((8 : Int) < s[0].toNat) = false := by simpa using h8'
  rcases hd with hd | ⟨hd, h1, hz⟩
  all_goals
    go_enter Try.func74, Try.ntmps74
    go_wp2
    go_loop [2, 34] (fun v i => ∃ k n : Nat, k ≤ s[0].toNat ∧ Hid (n = Oct.val ((s.data.toList.drop 1).take k)) ∧ i = .int .i64 k ∧ v = .int .u64 n) (fun _ i => s[0].toNat - (intOf i).toNat)
    case atStart => exact ⟨0, 0, by omega, rfl, rfl, rfl⟩
    case round =>
      obtain ⟨k, n, hk, hn, rfl, rfl⟩ := hrel
      by_cases hlt : k < s[0].toNat
      · have hb : (1 : Int) + k < s.size := by omega
        have hb' : 1 + k < s.size := by omega
        have hu : (s[1 + k]).toNat < 256 := (s[1 + k]).toNat_lt
        have hN : n < 72057594037927936 := by
          have h1 := Oct.val_lt k ((s.data.toList.drop 1).take k) (by rw [List.length_take, Oct.tail_length]; omega)
          have h2 : 256 ^ k ≤ 256 ^ 7 := Nat.pow_le_pow_right (by decide) (by omega)
          have := hn.out
          omega
        go_wp2
        try (go_round
             case rel => exact ⟨k + 1, n * 256 + (s[1 + k]).toNat, by omega, by rw [Oct.tail_step s k hb', Oct.val_snoc, ← hn.out]; rfl, by go_num, by rw [Oct.or_byte n _ hN hu]⟩
             case measure => simp [intOf]; omega)
      · obtain rfl : s[0].toNat = k := by omega
        go_wp2
        go_ret3
        exact ⟨ret_num (by rw [hn.out, List.drop_one]) (by omega), rfl⟩

theorem number_some (s : ByteArray) (w : World) (hs : s.size ≤ maxLen) (n k : Nat) (h : Oct.num? s.data.toList = some (n, k)) :
    Calls Try.prog 74 #[.string s] w fun e w' => e = .returned (.tuple #[.int .u64 n, .int .i64 k, .bool true]) ∧ w = w' := by
  by_cases h0 : s.size = 0
  · rw [Oct.num_empty s h0] at h; cases h
  have h0' : 0 < s.size := by omega
  rw [Oct.num_eq s h0'] at h
  by_cases hc : 8 < s[0].toNat ∨ s.size - 1 < s[0].toNat ∨ (0 < s[0].toNat ∧ (s.data.toList.drop 1).headD 0 = 0)
  · rw [if_pos hc] at h; cases h
  rw [if_neg hc] at h
  simp only [Option.some.injEq, Prod.mk.injEq] at h
  obtain ⟨rfl, rfl⟩ := h
  have e : ((1 + s[0].toNat : Nat) : Int) = 1 + (s[0].toNat : Int) := by omega
  rw [e]
  refine number_ok s w hs h0' (by omega) (by omega) ?_
  by_cases hp : 0 < s[0].toNat
  · right
    have h1 : 1 < s.size := by omega
    refine ⟨by omega, h1, ?_⟩
    rw [Oct.tail_head s h1] at hc
    have hz : s[1] ≠ 0 := fun e => hc (Or.inr (Or.inr ⟨hp, e⟩))
    have : s[1].toNat ≠ 0 := fun e => hz (UInt8.toNat_inj.1 e)
    simp; omega
  · left; omega
end Go.Proofs.Ytnieebkkpmdgmaa
