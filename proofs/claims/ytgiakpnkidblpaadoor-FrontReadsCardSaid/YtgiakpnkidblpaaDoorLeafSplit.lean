/-
  Package leaf: Split; the document's own.
-/
import Derived.Test.YtgiakpnkidblpaaDoorLeafPure
import Derived.Test.YtgiakpnkidblpaaDoorMGen
namespace Go.Proofs.YtgiakpnkidblpaaDoor
open Go.RowKit

/-- Ahead of power i. -/
def SplitRel (N : Int) (s3 s5 : Value) : Prop :=
  ∃ i : Nat, i ≤ 63 ∧ s5 = .int .i64 (i : Int) ∧ ((i = 0 ∧ s3 = .int .i64 0) ∨ ∃ j, i = j + 1 ∧ s3 = .int .i64 ((2 ^ j : Nat) : Int) ∧ ((2 ^ j : Nat) : Int) < N)
theorem split_end (N : Int) (j : Nat) (h1 : ((2 ^ j : Nat) : Int) < N) (h2 : N ≤ ((2 ^ (j + 1) : Nat) : Int)) : Tree.split N.toNat = 2 ^ j := Tree.split_of (by omega) (by omega)
theorem shl_one (i : Nat) (h : i < 63) (P : Nat) (hP : P = 2 ^ i) : wrap64 ((2 : Int) ^ i) = (P : Int) := by
  have hp : 2 ^ i ≤ 2 ^ 62 := Nat.pow_le_pow_right (by decide) (by omega)
  have e : (2 : Int) ^ i = (P : Int) := by rw [hP]; simp
  rw [e]
  rw [← hP] at hp
  have : (2 : Nat) ^ 62 = 4611686018427387904 := rfl
  exact IntWalk.wrap64_in (P : Int) ⟨by omega, by omega⟩
/-- Ahead of a doubling. -/
def RSplitRel (N : Int) (s3 : Value) : Prop := ∃ j : Nat, s3 = .int .i64 ((2 ^ j : Nat) : Int) ∧ ((2 ^ j : Nat) : Int) < N
set_option maxHeartbeats 1000000 in
set_option maxRecDepth 100000 in
theorem rleafSplit_any (N : Int) (h0 : -9223372036854775808 ≤ N) (h : N ≤ 9223372036854775807) (w : World) :
    Calls Tryd.prog 33 #[.int .i64 N] w fun e w' => e = .returned (.int .i64 ((Tree.split N.toNat : Nat) : Int)) ∧ w = w' := by
  by_cases h2 : N < 2
  · have he : Hid (Tree.split N.toNat = 0) := Lib.hid (Tree.split_small (by omega))
    go_enter Tryd.func33, Tryd.ntmps33
    go_wp2
    go_ret
    exact ⟨by rw [he.out]; rfl, rfl⟩
  · go_enter Tryd.func33, Tryd.ntmps33
    go_wp2
    go_loop [3] (RSplitRel N) (fun s3 => (N - intOf s3).toNat)
    case atStart => exact ⟨0, rfl, by simp; omega⟩
    case round =>
      obtain ⟨j, rfl, hj⟩ := hrel
      have hend := split_end N j hj
      have hpow : (2 : Nat) ^ (j + 1) = 2 * 2 ^ j := by rw [Nat.pow_succ]; omega
      rw [hpow] at hend
      have HJ := Lib.hid hpow
      obtain ⟨R, hR⟩ : ∃ R : Nat, R = 2 ^ j := ⟨_, rfl⟩
      rw [← hR] at hend hj ⊢
      have HR := Lib.hid hR
      have hRp : 0 < R := by rw [hR]; exact Nat.two_pow_pos j
      clear hR hpow
      have hdv : (N - 1).tdiv 2 = (N - 1) / 2 := by rw [Int.tdiv_eq_ediv_of_nonneg (by omega)]
      have hw1 := IntWalk.i64_in (N - 1) (by omega)
      by_cases hge : (R : Int) ≤ (N - 1) / 2
      · have hw2 := IntWalk.i64_in (2 * (R : Int)) (by omega)
        clear hend
        go_wp2
        refine ⟨⟨j + 1, by rw [HJ.out, ← HR.out]; simp, by rw [HJ.out, ← HR.out]; simp; omega⟩, by simp [intOf]; omega⟩
      · have he := Lib.hid (hend (by omega))
        clear hend
        go_wp2
        go_ret
        exact ⟨by rw [he.out]; rfl, rfl⟩
end Go.Proofs.YtgiakpnkidblpaaDoor
