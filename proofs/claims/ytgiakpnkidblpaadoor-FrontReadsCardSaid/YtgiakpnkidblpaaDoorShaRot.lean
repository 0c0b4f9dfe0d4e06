/-
  Package sha: how a number is turned (the closure of Step, and the document's own rotr).
-/
import Derived.Test.YtgiakpnkidblpaaDoorMGen
import Derived.Test.YtgiakpnkidblpaaDoorShaPure
namespace Go.Proofs.YtgiakpnkidblpaaDoor
open Go.RowKit
theorem or_comm32 (x a b : Nat) (h : x < 4294967296) : bits .or .u32 ((x : Int) * (b : Int) % 4294967296) ((x : Int) / (a : Int)) = ((x / a ||| x * b % 4294967296 : Nat) : Int) := by
  have h1 : x / a < 4294967296 := Nat.lt_of_le_of_lt (Nat.div_le_self _ _) h
  have h2 : x * b % 4294967296 < 4294967296 := Nat.mod_lt _ (by decide)
  rw [Nat.or_comm, ← u32_or_nat _ _ h2 h1]
  rfl
theorem or_32 (x a b : Nat) (h : x < 4294967296) : bits .or .u32 ((x : Int) / (a : Int)) ((x : Int) * (b : Int) % 4294967296) = ((x / a ||| x * b % 4294967296 : Nat) : Int) := by
  have h1 : x / a < 4294967296 := Nat.lt_of_le_of_lt (Nat.div_le_self _ _) h
  have h2 : x * b % 4294967296 < 4294967296 := Nat.mod_lt _ (by decide)
  rw [← u32_or_nat _ _ h1 h2]
  rfl

/-- The turns that SHA-256 makes. -/
def Turn (n : Nat) : Prop := n = 2 ∨ n = 6 ∨ n = 7 ∨ n = 11 ∨ n = 13 ∨ n = 17 ∨ n = 18 ∨ n = 19 ∨ n = 22 ∨ n = 25

set_option maxHeartbeats 1000000 in
theorem rotl_any (n x : Nat) (w : World) (hn : Turn n) (h : x < 4294967296) :
    Calls Tryd.prog 83 #[.int .u32 x, .int .i64 (-(n : Int))] w fun e w' => e = .returned (.int .u32 (Sha.rotr n x)) ∧ w = w' := by
  have b2 : bits .and .u64 (IntKind.u64.wrap (-2)) 31 = 30 := by decide +kernel
  have b6 : bits .and .u64 (IntKind.u64.wrap (-6)) 31 = 26 := by decide +kernel
  have b7 : bits .and .u64 (IntKind.u64.wrap (-7)) 31 = 25 := by decide +kernel
  have b11 : bits .and .u64 (IntKind.u64.wrap (-11)) 31 = 21 := by decide +kernel
  have b13 : bits .and .u64 (IntKind.u64.wrap (-13)) 31 = 19 := by decide +kernel
  have b17 : bits .and .u64 (IntKind.u64.wrap (-17)) 31 = 15 := by decide +kernel
  have b18 : bits .and .u64 (IntKind.u64.wrap (-18)) 31 = 14 := by decide +kernel
  have b19 : bits .and .u64 (IntKind.u64.wrap (-19)) 31 = 13 := by decide +kernel
  have b22 : bits .and .u64 (IntKind.u64.wrap (-22)) 31 = 10 := by decide +kernel
  have b25 : bits .and .u64 (IntKind.u64.wrap (-25)) 31 = 7 := by decide +kernel
  rcases hn with rfl | rfl | rfl | rfl | rfl | rfl | rfl | rfl | rfl | rfl
  all_goals
    go_enter Tryd.func83, Tryd.ntmps83
    go_wp2
    go_ret
    exact ⟨ret_int (or_comm32 x _ _ h), rfl⟩

set_option maxHeartbeats 1000000 in
theorem turn_any (n x : Nat) (w : World) (hn : Turn n) (h : x < 4294967296) :
    Calls Tryd.prog 82 #[.int .i64 n, .int .u32 x] w fun e w' => e = .returned (.int .u32 (Sha.rotr n x)) ∧ w = w' := by
  have hb : (n : Int) ≤ 32 := by unfold Turn at hn; omega
  go_enter Tryd.func82, Tryd.ntmps82
  go_wp2_with (go_at_call 83; refine (rotl_any _ _ _ hn h).mono ?_; rintro e w' ⟨rfl, rfl⟩)
  go_ret
  exact ⟨rfl, rfl⟩

set_option maxHeartbeats 1000000 in
theorem rref_any (n x : Nat) (w : World) (hn : Turn n) (h : x < 4294967296) :
    Calls Tryd.prog 72 #[.int .i64 n, .int .u32 x] w fun e w' => e = .returned (.int .u32 (Sha.rotr n x)) ∧ w = w' := by
  rcases hn with rfl | rfl | rfl | rfl | rfl | rfl | rfl | rfl | rfl | rfl
  all_goals
    go_enter Tryd.func72, Tryd.ntmps72
    go_wp2
    go_ret
    exact ⟨ret_int (or_32 x _ _ h), rfl⟩
end Go.Proofs.YtgiakpnkidblpaaDoor
