/-
  Package octet: what Size and Put tell, for every number, in whatever world.
-/
import Derived.Test.YtkoojbbimjjndaaGenMem
import Derived.Test.YtkoojbbimjjndaaOctPure
import Derived.Test.YtkoojbbimjjndaaOctShelf
import Derived.WalkKit
import Derived.WalkLawsBesides
import Derived.WalkSpells
import Derived.Maps.AppendAt
import Derived.Laws.IdiomStrings
import Derived.Lib.UnsafeStr
namespace Go.Proofs.Ytkoojbbimjjndaa
open Go.RowKit


theorem size_any (n : Nat) (w : World) (h : n < 18446744073709551616) :
    Calls Try.prog 35 #[.int .u64 n] w fun e w' => e = .returned (.int .i64 ((Oct.need n : Int) + 1)) ∧ w = w' := by
  have hb := Oct.bitLen_le64 n h
  go_enter Try.func35, Try.ntmps35
  go_wp2_with (go_at_call 50; refine (len64_any _ _ (by omega) (by omega)).mono ?_; rintro e w' ⟨rfl, rfl⟩)
  go_ret
  exact ⟨ret_int (by unfold Oct.need; omega), rfl⟩

set_option maxHeartbeats 800000 in
set_option maxRecDepth 100000 in
theorem put_any (n : Nat) (w : World) (h : n < 18446744073709551616) :
    Calls Try.prog 51 #[.int .u64 n] w fun e w' => e = .returned (.string (Oct.putB n)) ∧ Below w.heap.size w w' := by
  have hM := Oct.need_le n h
  obtain ⟨i0, hi, hz0, hz1, hz2⟩ := info_parts info_u8
  go_enter Try.func51, Try.ntmps51
  go_wp2_with (first
    | (go_at_call 35; refine (size_any _ _ (by omega)).mono ?_; rintro e w' ⟨rfl, rfl⟩)
    | (at_make; refine wpList_make_own _ rfl _ _ 53 rfl w.heap.size 5 i0 (.int .u8 0) 1 Try.underlying53 hi hz0 hz1 _ _ _ (1 + Oct.need n) rfl rfl (by omega) (by rw [hz2]; omega) (by unfold maxLen; omega) (Nat.le_refl _) ?_; intro w0 hown0 hgrow0)
    | (at_builtin; refine wpList_append_fits _ rfl (.tmp 12) (.tmp 15) 53 rfl w.heap.size 5 i0 1 Try.underlying53 hi hz1 w.heap.size 0 (1 + Oct.need n) _ rfl (hown0.alloc _) ⟨w0.heap.size, 0, none⟩ 1 1 [.int .u8 (Oct.need n)] rfl rfl (cell_one_new _ _ _) (by intro u hu; simp at hu; subst hu; rfl) (by omega) ?_; intro w1 hown1 hgrow1))
  clear hown0
  go_loopw [4, 18] (fun v i wr => ∃ k : Nat, k ≤ Oct.need n ∧ i = .int .i64 k ∧ v = .slice (some ⟨w.heap.size, 0, none⟩) (1 + k) (1 + Oct.need n) ∧ wr.ownsRow w.heap.size 5 1 (.slice (some ⟨w.heap.size, 0, none⟩) (1 + k) (1 + Oct.need n)) (1 + k) (Lib.byteCells ((Oct.putL n).take (1 + k))) ∧ Below w.heap.size w wr)
    (fun _ i _ => Oct.need n - (intOf i).toNat)
  case atStart =>
    refine ⟨0, Nat.zero_le _, rfl, rfl, ?_, ?_⟩
    · show w1.ownsRow _ _ _ _ (1 + 0) (Lib.byteCells ((Oct.putL n).take 1))
      rw [Oct.putL_take1 n h]
      exact hown1
    · exact (((Below.refl _ _).grown hgrow0 (Nat.le_refl _) (fun k h => by cases h)).alloc hgrow0.size _).grown hgrow1 (by have := hgrow0.size; simp; omega) (fun k hk => by cases hk; exact Nat.le_refl _)
  case round =>
    obtain ⟨k, hk, rfl, rfl, hown, hbl⟩ := hrel
    clear hown1 hgrow1 hgrow0
    by_cases hlt : k < Oct.need n
    · go_wp2_with (first
        | (at_builtin; refine wpList_append_fits _ rfl (.tmp 21) (.tmp 30) 53 rfl w.heap.size 5 i0 1 Try.underlying53 hi hz1 w.heap.size (1 + k) (1 + Oct.need n) _ rfl (hown.alloc _) ⟨wr.heap.size, 0, none⟩ 1 1 [.int .u8 ((n : Int) / 2 ^ (8 * (Oct.need n - 1 - k)) % 256)] rfl rfl (cell_one_new _ _ _) (by intro u hu; simp at hu; subst hu; rfl) (by omega) ?_; intro w2 hown2 hgrow2))
      rw [← Oct.putL_step n k hlt] at hown2
      go_roundw
      case rel =>
        refine ⟨k + 1, by omega, by go_num, rfl, hown2, ?_⟩
        exact (hbl.alloc hbl.size _).grown hgrow2 (by have := hbl.size; simp; omega) (fun k hk => by cases hk; exact Nat.le_refl _)
      case measure => simp [intOf]; omega
    · obtain rfl : Oct.need n = k := by omega
      have e : (Oct.putL n).take (1 + Oct.need n) = Oct.putL n := List.take_of_length_le (by rw [Oct.putL_length]; omega)
      rw [e] at hown
      have hcv : (convert 53 9 (.slice (some ⟨w.heap.size, 0, none⟩) (1 + Oct.need n) (1 + Oct.need n))).run Try.prog wr = .ok (.string (Oct.putB n)) wr := by
        rw [← Oct.putL_length n]
        refine run_convert_bytes_back wr _ _ 5 _ _ (Oct.putL n) Try.underlying53 Try.underlying5 Try.underlying9 fun j hj => ?_
        exact hown.cells rfl j _ (by simp [Lib.byteCells, hj])
      clear hown e
      go_wp2
      go_ret
      exact ⟨rfl, hbl⟩
end Go.Proofs.Ytkoojbbimjjndaa
