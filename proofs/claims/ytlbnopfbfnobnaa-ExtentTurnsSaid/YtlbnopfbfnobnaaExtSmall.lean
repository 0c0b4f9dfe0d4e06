/-
  Package extent: sound, behind, joined; the document's good.
-/
import Derived.Test.YtlbnopfbfnobnaaRunMem
namespace Go.Proofs.Ytlbnopfbfnobnaa
open Go.RowKit Ext

theorem below_box (w : World) (o : Obj) : Below w.heap.size w (w.alloc o) := (Below.refl _ _).alloc (Nat.le_refl _) _
set_option maxHeartbeats 800000 in
theorem sound_any (a n : Int) (w : World) (h : okR (a, n)) :
    Calls Try.prog 33 #[.agg #[.int .i64 a, .int .i64 n]] w fun e w' => e = .returned (.bool (sndB (a, n))) ∧ Below w.heap.size w w' := by
  obtain ⟨⟨h1, h2⟩, h3, h4⟩ := h
  simp only at h1 h2 h3 h4
  unfold sndB
  simp only
  by_cases c1 : 0 ≤ a
  · rw [decide_eq_true c1, Bool.true_and]
    by_cases c2 : 1 ≤ n
    · rw [decide_eq_true c2, Bool.true_and]
      go_enter Try.func33, Try.ntmps33
      go_wp2
      go_ret
      exact ⟨rfl, below_box _ _⟩
    · rw [decide_eq_false c2, Bool.false_and]
      go_enter Try.func33, Try.ntmps33
      go_wp2
      go_ret
      exact ⟨rfl, below_box _ _⟩
  · rw [decide_eq_false c1, Bool.false_and, Bool.false_and]
    go_enter Try.func33, Try.ntmps33
    go_wp2
    go_ret
    exact ⟨rfl, below_box _ _⟩
theorem behind_any (a n : Int) (w : World) (h1 : 0 ≤ a) (h2 : 1 ≤ n) (h3 : n ≤ 65536 - a) :
    Calls Try.prog 39 #[.agg #[.int .i64 a, .int .i64 n]] w fun e w' => e = .returned (.int .i64 (a + n)) ∧ Below w.heap.size w w' := by
  go_enter Try.func39, Try.ntmps39
  go_wp2
  go_ret
  exact ⟨rfl, below_box _ _⟩
set_option maxHeartbeats 800000 in
theorem joined_any (a n b m : Int) (w : World) (_h1 : 0 ≤ a) (h2 : 1 ≤ n) (h3 : n ≤ 1000000000000) (_k1 : 0 ≤ b) (k2 : 1 ≤ m) (k3 : m ≤ 1000000) :
    Calls Try.prog 35 #[.agg #[.int .i64 a, .int .i64 n], .agg #[.int .i64 b, .int .i64 m]] w fun e w' => e = .returned (.agg #[.int .i64 (min a b), .int .i64 (n + m)]) ∧ Below w.heap.size w w' := by
  by_cases hab : a ≤ b
  · rw [Int.min_eq_left hab]
    go_enter Try.func35, Try.ntmps35
    go_wp2
    exact bodyPost_ret (v := .agg #[.int .i64 a, .int .i64 (n + m)]) (by simp [results, Try.results35, go_sem]) rfl ⟨rfl, below_step (below_step (below_box w _) (Nat.le_refl _) (below_box _ _)) (Nat.le_refl _) (below_box _ _)⟩
  · rw [Int.min_eq_right (by omega)]
    go_enter Try.func35, Try.ntmps35
    go_wp2
    exact bodyPost_ret (v := .agg #[.int .i64 b, .int .i64 (n + m)]) (by simp [results, Try.results35, go_sem]) rfl ⟨rfl, below_step (below_step (below_box w _) (Nat.le_refl _) (below_box _ _)) (Nat.le_refl _) (below_box _ _)⟩
set_option maxHeartbeats 800000 in
theorem good_any (a n : Int) (w : World) (h : okR (a, n)) :
    Calls Try.prog 37 #[.agg #[.int .i64 a, .int .i64 n]] w fun e w' => e = .returned (.bool (sndB (a, n))) ∧ Below w.heap.size w w' := by
  obtain ⟨⟨h1, h2⟩, h3, h4⟩ := h
  simp only at h1 h2 h3 h4
  have hs : sndB (a, n) = decide (1 ≤ n ∧ n ≤ 65536 ∧ 0 ≤ a ∧ a ≤ 65535 ∧ a + n ≤ 65536) := by
    rw [Bool.eq_iff_iff, sndB_iff, decide_eq_true_eq]; simp only; omega
  rw [hs]
  by_cases c1 : 1 ≤ n
  · by_cases c2 : n ≤ 65536
    · by_cases c3 : 0 ≤ a
      · by_cases c4 : a ≤ 65535
        · rw [show decide (1 ≤ n ∧ n ≤ 65536 ∧ 0 ≤ a ∧ a ≤ 65535 ∧ a + n ≤ 65536) = decide (a + n ≤ 65536) from by simp [c1, c2, c3, c4]]
          clear hs
          go_enter Try.func37, Try.ntmps37
          go_wp2
          go_ret
          exact ⟨rfl, below_box _ _⟩
        · rw [decide_eq_false (by omega)]
          go_enter Try.func37, Try.ntmps37
          go_wp2
          go_ret
          exact ⟨rfl, below_box _ _⟩
      · rw [decide_eq_false (by omega)]
        go_enter Try.func37, Try.ntmps37
        go_wp2
        go_ret
        exact ⟨rfl, below_box _ _⟩
    · rw [decide_eq_false (by omega)]
      go_enter Try.func37, Try.ntmps37
      go_wp2
      go_ret
      exact ⟨rfl, below_box _ _⟩
  · rw [decide_eq_false (by omega)]
    go_enter Try.func37, Try.ntmps37
    go_wp2
    go_ret
    exact ⟨rfl, below_box _ _⟩
end Go.Proofs.Ytlbnopfbfnobnaa
