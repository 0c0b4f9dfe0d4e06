/-
  Package window: Of, Begin, End, Due, Closed, Expired, Tick; the statements' kept and awake.
-/
import Derived.Test.YthhmncmbnbkhaaaWinFn
namespace Go.Proofs.Ythhmncmbnbkhaaa
open Go.RowKit

def ofZ (t x : Int) : Int := if isT t ∧ isW x then t / x else -1
theorem of_any (t x : Int) (w : World) :
    Calls Try.prog 9 #[.int .i64 t, .int .i64 x] w fun e w' => e = .returned (.int .i64 (ofZ t x)) ∧ w = w' := by
  by_cases ht : isT t
  · have q1 := fun u => isTime_any t u
    rw [decide_eq_true ht] at q1
    by_cases hx : isW x
    · have q2 := fun u => isWidth_any x u
      rw [decide_eq_true hx] at q2
      obtain ⟨Q, hQ⟩ : ∃ Q, Q = t / x := ⟨_, rfl⟩
      rw [show ofZ t x = Q from hQ ▸ if_pos ⟨ht, hx⟩]
      have h0 := ht.1
      have h1 := ht.2
      have h2 := hx.1
      have q0 : t.tdiv x = Q := by rw [hQ, Int.tdiv_eq_ediv_of_nonneg h0]
      have hq0 : 0 ≤ Q := by rw [hQ]; exact Int.ediv_nonneg h0 (by omega)
      have hq1 : Q ≤ 1125899906842624 := by rw [hQ]; exact Int.le_trans (Int.ediv_le_self _ h0) h1
      have hw : wrap64 Q = Q := IntWalk.wrap64_in Q ⟨by omega, by omega⟩
      clear ht hx hQ
      go_enter Try.func9, Try.ntmps9
      go_wp2_with (first
        | (go_at_call 16; ((with_reducible refine (q1 _).mono ?_); rintro e w5 ⟨rfl, rfl⟩))
        | (go_at_call 17; ((with_reducible refine (q2 _).mono ?_); rintro e w5 ⟨rfl, rfl⟩)))
      go_ret
      exact ⟨by simp, rfl⟩
    · have q2 := fun u => isWidth_any x u
      rw [decide_eq_false hx] at q2
      rw [show ofZ t x = -1 from if_neg fun h => hx h.2]
      clear ht hx
      go_enter Try.func9, Try.ntmps9
      go_wp2_with (first
        | (go_at_call 16; ((with_reducible refine (q1 _).mono ?_); rintro e w5 ⟨rfl, rfl⟩))
        | (go_at_call 17; ((with_reducible refine (q2 _).mono ?_); rintro e w5 ⟨rfl, rfl⟩)))
      go_ret
      exact ⟨rfl, rfl⟩
  · have q1 := fun u => isTime_any t u
    rw [decide_eq_false ht] at q1
    rw [show ofZ t x = -1 from if_neg fun h => ht h.1]
    clear ht
    go_enter Try.func9, Try.ntmps9
    go_wp2_with (first
      | (go_at_call 16; ((with_reducible refine (q1 _).mono ?_); rintro e w5 ⟨rfl, rfl⟩)))
    go_ret
    exact ⟨rfl, rfl⟩
theorem begin_any (a x : Int) (w : World) :
    Calls Try.prog 10 #[.int .i64 a, .int .i64 x] w fun e w' => e = .returned (.tuple #[.int .i64 (valW a 0 x 0), .bool (decide (okW a 0 x 0))]) ∧ Below w.heap.size w w' := by
  have q := reckon_any a 0 x 0 w (by decide) (by decide)
  generalize valW a 0 x 0 = V at *
  generalize decide (okW a 0 x 0) = b at *
  go_enter Try.func10, Try.ntmps10
  go_wp2_with (go_at_call 18; ((with_reducible refine q.mono ?_); rintro e w5 ⟨rfl, b5⟩))
  go_ret2
  exact ⟨rfl, b5⟩
theorem end_any (a x : Int) (w : World) :
    Calls Try.prog 11 #[.int .i64 a, .int .i64 x] w fun e w' => e = .returned (.tuple #[.int .i64 (valW a 1 x 0), .bool (decide (okW a 1 x 0))]) ∧ Below w.heap.size w w' := by
  have q := reckon_any a 1 x 0 w (by decide) (by decide)
  generalize valW a 1 x 0 = V at *
  generalize decide (okW a 1 x 0) = b at *
  go_enter Try.func11, Try.ntmps11
  go_wp2_with (go_at_call 18; ((with_reducible refine q.mono ?_); rintro e w5 ⟨rfl, b5⟩))
  go_ret2
  exact ⟨rfl, b5⟩
theorem due_any (a x t : Int) (w : World) :
    Calls Try.prog 15 #[.int .i64 a, .int .i64 x, .int .i64 t] w fun e w' => e = .returned (.tuple #[.int .i64 (valW a 1 x t), .bool (decide (okW a 1 x t))]) ∧ Below w.heap.size w w' := by
  have q := reckon_any a 1 x t w (by decide) (by decide)
  generalize valW a 1 x t = V at *
  generalize decide (okW a 1 x t) = b at *
  go_enter Try.func15, Try.ntmps15
  go_wp2_with (go_at_call 18; ((with_reducible refine q.mono ?_); rintro e w5 ⟨rfl, b5⟩))
  go_ret2
  exact ⟨rfl, b5⟩
/-- The end has come. -/
def clsB (a x now : Int) : Bool := decide (okW a 1 x 0) && decide (isT now) && decide (valW a 1 x 0 ≤ now)
/-- What is due has come. -/
def expB (a x t now : Int) : Bool := decide (okW a 1 x t) && decide (isT now) && decide (valW a 1 x t ≤ now)
theorem closed_any (a x now : Int) (w : World) :
    Calls Try.prog 13 #[.int .i64 a, .int .i64 x, .int .i64 now] w fun e w' => e = .returned (.bool (clsB a x now)) ∧ Below w.heap.size w w' := by
  have q := end_any a x w
  have q1 := fun u => isTime_any now u
  unfold clsB
  generalize valW a 1 x 0 = V at *
  generalize decide (okW a 1 x 0) = b at *
  generalize decide (isT now) = c at *
  cases b
  · go_enter Try.func13, Try.ntmps13
    go_wp2_with (first
      | (go_at_call 11; ((with_reducible refine q.mono ?_); rintro e w5 ⟨rfl, b5⟩))
      | (go_at_call 16; ((with_reducible refine (q1 _).mono ?_); rintro e w6 ⟨rfl, rfl⟩)))
    go_ret
    exact ⟨rfl, b5⟩
  · cases c <;>
    · go_enter Try.func13, Try.ntmps13
      go_wp2_with (first
        | (go_at_call 11; ((with_reducible refine q.mono ?_); rintro e w5 ⟨rfl, b5⟩))
        | (go_at_call 16; ((with_reducible refine (q1 _).mono ?_); rintro e w6 ⟨rfl, rfl⟩)))
      go_ret
      exact ⟨rfl, b5⟩
theorem expired_any (a x t now : Int) (w : World) :
    Calls Try.prog 12 #[.int .i64 a, .int .i64 x, .int .i64 t, .int .i64 now] w fun e w' => e = .returned (.bool (expB a x t now)) ∧ Below w.heap.size w w' := by
  have q := due_any a x t w
  have q1 := fun u => isTime_any now u
  unfold expB
  generalize valW a 1 x t = V at *
  generalize decide (okW a 1 x t) = b at *
  generalize decide (isT now) = c at *
  cases b
  · go_enter Try.func12, Try.ntmps12
    go_wp2_with (first
      | (go_at_call 15; ((with_reducible refine q.mono ?_); rintro e w5 ⟨rfl, b5⟩))
      | (go_at_call 16; ((with_reducible refine (q1 _).mono ?_); rintro e w6 ⟨rfl, rfl⟩)))
    go_ret
    exact ⟨rfl, b5⟩
  · cases c <;>
    · go_enter Try.func12, Try.ntmps12
      go_wp2_with (first
        | (go_at_call 15; ((with_reducible refine q.mono ?_); rintro e w5 ⟨rfl, b5⟩))
        | (go_at_call 16; ((with_reducible refine (q1 _).mono ?_); rintro e w6 ⟨rfl, rfl⟩)))
      go_ret
      exact ⟨rfl, b5⟩
/-- The clock goes on. -/
def tickB (now t : Int) : Bool := decide (isT t ∧ now ≤ t)
theorem tick_any (now t : Int) (w : World) :
    Calls Try.prog 14 #[.int .i64 now, .int .i64 t] w fun e w' => e = .returned (.tuple #[.int .i64 (if tickB now t then t else now), .int .i64 (if tickB now t then 0 else 21)]) ∧ w = w' := by
  have q1 := fun u => isTime_any t u
  by_cases ht : isT t
  · rw [decide_eq_true ht] at q1
    by_cases hn : now ≤ t
    · rw [show tickB now t = true from decide_eq_true ⟨ht, hn⟩, if_pos rfl, if_pos rfl]
      clear ht
      go_enter Try.func14, Try.ntmps14
      go_wp2_with (go_at_call 16; ((with_reducible refine (q1 _).mono ?_); rintro e w6 ⟨rfl, rfl⟩))
      go_ret2
      exact ⟨rfl, rfl⟩
    · rw [show tickB now t = false from decide_eq_false fun h => hn h.2, if_neg Bool.false_ne_true, if_neg Bool.false_ne_true]
      clear ht
      go_enter Try.func14, Try.ntmps14
      go_wp2_with (go_at_call 16; ((with_reducible refine (q1 _).mono ?_); rintro e w6 ⟨rfl, rfl⟩))
      go_ret2
      exact ⟨rfl, rfl⟩
  · rw [decide_eq_false ht] at q1
    rw [show tickB now t = false from decide_eq_false fun h => ht h.1, if_neg Bool.false_ne_true, if_neg Bool.false_ne_true]
    clear ht
    go_enter Try.func14, Try.ntmps14
    go_wp2_with (go_at_call 16; ((with_reducible refine (q1 _).mono ?_); rintro e w6 ⟨rfl, rfl⟩))
    go_ret2
    exact ⟨rfl, rfl⟩
/-- A number, by its rest, from 0 to most. -/
theorem kept_any (n m : Int) (w : World) (hm : 0 ≤ m) (hm2 : m ≤ 1125899906842624) :
    Calls Try.prog 8 #[.int .i64 n, .int .i64 m] w fun e w' => (∃ k : Int, e = .returned (.int .i64 k) ∧ 0 ≤ k ∧ k ≤ m) ∧ w = w' := by
  obtain ⟨r, hr⟩ : ∃ r, r = n.tmod (m + 1) := ⟨_, rfl⟩
  have h1 : r < m + 1 := by rw [hr]; exact Int.tmod_lt_of_pos n (by omega)
  have h2 : - (m + 1) < r := by
    rw [hr]
    have := Int.lt_tmod_of_pos n (b := m + 1) (by omega)
    omega
  have q0 : n.tmod (m + 1) = r := hr.symm
  clear hr
  by_cases h : r < 0
  · go_enter Try.func8, Try.ntmps8
    go_wp2
    go_ret
    exact ⟨⟨_, rfl, by omega, by omega⟩, rfl⟩
  · go_enter Try.func8, Try.ntmps8
    go_wp2
    go_ret
    exact ⟨⟨_, rfl, by omega, by omega⟩, rfl⟩
set_option maxHeartbeats 1600000 in
theorem awake_any (w : World) :
    Calls Try.prog 7 #[] w fun e w' => e = .returned (.bool true) ∧ Below w.heap.size w w' := by
  have q1 := fun u => begin_any 2 10 u
  rw [show valW 2 0 10 0 = 20 from by decide, show decide (okW 2 0 10 0) = true from by decide] at q1
  have q2 := fun u => end_any 2 10 u
  rw [show valW 2 1 10 0 = 30 from by decide, show decide (okW 2 1 10 0) = true from by decide] at q2
  have q3 := fun u => tick_any 5 4 u
  rw [show tickB 5 4 = false from by decide, if_neg Bool.false_ne_true, if_neg Bool.false_ne_true] at q3
  have q4 := fun u => of_any 25 10 u
  rw [show ofZ 25 10 = 2 from by decide] at q4
  have q5 := fun u => expired_any 2 10 5 34 u
  rw [show expB 2 10 5 34 = false from by decide] at q5
  have q6 := fun u => expired_any 2 10 5 35 u
  rw [show expB 2 10 5 35 = true from by decide] at q6
  go_enter Try.func7, Try.ntmps7
  go_wp2_with (first
    | (go_at_call 10; ((with_reducible refine (q1 _).mono ?_); rintro e w1 ⟨rfl, b1⟩))
    | (go_at_call 11; ((with_reducible refine (q2 _).mono ?_); rintro e w2 ⟨rfl, b2⟩))
    | (go_at_call 14; ((with_reducible refine (q3 _).mono ?_); rintro e w3 ⟨rfl, rfl⟩))
    | (go_at_call 9; ((with_reducible refine (q4 _).mono ?_); rintro e w4 ⟨rfl, rfl⟩))
    | (go_at_call 12; ((with_reducible refine (q5 _).mono ?_); rintro e w5 ⟨rfl, b5⟩))
    | (go_at_call 12; ((with_reducible refine (q6 _).mono ?_); rintro e w6 ⟨rfl, b6⟩)))
  go_ret
  exact ⟨rfl, below_step (below_step (below_step b1 (Nat.le_refl _) b2) (Nat.le_refl _) b5) (Nat.le_refl _) b6⟩
end Go.Proofs.Ythhmncmbnbkhaaa
