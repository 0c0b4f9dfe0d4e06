/-
  Package window: times, widths, the sum that fits or does not, and what leans on it.
-/
import Derived.Test.YthhmncmbnbkhaaaMGen
import Derived.Deep.DeepCutAuto
import Derived.Laws.EntriesVeiled
namespace Go.Proofs.Ythhmncmbnbkhaaa
open Go.RowKit

/-- The greatest time. -/
def MT : Int := 1125899906842624
/-- A time. -/
def isT (n : Int) : Prop := 0 ≤ n ∧ n ≤ 1125899906842624
instance (n : Int) : Decidable (isT n) := inferInstanceAs (Decidable (_ ∧ _))
/-- A width. -/
def isW (n : Int) : Prop := 1 ≤ n ∧ n ≤ 1125899906842624
instance (n : Int) : Decidable (isW n) := inferInstanceAs (Decidable (_ ∧ _))
/-- The sum that lies so many more widths and then a term behind the window's begin. -/
def sumW (w m x t : Int) : Int := w * x + m * x + t
/-- It may be. -/
def okW (w m x t : Int) : Prop := isT w ∧ isW x ∧ isT t ∧ sumW w m x t ≤ 1125899906842624
instance (w m x t : Int) : Decidable (okW w m x t) := inferInstanceAs (Decidable (_ ∧ _ ∧ _ ∧ _))
def valW (w m x t : Int) : Int := if okW w m x t then sumW w m x t else 0

theorem isTime_any (n : Int) (w : World) :
    Calls Try.prog 16 #[.int .i64 n] w fun e w' => e = .returned (.bool (decide (isT n))) ∧ w = w' := by
  by_cases h : 0 ≤ n
  · rw [show decide (isT n) = decide (n ≤ 1125899906842624) from by simp [isT, h]]
    go_enter Try.func16, Try.ntmps16
    go_wp2
    go_ret
    exact ⟨rfl, rfl⟩
  · rw [decide_eq_false (fun h' : isT n => h h'.1)]
    go_enter Try.func16, Try.ntmps16
    go_wp2
    go_ret
    exact ⟨rfl, rfl⟩
theorem isWidth_any (n : Int) (w : World) :
    Calls Try.prog 17 #[.int .i64 n] w fun e w' => e = .returned (.bool (decide (isW n))) ∧ w = w' := by
  by_cases h : n = 0
  · subst h
    rw [decide_eq_false (fun h' : isW 0 => by have := h'.1; omega)]
    go_enter Try.func17, Try.ntmps17
    go_wp2
    go_ret
    exact ⟨rfl, rfl⟩
  · rw [show decide (isW n) = decide (isT n) from by rw [decide_eq_decide]; unfold isW isT; omega]
    generalize hb : decide (isT n) = b
    have q := isTime_any n w
    rw [hb] at q
    clear hb
    go_enter Try.func17, Try.ntmps17
    go_wp2_with (go_at_call 16; refine q.mono ?_; rintro e w1 ⟨rfl, rfl⟩)
    go_ret
    exact ⟨by simp [h], rfl⟩

/-- Block p is a variable that has the number s. -/
def SumAt (p : Nat) (s : Int) (w : World) : Prop := w.heap[p]? = some (.cells #[.int .i64 s] 3 (0, 0))
theorem SumAt.cell {p : Nat} {s : Int} {w : World} (h : SumAt p s w) : w.cell? ⟨p, 0, none⟩ = some (.int .i64 s) := (cell_of h 0).trans rfl
theorem SumAt.put {p : Nat} {s : Int} {w : World} (h : SumAt p s w) (z : Int) : SumAt p z (w.setCell ⟨p, 0, none⟩ (.int .i64 z)) := by
  have := heap_set (i := 0) h (.int .i64 z)
  simpa [SumAt] using this
theorem fits_iff {s many size : Int} (hs : s ≤ 1125899906842624) (hz : 1 ≤ size) : many ≤ (1125899906842624 - s).tdiv size ↔ s + many * size ≤ 1125899906842624 := by
  rw [Int.tdiv_eq_ediv_of_nonneg (by omega), Int.le_ediv_iff_mul_le (by omega)]
  omega
set_option maxHeartbeats 1600000 in
theorem add_ok (p : Nat) (s many size P : Int) (w : World) (hp : SumAt p s w) (h0 : 0 ≤ s) (hm : 0 ≤ many) (hz : 1 ≤ size) (hz2 : size ≤ 1125899906842624) (hP : P = many * size) (hP0 : 0 ≤ P) (hf : s + P ≤ 1125899906842624) :
    Calls Try.prog 19 #[.int .i64 many, .int .i64 size, .pointer (some ⟨p, 0, none⟩)] w fun e w' => e = .returned (.bool true) ∧ w' = w.setCell ⟨p, 0, none⟩ (.int .i64 (s + P)) := by
  obtain ⟨Q, hQ⟩ : ∃ Q, Q = (1125899906842624 - s).tdiv size := ⟨_, rfl⟩
  have hfit : many ≤ Q := by rw [hQ]; exact (fits_iff (by omega) hz).2 (by rw [← hP]; exact hf)
  have hc := hp.cell
  have hfz : w.frozen? ⟨p, 0, none⟩ = false := fz_of hp 0
  have q0 : (1125899906842624 - s).tdiv size = Q := hQ.symm
  have q1 : many * size = P := hP.symm
  have hq1 : Q ≤ 1125899906842624 := by rw [hQ, Int.tdiv_eq_ediv_of_nonneg (by omega)]; exact Int.le_trans (Int.ediv_le_self _ (by omega)) (by omega)
  have hw : wrap64 Q = Q := IntWalk.wrap64_in Q ⟨by omega, by omega⟩
  clear hQ hP hp
  go_enter Try.func19, Try.ntmps19
  go_wp2
  go_ret
  exact ⟨by simp, rfl⟩
set_option maxHeartbeats 1600000 in
theorem add_no (p : Nat) (s many size : Int) (w : World) (hp : SumAt p s w) (h0 : 0 ≤ s) (hs : s ≤ 1125899906842624) (_hm : 0 ≤ many) (hz : 1 ≤ size) (hz2 : size ≤ 1125899906842624) (hf : ¬ s + many * size ≤ 1125899906842624) :
    Calls Try.prog 19 #[.int .i64 many, .int .i64 size, .pointer (some ⟨p, 0, none⟩)] w fun e w' => e = .returned (.bool false) ∧ w' = w := by
  obtain ⟨Q, hQ⟩ : ∃ Q, Q = (1125899906842624 - s).tdiv size := ⟨_, rfl⟩
  have hfit : ¬ many ≤ Q := by rw [hQ, fits_iff (by omega) hz]; exact hf
  have hc := hp.cell
  have hq0 : 0 ≤ Q := by rw [hQ]; exact Int.tdiv_nonneg (by omega) (by omega)
  have hq1 : Q ≤ 1125899906842624 := by rw [hQ, Int.tdiv_eq_ediv_of_nonneg (by omega)]; exact Int.le_trans (Int.ediv_le_self _ (by omega)) (by omega)
  have q0 : (1125899906842624 - s).tdiv size = Q := hQ.symm
  have hw : wrap64 Q = Q := IntWalk.wrap64_in Q ⟨by omega, by omega⟩
  clear hQ hp hf
  go_enter Try.func19, Try.ntmps19
  go_wp2
  go_ret
  exact ⟨by simp, rfl⟩
theorem valW_f {w m x t : Int} (h : ¬ okW w m x t) : valW w m x t = 0 := if_neg h
theorem valW_t {w m x t : Int} (h : okW w m x t) : valW w m x t = sumW w m x t := if_pos h
set_option maxHeartbeats 3200000 in
theorem reckon_any (a m x t : Int) (w : World) (hm : 0 ≤ m) (_hm1 : m ≤ 1) :
    Calls Try.prog 18 #[.int .i64 a, .int .i64 m, .int .i64 x, .int .i64 t] w fun e w' => e = .returned (.tuple #[.int .i64 (valW a m x t), .bool (decide (okW a m x t))]) ∧ Below w.heap.size w w' := by
  have hmf : ∀ (fn : Fn) (first cap : Array Value) (w : World), (Instr.makeFunc fn first cap).run Try.prog w = .ok (.func fn first cap) w := fun _ _ _ _ => rfl
  obtain ⟨p, hpq⟩ : ∃ p, p = w.heap.size := ⟨_, rfl⟩
  obtain ⟨W, hW1⟩ : ∃ W, W = w.alloc (.cells #[.int .i64 0] 3) := ⟨_, rfl⟩
  have hb1 : Below w.heap.size w W := by rw [hW1]; exact (Below.refl _ _).alloc (Nat.le_refl _) _
  have hs0 : SumAt p 0 W := by rw [hW1, hpq]; exact heap_alloc_last w _
  have HW1 := Lib.hid hW1
  have HPQ := Lib.hid hpq
  have hlp : w.heap.size ≤ p := by omega
  clear hW1 hpq
  by_cases ha : isT a
  rotate_left
  · rw [valW_f (fun h => ha h.1), decide_eq_false (fun h : okW a m x t => ha h.1)]
    have hta := fun u => isTime_any a u
    rw [decide_eq_false ha] at hta
    go_enter Try.func18, Try.ntmps18
    go_wp2
    go_step3
    go_wp2
    rw [← HW1.out, ← HPQ.out]
    clear HW1
    go_step3
    go_wp2_with (first
      | (go_at_call 16; ((with_reducible refine (hta _).mono ?_); rintro e w5 ⟨rfl, rfl⟩)))
    rw [Exit.noGoto_ret]
    go_ret2
    exact ⟨rfl, hb1⟩
  by_cases hx : isW x
  rotate_left
  · rw [valW_f (fun h => hx h.2.1), decide_eq_false (fun h : okW a m x t => hx h.2.1)]
    have hta := fun u => isTime_any a u
    rw [decide_eq_true ha] at hta
    have hwx := fun u => isWidth_any x u
    rw [decide_eq_false hx] at hwx
    go_enter Try.func18, Try.ntmps18
    go_wp2
    go_step3
    go_wp2
    rw [← HW1.out, ← HPQ.out]
    clear HW1
    go_step3
    go_wp2_with (first
      | (go_at_call 16; ((with_reducible refine (hta _).mono ?_); rintro e w5 ⟨rfl, rfl⟩))
      | (go_at_call 17; ((with_reducible refine (hwx _).mono ?_); rintro e w6 ⟨rfl, rfl⟩)))
    rw [Exit.noGoto_ret]
    go_ret2
    exact ⟨rfl, hb1⟩
  by_cases htt : isT t
  rotate_left
  · rw [valW_f (fun h => htt h.2.2.1), decide_eq_false (fun h : okW a m x t => htt h.2.2.1)]
    have hta := fun u => isTime_any a u
    rw [decide_eq_true ha] at hta
    have hwx := fun u => isWidth_any x u
    rw [decide_eq_true hx] at hwx
    have htb := fun u => isTime_any t u
    rw [decide_eq_false htt] at htb
    go_enter Try.func18, Try.ntmps18
    go_wp2
    go_step3
    go_wp2
    rw [← HW1.out, ← HPQ.out]
    clear HW1
    go_step3
    go_wp2_with (first
      | (go_at_call 16; ((with_reducible refine (hta _).mono ?_); rintro e w5 ⟨rfl, rfl⟩))
      | (go_at_call 16; ((with_reducible refine (htb _).mono ?_); rintro e w5 ⟨rfl, rfl⟩))
      | (go_at_call 17; ((with_reducible refine (hwx _).mono ?_); rintro e w6 ⟨rfl, rfl⟩)))
    rw [Exit.noGoto_ret]
    go_ret2
    exact ⟨rfl, hb1⟩
  have hta := fun u => isTime_any a u
  rw [decide_eq_true ha] at hta
  have hwx := fun u => isWidth_any x u
  rw [decide_eq_true hx] at hwx
  have htb := fun u => isTime_any t u
  rw [decide_eq_true htt] at htb
  have hax : 0 ≤ a * x := Int.mul_nonneg ha.1 (by have := hx.1; omega)
  have hmx : 0 ≤ m * x := Int.mul_nonneg hm (by have := hx.1; omega)
  have hok : okW a m x t ↔ a * x + m * x + t ≤ 1125899906842624 := ⟨fun h => h.2.2.2, fun h => ⟨ha, hx, htt, h⟩⟩
  have hval : okW a m x t → valW a m x t = a * x + m * x + t := fun h => valW_t h
  have hnval : ¬ okW a m x t → valW a m x t = 0 := fun h => valW_f h
  have ha0 := ha.1
  have hx1 := hx.1
  have hx2 := hx.2
  have ht0 := htt.1
  clear ha hx htt
  obtain ⟨P, hP⟩ : ∃ P, P = a * x := ⟨_, rfl⟩
  obtain ⟨R, hR⟩ : ∃ R, R = m * x := ⟨_, rfl⟩
  by_cases f1 : P ≤ 1125899906842624
  rotate_left
  · have hn : ¬ okW a m x t := fun h => by have := hok.1 h; omega
    rw [hnval hn, decide_eq_false hn]
    have q1 := add_no p 0 a x W hs0 (by omega) (by omega) ha0 hx1 hx2 (by rw [← hP]; omega)
    have HN := Lib.hid hP
    have HR := Lib.hid hR
    clear hok hval hnval hn hP hR hax hmx
    go_enter Try.func18, Try.ntmps18
    go_wp2
    go_step3
    go_wp2
    rw [← HW1.out, ← HPQ.out]
    clear HW1
    go_step3
    go_wp2_with (first
      | (go_at_call 16; ((with_reducible refine (hta _).mono ?_); rintro e w5 ⟨rfl, rfl⟩))
      | (go_at_call 16; ((with_reducible refine (htb _).mono ?_); rintro e w5 ⟨rfl, rfl⟩))
      | (go_at_call 17; ((with_reducible refine (hwx _).mono ?_); rintro e w6 ⟨rfl, rfl⟩))
      | (go_at_call 19; ((with_reducible refine (q1).mono ?_); rintro e w2 ⟨rfl, rfl⟩)))
    rw [Exit.noGoto_ret]
    go_ret2
    exact ⟨rfl, hb1⟩
  have q1 := add_ok p 0 a x P W hs0 (by omega) ha0 hx1 hx2 hP (by omega) (by omega)
  rw [Int.zero_add] at q1
  have hs1 := hs0.put P
  have hb2 : Below w.heap.size w (W.setCell ⟨p, 0, none⟩ (.int .i64 P)) := hb1.setCell (p := ⟨p, 0, none⟩) hlp _
  obtain ⟨W2, hW2⟩ : ∃ W2, W2 = W.setCell ⟨p, 0, none⟩ (.int .i64 P) := ⟨_, rfl⟩
  rw [← hW2] at q1 hs1 hb2
  by_cases f2 : P + R ≤ 1125899906842624
  rotate_left
  · have hn : ¬ okW a m x t := fun h => by have := hok.1 h; omega
    rw [hnval hn, decide_eq_false hn]
    have q2 := add_no p P m x W2 hs1 (by omega) (by omega) hm hx1 hx2 (by rw [← hR]; omega)
    have HN := Lib.hid hP
    have HR := Lib.hid hR
    clear hok hval hnval hn hP hR hax hmx hW2
    go_enter Try.func18, Try.ntmps18
    go_wp2
    go_step3
    go_wp2
    rw [← HW1.out, ← HPQ.out]
    clear HW1
    go_step3
    go_wp2_with (first
      | (go_at_call 16; ((with_reducible refine (hta _).mono ?_); rintro e w5 ⟨rfl, rfl⟩))
      | (go_at_call 16; ((with_reducible refine (htb _).mono ?_); rintro e w5 ⟨rfl, rfl⟩))
      | (go_at_call 17; ((with_reducible refine (hwx _).mono ?_); rintro e w6 ⟨rfl, rfl⟩))
      | (go_at_call 19; ((with_reducible refine (q1).mono ?_); rintro e w2 ⟨rfl, rfl⟩))
      | (go_at_call 19; ((with_reducible refine (q2).mono ?_); rintro e w3 ⟨rfl, rfl⟩)))
    rw [Exit.noGoto_ret]
    go_ret2
    exact ⟨rfl, hb2⟩
  have q2 := add_ok p P m x R W2 hs1 (by omega) hm hx1 hx2 hR (by omega) (by omega)
  have hs2 := hs1.put (P + R)
  have hb3 : Below w.heap.size w (W2.setCell ⟨p, 0, none⟩ (.int .i64 (P + R))) := hb2.setCell (p := ⟨p, 0, none⟩) hlp _
  obtain ⟨W3, hW3⟩ : ∃ W3, W3 = W2.setCell ⟨p, 0, none⟩ (.int .i64 (P + R)) := ⟨_, rfl⟩
  rw [← hW3] at q2 hs2 hb3
  by_cases f3 : P + R + t ≤ 1125899906842624
  rotate_left
  · have hn : ¬ okW a m x t := fun h => by have := hok.1 h; omega
    rw [hnval hn, decide_eq_false hn]
    have q3 := add_no p (P + R) t 1 W3 hs2 (by omega) (by omega) ht0 (by omega) (by omega) (by omega)
    have HN := Lib.hid hP
    have HR := Lib.hid hR
    clear hok hval hnval hn hP hR hax hmx hW2 hW3
    go_enter Try.func18, Try.ntmps18
    go_wp2
    go_step3
    go_wp2
    rw [← HW1.out, ← HPQ.out]
    clear HW1
    go_step3
    go_wp2_with (first
      | (go_at_call 16; ((with_reducible refine (hta _).mono ?_); rintro e w5 ⟨rfl, rfl⟩))
      | (go_at_call 16; ((with_reducible refine (htb _).mono ?_); rintro e w5 ⟨rfl, rfl⟩))
      | (go_at_call 17; ((with_reducible refine (hwx _).mono ?_); rintro e w6 ⟨rfl, rfl⟩))
      | (go_at_call 19; ((with_reducible refine (q1).mono ?_); rintro e w2 ⟨rfl, rfl⟩))
      | (go_at_call 19; ((with_reducible refine (q2).mono ?_); rintro e w3 ⟨rfl, rfl⟩))
      | (go_at_call 19; ((with_reducible refine (q3).mono ?_); rintro e w4 ⟨rfl, rfl⟩)))
    rw [Exit.noGoto_ret]
    go_ret2
    exact ⟨rfl, hb3⟩
  have q3 := add_ok p (P + R) t 1 t W3 hs2 (by omega) ht0 (by omega) (by omega) (by omega) (by omega) (by omega)
  have hs3 := hs2.put (P + R + t)
  have hb4 : Below w.heap.size w (W3.setCell ⟨p, 0, none⟩ (.int .i64 (P + R + t))) := hb3.setCell (p := ⟨p, 0, none⟩) hlp _
  obtain ⟨W4, hW4⟩ : ∃ W4, W4 = W3.setCell ⟨p, 0, none⟩ (.int .i64 (P + R + t)) := ⟨_, rfl⟩
  rw [← hW4] at q3 hs3 hb4
  have hn : okW a m x t := hok.2 (by omega)
  rw [hval hn, decide_eq_true hn, ← hP, ← hR]
  have hc4 := hs3.cell
  have HN := Lib.hid hP
  have HR := Lib.hid hR
  clear hok hval hnval hn hP hR hax hmx hW2 hW3 hW4 hs0 hs1 hs2 hs3
  go_enter Try.func18, Try.ntmps18
  go_wp2
  go_step3
  go_wp2
  rw [← HW1.out, ← HPQ.out]
  clear HW1
  go_step3
  go_wp2_with (first
    | (go_at_call 16; ((with_reducible refine (hta _).mono ?_); rintro e w5 ⟨rfl, rfl⟩))
    | (go_at_call 16; ((with_reducible refine (htb _).mono ?_); rintro e w5 ⟨rfl, rfl⟩))
    | (go_at_call 17; ((with_reducible refine (hwx _).mono ?_); rintro e w6 ⟨rfl, rfl⟩))
    | (go_at_call 19; ((with_reducible refine (q1).mono ?_); rintro e w2 ⟨rfl, rfl⟩))
    | (go_at_call 19; ((with_reducible refine (q2).mono ?_); rintro e w3 ⟨rfl, rfl⟩))
    | (go_at_call 19; ((with_reducible refine (q3).mono ?_); rintro e w4 ⟨rfl, rfl⟩)))
  rw [Exit.noGoto_ret]
  go_ret2
  exact ⟨rfl, hb4⟩
end Go.Proofs.Ythhmncmbnbkhaaa
