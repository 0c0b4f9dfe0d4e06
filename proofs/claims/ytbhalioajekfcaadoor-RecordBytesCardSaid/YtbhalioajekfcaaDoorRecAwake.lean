/-
  The statements' awake, short, small (scriniumlaw15).
-/
import Derived.Test.YtbhalioajekfcaaDoorRecRef
import Derived.Test.YtbhalioajekfcaaDoorRecPure
namespace Go.Proofs.YtbhalioajekfcaaDoor
open Go.RowKit

theorem short15_any (s : ByteArray) (n : Nat) (z : Int) (hz : z = (n : Int)) (w : World) :
    Calls Tryd.prog 15 #[.string s, .int .i64 z] w fun e w' => e = .returned (.string (shortB s n)) ∧ w = w' := by
  subst hz
  unfold shortB
  by_cases h : n < s.size
  · rw [if_pos h]
    have hi : (n : Int) < (s.size : Int) := by omega
    have hn : (n : Int) ≤ (s.size : Int) := by omega
    go_enter Tryd.func15, Tryd.ntmps15
    go_wp2
    go_ret
    exact ⟨by simp, rfl⟩
  · rw [if_neg h]
    have hi : ¬ (n : Int) < (s.size : Int) := by omega
    go_enter Tryd.func15, Tryd.ntmps15
    go_wp2
    go_ret
    exact ⟨rfl, rfl⟩
/-- A slice of one record that was just laid. -/
theorem RowR.one (w : World) (win idx tim : Int) (pay : ByteArray) : RowR (w.alloc (.cells #[.int .i64 win, .int .i64 idx, .int .i64 tim, .string pay] 23)) (.slice (some ⟨w.heap.size, 0, none⟩) 1 1) [⟨win, idx, tim, pay⟩] := by
  have h := RecAt.alloc w win idx tim pay
  refine ⟨_, 1, rfl, (show 1 ≤ 9223372036854775807 by decide), fun j r hr => ⟨w.heap.size, 0, rfl, h.lt, ?_⟩⟩
  have hj : j < 1 := (List.getElem?_eq_some_iff.1 hr).1
  obtain rfl : j = 0 := by omega
  simp at hr
  subst hr
  exact ⟨h.c0, h.c1, h.c2, h.c3⟩
set_option maxHeartbeats 3200000 in
set_option maxRecDepth 100000 in
theorem awake15_any (w : World) :
    Calls Tryd.prog 4 #[] w fun e w' => e = .returned (.bool true) ∧ Below w.heap.size w w' := by
  have q1 := fun u => recBytes_any 1 0 300 ⟨#[97, 98]⟩ u (by decide)
  rw [show bytV 1 0 300 ⟨#[97, 98]⟩ = ⟨#[1, 1, 0, 2, 1, 44, 1, 2, 97, 98]⟩ from by decide +kernel, show chkZ 1 0 300 ⟨#[97, 98]⟩ = 0 from by decide +kernel] at q1
  have q2 := fun u => row_any _ _ _ (RowR.one u 1 0 300 ⟨#[97, 98]⟩) (by decide) (by intro r hr; simp at hr; subst hr; decide)
  rw [show rowsL [⟨1, 0, 300, ⟨#[97, 98]⟩⟩] = [2, 1, 44, 1, 2, 97, 98] from by decide +kernel] at q2
  have q3 := fun u => recSize_any 1 0 300 ⟨#[97, 98]⟩ u (by decide)
  rw [show (((rowB 300 ⟨#[97, 98]⟩).size : Nat) : Int) = 7 from by decide +kernel] at q3
  obtain ⟨p, hp⟩ : ∃ p, p = w.heap.size := ⟨_, rfl⟩
  obtain ⟨W, hW⟩ : ∃ W, W = w.alloc (.cells #[.int .i64 1, .int .i64 0, .int .i64 300, .string ⟨#[97, 98]⟩] 23) := ⟨_, rfl⟩
  have hb1 : Below w.heap.size w W := by rw [hW]; exact (Below.refl _ _).alloc (Nat.le_refl _) _
  have hr : RecAt p 1 0 300 ⟨#[97, 98]⟩ W := by rw [hW, hp]; exact RecAt.alloc _ _ _ _ _
  have c0 := hr.c0
  have c1 := hr.c1
  have c2 := hr.c2
  have c3 := hr.c3
  have HR := Lib.hid hr
  have HW1 := Lib.hid hW
  have HP := Lib.hid hp
  clear hW hp hr
  go_enter Tryd.func4, Tryd.ntmps4
  go_upto_region 2 with fail
  rw [← HW1.out, ← HP.out]
  clear HW1
  go_wp2_with (first
    | (go_at_call 6; ((with_reducible refine (q1 _).mono ?_); rintro e w3 ⟨rfl, b3⟩; have h3 := HR.out.old b3 HR.out.lt; have d0 := h3.c0; have d1 := h3.c1; have d2 := h3.c2; have d3 := h3.c3; have H3 := Lib.hid h3; clear h3))
    | (go_at_call 13; ((with_reducible refine (q2 _).mono ?_); rintro e w4 ⟨rfl, b4⟩; have b4' := (below_box' w3 _).trans (b4.mono (below_box' w3 _).size); have h4 := H3.out.old b4' H3.out.lt; have e0 := h4.c0; have e1 := h4.c1; have e2 := h4.c2; have e3 := h4.c3; clear h4))
    | (go_at_call 14; ((with_reducible refine (q3 _).mono ?_); rintro e w5 ⟨rfl, b5⟩)))
  go_ret
  exact ⟨rfl, below_step (below_step (below_step hb1 (Nat.le_refl _) b3) (Nat.le_refl _) b4') (Nat.le_refl _) b5⟩
set_option maxHeartbeats 3200000 in
theorem small_any (win idx tim : Int) (pay : ByteArray) (w : World) :
    Calls Tryd.prog 5 #[.agg #[.int .i64 win, .int .i64 idx, .int .i64 tim, .string pay]] w fun e w' => e = .returned (.agg #[.int .i64 win, .int .i64 idx, .int .i64 tim, .string (shortB pay 2010)]) ∧ Below w.heap.size w w' := by
  obtain ⟨S, hS⟩ : ∃ S, S = shortB pay 2010 := ⟨_, rfl⟩
  have q := fun u => short15_any pay 2010 2010 rfl u
  rw [← hS] at q ⊢
  clear hS
  obtain ⟨p, hp⟩ : ∃ p, p = w.heap.size := ⟨_, rfl⟩
  obtain ⟨W, hW⟩ : ∃ W, W = w.alloc (.cells #[.int .i64 win, .int .i64 idx, .int .i64 tim, .string pay] 23) := ⟨_, rfl⟩
  obtain ⟨V, hV⟩ : ∃ V, V = W.alloc (.cells #[.int .i64 0, .int .i64 0, .int .i64 0, .string ⟨#[]⟩] 23) := ⟨_, rfl⟩
  obtain ⟨r, hr⟩ : ∃ r, r = W.heap.size := ⟨_, rfl⟩
  have h1 : RecAt p win idx tim pay W := by rw [hW, hp]; exact RecAt.alloc _ _ _ _ _
  have b1 : Below w.heap.size w W := by rw [hW]; exact below_box' _ _
  have b2 : Below W.heap.size W V := by rw [hV]; exact below_box' _ _
  have hpr : p < r := by rw [hr]; exact h1.lt
  have h2 := h1.old b2 h1.lt
  have g2 : RecAt r 0 0 0 ⟨#[]⟩ V := by rw [hV, hr]; exact RecAt.alloc _ _ _ _ _
  have bb := below_step b1 (Nat.le_refl _) b2
  have hpw : w.heap.size ≤ p := by omega
  have hrw : w.heap.size ≤ r := by omega
  have HW := Lib.hid hW
  have HV := Lib.hid hV
  have HP := Lib.hid hp
  have HR := Lib.hid (show p + 1 = r by rw [hr, hW, hp]; simp)
  clear hW hV hp hr h1 b1 b2
  have c0 := h2.c0
  have c1 := h2.c1
  have c2 := h2.c2
  have c3 := h2.c3
  have f3 := fz_of h2 3
  go_enter Tryd.func5, Tryd.ntmps5
  go_upto_region 1 with fail
  rw [← HW.out, ← HP.out, ← HV.out, HR.out]
  clear HW HV
  go_upto_region 2 with (go_at_call 15; ((with_reducible refine (q _).mono ?_); rintro e w3 ⟨rfl, rfl⟩))
  obtain ⟨X, hX⟩ : ∃ u, u = V.setCell ⟨p, 3, none⟩ (.string S) := ⟨_, rfl⟩
  change Code.wp _ _ _ _ (V.setCell ⟨p, 3, none⟩ (.string S))
  rw [← hX]
  have h3 : RecAt p win idx tim S X := by rw [hX]; exact h2.set3 S
  have g3 : RecAt r 0 0 0 ⟨#[]⟩ X := by rw [hX]; exact g2.kept ((Only.refl p V).setCell 3 _) (by omega)
  have b3 : Below w.heap.size w X := by rw [hX]; exact bb.setCell (p := ⟨p, 3, none⟩) hpw _
  clear hX h2 g2 bb c0 c1 c2 c3 f3
  have c0 := h3.c0
  have c1 := h3.c1
  have c2 := h3.c2
  have c3 := h3.c3
  have d0 := g3.c0
  have d1 := g3.c1
  have d2 := g3.c2
  have d3 := g3.c3
  have f0 := fz_of g3 0
  have f1 := fz_of g3 1
  have f2 := fz_of g3 2
  have f3 := fz_of g3 3
  go_wp2
  have hz := RecAt.set3 (RecAt.set2 (RecAt.set1 (RecAt.set0 g3 win) idx) tim) S
  have hbz := (((b3.setCell (p := ⟨r, 0, none⟩) hrw (.int .i64 win)).setCell (p := ⟨r, 1, none⟩) hrw (.int .i64 idx)).setCell (p := ⟨r, 2, none⟩) hrw (.int .i64 tim)).setCell (p := ⟨r, 3, none⟩) hrw (.string S)
  refine bodyPost_ret (results_cell (t := 2) (ty := 23) (b := r) rfl _ _ _ rfl (RecAt.range hz) Tryd.underlying23 rfl (by kernel_rfl)) rfl ⟨rfl, hbz⟩
end Go.Proofs.YtbhalioajekfcaaDoor
