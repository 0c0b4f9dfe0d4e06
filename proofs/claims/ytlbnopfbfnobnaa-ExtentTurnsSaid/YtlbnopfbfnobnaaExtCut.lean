/-
  Package extent: Cut, Rest; the library's Grow and Concat of runs.
-/
import Derived.Test.YtlbnopfbfnobnaaExtTake
import Derived.Test.YtlbnopfbfnobnaaExtAll
namespace Go.Proofs.Ytlbnopfbfnobnaa
open Go.RowKit Ext

set_option maxHeartbeats 800000 in
theorem cut_any (v : Value) (l : List Rn) (n : Int) (w : World) (hl : Runs w v l) (hf : fileB l = true) (hn1 : -9223372036854775808 ≤ n) (hn2 : n ≤ 9223372036854775807) (hln : l.length ≤ 1000) :
    Calls Try.prog 24 #[v, .int .i64 n] w fun e w' => ∃ v1 v2, e = .returned (.tuple #[v1, v2]) ∧ Runs w' v1 (sf l n) ∧ Runs w' v2 (sg l (max n 0)) ∧ Below w.heap.size w w' := by
  obtain ⟨va, cap, rfl, hlc, hcap⟩ := hl.slice
  have hif := isfile_any _ l w hl
  rw [hf] at hif
  have hsp := fun u (hu : Runs u (.slice va l.length cap) l) => split_any _ l n u hu hf hn1 hn2 hln
  rw [sf_max hf] at hsp
  go_enter Try.func24, Try.ntmps24
  go_wp2_with (first
    | (go_at_call 38; refine hif.mono ?_; rintro e w1 ⟨rfl, b1⟩; replace hl := hl.old b1)
    | (go_at_call 30; refine (hsp _ hl).mono ?_; rintro e w4 ⟨v1, v2, rfl, h1, h2, b4⟩))
  go_ret2
  exact ⟨v1, v2, rfl, h1, h2, below_step b1 (Nat.le_refl _) b4⟩
set_option maxHeartbeats 800000 in
theorem rest_any (v : Value) (l : List Rn) (f n : Int) (w : World) (hl : Runs w v l) (hf : fileB l = true) (hf1 : -9223372036854775808 ≤ f) (hf2 : f ≤ 9223372036854775807) (hn1 : -9223372036854775808 ≤ n) (hn2 : n ≤ 9223372036854775807) (hln : l.length ≤ 1000) :
    Calls Try.prog 20 #[v, .int .i64 f, .int .i64 n] w fun e w' => ∃ v1, e = .returned v1 ∧ Runs w' v1 (sf (sg l (max f 0)) n) ∧ Below w.heap.size w w' := by
  have h1 := cut_any v l f w hl hf hf1 hf2 hln
  have h2 := fun u v (hu : Runs u v (sg l (max f 0))) => cut_any v (sg l (max f 0)) n u hu (sg_file hf _) hn1 hn2 (by have := sg_len l (max f 0); omega)
  obtain ⟨va, cap, rfl, hlc, hcap⟩ := hl.slice
  go_enter Try.func20, Try.ntmps20
  go_upto_region 2 with (go_at_call 24; refine h1.mono ?_; rintro e w4 ⟨v1, v2, rfl, r1, r2, b4⟩)
  clear h1
  go_wp2_with (go_at_call 24; refine (h2 _ _ r2).mono ?_; rintro e w5 ⟨v3, v4, rfl, r3, r4, b5⟩)
  go_ret
  exact ⟨v3, rfl, r3, below_step b4 (Nat.le_refl _) b5⟩
theorem slice_h0 (b : Nat) (n cap : Nat) (w : World) : (Instr.slice 22 (.slice (some ⟨b, 0, none⟩) n cap) none (some (.int .i64 0)) none).run Try.prog w = .ok (.slice (some ⟨b, 0, none⟩) 0 cap) w := slice_h _ n cap 0 (Nat.zero_le _) w
set_option maxHeartbeats 1600000 in
theorem grow_any (n : Nat) (w : World) (hn : n ≤ 1000000) :
    Calls Try.prog 45 #[.slice none 0 0, .int .i64 n] w fun e w' => ∃ v', e = .returned v' ∧ Own w.heap.size w' v' [] ∧ Below w.heap.size w w' := by
  by_cases h0 : n = 0
  · subst h0
    go_enter Try.func45, Try.ntmps45
    go_wp2
    go_ret
    exact ⟨_, rfl, Own.nil _ _, Below.refl _ _⟩
  · obtain ⟨i0, hi, hz0, hz1, hz2⟩ := info_parts info_run
    have hr := Lib.run_append_nil_zeros (P := Try.prog) w 22 3 22 24 i0 _ .i64 .i64 Try.underlying22 Try.underlying3 hi hz0 n (by omega) (by rw [hz1]; decide) (by omega) (by rw [hz2]; omega)
    obtain ⟨C, hC⟩ : ∃ C, C = grownCap w n 0 24 := ⟨_, rfl⟩
    have hge := grownCap_ge w n 0 24
    have hle := grownCap_le_maxLen w n 0 24 (by unfold maxLen; omega)
    rw [← hC] at hr hge hle
    obtain ⟨cur, hcur⟩ : ∃ cur, cur = Builtin.zeroCells (Value.agg #[.int .i64 0, .int .i64 0]).cells n ++ Builtin.zeroCells (Value.agg #[.int .i64 0, .int .i64 0]).cells (C - n) := ⟨_, rfl⟩
    have hcs : cur.size = C * 2 := by
      rw [hcur]
      simp only [Array.size_append, size_zeroCells, Value.cells]
      simp
      omega
    rw [← hcur] at hr
    have hown : Own w.heap.size (w.drew.alloc (.cells cur 24)) (.slice (some ⟨w.heap.size, 0, none⟩) 0 C) [] := ⟨World.ownsRow_made w.drew cur C (Nat.le_refl _) hle hcs, fun r hr => by cases hr⟩
    have hbel : Below w.heap.size w (w.drew.alloc (.cells cur 24)) := (below_drew (Below.refl _ _)).alloc (Nat.le_refl _) _
    obtain ⟨W, hW⟩ : ∃ W, W = w.drew.alloc (.cells cur 24) := ⟨_, rfl⟩
    rw [← hW] at hr hown hbel
    have HR := Lib.hid hr
    have HO := Lib.hid hown
    have q1 := slice_h0 w.heap.size n C W
    have hpos : (0 : Int) < n := by omega
    have hneg : ¬ (n : Int) < 0 := by omega
    clear hr hown hC hcur hcs hW hz0 hz1 hz2 hi
    go_enter Try.func45, Try.ntmps45
    go_wp2_with (at_builtin; refine Lib.wpList_append_run _ rfl _ _ _ _ rfl _ _ rfl rfl _ _ HR.out ?_)
    go_ret
    exact ⟨_, rfl, HO.out, hbel⟩
end Go.Proofs.Ytlbnopfbfnobnaa
