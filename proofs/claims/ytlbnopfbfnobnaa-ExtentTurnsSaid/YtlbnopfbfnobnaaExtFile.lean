/-
  Package extent: isFile, Has, by the library's ContainsFunc.
-/
import Derived.Test.YtlbnopfbfnobnaaExtBeside
namespace Go.Proofs.Ytlbnopfbfnobnaa
open Go.RowKit Ext

theorem notsound_any (a n : Int) (w : World) (h : okR (a, n)) :
    Calls Try.prog 44 #[.agg #[.int .i64 a, .int .i64 n]] w fun e w' => e = .returned (.bool (!sndB (a, n))) ∧ Below w.heap.size w w' := by
  go_enter Try.func44, Try.ntmps44
  go_wp2_with (go_at_call 33; refine (sound_any a n _ h).mono ?_; rintro e w2 ⟨rfl, b2⟩)
  go_ret
  exact ⟨rfl, below_step (below_box _ _) (Nat.le_refl _) b2⟩
def nsB (r : Rn) : Bool := !sndB r
def inB (s : Int) (r : Rn) : Bool := decide (1 ≤ r.2) && decide (r.1 ≤ s) && decide (s < r.1 + r.2)
set_option maxHeartbeats 800000 in
theorem inrun_any (a n s : Int) (p : Nat) (w : World) (h1 : 0 ≤ a) (h2 : 1 ≤ n) (h3 : n ≤ 65536 - a) (s1 : 0 ≤ s) (s2 : s ≤ 100000) (hc : w.cell? ⟨p, 0, none⟩ = some (.int .i64 s)) (hp : p < w.heap.size) :
    Calls Try.prog 42 #[.agg #[.int .i64 a, .int .i64 n], .pointer (some ⟨p, 0, none⟩)] w fun e w' => e = .returned (.bool (inB s (a, n))) ∧ Below w.heap.size w w' := by
  unfold inB
  simp only
  rw [decide_eq_true h2, Bool.true_and]
  have hc' : (w.alloc (.cells #[.int .i64 a, .int .i64 n] 24)).cell? ⟨p, 0, none⟩ = some (.int .i64 s) := (World.cell?_alloc_lt w _ ⟨p, 0, none⟩ hp).trans hc
  by_cases has : a ≤ s
  · rw [decide_eq_true has, Bool.true_and, show decide (s < a + n) = decide (s - a < n) from by rw [decide_eq_decide]; omega]
    go_enter Try.func42, Try.ntmps42
    go_wp2
    go_ret
    exact ⟨rfl, below_box _ _⟩
  · rw [decide_eq_false has, Bool.false_and]
    go_enter Try.func42, Try.ntmps42
    go_wp2
    go_ret
    exact ⟨rfl, below_box _ _⟩

set_option maxHeartbeats 3200000 in
set_option maxRecDepth 100000 in
theorem idx_file (v : Value) (l : List Rn)  (w : World) (hl : Runs w v l)  :
    Calls Try.prog 46 #[v, .func (.func 44) #[] #[]] w fun e w' => ∃ i : Int, e = .returned (.int .i64 i) ∧ decide (0 ≤ i) = l.any nsB ∧ Below w.heap.size w w' := by
  obtain ⟨va, cap, rfl, hlc, hcap⟩ := hl.slice
  have HOK := Lib.hid hl.ok
  go_enter Try.func46, Try.ntmps46
  go_wp2
  go_loopw [8] (fun s8 wr => ∃ k : Nat, k ≤ l.length ∧ s8 = .int .i64 k ∧ (l.take k).any nsB = false ∧ Below w.heap.size w wr) (fun s8 _ => l.length - (intOf s8).toNat)
  case atStart => exact ⟨0, by omega, rfl, rfl, Below.refl _ _⟩
  case round =>
    obtain ⟨k, hk, rfl, hc, hb⟩ := hrel
    have HC := Lib.hid hc
    clear hc
    by_cases hlt : k < l.length
    · have hokr := HOK.out l[k] (List.getElem_mem hlt)
      have htk := List.take_succ_eq_append_getElem hlt
      have hdr := List.drop_eq_getElem_cons hlt
      have _u := trivial
      obtain ⟨b, off, rfl, hbB, -, e0, e1⟩ := (hl.old hb).at k hlt
      obtain ⟨x, hx⟩ : ∃ x, x = l[k] := ⟨_, rfl⟩
      rw [← hx] at htk hdr hokr e0 e1 
      obtain ⟨a, n⟩ := x
      simp only at e0 e1
      have HTK := Lib.hid htk
      have HDR := Lib.hid hdr
      have hcall := notsound_any a n wr hokr
      clear htk hdr hokr hx
      cases hp : nsB (a, n) with
      | false =>
        rw [show (!sndB (a, n)) = nsB (a, n) from rfl, hp] at hcall
        go_wp2_with (go_at_call 44; refine hcall.mono ?_; rintro e w1 ⟨rfl, b1⟩)
        go_roundw
        case rel => exact ⟨k + 1, by omega, by go_num, by rw [HTK.out, List.any_append, HC.out]; simpa using hp, below_step hb (Nat.le_refl _) b1⟩
        case measure => simp [intOf]; omega
      | true =>
        rw [show (!sndB (a, n)) = nsB (a, n) from rfl, hp] at hcall
        go_wp2_with (go_at_call 44; refine hcall.mono ?_; rintro e w1 ⟨rfl, b1⟩)
        go_ret
        refine ⟨k, rfl, ?_, below_step hb (Nat.le_refl _) b1⟩
        have h1 : l.any nsB = true := by
          rw [← List.take_append_drop k l, List.any_append, HDR.out, List.any_cons, hp]; simp
        rw [h1, decide_eq_true (by omega)]
    · go_wp2
      go_ret
      refine ⟨-1, rfl, ?_, hb⟩
      have h1 := HC.out
      rw [List.take_of_length_le (by omega)] at h1
      rw [h1]; rfl
set_option maxHeartbeats 800000 in
theorem cont_file (v : Value) (l : List Rn)  (w : World) (hl : Runs w v l)  :
    Calls Try.prog 41 #[v, .func (.func 44) #[] #[]] w fun e w' => e = .returned (.bool (l.any nsB)) ∧ Below w.heap.size w w' := by
  obtain ⟨va, cap, rfl, hlc, hcap⟩ := hl.slice
  have hi := idx_file _ l  w hl 
  go_enter Try.func41, Try.ntmps41
  go_wp2_with (go_at_call 46; refine hi.mono ?_; rintro e w1 ⟨i, rfl, hi1, b1⟩; have HI := Lib.hid hi1; clear hi1)
  go_ret
  refine ⟨?_, b1⟩
  rw [← HI.out]; rfl


set_option maxHeartbeats 3200000 in
set_option maxRecDepth 100000 in
theorem idx_has (v : Value) (l : List Rn) (s : Int) (p : Nat) (w : World) (hl : Runs w v l) (hf : fileB l = true) (s1 : 0 ≤ s) (s2 : s ≤ 100000) (hc : w.cell? ⟨p, 0, none⟩ = some (.int .i64 s)) (hp : p < w.heap.size) :
    Calls Try.prog 46 #[v, .func (.func 42) #[] #[.pointer (some ⟨p, 0, none⟩)]] w fun e w' => ∃ i : Int, e = .returned (.int .i64 i) ∧ decide (0 ≤ i) = l.any (inB s) ∧ Below w.heap.size w w' := by
  obtain ⟨va, cap, rfl, hlc, hcap⟩ := hl.slice
  have HOK := Lib.hid hl.ok
  go_enter Try.func46, Try.ntmps46
  go_wp2
  go_loopw [8] (fun s8 wr => ∃ k : Nat, k ≤ l.length ∧ s8 = .int .i64 k ∧ (l.take k).any (inB s) = false ∧ Below w.heap.size w wr) (fun s8 _ => l.length - (intOf s8).toNat)
  case atStart => exact ⟨0, by omega, rfl, rfl, Below.refl _ _⟩
  case round =>
    obtain ⟨k, hk, rfl, hc, hb⟩ := hrel
    have HC := Lib.hid hc
    clear hc
    by_cases hlt : k < l.length
    · have hokr := HOK.out l[k] (List.getElem_mem hlt)
      have htk := List.take_succ_eq_append_getElem hlt
      have hdr := List.drop_eq_getElem_cons hlt
      have hs := fileB_get hf k hlt
      obtain ⟨b, off, rfl, hbB, -, e0, e1⟩ := (hl.old hb).at k hlt
      obtain ⟨x, hx⟩ : ∃ x, x = l[k] := ⟨_, rfl⟩
      rw [← hx] at htk hdr hokr e0 e1 hs
      obtain ⟨a, n⟩ := x
      simp only at e0 e1
      have HTK := Lib.hid htk
      have HDR := Lib.hid hdr
      have hcall := inrun_any a n s p wr hs.1 hs.2.1 hs.2.2 s1 s2 ((hb.cell (p := ⟨p, 0, none⟩) hp).trans hc) (Nat.lt_of_lt_of_le hp hb.size)
      clear htk hdr hokr hx
      cases hq : (inB s) (a, n) with
      | false =>
        rw [hq] at hcall
        go_wp2_with (go_at_call 42; refine hcall.mono ?_; rintro e w1 ⟨rfl, b1⟩)
        go_roundw
        case rel => exact ⟨k + 1, by omega, by go_num, by rw [HTK.out, List.any_append, HC.out]; simpa using hq, below_step hb (Nat.le_refl _) b1⟩
        case measure => simp [intOf]; omega
      | true =>
        rw [hq] at hcall
        go_wp2_with (go_at_call 42; refine hcall.mono ?_; rintro e w1 ⟨rfl, b1⟩)
        go_ret
        refine ⟨k, rfl, ?_, below_step hb (Nat.le_refl _) b1⟩
        have h1 : l.any (inB s) = true := by
          rw [← List.take_append_drop k l, List.any_append, HDR.out, List.any_cons, hq]; simp
        rw [h1, decide_eq_true (by omega)]
    · go_wp2
      go_ret
      refine ⟨-1, rfl, ?_, hb⟩
      have h1 := HC.out
      rw [List.take_of_length_le (by omega)] at h1
      rw [h1]; rfl
set_option maxHeartbeats 800000 in
theorem cont_has (v : Value) (l : List Rn) (s : Int) (p : Nat) (w : World) (hl : Runs w v l) (hf : fileB l = true) (s1 : 0 ≤ s) (s2 : s ≤ 100000) (hc : w.cell? ⟨p, 0, none⟩ = some (.int .i64 s)) (hp : p < w.heap.size) :
    Calls Try.prog 41 #[v, .func (.func 42) #[] #[.pointer (some ⟨p, 0, none⟩)]] w fun e w' => e = .returned (.bool (l.any (inB s))) ∧ Below w.heap.size w w' := by
  obtain ⟨va, cap, rfl, hlc, hcap⟩ := hl.slice
  have hi := idx_has _ l s p w hl hf s1 s2 hc hp
  go_enter Try.func41, Try.ntmps41
  go_wp2_with (go_at_call 46; refine hi.mono ?_; rintro e w1 ⟨i, rfl, hi1, b1⟩; have HI := Lib.hid hi1; clear hi1)
  go_ret
  refine ⟨?_, b1⟩
  rw [← HI.out]; rfl

theorem any_ns (l : List Rn) : (!l.any nsB) = fileB l := by
  unfold fileB
  induction l with
  | nil => rfl
  | cons r t ih => rw [List.any_cons, List.all_cons, Bool.not_or, ih]; simp [nsB]
theorem isfile_any (v : Value) (l : List Rn) (w : World) (hl : Runs w v l) :
    Calls Try.prog 38 #[v] w fun e w' => e = .returned (.bool (fileB l)) ∧ Below w.heap.size w w' := by
  obtain ⟨va, cap, rfl, hlc, hcap⟩ := hl.slice
  rw [← any_ns]
  go_enter Try.func38, Try.ntmps38
  go_wp2_with (go_at_call 41; refine (cont_file _ l w hl).mono ?_; rintro e w1 ⟨rfl, b1⟩)
  go_ret
  exact ⟨rfl, b1⟩
theorem has_any (v : Value) (l : List Rn) (s : Int) (w : World) (hl : Runs w v l) (hf : fileB l = true) (s1 : 0 ≤ s) (s2 : s ≤ 100000) :
    Calls Try.prog 28 #[v, .int .i64 s] w fun e w' => e = .returned (.bool (hasB l s)) ∧ Below w.heap.size w w' := by
  obtain ⟨va, cap, rfl, hlc, hcap⟩ := hl.slice
  have hc := cont_has _ l s w.heap.size (w.alloc (.cells #[.int .i64 s] 3)) (hl.old (below_box _ _)) hf s1 s2 (cell_of (heap_alloc_last w _) 0) (by simp)
  go_enter Try.func28, Try.ntmps28
  go_wp2_with (go_at_call 41; refine hc.mono ?_; rintro e w1 ⟨rfl, b1⟩)
  go_ret
  exact ⟨rfl, below_step (below_box w _) (Nat.le_refl _) b1⟩
end Go.Proofs.Ytlbnopfbfnobnaa
