/-
  Package extent: Check, Total.
-/
import Derived.Test.YtlbnopfbfnobnaaExtSmall
import Derived.Lib.Hide
namespace Go.Proofs.Ytlbnopfbfnobnaa
open Go.RowKit Ext

def chkE (l : List Rn) : Int := if chk 0 l = true then 0 else 1
theorem box_cell {w w1 : World} {c : Array Value} {T : TypeId} (h : Below (w.alloc (.cells c T)).heap.size (w.alloc (.cells c T)) w1) (i : Nat) : w1.cell? ⟨w.heap.size, i, none⟩ = c[i]? :=
  (h.cell (p := ⟨w.heap.size, i, none⟩) (by simp)).trans (cell_of (heap_alloc_last w _) i)
set_option maxHeartbeats 1600000 in
set_option maxRecDepth 100000 in
theorem check_any (v : Value) (l : List Rn) (w : World) (hl : Runs w v l) :
    Calls Try.prog 27 #[v] w fun e w' => e = .returned (.int .i64 (chkE l)) ∧ Below w.heap.size w w' := by
  obtain ⟨va, cap, rfl, hlc, hcap⟩ := hl.slice
  have hok := hl.ok
  have HOK := Lib.hid hok
  clear hok
  go_enter Try.func27, Try.ntmps27
  go_wp2
  go_loopw [3, 8] (fun s3 s8 wr => ∃ (k : Nat) (nx : Int), k ≤ l.length ∧ s8 = .int .i64 k ∧ s3 = .int .i64 nx ∧ (0 ≤ nx ∧ nx ≤ 65537) ∧ chk 0 l = chk nx (l.drop k) ∧ Below w.heap.size w wr) (fun _ s8 _ => l.length - (intOf s8).toNat)
  case atStart => exact ⟨0, 0, by omega, rfl, rfl, by omega, rfl, Below.refl _ _⟩
  case round =>
    obtain ⟨k, nx, hk, rfl, rfl, ⟨hn1, hn2⟩, hc, hb⟩ := hrel
    have HC := Lib.hid hc
    clear hc
    by_cases hlt : k < l.length
    · have hdrop := List.drop_eq_getElem_cons hlt
      have hokr := HOK.out l[k] (List.getElem_mem hlt)
      obtain ⟨b, off, rfl, hbB, _, e0, e1⟩ := (hl.old hb).at k hlt
      obtain ⟨x, hx⟩ : ∃ x, x = l[k] := ⟨_, rfl⟩
      rw [← hx] at hdrop hokr e0 e1
      obtain ⟨a, n⟩ := x
      simp only at e0 e1
      have HD := Lib.hid hdrop
      have hsd := sound_any a n (wr.alloc (.cells #[.int .i64 a, .int .i64 n] 24)) hokr
      clear hdrop hokr hx
      cases hs : sndB (a, n) with
      | false =>
        rw [hs] at hsd
        go_wp2_with (go_at_call 33; refine hsd.mono ?_; rintro e w1 ⟨rfl, b1⟩)
        go_ret
        refine ⟨?_, below_step hb (Nat.le_refl _) (below_step (below_box wr _) (Nat.le_refl _) b1)⟩
        rw [chkE, HC.out, HD.out, chk, hs]; rfl
      | true =>
        rw [hs] at hsd
        have hs' := (sndB_iff _).1 hs
        simp only at hs'
        obtain ⟨s1, s2, s3⟩ := hs'
        by_cases hnx : nx ≤ a
        · go_wp2_with (first
            | (go_at_call 33; refine hsd.mono ?_; rintro e w1 ⟨rfl, b1⟩; have q0 := box_cell b1 0; have q1 := box_cell b1 1)
            | (go_at_call 39; refine (behind_any _ _ _ s1 s2 s3).mono ?_; rintro e w2 ⟨rfl, b2⟩))
          go_roundw
          case rel =>
            refine ⟨k + 1, a + n + 1, by omega, by go_num, rfl, by omega, ?_, below_step (below_step hb (Nat.le_refl _) (below_step (below_box wr _) (Nat.le_refl _) b1)) (Nat.le_refl _) b2⟩
            rw [HC.out, HD.out, chk, hs, decide_eq_true hnx]; rfl
          case measure => simp [intOf]; omega
        · go_wp2_with (first
            | (go_at_call 33; refine hsd.mono ?_; rintro e w1 ⟨rfl, b1⟩; have q0 := box_cell b1 0; have q1 := box_cell b1 1)
            | (go_at_call 39; refine (behind_any _ _ _ s1 s2 s3).mono ?_; rintro e w2 ⟨rfl, b2⟩))
          go_ret
          refine ⟨?_, below_step hb (Nat.le_refl _) (below_step (below_box wr _) (Nat.le_refl _) b1)⟩
          rw [chkE, HC.out, HD.out, chk, hs, decide_eq_false (show ¬ nx ≤ a by omega)]; rfl
    · go_wp2
      go_ret
      refine ⟨?_, hb⟩
      rw [chkE, HC.out, List.drop_eq_nil_of_le (by omega)]; rfl
theorem tot_take (l : List Rn) (k : Nat) (hk : k < l.length) : tot (l.take (k + 1)) = tot (l.take k) + l[k].2 := by
  rw [List.take_succ_eq_append_getElem hk, tot_append]; simp [tot]
theorem file_take {l : List Rn} (h : fileB l = true) (k : Nat) : fileB (l.take k) = true := by
  rw [fileB, List.all_eq_true] at h ⊢
  exact fun x hx => h x (List.mem_of_mem_take hx)
theorem file_drop {l : List Rn} (h : fileB l = true) (k : Nat) : fileB (l.drop k) = true := by
  rw [fileB, List.all_eq_true] at h ⊢
  exact fun x hx => h x (List.mem_of_mem_drop hx)
set_option maxHeartbeats 1600000 in
set_option maxRecDepth 100000 in
theorem total_any (v : Value) (l : List Rn) (w : World) (hl : Runs w v l) (hf : fileB l = true) (hn : l.length ≤ 1000000) :
    Calls Try.prog 26 #[v] w fun e w' => e = .returned (.int .i64 (tot l)) ∧ Below w.heap.size w w' := by
  obtain ⟨va, cap, rfl, hlc, hcap⟩ := hl.slice
  go_enter Try.func26, Try.ntmps26
  go_wp2
  go_loopw [3, 8] (fun s3 s8 wr => ∃ (k : Nat) (t : Int), k ≤ l.length ∧ s8 = .int .i64 k ∧ s3 = .int .i64 t ∧ (0 ≤ t ∧ t ≤ 65536000000) ∧ t = tot (l.take k) ∧ Below w.heap.size w wr) (fun _ s8 _ => l.length - (intOf s8).toNat)
  case atStart => exact ⟨0, 0, by omega, rfl, rfl, by omega, rfl, Below.refl _ _⟩
  case round =>
    obtain ⟨k, t, hk, rfl, rfl, ⟨hn1, hn2⟩, hc, hb⟩ := hrel
    have HC := Lib.hid hc
    clear hc
    by_cases hlt : k < l.length
    · obtain ⟨b, off, rfl, hbB, _, e0, e1⟩ := (hl.old hb).at k hlt
      have hs := fileB_get hf k hlt
      have htk := tot_take l k hlt
      obtain ⟨x, hx⟩ : ∃ x, x = l[k] := ⟨_, rfl⟩
      rw [← hx] at e0 e1 hs htk
      obtain ⟨a, n⟩ := x
      simp only at e0 e1 hs htk
      obtain ⟨s1, s2, s3⟩ := hs
      have hn3 : n ≤ 65536 := by omega
      have htn := tot_nonneg (file_take hf (k + 1))
      rw [List.length_take, Nat.min_eq_left (show k + 1 ≤ l.length by omega), htk, ← HC.out] at htn
      have hb1 : t + n ≤ 65536000000 := by omega
      have HT := Lib.hid htk
      clear htk htn hx
      have m1 : max n 0 = n := Int.max_eq_left (by omega)
      have m2 : min n 1125899906842624 = n := Int.min_eq_left (by omega)
      have m3 : min (t + n) 1125899906842624 = t + n := Int.min_eq_left (by omega)
      go_wp2
      go_roundw
      case rel =>
        refine ⟨k + 1, t + n, by omega, by go_num, rfl, by omega, ?_, below_step hb (Nat.le_refl _) (below_box wr _)⟩
        rw [HT.out, HC.out]
      case measure => simp [intOf]; omega
    · go_wp2
      go_ret
      refine ⟨?_, hb⟩
      rw [HC.out, List.take_of_length_le (by omega)]; rfl
end Go.Proofs.Ytlbnopfbfnobnaa
