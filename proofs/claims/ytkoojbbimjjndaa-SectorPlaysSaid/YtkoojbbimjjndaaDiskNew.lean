/-
  Package sector: bytes 0, a row of sectors, a new disk.
-/
import Derived.Test.YtkoojbbimjjndaaDiskMem
import Derived.Test.YtkoojbbimjjndaaSecShelf
import Derived.Laws.CopyOwn
import Derived.Lib.Hide
import Derived.Deep.Cut
namespace Go.Proofs.Ytkoojbbimjjndaa
open Go.RowKit Dsk

theorem repL (c : Nat) : Lib.repeatL [(0 : UInt8)] c = List.replicate c 0 := by
  induction c with
  | zero => rfl
  | succ c ih => rw [List.replicate_succ, ← ih]; rfl
theorem zeros_any (n : Nat) (w : World) (hn : n ≤ 1000000) :
    Calls Try.prog 37 #[.int .i64 (n : Int)] w fun e w' => e = .returned (.string (zs n)) ∧ Below w.heap.size w w' := by
  have hr := repeat_any ⟨#[0]⟩ n w (by omega) (by show 1 * n ≤ _; omega)
  have e : (⟨(Lib.repeatL (⟨#[0]⟩ : ByteArray).data.toList n).toArray⟩ : ByteArray) = zs n := by
    show (⟨(Lib.repeatL [(0 : UInt8)] n).toArray⟩ : ByteArray) = _
    rw [repL]; rfl
  rw [e] at hr
  go_enter Try.func37, Try.ntmps37
  go_wp2_with (go_at_call 52; refine hr.mono ?_; rintro e w' ⟨rfl, hb⟩)
  go_ret
  exact ⟨rfl, hb⟩

theorem info_str3 : (Try.prog.info? 9).map (fun i => (i.zero, i.size, i.bytes)) = some (some (.string ⟨#[]⟩), 1, 16) := by kernel_rfl
theorem size_str1 : (Try.prog.info? 9).map (·.size) = some 1 := by kernel_rfl
theorem made_str (c : Nat) : madeCells (Value.string ⟨#[]⟩).cells (c * 1) = (List.replicate c (Value.string ⟨#[]⟩)).toArray := by
  apply Array.ext_getElem?
  intro i
  by_cases hi : i < c
  · simp [madeCells, hi, Value.cells, Nat.mod_one]
  · simp [madeCells, hi, Value.cells]
theorem make_strs (n : Nat) (hc : n ≤ 1000000) (w : World) : (Instr.makeSlice 46 (.int .i64 (n : Int)) (.int .i64 (n : Int))).run Try.prog w = .ok (.slice (some ⟨w.heap.size, 0, none⟩) n n) (w.alloc (.cells (List.replicate n (Value.string ⟨#[]⟩)).toArray 9)) := by
  obtain ⟨i0, hi, hz0, hz1, hz2⟩ := info_parts info_str3
  have hr := run_make (P := Try.prog) w 46 9 i0 (.string ⟨#[]⟩) Try.underlying46 hi hz0 .i64 .i64 n n (by omega) (by omega) (by rw [hz2]; omega) (by omega)
  rw [hz1] at hr
  simp only [Int.toNat_natCast] at hr
  rw [made_str] at hr
  exact hr
/-- A row of N texts, of which m are z, the others empty. -/
def part (z : ByteArray) (m N : Nat) : List Value := List.replicate m (.string z) ++ List.replicate (N - m) (.string ⟨#[]⟩)
theorem part_length (z : ByteArray) (m N : Nat) (h : m ≤ N) : (part z m N).length = N := by simp [part]; omega
theorem part_splice (z : ByteArray) (m N k : Nat) (h : m + k ≤ N) : splice (part z m N) m (List.replicate k (.string z)) = part z (m + k) N := by
  unfold splice part
  rw [List.take_left' (by simp), List.length_replicate, List.drop_append, List.length_replicate, List.drop_eq_nil_of_le (by simp), List.nil_append, List.drop_replicate, ← List.append_assoc, List.replicate_append_replicate]
  congr 2
  omega
theorem part_cell {w : World} {g : Nat} {z : ByteArray} {m N : Nat} {T : TypeId} (h : w.heap[g]? = some (.cells (part z m N).toArray T (0, 0))) (k : Nat) (hk : k ≤ m) : ∀ j v, (List.replicate k (Value.string z))[j]? = some v → w.cell? ((⟨g, 0, none⟩ : Addr).add j) = some v := by
  intro j v hv
  rw [Addr.add_mid, Nat.zero_add, cell_of h]
  rw [List.getElem?_replicate] at hv
  split at hv
  · rename_i hj
    cases hv
    simp only [List.getElem?_toArray, part]
    rw [List.getElem?_append_left (by simp; omega), List.getElem?_replicate, if_pos (by omega)]
  · cases hv
theorem rep_one (z : ByteArray) (k : Nat) : ∀ v ∈ List.replicate k (Value.string z), v.oneCell' = true := fun v hv => by
  rw [List.eq_of_mem_replicate hv]; rfl

set_option maxHeartbeats 1600000 in
set_option maxRecDepth 100000 in
theorem rep_any (z : ByteArray) (N b : Nat) (w : World) (h1 : 1 ≤ N) (hN : N ≤ 65536) (hb : w.cell? ⟨b, 0, none⟩ = some (.string z)) (hlt : b < w.heap.size) :
    Calls Try.prog 42 #[.slice (some ⟨b, 0, none⟩) 1 1, .int .i64 (N : Int)] w fun e w' => e = .returned (.slice (some ⟨w.heap.size, 0, none⟩) N N) ∧ w'.heap[w.heap.size]? = some (.cells (List.replicate N (Value.string z)).toArray 9 (0, 0)) ∧ Below w.heap.size w w' := by
  have hmul := mul_any 1 N (by decide) (by omega) w
  rw [Nat.one_mul, Nat.div_eq_of_lt (by omega), Nat.mod_eq_of_lt (by omega)] at hmul
  have hmk := make_strs N (by omega) w
  obtain ⟨W0, hW0⟩ : ∃ W0, W0 = w.alloc (.cells (List.replicate N (Value.string ⟨#[]⟩)).toArray 9) := ⟨_, rfl⟩
  rw [← hW0] at hmk
  have hB0 : Below w.heap.size w W0 := by rw [hW0]; exact (Below.refl _ _).alloc (Nat.le_refl _) _
  have hg0 : W0.heap[w.heap.size]? = some (.cells (part z 0 N).toArray 9 (0, 0)) := by
    rw [hW0, heap_alloc_last]; rfl
  have hb0 : W0.cell? ⟨b, 0, none⟩ = some (.string z) := (hB0.cell (p := ⟨b, 0, none⟩) hlt).trans hb
  clear hW0
  have q1 : (List.replicate 1 (Value.string z)).length = Nat.min 1 N := (Nat.min_eq_left h1).symm
  have q2 : ∀ j v, (List.replicate 1 (Value.string z))[j]? = some v → W0.cell? ((⟨b, 0, none⟩ : Addr).add j) = some v := fun j v hv => by
    rw [Addr.add_mid, Nat.zero_add]
    match j, hv with
    | 0, hv => simp at hv; subst hv; exact hb0
  have q3 : 0 + (List.replicate 1 (Value.string z)).length ≤ (part z 0 N).length := by rw [part_length _ _ _ (Nat.zero_le _), List.length_replicate]; omega
  have hcp := run_copy_row (P := Try.prog) W0 46 46 3 9 w.heap.size 0 N N ⟨b, 0, none⟩ 1 1 (part z 0 N).toArray 9 (List.replicate 1 (.string z)) Try.underlying46 size_str1 hg0 q1 q2 (by simpa using q3) (rep_one z 1)
  have hs0 := part_splice z 0 N 1 (by omega)
  unfold splice at hs0
  rw [← List.append_assoc] at hs0
  simp only [hs0] at hcp
  obtain ⟨w1, hw1⟩ : ∃ w1, w1 = W0.setRow w.heap.size (part z (0 + 1) N).toArray := ⟨_, rfl⟩
  rw [← hw1] at hcp
  have hg1' : w1.heap[w.heap.size]? = some (.cells (part z 1 N).toArray 9 (0, 0)) := by
    rw [hw1]; exact setRow_heap W0 w.heap.size _ _ _ _ hg0
  have hb1 : Below w.heap.size w w1 := by rw [hw1]; exact below_setRow hB0 (Nat.le_refl _) _
  clear hw1 hs0 hB0 hg0 hb0
  go_enter Try.func42, Try.ntmps42
  go_wp2_with (go_at_call 59; refine hmul.mono ?_; rintro e w' ⟨rfl, rfl⟩)
  clear hcp hmk hmul hb q1 q2 q3
  go_loopw [8] (fun i wr => ∃ m : Nat, 1 ≤ m ∧ m ≤ N ∧ i = .int .i64 m ∧ wr.heap[w.heap.size]? = some (.cells (part z m N).toArray 9 (0, 0)) ∧ Below w.heap.size w wr) (fun i _ => N - (intOf i).toNat)
  case atStart => exact ⟨1, by omega, by omega, rfl, hg1', hb1⟩
  case round =>
    obtain ⟨m, h1m, hm, rfl, hg, hbl⟩ := hrel
    clear hg1' hb1
    by_cases hlt : m < N
    · obtain ⟨k, hk⟩ : ∃ k, k = Nat.min m (N - m) := ⟨_, rfl⟩
      have hk1 : 1 ≤ k := by rw [hk]; exact Nat.le_min.2 ⟨h1m, by omega⟩
      have hk2 : k ≤ m := by rw [hk]; exact Nat.min_le_left _ _
      have hk3 : m + k ≤ N := by have : k ≤ N - m := by rw [hk]; exact Nat.min_le_right _ _
                                 omega
      have HK := Lib.hid hk
      clear hk
      have hcp := run_copy_row (P := Try.prog) wr.drew 46 46 3 9 w.heap.size m (N - m) (N - m) ⟨w.heap.size, 0, none⟩ m N (part z m N).toArray 9 (List.replicate k (.string z)) Try.underlying46 size_str1 hg (by rw [List.length_replicate]; exact HK.out) (part_cell (w := wr.drew) hg k hk2) (by simpa [part_length _ _ _ hm] using hk3) (rep_one z k)
      have hs0 := part_splice z m N k hk3
      unfold splice at hs0
      rw [← List.append_assoc] at hs0
      simp only [hs0] at hcp
      obtain ⟨w2, hw2⟩ : ∃ w2, w2 = wr.drew.setRow w.heap.size (part z (m + k) N).toArray := ⟨_, rfl⟩
      rw [← hw2, List.length_replicate] at hcp
      have hg2 : w2.heap[w.heap.size]? = some (.cells (part z (m + k) N).toArray 9 (0, 0)) := by
        rw [hw2]; exact setRow_heap wr.drew w.heap.size _ _ _ _ hg
      have hb2 : Below w.heap.size w w2 := by rw [hw2]; exact below_setRow (below_drew hbl) (Nat.le_refl _) _
      clear hw2 hs0
      go_wp2
      go_region
      go_wp2
      go_roundw
      case rel => exact ⟨m + k, by omega, hk3, by go_num, hg2, hb2⟩
      case measure => simp [intOf]; omega
    · obtain rfl : m = N := by omega
      go_wp2
      go_ret
      refine ⟨rfl, ?_, hbl⟩
      rw [hg]
      unfold part
      simp
set_option maxHeartbeats 800000 in
theorem new_disk (n : Nat) (w : World) (h1 : 1 ≤ n) (hn : n ≤ 65536) :
    Calls Try.prog 16 #[.int .i64 (n : Int)] w fun e w' => ∃ p bl, e = .returned (.pointer (some ⟨p, 0, none⟩)) ∧ w.heap.size ≤ p ∧ w.heap.size ≤ bl ∧ DiskAt p bl (.slice none 0 0) (Dsk.new n) w' ∧ Below w.heap.size w w' := by
  have hz := zeros_any 256 w (by decide)
  obtain ⟨Z, hZ⟩ : ∃ Z, Z = zs 256 := ⟨_, rfl⟩
  rw [← hZ, show ((256 : Nat) : Int) = 256 from rfl] at hz
  have hmx : min (max (n : Int) 1) 65536 = n := by omega
  have HZ := Lib.hid hZ
  clear hZ
  go_enter Try.func16, Try.ntmps16
  go_upto_region 2 with fail
  clear hmx
  go_wp2_with (first
    | (go_at_call 37; refine hz.mono ?_; rintro e w1 ⟨rfl, hb1⟩)
    | (go_at_call 42; refine (rep_any Z n w1.heap.size _ h1 hn (cell_of (heap_alloc_last w1 _) 0) (by simp)).mono ?_; rintro e w2 ⟨rfl, hg2, hb2⟩))
  go_ret
  have hb : Below w.heap.size w w2 := below_step (hb1.alloc hb1.size _) (Nat.le_refl _) hb2
  rw [World.size_alloc] at hg2
  have hlt : w1.heap.size + 1 < w2.heap.size := (Array.getElem?_eq_some_iff.1 hg2).1
  refine ⟨w2.heap.size, w1.heap.size + 1, rfl, hb.size, by have := hb1.size; omega, ?_, hb.alloc hb.size _⟩
  have hl : (Dsk.new n).lies.length = n := by simp [Dsk.new]
  refine ⟨?_, ?_, CacheAt.nil _, (fun x hx => by cases hx), by rw [hl]; exact hn, by simp [Dsk.new], by simp [Dsk.new], by simp [Dsk.new]⟩
  · rw [hl]; exact heap_alloc_last w2 _
  · refine (Below.heap_alloc _ _ _ hlt).trans ?_
    rw [hg2, HZ.out]
    simp [Dsk.new, zeroB]
end Go.Proofs.Ytkoojbbimjjndaa
