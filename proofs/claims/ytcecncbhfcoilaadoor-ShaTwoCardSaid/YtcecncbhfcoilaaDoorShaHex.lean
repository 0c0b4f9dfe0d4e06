/-
  Package sha: what Hex and Bytes tell of every hash; ending.
-/
import Derived.Test.YtcecncbhfcoilaaDoorShaMem
import Derived.Maps.AppendAt
import Derived.WalkSmall
import Derived.Laws.IdiomStrings
import Derived.Lib.UnsafeStr
import Derived.Deep.RegionLaw
import Derived.Laws.MakeOwn
namespace Go.Proofs.YtcecncbhfcoilaaDoor
open Go.RowKit

theorem info_u8 : (Tryd.prog.info? 5).map (fun i => (i.zero, i.size, i.bytes)) = some (some (.int .u8 0), 1, 1) := by kernel_rfl

/-- The digits. -/
def digitsB : ByteArray := ⟨#[48, 49, 50, 51, 52, 53, 54, 55, 56, 57, 97, 98, 99, 100, 101, 102]⟩

theorem index_sum (l : List UInt8) (hl : l.length = 32) (i : Nat) (hi : i < 32) (w : World) : (Instr.index 30 (.agg (l.map u8V).toArray) (.int .i64 (i : Int))).run Tryd.prog w = .ok (.int .u8 ((l.getD i 0).toNat : Int)) w :=
  run_index_agg w Tryd.underlying30 (by kernel_rfl) (by kernel_rfl) (by kernel_rfl) hi (by simp [u8V, hl, hi])
theorem info_sum : (Tryd.prog.info? 30).map (·.size) = some 32 := by kernel_rfl

theorem box_cells (l : List UInt8) : (Value.agg (l.map u8V).toArray).cells = (l.map u8V).toArray := rfl

theorem convert_bytes (w : World) (b n m : Nat) (l : List UInt8) (hn : l.length = n) (hc : ∀ j x, l[j]? = some x → w.cell? ⟨b, j, none⟩ = some (u8V x)) :
    (convert 40 9 (.slice (some ⟨b, 0, none⟩) n m)).run Tryd.prog w = .ok (.string ⟨l.toArray⟩) w := by
  subst hn
  refine run_convert_bytes_back w _ _ 5 _ _ l Tryd.underlying40 Tryd.underlying5 Tryd.underlying9 fun j hj => ?_
  rw [Addr.add_mid, Nat.zero_add]
  exact hc j _ (List.getElem?_eq_getElem hj)
theorem cell_u8 {w : World} {n : Nat} {l : List UInt8} {T : TypeId} (h : w.heap[n]? = some (.cells (l.map u8V).toArray T (0, 0))) (j : Nat) (x : UInt8) (hx : l[j]? = some x) : w.cell? ⟨n, j, none⟩ = some (u8V x) := by
  rw [cell_of h]; simp [hx]

set_option maxHeartbeats 1000000 in
set_option maxRecDepth 100000 in
theorem bytes_any (l : List UInt8) (w : World) (hl : l.length = 32) :
    Calls Tryd.prog 22 #[sumV l] w fun e w' => e = .returned (.string ⟨l.toArray⟩) ∧ Below w.heap.size w w' := by
  unfold sumV
  have hcv := convert_bytes (w.alloc (.cells (l.map u8V).toArray 30)) w.heap.size 32 32 l hl (cell_u8 (heap_alloc_last w _))
  clear hl
  go_enter Tryd.func22, Tryd.ntmps22
  go_wp2
  go_ret
  exact ⟨rfl, (Below.refl _ _).alloc (Nat.le_refl _) _⟩

theorem made_u8 (c : Nat) : madeCells (Value.int .u8 0).cells (c * 1) = ((List.replicate c (0 : UInt8)).map u8V).toArray := by
  apply Array.ext_getElem?
  intro i
  by_cases hi : i < c
  · simp [madeCells, hi, u8V, Value.cells, Nat.mod_one]
  · simp [madeCells, hi, u8V, Value.cells]
theorem make_bytes (n c : Nat) (h : n ≤ c) (hc : c ≤ 1000) (w : World) : (Instr.makeSlice 40 (.int .i64 (n : Int)) (.int .i64 (c : Int))).run Tryd.prog w = .ok (.slice (some ⟨w.heap.size, 0, none⟩) n c) (w.alloc (.cells ((List.replicate c (0 : UInt8)).map u8V).toArray 5)) := by
  obtain ⟨i0, hi, hz0, hz1, hz2⟩ := info_parts info_u8
  have hr := run_make (P := Tryd.prog) w 40 5 i0 (.int .u8 0) Tryd.underlying40 hi hz0 .i64 .i64 n c (by omega) (by omega) (by rw [hz2]; omega) (by omega)
  rw [hz1] at hr
  simp only [Int.toNat_natCast] at hr
  rw [made_u8] at hr
  exact hr

theorem there_of {w : World} {b o n : Nat} {l : List Value} {T : TypeId} (h : w.heap[b]? = some (.cells l.toArray T (0, 0))) (hn : o + n ≤ l.length) : w.there b o n := fun j hj => by
  refine ⟨?_, fz_of h _⟩
  rw [cell_of h]
  simp; omega

/-- Ahead of byte k. -/
def HexRel (nb : Nat) (l : List UInt8) (w : World) (sv si : Value) (wr : World) : Prop :=
  ∃ k : Nat, ∃ cur : List Value, k ≤ 32 ∧ si = .int .i64 k ∧ sv = .slice (some ⟨nb, 0, none⟩) (2 * k) 64 ∧ cur.length = 64 ∧ cur.take (2 * k) = (Sha.hexL (l.take k)).map u8V ∧ wr.heap[nb]? = some (.cells cur.toArray 5 (0, 0)) ∧ Below w.heap.size w wr

theorem hex_step (l : List UInt8) (k : Nat) (h : k < l.length) : Sha.hexL (l.take (k + 1)) = Sha.hexL (l.take k) ++ [Sha.hexD ((l.getD k 0).toNat / 16), Sha.hexD ((l.getD k 0).toNat % 16)] := by
  unfold Sha.hexL
  rw [List.take_succ_eq_append_getElem h, List.flatMap_append]
  simp [h]
theorem hex_length (l : List UInt8) : (Sha.hexL l).length = 2 * l.length := by
  induction l with
  | nil => rfl
  | cons x l ih => simp only [Sha.hexL, List.flatMap_cons, List.length_append, List.length_cons, List.length_nil] at ih ⊢; omega
theorem hexRel_step {w : World} (l : List UInt8) (hl : l.length = 32) (wr : World) (k : Nat) (cur : List Value) (x : UInt8) (q r : Nat) (o : Obj) (hk : k < 32) (hx : l.getD k 0 = x) (hq : q = x.toNat / 16) (hr : r = x.toNat % 16)
    (hcl : cur.length = 64) (hct : cur.take (2 * k) = (Sha.hexL (l.take k)).map u8V) (hch : wr.heap[w.heap.size + 1]? = some (.cells cur.toArray 5 (0, 0))) (hbl : Below w.heap.size w wr) :
    HexRel (w.heap.size + 1) l w (.slice (some ⟨w.heap.size + 1, 0, none⟩) (2 * k + 2) 64) (.int .i64 ((k : Int) + 1)) ((wr.alloc o).drew.setCells (w.heap.size + 1) (2 * k) [u8V (Sha.hexD q), u8V (Sha.hexD r)]) := by
  have hlt : w.heap.size + 1 < wr.heap.size := (Array.getElem?_eq_some_iff.1 hch).1
  refine ⟨k + 1, cur.take (2 * k) ++ ([u8V (Sha.hexD q), u8V (Sha.hexD r)] ++ cur.drop (2 * k + 2)), by omega, rfl, rfl, ?_, ?_, ?_, ?_⟩
  · simp [hcl]; omega
  · rw [show 2 * (k + 1) = 2 * k + 2 by omega, List.take_append, List.take_of_length_le (by rw [List.length_take]; omega), List.length_take, Nat.min_eq_left (by omega), show 2 * k + 2 - 2 * k = 2 by omega, hct, hex_step l k (by omega), hx, hq, hr]
    simp
  · exact heap_setCells (w.heap.size + 1) 5 [u8V (Sha.hexD q), u8V (Sha.hexD r)] (2 * k) cur (wr.alloc o).drew (by simp [hcl]; omega) ((Below.heap_alloc wr o _ hlt).trans hch)
  · refine below_setCells (by omega) _ _ _ ?_
    have := hbl.alloc hbl.size o
    exact ⟨this.os, this.tape, this.output, this.size, this.block⟩
theorem digit_at (x : Nat) (h : x < 16) (w : World) (k : IntKind) : (Instr.index 9 (.string ⟨#[48, 49, 50, 51, 52, 53, 54, 55, 56, 57, 97, 98, 99, 100, 101, 102]⟩) (.int k (x : Int))).run Tryd.prog w = .ok (.int .u8 ((Sha.hexD x).toNat : Int)) w := by
  rw [run_index_string w _ _ _ _ Tryd.underlying9, dif_pos ⟨by omega, by show (x : Int) < 16; omega⟩]
  have : ∀ x : Fin 16, (⟨#[48, 49, 50, 51, 52, 53, 54, 55, 56, 57, 97, 98, 99, 100, 101, 102]⟩ : ByteArray)[x.val]'(by have := x.2; show _ < 16; exact this) = Sha.hexD x.val := by decide
  have e := this ⟨x, h⟩
  simp only [Int.toNat_natCast]
  rw [e]
theorem and15 (x : UInt8) : bits .and .u8 (x.toNat : Int) 15 = ((x.toNat % 16 : Nat) : Int) := by
  have := u8_and_nat x.toNat 15 x.toNat_lt (by decide)
  rw [show x.toNat &&& 15 = x.toNat % 16 from Nat.and_two_pow_sub_one_eq_mod _ 4] at this
  exact this

set_option maxHeartbeats 1000000 in
set_option maxRecDepth 100000 in
theorem hex_any (l : List UInt8) (w : World) (hl : l.length = 32) :
    Calls Tryd.prog 20 #[sumV l] w fun e w' => e = .returned (.string ⟨(Sha.hexL l).toArray⟩) ∧ Below w.heap.size w w' := by
  unfold sumV
  obtain ⟨i0, hi, hz0, hz1, hz2⟩ := info_parts info_u8
  have hmk : ∀ W : World, (Instr.makeSlice 40 (.int .i64 0) (.int .i64 64)).run Tryd.prog W = .ok (.slice (some ⟨W.heap.size, 0, none⟩) 0 64) (W.alloc (.cells ((List.replicate 64 (0 : UInt8)).map u8V).toArray 5)) := make_bytes 0 64 (by decide) (by decide)
  have hI : (Tryd.prog.info? 30).map (·.size) = some (l.map u8V).length := by rw [List.length_map, hl]; exact info_sum
  have hr : ∀ o, ((w.alloc (.cells (l.map u8V).toArray 30)).alloc o).rangeAt w.heap.size 0 (l.map u8V) := fun o => World.rangeAt_alloc (fun j x hx => by rw [Nat.zero_add, cell_of (heap_alloc_last w _)]; simpa using hx) o
  have Hl := Lib.hid hl
  have HI := Lib.hid hI
  have HR := Lib.hid hr
  clear hl hI hr
  go_enter Tryd.func20, Tryd.ntmps20
  go_wp2_with (first
    | refine wpList_load_mid rfl 30 (.tmp 1) rfl w.heap.size 0 rfl (l.map u8V) _ (HR.out _) Tryd.underlying30 rfl HI.out ?_)
  clear hmk
  go_loopw [3, 8] (HexRel (w.heap.size + 1) l w) (fun _ i _ => 32 - (intOf i).toNat)
  case atStart =>
    refine ⟨0, (List.replicate 64 (0 : UInt8)).map u8V, by omega, rfl, rfl, by simp, rfl, ?_, ((Below.refl _ _).alloc (Nat.le_refl _) _).alloc (by simp) _⟩
    have := heap_alloc_last (w.alloc (.cells (l.map u8V).toArray 30)) (.cells ((List.replicate 64 (0 : UInt8)).map u8V).toArray 5)
    simp only [World.size_alloc] at this
    exact this
  case round =>
    obtain ⟨k, cur, hk, rfl, rfl, hcl, hct, hch, hbl⟩ := hrel
    have HCL := Lib.hid hcl
    have HCT := Lib.hid hct
    have HCH := Lib.hid hch
    clear hcl hct hch
    by_cases hlt : k < 32
    · have hx := index_sum l Hl.out k hlt
      generalize hxe : l.getD k 0 = x at *
      have HX := Lib.hid hxe
      clear hxe
      have h16 : x.toNat < 256 := x.toNat_lt
      obtain ⟨q, hq⟩ : ∃ q, q = x.toNat / 16 := ⟨_, rfl⟩
      obtain ⟨r, hr⟩ : ∃ r, r = x.toNat % 16 := ⟨_, rfl⟩
      have d1 := fun W => digit_at q (by omega) W .u8
      have d2 := fun W => digit_at r (by omega) W .u8
      have ea := and15 x
      rw [← hr] at ea
      have eq : (x.toNat : Int) / 16 = (q : Int) := by omega
      have Hq := Lib.hid hq
      have Hr := Lib.hid hr
      clear hq hr
      have hth : wr.there (w.heap.size + 1) (0 + 2 * k * 1) [u8V (Sha.hexD (q)), u8V (Sha.hexD (r))].length := there_of HCH.out (by rw [HCL.out]; simp; omega)
      have HTH := Lib.hid hth
      clear hth
      go_wp2
      go_region_law (
        (refine step_append_room rfl (.tmp 11) (.tmp 18) 40 rfl 5 i0 1 Tryd.underlying40 hi hz1 (w.heap.size + 1) 0 (2 * k) 64 rfl ⟨wr.heap.size, 0, none⟩ 2 2 [u8V (Sha.hexD (q)), u8V (Sha.hexD (r))] rfl rfl ?_ ?_ (by omega) ?_ ?_)
        · intro j u hu
          exact cell_two_new wr _ _ _ j u hu
        · intro u hu
          simp only [List.mem_cons, List.not_mem_nil, or_false] at hu
          rcases hu with rfl | rfl <;> rfl
        · exact World.there_alloc HTH.out _
        skip)
      all_goals (
        go_wp2
        refine ⟨?_, by simp [intOf]; omega⟩
        exact hexRel_step l Hl.out wr k cur x q r _ hlt HX.out Hq.out Hr.out HCL.out HCT.out HCH.out hbl)
    · obtain rfl : 32 = k := by omega
      have hcv := convert_bytes wr (w.heap.size + 1) 64 64 (Sha.hexL l) (by rw [hex_length, Hl.out]) (by
        intro j y hy
        have ht := HCT.out
        rw [List.take_of_length_le (by have := HCL.out; omega), List.take_of_length_le (by have := Hl.out; omega)] at ht
        rw [cell_of HCH.out, ht]
        simp [hy])
      go_wp2
      go_ret
      exact ⟨rfl, hbl⟩
end Go.Proofs.YtcecncbhfcoilaaDoor
