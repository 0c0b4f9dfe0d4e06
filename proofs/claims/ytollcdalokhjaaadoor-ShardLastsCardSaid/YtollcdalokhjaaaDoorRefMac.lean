/-
  The document's own words on sums by a key (scriniumref03): Pad, xor, Of.
-/
import Derived.Test.YtollcdalokhjaaaDoorMShaR
import Derived.Test.YtollcdalokhjaaaDoorMMacB
import Derived.Test.YtollcdalokhjaaaDoorShaReg
import Derived.Deep.RegionHeld3
namespace Go.Proofs.YtollcdalokhjaaaDoor
open Go.RowKit

/-- Ahead of a byte 0 that is put behind the key. -/
def PadRel (k : List UInt8) (st : Value) : Prop :=
  ∃ j : Nat, ∃ S : ByteArray, k.length + j ≤ 64 ∧ st = .string S ∧ S.data.toList = k ++ List.replicate j 0
theorem pad_end2 (k : List UInt8) (S : ByteArray) (j : Nat) (h : S.data.toList = Mac.keyL k ++ List.replicate j 0) (hj : (Mac.keyL k).length + j = 64) : S = ⟨(Mac.pad k).toArray⟩ := by
  apply ByteArray.ext
  rw [show Mac.pad k = S.data.toList by rw [h]; unfold Mac.pad; rw [show 64 - (Mac.keyL k).length = j by omega]]

set_option maxHeartbeats 1000000 in
set_option maxRecDepth 100000 in
theorem rpad_any (s : ByteArray) (k : List UInt8) (hs : s.data.toList = k) (w : World) (hlen : k.length < 1152921504606846976) :
    Calls Tryd.prog 72 #[.string s] w fun e w' => e = .returned (.string ⟨(Mac.pad k).toArray⟩) ∧ Below w.heap.size w w' := by
  have hsz : s.size = k.length := by rw [← hs]; exact Lib.size_eq s
  have HS := Lib.hid hs
  clear hs
  by_cases hlt : 64 < s.size
  · have HK1 : Hid (Mac.keyL k = Sha.digest k) := Lib.hid (by unfold Mac.keyL; rw [if_pos (by omega)])
    go_enter Tryd.func72, Tryd.ntmps72
    go_upto_region 3 with (first
      | (go_at_call 42; refine (rof_any s k HS.out w hlen).mono ?_; rintro e w1 ⟨rfl, b1⟩)
      | (go_at_call 74; refine (rbytes_any _ _ (Sha.digest_length k)).mono ?_; rintro e w2 ⟨rfl, b2⟩))
    obtain ⟨X, hX⟩ : ∃ X : ByteArray, X = ⟨(Sha.digest k).toArray⟩ := ⟨_, rfl⟩
    rw [← hX]
    have HX : Hid (X.data.toList = Mac.keyL k) := Lib.hid (by rw [hX, HK1.out])
    have hKl := Mac.keyL_length k
    clear hX
    go_wp2
    go_loop [0] (PadRel (Mac.keyL k)) (fun r => 64 - (match r with | .string R => R.size | _ => 0))
    case atStart => exact ⟨0, X, by omega, rfl, by simpa using HX.out⟩
    case round =>
      obtain ⟨j, S, hj, rfl, hS⟩ := hrel
      have hSz : S.size = (Mac.keyL k).length + j := by rw [Lib.size_eq, hS]; simp
      by_cases hl2 : S.size < 64
      · have hl2' : (S.size : Int) < 64 := by omega
        have HS2 := Lib.hid hS
        have HSz := Lib.hid hSz
        clear hS hSz
        go_wp2
        refine ⟨⟨j + 1, _, by have := HSz.out; omega, rfl, ?_⟩, ?_⟩
        · rw [app_data, HS2.out, List.append_assoc, List.replicate_succ']
        · have h2 : (⟨#[0]⟩ : ByteArray).size = 1 := rfl
          show 64 - (S ++ ⟨#[0]⟩).size < 64 - S.size
          rw [ByteArray.size_append]
          omega
      · have hl2' : ¬ (S.size : Int) < 64 := by omega
        have HE := Lib.hid (pad_end2 k S j hS (by omega))
        clear hS hSz
        go_wp2
        go_ret
        exact ⟨by rw [HE.out]; rfl, below_step b1 (Nat.le_refl _) b2⟩
  · have HK1 : Hid (Mac.keyL k = k) := Lib.hid (by unfold Mac.keyL; rw [if_neg (by omega)])
    go_enter Tryd.func72, Tryd.ntmps72
    go_wp2
    go_loop [0] (PadRel (Mac.keyL k)) (fun r => 64 - (match r with | .string R => R.size | _ => 0))
    case atStart => exact ⟨0, s, by rw [HK1.out]; omega, rfl, by rw [HK1.out]; simpa using HS.out⟩
    case round =>
      obtain ⟨j, S, hj, rfl, hS⟩ := hrel
      have hSz : S.size = (Mac.keyL k).length + j := by rw [Lib.size_eq, hS]; simp
      by_cases hl2 : S.size < 64
      · have hl2' : (S.size : Int) < 64 := by omega
        have HS2 := Lib.hid hS
        have HSz := Lib.hid hSz
        clear hS hSz
        go_wp2
        refine ⟨⟨j + 1, _, by have := HSz.out; omega, rfl, ?_⟩, ?_⟩
        · rw [app_data, HS2.out, List.append_assoc, List.replicate_succ']
        · have h2 : (⟨#[0]⟩ : ByteArray).size = 1 := rfl
          show 64 - (S ++ ⟨#[0]⟩).size < 64 - S.size
          rw [ByteArray.size_append]
          omega
      · have hl2' : ¬ (S.size : Int) < 64 := by omega
        have HE := Lib.hid (pad_end2 k S j hS (by omega))
        clear hS hSz
        go_wp2
        go_ret
        exact ⟨by rw [HE.out]; rfl, Below.refl _ _⟩

/-- Ahead of byte i. -/
def RXorRel (q : Nat) (l : List UInt8) (m : UInt8) (w : World) (si : Value) (wr : World) : Prop :=
  ∃ i : Nat, i ≤ l.length ∧ si = .int .i64 i ∧ wr.heap[q]? = some (.cells ((Mac.xorL (l.take i) m ++ List.replicate (l.length - i) 0).map u8V).toArray 5 (0, 0)) ∧ Below w.heap.size w wr
theorem rxor_step (l : List UInt8) (m : UInt8) (i : Nat) (h : i < l.length) : (Mac.xorL (l.take i) m ++ List.replicate (l.length - i) 0).set i (l.getD i 0 ^^^ m) = Mac.xorL (l.take (i + 1)) m ++ List.replicate (l.length - (i + 1)) 0 := by
  have e : l.getD i 0 = l[i] := by rw [List.getD_eq_getElem?_getD, List.getElem?_eq_getElem h]; rfl
  rw [List.set_append_right _ _ (by rw [Mac.xorL_length, List.length_take]; omega), Mac.xorL_length, List.length_take, Nat.min_eq_left (by omega), Nat.sub_self, show l.length - i = (l.length - (i + 1)) + 1 by omega, List.replicate_succ, List.set_cons_zero, List.take_succ_eq_append_getElem h, e]
  unfold Mac.xorL
  rw [List.map_append, List.append_assoc]
  rfl

set_option maxHeartbeats 1000000 in
set_option maxRecDepth 100000 in
theorem rxor_any (S : ByteArray) (l : List UInt8) (hS : S.data.toList = l) (hl : l.length = 64) (m : UInt8) (M : Int) (hM : M = (m.toNat : Int)) (w : World) :
    Calls Tryd.prog 73 #[.string S, .int .u8 M] w fun e w' => e = .returned (.string ⟨(Mac.xorL l m).toArray⟩) ∧ Below w.heap.size w w' := by
  subst hM
  have hsz : S.size = 64 := by rw [Lib.size_eq, hS, hl]
  have hmk : ∀ W : World, (Instr.makeSlice 110 (.int .i64 64) (.int .i64 64)).run Tryd.prog W = .ok (.slice (some ⟨W.heap.size, 0, none⟩) 64 64) (W.alloc (.cells ((List.replicate 64 (0 : UInt8)).map u8V).toArray 5)) := make_bytes 64 64 (by decide) (by decide)
  have HS := Lib.hid hS
  have Hl := Lib.hid hl
  clear hS hl
  go_enter Tryd.func73, Tryd.ntmps73
  go_upto_region 2 with (fail)
  obtain ⟨w0, hw0⟩ : ∃ w0, w0 = w.alloc (.cells ((List.replicate 64 (0 : UInt8)).map u8V).toArray 5) := ⟨_, rfl⟩
  have b0 : Below w.heap.size w w0 := by rw [hw0]; exact (Below.refl _ _).alloc (Nat.le_refl _) _
  have h0 : w0.heap[w.heap.size]? = some (.cells ((Mac.xorL (l.take 0) m ++ List.replicate (l.length - 0) 0).map u8V).toArray 5 (0, 0)) := by
    rw [hw0, Hl.out]; exact heap_alloc_last w _
  change Code.wp _ _ _ _ (w.alloc (.cells ((List.replicate 64 (0 : UInt8)).map u8V).toArray 5))
  rw [← hw0]
  have H0 := Lib.hid h0
  clear hw0 h0 hmk
  go_wp2
  go_loopw [6] (RXorRel w.heap.size l m w) (fun i _ => 64 - (intOf i).toNat)
  case atStart => exact ⟨0, by omega, rfl, H0.out, b0⟩
  case round =>
    obtain ⟨i, hi, rfl, hh, hbl⟩ := hrel
    have hln := Hl.out
    by_cases hlt : i < 64
    · have hi64 : (i : Int) < 64 := by omega
      have hll : (Mac.xorL (l.take i) m ++ List.replicate (l.length - i) (0 : UInt8)).length = 64 := by rw [List.length_append, Mac.xorL_length, List.length_take, List.length_replicate]; omega
      have ci := cell_u8D hh i (by omega)
      have fi := fz_of hh i
      have hx : S[i]'(by omega) = l.getD i 0 := by
        have e := HS.out
        subst e
        rw [List.getD_eq_getElem?_getD, List.getElem?_eq_getElem (by omega)]
        rfl
      have hix := index_str S i (i : Int) rfl (by omega) (l.getD i 0) hx
      have st := rxor_step l m i (by omega)
      generalize l.getD i 0 = x at *
      have ex := xor_u8 x m
      have HH := Lib.hid hh
      have ST := Lib.hid st
      clear hh st hx hll hln
      go_wp2
      refine ⟨⟨i + 1, by have := Hl.out; omega, by go_num, ?_, hbl.setCell (by show w.heap.size ≤ w.heap.size; exact Nat.le_refl _) _⟩, by simp [intOf]; omega⟩
      rw [heap_set HH.out, show (((x.toNat ^^^ m.toNat : Nat)) : Int) = ((x ^^^ m).toNat : Int) by rw [UInt8.toNat_xor], u8_set, ST.out]
    · obtain rfl : 64 = i := by omega
      rw [List.take_of_length_le (by omega), hln, Nat.sub_self, List.replicate_zero, List.append_nil] at hh
      have hcv := convert_bytes wr w.heap.size 64 64 (Mac.xorL l m) (by rw [Mac.xorL_length, hln]) (cell_u8 hh)
      clear hh hln
      go_wp2
      go_ret
      exact ⟨rfl, hbl⟩

set_option maxHeartbeats 2000000 in
set_option maxRecDepth 100000 in
theorem rmac_any (kB : ByteArray) (k : List UInt8) (hk : kB.data.toList = k) (S : ByteArray) (t : List UInt8) (hS : S.data.toList = t) (w : World) (hkl : k.length < 1152921504606846976) (htl : t.length < 288230376151711744) :
    Calls Tryd.prog 48 #[.string kB, .string S] w fun e w' => e = .returned (sumV (Mac.mac k t)) ∧ Below w.heap.size w w' := by
  obtain ⟨D, hD⟩ : ∃ D, D = Mac.mac k t := ⟨_, rfl⟩
  have hDl : D.length = 32 := by rw [hD]; exact Mac.mac_length _ _
  rw [← hD]
  obtain ⟨E, hE⟩ : ∃ E, E = Sha.digest (Mac.inner k ++ t) := ⟨_, rfl⟩
  have hEl : E.length = 32 := by rw [hE]; exact Sha.digest_length _
  have hDE : Sha.digest (Mac.outer k ++ E) = D := by rw [hD, hE]; rfl
  obtain ⟨PB, hPB⟩ : ∃ P : ByteArray, P = ⟨(Mac.pad k).toArray⟩ := ⟨_, rfl⟩
  obtain ⟨IB, hIB⟩ : ∃ P : ByteArray, P = ⟨(Mac.inner k).toArray⟩ := ⟨_, rfl⟩
  obtain ⟨OB, hOB⟩ : ∃ P : ByteArray, P = ⟨(Mac.outer k).toArray⟩ := ⟨_, rfl⟩
  obtain ⟨EB, hEB⟩ : ∃ P : ByteArray, P = ⟨E.toArray⟩ := ⟨_, rfl⟩
  have hin := Mac.inner_length k
  have hon := Mac.outer_length k
  have sI : IB.size = 64 := by rw [Lib.size_eq, hIB]; exact hin
  have sO : OB.size = 64 := by rw [Lib.size_eq, hOB]; exact hon
  have sE : EB.size = 32 := by rw [Lib.size_eq, hEB]; exact hEl
  have sS : S.size = t.length := by rw [Lib.size_eq, hS]
  have HPAD : Hid (∀ W : World, Calls Tryd.prog 72 #[.string kB] W fun e w' => e = .returned (.string PB) ∧ Below W.heap.size W w') := Lib.hid fun W => by rw [hPB]; exact rpad_any kB k hk W hkl
  have HX1 : Hid (∀ W : World, Calls Tryd.prog 73 #[.string PB, .int .u8 54] W fun e w' => e = .returned (.string IB) ∧ Below W.heap.size W w') := Lib.hid fun W => by rw [hIB]; exact rxor_any PB (Mac.pad k) (by rw [hPB]) (Mac.pad_length k) 54 54 rfl W
  have HX2 : Hid (∀ W : World, Calls Tryd.prog 73 #[.string PB, .int .u8 92] W fun e w' => e = .returned (.string OB) ∧ Below W.heap.size W w') := Lib.hid fun W => by rw [hOB]; exact rxor_any PB (Mac.pad k) (by rw [hPB]) (Mac.pad_length k) 92 92 rfl W
  have HO1 : Hid (∀ W : World, Calls Tryd.prog 42 #[.string (IB ++ S)] W fun e w' => e = .returned (sumV E) ∧ Below W.heap.size W w') := Lib.hid fun W => by rw [hE]; exact rof_any (IB ++ S) _ (by rw [app_data, hIB, hS]) W (by rw [List.length_append]; omega)
  have HO2 : Hid (∀ W : World, Calls Tryd.prog 42 #[.string (OB ++ EB)] W fun e w' => e = .returned (sumV D) ∧ Below W.heap.size W w') := Lib.hid fun W => by rw [← hDE]; exact rof_any (OB ++ EB) _ (by rw [app_data, hOB, hEB]) W (by rw [List.length_append]; omega)
  have HBE : Hid (∀ W : World, Calls Tryd.prog 74 #[.agg (E.map u8V).toArray] W fun e w' => e = .returned (.string EB) ∧ Below W.heap.size W w') := Lib.hid fun W => by rw [hEB]; exact rbytes_any E W hEl
  obtain ⟨w0, hw0⟩ : ∃ w0, w0 = w.alloc (.cells ((List.replicate 32 (0 : UInt8)).map u8V).toArray 33) := ⟨_, rfl⟩
  have b0 : Below w.heap.size w w0 := by rw [hw0]; exact (Below.refl _ _).alloc (Nat.le_refl _) _
  have z0 : w0.heap[w.heap.size]? = some (.cells ((List.replicate 32 (0 : UInt8)).map u8V).toArray 33 (0, 0)) := by rw [hw0]; exact heap_alloc_last w _
  have l0 : w.heap.size < w0.heap.size := by rw [hw0]; simp
  have Z0 := Lib.hid z0
  have HDl := Lib.hid hDl
  have HEl := Lib.hid hEl
  clear hD hDl hE hDE hPB hIB hOB hEB hin hon hk hS z0
  go_enter Tryd.func48, Tryd.ntmps48
  go_upto_region 1 with (fail)
  change Code.wp _ _ _ _ (w.alloc (.cells ((List.replicate 32 (0 : UInt8)).map u8V).toArray 33))
  rw [← hw0]
  clear hw0
  go_upto_region 3 with (first
    | (go_at_call 72; refine (HPAD.out _).mono ?_; rintro e w1 ⟨rfl, b1⟩)
    | (go_at_call 73; refine (HX1.out _).mono ?_; rintro e w2 ⟨rfl, b2⟩)
    | (go_at_call 42; refine (HO1.out _).mono ?_; rintro e w3 ⟨rfl, b3⟩)
    | refine wpList_store_mid rfl 33 (.tmp 6) (.tmp 13) rfl w3.heap.size 0 (E.map u8V).toArray rfl rfl (sum_there (heap_alloc_last w3 _) HEl.out) (sum_info HEl.out) (sum_one E) ?_)
  obtain ⟨w4, hw4⟩ : ∃ w4, w4 = (w3.alloc (.cells ((List.replicate 32 (0 : UInt8)).map u8V).toArray 33)).setCells w3.heap.size 0 (E.map u8V) := ⟨_, rfl⟩
  have b4 : Below w3.heap.size w3 w4 := by rw [hw4]; exact below_setCells (Nat.le_refl _) _ _ _ ((Below.refl _ _).alloc (Nat.le_refl _) _)
  have h4 : w4.heap[w3.heap.size]? = some (.cells (E.map u8V).toArray 33 (0, 0)) := by
    rw [hw4]; exact heap_setCells_all w3 ((List.replicate 32 (0 : UInt8)).map u8V) (E.map u8V) (by rw [List.length_map, List.length_map, HEl.out]; rfl)
  change Code.wp _ _ _ _ ((w3.alloc (.cells ((List.replicate 32 (0 : UInt8)).map u8V).toArray 33)).setCells w3.heap.size 0 (E.map u8V))
  rw [← hw4]
  have b03 := below_step (below_step b1 (Nat.le_refl _) b2) (Nat.le_refl _) b3
  have bb3 := below_step b0 (Nat.le_refl _) b03
  have bb4 := below_step bb3 (Nat.le_refl _) b4
  have l3 : w.heap.size < w3.heap.size := Nat.lt_of_lt_of_le l0 b03.size
  have z4 : w4.heap[w.heap.size]? = some (.cells ((List.replicate 32 (0 : UInt8)).map u8V).toArray 33 (0, 0)) := (b4.block _ l3).trans ((b03.block _ l0).trans Z0.out)
  have l4 : w3.heap.size < w4.heap.size := (Array.getElem?_eq_some_iff.1 h4).1
  have r4 : Hid (∀ W, Below w4.heap.size w4 W → W.rangeAt w3.heap.size 0 (E.map u8V)) := Lib.hid fun W h j y hy => (h.cell (p := ⟨w3.heap.size, 0 + j, none⟩) l4).trans (by rw [Nat.zero_add, cell_of h4]; simpa using hy)
  have t4 : Hid (∀ W, Below w4.heap.size w4 W → W.there w.heap.size 0 32) := Lib.hid fun W h => there_of ((h.block _ (by omega)).trans z4) (by simp)
  have g4 : Hid (∀ W, Below w4.heap.size w4 W → W.heap[w.heap.size]? = some (.cells ((List.replicate 32 (0 : UInt8)).map u8V).toArray 33 (0, 0))) := Lib.hid fun W h => (h.block _ (by omega)).trans z4
  have hu := Tryd.underlying33
  have hi := sum_info' HEl.out
  have hiD := sum_info' HDl.out
  have hDn : (D.map u8V).length = 32 := by rw [List.length_map, HDl.out]
  have hone : ∀ v ∈ D.map u8V, v.oneCell' = true := fun v hv => by obtain ⟨_, _, rfl⟩ := List.mem_map.1 hv; rfl
  have d4 : Below w4.heap.size w4 w4.drew := (Below.refl _ _).drew
  have r4d := r4.out _ d4
  have t4d := t4.out _ d4
  unfold sumV at HO2
  clear hw4 h4 z4
  go_region_held3 (fun w' => w'.rangeAt w3.heap.size 0 (E.map u8V) ∧ w'.there w.heap.size 0 32) (first | exact ⟨by assumption, by assumption⟩ | exact ⟨World.rangeAt_setCells_apart (by assumption) _ _ _ (Or.inl (by omega)), World.there_setCells (by assumption) _ _ _⟩)
    (first
      | (go_at_call 73; ((with_reducible refine (HX2.out _).mono ?_); rintro e w5 ⟨rfl, b5⟩; have d5 := below_step d4 (Nat.le_refl _) b5; have r5 := r4.out _ d5; have t5 := t4.out _ d5))
      | (go_at_call 74; ((with_reducible refine (HBE.out _).mono ?_); rintro e w6 ⟨rfl, b6⟩; have d6 := below_step d5 (Nat.le_refl _) b6; have r6 := r4.out _ d6; have t6 := t4.out _ d6))
      | (go_at_call 42; ((with_reducible refine (HO2.out _).mono ?_); rintro e w7 ⟨rfl, b7⟩; have d7 := below_step d6 (Nat.le_refl _) b7; have r7 := r4.out _ d7; have t7 := t4.out _ d7)))
  all_goals (
    go_wp2
    exact bodyPost_ret (v := .agg (D.map u8V).toArray) (results_cell (t := 4) (ty := 33) (b := w.heap.size) (cs := D.map u8V) rfl _ _ _ rfl (sum_range (g4.out _ d7) HDl.out) Tryd.underlying33 rfl (sum_info' HDl.out)) rfl ⟨rfl, below_setCells (Nat.le_refl _) _ _ _ (below_step bb4 (Nat.le_refl _) d7)⟩)
end Go.Proofs.YtollcdalokhjaaaDoor
