/-
  The document's own words on hashes (scriniumref02): Of, Hex, Bytes.
-/
import Derived.Test.YtgiakpnkidblpaaDoorRefStep2
import Derived.Test.YtgiakpnkidblpaaDoorShaOf
import Derived.Test.YtgiakpnkidblpaaDoorMacMem
namespace Go.Proofs.YtgiakpnkidblpaaDoor
open Go.RowKit

set_option maxHeartbeats 1000000 in
set_option maxRecDepth 100000 in
theorem rbytes_any (l : List UInt8) (w : World) (hl : l.length = 32) :
    Calls Tryd.prog 37 #[sumV l] w fun e w' => e = .returned (.string ⟨l.toArray⟩) ∧ Below w.heap.size w w' := by
  unfold sumV
  have hcv := convert_bytes (w.alloc (.cells (l.map u8V).toArray 31)) w.heap.size 32 32 l hl (cell_u8 (heap_alloc_last w _))
  clear hl
  go_enter Tryd.func37, Tryd.ntmps37
  go_wp2
  go_ret
  exact ⟨rfl, (Below.refl _ _).alloc (Nat.le_refl _) _⟩

/-- Ahead of byte k of the hash: its digits so far. -/
def RHexRel (p : Nat) (l : List UInt8) (w : World) (st si : Value) (wr : World) : Prop :=
  ∃ k : Nat, ∃ S : ByteArray, k ≤ 32 ∧ si = .int .i64 k ∧ st = .string S ∧ S.data.toList = Sha.hexL (l.take k) ∧ wr.heap[p]? = some (.cells (l.map u8V).toArray 31 (0, 0)) ∧ Below w.heap.size w wr
theorem digit_slice (x : Nat) (h : x < 16) : ∃ D : ByteArray, (⟨#[48, 49, 50, 51, 52, 53, 54, 55, 56, 57, 97, 98, 99, 100, 101, 102]⟩ : ByteArray).extract x (x + 1) = D ∧ D.data.toList = [Sha.hexD x] ∧ D.size = 1 := by
  refine ⟨_, rfl, ?_, ?_⟩
  · have : ∀ x : Fin 16, ((⟨#[48, 49, 50, 51, 52, 53, 54, 55, 56, 57, 97, 98, 99, 100, 101, 102]⟩ : ByteArray).extract x.val (x.val + 1)).data.toList = [Sha.hexD x.val] := by decide
    exact this ⟨x, h⟩
  · rw [ByteArray.size_extract]
    show min (x + 1) 16 - x = 1
    omega
/-! ### Of -/
/-- Ahead of a byte 0 that is put behind a text of n bytes and the byte 80. -/
def ZRel (s : List UInt8) (st : Value) : Prop :=
  ∃ j : Nat, ∃ S : ByteArray, j ≤ Sha.zeros s.length ∧ st = .string S ∧ S.data.toList = s ++ 128 :: List.replicate j 0
/-- Ahead of byte j of the number of bits. -/
def NRel (s : List UInt8) (w : World) (st si : Value) (wr : World) : Prop :=
  ∃ j : Nat, ∃ S : ByteArray, j ≤ 8 ∧ si = .int .i64 (7 - (j : Int)) ∧ st = .string S ∧ S.data.toList = s ++ 128 :: (List.replicate (Sha.zeros s.length) 0 ++ (Sha.be8 (8 * s.length)).take j) ∧ Below w.heap.size w wr
theorem zeros_mod (n j : Nat) (h : j ≤ Sha.zeros n) : (n + (1 + j)) % 64 = 56 ↔ j = Sha.zeros n := by
  unfold Sha.zeros at *
  omega
theorem be8_step (n j : Nat) (h : j < 8) : (Sha.be8 n).take (j + 1) = (Sha.be8 n).take j ++ [UInt8.ofNat (n / 2 ^ (56 - 8 * j))] := by
  rw [List.take_succ_eq_append_getElem (by rw [Sha.be8_length]; exact h)]
  simp [Sha.be8]
theorem be8_byte (n j : Nat) (h : j < 8) (b : UInt8) (hb : b = UInt8.ofNat (8 * n / 2 ^ (56 - 8 * j))) : (n : Int) * 8 / 2 ^ (8 * (7 - j)) % 256 = (b.toNat : Int) := by
  rw [hb, UInt8.toNat_ofNat', show 56 - 8 * j = 8 * (7 - j) by omega, Nat.mul_comm 8 n]
  simp
/-- Block q holds the state behind the first k blocks of the text T. -/
def BRel (z q : Nat) (T : List UInt8) (w : World) (si : Value) (wr : World) : Prop :=
  ∃ k : Nat, 64 * k ≤ T.length ∧ si = .int .i64 (64 * k : Nat) ∧ wr.heap[q]? = some (.cells (vC (Sha.run Sha.start k T)) 76 (0, 0)) ∧ wr.heap[z]? = some (.cells ((List.replicate 32 (0 : UInt8)).map u8V).toArray 31 (0, 0)) ∧ Below w.heap.size w wr
/-- Ahead of byte i of a block, whose numbers are laid into block C. -/
def CRel (z q C : Nat) (V : Sha.V) (P : List UInt8) (w : World) (si : Value) (wr : World) : Prop :=
  ∃ i : Nat, i ≤ 64 ∧ si = .int .i64 i ∧ wr.heap[C]? = some (.cells (bC (Sha.parts P i)) 78 (0, 0)) ∧ wr.heap[q]? = some (.cells (vC V) 76 (0, 0)) ∧ wr.heap[z]? = some (.cells ((List.replicate 32 (0 : UInt8)).map u8V).toArray 31 (0, 0)) ∧ Below w.heap.size w wr

/-- Ahead of byte i of the hash. -/
def ORel (z q o : Nat) (V : Sha.V) (w : World) (si : Value) (wr : World) : Prop :=
  ∃ i : Nat, i ≤ 32 ∧ si = .int .i64 i ∧ wr.heap[o]? = some (.cells ((V.bytes.take i ++ List.replicate (32 - i) 0).map u8V).toArray 31 (0, 0)) ∧ wr.heap[q]? = some (.cells (vC V) 76 (0, 0))
    ∧ wr.heap[z]? = some (.cells ((List.replicate 32 (0 : UInt8)).map u8V).toArray 31 (0, 0)) ∧ Below w.heap.size w wr

set_option maxHeartbeats 8000000 in
set_option maxRecDepth 100000 in
theorem rof_any (B : ByteArray) (s : List UInt8) (hB : B.data.toList = s) (w : World) (hlen : s.length < 1152921504606846976) :
    Calls Tryd.prog 32 #[.string B] w fun e w' => e = .returned (sumV (Sha.digest s)) ∧ Below w.heap.size w w' := by
  have hsz : B.size = s.length := by rw [Lib.size_eq, hB]
  have HB := Lib.hid hB
  clear hB
  go_enter Tryd.func32, Tryd.ntmps32
  go_upto_region 1 with (fail)
  obtain ⟨w0, hw0⟩ : ∃ w0, w0 = w.alloc (.cells ((List.replicate 32 (0 : UInt8)).map u8V).toArray 31) := ⟨_, rfl⟩
  have b0 : Below w.heap.size w w0 := by rw [hw0]; exact (Below.refl _ _).alloc (Nat.le_refl _) _
  have z0 : w0.heap[w.heap.size]? = some (.cells ((List.replicate 32 (0 : UInt8)).map u8V).toArray 31 (0, 0)) := by rw [hw0]; exact heap_alloc_last w _
  have l0 : w.heap.size < w0.heap.size := (Array.getElem?_eq_some_iff.1 z0).1
  change Code.wp _ _ _ _ (w.alloc (.cells ((List.replicate 32 (0 : UInt8)).map u8V).toArray 31))
  rw [← hw0]
  have Z0 := Lib.hid z0
  clear hw0 z0
  have hz64 : Sha.zeros s.length < 64 := by unfold Sha.zeros; omega
  go_wp2
  go_loop [3] (ZRel s) (fun r => s.length + 1 + Sha.zeros s.length - (match r with | .string R => R.size | _ => 0))
  case atStart => exact ⟨0, _, by omega, rfl, by rw [app_data, HB.out]; rfl⟩
  case round =>
    obtain ⟨j, S, hj, rfl, hS⟩ := hrel
    have hSz : S.size = s.length + (1 + j) := by rw [Lib.size_eq, hS]; simp; omega
    have hm := zeros_mod s.length j hj
    by_cases hlt : j < Sha.zeros s.length
    · have hne : ¬ (S.size : Int) % 64 = 56 := by omega
      have hS63 : S.size < 9223372036854775000 := by omega
      have HS := Lib.hid hS
      have HSz := Lib.hid hSz
      clear hS hm
      go_wp2
      refine ⟨⟨j + 1, _, by omega, rfl, ?_⟩, ?_⟩
      · rw [app_data, HS.out, List.append_assoc, List.cons_append, List.replicate_succ']
      · have h1 := HSz.out
        have h2 : (⟨#[0]⟩ : ByteArray).size = 1 := rfl
        show s.length + 1 + Sha.zeros s.length - (S ++ ⟨#[0]⟩).size < s.length + 1 + Sha.zeros s.length - S.size
        rw [ByteArray.size_append]
        omega
    · obtain rfl : Sha.zeros s.length = j := by omega
      have he : (S.size : Int) % 64 = 56 := by have := hm.2 rfl; omega
      have hS63 : S.size < 9223372036854775000 := by omega
      have HS := Lib.hid hS
      have HSz := Lib.hid hSz
      clear hS hm
      go_wp2
      go_loopw [3, 5] (NRel s w0) (fun _ i _ => ((intOf i) + 1).toNat)
      case atStart => exact ⟨0, S, by omega, by go_num, rfl, by simpa using HS.out, Below.refl _ _⟩
      case round =>
        clear HS HSz he hS63 hlt hj hSz
        obtain ⟨j, S2, hj, rfl, rfl, hS, hbl⟩ := hrel
        have hSz : S2.size = s.length + 1 + Sha.zeros s.length + j := by rw [Lib.size_eq, hS]; simp [Sha.be8_length]; omega
        have hS63 : S2.size < 9223372036854775000 := by omega
        by_cases hlt : j < 8
        · have e7 : (0 : Int) ≤ 7 - (j : Int) := by omega
          have HS := Lib.hid hS
          have HSz := Lib.hid hSz
          clear hS hSz
          have hjj : j = 0 ∨ j = 1 ∨ j = 2 ∨ j = 3 ∨ j = 4 ∨ j = 5 ∨ j = 6 ∨ j = 7 := by omega
          obtain ⟨b, hb⟩ : ∃ b, b = UInt8.ofNat (8 * s.length / 2 ^ (56 - 8 * j)) := ⟨_, rfl⟩
          have hcv := convert_one wr _ b (be8_byte s.length j hlt b hb)
          have hbe := be8_step (8 * s.length) j hlt
          rw [← hb] at hbe
          have HBE := Lib.hid hbe
          have h1 : (⟨#[b]⟩ : ByteArray).size = 1 := rfl
          clear hb hbe hjj
          go_wp2
          refine ⟨⟨j + 1, _, by omega, ?_, rfl, ?_, hbl.alloc hbl.size _⟩, ?_⟩
          · congr 1; omega
          · rw [app_data, HS.out, HBE.out]
            simp
          · simp [intOf]; omega
        · obtain rfl : 8 = j := by omega
          rw [List.take_of_length_le (by rw [Sha.be8_length]; exact Nat.le_refl _)] at hS
          obtain ⟨T, hT⟩ : ∃ T, T = Sha.full s := ⟨_, rfl⟩
          have hST : S2.data.toList = T := by rw [hS, hT]; rfl
          have hTm : T.length % 64 = 0 := by rw [hT]; exact Sha.full_mod s
          have hTl : S2.size = T.length := by rw [Lib.size_eq, hST]
          have HT := Lib.hid hT
          have HST := Lib.hid hST
          have z1 := (hbl.block _ l0).trans Z0.out
          have Z1 := Lib.hid z1
          have bb1 : Below w.heap.size w wr := below_step b0 (Nat.le_refl _) hbl
          have lr0 : w.heap.size < wr.heap.size := Nat.lt_of_lt_of_le l0 hbl.size
          clear hS hT hST z1 hSz Z0 hlt hj
          go_upto_region 10 with (first
            | (go_at_call 53; refine (rstart_any _).mono ?_; rintro e w1 ⟨rfl, b1⟩; unfold vC Sha.start))
          obtain ⟨w2, hw2⟩ : ∃ w2, w2 = w1.alloc (.cells (vC Sha.start) 76) := ⟨_, rfl⟩
          have b2 : Below w1.heap.size w1 w2 := by rw [hw2]; exact (Below.refl _ _).alloc (Nat.le_refl _) _
          have h2 : w2.heap[w1.heap.size]? = some (.cells (vC Sha.start) 76 (0, 0)) := by rw [hw2]; exact heap_alloc_last w1 _
          have l1 : w.heap.size < w1.heap.size := Nat.lt_of_lt_of_le lr0 b1.size
          have z2 := (b2.block _ l1).trans ((b1.block _ lr0).trans Z1.out)
          have bb2 : Below w.heap.size w w2 := below_step (below_step bb1 (Nat.le_refl _) b1) (Nat.le_refl _) b2
          change Code.wp _ _ _ _ (w1.alloc (.cells (vC Sha.start) 76))
          rw [← hw2]
          have H2 := Lib.hid h2
          have Z2 := Lib.hid z2
          clear hw2 h2 z2 Z1 b2 b1 bb1 hbl
          generalize w1.heap.size = q at *
          have HTM := Lib.hid hTm
          clear hTm
          have hTb : T.length < 9223372036854775000 := by omega
          go_wp2
          go_loopw [7] (BRel w.heap.size q T w) (fun i _ => T.length - (intOf i).toNat)
          case atStart => exact ⟨0, by omega, rfl, H2.out, Z2.out, bb2⟩
          case round =>
            clear H2 Z2 bb2
            obtain ⟨k, hk, rfl, hq, hz, hbl⟩ := hrel
            by_cases hlt : 64 * k < T.length
            · have hk64 : 64 * k + 64 ≤ T.length := by have := HTM.out; omega
              obtain ⟨P, hP⟩ : ∃ P, P = (T.drop (64 * k)).take 64 := ⟨_, rfl⟩
              have hPl : P.length = 64 := by rw [hP, List.length_take, List.length_drop]; omega
              have hsn := Sha.run_snoc k Sha.start T
              rw [← hP] at hsn
              have hVok := Sha.run_ok k Sha.start T Sha.start_ok
              generalize Sha.run Sha.start k T = V at *
              have hqr : q < wr.heap.size := (Array.getElem?_eq_some_iff.1 hq).1
              obtain ⟨m, hm⟩ : ∃ m, m = 64 * k := ⟨_, rfl⟩
              rw [← hm] at hlt hk64 hP ⊢
              have hlti : (m : Int) < T.length := by omega
              have HQ := Lib.hid hq
              have HZ := Lib.hid hz
              have HP := Lib.hid hP
              have HPl := Lib.hid hPl
              have HSN := Lib.hid hsn
              have HM := Lib.hid hm
              clear hq hz hP hPl hsn hm hk
              go_upto_region 14 with (fail)
              obtain ⟨w4, hw4⟩ : ∃ w4, w4 = wr.alloc (.cells (bC (Sha.parts P 0)) 78) := ⟨_, rfl⟩
              have b4 : Below wr.heap.size wr w4 := by rw [hw4]; exact (Below.refl _ _).alloc (Nat.le_refl _) _
              have h4 : w4.heap[wr.heap.size]? = some (.cells (bC (Sha.parts P 0)) 78 (0, 0)) := by rw [hw4]; exact heap_alloc_last wr _
              have hw4' : w4 = wr.alloc (.cells (bC [0, 0, 0, 0, 0, 0, 0, 0, 0, 0, 0, 0, 0, 0, 0, 0]) 78) := by rw [hw4, Sha.parts_zero]
              change Code.wp _ _ _ _ (wr.alloc (.cells (bC [0, 0, 0, 0, 0, 0, 0, 0, 0, 0, 0, 0, 0, 0, 0, 0]) 78))
              rw [← hw4']
              have lz : w.heap.size < wr.heap.size := Nat.lt_of_le_of_lt (Nat.le_of_lt l1) hqr
              have H4 := Lib.hid h4
              have HQ4 := Lib.hid ((b4.block _ hqr).trans HQ.out)
              have HZ4 := Lib.hid ((b4.block _ lz).trans HZ.out)
              have bb4 := below_step hbl (Nat.le_refl _) b4
              clear hw4 hw4' h4 HQ HZ hbl b4
              have lC : q < wr.heap.size := hqr
              clear hqr
              generalize wr.heap.size = C at *
              go_wp2
              go_loopw [9] (CRel w.heap.size q C V P w) (fun i _ => 64 - (intOf i).toNat)
              case atStart => exact ⟨0, by omega, rfl, H4.out, HQ4.out, HZ4.out, bb4⟩
              case round =>
                clear H4 HQ4 HZ4 bb4
                obtain ⟨i, hi, rfl, hC, hq, hz, hbi⟩ := hrel
                by_cases hlt2 : i < 64
                · obtain ⟨u, hu⟩ : ∃ u, u = i / 4 := ⟨_, rfl⟩
                  have e4 : (i : Int) / 4 = (u : Int) := by omega
                  have e4' : (i : Int).tdiv 4 = (u : Int) := by rw [Int.tdiv_eq_ediv_of_nonneg (by omega)]; omega
                  have cu := cell_bC hC u (by rw [Sha.parts_length]; omega)
                  have fu := fz_of hC u
                  have sq : (Sha.parts P i).getD u 0 < 16777216 := by rw [Sha.parts_getD P i u (by omega), hu]; exact Sha.part_small P i
                  have ps := Sha.parts_step P i (by rw [HPl.out]; exact hlt2) hlt2
                  rw [← hu] at ps
                  generalize (Sha.parts P i).getD u 0 = N at *
                  have hin : m + i < S2.size := by omega
                  have hini : (m : Int) + (i : Int) < S2.size := by omega
                  have hx : S2[m + i] = P.getD i 0 := by
                    rw [HP.out, List.getD_eq_getElem?_getD, List.getElem?_take_of_lt hlt2, List.getElem?_drop, ← HST.out]
                    have : m + i < S2.data.size := hin
                    rw [Array.getElem?_toList, Array.getElem?_eq_getElem this]
                    rfl
                  have bu : u < 16 := by omega
                  generalize P.getD i 0 = x at *
                  have hx8 : x.toNat < 256 := x.toNat_lt
                  have Hu := Lib.hid hu
                  have HPS := Lib.hid ps
                  have HC := Lib.hid hC
                  have HQ := Lib.hid hq
                  have HZ := Lib.hid hz
                  have hix := index_str S2 (m + i) ((m : Int) + (i : Int)) (by omega) hin x hx
                  clear hu ps hC hq hz hx
                  go_wp2
                  go_region
                  all_goals (
                    go_wp2
                    refine ⟨⟨i + 1, by omega, by go_num, ?_, (heap_far (w := wr) (by omega) _).trans HQ.out, (heap_far (w := wr) (by omega) _).trans HZ.out, ?_⟩, by simp [intOf]; omega⟩
                    · refine (heap_set (w := wr) HC.out _).trans ?_
                      rw [show (N : Int) * 256 + (x.toNat : Int) = ((N * 256 + x.toNat : Nat) : Int) by omega, bC_set, HPS.out]
                    · have := hbi.setCell (p := ⟨C, u, none⟩) (by show w.heap.size ≤ C; omega) (.int .u32 ((N : Int) * 256 + (x.toNat : Int)))
                      exact ⟨this.os, this.tape, this.output, this.size, this.block⟩)
                · obtain rfl : 64 = i := by omega
                  rw [Sha.parts_all] at hC
                  have hwl := Sha.words_lt P
                  have hWl := Sha.words_length P
                  have hrC : wr.rangeAt C 0 ((Sha.words P).map u32V) := fun j x hx => by rw [Nat.zero_add, cell_of hC]; simpa [bC] using hx
                  have hiW : (Tryd.prog.info? 78).map (·.size) = some ((Sha.words P).map u32V).length := by rw [List.length_map, hWl]; exact info_24
                  obtain ⟨U, hU⟩ : ∃ U, U = Sha.step V (Sha.words P) := ⟨_, rfl⟩
                  have c0 := cell_of hq 0
                  have c1 := cell_of hq 1
                  have c2 := cell_of hq 2
                  have c3 := cell_of hq 3
                  have c4 := cell_of hq 4
                  have c5 := cell_of hq 5
                  have c6 := cell_of hq 6
                  have c7 := cell_of hq 7
                  simp only [vC, List.getElem?_toArray, List.getElem?_cons_zero, List.getElem?_cons_succ] at c0 c1 c2 c3 c4 c5 c6 c7
                  have hst := refStep_any V (Sha.words P) wr hWl hVok hwl
                  rw [← hU] at hst
                  unfold vC at hst
                  have HST2 := Lib.hid hst
                  have HRC := Lib.hid hrC
                  have HIW := Lib.hid hiW
                  have HQ := Lib.hid hq
                  have HZ := Lib.hid hz
                  have HU := Lib.hid hU
                  have hqr : q < wr.heap.size := (Array.getElem?_eq_some_iff.1 hq).1
                  clear hC hwl hWl hrC hiW hst hq hz hU
                  simp only [Int.cast_ofNat_Int]
                  go_upto_region 12 with (first
                    | refine wpList_load_mid rfl 78 (.tmp 8) rfl C 0 rfl ((Sha.words P).map u32V) _ HRC.out Tryd.underlying78 rfl HIW.out ?_
                    | (go_at_call 54; refine HST2.out.mono ?_; rintro e w6 ⟨rfl, b6⟩; have q6 := (b6.block _ hqr).trans HQ.out; have k0 := (cell_of q6 0); have k1 := (cell_of q6 1); have k2 := (cell_of q6 2); have k3 := (cell_of q6 3); have k4 := (cell_of q6 4); have k5 := (cell_of q6 5); have k6 := (cell_of q6 6); have k7 := (cell_of q6 7); have f0 := fz_of q6 0; have f1 := fz_of q6 1; have f2 := fz_of q6 2; have f3 := fz_of q6 3; have f4 := fz_of q6 4; have f5 := fz_of q6 5; have f6 := fz_of q6 6; have f7 := fz_of q6 7; have Q6 := Lib.hid q6; clear q6; simp only [vC, List.getElem?_toArray, List.getElem?_cons_zero, List.getElem?_cons_succ] at k0 k1 k2 k3 k4 k5 k6 k7))
                  obtain ⟨w7, hw7⟩ : ∃ w7, w7 = (((((((w6.setCell ⟨q, 0, none⟩ (.int .u32 U.a)).setCell ⟨q, 1, none⟩ (.int .u32 U.b)).setCell ⟨q, 2, none⟩ (.int .u32 U.c)).setCell ⟨q, 3, none⟩ (.int .u32 U.d)).setCell ⟨q, 4, none⟩ (.int .u32 U.e)).setCell ⟨q, 5, none⟩ (.int .u32 U.f)).setCell ⟨q, 6, none⟩ (.int .u32 U.g)).setCell ⟨q, 7, none⟩ (.int .u32 U.h) := ⟨_, rfl⟩
                  have oo : Only q w6 w7 := by rw [hw7]; exact ((((((((Only.refl q w6).setCell 0 _).setCell 1 _).setCell 2 _).setCell 3 _).setCell 4 _).setCell 5 _).setCell 6 _).setCell 7 _
                  have q7 : w7.heap[q]? = some (.cells (vC U) 76 (0, 0)) := by rw [hw7]; exact put8v V U Q6.out
                  rw [← hw7]
                  have bb6 : Below w.heap.size w w6 := below_step hbi (Nat.le_refl _) b6
                  have z7 := (oo.block _ (by have := bb6.size; have := (Array.getElem?_eq_some_iff.1 Q6.out).1; omega) (by omega)).trans ((b6.block _ (Array.getElem?_eq_some_iff.1 HZ.out).1).trans HZ.out)
                  have bb7 : Below w.heap.size w w7 := bb6.trans (oo.below (by omega) bb6.size)
                  have Q7 := Lib.hid q7
                  have Z7 := Lib.hid z7
                  clear hw7 q7 z7 k0 k1 k2 k3 k4 k5 k6 k7 f0 f1 f2 f3 f4 f5 f6 f7 c0 c1 c2 c3 c4 c5 c6 c7
                  go_wp2
                  refine ⟨⟨k + 1, ?_, ?_, ?_, Z7.out, bb7⟩, ?_⟩
                  · have := HM.out; omega
                  · have := HM.out
                    congr 1
                    omega
                  · rw [HSN.out, ← HU.out]; exact Q7.out
                  · have := HM.out; simp [intOf]; omega
            · have hkT : T.length / 64 = k := by have := HTM.out; omega
              have hdig : (Sha.run Sha.start k T).bytes = Sha.digest s := by unfold Sha.digest; rw [← HT.out, hkT]
              have hVok := Sha.run_ok k Sha.start T Sha.start_ok
              generalize Sha.run Sha.start k T = V at *
              have hqr : q < wr.heap.size := (Array.getElem?_eq_some_iff.1 hq).1
              have hlti : ¬ ((64 * k : Nat) : Int) < T.length := by omega
              have HDIG := Lib.hid hdig
              have HQ := Lib.hid hq
              have HZ := Lib.hid hz
              clear hdig hq hz hkT
              obtain ⟨m, hm⟩ : ∃ m, m = 64 * k := ⟨_, rfl⟩
              rw [← hm] at hlti hlt hk ⊢
              clear hm
              go_upto_region 20 with (fail)
              obtain ⟨w4, hw4⟩ : ∃ w4, w4 = wr.alloc (.cells ((List.replicate 32 (0 : UInt8)).map u8V).toArray 31) := ⟨_, rfl⟩
              have b4 : Below wr.heap.size wr w4 := by rw [hw4]; exact (Below.refl _ _).alloc (Nat.le_refl _) _
              have h4 : w4.heap[wr.heap.size]? = some (.cells ((V.bytes.take 0 ++ List.replicate (32 - 0) 0).map u8V).toArray 31 (0, 0)) := by rw [hw4]; exact heap_alloc_last wr _
              change Code.wp _ _ _ _ (wr.alloc (.cells ((List.replicate 32 (0 : UInt8)).map u8V).toArray 31))
              rw [← hw4]
              have lz : w.heap.size < wr.heap.size := (Array.getElem?_eq_some_iff.1 HZ.out).1
              have H4 := Lib.hid h4
              have HQ4 := Lib.hid ((b4.block _ hqr).trans HQ.out)
              have HZ4 := Lib.hid ((b4.block _ lz).trans HZ.out)
              have bb4 := below_step hbl (Nat.le_refl _) b4
              clear hw4 h4 HQ HZ hbl b4
              generalize wr.heap.size = o at *
              go_wp2
              go_loopw [11] (ORel w.heap.size q o V w) (fun i _ => 32 - (intOf i).toNat)
              case atStart => exact ⟨0, by omega, rfl, H4.out, HQ4.out, HZ4.out, bb4⟩
              case round =>
                clear H4 HQ4 HZ4 bb4
                obtain ⟨i, hi, rfl, hh, hq, hzi, hbi⟩ := hrel
                by_cases hlt2 : i < 32
                · obtain ⟨u, hu⟩ : ∃ u, u = i / 4 := ⟨_, rfl⟩
                  obtain ⟨r, hr⟩ : ∃ r, r = i % 4 := ⟨_, rfl⟩
                  have e4 : (i : Int) / 4 = (u : Int) := by omega
                  have er : (i : Int) % 4 = (r : Int) := by omega
                  have bu : u < 8 := by omega
                  have br : r < 4 := by omega
                  have cw : wr.cell? ⟨q, u, none⟩ = some (.int .u32 (V.list.getD u 0 : Nat)) := by rw [cell_of hq]; exact vC_at V u bu
                  have lw := list_lt V hVok u
                  have ey := bytes_at V i hlt2
                  rw [← hu, ← hr] at ey
                  generalize V.list.getD u 0 = x at *
                  have hst := sum_step V i hlt2
                  generalize V.bytes.getD i 0 = y at *
                  have ev : (x : Int) / 2 ^ (24 - 8 * r) % 256 = (y.toNat : Int) := by
                    rw [ey, UInt8.toNat_ofNat']
                    simp
                  have ci : wr.cell? ⟨o, i, none⟩ = some (.int .u8 0) := by
                    have hbl := Sha.bytes_length V
                    rw [cell_of hh, List.getElem?_toArray, List.getElem?_map, List.getElem?_append_right (by rw [List.length_take]; omega), List.length_take, Nat.min_eq_left (by omega), Nat.sub_self, List.getElem?_replicate, if_pos (by omega)]
                    rfl
                  have fi := fz_of hh i
                  have HST2 := Lib.hid hst
                  have HH := Lib.hid hh
                  have HZI := Lib.hid hzi
                  have HQ := Lib.hid hq
                  have hu' := Lib.hid hu
                  have hr' := Lib.hid hr
                  have hey' := Lib.hid ey
                  clear hst hh hu hr ey hzi hq
                  go_wp2
                  refine ⟨⟨i + 1, by omega, by go_num, (heap_set HH.out _).trans (by rw [HST2.out]), (heap_far (by omega) _).trans HQ.out, (heap_far (by omega) _).trans HZI.out, hbi.setCell (by show w.heap.size ≤ o; omega) _⟩, by simp [intOf]; omega⟩
                · obtain rfl : 32 = i := by omega
                  have hbl := Sha.bytes_length V
                  rw [List.take_of_length_le (by omega), Nat.sub_self, List.replicate_zero, List.append_nil, HDIG.out] at hh
                  rw [HDIG.out] at hbl
                  obtain ⟨D, hD⟩ : ∃ D, D = Sha.digest s := ⟨_, rfl⟩
                  rw [← hD] at hh hbl
                  have HD := Lib.hid hD
                  have HBL := Lib.hid hbl
                  have hR : wr.rangeAt o 0 (D.map u8V) := fun j x hx => by rw [Nat.zero_add, cell_of hh]; simpa using hx
                  have HR := Lib.hid hR
                  have HZI := Lib.hid hzi
                  clear hD hbl hR hh hzi HDIG hq
                  go_wp2_with (first
                    | refine wpList_load_mid rfl 31 (.tmp 10) rfl o 0 rfl (D.map u8V) _ HR.out Tryd.underlying31 rfl (sum_info' HBL.out) ?_
                    | refine wpList_store_mid rfl 31 (.tmp 2) (.tmp 84) rfl w.heap.size 0 (D.map u8V).toArray rfl rfl (sum_there HZI.out HBL.out) (sum_info HBL.out) (sum_one D) ?_)
                  exact bodyPost_ret (v := sumV D) (results_cell (t := 2) (ty := 31) (b := w.heap.size) (cs := D.map u8V) rfl _ _ _ rfl (sum_range HZI.out HBL.out) Tryd.underlying31 rfl (sum_info' HBL.out)) rfl ⟨by rw [HD.out], below_setCells (Nat.le_refl _) _ _ _ hbi⟩
end Go.Proofs.YtgiakpnkidblpaaDoor
