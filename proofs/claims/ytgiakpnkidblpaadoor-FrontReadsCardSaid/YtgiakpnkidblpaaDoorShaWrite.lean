/-
  Package sha: what Write of a hash does, for every text.
-/
import Derived.Test.YtgiakpnkidblpaaDoorShaHStep
import Derived.Test.YtgiakpnkidblpaaDoorShaIs
import Derived.Deep.RegionLaw
import Derived.Test.YtgiakpnkidblpaaDoorShaHex
namespace Go.Proofs.YtgiakpnkidblpaaDoor
open Go.RowKit

theorem len_44 : Tryd.prog.arrayLen 96 = 64 := by kernel_rfl
theorem elem_44 : Tryd.prog.elem 96 = 5 := by kernel_rfl
theorem slice_44 (p j : Nat) (hj : j < 64) (w : World) : (Instr.sliceAt 96 (.pointer (some ⟨p, 8, none⟩)) (some (.int .i64 (j : Int))) none none).run Tryd.prog w = .ok (.slice (some ⟨p, 8 + j, none⟩) (64 - j) (64 - j)) w := by
  rw [run_sliceAt_array_l w 96 _ (by rw [len_44, elem_44]; exact Tryd.underlying96) .i64 (j : Int) (by omega) (by rw [len_44]; omega), elem_44, size_u8, len_44]
  simp only [Result.andThen, slicedAt, Int.toNat_natCast, Nat.mul_one]
  rw [if_neg (by omega), Addr.add_mid]

/-- Ahead of a round: what was written, and the rest. -/
def WriteRel (p : Nat) (s t : List UInt8) (w : World) (sr : Value) (wr : World) : Prop :=
  ∃ k : Nat, ∃ R : ByteArray, k ≤ t.length ∧ sr = .string R ∧ R.data.toList = t.drop k ∧ IsHash p (s ++ t.take k) wr ∧ Only p w wr

theorem write_nil (t : ByteArray) (w : World) : Calls Tryd.prog 69 #[.pointer none, .string t] w fun e w' => e = .returned (.int .i64 0) ∧ w = w' := by
  go_enter Tryd.func69, Tryd.ntmps69
  go_wp2
  go_ret
  exact ⟨rfl, rfl⟩

set_option maxHeartbeats 1000000 in
set_option maxRecDepth 100000 in
theorem write_any (p : Nat) (s : List UInt8) (T : ByteArray) (t : List UInt8) (hT : T.data.toList = t) (w : World) (h : IsHash p s w) (hK : KT w) (hlen : s.length + t.length < 1152921504606846976) :
    Calls Tryd.prog 69 #[.pointer (some ⟨p, 0, none⟩), .string T] w fun e w' => e = .returned (.int .i64 t.length) ∧ IsHash p (s ++ t) w' ∧ Only p w w' := by
  have hsz : T.size = t.length := by rw [← hT]; exact Lib.size_eq T
  have HT := Lib.hid hT
  have HSZ := Lib.hid hsz
  clear hT hsz
  go_enter Tryd.func69, Tryd.ntmps69
  go_wp2
  go_loopw [5] (WriteRel p s t w) (fun r _ => match r with | .string R => R.size | _ => 0)
  case atStart => exact ⟨0, T, by omega, rfl, HT.out, by simpa using h, Only.refl _ _⟩
  case round =>
    obtain ⟨k, R, hk, rfl, hR, hh, ho⟩ := hrel
    have hRs : R.size = t.length - k := by have := congrArg List.length hR; rw [← Lib.size_eq, List.length_drop] at this; exact this
    by_cases hlt : k < t.length
    · obtain ⟨v, b, hc, hs, hv⟩ := hh
      obtain ⟨S, hS⟩ : ∃ S, S = s ++ t.take k := ⟨_, rfl⟩
      rw [← hS] at hc hs hv
      have hSl : S.length = s.length + k := by rw [hS, List.length_append, List.length_take]; omega
      obtain ⟨n, hn⟩ : ∃ n, n = S.length := ⟨_, rfl⟩
      rw [← hn] at hc
      obtain ⟨j, hj⟩ : ∃ j, j = n % 64 := ⟨_, rfl⟩
      obtain ⟨m, hm⟩ : ∃ m, m = min R.size (64 - j) := ⟨_, rfl⟩
      have bj : j < 64 := by omega
      have bm : 0 < m := by omega
      have bn : n < 1152921504606846976 := by omega
      have e1 : (n : Int) % 64 = (j : Int) := by omega
      have e2 : (n : Int).tmod 64 = (j : Int) := by rw [Int.tmod_eq_emod_of_nonneg (by omega)]; omega
      have c72 := hc.size
      have hR0 : 0 < R.size := by omega
      obtain ⟨hne, hem⟩ : ¬ R.toList = [] ∧ R.toList.isEmpty = false := toList_ne hR0
      have HHn := Lib.hid hn
      have HHj := Lib.hid hj
      have HHm := Lib.hid hm
      have HHS := Lib.hid hS
      have HHR := Lib.hid hR
      have HHs := Lib.hid hs
      have HHv := Lib.hid hv
      have HSl := Lib.hid hSl
      have HRs := Lib.hid hRs
      clear hn hj hm hS hR hs hv hSl hRs
      have HCH := Lib.hid hc.2.2
      have hsl := slice_44 p j bj
      have hfit : 8 + j + m ≤ (hL v b n).length := by rw [hL_length v b n hc.1]; have := HHm.out; omega
      have hmin : Nat.min R.size (64 - j) = m := HHm.out.symm
      have HFIT := Lib.hid hfit
      have HMIN := Lib.hid hmin
      clear hfit hmin
      go_wp2
      go_region_law (
        (refine step_copy_str rfl (.tmp 20) (.tmp 21) 66 9 rfl 5 Tryd.underlying66 size_u8 p (8 + j) (64 - j) (64 - j) rfl R rfl m HMIN.out (hL v b n) 98 HCH.out HFIT.out ?_)
        intro w1 hw1 o1)
      obtain ⟨r, hr⟩ : ∃ r, r = R.data.toList.take m := ⟨_, rfl⟩
      have hmR : m ≤ R.size := by have := HHm.out; omega
      have hrl : r.length = m := by rw [hr, List.length_take, ← Lib.size_eq]; omega
      have hjm : j + r.length ≤ 64 := by rw [hrl]; have := HHm.out; omega
      have c1 : Cells p v (spl b j r) n w1 := by
        refine ⟨spl_length b j r hc.1 hjm, hc.2.1, ?_⟩
        rw [hw1, ← hr, hL_splice v b n j r hc.1 hjm]
      have o1' : Only p w w1 := ho.trans ⟨o1.os, o1.tape, o1.output, o1.size, o1.block⟩
      have hp0 : p ≠ 0 := by obtain ⟨_, _, hx, _⟩ := h; exact hx.pos hK
      have c2 : Cells p v (spl b j r) (n + m) (w1.setCell ⟨p, 72, none⟩ (.int .i64 ((n : Int) + (m : Int)))) := c1.setSize (n + m)
      have o2 : Only p w (w1.setCell ⟨p, 72, none⟩ (.int .i64 ((n : Int) + (m : Int)))) := o1'.setCell 72 _
      have hK2 := hK.only o2 hp0
      have k72 := c1.size
      have f72 := c1.fz 72
      have hnext : s ++ t.take (k + m) = (s ++ t.take k) ++ r := by
        rw [hr, HHR.out, List.append_assoc, ← List.take_add]
      have hmt : k + m ≤ t.length := by have := HRs.out; omega
      have hRd : (R.extract m R.size).data.toList = t.drop (k + m) := by
        rw [Lib.extract_eq, HHR.out, List.drop_drop]
        rw [List.take_of_length_le (by rw [List.length_drop]; have := HRs.out; omega)]
      have hms : (R.extract m R.size).size < R.size := by rw [ByteArray.size_extract]; omega
      have bnm : n + m < 9223372036854775808 := by have := HHn.out; have := HSl.out; omega
      have HR := Lib.hid hr
      have HRL := Lib.hid hrl
      have HW1 := Lib.hid hw1
      have HNX := Lib.hid hnext
      have HRD := Lib.hid hRd
      have HC2 := Lib.hid c2
      have HMS := Lib.hid hms
      clear hr hrl hw1 hnext hRd c72 hsl e2 hms
      by_cases hful : j + m = 64
      · have ht0 : (((n : Int) + (m : Int)) % 64 == 0) = true := by have := HHj.out; simp; omega
        go_wp2_with (first
          | (go_at_call 77; refine (hstep_any p v (spl b j r) (n + m) _ HC2.out hK2 bnm).mono ?_; rintro e w3 ⟨rfl, h3, o3⟩))
        go_roundw
        case rel =>
          refine ⟨k + m, R.extract m R.size, hmt, rfl, HRD.out, ?_, o2.trans o3⟩
          rw [HNX.out, ← HHS.out]
          have hnl := HHn.out
          have hjl := HHj.out
          have hrl := HRL.out
          rw [hnl] at hjl
          refine isHash_full HHs.out HHv.out hc.1 (by omega) ?_
          rw [← hjl, ← hnl, hrl]
          exact h3
        case measure => exact HMS.out
      · have ht0 : (((n : Int) + (m : Int)) % 64 == 0) = false := by have := HHj.out; have := HHm.out; simp; omega
        go_wp2
        go_roundw
        case rel =>
          refine ⟨k + m, R.extract m R.size, hmt, rfl, HRD.out, ?_, o2⟩
          rw [HNX.out, ← HHS.out]
          have hnl := HHn.out
          have hjl := HHj.out
          have hrl := HRL.out
          have hml := HHm.out
          rw [hnl] at hjl
          refine isHash_more HHs.out HHv.out hc.1 (by omega) ?_
          rw [← hjl, ← hnl, hrl]
          exact HC2.out
        case measure => exact HMS.out
    · obtain rfl : t.length = k := by omega
      have hR0 : R.size = 0 := by omega
      have hne : R.toList = [] := toList_nil hR0
      rw [List.take_length] at hh
      have hszT : (T.size : Int) = t.length := by rw [HSZ.out]
      clear hR hRs hR0
      go_wp2
      go_ret
      exact ⟨rfl, hh, ho⟩
end Go.Proofs.YtgiakpnkidblpaaDoor
