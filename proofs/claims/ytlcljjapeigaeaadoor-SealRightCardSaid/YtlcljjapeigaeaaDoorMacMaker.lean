/-
  Package mac: New; a maker's Sum, Right, Name; Of, Right.
-/
import Derived.Test.YtlcljjapeigaeaaDoorMacNew
import Derived.Test.YtlcljjapeigaeaaDoorMGen
import Derived.Test.YtlcljjapeigaeaaDoorMShaA
import Derived.Deep.CutRange
import Derived.Deep.RegionWith
namespace Go.Proofs.YtlcljjapeigaeaaDoor
open Go.RowKit

set_option maxHeartbeats 1000000 in
set_option maxRecDepth 100000 in
theorem macNew_any (s : ByteArray) (k : List UInt8) (hs : s.data.toList = k) (w : World) (hK : KT w) (hlen : k.length < 576460752303423488) :
    Calls Tryd.prog 90 #[.string s] w fun e w' => (∃ p, e = .returned (.pointer (some ⟨p, 0, none⟩)) ∧ w.heap.size ≤ p ∧ IsMaker p k w') ∧ Below w.heap.size w w' := by
  obtain ⟨S, hS⟩ : ∃ S : ByteArray, S = ⟨(Mac.pad k).toArray⟩ := ⟨_, rfl⟩
  have hSd : S.data.toList = Mac.pad k := by rw [hS]
  have HS := Lib.hid hSd
  have hpad := pad_any s k hs w hK hlen
  rw [← hS] at hpad
  have HP := Lib.hid hpad
  clear hSd hpad hS hs
  go_enter Tryd.func90, Tryd.ntmps90
  go_upto_region 3 with (first
    | (go_at_call 100; refine HP.out.mono ?_; rintro e w1 ⟨rfl, b1⟩))
  obtain ⟨w2, hw2⟩ : ∃ w2, w2 = w1.alloc (.cells #[.string S] 9) := ⟨_, rfl⟩
  have b2 : Below w1.heap.size w1 w2 := by rw [hw2]; exact (Below.refl _ _).alloc (Nat.le_refl _) _
  have q2 : w2.cell? ⟨w1.heap.size, 0, none⟩ = some (.string S) := by rw [hw2, cell_of (heap_alloc_last w1 _)]; rfl
  have l2 : w1.heap.size < w2.heap.size := by rw [hw2]; simp
  have bb2 := below_step b1 (Nat.le_refl _) b2
  have hK2 := hK.old bb2
  rw [← hw2]
  clear hw2
  go_wp2_with (first
    | (go_at_call 101; ((with_reducible refine (begun_any w1.heap.size S (Mac.pad k) HS.out (Mac.pad_length k) 54 54 rfl w2 q2 hK2).mono ?_); rintro e w3 ⟨⟨v1, x1, hv1, rfl⟩, b3⟩; have q3 : w3.cell? ⟨w1.heap.size, 0, none⟩ = some (.string S) := (b3.cell (p := ⟨w1.heap.size, 0, none⟩) l2).trans q2; have hK3 := hK2.old b3))
    | (go_at_call 101; ((with_reducible refine (begun_any w1.heap.size S (Mac.pad k) HS.out (Mac.pad_length k) 92 92 rfl w3 q3 hK3).mono ?_); rintro e w4 ⟨⟨v2, x2, hv2, rfl⟩, b4⟩))
    | refine wpList_build_at rfl 134 #[(0, .tmp 9), (1, .tmp 11)] rfl (hL v1 x1 64 ++ hL v2 x2 64).toArray [(0, .agg (hL v1 x1 64).toArray), (1, .agg (hL v2 x2 64).toArray)] (by simp [Act.eval]) (built_maker _ _ (hL_length _ _ _ hv1.1) (hL_length _ _ _ hv2.1)) ?_)
  go_ret
  have bb4 := below_step (below_step bb2 (Nat.le_refl _) b3) (Nat.le_refl _) b4
  refine ⟨⟨w4.heap.size, rfl, bb4.size, ?_⟩, bb4.alloc bb4.size _⟩
  obtain ⟨r1, r2⟩ := range_split (heap_alloc_last w4 (.cells (hL v1 x1 64 ++ hL v2 x2 64).toArray 134))
  rw [hL_length _ _ _ hv1.1] at r2
  have hi := Mac.inner_length k
  have ho := Mac.outer_length k
  exact ⟨⟨v1, x1, hv1, by simp, by rw [hi]; exact r1⟩, ⟨v2, x2, hv2, by simp, by rw [ho]; exact r2⟩⟩

/-- Slot 0 points to a maker with the key k; block z is the result's. -/
def MakerRel (k : List UInt8) (w : World) (s0 : Value) (wc : World) : Prop :=
  ∃ p, s0 = .pointer (some ⟨p, 0, none⟩) ∧ IsMaker p k wc ∧ wc.heap[w.heap.size]? = some (.cells ((List.replicate 32 (0 : UInt8)).map u8V).toArray 23 (0, 0)) ∧ Below w.heap.size w wc
/-- Ahead of part j. -/
def PartRel (q : Nat) (I : List UInt8) (ts : List ByteArray) (w1 : World) (si : Value) (wr : World) : Prop :=
  ∃ j : Nat, j ≤ ts.length ∧ si = .int .i64 j ∧ IsHash q (I ++ flat (ts.take j)) wr ∧ Only q w1 wr

set_option maxHeartbeats 4000000 in
set_option maxRecDepth 100000 in
theorem macSum_any (p : Nat) (k : List UInt8) (v : Value) (ts : List ByteArray) (w : World) (h : IsMaker p k w ∨ ZeroMaker p w ∧ k = []) (hr : StrRow w v ts) (hK : KT w) (hlen : (flat ts).length < 288230376151711744) :
    Calls Tryd.prog 91 #[.pointer (some ⟨p, 0, none⟩), v] w fun e w' => e = .returned (sumV (Mac.mac k (flat ts))) ∧ Below w.heap.size w w' := by
  obtain ⟨a, cap, rfl, hl, hc⟩ := hr
  go_enter Tryd.func91, Tryd.ntmps91
  go_upto_region 1 with (fail)
  obtain ⟨w0, hw0⟩ : ∃ w0, w0 = w.alloc (.cells #[.int .u8 0, .int .u8 0, .int .u8 0, .int .u8 0, .int .u8 0, .int .u8 0, .int .u8 0, .int .u8 0, .int .u8 0, .int .u8 0, .int .u8 0, .int .u8 0, .int .u8 0, .int .u8 0, .int .u8 0, .int .u8 0, .int .u8 0, .int .u8 0, .int .u8 0, .int .u8 0, .int .u8 0, .int .u8 0, .int .u8 0, .int .u8 0, .int .u8 0, .int .u8 0, .int .u8 0, .int .u8 0, .int .u8 0, .int .u8 0, .int .u8 0, .int .u8 0] 23) := ⟨_, rfl⟩
  have b0 : Below w.heap.size w w0 := by rw [hw0]; exact (Below.refl _ _).alloc (Nat.le_refl _) _
  have z0 : w0.heap[w.heap.size]? = some (.cells ((List.replicate 32 (0 : UInt8)).map u8V).toArray 23 (0, 0)) := by rw [hw0]; exact heap_alloc_last w _
  have s0 : w0.heap.size = w.heap.size + 1 := by rw [hw0]; exact World.size_alloc ..
  rw [← hw0]
  have hK0 := hK.old b0
  have Hz0 := Lib.hid z0
  have Hs0 := Lib.hid s0
  have HC := Lib.hid hc
  clear hw0 z0 s0 hc
  have h0 : IsMaker p k w0 ∨ ZeroMaker p w0 ∧ k = [] := h.imp (fun x => x.old b0 x.lt) (fun x => ⟨x.1.old b0 x.1.lt, x.2⟩)
  obtain ⟨I, hI, hIl⟩ : ∃ I, HashAt p 0 I w0 ∧ ((I.length = 0 ∧ ZeroMaker p w0 ∧ k = []) ∨ (I.length = 64 ∧ IsMaker p k w0)) := by
    rcases h0 with x | ⟨x, y⟩
    · exact ⟨_, x.1, .inr ⟨Mac.inner_length k, x⟩⟩
    · exact ⟨_, x.1, .inl ⟨rfl, x, y⟩⟩
  go_upto_if 16 with (first
    | (go_at_call 102; refine (lenAt_any p 0 I _ hI).mono ?_; rintro e w2 ⟨rfl, rfl⟩))
  go_cut [0] from 9 to 17 (MakerRel k w)
  case first =>
    rcases hIl with ⟨hn, hz, hk⟩ | ⟨hn, hm⟩
    · go_wp2_with (first
        | (go_at_call 90; refine (macNew_any ⟨#[]⟩ [] rfl _ hK0 (by decide)).mono ?_; rintro e w3 ⟨⟨p3, rfl, hp3, hm3⟩, b3⟩))
      go_meet
      case rel => exact ⟨p3, rfl, hk ▸ hm3, (b3.block _ (by have := Hs0.out; omega)).trans Hz0.out, below_step b0 (Nat.le_refl _) b3⟩
    · go_wp2
      go_meet
      case rel => exact ⟨p, rfl, hm, Hz0.out, b0⟩
  case rest =>
    obtain ⟨p, rfl, hm, hz, hbc⟩ := hcut
    clear hI hIl h0 h
    have hzl : w.heap.size < wc.heap.size := (Array.getElem?_eq_some_iff.1 hz).1
    have HZ := Lib.hid hz
    obtain ⟨D, hD⟩ : ∃ D, D = Mac.mac k (flat ts) := ⟨_, rfl⟩
    have hDl : D.length = 32 := by rw [hD]; exact Mac.mac_length _ _
    have HD := Lib.hid hD
    have HDl := Lib.hid hDl
    clear hz hD hDl
    have hmd : IsMaker p k wc.drew := hm.old (Below.refl wc.heap.size wc).drew hm.lt
    have hmd1 := hmd.1
    have bcd : Below w.heap.size w wc.drew := hbc.drew
    go_upto_region 5 with (fail)
    go_region_with (first
      | (go_at_call 103; ((with_reducible refine (copyAt_any p 0 (Mac.inner k) wc.drew hmd1).mono ?_); rintro e w4 ⟨rfl, i4, b4⟩; have hm4 := (hmd.old b4 hmd.lt).2))
      | (go_at_call 103; ((with_reducible refine (copyAt_any p 73 (Mac.outer k) w4 hm4).mono ?_); rintro e w5 ⟨rfl, i5, b5⟩)))
    have hq5 : wc.drew.heap.size < w4.heap.size := i4.lt
    have hqe : wc.drew.heap.size = wc.heap.size := rfl
    rw [hqe] at hq5 i4
    have z4 := (b4.block _ (by rw [hqe]; exact hzl)).trans HZ.out
    have z5 := (b5.block _ (by omega)).trans z4
    have i45 := i4.old b5 i4.lt
    have b45 := below_step (below_step bcd (Nat.le_refl _) b4) (Nat.le_refl _) b5
    have hK5 := hK.old b45
    have Z5 := Lib.hid z5
    have hlt5 := i5.lt
    clear hm hmd hmd1 hm4 z4 z5 i4
    go_wp2
    go_loopw [28] (PartRel wc.heap.size (Mac.inner k) ts w5) (fun i _ => ts.length - (intOf i).toNat)
    case atStart => exact ⟨0, by omega, rfl, by simpa [flat] using i45, Only.refl _ _⟩
    case round =>
      obtain ⟨j, hj, rfl, ij, oj⟩ := hrel
      have hKr := hK5.only oj (by have := hK.pos; omega)
      by_cases hlt : j < ts.length
      · obtain ⟨b, off, rfl, hb, hcj⟩ := HC.out (by intro e; rw [e] at hlt; simp at hlt)
        have hcx := hcj j hlt
        have hft := flat_take ts j hlt
        have hfl := flat_le ts (j + 1)
        rw [hft, List.length_append] at hfl
        generalize ts.getD j ByteArray.empty = X at *
        have hcx1 : wr.cell? ⟨b, off + j, none⟩ = some (.string X) := (oj.cell (Nat.lt_of_lt_of_le hb b45.size) (by omega)).trans ((b45.cell (p := ⟨b, off + j, none⟩) hb).trans hcx)
        have HFT := Lib.hid hft
        have HJ := Lib.hid hcj
        have hin := Mac.inner_length k
        have hle : (Mac.inner k ++ flat (ts.take j)).length + X.data.toList.length < 1152921504606846976 := by rw [List.length_append]; omega
        have HLE := Lib.hid hle
        clear hft hcj hcx hfl hin hle
        go_wp2_with (first
          | (go_at_call 85; refine (write_any wc.heap.size _ X X.data.toList rfl _ ij hKr HLE.out).mono ?_; rintro e w6 ⟨rfl, i6, o6⟩))
        refine ⟨⟨j + 1, by omega, by go_num, by rw [HFT.out, ← List.append_assoc]; exact i6, oj.trans o6⟩, by simp [intOf]; omega⟩
      · obtain rfl : ts.length = j := by omega
        rw [List.take_length] at ij
        have zr := (oj.block _ (by omega) (by omega)).trans Z5.out
        have br : Below w.heap.size w wr := b45.trans (oj.below (by omega) b45.size)
        have io := i5.kept oj (by omega)
        have hin := Mac.inner_length k
        have hon := Mac.outer_length k
        obtain ⟨E, hE⟩ : ∃ E, E = Sha.digest (Mac.inner k ++ flat ts) := ⟨_, rfl⟩
        have hEl : E.length = 32 := by rw [hE]; exact Sha.digest_length _
        have hDE : Sha.digest (Mac.outer k ++ E) = D := by rw [HD.out, hE]; rfl
        have hli : (Mac.inner k ++ flat ts).length < 576460752303423488 := by rw [List.length_append]; omega
        have hlo : (Mac.outer k).length + E.length < 1152921504606846976 := by omega
        have hlo2 : (Mac.outer k ++ E).length < 576460752303423488 := by rw [List.length_append]; omega
        have HZR := Lib.hid zr
        have HE := Lib.hid hE
        have HEl := Lib.hid hEl
        have HDE := Lib.hid hDE
        have HLI := Lib.hid hli
        have HLO := Lib.hid hlo
        have HLO2 := Lib.hid hlo2
        clear zr hE hEl hDE hli hlo hlo2 hin hon
        go_wp2_with (first
          | (go_at_call 86; ((with_reducible refine (sum_any wc.heap.size (Mac.inner k ++ flat ts) wr ij hKr HLI.out).mono ?_); rintro e w7 ⟨rfl, b7⟩; rw [← HE.out]; have io7 := io.old b7 io.lt; have z7 := Lib.hid ((b7.block _ (Nat.lt_of_lt_of_le (by omega) oj.size)).trans HZR.out); have hK7 := hKr.old b7))
          | (go_at_call 66; refine (bytes_any E w7 HEl.out).mono ?_; rintro e w8 ⟨rfl, b8⟩; have io8 := io7.old b8 io7.lt; have z8 := Lib.hid ((b8.block _ (Array.getElem?_eq_some_iff.1 z7.out).1).trans z7.out); have hK8 := hK7.old b8)
          | (go_at_call 85; refine (write_any w4.heap.size (Mac.outer k) ⟨E.toArray⟩ E rfl w8 io8 hK8 HLO.out).mono ?_; rintro e w9 ⟨rfl, io9, o9⟩; have hK9 := hK8.only o9 (by have := hK.pos; omega); have z9 := Lib.hid ((o9.block _ (Array.getElem?_eq_some_iff.1 z8.out).1 (by omega)).trans z8.out))
          | (go_at_call 86; ((with_reducible refine (sum_any w4.heap.size (Mac.outer k ++ E) w9 io9 hK9 HLO2.out).mono ?_); rintro e w10 ⟨rfl, b10⟩; rw [HDE.out]; have z10 := Lib.hid ((b10.block _ (Array.getElem?_eq_some_iff.1 z9.out).1).trans z9.out)))
          | refine wpList_store_mid rfl 23 (.tmp 4) (.tmp 42) rfl w.heap.size 0 (D.map u8V).toArray rfl rfl (sum_there z10.out HDl.out) (sum_info HDl.out) (sum_one D) ?_)
        have b8' := below_step (below_step br (Nat.le_refl _) b7) (Nat.le_refl _) b8
        have b9' : Below w.heap.size w w9 := b8'.trans (o9.below (by omega) b8'.size)
        exact bodyPost_ret (v := sumV D) (results_cell (t := 4) (ty := 23) (b := w.heap.size) (cs := D.map u8V) rfl _ _ _ rfl (sum_range z10.out HDl.out) Tryd.underlying23 rfl (sum_info' HDl.out)) rfl ⟨by rw [HD.out], below_setCells (Nat.le_refl _) _ _ _ (below_step b9' (Nat.le_refl _) b10)⟩
end Go.Proofs.YtlcljjapeigaeaaDoor
