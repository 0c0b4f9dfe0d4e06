/-
  Package check and the document's own: what Of, Seal, Whole and Open tell.
-/
import Derived.Test.YthohdkpgckandaaDoorCrcAdd
import Derived.Test.YthohdkpgckandaaDoorRegOps
namespace Go.Proofs.YthohdkpgckandaaDoor
open Go.RowKit

theorem rof_any (S : ByteArray) (s : List UInt8) (hs : S.data.toList = s) (hl : s.length ≤ 9223372036854775807) (w : World) :
    Calls Tryd.prog 13 #[.string S] w fun e w' => e = .returned (.int .u32 (Crc.of s : Nat)) ∧ w = w' := by
  go_enter Tryd.func13, Tryd.ntmps13
  go_wp2_with (go_at_call 15; refine (radd_any 0 (by decide) S s hs hl _).mono ?_; rintro e w1 ⟨rfl, rfl⟩)
  go_ret
  exact ⟨rfl, rfl⟩

theorem flat_none (ts : List ByteArray) : flat (ts.take 0) = [] := rfl
theorem good_beq (n : Nat) : ((n : Int) == 558161692) = decide (n = Crc.good) := by
  by_cases h : n = Crc.good
  · rw [decide_eq_true h, h]; rfl
  · rw [decide_eq_false h]
    have : ¬ (n : Int) = 558161692 := fun e => h (by unfold Crc.good; omega)
    simpa using this
/-- Ahead of part k. -/
def OfRel (ts : List ByteArray) (sc si : Value) : Prop :=
  ∃ k : Nat, k ≤ ts.length ∧ si = .int .i64 k ∧ sc = .int .u32 (Crc.of (flat (ts.take k)) : Nat)

set_option maxHeartbeats 1000000 in
set_option maxRecDepth 100000 in
theorem of_any (v : Value) (ts : List ByteArray) (l : List UInt8) (hf : flat ts = l) (w : World) (h : StrRow w v ts) (hT : TW w) (hlen : l.length ≤ 9223372036854775807) :
    Calls Tryd.prog 12 #[v] w fun e w' => e = .returned (.int .u32 (Crc.of l : Nat)) ∧ w = w' := by
  subst hf
  obtain ⟨a, cap, rfl, hl, hc⟩ := h
  have HC := Lib.hid hc
  clear hc
  go_enter Tryd.func12, Tryd.ntmps12
  go_wp2
  go_loop [3, 8] (OfRel ts) (fun _ i => ts.length - (intOf i).toNat)
  case atStart => exact ⟨0, by omega, rfl, by rw [flat_none, Crc.of_nil]; rfl⟩
  case round =>
    obtain ⟨k, hk, rfl, rfl⟩ := hrel
    by_cases hlt : k < ts.length
    · obtain ⟨b, off, rfl, hb, hj⟩ := HC.out (by intro e; rw [e] at hlt; simp at hlt)
      have hcx := hj k hlt
      have hft := flat_take ts k hlt
      have hfl := flat_le ts (k + 1)
      rw [hft, List.length_append] at hfl
      have hq := Crc.of_lt (flat (ts.take k))
      have ha := Crc.of_append (flat (ts.take k)) (ts.getD k ByteArray.empty).data.toList
      rw [← hft] at ha
      generalize ts.getD k ByteArray.empty = X at *
      generalize Crc.of (flat (ts.take k)) = q at *
      have HA := Lib.hid ha
      have HJ := Lib.hid hj
      clear hft hj ha
      go_wp2_with (first
        | (go_at_call 14; refine (add_any q hq X X.data.toList rfl (by omega) _ hT).mono ?_; rintro e w3 ⟨rfl, rfl⟩))
      refine ⟨⟨k + 1, by omega, by go_num, by rw [HA.out]⟩, by simp [intOf]; omega⟩
    · obtain rfl : ts.length = k := by omega
      rw [List.take_length]
      obtain ⟨q, hq⟩ : ∃ q, q = Crc.of (flat ts) := ⟨_, rfl⟩
      rw [← hq]
      have HQ := Lib.hid hq
      clear hq
      go_wp2
      go_ret
      refine ⟨?_, rfl⟩
      rw [← HQ.out]
      rfl
/-- Of of one text, as it is called. -/
theorem of_one (s : ByteArray) (l : List UInt8) (hs : s.data.toList = l) (w : World) (hT : TW w) (hl : l.length ≤ 9223372036854775807) :
    Calls Tryd.prog 12 #[.slice (some ⟨w.heap.size, 0, none⟩) 1 1] (w.alloc (.cells #[.string s] 9)) fun e w' => e = .returned (.int .u32 (Crc.of l : Nat)) ∧ w.alloc (.cells #[.string s] 9) = w' :=
  of_any _ [s] l (by rw [flat_one, hs]) _ (StrRow.one w s) (hT.alloc _) hl

/-- A text with its sum behind. -/
def sealB (S : ByteArray) : ByteArray := S ++ ⟨(Crc.le4 (Crc.of S.data.toList)).toArray⟩
theorem sealB_data (S : ByteArray) : (sealB S).data.toList = Crc.seals S.data.toList := by unfold sealB; rw [app_data]; rfl
theorem sealB_size (S : ByteArray) : (sealB S).size = S.size + 4 := by rw [Lib.size_eq, sealB_data, Crc.seals_length, ← Lib.size_eq]

set_option maxHeartbeats 1000000 in
set_option maxRecDepth 100000 in
theorem whole_any (S : ByteArray) (s : List UInt8) (hs : S.data.toList = s) (w : World) (hT : TW w) (hl : s.length ≤ 9223372036854775807) :
    Calls Tryd.prog 20 #[.string S] w fun e w' => e = .returned (.bool (decide (Crc.of s = Crc.good))) ∧ Below w.heap.size w w' := by
  have hg := good_beq (Crc.of s)
  go_enter Tryd.func20, Tryd.ntmps20
  go_wp2_with (go_at_call 12; refine (of_one S s hs w hT hl).mono ?_; rintro e w1 ⟨rfl, rfl⟩)
  go_ret
  exact ⟨rfl, (Below.refl _ _).alloc (Nat.le_refl _) _⟩

/-- The four bytes of a number, as a text. -/
theorem word_bytes (n : Nat) (h : n < 4294967296) : ∃ (b0 b1 b2 b3 : UInt8) (T : ByteArray), (n : Int) % 256 = (b0.toNat : Int) ∧ (n : Int) / 256 % 256 = (b1.toNat : Int) ∧ (n : Int) / 65536 % 256 = (b2.toNat : Int) ∧ (n : Int) / 16777216 = (b3.toNat : Int) ∧ T.size = 4 ∧ T = ⟨(Crc.le4 n).toArray⟩ ∧ T.data.toList = [b0, b1, b2, b3] := by
  refine ⟨UInt8.ofNat n, UInt8.ofNat (n / 256), UInt8.ofNat (n / 65536), UInt8.ofNat (n / 16777216), ⟨(Crc.le4 n).toArray⟩, ?_, ?_, ?_, ?_, rfl, rfl, rfl⟩ <;> rw [UInt8.toNat_ofNat'] <;> omega
theorem convert_four (b0 b1 b2 b3 : UInt8) (T : ByteArray) (hT : T.data.toList = [b0, b1, b2, b3]) (w : World) (b : Nat) {ty : TypeId} (hw : w.heap[b]? = some (.cells ([b0, b1, b2, b3].map u8V).toArray ty (0, 0))) : (convert 41 9 (.slice (some ⟨b, 0, none⟩) 4 4)).run Tryd.prog w = .ok (.string T) w := by
  have := convert_bytes w b 4 4 [b0, b1, b2, b3] rfl (cell_u8 hw)
  rw [this]
  congr 2
  rw [← hT]

set_option maxHeartbeats 1000000 in
set_option maxRecDepth 100000 in
theorem rseal_any (S : ByteArray) (hl : S.size ≤ 1000000) (w : World) :
    Calls Tryd.prog 19 #[.string S] w fun e w' => e = .returned (.string (sealB S)) ∧ Below w.heap.size w w' := by
  have hle : S.data.toList.length ≤ 9223372036854775807 := by rw [← Lib.size_eq]; omega
  have hof := rof_any S _ rfl hle w
  have hS : sealB S = S ++ ⟨(Crc.le4 (Crc.of S.data.toList)).toArray⟩ := rfl
  have hn := Crc.of_lt S.data.toList
  generalize Crc.of S.data.toList = n at *
  obtain ⟨b0, b1, b2, b3, T, h0, h1, h2, h3, hz, hT, hd⟩ := word_bytes n hn
  rw [← hT] at hS
  rw [hS]
  have hcv := fun W : World => convert_four b0 b1 b2 b3 T hd (W.alloc (.cells #[.int .u8 b0.toNat, .int .u8 b1.toNat, .int .u8 b2.toNat, .int .u8 b3.toNat] 5)) W.heap.size (heap_alloc_last W _)
  have HOF := Lib.hid hof
  clear hT hd hS hof hle
  go_enter Tryd.func19, Tryd.ntmps19
  go_wp2_with (go_at_call 13; refine HOF.out.mono ?_; rintro e w1 ⟨rfl, rfl⟩)
  go_ret
  exact ⟨rfl, (Below.refl _ _).alloc (Nat.le_refl _) _⟩

/-- The bytes that are written so far. -/
def SealRel (q : Nat) (B : List UInt8) (w : World) (si : Value) (wr : World) : Prop :=
  ∃ i : Nat, i ≤ 4 ∧ si = .int .i64 i ∧ wr.heap[q]? = some (.cells ((B.take i ++ List.replicate (4 - i) 0).map u8V).toArray 40 (0, 0)) ∧ Below w.heap.size w wr
set_option maxHeartbeats 1000000 in
set_option maxRecDepth 100000 in
theorem seal_any (S : ByteArray) (hl : S.size ≤ 1000000) (w : World) (hT : TW w) :
    Calls Tryd.prog 18 #[.string S] w fun e w' => e = .returned (.string (sealB S)) ∧ Below w.heap.size w w' := by
  have hle : S.data.toList.length ≤ 9223372036854775807 := by rw [← Lib.size_eq]; omega
  have hof := of_one S _ rfl w hT hle
  have hS : sealB S = S ++ ⟨(Crc.le4 (Crc.of S.data.toList)).toArray⟩ := rfl
  have hn := Crc.of_lt S.data.toList
  generalize Crc.of S.data.toList = n at *
  obtain ⟨b0, b1, b2, b3, T, h0, h1, h2, h3, hz, hT, hd⟩ := word_bytes n hn
  have h4 : Crc.le4 n = [b0, b1, b2, b3] := by rw [← hd, hT]
  rw [← hT] at hS
  rw [hS]
  have HOF := Lib.hid hof
  have H4 := Lib.hid h4
  have HD := Lib.hid hd
  clear hT hd hS hof hle h4
  go_enter Tryd.func18, Tryd.ntmps18
  go_wp2_with (go_at_call 12; refine HOF.out.mono ?_; rintro e w1 ⟨rfl, rfl⟩)
  have bb : Below w.heap.size w ((w.alloc (.cells #[.string S] 9)).alloc (.cells #[.int .u8 0, .int .u8 0, .int .u8 0, .int .u8 0] 40)) := ((Below.refl _ _).alloc (Nat.le_refl _) _).alloc (by simp) _
  have hh : ((w.alloc (.cells #[.string S] 9)).alloc (.cells #[.int .u8 0, .int .u8 0, .int .u8 0, .int .u8 0] 40)).heap[w.heap.size + 1]? = some (.cells (([b0, b1, b2, b3].take 0 ++ List.replicate (4 - 0) 0).map u8V).toArray 40 (0, 0)) := by
    have := heap_alloc_last (w.alloc (.cells #[.string S] 9)) (.cells #[.int .u8 0, .int .u8 0, .int .u8 0, .int .u8 0] 40)
    rw [World.size_alloc] at this
    exact this
  go_loopw [9] (SealRel (w.heap.size + 1) [b0, b1, b2, b3] w) (fun i _ => 4 - (intOf i).toNat)
  case atStart => exact ⟨0, by omega, rfl, hh, bb⟩
  case round =>
    obtain ⟨i, hi, rfl, hc, hbl⟩ := hrel
    clear hh bb
    by_cases hlt : i < 4
    · have ci := cell_u8D hc i (by simp; omega)
      have fi := fz_of hc i
      have hst := fill_step [b0, b1, b2, b3] i 4 hlt (Nat.le_refl _)
      have HC := Lib.hid hc
      have HST := Lib.hid hst
      have HB := Lib.hid hbl
      clear hc hst hbl
      obtain rfl | rfl | rfl | rfl : i = 0 ∨ i = 1 ∨ i = 2 ∨ i = 3 := by omega
      all_goals
        go_wp2
        refine ⟨⟨_ + 1, ?_, by go_num, (heap_set (w := wr) HC.out _).trans (by rw [u8_set, ← HST.out]; rfl), HB.out.setCell (by simp) _⟩, by simp [intOf]⟩
        omega
    · obtain rfl : 4 = i := by omega
      have hcv := convert_four b0 b1 b2 b3 T HD.out wr _ hc
      clear hc
      go_wp2
      go_ret
      exact ⟨rfl, hbl⟩
end Go.Proofs.YthohdkpgckandaaDoor
