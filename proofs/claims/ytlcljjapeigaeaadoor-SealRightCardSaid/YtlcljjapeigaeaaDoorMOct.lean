/-
  Several texts in one (OctPure, OctShelf, OctPut, OctNum, OctScan, OctLong, OctLess, OctBack, OctText, OctRead, OctRef, OctRScan, OctRLong, OctRText, OctRTxt).
-/
import Derived.Lib.BitFns
import Derived.Lib.ItoaNum
import Derived.Lib.UnsafeStr
import Derived.Lib.Strings
import Derived.Laws.BitsAllLaws
import Derived.Shelf.Strings.Builder1
import Derived.Shelf.Strings.BuilderF
import Derived.Shelf.Strings.BuilderK
import Derived.Shelf.Strconv.Itoa0
import Derived.Test.YtlcljjapeigaeaaDoorProg
import Derived.Test.YtlcljjapeigaeaaDoorMGen
import Derived.WalkKit
import Derived.WalkLawsBesides
import Derived.WalkSpells
import Derived.Maps.AppendAt
import Derived.Laws.IdiomStrings
import Derived.Lib.Hide
import Derived.Deep.QuietTactic
import Derived.BigQuiet
/-! ## Plain mathematics of package octet: numbers as bytes, the greatest first. No walk, no program. -/
namespace Go.Proofs.YtlcljjapeigaeaaDoor.Oct
open Go

/-- The last k bytes of n, the greatest first. -/
def be (n : Nat) : Nat → List UInt8
  | 0 => []
  | k + 1 => UInt8.ofNat (n / 256 ^ k) :: be n k
/-- How many bytes n needs. -/
def need (n : Nat) : Nat := (Lib.bitLen n + 7) / 8
/-- What Put tells of n. -/
def putL (n : Nat) : List UInt8 := UInt8.ofNat (need n) :: be n (need n)
def putB (n : Nat) : ByteArray := ⟨(putL n).toArray⟩

theorem be_length (n k : Nat) : (be n k).length = k := by
  induction k with
  | zero => rfl
  | succ k ih => simp [be, ih]

theorem pow_256 (k : Nat) : (256 : Nat) ^ k = 2 ^ (8 * k) := by rw [Nat.pow_mul]

theorem bit_bounds (n : Nat) (h : n < 18446744073709551616) (h0 : n ≠ 0) : 1 ≤ Lib.bitLen n ∧ 2 ^ (Lib.bitLen n - 1) ≤ n ∧ n < 2 ^ Lib.bitLen n :=
  Lib.bitLenAux_bounds 64 n h h0

theorem bitLen_zero : Lib.bitLen 0 = 0 := by decide
theorem need_zero : need 0 = 0 := by decide
theorem bitLen_le64 (n : Nat) (h : n < 18446744073709551616) : Lib.bitLen n ≤ 64 := Lib.bitLen_le n 64 (Nat.le_refl _) h
theorem need_le (n : Nat) (h : n < 18446744073709551616) : need n ≤ 8 := by
  have := bitLen_le64 n h
  unfold need; omega

theorem lt_need (n : Nat) (h : n < 18446744073709551616) : n < 256 ^ need n := by
  by_cases h0 : n = 0
  · subst h0; rw [need_zero]; decide
  · obtain ⟨_, _, h3⟩ := bit_bounds n h h0
    refine Nat.lt_of_lt_of_le h3 ?_
    rw [pow_256]
    exact Nat.pow_le_pow_right (by decide) (by unfold need; omega)

theorem need_pos (n : Nat) (h : n < 18446744073709551616) (h0 : n ≠ 0) : 1 ≤ need n := by
  obtain ⟨h1, _, _⟩ := bit_bounds n h h0
  unfold need; omega

theorem le_need (n : Nat) (h : n < 18446744073709551616) (h0 : n ≠ 0) : 256 ^ (need n - 1) ≤ n := by
  obtain ⟨h1, h2, _⟩ := bit_bounds n h h0
  refine Nat.le_trans ?_ h2
  rw [pow_256]
  exact Nat.pow_le_pow_right (by decide) (by unfold need; omega)

theorem putL_length (n : Nat) : (putL n).length = 1 + need n := by simp [putL, be_length]; omega
theorem putB_size (n : Nat) : (putB n).size = 1 + need n := by
  show (putL n).toArray.size = _
  rw [List.size_toArray, putL_length]

theorem be_get (n : Nat) : ∀ (m k : Nat), k < m → (be n m)[k]? = some (UInt8.ofNat (n / 256 ^ (m - 1 - k)))
  | 0, k, h => by omega
  | m + 1, 0, _ => by simp [be]
  | m + 1, k + 1, h => by
    have e : m + 1 - 1 - (k + 1) = m - 1 - k := by omega
    rw [e, be, List.getElem?_cons_succ]
    exact be_get n m k (by omega)

theorem putL_take1 (n : Nat) (h : n < 18446744073709551616) : Lib.byteCells ((putL n).take 1) = [.int .u8 (need n : Int)] := by
  have := need_le n h
  simp [putL, Lib.byteCells]
  omega

theorem putL_step (n k : Nat) (hk : k < need n) :
    Lib.byteCells ((putL n).take (1 + k + 1)) = Lib.byteCells ((putL n).take (1 + k)) ++ [.int .u8 ((n : Int) / 2 ^ (8 * (need n - 1 - k)) % 256)] := by
  have hg : (putL n)[1 + k]? = some (UInt8.ofNat (n / 256 ^ (need n - 1 - k))) := by
    rw [Nat.add_comm 1 k, putL, List.getElem?_cons_succ]
    exact be_get n _ _ hk
  have hl : 1 + k < (putL n).length := by rw [putL_length]; omega
  rw [List.take_succ_eq_append_getElem hl]
  have hv := (List.getElem?_eq_some_iff.1 hg).2
  rw [hv]
  simp [Lib.byteCells, pow_256]

/-- The number that bytes are, the greatest first. -/
def val (l : List UInt8) : Nat := l.foldl (fun n b => n * 256 + b.toNat) 0

theorem val_snoc (l : List UInt8) (b : UInt8) : val (l ++ [b]) = val l * 256 + b.toNat := by simp [val]

theorem val_lt : ∀ (k : Nat) (l : List UInt8), l.length = k → val l < 256 ^ k
  | 0, l, h => by have : l = [] := List.eq_nil_of_length_eq_zero h; subst this; decide
  | k + 1, l, h => by
    have hne : l ≠ [] := by intro e; subst e; simp at h
    have e := List.dropLast_concat_getLast hne
    rw [← e, val_snoc, Nat.pow_succ]
    have ih := val_lt k l.dropLast (by simp [h])
    have := (l.getLast hne).toNat_lt
    omega

/-- What stands at the beginning of l: a number, and how many bytes it has; none, if the first byte is above 8, bytes are missing, or the first one of the number's is 0. -/
def num? (l : List UInt8) : Option (Nat × Nat) :=
  match l with
  | [] => none
  | b :: r => if 8 < b.toNat ∨ r.length < b.toNat ∨ (0 < b.toNat ∧ r.headD 0 = 0) then none else some (val (r.take b.toNat), 1 + b.toNat)

theorem or_byte (n b : Nat) (hn : n < 72057594037927936) (hb : b < 256) : Go.bits .or .u64 ((n : Int) * 256) (b : Int) = ((n * 256 + b : Nat) : Int) := by
  have e : ((n : Int) * 256) = ((n * 256 : Nat) : Int) := by simp
  rw [e, u64_or_nat _ _ (by omega) (by omega)]
  congr 1
  have := Nat.two_pow_add_eq_or_of_lt (i := 8) (b := b) hb n
  rw [Nat.mul_comm n 256]
  exact this.symm

theorem get_data (s : ByteArray) (i : Nat) (h : i < s.size) : s.data.toList[i]? = some s[i] := by
  rw [List.getElem?_eq_some_iff]
  exact ⟨by rw [← Lib.size_eq]; exact h, rfl⟩

/-- A text that is not empty, its bytes taken apart. -/
theorem cons_data (s : ByteArray) (h : 0 < s.size) : s.data.toList = s[0] :: s.data.toList.drop 1 := by
  have := get_data s 0 h
  cases hl : s.data.toList with
  | nil => rw [hl] at this; cases this
  | cons b r => rw [hl] at this; simp at this; simp [this]

theorem tail_step (s : ByteArray) (k : Nat) (h : 1 + k < s.size) : (s.data.toList.drop 1).take (k + 1) = (s.data.toList.drop 1).take k ++ [s[1 + k]] := by
  have hl : k < (s.data.toList.drop 1).length := by rw [List.length_drop, ← Lib.size_eq]; omega
  rw [List.take_succ_eq_append_getElem hl]
  congr 2
  rw [List.getElem_drop]
  rfl

theorem tail_length (s : ByteArray) : (s.data.toList.drop 1).length = s.size - 1 := by rw [List.length_drop, ← Lib.size_eq]

theorem tail_head (s : ByteArray) (h : 1 < s.size) : (s.data.toList.drop 1).headD 0 = s[1] := by
  have e := tail_step s 0 (by omega)
  cases hd : s.data.toList.drop 1 with
  | nil => rw [hd] at e; simp at e
  | cons b r => rw [hd] at e; simp at e; simp [e]

theorem num_empty (s : ByteArray) (h : s.size = 0) : num? s.data.toList = none := by
  have : s.data.toList = [] := List.eq_nil_of_length_eq_zero (by rw [← Lib.size_eq]; exact h)
  rw [this]; rfl

theorem num_eq (s : ByteArray) (h : 0 < s.size) : num? s.data.toList =
    if 8 < s[0].toNat ∨ s.size - 1 < s[0].toNat ∨ (0 < s[0].toNat ∧ (s.data.toList.drop 1).headD 0 = 0) then none else some (val ((s.data.toList.drop 1).take s[0].toNat), 1 + s[0].toNat) := by
  have e := cons_data s h
  rw [e]
  simp only [num?]
  rw [tail_length, ← e]

end Go.Proofs.YtlcljjapeigaeaaDoor.Oct
/-! ## The library's contracts (bits.Len64, strings.Builder's WriteString and String) laid at this program: no walk; the kernel compares each body with the one that the contract was proved of. -/
namespace Go.Proofs.YtlcljjapeigaeaaDoor
open Go.Shelf Go.RowKit
def lays129_ren : Go.Shelf.Ren := ⟨fun | 129 => 95 | n => n, fun | 53 => 64 | 3 => 3 | 4 => 4 | 46 => 118 | 5 => 5 | 9 => 9 | n => n, fun | n => n⟩
theorem lays129 : Go.Proofs.Lays.n129 Tryd.prog lays129_ren := {
  mixed := by kernel_rfl
  f129 := Tryd.func95.trans (congrArg some (by kernel_rfl))
  t3 := Tryd.underlying3
  a3 := Tryd.isAgg3
  z3 := Tryd.sizeOf3
  v3 := Tryd.zeroValue3
  t4 := Tryd.underlying4
  a4 := Tryd.isAgg4
  z4 := Tryd.sizeOf4
  v4 := Tryd.zeroValue4
  t5 := Tryd.underlying5
  a5 := Tryd.isAgg5
  z5 := Tryd.sizeOf5
  v5 := Tryd.zeroValue5
  t9 := Tryd.underlying9
  a9 := Tryd.isAgg9
  z9 := Tryd.sizeOf9
  v9 := Tryd.zeroValue9
  t46 := Tryd.underlying118
  a46 := Tryd.isAgg118
  z46 := Tryd.sizeOf118
  v46 := Tryd.zeroValue118
  t53 := Tryd.underlying64
  a53 := Tryd.isAgg64
  z53 := Tryd.sizeOf64
  v53 := Tryd.zeroValue64 }
theorem len64_any (x : Int) (w : World) (h0 : 0 ≤ x) (h1 : x ≤ 18446744073709551615) :
    Calls Tryd.prog 95 #[.int .u64 x] w fun e w' => e = .returned (.int .i64 (Lib.bitLen x.toNat)) ∧ w' = w := Any.bits_Len64 lays129 x w h0 h1
def lays169_ren : Go.Shelf.Ren := ⟨fun | 169 => 83 | n => n, fun | 70 => 101 | 9 => 9 | 0 => 0 | 72 => 103 | 37 => 58 | 127 => 127 | 3 => 3 | 5 => 5 | n => n, fun | n => n⟩
theorem lays169 : Go.Proofs.Lays.n169 Tryd.prog lays169_ren := {
  mixed := by kernel_rfl
  f169 := Tryd.func83.trans (congrArg some (by kernel_rfl))
  t0 := Tryd.underlying0
  a0 := Tryd.isAgg0
  z0 := Tryd.sizeOf0
  v0 := Tryd.zeroValue0
  t3 := Tryd.underlying3
  a3 := Tryd.isAgg3
  z3 := Tryd.sizeOf3
  v3 := Tryd.zeroValue3
  t9 := Tryd.underlying9
  a9 := Tryd.isAgg9
  z9 := Tryd.sizeOf9
  v9 := Tryd.zeroValue9
  t37 := Tryd.underlying58
  a37 := Tryd.isAgg58
  z37 := Tryd.sizeOf58
  v37 := Tryd.zeroValue58
  t70 := Tryd.underlying101
  a70 := Tryd.isAgg101
  z70 := Tryd.sizeOf101
  v70 := Tryd.zeroValue101
  t72 := Tryd.underlying103
  a72 := Tryd.isAgg103
  z72 := Tryd.sizeOf103
  v72 := Tryd.zeroValue103
  t127 := Tryd.underlying127
  a127 := Tryd.isAgg127
  z127 := Tryd.sizeOf127
  v127 := Tryd.zeroValue127 }
theorem extra169 : Builder.Extra Tryd.prog lays169_ren := {
  sizeBuilder := by kernel_rfl
  liesBuilder := by kernel_rfl
  t5 := Tryd.underlying5
  a5 := Tryd.isAgg5
  z5 := Tryd.sizeOf5
  v5 := Tryd.zeroValue5
  infoByte := by kernel_rfl
  cellsByte := by kernel_rfl
  sizeByte := by kernel_rfl
  neB5 := by decide }
theorem builderString_any (B b : Nat) (l : List UInt8) (w : World) (h : Lib.IsBuilderF 103 5 B b (Lib.byteCells l) w) (hBw : B ≤ w.heap.size) :
    Calls Tryd.prog 83 #[.pointer (some ⟨b, 0, none⟩)] w fun e w' => e = .returned (.string ⟨l.toArray⟩) ∧ (Lib.IsBuilderF 103 5 B b (Lib.byteCells l) w' ∧ Below B w w' ∧ Lib.OthersKept 5 (some b) w w') := Any.Builder_String_any_k lays169 extra169 B b l w h hBw
def lays166_ren : Go.Shelf.Ren := ⟨fun | 166 => 82 | 240 => 93 | 276 => 104 | n => n, fun | 0 => 0 | 3 => 3 | 4 => 4 | 5 => 5 | 9 => 9 | 20 => 20 | 37 => 58 | 70 => 101 | 72 => 103 | 75 => 106 | 80 => 109 | 164 => 136 | n => n, fun | n => n⟩
theorem lays166 : Go.Proofs.Lays.n166 Tryd.prog lays166_ren := {
  mixed := by kernel_rfl
  f166 := Tryd.func82.trans (congrArg some (by kernel_rfl))
  f240 := Tryd.func93.trans (congrArg some (by kernel_rfl))
  f276 := Tryd.func104.trans (congrArg some (by kernel_rfl))
  t0 := Tryd.underlying0
  a0 := Tryd.isAgg0
  z0 := Tryd.sizeOf0
  v0 := Tryd.zeroValue0
  t3 := Tryd.underlying3
  a3 := Tryd.isAgg3
  z3 := Tryd.sizeOf3
  v3 := Tryd.zeroValue3
  t4 := Tryd.underlying4
  a4 := Tryd.isAgg4
  z4 := Tryd.sizeOf4
  v4 := Tryd.zeroValue4
  t9 := Tryd.underlying9
  a9 := Tryd.isAgg9
  z9 := Tryd.sizeOf9
  v9 := Tryd.zeroValue9
  t20 := Tryd.underlying20
  a20 := Tryd.isAgg20
  z20 := Tryd.sizeOf20
  v20 := Tryd.zeroValue20
  t37 := Tryd.underlying58
  a37 := Tryd.isAgg58
  z37 := Tryd.sizeOf58
  v37 := Tryd.zeroValue58
  t70 := Tryd.underlying101
  a70 := Tryd.isAgg101
  z70 := Tryd.sizeOf101
  v70 := Tryd.zeroValue101
  t72 := Tryd.underlying103
  a72 := Tryd.isAgg103
  z72 := Tryd.sizeOf103
  v72 := Tryd.zeroValue103
  t75 := Tryd.underlying106
  a75 := Tryd.isAgg106
  z75 := Tryd.sizeOf106
  v75 := Tryd.zeroValue106
  t164 := Tryd.underlying136
  a164 := Tryd.isAgg136
  z164 := Tryd.sizeOf136
  v164 := Tryd.zeroValue136 }
theorem extra166 : Builder.Extra Tryd.prog lays166_ren := {
  sizeBuilder := by kernel_rfl
  liesBuilder := by kernel_rfl
  t5 := Tryd.underlying5
  a5 := Tryd.isAgg5
  z5 := Tryd.sizeOf5
  v5 := Tryd.zeroValue5
  infoByte := by kernel_rfl
  cellsByte := by kernel_rfl
  sizeByte := by kernel_rfl
  neB5 := by decide }
theorem writeString_any (B b : Nat) (bs : List Value) (s : ByteArray) (w : World) (h : Lib.IsBuilderF 103 5 B b bs w) (hlen : bs.length + s.size ≤ 140737488355328) (hBw : B ≤ w.heap.size) :
    Calls Tryd.prog 82 #[.pointer (some ⟨b, 0, none⟩), .string s] w fun e w' => e = .returned (.tuple #[.int .i64 s.size, .nilIface]) ∧ (Lib.BuilderAtF 103 5 B b (.pointer (some ⟨b, 0, none⟩)) (bs ++ Lib.strCells s) w' ∧ Below B w w' ∧ Lib.OthersKept 5 (some b) w w') := Any.Builder_WriteString_k lays166 extra166 B b bs s w h hlen hBw
end Go.Proofs.YtlcljjapeigaeaaDoor
/-! ## Package octet: what Size and Put tell, for every number, in whatever world. -/
namespace Go.Proofs.YtlcljjapeigaeaaDoor
open Go.RowKit


theorem size_any (n : Nat) (w : World) (h : n < 18446744073709551616) :
    Calls Tryd.prog 84 #[.int .u64 n] w fun e w' => e = .returned (.int .i64 ((Oct.need n : Int) + 1)) ∧ w = w' := by
  have hb := Oct.bitLen_le64 n h
  go_enter Tryd.func84, Tryd.ntmps84
  go_wp2_with (go_at_call 95; refine (len64_any _ _ (by omega) (by omega)).mono ?_; rintro e w' ⟨rfl, rfl⟩)
  go_ret
  exact ⟨ret_int (by unfold Oct.need; omega), rfl⟩

set_option maxHeartbeats 800000 in
set_option maxRecDepth 100000 in
theorem put_any (n : Nat) (w : World) (h : n < 18446744073709551616) :
    Calls Tryd.prog 64 #[.int .u64 n] w fun e w' => e = .returned (.string (Oct.putB n)) ∧ Below w.heap.size w w' := by
  have hM := Oct.need_le n h
  obtain ⟨i0, hi, hz0, hz1, hz2⟩ := info_parts info_u8
  go_enter Tryd.func64, Tryd.ntmps64
  go_wp2_with (first
    | (go_at_call 84; refine (size_any _ _ (by omega)).mono ?_; rintro e w' ⟨rfl, rfl⟩)
    | (at_make; refine wpList_make_own _ rfl _ _ 58 rfl w.heap.size 5 i0 (.int .u8 0) 1 Tryd.underlying58 hi hz0 hz1 _ _ _ (1 + Oct.need n) rfl rfl (by omega) (by rw [hz2]; omega) (by unfold maxLen; omega) (Nat.le_refl _) ?_; intro w0 hown0 hgrow0)
    | (at_builtin; refine wpList_append_fits _ rfl (.tmp 12) (.tmp 15) 58 rfl w.heap.size 5 i0 1 Tryd.underlying58 hi hz1 w.heap.size 0 (1 + Oct.need n) _ rfl (hown0.alloc _) ⟨w0.heap.size, 0, none⟩ 1 1 [.int .u8 (Oct.need n)] rfl rfl (cell_one_new _ _ _) (by intro u hu; simp at hu; subst hu; rfl) (by omega) ?_; intro w1 hown1 hgrow1))
  clear hown0
  go_loopw [4, 18] (fun v i wr => ∃ k : Nat, k ≤ Oct.need n ∧ i = .int .i64 k ∧ v = .slice (some ⟨w.heap.size, 0, none⟩) (1 + k) (1 + Oct.need n) ∧ wr.ownsRow w.heap.size 5 1 (.slice (some ⟨w.heap.size, 0, none⟩) (1 + k) (1 + Oct.need n)) (1 + k) (Lib.byteCells ((Oct.putL n).take (1 + k))) ∧ Below w.heap.size w wr)
    (fun _ i _ => Oct.need n - (intOf i).toNat)
  case atStart =>
    refine ⟨0, Nat.zero_le _, rfl, rfl, ?_, ?_⟩
    · show w1.ownsRow _ _ _ _ (1 + 0) (Lib.byteCells ((Oct.putL n).take 1))
      rw [Oct.putL_take1 n h]
      exact hown1
    · exact (((Below.refl _ _).grown hgrow0 (Nat.le_refl _) (fun k h => by cases h)).alloc hgrow0.size _).grown hgrow1 (by have := hgrow0.size; simp; omega) (fun k hk => by cases hk; exact Nat.le_refl _)
  case round =>
    obtain ⟨k, hk, rfl, rfl, hown, hbl⟩ := hrel
    clear hown1 hgrow1 hgrow0
    by_cases hlt : k < Oct.need n
    · go_wp2_with (first
        | (at_builtin; refine wpList_append_fits _ rfl (.tmp 21) (.tmp 30) 58 rfl w.heap.size 5 i0 1 Tryd.underlying58 hi hz1 w.heap.size (1 + k) (1 + Oct.need n) _ rfl (hown.alloc _) ⟨wr.heap.size, 0, none⟩ 1 1 [.int .u8 ((n : Int) / 2 ^ (8 * (Oct.need n - 1 - k)) % 256)] rfl rfl (cell_one_new _ _ _) (by intro u hu; simp at hu; subst hu; rfl) (by omega) ?_; intro w2 hown2 hgrow2))
      rw [← Oct.putL_step n k hlt] at hown2
      go_roundw
      case rel =>
        refine ⟨k + 1, by omega, by go_num, rfl, hown2, ?_⟩
        exact (hbl.alloc hbl.size _).grown hgrow2 (by have := hbl.size; simp; omega) (fun k hk => by cases hk; exact Nat.le_refl _)
      case measure => simp [intOf]; omega
    · obtain rfl : Oct.need n = k := by omega
      have e : (Oct.putL n).take (1 + Oct.need n) = Oct.putL n := List.take_of_length_le (by rw [Oct.putL_length]; omega)
      rw [e] at hown
      have hcv : (convert 58 9 (.slice (some ⟨w.heap.size, 0, none⟩) (1 + Oct.need n) (1 + Oct.need n))).run Tryd.prog wr = .ok (.string (Oct.putB n)) wr := by
        rw [← Oct.putL_length n]
        refine run_convert_bytes_back wr _ _ 5 _ _ (Oct.putL n) Tryd.underlying58 Tryd.underlying5 Tryd.underlying9 fun j hj => ?_
        exact hown.cells rfl j _ (by simp [Lib.byteCells, hj])
      clear hown e
      go_wp2
      go_ret
      exact ⟨rfl, hbl⟩
end Go.Proofs.YtlcljjapeigaeaaDoor
/-! ## Package octet: the number at the beginning of a text, for every text. -/
namespace Go.Proofs.YtlcljjapeigaeaaDoor
open Go.RowKit


/-- A tuple of three, as it is told. -/
theorem ret_num {a b c d : Int} (h1 : a = c) (h2 : b = d) : Ending.returned (.tuple #[.int .u64 a, .int .i64 b, .bool true]) = .returned (.tuple #[.int .u64 c, .int .i64 d, .bool true]) := by rw [h1, h2]

set_option maxHeartbeats 800000 in
theorem number_none (s : ByteArray) (w : World) (hs : s.size ≤ maxLen) (h : Oct.num? s.data.toList = none) :
    Calls Tryd.prog 89 #[.string s] w fun e w' => e = .returned (.tuple #[.int .u64 0, .int .i64 0, .bool false]) ∧ w = w' := by
  unfold maxLen at hs
  by_cases h0 : s.size = 0
  · have H := toList_nil h0
    clear h h0
    go_enter Tryd.func89, Tryd.ntmps89
    go_wp2
    go_ret3
    exact ⟨rfl, rfl⟩
  · have h0' : 0 < s.size := by omega
    obtain ⟨hne, hem⟩ := toList_ne h0'
    rw [Oct.num_eq s h0'] at h
    have hc : 8 < s[0].toNat ∨ s.size - 1 < s[0].toNat ∨ (0 < s[0].toNat ∧ (s.data.toList.drop 1).headD 0 = 0) := by
      by_cases hc : 8 < s[0].toNat ∨ s.size - 1 < s[0].toNat ∨ (0 < s[0].toNat ∧ (s.data.toList.drop 1).headD 0 = 0)
      · exact hc
      · rw [if_neg hc] at h; cases h
    clear h h0
    by_cases h8 : (8 : Int) < s[0].toNat
    · clear hc
      go_enter Tryd.func89, Tryd.ntmps89
      go_wp2
      go_ret3
      exact ⟨rfl, rfl⟩
    · have h8' : (s[0].toNat : Int) ≤ 8 := by omega
      by_cases hl : s.size ≤ s[0].toNat
      · clear hc h8
        go_enter Tryd.func89, Tryd.ntmps89
        go_wp2
        go_ret3
        exact ⟨rfl, rfl⟩
      · have hp : 0 < s[0].toNat := by omega
        have h1 : 1 < s.size := by omega
        have hz : ((s[1].toNat : Int) == 0) = true := by
          rcases hc with hc | hc | ⟨_, hc⟩
          · omega
          · omega
          · rw [Oct.tail_head s h1] at hc
            rw [hc]; rfl
        have hd : 1 < (1 : Int) + s[0].toNat := by omega
        have h1' : (1 : Int) < s.size := by omega
        clear hc h8
        go_enter Tryd.func89, Tryd.ntmps89
        go_wp2
        go_ret3
        exact ⟨rfl, rfl⟩

set_option maxHeartbeats 800000 in
theorem number_ok (s : ByteArray) (w : World) (hs : s.size ≤ maxLen) (h0 : 0 < s.size) (h8' : (s[0].toNat : Int) ≤ 8) (hl : ¬ s.size ≤ s[0].toNat) (hd : (1 : Int) + s[0].toNat ≤ 1 ∨ (1 < (1 : Int) + s[0].toNat ∧ ∃ _ : 1 < s.size, ((s[1].toNat : Int) == 0) = false)) :
    Calls Tryd.prog 89 #[.string s] w fun e w' => e = .returned (.tuple #[.int .u64 (Oct.val ((s.data.toList.drop 1).take s[0].toNat)), .int .i64 (1 + s[0].toNat), .bool true]) ∧ w = w' := by
  unfold maxLen at hs
  obtain ⟨hne, hem⟩ := toList_ne h0
  have h8 : decide ((8 : Int) < s[0].toNat) = false := by simpa using h8'
  rcases hd with hd | ⟨hd, h1, hz⟩
  all_goals
    go_enter Tryd.func89, Tryd.ntmps89
    go_wp2
    go_loop [2, 34] (fun v i => ∃ k n : Nat, k ≤ s[0].toNat ∧ Hid (n = Oct.val ((s.data.toList.drop 1).take k)) ∧ i = .int .i64 k ∧ v = .int .u64 n) (fun _ i => s[0].toNat - (intOf i).toNat)
    case atStart => exact ⟨0, 0, by omega, rfl, rfl, rfl⟩
    case round =>
      obtain ⟨k, n, hk, hn, rfl, rfl⟩ := hrel
      by_cases hlt : k < s[0].toNat
      · have hb : (1 : Int) + k < s.size := by omega
        have hb' : 1 + k < s.size := by omega
        have hu : (s[1 + k]).toNat < 256 := (s[1 + k]).toNat_lt
        have hN : n < 72057594037927936 := by
          have h1 := Oct.val_lt k ((s.data.toList.drop 1).take k) (by rw [List.length_take, Oct.tail_length]; omega)
          have h2 : 256 ^ k ≤ 256 ^ 7 := Nat.pow_le_pow_right (by decide) (by omega)
          have := hn.out
          omega
        go_wp2
        try (go_round
             case rel => exact ⟨k + 1, n * 256 + (s[1 + k]).toNat, by omega, by rw [Oct.tail_step s k hb', Oct.val_snoc, ← hn.out]; rfl, by go_num, by rw [Oct.or_byte n _ hN hu]⟩
             case measure => simp [intOf]; omega)
      · obtain rfl : s[0].toNat = k := by omega
        go_wp2
        go_ret3
        exact ⟨ret_num (by rw [hn.out, List.drop_one]) (by omega), rfl⟩

theorem number_some (s : ByteArray) (w : World) (hs : s.size ≤ maxLen) (n k : Nat) (h : Oct.num? s.data.toList = some (n, k)) :
    Calls Tryd.prog 89 #[.string s] w fun e w' => e = .returned (.tuple #[.int .u64 n, .int .i64 k, .bool true]) ∧ w = w' := by
  by_cases h0 : s.size = 0
  · rw [Oct.num_empty s h0] at h; cases h
  have h0' : 0 < s.size := by omega
  rw [Oct.num_eq s h0'] at h
  by_cases hc : 8 < s[0].toNat ∨ s.size - 1 < s[0].toNat ∨ (0 < s[0].toNat ∧ (s.data.toList.drop 1).headD 0 = 0)
  · rw [if_pos hc] at h; cases h
  rw [if_neg hc] at h
  simp only [Option.some.injEq, Prod.mk.injEq] at h
  obtain ⟨rfl, rfl⟩ := h
  have e : ((1 + s[0].toNat : Nat) : Int) = 1 + (s[0].toNat : Int) := by omega
  rw [e]
  refine number_ok s w hs h0' (by omega) (by omega) ?_
  by_cases hp : 0 < s[0].toNat
  · right
    have h1 : 1 < s.size := by omega
    refine ⟨by omega, h1, ?_⟩
    rw [Oct.tail_head s h1] at hc
    have hz : s[1] ≠ 0 := fun e => hc (Or.inr (Or.inr ⟨hp, e⟩))
    have : s[1].toNat ≠ 0 := fun e => hz (UInt8.toNat_inj.1 e)
    simp; omega
  · left; omega
end Go.Proofs.YtlcljjapeigaeaaDoor
/-! ## Package octet: what a scanner is in memory, and what its small calls do: Read, Sound, spoil, Left, End, Long, Num, Text. -/
namespace Go.Proofs.YtlcljjapeigaeaaDoor
open Go.RowKit

/-- The rest of a scanner, as a text. -/
def restB (st : Option (List UInt8)) : ByteArray := ⟨(st.getD []).toArray⟩
/-- Block b is a scanner: spoilt (none), or with the bytes l left (some l). -/
def Scn (b : Nat) (st : Option (List UInt8)) (w : World) : Prop :=
  (st.getD []).length ≤ maxLen ∧ w.heap[b]? = some (.cells #[.string (restB st), .bool st.isNone] 95 (0, 0))
theorem Scn.c0 {b : Nat} {st : Option (List UInt8)} {w : World} (h : Scn b st w) : w.cell? ⟨b, 0, none⟩ = some (.string (restB st)) := by
  unfold World.cell?; rw [h.2]; rfl
theorem Scn.c1 {b : Nat} {st : Option (List UInt8)} {w : World} (h : Scn b st w) : w.cell? ⟨b, 1, none⟩ = some (.bool st.isNone) := by
  unfold World.cell?; rw [h.2]; rfl
theorem Scn.fz {b : Nat} {st : Option (List UInt8)} {w : World} (h : Scn b st w) (o : Nat) : w.frozen? ⟨b, o, none⟩ = false := by
  unfold World.frozen?; rw [h.2]; simp
theorem Scn.lt {b : Nat} {st : Option (List UInt8)} {w : World} (h : Scn b st w) : b < w.heap.size := (Array.getElem?_eq_some_iff.1 h.2).1
theorem Scn.kept {b b' : Nat} {st : Option (List UInt8)} {w w' : World} (h : Scn b st w) (k : Only b' w w') (hb : b ≠ b') : Scn b st w' :=
  ⟨h.1, (k.block b h.lt hb).trans h.2⟩
theorem Scn.old {b B : Nat} {st : Option (List UInt8)} {w w' : World} (h : Scn b st w) (k : Below B w w') (hb : b < B) : Scn b st w' :=
  ⟨h.1, (k.block b hb).trans h.2⟩
theorem Scn.set0 {b : Nat} {l l' : List UInt8} {w : World} (h : Scn b (some l) w) (hl : l'.length ≤ maxLen) : Scn b (some l') (w.setCell ⟨b, 0, none⟩ (.string (restB (some l')))) := by
  refine ⟨hl, ?_⟩
  have := h.2
  simp [World.setCell, Array.getElem?_modify, this]
theorem Scn.set2 {b : Nat} {st : Option (List UInt8)} {w : World} (h : Scn b st w) : Scn b none ((w.setCell ⟨b, 0, none⟩ (.string ⟨#[]⟩)).setCell ⟨b, 1, none⟩ (.bool true)) := by
  refine ⟨by simp [maxLen], ?_⟩
  have := h.2
  simp [World.setCell, Array.getElem?_modify, this]
  rfl

theorem rest_size (st : Option (List UInt8)) : (restB st).size = (st.getD []).length := by simp [restB, ByteArray.size]

theorem sound_any (b : Nat) (st : Option (List UInt8)) (w : World) (h : Scn b st w) :
    Calls Tryd.prog 75 #[.pointer (some ⟨b, 0, none⟩)] w fun e w' => e = .returned (.bool st.isSome) ∧ w = w' := by
  have h1 := h.c1
  go_enter Tryd.func75, Tryd.ntmps75
  go_wp2
  go_ret
  exact ⟨rfl, rfl⟩

theorem spoil_any (b : Nat) (st : Option (List UInt8)) (w : World) (h : Scn b st w) :
    Calls Tryd.prog 72 #[.pointer (some ⟨b, 0, none⟩)] w fun e w' => e = .returned (.tuple #[]) ∧ Scn b none w' ∧ Only b w w' := by
  have h0 := h.c0
  have h1 := h.c1
  have f0 := h.fz 0
  have f1 := h.fz 1
  go_enter Tryd.func72, Tryd.ntmps72
  go_wp2
  go_end0
  exact ⟨rfl, h.set2, ((Only.refl _ _).setCell _ _).setCell _ _⟩

theorem Scn.alloc (l : List UInt8) (w : World) (hl : l.length ≤ maxLen) : Scn w.heap.size (some l) (w.alloc (.cells #[.string ⟨l.toArray⟩, .bool false] 95)) := by
  refine ⟨hl, ?_⟩
  show (w.heap.push _)[w.heap.size]? = _
  simp
  rfl

theorem read_any (l : List UInt8) (w : World) (hl : l.length ≤ maxLen) :
    Calls Tryd.prog 73 #[.string ⟨l.toArray⟩] w fun e w' => e = .returned (.pointer (some ⟨w.heap.size, 0, none⟩)) ∧ Scn w.heap.size (some l) w' ∧ Below w.heap.size w w' := by
  go_enter Tryd.func73, Tryd.ntmps73
  go_wp2
  go_ret
  exact ⟨rfl, Scn.alloc l w hl, (Below.refl _ _).alloc (Nat.le_refl _) _⟩

theorem left_any (b : Nat) (st : Option (List UInt8)) (w : World) (h : Scn b st w) :
    Calls Tryd.prog 74 #[.pointer (some ⟨b, 0, none⟩)] w fun e w' => e = .returned (.int .i64 (st.getD []).length) ∧ w = w' := by
  have h0 := h.c0
  have hs := rest_size st
  have HS := Lib.hid hs
  clear hs
  cases st with
  | none =>
    go_enter Tryd.func74, Tryd.ntmps74
    go_wp2_with (go_at_call 75; refine (sound_any _ _ _ h).mono ?_; rintro e w' ⟨rfl, rfl⟩)
    go_ret
    exact ⟨rfl, rfl⟩
  | some l =>
    go_enter Tryd.func74, Tryd.ntmps74
    go_wp2_with (go_at_call 75; refine (sound_any _ _ _ h).mono ?_; rintro e w' ⟨rfl, rfl⟩)
    go_ret
    exact ⟨ret_int (by rw [HS.out]), rfl⟩

/-- End tells 0 (OK), if the scanner is sound and nothing is left, else 10 (ErrForm). -/
def endV (st : Option (List UInt8)) : Int := if st = some [] then 0 else 10


end Go.Proofs.YtlcljjapeigaeaaDoor
/-! ## Package octet: what Long, Num and Text of a scanner do, for every scanner and every bound. -/
namespace Go.Proofs.YtlcljjapeigaeaaDoor
open Go.RowKit

/-- What Long tells, and what it leaves. -/
def longV (st : Option (List UInt8)) : Nat := ((st.bind Oct.num?).map (·.1)).getD 0
def longS (st : Option (List UInt8)) : Option (List UInt8) := st.bind fun l => (Oct.num? l).map fun x => l.drop x.2
/-- What Num tells, and what it leaves. -/
def numV (st : Option (List UInt8)) (most : Int) : Nat := if most < 0 ∨ most < longV st then 0 else longV st
def numS (st : Option (List UInt8)) (most : Int) : Option (List UInt8) := if most < 0 ∨ most < longV st then none else longS st
/-- What Text tells, and what it leaves. -/
def textV (st : Option (List UInt8)) (most : Int) : List UInt8 := if ((numS st most).getD []).length < numV st most then [] else ((numS st most).getD []).take (numV st most)
def textS (st : Option (List UInt8)) (most : Int) : Option (List UInt8) := (numS st most).bind fun l => if l.length < numV st most then none else some (l.drop (numV st most))

theorem num_bounds {l : List UInt8} {n k : Nat} (h : Oct.num? l = some (n, k)) : n < 18446744073709551616 ∧ k ≤ l.length := by
  cases l with
  | nil => cases h
  | cons b r =>
    unfold Oct.num? at h
    simp only at h
    split at h
    · cases h
    · rename_i hc
      simp only [Option.some.injEq, Prod.mk.injEq] at h
      obtain ⟨rfl, rfl⟩ := h
      have h1 := Oct.val_lt b.toNat (r.take b.toNat) (by rw [List.length_take]; omega)
      have h2 : 256 ^ b.toNat ≤ 256 ^ 8 := Nat.pow_le_pow_right (by decide) (by omega)
      exact ⟨by omega, by simp only [List.length_cons]; omega⟩

theorem longV_lt (st : Option (List UInt8)) : longV st < 18446744073709551616 := by
  unfold longV
  cases st with
  | none => decide
  | some l =>
    cases h : Oct.num? l with
    | none => simp [h]
    | some x => simp [h]; exact (num_bounds (n := x.1) (k := x.2) h).1

theorem longS_le (st : Option (List UInt8)) : ((longS st).getD []).length ≤ (st.getD []).length := by
  unfold longS
  cases st with
  | none => simp
  | some l =>
    cases h : Oct.num? l with
    | none => simp [h]
    | some x => simp [h]

theorem drop_rest (l : List UInt8) (k : Nat) : (restB (some l)).extract k (restB (some l)).size = restB (some (l.drop k)) := by
  rw [Lib.extract_eq, rest_size]
  simp [restB]
  rw [List.take_of_length_le (by simp)]

theorem take_rest (l : List UInt8) (k : Nat) : (restB (some l)).extract 0 k = ⟨(l.take k).toArray⟩ := by
  rw [Lib.extract_eq]
  simp [restB]

theorem rest_data (l : List UInt8) : (restB (some l)).data.toList = l := by simp [restB]

set_option maxHeartbeats 800000 in
theorem long_some (b : Nat) (l : List UInt8) (n k : Nat) (w : World) (h : Scn b (some l) w) (hn : Oct.num? l = some (n, k)) :
    Calls Tryd.prog 71 #[.pointer (some ⟨b, 0, none⟩)] w fun e w' => e = .returned (.int .u64 n) ∧ Scn b (some (l.drop k)) w' ∧ Only b w w' := by
  have h0 := h.c0
  have f0 := h.fz 0
  have hb := num_bounds hn
  have hk1 : (0 : Int) ≤ (k : Int) := by omega
  have hk2 : k ≤ (restB (some l)).size := by rw [rest_size]; exact hb.2
  have hm : (restB (some l)).size ≤ maxLen := by rw [rest_size]; exact h.1
  have HN := Lib.hid hn
  have HD := Lib.hid (drop_rest l k)
  clear hn hb
  go_enter Tryd.func71, Tryd.ntmps71
  go_wp2_with (first
    | (go_at_call 75; refine (sound_any _ _ _ h).mono ?_; rintro e w' ⟨rfl, rfl⟩)
    | (go_at_call 89; refine (number_some _ _ hm n k (by rw [rest_data]; exact HN.out)).mono ?_; rintro e w' ⟨rfl, rfl⟩))
  go_ret
  refine ⟨rfl, ?_, (Only.refl _ _).setCell _ _⟩
  rw [HD.out]
  exact h.set0 (by have := h.1; simp at this ⊢; omega)

set_option maxHeartbeats 800000 in
theorem long_none (b : Nat) (l : List UInt8) (w : World) (h : Scn b (some l) w) (hn : Oct.num? l = none) :
    Calls Tryd.prog 71 #[.pointer (some ⟨b, 0, none⟩)] w fun e w' => e = .returned (.int .u64 0) ∧ Scn b none w' ∧ Only b w w' := by
  have h0 := h.c0
  have hm : (restB (some l)).size ≤ maxLen := by rw [rest_size]; exact h.1
  have HN := Lib.hid hn
  clear hn
  go_enter Tryd.func71, Tryd.ntmps71
  go_wp2_with (first
    | (go_at_call 75; refine (sound_any _ _ _ h).mono ?_; rintro e w' ⟨rfl, rfl⟩)
    | (go_at_call 72; refine (spoil_any _ _ _ h).mono ?_; rintro e w' ⟨rfl, hs, ho⟩)
    | (go_at_call 89; refine (number_none _ _ hm (by rw [rest_data]; exact HN.out)).mono ?_; rintro e w' ⟨rfl, rfl⟩))
  go_ret
  exact ⟨rfl, hs, ho⟩

theorem long_spoilt (b : Nat) (w : World) (h : Scn b none w) :
    Calls Tryd.prog 71 #[.pointer (some ⟨b, 0, none⟩)] w fun e w' => e = .returned (.int .u64 0) ∧ w = w' := by
  go_enter Tryd.func71, Tryd.ntmps71
  go_wp2_with (first
    | (go_at_call 75; refine (sound_any _ _ _ h).mono ?_; rintro e w' ⟨rfl, rfl⟩))
  go_ret
  exact ⟨rfl, rfl⟩

/-- WHAT Long DOES, of every scanner. -/
theorem long_any (b : Nat) (st : Option (List UInt8)) (w : World) (h : Scn b st w) :
    Calls Tryd.prog 71 #[.pointer (some ⟨b, 0, none⟩)] w fun e w' => e = .returned (.int .u64 (longV st)) ∧ Scn b (longS st) w' ∧ Only b w w' := by
  cases st with
  | none => exact (long_spoilt b w h).mono fun e w' ⟨he, hw⟩ => ⟨he, hw ▸ h, hw ▸ Only.refl _ _⟩
  | some l =>
    cases hn : Oct.num? l with
    | none =>
      refine (long_none b l w h hn).mono fun e w' ⟨he, hs, ho⟩ => ⟨?_, ?_, ho⟩
      · simp [longV, hn, he]
      · simpa [longS, hn] using hs
    | some x =>
      refine (long_some b l x.1 x.2 w h hn).mono fun e w' ⟨he, hs, ho⟩ => ⟨?_, ?_, ho⟩
      · simp [longV, hn, he]
      · simpa [longS, hn] using hs

set_option maxHeartbeats 800000 in
theorem num_any (b : Nat) (st : Option (List UInt8)) (most : Int) (w : World) (h : Scn b st w) (m1 : -9223372036854775808 ≤ most) (m2 : most ≤ 9223372036854775807) :
    Calls Tryd.prog 47 #[.pointer (some ⟨b, 0, none⟩), .int .i64 most] w fun e w' => e = .returned (.int .i64 (numV st most)) ∧ Scn b (numS st most) w' ∧ Only b w w' := by
  have hlt := longV_lt st
  by_cases hc : most < 0
  · have e1 : numV st most = 0 := if_pos (Or.inl hc)
    have e2 : numS st most = none := if_pos (Or.inl hc)
    rw [e1, e2]
    clear e1 e2
    go_enter Tryd.func47, Tryd.ntmps47
    go_wp2_with (first
      | (go_at_call 71; refine (long_any _ _ _ h).mono ?_; rintro e w1 ⟨rfl, h1, o1⟩)
      | (go_at_call 72; refine (spoil_any _ _ _ h1).mono ?_; rintro e w2 ⟨rfl, h2, o2⟩))
    go_ret
    exact ⟨rfl, h2, o1.trans o2⟩
  · by_cases hm : most < longV st
    · have e1 : numV st most = 0 := if_pos (Or.inr hm)
      have e2 : numS st most = none := if_pos (Or.inr hm)
      rw [e1, e2]
      clear e1 e2
      go_enter Tryd.func47, Tryd.ntmps47
      go_wp2_with (first
        | (go_at_call 71; refine (long_any _ _ _ h).mono ?_; rintro e w1 ⟨rfl, h1, o1⟩)
        | (go_at_call 72; refine (spoil_any _ _ _ h1).mono ?_; rintro e w2 ⟨rfl, h2, o2⟩))
      go_ret
      exact ⟨rfl, h2, o1.trans o2⟩
    · have e1 : numV st most = longV st := if_neg (by omega)
      have e2 : numS st most = longS st := if_neg (by omega)
      rw [e1, e2]
      clear e1 e2
      go_enter Tryd.func47, Tryd.ntmps47
      go_wp2_with (first
        | (go_at_call 71; refine (long_any _ _ _ h).mono ?_; rintro e w1 ⟨rfl, h1, o1⟩)
        | (go_at_call 72; refine (spoil_any _ _ _ h1).mono ?_; rintro e w2 ⟨rfl, h2, o2⟩))
      go_ret
      exact ⟨rfl, h1, o1⟩

end Go.Proofs.YtlcljjapeigaeaaDoor
/-! ## Plain mathematics: the bytes of two numbers are in the order of the numbers. -/
namespace Go.Proofs.YtlcljjapeigaeaaDoor.Oct
open Go

theorem be_mod (n k : Nat) : ∀ j, j ≤ k → be (n % 256 ^ k) j = be n j
  | 0, _ => rfl
  | j + 1, h => by
    simp only [be]
    rw [be_mod n k j (by omega)]
    congr 1
    have e : 256 ^ k = 256 ^ j * (256 * 256 ^ (k - 1 - j)) := by
      rw [← Nat.pow_succ', ← Nat.pow_add]; congr 1; omega
    rw [e, Nat.mod_mul_right_div_self]
    apply UInt8.toNat_inj.1
    simp only [UInt8.toNat_ofNat']
    exact Nat.mod_mul_right_mod _ _ _

theorem ofNat_lt {a b : Nat} (ha : a < 256) (hb : b < 256) : (UInt8.ofNat a < UInt8.ofNat b) ↔ a < b := by
  rw [UInt8.lt_iff_toNat_lt]
  simp only [UInt8.toNat_ofNat']
  rw [Nat.mod_eq_of_lt ha, Nat.mod_eq_of_lt hb]

theorem ofNat_eq {a b : Nat} (ha : a < 256) (hb : b < 256) : (UInt8.ofNat a = UInt8.ofNat b) ↔ a = b := by
  rw [← UInt8.toNat_inj]
  simp only [UInt8.toNat_ofNat']
  rw [Nat.mod_eq_of_lt ha, Nat.mod_eq_of_lt hb]

theorem be_less : ∀ (k a b : Nat), a < 256 ^ k → b < 256 ^ k → Op.bytesLess (be a k) (be b k) = decide (a < b)
  | 0, a, b, ha, hb => by
    have : a = 0 := by simpa using ha
    have : b = 0 := by simpa using hb
    subst a b
    rfl
  | k + 1, a, b, ha, hb => by
    have hp : 0 < 256 ^ k := Nat.pow_pos (by decide)
    have qa : a / 256 ^ k < 256 := by rw [Nat.div_lt_iff_lt_mul hp, Nat.mul_comm]; exact ha
    have qb : b / 256 ^ k < 256 := by rw [Nat.div_lt_iff_lt_mul hp, Nat.mul_comm]; exact hb
    have ih := be_less k (a % 256 ^ k) (b % 256 ^ k) (Nat.mod_lt _ hp) (Nat.mod_lt _ hp)
    rw [be_mod a k k (Nat.le_refl _), be_mod b k k (Nat.le_refl _)] at ih
    simp only [be, Op.bytesLess, ih]
    have ea := Nat.div_add_mod a (256 ^ k)
    have eb := Nat.div_add_mod b (256 ^ k)
    have ra := Nat.mod_lt a hp
    have rb := Nat.mod_lt b hp
    rw [Bool.eq_iff_iff]
    simp only [Bool.or_eq_true, Bool.and_eq_true, decide_eq_true_eq, beq_iff_eq, ofNat_lt qa qb, ofNat_eq qa qb]
    generalize 256 ^ k = m at *
    generalize a / m = q at *
    generalize b / m = q' at *
    generalize a % m = r at *
    generalize b % m = r' at *
    constructor
    · rintro (h | ⟨h, h'⟩)
      · have : m * (q + 1) ≤ m * q' := Nat.mul_le_mul_left _ h
        rw [Nat.mul_add] at this
        omega
      · subst h; omega
    · intro h
      by_cases hq : q < q'
      · exact Or.inl hq
      · right
        have : q = q' := by
          apply Nat.le_antisymm _ (by omega)
          apply Nat.le_of_not_lt
          intro h'
          have : m * (q' + 1) ≤ m * q := Nat.mul_le_mul_left _ h'
          rw [Nat.mul_add] at this
          omega
        subst this
        exact ⟨rfl, by omega⟩

theorem putB_toList (n : Nat) : (putB n).toList = putL n := by rw [Lib.toList_data]; rfl

theorem need_mono {a b : Nat} (ha : a < 18446744073709551616) (hb : b < 18446744073709551616) (h : need a < need b) : a < b := by
  have h0 : b ≠ 0 := by intro e; subst e; rw [need_zero] at h; omega
  have h1 := lt_need a ha
  have h2 := le_need b hb h0
  have h3 : 256 ^ need a ≤ 256 ^ (need b - 1) := Nat.pow_le_pow_right (by decide) (by omega)
  omega

theorem put_less (a b : Nat) (ha : a < 18446744073709551616) (hb : b < 18446744073709551616) :
    Op.bytesLess (putB a).toList (putB b).toList = decide (a < b) := by
  rw [putB_toList, putB_toList, putL, putL]
  have na := need_le a ha
  have nb := need_le b hb
  simp only [Op.bytesLess]
  by_cases h : need a = need b
  · have := be_less (need b) a b (h ▸ lt_need a ha) (lt_need b hb)
    rw [h, this]
    simp
  · have hlt : (UInt8.ofNat (need a) < UInt8.ofNat (need b)) ↔ need a < need b := ofNat_lt (by omega) (by omega)
    have hne : (UInt8.ofNat (need a) == UInt8.ofNat (need b)) = false := by
      rw [beq_eq_false_iff_ne]; intro e; exact h ((ofNat_eq (by omega) (by omega)).1 e)
    rw [hne, Bool.false_and, Bool.or_false, Bool.eq_iff_iff]
    simp only [decide_eq_true_eq, hlt]
    constructor
    · exact need_mono ha hb
    · intro hab
      by_cases h' : need a < need b
      · exact h'
      · have := need_mono hb ha (by omega)
        omega

end Go.Proofs.YtlcljjapeigaeaaDoor.Oct
/-! ## Plain mathematics: what was put is read again, and what stands behind it is left. -/
namespace Go.Proofs.YtlcljjapeigaeaaDoor.Oct
open Go

theorem val_cons_acc (l : List UInt8) : ∀ a : Nat, l.foldl (fun n b => n * 256 + b.toNat) a = a * 256 ^ l.length + val l := by
  induction l with
  | nil => intro a; simp [val]
  | cons b r ih =>
    intro a
    simp only [List.foldl_cons, List.length_cons, val]
    rw [ih, ih (0 * 256 + b.toNat), Nat.pow_succ]
    rw [Nat.add_mul, Nat.mul_assoc, Nat.mul_comm 256]
    simp
    omega

theorem val_cons (b : UInt8) (l : List UInt8) : val (b :: l) = b.toNat * 256 ^ l.length + val l := by
  show (b :: l).foldl (fun n b => n * 256 + b.toNat) 0 = _
  rw [List.foldl_cons, val_cons_acc]
  simp

theorem val_be (n : Nat) : ∀ k, val (be n k) = n % 256 ^ k
  | 0 => by simp [be, val, Nat.mod_one]
  | k + 1 => by
    rw [be, val_cons, be_length, val_be n k, Nat.mod_pow_succ]
    simp only [UInt8.toNat_ofNat']
    rw [Nat.mul_comm, Nat.add_comm]

theorem val_be_need (n : Nat) (h : n < 18446744073709551616) : val (be n (need n)) = n := by
  rw [val_be, Nat.mod_eq_of_lt (lt_need n h)]

theorem be_head (n : Nat) (h : n < 18446744073709551616) (h0 : 0 < need n) (r : List UInt8) : (be n (need n) ++ r).headD 0 ≠ 0 := by
  have hn : n ≠ 0 := by intro e; subst e; rw [need_zero] at h0; omega
  obtain ⟨k, hk⟩ : ∃ k, need n = k + 1 := ⟨need n - 1, by omega⟩
  have h1 := le_need n h hn
  have h2 := lt_need n h
  rw [hk] at h1 h2 ⊢
  simp only [be, List.cons_append, List.headD_cons]
  intro e
  have e' := congrArg UInt8.toNat e
  simp only [UInt8.toNat_ofNat', UInt8.toNat_zero] at e'
  have hp : 0 < 256 ^ k := Nat.pow_pos (by decide)
  have q1 : n / 256 ^ k < 256 := by rw [Nat.div_lt_iff_lt_mul hp, Nat.mul_comm, ← Nat.pow_succ]; exact h2
  have q2 : 1 ≤ n / 256 ^ k := by rw [Nat.le_div_iff_mul_le hp]; simpa using h1
  rw [Nat.mod_eq_of_lt q1] at e'
  omega

theorem need_byte (n : Nat) (h : n < 18446744073709551616) : (UInt8.ofNat (need n)).toNat = need n := by
  have := need_le n h
  simp only [UInt8.toNat_ofNat']
  omega

/-- What was put is read. -/
theorem num_put (n : Nat) (h : n < 18446744073709551616) (r : List UInt8) : num? (putL n ++ r) = some (n, 1 + need n) := by
  have hn := need_le n h
  have hb := need_byte n h
  rw [putL, List.cons_append]
  simp only [num?]
  rw [hb, if_neg]
  · rw [List.take_append_of_le_length (by rw [be_length]; exact Nat.le_refl _), List.take_of_length_le (by rw [be_length]; exact Nat.le_refl _), val_be_need n h]
  · rintro (h1 | h1 | ⟨h1, h2⟩)
    · omega
    · rw [List.length_append, be_length] at h1; omega
    · exact be_head n h h1 r h2

theorem drop_put (n : Nat) (r : List UInt8) : (putL n ++ r).drop (1 + need n) = r := by
  rw [← putL_length n, List.drop_left]

theorem putB_data (n : Nat) : (putB n).data.toList = putL n := rfl

end Go.Proofs.YtlcljjapeigaeaaDoor.Oct
/-! ## Package octet: what Text of a scanner does, for every scanner and every bound. -/
namespace Go.Proofs.YtlcljjapeigaeaaDoor
open Go.RowKit

theorem long_none_zero (st : Option (List UInt8)) (h : longS st = none) : longV st = 0 := by
  unfold longS at h
  unfold longV
  cases st with
  | none => rfl
  | some l =>
    cases hn : Oct.num? l with
    | none => simp [hn]
    | some x => simp [hn] at h

theorem num_none_zero (st : Option (List UInt8)) (most : Int) (h : numS st most = none) : numV st most = 0 := by
  unfold numS at h
  unfold numV
  split
  · rfl
  · rename_i hc
    rw [if_neg hc] at h
    exact long_none_zero st h

theorem numV_le (st : Option (List UInt8)) (most : Int) (hm : most ≤ 9223372036854775807) : (numV st most : Int) ≤ 9223372036854775807 := by
  unfold numV
  split
  · decide
  · omega

theorem numS_len (st : Option (List UInt8)) (most : Int) : ((numS st most).getD []).length ≤ (st.getD []).length := by
  unfold numS
  split
  · simp
  · exact longS_le st

set_option maxHeartbeats 800000 in
theorem text_spoilt (b : Nat) (st : Option (List UInt8)) (most : Int) (w : World) (h : Scn b st w) (m1 : -9223372036854775808 ≤ most) (m2 : most ≤ 9223372036854775807) (hs : numS st most = none) :
    Calls Tryd.prog 53 #[.pointer (some ⟨b, 0, none⟩), .int .i64 most] w fun e w' => e = .returned (.string ⟨#[]⟩) ∧ Scn b none w' ∧ Only b w w' := by
  have hN := num_any b st most w h m1 m2
  rw [hs, num_none_zero st most hs] at hN
  have HN := Lib.hid hN
  clear hN hs h
  go_enter Tryd.func53, Tryd.ntmps53
  go_wp2_with (first
    | (go_at_call 47; refine (HN.out).mono ?_; rintro e w1 ⟨rfl, h1, o1⟩)
    | (go_at_call 74; refine (left_any _ _ _ h1).mono ?_; rintro e w2 ⟨rfl, rfl⟩)
    | (go_at_call 75; refine (sound_any _ _ _ h1).mono ?_; rintro e w2 ⟨rfl, rfl⟩))
  go_ret
  exact ⟨rfl, h1, o1⟩

set_option maxHeartbeats 800000 in
theorem text_short (b : Nat) (st : Option (List UInt8)) (l : List UInt8) (n : Nat) (most : Int) (w : World) (h : Scn b st w) (m1 : -9223372036854775808 ≤ most) (m2 : most ≤ 9223372036854775807) (hs : numS st most = some l) (hv : numV st most = n) (hl : l.length < n) :
    Calls Tryd.prog 53 #[.pointer (some ⟨b, 0, none⟩), .int .i64 most] w fun e w' => e = .returned (.string ⟨#[]⟩) ∧ Scn b none w' ∧ Only b w w' := by
  have hN := num_any b st most w h m1 m2
  have hb := numV_le st most m2
  rw [hs, hv] at hN
  rw [hv] at hb
  have HN := Lib.hid hN
  clear hN hs h hv
  go_enter Tryd.func53, Tryd.ntmps53
  go_wp2_with (first
    | (go_at_call 47; refine (HN.out).mono ?_; rintro e w1 ⟨rfl, h1, o1⟩)
    | (go_at_call 74; refine (left_any _ _ _ h1).mono ?_; rintro e w2 ⟨rfl, rfl⟩)
    | (go_at_call 72; refine (spoil_any _ _ _ h1).mono ?_; rintro e w2 ⟨rfl, h2, o2⟩)
    | (go_at_call 75; refine (sound_any _ _ _ h2).mono ?_; rintro e w2 ⟨rfl, rfl⟩))
  go_ret
  exact ⟨rfl, h2, o1.trans o2⟩

set_option maxHeartbeats 800000 in
theorem text_ok (b : Nat) (st : Option (List UInt8)) (l : List UInt8) (n : Nat) (most : Int) (w : World) (h : Scn b st w) (m1 : -9223372036854775808 ≤ most) (m2 : most ≤ 9223372036854775807) (hs : numS st most = some l) (hv : numV st most = n) (hl : n ≤ l.length) :
    Calls Tryd.prog 53 #[.pointer (some ⟨b, 0, none⟩), .int .i64 most] w fun e w' => e = .returned (.string ⟨(l.take n).toArray⟩) ∧ Scn b (some (l.drop n)) w' ∧ Only b w w' := by
  have hN := num_any b st most w h m1 m2
  have hb := numV_le st most m2
  rw [hs, hv] at hN
  rw [hv] at hb
  have HN := Lib.hid hN
  have HT := Lib.hid (take_rest l n)
  have HD := Lib.hid (drop_rest l n)
  have hsz : n ≤ (restB (some l)).size := by rw [rest_size]; exact hl
  have hn0 : (0 : Int) ≤ (n : Int) := by omega
  have hge : ¬ l.length < n := by omega
  clear hN hs h hv
  go_enter Tryd.func53, Tryd.ntmps53
  go_wp2_with (first
    | (go_at_call 47; refine (HN.out).mono ?_; rintro e w1 ⟨rfl, h1, o1⟩; have c1 := h1.c0; have f1 := h1.fz 0)
    | (go_at_call 74; refine (left_any _ _ _ h1).mono ?_; rintro e w2 ⟨rfl, rfl⟩)
    | (go_at_call 75; refine (sound_any _ _ _ h1).mono ?_; rintro e w2 ⟨rfl, rfl⟩))
  go_ret
  refine ⟨?_, ?_, o1.setCell _ _⟩
  · rw [← HT.out]; rfl
  · rw [HD.out]; exact h1.set0 (by have := h1.1; simp at this ⊢; omega)

/-- WHAT Text DOES, of every scanner, with every bound. -/
theorem text_any (b : Nat) (st : Option (List UInt8)) (most : Int) (w : World) (h : Scn b st w) (m1 : -9223372036854775808 ≤ most) (m2 : most ≤ 9223372036854775807) :
    Calls Tryd.prog 53 #[.pointer (some ⟨b, 0, none⟩), .int .i64 most] w fun e w' => e = .returned (.string ⟨(textV st most).toArray⟩) ∧ Scn b (textS st most) w' ∧ Only b w w' := by
  cases hs : numS st most with
  | none =>
    have e1 : textV st most = [] := by unfold textV; rw [hs, num_none_zero st most hs]; rfl
    have e2 : textS st most = none := by unfold textS; rw [hs]; rfl
    rw [e1, e2]; exact text_spoilt b st most w h m1 m2 hs
  | some l =>
    by_cases hl : l.length < numV st most
    · have e1 : textV st most = [] := by unfold textV; rw [hs, Option.getD_some, if_pos hl]
      have e2 : textS st most = none := by unfold textS; rw [hs, Option.bind_some, if_pos hl]
      rw [e1, e2]; exact text_short b st l _ most w h m1 m2 hs rfl hl
    · have e1 : textV st most = l.take (numV st most) := by unfold textV; rw [hs, Option.getD_some, if_neg hl]
      have e2 : textS st most = some (l.drop (numV st most)) := by unfold textS; rw [hs, Option.bind_some, if_neg hl]
      rw [e1, e2]; exact text_ok b st l _ most w h m1 m2 hs rfl (by omega)

end Go.Proofs.YtlcljjapeigaeaaDoor
/-! ## Package octet: Long and Num of what was put. -/
namespace Go.Proofs.YtlcljjapeigaeaaDoor
open Go.RowKit

theorem longV_put (n : Nat) (h : n < 18446744073709551616) (r : List UInt8) : longV (some (Oct.putL n ++ r)) = n := by simp [longV, Oct.num_put n h r]
theorem longS_put (n : Nat) (h : n < 18446744073709551616) (r : List UInt8) : longS (some (Oct.putL n ++ r)) = some r := by simp [longS, Oct.num_put n h r, Oct.drop_put]
theorem numV_put (n : Nat) (h : n < 18446744073709551616) (r : List UInt8) (most : Int) (hm : ¬ (most < 0 ∨ most < n)) : numV (some (Oct.putL n ++ r)) most = n := by
  unfold numV; rw [longV_put n h r, if_neg hm]
theorem numS_put (n : Nat) (h : n < 18446744073709551616) (r : List UInt8) (most : Int) (hm : ¬ (most < 0 ∨ most < n)) : numS (some (Oct.putL n ++ r)) most = some r := by
  unfold numS; rw [longV_put n h r, if_neg hm, longS_put n h r]
theorem num_bad (n : Nat) (h : n < 18446744073709551616) (r : List UInt8) (most : Int) (hm : most < 0 ∨ most < n) : numV (some (Oct.putL n ++ r)) most = 0 ∧ numS (some (Oct.putL n ++ r)) most = none := by
  unfold numV numS; rw [longV_put n h r, if_pos hm, if_pos hm]; exact ⟨rfl, rfl⟩

theorem putL_le (n : Nat) (h : n < 18446744073709551616) : (Oct.putL n).length ≤ 9 := by have := Oct.need_le n h; rw [Oct.putL_length]; omega

theorem textPut_any (s : ByteArray) (w : World) (hs : s.size ≤ 1099511627776) :
    Calls Tryd.prog 65 #[.string s] w fun e w' => e = .returned (.string (Oct.putB s.size ++ s)) ∧ Below w.heap.size w w' := by
  have hp : (Oct.putB s.size).size ≤ 9 := by have := Oct.need_le s.size (by omega); rw [Oct.putB_size]; omega
  go_enter Tryd.func65, Tryd.ntmps65
  go_wp2_with (go_at_call 64; refine (put_any _ _ (by omega)).mono ?_; rintro e w' ⟨rfl, hb⟩)
  go_ret
  exact ⟨rfl, hb⟩

end Go.Proofs.YtlcljjapeigaeaaDoor
/-! ## The document's own answer for layer 1 (package scriniumref01): Put, Text, List, Same, for every input that the statements hand them. -/
namespace Go.Proofs.YtlcljjapeigaeaaDoor
open Go.RowKit

theorem app_list (x y : List UInt8) : ((⟨x.toArray⟩ : ByteArray) ++ ⟨y.toArray⟩) = ⟨(x ++ y).toArray⟩ := ByteArray.mk_append_mk x y

/-- One byte as a text. -/
theorem conv_one (u : World) (x : Int) (b : UInt8) (h : x = (b.toNat : Int)) :
    (convert 58 9 (.slice (some ⟨u.heap.size, 0, none⟩) 1 1)).run Tryd.prog (u.alloc (.cells #[.int .u8 x] 5)) = .ok (.string ⟨[b].toArray⟩) (u.alloc (.cells #[.int .u8 x] 5)) := by
  subst h
  refine run_convert_bytes_back _ _ _ 5 _ _ [b] Tryd.underlying58 Tryd.underlying5 Tryd.underlying9 fun j hj => ?_
  have : j = 0 := by simp at hj; omega
  subst this
  exact cell_one_new _ _ _ 0 _ rfl

theorem be_succ (n j : Nat) : Oct.be n (j + 1) = UInt8.ofNat (n / 256 ^ j) :: Oct.be n j := rfl
theorem byte_mod (m : Nat) : ((m : Int) % 256) = ((UInt8.ofNat m).toNat : Int) := by simp
theorem div_step (n j : Nat) : n / 256 ^ j / 256 = n / 256 ^ (j + 1) := by rw [Nat.div_div_eq_div_mul, Nat.pow_succ]
theorem need_of (n j : Nat) (h : n < 18446744073709551616) (h1 : j ≤ Oct.need n) (h2 : n / 256 ^ j = 0) : Oct.need n = j := by
  have hp : 0 < 256 ^ j := Nat.pow_pos (by decide)
  have h3 : n < 256 ^ j := (Nat.div_eq_zero_iff_lt hp).1 h2
  by_cases h0 : n = 0
  · subst h0; rw [Oct.need_zero] at *; omega
  · have h4 := Oct.le_need n h h0
    apply Nat.le_antisymm _ h1
    apply Nat.le_of_not_lt
    intro hlt
    have : 256 ^ j ≤ 256 ^ (Oct.need n - 1) := Nat.pow_le_pow_right (by decide) (by omega)
    omega
theorem lt_of_pos (n j : Nat) (h : n < 18446744073709551616) (h2 : 0 < n / 256 ^ j) : j < Oct.need n := by
  have hp : 0 < 256 ^ j := Nat.pow_pos (by decide)
  have h3 : 256 ^ j ≤ n := by
    apply Nat.le_of_not_lt; intro h4
    rw [(Nat.div_eq_zero_iff_lt hp).2 h4] at h2; omega
  have h4 := Oct.lt_need n h
  apply Nat.lt_of_not_le
  intro hle
  have : 256 ^ Oct.need n ≤ 256 ^ j := Nat.pow_le_pow_right (by decide) hle
  omega

set_option maxHeartbeats 800000 in
theorem refPut_any (n : Nat) (w : World) (h : n < 18446744073709551616) :
    Calls Tryd.prog 37 #[.int .u64 n] w fun e w' => e = .returned (.string (Oct.putB n)) ∧ Below w.heap.size w w' := by
  have hM := Oct.need_le n h
  go_enter Tryd.func37, Tryd.ntmps37
  go_wp2
  go_loopw [0, 3] (fun x t wr => ∃ (j m : Nat) (s : ByteArray), j ≤ Oct.need n ∧ Hid (m = n / 256 ^ j) ∧ m ≤ n ∧ Hid (s = ⟨(Oct.be n j).toArray⟩) ∧ s.size ≤ 8 ∧ x = .int .u64 m ∧ t = .string s ∧ Below w.heap.size w wr)
    (fun x _ _ => (intOf x).toNat)
  case atStart => exact ⟨0, n, ⟨#[]⟩, Nat.zero_le _, by simp [Hid], Nat.le_refl _, rfl, by decide, rfl, rfl, Below.refl _ _⟩
  case round =>
    obtain ⟨j, m, s, hj, hm, hmn, hs, hs8, rfl, rfl, hbl⟩ := hrel
    by_cases hpos : 0 < m
    · have hlt : j < Oct.need n := lt_of_pos n j h (by rw [← hm.out]; exact hpos)
      have hcv := fun u => conv_one u ((m : Int) % 256) (UInt8.ofNat m) (byte_mod m)
      go_wp2
      go_roundw
      case rel =>
        refine ⟨j + 1, m / 256, ⟨[UInt8.ofNat m].toArray⟩ ++ s, by omega, ?_, by omega, ?_, ?_, by go_num, rfl, hbl.alloc hbl.size _⟩
        · show m / 256 = n / 256 ^ (j + 1); rw [hm.out, div_step]
        · show _ = _; rw [hs.out, app_list, be_succ, hm.out]; rfl
        · rw [hs.out, app_list]; show ((_ : List UInt8).toArray).size ≤ 8; simp [Oct.be_length]; omega
      case measure => simp [intOf]; omega
    · obtain rfl : m = 0 := by omega
      have hN := need_of n j h hj hm.out.symm
      have hsz : s.size = Oct.need n := by rw [hs.out, hN]; show ((Oct.be n j).toArray).size = j; simp [Oct.be_length]
      have hcv := fun u => conv_one u (s.size : Int) (UInt8.ofNat (Oct.need n)) (by rw [hsz, Oct.need_byte n h])
      have HE : Hid ((⟨[UInt8.ofNat (Oct.need n)].toArray⟩ : ByteArray) ++ s = Oct.putB n) := by
        show _ = _
        rw [hs.out, app_list, ← hN]; rfl
      clear hsz hN
      go_wp2
      go_ret
      refine ⟨?_, hbl.alloc hbl.size _⟩
      rw [← HE.out]
      rfl

theorem refText_any (s : ByteArray) (w : World) (hs : s.size ≤ 1099511627776) :
    Calls Tryd.prog 67 #[.string s] w fun e w' => e = .returned (.string (Oct.putB s.size ++ s)) ∧ Below w.heap.size w w' := by
  have hp : (Oct.putB s.size).size ≤ 9 := by have := Oct.need_le s.size (by omega); rw [Oct.putB_size]; omega
  go_enter Tryd.func67, Tryd.ntmps67
  go_wp2_with (go_at_call 37; refine (refPut_any _ _ (by omega)).mono ?_; rintro e w' ⟨rfl, hb⟩)
  go_ret
  exact ⟨rfl, hb⟩

/-- A text as it is put. -/
def txtL (t : ByteArray) : List UInt8 := Oct.putL t.size ++ t.data.toList
/-- Texts as they are put, one behind the other. -/
def txtsL (ts : List ByteArray) : List UInt8 := (ts.map txtL).flatten
/-- A list as it is put. -/
def listL (ts : List ByteArray) : List UInt8 := Oct.putL ts.length ++ txtsL ts

theorem txt_eq (t : ByteArray) : Oct.putB t.size ++ t = ⟨(txtL t).toArray⟩ := by
  have e : t = ⟨t.data.toList.toArray⟩ := (Lib.mk_data t).symm
  rw [txtL, ← app_list, ← e]; rfl

theorem txtL_length (t : ByteArray) (h : t.size ≤ 1000) : (txtL t).length ≤ 1009 := by
  have := Oct.need_le t.size (by omega)
  rw [txtL, List.length_append, Oct.putL_length, ← Lib.size_eq]; omega

theorem txts_step (ts : List ByteArray) (k : Nat) (h : k < ts.length) : txtsL (ts.take (k + 1)) = txtsL (ts.take k) ++ txtL (ts.getD k ByteArray.empty) := by
  have e : ts.getD k ByteArray.empty = ts[k] := by simp [h]
  rw [e, List.take_succ_eq_append_getElem h]
  simp only [txtsL, List.map_append, List.map_cons, List.map_nil, List.flatten_append, List.flatten_cons, List.flatten_nil, List.append_nil]

theorem txts_length (ts : List ByteArray) (h : ∀ t ∈ ts, t.size ≤ 1000) : (txtsL ts).length ≤ 1009 * ts.length := by
  induction ts with
  | nil => simp [txtsL]
  | cons t r ih =>
    have h1 := txtL_length t (h t (by simp))
    have h2 := ih (fun x hx => h x (by simp [hx]))
    simp only [txtsL, List.map_cons, List.flatten_cons, List.length_append, List.length_cons] at *
    omega

theorem getD_le (ts : List ByteArray) (h : ∀ t ∈ ts, t.size ≤ 1000) (k : Nat) : (ts.getD k ByteArray.empty).size ≤ 1000 := by
  by_cases hk : k < ts.length
  · have e : ts.getD k ByteArray.empty = ts[k] := by simp [hk]
    rw [e]; exact h _ (List.getElem_mem hk)
  · have e : ts.getD k ByteArray.empty = ByteArray.empty := by simp [Nat.le_of_not_lt hk]
    rw [e]; decide
end Go.Proofs.YtlcljjapeigaeaaDoor
/-! ## The document's own scanner (package scriniumref01): what it is in memory, and what Long, Num, Text, Left and End do: the same as package octet's. -/
namespace Go.Proofs.YtlcljjapeigaeaaDoor
open Go.RowKit

/-- Block b is the document's scanner of the text S, at a place, spoilt or not. -/
def RAt (b : Nat) (S : ByteArray) (p : Nat) (bad : Bool) (w : World) : Prop :=
  w.heap[b]? = some (.cells #[.string S, .int .i64 p, .bool bad] 97 (0, 0))
/-- The same, told by what is left (none: spoilt). -/
def RScn (b : Nat) (S : ByteArray) (st : Option (List UInt8)) (w : World) : Prop :=
  ∃ p bad, p ≤ S.size ∧ RAt b S p bad w ∧ st = if bad then none else some (S.data.toList.drop p)

theorem RAt.c0 {b : Nat} {S : ByteArray} {p : Nat} {bad : Bool} {w : World} (h : RAt b S p bad w) : w.cell? ⟨b, 0, none⟩ = some (.string S) := by unfold World.cell?; rw [h]; rfl
theorem RAt.c1 {b : Nat} {S : ByteArray} {p : Nat} {bad : Bool} {w : World} (h : RAt b S p bad w) : w.cell? ⟨b, 1, none⟩ = some (.int .i64 p) := by unfold World.cell?; rw [h]; rfl
theorem RAt.c2 {b : Nat} {S : ByteArray} {p : Nat} {bad : Bool} {w : World} (h : RAt b S p bad w) : w.cell? ⟨b, 2, none⟩ = some (.bool bad) := by unfold World.cell?; rw [h]; rfl
theorem RAt.fz {b : Nat} {S : ByteArray} {p : Nat} {bad : Bool} {w : World} (h : RAt b S p bad w) (o : Nat) : w.frozen? ⟨b, o, none⟩ = false := by unfold World.frozen?; rw [h]; simp
theorem RAt.lt {b : Nat} {S : ByteArray} {p : Nat} {bad : Bool} {w : World} (h : RAt b S p bad w) : b < w.heap.size := (Array.getElem?_eq_some_iff.1 h).1
theorem RAt.set2 {b : Nat} {S : ByteArray} {p : Nat} {bad : Bool} {w : World} (h : RAt b S p bad w) : RAt b S p true (w.setCell ⟨b, 2, none⟩ (.bool true)) := by
  unfold RAt at *
  simp [World.setCell, Array.getElem?_modify, h]
theorem RAt.set1 {b : Nat} {S : ByteArray} {p : Nat} {bad : Bool} {w : World} (h : RAt b S p bad w) (q : Nat) : RAt b S q bad (w.setCell ⟨b, 1, none⟩ (.int .i64 q)) := by
  unfold RAt at *
  simp [World.setCell, Array.getElem?_modify, h]
theorem RScn.lt {b : Nat} {S : ByteArray} {st : Option (List UInt8)} {w : World} (h : RScn b S st w) : b < w.heap.size := by obtain ⟨p, bad, _, h, _⟩ := h; exact h.lt
theorem RScn.old {b B : Nat} {S : ByteArray} {st : Option (List UInt8)} {w w' : World} (h : RScn b S st w) (k : Below B w w') (hb : b < B) : RScn b S st w' := by
  obtain ⟨p, bad, hp, h, hs⟩ := h
  exact ⟨p, bad, hp, (k.block b hb).trans h, hs⟩
theorem RScn.kept {b b' : Nat} {S : ByteArray} {st : Option (List UInt8)} {w w' : World} (h : RScn b S st w) (k : Only b' w w') (hb : b ≠ b') : RScn b S st w' := by
  obtain ⟨p, bad, hp, h, hs⟩ := h
  exact ⟨p, bad, hp, (k.block b h.lt hb).trans h, hs⟩
theorem Only.drewN {b : Nat} {u w : World} (h : Only b u w) (n : Nat) : Only b u (w.drewN n) := h.trans ⟨rfl, rfl, rfl, Nat.le_refl _, fun _ _ _ => rfl⟩

/-- What stands at a place of a text. -/
theorem drop_at (S : ByteArray) (p : Nat) (h : p < S.size) : S.data.toList.drop p = S[p] :: S.data.toList.drop (p + 1) := by
  rw [List.drop_eq_getElem_cons (by rw [← Lib.size_eq]; exact h)]
  rfl
theorem drop_len (S : ByteArray) (p : Nat) : (S.data.toList.drop p).length = S.size - p := by rw [List.length_drop, ← Lib.size_eq]
theorem drop_head (S : ByteArray) (p : Nat) (h : p + 1 < S.size) : (S.data.toList.drop (p + 1)).headD 0 = S[p + 1] := by rw [drop_at S (p + 1) h]; rfl
theorem num_at (S : ByteArray) (p : Nat) (h : p < S.size) : Oct.num? (S.data.toList.drop p) =
    if 8 < S[p].toNat ∨ S.size - (p + 1) < S[p].toNat ∨ (0 < S[p].toNat ∧ (S.data.toList.drop (p + 1)).headD 0 = 0) then none else some (Oct.val ((S.data.toList.drop (p + 1)).take S[p].toNat), 1 + S[p].toNat) := by
  rw [drop_at S p h]
  simp only [Oct.num?]
  rw [drop_len]

theorem num_end (S : ByteArray) (p : Nat) (h : S.size ≤ p) : Oct.num? (S.data.toList.drop p) = none := by
  have : S.data.toList.drop p = [] := List.eq_nil_of_length_eq_zero (by rw [drop_len]; omega)
  rw [this]; rfl

set_option maxHeartbeats 1600000 in
theorem rlong_bad (b : Nat) (S : ByteArray) (p : Nat) (w : World) (h : RAt b S p true w) :
    Calls Tryd.prog 76 #[.pointer (some ⟨b, 0, none⟩)] w fun e w' => e = .returned (.int .u64 0) ∧ RAt b S p true w' ∧ Only b w w' := by
  have c2 := h.c2
  have f2 := h.fz 2
  have H := Lib.hid h
  clear h
  go_enter Tryd.func76, Tryd.ntmps76
  go_wp2
  go_quiet (fail)
  go_wp2
  go_ret
  exact ⟨rfl, RAt.set2 (w := w.drewN _) H.out, ((Only.refl b w).drewN _).setCell _ _⟩

set_option maxHeartbeats 1600000 in
theorem rlong_end (b : Nat) (S : ByteArray) (p : Nat) (w : World) (h : RAt b S p false w) (_hS : S.size ≤ 1099511627776) (hp : S.size ≤ p) (_hp2 : p ≤ 1099511627776) :
    Calls Tryd.prog 76 #[.pointer (some ⟨b, 0, none⟩)] w fun e w' => e = .returned (.int .u64 0) ∧ RAt b S p true w' ∧ Only b w w' := by
  have c0 := h.c0
  have c1 := h.c1
  have c2 := h.c2
  have f2 := h.fz 2
  have H := Lib.hid h
  have hd : decide (S.size ≤ p) = true := by simpa using hp
  clear h
  go_enter Tryd.func76, Tryd.ntmps76
  go_wp2
  go_quiet (fail)
  go_wp2
  go_ret
  exact ⟨rfl, RAt.set2 (w := w.drewN _) H.out, ((Only.refl b w).drewN _).setCell _ _⟩

set_option maxHeartbeats 1600000 in
theorem rlong_a (b : Nat) (S : ByteArray) (p : Nat) (w : World) (h : RAt b S p false w) (_hS : S.size ≤ 1099511627776) (hp : p < S.size) (h8 : (8 : Int) < S[p].toNat) :
    Calls Tryd.prog 76 #[.pointer (some ⟨b, 0, none⟩)] w fun e w' => e = .returned (.int .u64 0) ∧ RAt b S p true w' ∧ Only b w w' := by
  have c0 := h.c0
  have c1 := h.c1
  have c2 := h.c2
  have f2 := h.fz 2
  have H := Lib.hid h
  have hd : decide (S.size ≤ p) = false := by simpa using hp
  have hu : S[p].toNat < 256 := S[p].toNat_lt
  have hp0 : (0 : Int) ≤ (p : Int) := by omega
  have hp1 : (p : Int) < (S.size : Int) := by omega
  have k0 := IntWalk.i64_in (S[p].toNat : Int) (by omega)
  have h8' : decide ((8 : Int) < S[p].toNat) = true := by simpa using h8
  clear h
  go_enter Tryd.func76, Tryd.ntmps76
  go_wp2
  go_quiet (fail)
  go_wp2
  go_quiet (fail)
  go_wp2
  go_quiet (fail)
  go_wp2
  go_ret
  exact ⟨rfl, RAt.set2 (w := World.drewN _ _) H.out, ((Only.refl b w).drewN _).setCell _ _⟩

set_option maxHeartbeats 1600000 in
theorem rlong_b (b : Nat) (S : ByteArray) (p : Nat) (w : World) (h : RAt b S p false w) (hS : S.size ≤ 1099511627776) (hp : p < S.size) (h8 : (S[p].toNat : Int) ≤ 8) (hl : (S.size : Int) - p - 1 < S[p].toNat) :
    Calls Tryd.prog 76 #[.pointer (some ⟨b, 0, none⟩)] w fun e w' => e = .returned (.int .u64 0) ∧ RAt b S p true w' ∧ Only b w w' := by
  have c0 := h.c0
  have c1 := h.c1
  have c2 := h.c2
  have f2 := h.fz 2
  have H := Lib.hid h
  have hd : decide (S.size ≤ p) = false := by simpa using hp
  have hu : S[p].toNat < 256 := S[p].toNat_lt
  have hp0 : (0 : Int) ≤ (p : Int) := by omega
  have hp1 : (p : Int) < (S.size : Int) := by omega
  have k0 := IntWalk.i64_in (S[p].toNat : Int) (by omega)
  have k1 := IntWalk.i64_in ((S.size : Int) - (p : Int)) (by omega)
  have k2 := IntWalk.i64_in ((S.size : Int) - (p : Int) - 1) (by omega)
  have h8' : decide ((8 : Int) < S[p].toNat) = false := by simpa using h8
  have hl' : decide ((S.size : Int) - p - 1 < S[p].toNat) = true := by simpa using hl
  clear h
  go_enter Tryd.func76, Tryd.ntmps76
  go_wp2
  go_quiet (fail)
  go_wp2
  go_quiet (fail)
  go_wp2
  go_quiet (fail)
  go_wp2
  go_ret
  exact ⟨rfl, RAt.set2 (w := World.drewN _ _) H.out, ((Only.refl b w).drewN _).setCell _ _⟩

set_option maxHeartbeats 1600000 in
theorem rlong_c (b : Nat) (S : ByteArray) (p : Nat) (w : World) (h : RAt b S p false w) (hS : S.size ≤ 1099511627776) (hp : p < S.size) (h8 : (S[p].toNat : Int) ≤ 8) (hl : ¬ (S.size : Int) - p - 1 < S[p].toNat) (hk : (0 : Int) < S[p].toNat) (h1 : p + 1 < S.size) (hz : ((S[p + 1].toNat : Int) == 0) = true) :
    Calls Tryd.prog 76 #[.pointer (some ⟨b, 0, none⟩)] w fun e w' => e = .returned (.int .u64 0) ∧ RAt b S p true w' ∧ Only b w w' := by
  have c0 := h.c0
  have c1 := h.c1
  have c2 := h.c2
  have f2 := h.fz 2
  have H := Lib.hid h
  have hd : decide (S.size ≤ p) = false := by simpa using hp
  have hu : S[p].toNat < 256 := S[p].toNat_lt
  have hp0 : (0 : Int) ≤ (p : Int) := by omega
  have hp1 : (p : Int) < (S.size : Int) := by omega
  have k0 := IntWalk.i64_in (S[p].toNat : Int) (by omega)
  have k1 := IntWalk.i64_in ((S.size : Int) - (p : Int)) (by omega)
  have k2 := IntWalk.i64_in ((S.size : Int) - (p : Int) - 1) (by omega)
  have k3 := IntWalk.i64_in ((p : Int) + 1) (by omega)
  have k4 : (0 : Int) ≤ (p : Int) + 1 := by omega
  have k5 : ((p : Int) + 1).toNat = p + 1 := by omega
  have h8' : decide ((8 : Int) < S[p].toNat) = false := by simpa using h8
  have hl' : decide ((S.size : Int) - p - 1 < S[p].toNat) = false := by simpa using hl
  have hk' : decide ((0 : Int) < S[p].toNat) = true := by simpa using hk
  have hk2 : decide (0 < S[p].toNat) = true := by simpa using hk
  have h1' : (p : Int) + 1 < (S.size : Int) := by omega
  clear h
  go_enter Tryd.func76, Tryd.ntmps76
  go_wp2
  go_quiet (fail)
  go_wp2
  go_quiet (fail)
  go_wp2
  go_quiet (fail)
  go_wp2
  go_ret
  exact ⟨rfl, RAt.set2 (w := World.drewN _ _) H.out, ((Only.refl b w).drewN _).setCell _ _⟩

end Go.Proofs.YtlcljjapeigaeaaDoor
/-! ## The document's own scanner: what Long does where there is a number; and in one sentence of all. -/
namespace Go.Proofs.YtlcljjapeigaeaaDoor
open Go.RowKit

theorem drop_step (S : ByteArray) (p j : Nat) (h : p + 1 + j < S.size) : (S.data.toList.drop (p + 1)).take (j + 1) = (S.data.toList.drop (p + 1)).take j ++ [S[p + 1 + j]] := by
  have hl : j < (S.data.toList.drop (p + 1)).length := by rw [drop_len]; omega
  rw [List.take_succ_eq_append_getElem hl]
  congr 2
  rw [List.getElem_drop]
  rfl

theorem u64_in (n : Int) (h0 : 0 ≤ n) (h1 : n ≤ 18446744073709551615) : IntKind.u64.wrap n = n := by
  simp [IntKind.wrap, IntKind.bits, IntKind.signed]; omega

set_option maxHeartbeats 3200000 in
theorem rlong_d (b : Nat) (S : ByteArray) (p k : Nat) (w : World) (h : RAt b S p false w) (hS : S.size ≤ 1099511627776) (hp : p < S.size) (hk : S[p].toNat = k) (h8 : (k : Int) ≤ 8) (hl : ¬ (S.size : Int) - p - 1 < k) (hz : k = 0 ∨ (0 < k ∧ ∃ h1 : p + 1 < S.size, ((S[p + 1].toNat : Int) == 0) = false)) :
    Calls Tryd.prog 76 #[.pointer (some ⟨b, 0, none⟩)] w fun e w' => e = .returned (.int .u64 (Oct.val ((S.data.toList.drop (p + 1)).take k))) ∧ RAt b S (p + 1 + k) false w' ∧ Only b w w' := by
  have c0 := h.c0
  have c1 := h.c1
  have c2 := h.c2
  have f1 := h.fz 1
  have H := Lib.hid h
  have hd : decide (S.size ≤ p) = false := by simpa using hp
  have hp0 : (0 : Int) ≤ (p : Int) := by omega
  have hp1 : (p : Int) < (S.size : Int) := by omega
  have k0 := IntWalk.i64_in (k : Int) (by omega)
  have k1 := IntWalk.i64_in ((S.size : Int) - (p : Int)) (by omega)
  have k2 := IntWalk.i64_in ((S.size : Int) - (p : Int) - 1) (by omega)
  have k3 := IntWalk.i64_in ((p : Int) + 1) (by omega)
  have k4 : (0 : Int) ≤ (p : Int) + 1 := by omega
  have k5 : ((p : Int) + 1).toNat = p + 1 := by omega
  have h8' : decide ((8 : Int) < (k : Int)) = false := by simpa using h8
  have hl' : decide ((S.size : Int) - p - 1 < (k : Int)) = false := by simpa using hl
  clear h
  rcases hz with hz | ⟨hz, h1, hz0⟩
  · have hk1 : decide ((0 : Int) < (k : Int)) = false := by simp [hz]
    have hk2 : decide (0 < k) = false := by simp [hz]
    have HZ := Lib.hid hz
    clear hz
    go_enter Tryd.func76, Tryd.ntmps76
    go_wp2
    go_quiet (fail)
    go_wp2
    go_quiet (fail)
    go_wp2
    go_quiet (fail)
    go_wp2
    go_loopw [4, 5] (fun v x wr => ∃ (i n : Nat), 1 ≤ i ∧ i ≤ k + 1 ∧ Hid (n = Oct.val ((S.data.toList.drop (p + 1)).take (i - 1))) ∧ x = .int .i64 i ∧ v = .int .u64 n ∧ RAt b S p false wr ∧ Only b w wr)
      (fun _ x _ => k + 1 - (intOf x).toNat)
    case atStart => exact ⟨1, 0, by omega, by omega, rfl, rfl, rfl, H.out, (((Only.refl b w).drewN _).drewN _).drewN _⟩
    case round =>
      obtain ⟨i, n, hi1, hi2, hn, rfl, rfl, hR, hO⟩ := hrel
      have d0 := hR.c0
      have d1 := hR.c1
      have g1 := hR.fz 1
      have HR := Lib.hid hR
      clear hR H
      by_cases hlt : i ≤ k
      · have hpi : p + i < S.size := by omega
        obtain ⟨y, hy⟩ : ∃ y : Nat, S[p + i].toNat = y := ⟨_, rfl⟩
        have hyl : y < 256 := by rw [← hy]; exact S[p + i].toNat_lt
        have hN : n < 72057594037927936 := by
          have h1 := Oct.val_lt (i - 1) ((S.data.toList.drop (p + 1)).take (i - 1)) (by rw [List.length_take, drop_len]; omega)
          have h2 : 256 ^ (i - 1) ≤ 256 ^ 7 := Nat.pow_le_pow_right (by decide) (by omega)
          have := hn.out
          omega
        have hn' : Hid (n * 256 + y = Oct.val ((S.data.toList.drop (p + 1)).take (i + 1 - 1))) := by
          have hpj : p + 1 + (i - 1) < S.size := by omega
          have ey : S[p + 1 + (i - 1)].toNat = y := by
            rw [← hy]; congr 2; omega
          show _ = _
          rw [show i + 1 - 1 = (i - 1) + 1 by omega, drop_step S p (i - 1) hpj, Oct.val_snoc, ← hn.out, ey]
        have hpi0 : (0 : Int) ≤ (p : Int) + (i : Int) := by omega
        have hpi1 : (p : Int) + (i : Int) < (S.size : Int) := by omega
        have hpi2 : ((p : Int) + (i : Int)).toNat = p + i := by omega
        have q1 := IntWalk.i64_in ((p : Int) + (i : Int)) (by omega)
        have q2 := u64_in ((n : Int) * 256) (by omega) (by omega)
        have q3 := u64_in ((n : Int) * 256 + (y : Int)) (by omega) (by omega)
        have q4 := u64_in (y : Int) (by omega) (by omega)
        go_wp2
        go_quiet (fail)
        go_wp2
        go_roundw
        case rel => exact ⟨i + 1, n * 256 + y, by omega, by omega, hn', by go_num, by go_num, HR.out, hO.drewN _⟩
        case measure => simp [intOf]; omega
      · obtain rfl : k = i - 1 := by omega
        go_wp2
        go_ret
        have e : (p : Int) + 1 + ((i - 1 : Nat) : Int) = ((p + 1 + (i - 1) : Nat) : Int) := by omega
        refine ⟨ret_int (by rw [hn.out]), ?_, hO.setCell _ _⟩
        rw [e]
        exact HR.out.set1 _
  · have hk1 : decide ((0 : Int) < (k : Int)) = true := by simpa using hz
    have hk2 : decide (0 < k) = true := by simpa using hz
    have h1' : (p : Int) + 1 < (S.size : Int) := by omega
    go_enter Tryd.func76, Tryd.ntmps76
    go_wp2
    go_quiet (fail)
    go_wp2
    go_quiet (fail)
    go_wp2
    go_quiet (fail)
    go_wp2
    go_loopw [4, 5] (fun v x wr => ∃ (i n : Nat), 1 ≤ i ∧ i ≤ k + 1 ∧ Hid (n = Oct.val ((S.data.toList.drop (p + 1)).take (i - 1))) ∧ x = .int .i64 i ∧ v = .int .u64 n ∧ RAt b S p false wr ∧ Only b w wr)
      (fun _ x _ => k + 1 - (intOf x).toNat)
    case atStart => exact ⟨1, 0, by omega, by omega, rfl, rfl, rfl, H.out, (((Only.refl b w).drewN _).drewN _).drewN _⟩
    case round =>
      obtain ⟨i, n, hi1, hi2, hn, rfl, rfl, hR, hO⟩ := hrel
      have d0 := hR.c0
      have d1 := hR.c1
      have g1 := hR.fz 1
      have HR := Lib.hid hR
      clear hR H
      by_cases hlt : i ≤ k
      · have hpi : p + i < S.size := by omega
        obtain ⟨y, hy⟩ : ∃ y : Nat, S[p + i].toNat = y := ⟨_, rfl⟩
        have hyl : y < 256 := by rw [← hy]; exact S[p + i].toNat_lt
        have hN : n < 72057594037927936 := by
          have h1 := Oct.val_lt (i - 1) ((S.data.toList.drop (p + 1)).take (i - 1)) (by rw [List.length_take, drop_len]; omega)
          have h2 : 256 ^ (i - 1) ≤ 256 ^ 7 := Nat.pow_le_pow_right (by decide) (by omega)
          have := hn.out
          omega
        have hn' : Hid (n * 256 + y = Oct.val ((S.data.toList.drop (p + 1)).take (i + 1 - 1))) := by
          have hpj : p + 1 + (i - 1) < S.size := by omega
          have ey : S[p + 1 + (i - 1)].toNat = y := by
            rw [← hy]; congr 2; omega
          show _ = _
          rw [show i + 1 - 1 = (i - 1) + 1 by omega, drop_step S p (i - 1) hpj, Oct.val_snoc, ← hn.out, ey]
        have hpi0 : (0 : Int) ≤ (p : Int) + (i : Int) := by omega
        have hpi1 : (p : Int) + (i : Int) < (S.size : Int) := by omega
        have hpi2 : ((p : Int) + (i : Int)).toNat = p + i := by omega
        have q1 := IntWalk.i64_in ((p : Int) + (i : Int)) (by omega)
        have q2 := u64_in ((n : Int) * 256) (by omega) (by omega)
        have q3 := u64_in ((n : Int) * 256 + (y : Int)) (by omega) (by omega)
        have q4 := u64_in (y : Int) (by omega) (by omega)
        go_wp2
        go_quiet (fail)
        go_wp2
        go_roundw
        case rel => exact ⟨i + 1, n * 256 + y, by omega, by omega, hn', by go_num, by go_num, HR.out, hO.drewN _⟩
        case measure => simp [intOf]; omega
      · obtain rfl : k = i - 1 := by omega
        go_wp2
        go_ret
        have e : (p : Int) + 1 + ((i - 1 : Nat) : Int) = ((p + 1 + (i - 1) : Nat) : Int) := by omega
        refine ⟨ret_int (by rw [hn.out]), ?_, hO.setCell _ _⟩
        rw [e]
        exact HR.out.set1 _

/-- WHAT THE DOCUMENT's Long DOES, of every scanner. -/
theorem rlong_any (b : Nat) (S : ByteArray) (st : Option (List UInt8)) (w : World) (hS : S.size ≤ 1099511627776) (h : RScn b S st w) :
    Calls Tryd.prog 76 #[.pointer (some ⟨b, 0, none⟩)] w fun e w' => e = .returned (.int .u64 (longV st)) ∧ RScn b S (longS st) w' ∧ Only b w w' := by
  obtain ⟨p, bad, hp, hR, hst⟩ := h
  cases bad with
  | true =>
    simp at hst
    subst hst
    exact (rlong_bad b S p w hR).mono fun e w' ⟨he, h1, h2⟩ => ⟨he, ⟨p, true, hp, h1, rfl⟩, h2⟩
  | false =>
    simp at hst
    subst hst
    have fails : Oct.num? (S.data.toList.drop p) = none → (Calls Tryd.prog 76 #[.pointer (some ⟨b, 0, none⟩)] w fun e w' => e = .returned (.int .u64 0) ∧ RAt b S p true w' ∧ Only b w w') →
        Calls Tryd.prog 76 #[.pointer (some ⟨b, 0, none⟩)] w fun e w' => e = .returned (.int .u64 (longV (some (S.data.toList.drop p)))) ∧ RScn b S (longS (some (S.data.toList.drop p))) w' ∧ Only b w w' := fun hn hc =>
      hc.mono fun e w' ⟨he, h1, h2⟩ => ⟨by simp [longV, hn, he], ⟨p, true, hp, h1, by simp [longS, hn]⟩, h2⟩
    by_cases hlt : p < S.size
    · have hn := num_at S p hlt
      by_cases hA : 8 < S[p].toNat
      · exact fails (by rw [hn, if_pos (Or.inl hA)]) (rlong_a b S p w hR hS hlt (by omega))
      · by_cases hB : S.size - (p + 1) < S[p].toNat
        · exact fails (by rw [hn, if_pos (Or.inr (Or.inl hB))]) (rlong_b b S p w hR hS hlt (by omega) (by omega))
        · by_cases hC : 0 < S[p].toNat ∧ (S.data.toList.drop (p + 1)).headD 0 = 0
          · have h1 : p + 1 < S.size := by omega
            have hz := hC.2
            rw [drop_head S p h1] at hz
            exact fails (by rw [hn, if_pos (Or.inr (Or.inr hC))]) (rlong_c b S p w hR hS hlt (by omega) (by omega) (by omega) h1 (by rw [hz]; rfl))
          · have hn' : Oct.num? (S.data.toList.drop p) = some (Oct.val ((S.data.toList.drop (p + 1)).take S[p].toNat), 1 + S[p].toNat) := by
              rw [hn, if_neg]; rintro (h | h | h)
              · exact hA h
              · exact hB h
              · exact hC h
            refine (rlong_d b S p _ w hR hS hlt rfl (by omega) (by omega) ?_).mono fun e w' ⟨he, h1, h2⟩ => ⟨by simp [longV, hn', he], ⟨p + 1 + S[p].toNat, false, by omega, h1, ?_⟩, h2⟩
            · by_cases h0 : 0 < S[p].toNat
              · right
                have h1 : p + 1 < S.size := by omega
                refine ⟨h0, h1, ?_⟩
                rw [beq_eq_false_iff_ne]
                intro e
                refine hC ⟨h0, ?_⟩
                rw [drop_head S p h1]
                apply UInt8.toNat_inj.1
                simpa using e
              · left; omega
            · simp [longS, hn']; omega
    · exact fails (num_end S p (by omega)) (rlong_end b S p w hR hS (by omega) (by omega))

end Go.Proofs.YtlcljjapeigaeaaDoor
/-! ## The document's own scanner: what Num, Left, End and Text do. -/
namespace Go.Proofs.YtlcljjapeigaeaaDoor
open Go.RowKit

theorem RScn.isNone {b : Nat} {S : ByteArray} {w : World} (h : RScn b S none w) : ∃ p, p ≤ S.size ∧ RAt b S p true w := by
  obtain ⟨p, bad, hp, hR, hs⟩ := h
  cases bad with
  | true => exact ⟨p, hp, hR⟩
  | false => simp at hs
theorem RScn.isSome {b : Nat} {S : ByteArray} {l : List UInt8} {w : World} (h : RScn b S (some l) w) : ∃ p, p ≤ S.size ∧ l = S.data.toList.drop p ∧ RAt b S p false w := by
  obtain ⟨p, bad, hp, hR, hs⟩ := h
  cases bad with
  | true => simp at hs
  | false => simp at hs; exact ⟨p, hp, hs, hR⟩
theorem RAt.spoilt {b : Nat} {S : ByteArray} {p : Nat} {w : World} (h : RAt b S p true w) (hp : p ≤ S.size) : RScn b S none w := ⟨p, true, hp, h, rfl⟩
theorem RAt.sound {b : Nat} {S : ByteArray} {p : Nat} {w : World} (h : RAt b S p false w) (hp : p ≤ S.size) : RScn b S (some (S.data.toList.drop p)) w := ⟨p, false, hp, h, rfl⟩
/-- Whatever the state is: a place, and a mark. -/
theorem RScn.at {b : Nat} {S : ByteArray} {st : Option (List UInt8)} {w : World} (h : RScn b S st w) : ∃ p bad, p ≤ S.size ∧ RAt b S p bad w := by
  obtain ⟨p, bad, hp, hR, _⟩ := h
  exact ⟨p, bad, hp, hR⟩

set_option maxHeartbeats 800000 in
theorem rnum_bad (b : Nat) (S : ByteArray) (st : Option (List UInt8)) (most : Int) (w : World) (hS : S.size ≤ 1099511627776) (h : RScn b S st w) (m1 : -9223372036854775808 ≤ most) (m2 : most ≤ 9223372036854775807) (hm : most < 0 ∨ most < longV st) :
    Calls Tryd.prog 56 #[.pointer (some ⟨b, 0, none⟩), .int .i64 most] w fun e w' => e = .returned (.int .i64 0) ∧ RScn b S none w' ∧ Only b w w' := by
  have hlt := longV_lt st
  have HL := Lib.hid (rlong_any b S st w hS h)
  clear h
  by_cases h0 : most < 0
  · clear hm
    go_enter Tryd.func56, Tryd.ntmps56
    go_wp2_with (go_at_call 76; refine HL.out.mono ?_; rintro e w1 ⟨rfl, h1, o1⟩; obtain ⟨p, bad, hp, hR⟩ := h1.at; have c2 := hR.c2; have f2 := hR.fz 2; have HR := Lib.hid hR; clear hR h1)
    go_ret
    exact ⟨rfl, HR.out.set2.spoilt hp, o1.setCell _ _⟩
  · have hx : most < longV st := by omega
    clear hm
    go_enter Tryd.func56, Tryd.ntmps56
    go_wp2_with (go_at_call 76; refine HL.out.mono ?_; rintro e w1 ⟨rfl, h1, o1⟩; obtain ⟨p, bad, hp, hR⟩ := h1.at; have c2 := hR.c2; have f2 := hR.fz 2; have HR := Lib.hid hR; clear hR h1)
    go_ret
    exact ⟨rfl, HR.out.set2.spoilt hp, o1.setCell _ _⟩

set_option maxHeartbeats 800000 in
theorem rnum_none (b : Nat) (S : ByteArray) (st : Option (List UInt8)) (most : Int) (w : World) (hS : S.size ≤ 1099511627776) (h : RScn b S st w) (m2 : most ≤ 9223372036854775807) (hm : 0 ≤ most) (hs : longS st = none) :
    Calls Tryd.prog 56 #[.pointer (some ⟨b, 0, none⟩), .int .i64 most] w fun e w' => e = .returned (.int .i64 0) ∧ RScn b S none w' ∧ Only b w w' := by
  have hL := rlong_any b S st w hS h
  rw [hs, long_none_zero st hs] at hL
  have HL := Lib.hid hL
  clear h hL hs
  go_enter Tryd.func56, Tryd.ntmps56
  go_wp2_with (go_at_call 76; refine HL.out.mono ?_; rintro e w1 ⟨rfl, h1, o1⟩; obtain ⟨p, hp, hR⟩ := h1.isNone; have c2 := hR.c2; have HR := Lib.hid hR; clear hR h1)
  go_ret
  exact ⟨rfl, HR.out.spoilt hp, o1⟩

set_option maxHeartbeats 800000 in
theorem rnum_some (b : Nat) (S : ByteArray) (st : Option (List UInt8)) (l : List UInt8) (most : Int) (w : World) (hS : S.size ≤ 1099511627776) (h : RScn b S st w) (m2 : most ≤ 9223372036854775807) (hm : 0 ≤ most) (hx : (longV st : Int) ≤ most) (hs : longS st = some l) :
    Calls Tryd.prog 56 #[.pointer (some ⟨b, 0, none⟩), .int .i64 most] w fun e w' => e = .returned (.int .i64 (longV st)) ∧ RScn b S (some l) w' ∧ Only b w w' := by
  have hL := rlong_any b S st w hS h
  rw [hs] at hL
  have HL := Lib.hid hL
  clear h hL hs
  go_enter Tryd.func56, Tryd.ntmps56
  go_wp2_with (go_at_call 76; refine HL.out.mono ?_; rintro e w1 ⟨rfl, h1, o1⟩; obtain ⟨p, hp, hl, hR⟩ := h1.isSome; have c2 := hR.c2; have HR := Lib.hid h1; clear hl hR h1)
  go_ret
  exact ⟨rfl, HR.out, o1⟩

/-- WHAT THE DOCUMENT's Num DOES. -/
theorem rnum_any (b : Nat) (S : ByteArray) (st : Option (List UInt8)) (most : Int) (w : World) (hS : S.size ≤ 1099511627776) (h : RScn b S st w) (m1 : -9223372036854775808 ≤ most) (m2 : most ≤ 9223372036854775807) :
    Calls Tryd.prog 56 #[.pointer (some ⟨b, 0, none⟩), .int .i64 most] w fun e w' => e = .returned (.int .i64 (numV st most)) ∧ RScn b S (numS st most) w' ∧ Only b w w' := by
  by_cases hm : most < 0 ∨ most < longV st
  · have e1 : numV st most = 0 := if_pos hm
    have e2 : numS st most = none := if_pos hm
    rw [e1, e2]; exact rnum_bad b S st most w hS h m1 m2 hm
  · have e1 : numV st most = longV st := if_neg hm
    have e2 : numS st most = longS st := if_neg hm
    rw [e1, e2]
    cases hs : longS st with
    | none => rw [long_none_zero st hs]; exact rnum_none b S st most w hS h m2 (by omega) hs
    | some l => exact rnum_some b S st l most w hS h m2 (by omega) (by omega) hs


theorem rend_any (b : Nat) (S : ByteArray) (st : Option (List UInt8)) (w : World) (_hS : S.size ≤ 1099511627776) (h : RScn b S st w) :
    Calls Tryd.prog 58 #[.pointer (some ⟨b, 0, none⟩)] w fun e w' => e = .returned (.int .i64 (endV st)) ∧ ∃ n, w' = w.drewN n := by
  cases st with
  | none =>
    obtain ⟨p, hp, hR⟩ := h.isNone
    have c2 := hR.c2
    clear hR h
    go_enter Tryd.func58, Tryd.ntmps58
    go_wp2
    go_quiet (fail)
    go_wp2
    go_ret
    exact ⟨rfl, _, rfl⟩
  | some l =>
    obtain ⟨p, hp, hl, hR⟩ := h.isSome
    have c0 := hR.c0
    have c1 := hR.c1
    have c2 := hR.c2
    have hlen : l.length = S.size - p := by rw [hl]; exact drop_len S p
    clear hR h hl
    by_cases hlt : p < S.size
    · have hv : endV (some l) = 10 := if_neg (by intro e; simp at e; rw [e] at hlen; simp at hlen; omega)
      have hd : decide (p < S.size) = true := by simpa using hlt
      rw [hv]
      clear hlen hv
      go_enter Tryd.func58, Tryd.ntmps58
      go_wp2
      go_quiet (fail)
      go_wp2
      go_ret
      exact ⟨rfl, _, rfl⟩
    · have hv : endV (some l) = 0 := if_pos (by rw [List.eq_nil_of_length_eq_zero (l := l) (by omega)])
      have hd : decide (p < S.size) = false := by simpa using hlt
      rw [hv]
      clear hlen hv
      go_enter Tryd.func58, Tryd.ntmps58
      go_wp2
      go_quiet (fail)
      go_wp2
      go_ret
      exact ⟨rfl, _, rfl⟩

theorem RScn.c2 {b : Nat} {S : ByteArray} {st : Option (List UInt8)} {w : World} (h : RScn b S st w) : w.cell? ⟨b, 2, none⟩ = some (.bool st.isNone) := by
  obtain ⟨p, bad, _, hR, hs⟩ := h
  rw [hR.c2, hs]
  cases bad <;> rfl
theorem RScn.len {b : Nat} {S : ByteArray} {st : Option (List UInt8)} {w : World} (h : RScn b S st w) : (st.getD []).length ≤ S.size := by
  obtain ⟨p, bad, _, _, hs⟩ := h
  rw [hs]; cases bad <;> simp
theorem RScn.alloc (S : ByteArray) (w : World) : RScn w.heap.size S (some S.data.toList) (w.alloc (.cells #[.string S, .int .i64 0, .bool false] 97)) := by
  refine ⟨0, false, Nat.zero_le _, ?_, by simp⟩
  show (w.heap.push _)[w.heap.size]? = _
  simp

end Go.Proofs.YtlcljjapeigaeaaDoor
/-! ## The document's own scanner: what Text and List do. -/
namespace Go.Proofs.YtlcljjapeigaeaaDoor
open Go.RowKit

theorem ret_str' {a b : ByteArray} (h : a = b) : Ending.returned (.string a) = .returned (.string b) := by rw [h]

set_option maxHeartbeats 1600000 in
theorem rtext_spoilt (b : Nat) (S : ByteArray) (st : Option (List UInt8)) (most : Int) (w : World) (hS : S.size ≤ 1099511627776) (h : RScn b S st w) (m1 : -9223372036854775808 ≤ most) (m2 : most ≤ 9223372036854775807) (hs : numS st most = none) :
    Calls Tryd.prog 59 #[.pointer (some ⟨b, 0, none⟩), .int .i64 most] w fun e w' => e = .returned (.string ⟨#[]⟩) ∧ RScn b S none w' ∧ Only b w w' := by
  have hN := rnum_any b S st most w hS h m1 m2
  rw [hs, num_none_zero st most hs] at hN
  have HN := Lib.hid hN
  clear hN hs h
  go_enter Tryd.func59, Tryd.ntmps59
  go_wp2_with (go_at_call 56; refine HN.out.mono ?_; rintro e w1 ⟨rfl, h1, o1⟩; obtain ⟨p, hp, hR⟩ := h1.isNone; have c2 := hR.c2; have f2 := hR.fz 2; have HR := Lib.hid hR; clear hR h1)
  go_quiet (fail)
  go_wp2
  go_ret
  exact ⟨rfl, (RAt.set2 (w := World.drewN _ _) HR.out).spoilt hp, (o1.drewN _).setCell _ _⟩

set_option maxHeartbeats 1600000 in
theorem rtext_short (b : Nat) (S : ByteArray) (st : Option (List UInt8)) (l : List UInt8) (n : Nat) (most : Int) (w : World) (hS : S.size ≤ 1099511627776) (h : RScn b S st w) (m1 : -9223372036854775808 ≤ most) (m2 : most ≤ 9223372036854775807) (hs : numS st most = some l) (hv : numV st most = n) (hl : l.length < n) :
    Calls Tryd.prog 59 #[.pointer (some ⟨b, 0, none⟩), .int .i64 most] w fun e w' => e = .returned (.string ⟨#[]⟩) ∧ RScn b S none w' ∧ Only b w w' := by
  have hN := rnum_any b S st most w hS h m1 m2
  rw [hs, hv] at hN
  have HN : Hid (Calls Tryd.prog 56 #[.pointer (some ⟨b, 0, none⟩), .int .i64 most] w fun e w' => e = .returned (.int .i64 n) ∧ (∃ p, p ≤ S.size ∧ l.length = S.size - p ∧ RAt b S p false w') ∧ Only b w w') :=
    hN.mono fun e w' ⟨he, h1, o1⟩ => ⟨he, by obtain ⟨p, hp, hl, hR⟩ := h1.isSome; exact ⟨p, hp, by rw [hl]; exact drop_len S p, hR⟩, o1⟩
  clear hN hs h hv
  go_enter Tryd.func59, Tryd.ntmps59
  go_wp2_with (go_at_call 56; refine HN.out.mono ?_; rintro e w1 ⟨rfl, ⟨p, hp, hlen, hR⟩, o1⟩; have c0 := hR.c0; have c1 := hR.c1; have c2 := hR.c2; have f2 := hR.fz 2; have k1 := IntWalk.i64_in ((S.size : Int) - (p : Int)) (by omega); have hd : decide ((S.size : Int) - (p : Int) < (n : Int)) = true := (by simp; omega); have HR := Lib.hid hR; have HL := Lib.hid hlen; clear hR hlen)
  go_quiet (fail)
  go_wp2
  go_ret
  exact ⟨rfl, (RAt.set2 (w := World.drewN _ _) HR.out).spoilt hp, (o1.drewN _).setCell _ _⟩

theorem take_drop_text (S : ByteArray) (p n : Nat) : S.extract p (p + n) = ⟨((S.data.toList.drop p).take n).toArray⟩ := by
  rw [Lib.extract_eq, show p + n - p = n by omega]

set_option maxHeartbeats 1600000 in
theorem rtext_ok (b : Nat) (S : ByteArray) (st : Option (List UInt8)) (l : List UInt8) (n : Nat) (most : Int) (w : World) (hS : S.size ≤ 1099511627776) (h : RScn b S st w) (m1 : -9223372036854775808 ≤ most) (m2 : most ≤ 9223372036854775807) (hs : numS st most = some l) (hv : numV st most = n) (hl : n ≤ l.length) :
    Calls Tryd.prog 59 #[.pointer (some ⟨b, 0, none⟩), .int .i64 most] w fun e w' => e = .returned (.string ⟨(l.take n).toArray⟩) ∧ RScn b S (some (l.drop n)) w' ∧ Only b w w' := by
  have hN := rnum_any b S st most w hS h m1 m2
  rw [hs, hv] at hN
  have HN : Hid (Calls Tryd.prog 56 #[.pointer (some ⟨b, 0, none⟩), .int .i64 most] w fun e w' => e = .returned (.int .i64 n) ∧ (∃ p, p ≤ S.size ∧ l = S.data.toList.drop p ∧ RAt b S p false w') ∧ Only b w w') :=
    hN.mono fun e w' ⟨he, h1, o1⟩ => ⟨he, h1.isSome, o1⟩
  clear hN hs h hv
  go_enter Tryd.func59, Tryd.ntmps59
  go_wp2_with (go_at_call 56; refine HN.out.mono ?_; rintro e w1 ⟨rfl, ⟨p, hp, hll, hR⟩, o1⟩; have hlen : l.length = S.size - p := (by rw [hll]; exact drop_len S p); have c0 := hR.c0; have c1 := hR.c1; have c2 := hR.c2; have f1 := hR.fz 1; have k1 := IntWalk.i64_in ((S.size : Int) - (p : Int)) (by omega); have hd : decide ((S.size : Int) - (p : Int) < (n : Int)) = false := (by simp; omega); have k2 := IntWalk.i64_in ((p : Int) + (n : Int)) (by omega); have k3 : (0 : Int) ≤ (p : Int) := (by omega); have k4 : (p : Int) ≤ (p : Int) + (n : Int) := (by omega); have k5 : (p : Int) + (n : Int) ≤ (S.size : Int) := (by omega); have k6 : ((p : Int) + (n : Int)).toNat = p + n := (by omega); have k7 : p + n ≤ S.size := (by omega); have HR := Lib.hid hR; have HL := Lib.hid hll; clear hR hlen hll)
  go_quiet (fail)
  go_wp2
  go_quiet (fail)
  go_wp2
  go_ret
  refine ⟨ret_str' (by rw [take_drop_text, ← HL.out]), ?_, (o1.drewN _).setCell _ _⟩
  have e : (p : Int) + (n : Int) = ((p + n : Nat) : Int) := by omega
  have e2 : l.drop n = S.data.toList.drop (p + n) := by rw [HL.out, List.drop_drop]
  rw [e, e2]
  exact (RAt.set1 (w := World.drewN _ _) HR.out (p + n)).sound k7

/-- WHAT THE DOCUMENT's Text DOES. -/
theorem rtext_any (b : Nat) (S : ByteArray) (st : Option (List UInt8)) (most : Int) (w : World) (hS : S.size ≤ 1099511627776) (h : RScn b S st w) (m1 : -9223372036854775808 ≤ most) (m2 : most ≤ 9223372036854775807) :
    Calls Tryd.prog 59 #[.pointer (some ⟨b, 0, none⟩), .int .i64 most] w fun e w' => e = .returned (.string ⟨(textV st most).toArray⟩) ∧ RScn b S (textS st most) w' ∧ Only b w w' := by
  cases hs : numS st most with
  | none =>
    have e1 : textV st most = [] := by unfold textV; rw [hs, num_none_zero st most hs]; rfl
    have e2 : textS st most = none := by unfold textS; rw [hs]; rfl
    rw [e1, e2]; exact rtext_spoilt b S st most w hS h m1 m2 hs
  | some l =>
    by_cases hl : l.length < numV st most
    · have e1 : textV st most = [] := by unfold textV; rw [hs, Option.getD_some, if_pos hl]
      have e2 : textS st most = none := by unfold textS; rw [hs, Option.bind_some, if_pos hl]
      rw [e1, e2]; exact rtext_short b S st l _ most w hS h m1 m2 hs rfl hl
    · have e1 : textV st most = l.take (numV st most) := by unfold textV; rw [hs, Option.getD_some, if_neg hl]
      have e2 : textS st most = some (l.drop (numV st most)) := by unfold textS; rw [hs, Option.bind_some, if_neg hl]
      rw [e1, e2]; exact rtext_ok b S st l _ most w hS h m1 m2 hs rfl (by omega)

end Go.Proofs.YtlcljjapeigaeaaDoor
