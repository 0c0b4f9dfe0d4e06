/-
  Several texts in one (OctPure, OctShelf, OctPut, OctNum, OctScan, OctLong, OctLess, OctBack, OctText, OctRead, OctRef, OctRScan, OctRLong, OctRText, OctRTxt).
-/
import Derived.Lib.BitFns
import Derived.Lib.ItoaNum
import Derived.Lib.UnsafeStr
import Derived.Lib.Strings
import Derived.Laws.BitsAllLaws
import Derived.Shelf.Strings.Builder1
import Derived.Shelf.Strings.BuilderF
import Derived.Shelf.Strings.BuilderK
import Derived.Shelf.Strconv.Itoa0
import Derived.Test.YtollcdalokhjaaaDoorProg
import Derived.Test.YtollcdalokhjaaaDoorMGen
import Derived.WalkKit
import Derived.WalkLawsBesides
import Derived.WalkSpells
import Derived.Maps.AppendAt
import Derived.Laws.IdiomStrings
import Derived.Lib.Hide
import Derived.Deep.QuietTactic
import Derived.BigQuiet
/-! ## Plain mathematics of package octet: numbers as bytes, the greatest first. No walk, no program. -/
namespace Go.Proofs.YtollcdalokhjaaaDoor.Oct
open Go

/-- The last k bytes of n, the greatest first. -/
def be (n : Nat) : Nat → List UInt8
  | 0 => []
  | k + 1 => UInt8.ofNat (n / 256 ^ k) :: be n k
/-- How many bytes n needs. -/
def need (n : Nat) : Nat := (Lib.bitLen n + 7) / 8
/-- What Put tells of n. -/
def putL (n : Nat) : List UInt8 := UInt8.ofNat (need n) :: be n (need n)
def putB (n : Nat) : ByteArray := ⟨(putL n).toArray⟩

theorem be_length (n k : Nat) : (be n k).length = k := by
  induction k with
  | zero => rfl
  | succ k ih => simp [be, ih]

theorem pow_256 (k : Nat) : (256 : Nat) ^ k = 2 ^ (8 * k) := by rw [Nat.pow_mul]

theorem bit_bounds (n : Nat) (h : n < 18446744073709551616) (h0 : n ≠ 0) : 1 ≤ Lib.bitLen n ∧ 2 ^ (Lib.bitLen n - 1) ≤ n ∧ n < 2 ^ Lib.bitLen n :=
  Lib.bitLenAux_bounds 64 n h h0

theorem bitLen_zero : Lib.bitLen 0 = 0 := by decide
theorem need_zero : need 0 = 0 := by decide
theorem bitLen_le64 (n : Nat) (h : n < 18446744073709551616) : Lib.bitLen n ≤ 64 := Lib.bitLen_le n 64 (Nat.le_refl _) h
theorem need_le (n : Nat) (h : n < 18446744073709551616) : need n ≤ 8 := by
  have := bitLen_le64 n h
  unfold need; omega

theorem lt_need (n : Nat) (h : n < 18446744073709551616) : n < 256 ^ need n := by
  by_cases h0 : n = 0
  · subst h0; rw [need_zero]; decide
  · obtain ⟨_, _, h3⟩ := bit_bounds n h h0
    refine Nat.lt_of_lt_of_le h3 ?_
    rw [pow_256]
    exact Nat.pow_le_pow_right (by decide) (by unfold need; omega)

theorem need_pos (n : Nat) (h : n < 18446744073709551616) (h0 : n ≠ 0) : 1 ≤ need n := by
  obtain ⟨h1, _, _⟩ := bit_bounds n h h0
  unfold need; omega

theorem le_need (n : Nat) (h : n < 18446744073709551616) (h0 : n ≠ 0) : 256 ^ (need n - 1) ≤ n := by
  obtain ⟨h1, h2, _⟩ := bit_bounds n h h0
  refine Nat.le_trans ?_ h2
  rw [pow_256]
  exact Nat.pow_le_pow_right (by decide) (by unfold need; omega)

theorem putL_length (n : Nat) : (putL n).length = 1 + need n := by simp [putL, be_length]; omega
theorem putB_size (n : Nat) : (putB n).size = 1 + need n := by
  show (putL n).toArray.size = _
  rw [List.size_toArray, putL_length]

theorem be_get (n : Nat) : ∀ (m k : Nat), k < m → (be n m)[k]? = some (UInt8.ofNat (n / 256 ^ (m - 1 - k)))
  | 0, k, h => by omega
  | m + 1, 0, _ => by simp [be]
  | m + 1, k + 1, h => by
    have e : m + 1 - 1 - (k + 1) = m - 1 - k := by omega
    rw [e, be, List.getElem?_cons_succ]
    exact be_get n m k (by omega)

theorem putL_take1 (n : Nat) (h : n < 18446744073709551616) : Lib.byteCells ((putL n).take 1) = [.int .u8 (need n : Int)] := by
  have := need_le n h
  simp [putL, Lib.byteCells]
  omega

theorem putL_step (n k : Nat) (hk : k < need n) :
    Lib.byteCells ((putL n).take (1 + k + 1)) = Lib.byteCells ((putL n).take (1 + k)) ++ [.int .u8 ((n : Int) / 2 ^ (8 * (need n - 1 - k)) % 256)] := by
  have hg : (putL n)[1 + k]? = some (UInt8.ofNat (n / 256 ^ (need n - 1 - k))) := by
    rw [Nat.add_comm 1 k, putL, List.getElem?_cons_succ]
    exact be_get n _ _ hk
  have hl : 1 + k < (putL n).length := by rw [putL_length]; omega
  rw [List.take_succ_eq_append_getElem hl]
  have hv := (List.getElem?_eq_some_iff.1 hg).2
  rw [hv]
  simp [Lib.byteCells, pow_256]

/-- The number that bytes are, the greatest first. -/
def val (l : List UInt8) : Nat := l.foldl (fun n b => n * 256 + b.toNat) 0

theorem val_snoc (l : List UInt8) (b : UInt8) : val (l ++ [b]) = val l * 256 + b.toNat := by simp [val]

theorem val_lt : ∀ (k : Nat) (l : List UInt8), l.length = k → val l < 256 ^ k
  | 0, l, h => by have : l = [] := List.eq_nil_of_length_eq_zero h; subst this; decide
  | k + 1, l, h => by
    have hne : l ≠ [] := by intro e; subst e; simp at h
    have e := List.dropLast_concat_getLast hne
    rw [← e, val_snoc, Nat.pow_succ]
    have ih := val_lt k l.dropLast (by simp [h])
    have := (l.getLast hne).toNat_lt
    omega

/-- What stands at the beginning of l: a number, and how many bytes it has; none, if the first byte is above 8, bytes are missing, or the first one of the number's is 0. -/
def num? (l : List UInt8) : Option (Nat × Nat) :=
  match l with
  | [] => none
  | b :: r => if 8 < b.toNat ∨ r.length < b.toNat ∨ (0 < b.toNat ∧ r.headD 0 = 0) then none else some (val (r.take b.toNat), 1 + b.toNat)

theorem or_byte (n b : Nat) (hn : n < 72057594037927936) (hb : b < 256) : Go.bits .or .u64 ((n : Int) * 256) (b : Int) = ((n * 256 + b : Nat) : Int) := by
  have e : ((n : Int) * 256) = ((n * 256 : Nat) : Int) := by simp
  rw [e, u64_or_nat _ _ (by omega) (by omega)]
  congr 1
  have := Nat.two_pow_add_eq_or_of_lt (i := 8) (b := b) hb n
  rw [Nat.mul_comm n 256]
  exact this.symm

theorem get_data (s : ByteArray) (i : Nat) (h : i < s.size) : s.data.toList[i]? = some s[i] := by
  rw [List.getElem?_eq_some_iff]
  exact ⟨by rw [← Lib.size_eq]; exact h, rfl⟩

/-- A text that is not empty, its bytes taken apart. -/
theorem cons_data (s : ByteArray) (h : 0 < s.size) : s.data.toList = s[0] :: s.data.toList.drop 1 := by
  have := get_data s 0 h
  cases hl : s.data.toList with
  | nil => rw [hl] at this; cases this
  | cons b r => rw [hl] at this; simp at this; simp [this]

theorem tail_step (s : ByteArray) (k : Nat) (h : 1 + k < s.size) : (s.data.toList.drop 1).take (k + 1) = (s.data.toList.drop 1).take k ++ [s[1 + k]] := by
  have hl : k < (s.data.toList.drop 1).length := by rw [List.length_drop, ← Lib.size_eq]; omega
  rw [List.take_succ_eq_append_getElem hl]
  congr 2
  rw [List.getElem_drop]
  rfl

theorem tail_length (s : ByteArray) : (s.data.toList.drop 1).length = s.size - 1 := by rw [List.length_drop, ← Lib.size_eq]

theorem tail_head (s : ByteArray) (h : 1 < s.size) : (s.data.toList.drop 1).headD 0 = s[1] := by
  have e := tail_step s 0 (by omega)
  cases hd : s.data.toList.drop 1 with
  | nil => rw [hd] at e; simp at e
  | cons b r => rw [hd] at e; simp at e; simp [e]

theorem num_empty (s : ByteArray) (h : s.size = 0) : num? s.data.toList = none := by
  have : s.data.toList = [] := List.eq_nil_of_length_eq_zero (by rw [← Lib.size_eq]; exact h)
  rw [this]; rfl

theorem num_eq (s : ByteArray) (h : 0 < s.size) : num? s.data.toList =
    if 8 < s[0].toNat ∨ s.size - 1 < s[0].toNat ∨ (0 < s[0].toNat ∧ (s.data.toList.drop 1).headD 0 = 0) then none else some (val ((s.data.toList.drop 1).take s[0].toNat), 1 + s[0].toNat) := by
  have e := cons_data s h
  rw [e]
  simp only [num?]
  rw [tail_length, ← e]

end Go.Proofs.YtollcdalokhjaaaDoor.Oct
/-! ## The library's contracts (bits.Len64, strings.Builder's WriteString and String) laid at this program: no walk; the kernel compares each body with the one that the contract was proved of. -/
namespace Go.Proofs.YtollcdalokhjaaaDoor
open Go.Shelf Go.RowKit
def lays129_ren : Go.Shelf.Ren := ⟨fun | 129 => 101 | n => n, fun | 53 => 108 | 3 => 3 | 4 => 4 | 46 => 109 | 5 => 5 | 9 => 9 | n => n, fun | n => n⟩
theorem lays129 : Go.Proofs.Lays.n129 Tryd.prog lays129_ren := {
  mixed := by kernel_rfl
  f129 := Tryd.func101.trans (congrArg some (by kernel_rfl))
  t3 := Tryd.underlying3
  a3 := Tryd.isAgg3
  z3 := Tryd.sizeOf3
  v3 := Tryd.zeroValue3
  t4 := Tryd.underlying4
  a4 := Tryd.isAgg4
  z4 := Tryd.sizeOf4
  v4 := Tryd.zeroValue4
  t5 := Tryd.underlying5
  a5 := Tryd.isAgg5
  z5 := Tryd.sizeOf5
  v5 := Tryd.zeroValue5
  t9 := Tryd.underlying9
  a9 := Tryd.isAgg9
  z9 := Tryd.sizeOf9
  v9 := Tryd.zeroValue9
  t46 := Tryd.underlying109
  a46 := Tryd.isAgg109
  z46 := Tryd.sizeOf109
  v46 := Tryd.zeroValue109
  t53 := Tryd.underlying108
  a53 := Tryd.isAgg108
  z53 := Tryd.sizeOf108
  v53 := Tryd.zeroValue108 }
theorem len64_any (x : Int) (w : World) (h0 : 0 ≤ x) (h1 : x ≤ 18446744073709551615) :
    Calls Tryd.prog 101 #[.int .u64 x] w fun e w' => e = .returned (.int .i64 (Lib.bitLen x.toNat)) ∧ w' = w := Any.bits_Len64 lays129 x w h0 h1
def lays169_ren : Go.Shelf.Ren := ⟨fun | 169 => 104 | n => n, fun | 70 => 141 | 9 => 9 | 0 => 0 | 72 => 143 | 37 => 110 | 127 => 151 | 3 => 3 | 5 => 5 | n => n, fun | n => n⟩
theorem lays169 : Go.Proofs.Lays.n169 Tryd.prog lays169_ren := {
  mixed := by kernel_rfl
  f169 := Tryd.func104.trans (congrArg some (by kernel_rfl))
  t0 := Tryd.underlying0
  a0 := Tryd.isAgg0
  z0 := Tryd.sizeOf0
  v0 := Tryd.zeroValue0
  t3 := Tryd.underlying3
  a3 := Tryd.isAgg3
  z3 := Tryd.sizeOf3
  v3 := Tryd.zeroValue3
  t9 := Tryd.underlying9
  a9 := Tryd.isAgg9
  z9 := Tryd.sizeOf9
  v9 := Tryd.zeroValue9
  t37 := Tryd.underlying110
  a37 := Tryd.isAgg110
  z37 := Tryd.sizeOf110
  v37 := Tryd.zeroValue110
  t70 := Tryd.underlying141
  a70 := Tryd.isAgg141
  z70 := Tryd.sizeOf141
  v70 := Tryd.zeroValue141
  t72 := Tryd.underlying143
  a72 := Tryd.isAgg143
  z72 := Tryd.sizeOf143
  v72 := Tryd.zeroValue143
  t127 := Tryd.underlying151
  a127 := Tryd.isAgg151
  z127 := Tryd.sizeOf151
  v127 := Tryd.zeroValue151 }
theorem extra169 : Builder.Extra Tryd.prog lays169_ren := {
  sizeBuilder := by kernel_rfl
  liesBuilder := by kernel_rfl
  t5 := Tryd.underlying5
  a5 := Tryd.isAgg5
  z5 := Tryd.sizeOf5
  v5 := Tryd.zeroValue5
  infoByte := by kernel_rfl
  cellsByte := by kernel_rfl
  sizeByte := by kernel_rfl
  neB5 := by decide }
theorem builderString_any (B b : Nat) (l : List UInt8) (w : World) (h : Lib.IsBuilderF 143 5 B b (Lib.byteCells l) w) (hBw : B ≤ w.heap.size) :
    Calls Tryd.prog 104 #[.pointer (some ⟨b, 0, none⟩)] w fun e w' => e = .returned (.string ⟨l.toArray⟩) ∧ (Lib.IsBuilderF 143 5 B b (Lib.byteCells l) w' ∧ Below B w w' ∧ Lib.OthersKept 5 (some b) w w') := Any.Builder_String_any_k lays169 extra169 B b l w h hBw
def lays166_ren : Go.Shelf.Ren := ⟨fun | 166 => 103 | 240 => 107 | 276 => 109 | n => n, fun | 0 => 0 | 3 => 3 | 4 => 4 | 5 => 5 | 9 => 9 | 20 => 20 | 37 => 110 | 70 => 141 | 72 => 143 | 75 => 146 | 80 => 149 | 164 => 152 | n => n, fun | n => n⟩
theorem lays166 : Go.Proofs.Lays.n166 Tryd.prog lays166_ren := {
  mixed := by kernel_rfl
  f166 := Tryd.func103.trans (congrArg some (by kernel_rfl))
  f240 := Tryd.func107.trans (congrArg some (by kernel_rfl))
  f276 := Tryd.func109.trans (congrArg some (by kernel_rfl))
  t0 := Tryd.underlying0
  a0 := Tryd.isAgg0
  z0 := Tryd.sizeOf0
  v0 := Tryd.zeroValue0
  t3 := Tryd.underlying3
  a3 := Tryd.isAgg3
  z3 := Tryd.sizeOf3
  v3 := Tryd.zeroValue3
  t4 := Tryd.underlying4
  a4 := Tryd.isAgg4
  z4 := Tryd.sizeOf4
  v4 := Tryd.zeroValue4
  t9 := Tryd.underlying9
  a9 := Tryd.isAgg9
  z9 := Tryd.sizeOf9
  v9 := Tryd.zeroValue9
  t20 := Tryd.underlying20
  a20 := Tryd.isAgg20
  z20 := Tryd.sizeOf20
  v20 := Tryd.zeroValue20
  t37 := Tryd.underlying110
  a37 := Tryd.isAgg110
  z37 := Tryd.sizeOf110
  v37 := Tryd.zeroValue110
  t70 := Tryd.underlying141
  a70 := Tryd.isAgg141
  z70 := Tryd.sizeOf141
  v70 := Tryd.zeroValue141
  t72 := Tryd.underlying143
  a72 := Tryd.isAgg143
  z72 := Tryd.sizeOf143
  v72 := Tryd.zeroValue143
  t75 := Tryd.underlying146
  a75 := Tryd.isAgg146
  z75 := Tryd.sizeOf146
  v75 := Tryd.zeroValue146
  t164 := Tryd.underlying152
  a164 := Tryd.isAgg152
  z164 := Tryd.sizeOf152
  v164 := Tryd.zeroValue152 }
theorem extra166 : Builder.Extra Tryd.prog lays166_ren := {
  sizeBuilder := by kernel_rfl
  liesBuilder := by kernel_rfl
  t5 := Tryd.underlying5
  a5 := Tryd.isAgg5
  z5 := Tryd.sizeOf5
  v5 := Tryd.zeroValue5
  infoByte := by kernel_rfl
  cellsByte := by kernel_rfl
  sizeByte := by kernel_rfl
  neB5 := by decide }
theorem writeString_any (B b : Nat) (bs : List Value) (s : ByteArray) (w : World) (h : Lib.IsBuilderF 143 5 B b bs w) (hlen : bs.length + s.size ≤ 140737488355328) (hBw : B ≤ w.heap.size) :
    Calls Tryd.prog 103 #[.pointer (some ⟨b, 0, none⟩), .string s] w fun e w' => e = .returned (.tuple #[.int .i64 s.size, .nilIface]) ∧ (Lib.BuilderAtF 143 5 B b (.pointer (some ⟨b, 0, none⟩)) (bs ++ Lib.strCells s) w' ∧ Below B w w' ∧ Lib.OthersKept 5 (some b) w w') := Any.Builder_WriteString_k lays166 extra166 B b bs s w h hlen hBw
end Go.Proofs.YtollcdalokhjaaaDoor
/-! ## Package octet: what Size and Put tell, for every number, in whatever world. -/
namespace Go.Proofs.YtollcdalokhjaaaDoor
open Go.RowKit


theorem size_any (n : Nat) (w : World) (h : n < 18446744073709551616) :
    Calls Tryd.prog 95 #[.int .u64 n] w fun e w' => e = .returned (.int .i64 ((Oct.need n : Int) + 1)) ∧ w = w' := by
  have hb := Oct.bitLen_le64 n h
  go_enter Tryd.func95, Tryd.ntmps95
  go_wp2_with (go_at_call 101; refine (len64_any _ _ (by omega) (by omega)).mono ?_; rintro e w' ⟨rfl, rfl⟩)
  go_ret
  exact ⟨ret_int (by unfold Oct.need; omega), rfl⟩

set_option maxHeartbeats 800000 in
set_option maxRecDepth 100000 in
theorem put_any (n : Nat) (w : World) (h : n < 18446744073709551616) :
    Calls Tryd.prog 80 #[.int .u64 n] w fun e w' => e = .returned (.string (Oct.putB n)) ∧ Below w.heap.size w w' := by
  have hM := Oct.need_le n h
  obtain ⟨i0, hi, hz0, hz1, hz2⟩ := info_parts info_u8
  go_enter Tryd.func80, Tryd.ntmps80
  go_wp2_with (first
    | (go_at_call 95; refine (size_any _ _ (by omega)).mono ?_; rintro e w' ⟨rfl, rfl⟩)
    | (at_make; refine wpList_make_own _ rfl _ _ 110 rfl w.heap.size 5 i0 (.int .u8 0) 1 Tryd.underlying110 hi hz0 hz1 _ _ _ (1 + Oct.need n) rfl rfl (by omega) (by rw [hz2]; omega) (by unfold maxLen; omega) (Nat.le_refl _) ?_; intro w0 hown0 hgrow0)
    | (at_builtin; refine wpList_append_fits _ rfl (.tmp 12) (.tmp 15) 110 rfl w.heap.size 5 i0 1 Tryd.underlying110 hi hz1 w.heap.size 0 (1 + Oct.need n) _ rfl (hown0.alloc _) ⟨w0.heap.size, 0, none⟩ 1 1 [.int .u8 (Oct.need n)] rfl rfl (cell_one_new _ _ _) (by intro u hu; simp at hu; subst hu; rfl) (by omega) ?_; intro w1 hown1 hgrow1))
  clear hown0
  go_loopw [4, 18] (fun v i wr => ∃ k : Nat, k ≤ Oct.need n ∧ i = .int .i64 k ∧ v = .slice (some ⟨w.heap.size, 0, none⟩) (1 + k) (1 + Oct.need n) ∧ wr.ownsRow w.heap.size 5 1 (.slice (some ⟨w.heap.size, 0, none⟩) (1 + k) (1 + Oct.need n)) (1 + k) (Lib.byteCells ((Oct.putL n).take (1 + k))) ∧ Below w.heap.size w wr)
    (fun _ i _ => Oct.need n - (intOf i).toNat)
  case atStart =>
    refine ⟨0, Nat.zero_le _, rfl, rfl, ?_, ?_⟩
    · show w1.ownsRow _ _ _ _ (1 + 0) (Lib.byteCells ((Oct.putL n).take 1))
      rw [Oct.putL_take1 n h]
      exact hown1
    · exact (((Below.refl _ _).grown hgrow0 (Nat.le_refl _) (fun k h => by cases h)).alloc hgrow0.size _).grown hgrow1 (by have := hgrow0.size; simp; omega) (fun k hk => by cases hk; exact Nat.le_refl _)
  case round =>
    obtain ⟨k, hk, rfl, rfl, hown, hbl⟩ := hrel
    clear hown1 hgrow1 hgrow0
    by_cases hlt : k < Oct.need n
    · go_wp2_with (first
        | (at_builtin; refine wpList_append_fits _ rfl (.tmp 21) (.tmp 30) 110 rfl w.heap.size 5 i0 1 Tryd.underlying110 hi hz1 w.heap.size (1 + k) (1 + Oct.need n) _ rfl (hown.alloc _) ⟨wr.heap.size, 0, none⟩ 1 1 [.int .u8 ((n : Int) / 2 ^ (8 * (Oct.need n - 1 - k)) % 256)] rfl rfl (cell_one_new _ _ _) (by intro u hu; simp at hu; subst hu; rfl) (by omega) ?_; intro w2 hown2 hgrow2))
      rw [← Oct.putL_step n k hlt] at hown2
      go_roundw
      case rel =>
        refine ⟨k + 1, by omega, by go_num, rfl, hown2, ?_⟩
        exact (hbl.alloc hbl.size _).grown hgrow2 (by have := hbl.size; simp; omega) (fun k hk => by cases hk; exact Nat.le_refl _)
      case measure => simp [intOf]; omega
    · obtain rfl : Oct.need n = k := by omega
      have e : (Oct.putL n).take (1 + Oct.need n) = Oct.putL n := List.take_of_length_le (by rw [Oct.putL_length]; omega)
      rw [e] at hown
      have hcv : (convert 110 9 (.slice (some ⟨w.heap.size, 0, none⟩) (1 + Oct.need n) (1 + Oct.need n))).run Tryd.prog wr = .ok (.string (Oct.putB n)) wr := by
        rw [← Oct.putL_length n]
        refine run_convert_bytes_back wr _ _ 5 _ _ (Oct.putL n) Tryd.underlying110 Tryd.underlying5 Tryd.underlying9 fun j hj => ?_
        exact hown.cells rfl j _ (by simp [Lib.byteCells, hj])
      clear hown e
      go_wp2
      go_ret
      exact ⟨rfl, hbl⟩
end Go.Proofs.YtollcdalokhjaaaDoor
/-! ## Package octet: the number at the beginning of a text, for every text. -/
namespace Go.Proofs.YtollcdalokhjaaaDoor
open Go.RowKit


/-- A tuple of three, as it is told. -/
theorem ret_num {a b c d : Int} (h1 : a = c) (h2 : b = d) : Ending.returned (.tuple #[.int .u64 a, .int .i64 b, .bool true]) = .returned (.tuple #[.int .u64 c, .int .i64 d, .bool true]) := by rw [h1, h2]

end Go.Proofs.YtollcdalokhjaaaDoor
/-! ## Package octet: what a scanner is in memory, and what its small calls do: Read, Sound, spoil, Left, End, Long, Num, Text. -/
namespace Go.Proofs.YtollcdalokhjaaaDoor
open Go.RowKit

/-- The rest of a scanner, as a text. -/
def restB (st : Option (List UInt8)) : ByteArray := ⟨(st.getD []).toArray⟩
theorem rest_size (st : Option (List UInt8)) : (restB st).size = (st.getD []).length := by simp [restB, ByteArray.size]

/-- End tells 0 (OK), if the scanner is sound and nothing is left, else 10 (ErrForm). -/
def endV (st : Option (List UInt8)) : Int := if st = some [] then 0 else 10


end Go.Proofs.YtollcdalokhjaaaDoor
/-! ## Package octet: what Long, Num and Text of a scanner do, for every scanner and every bound. -/
namespace Go.Proofs.YtollcdalokhjaaaDoor
open Go.RowKit

/-- What Long tells, and what it leaves. -/
def longV (st : Option (List UInt8)) : Nat := ((st.bind Oct.num?).map (·.1)).getD 0
def longS (st : Option (List UInt8)) : Option (List UInt8) := st.bind fun l => (Oct.num? l).map fun x => l.drop x.2
/-- What Num tells, and what it leaves. -/
def numV (st : Option (List UInt8)) (most : Int) : Nat := if most < 0 ∨ most < longV st then 0 else longV st
def numS (st : Option (List UInt8)) (most : Int) : Option (List UInt8) := if most < 0 ∨ most < longV st then none else longS st
/-- What Text tells, and what it leaves. -/
def textV (st : Option (List UInt8)) (most : Int) : List UInt8 := if ((numS st most).getD []).length < numV st most then [] else ((numS st most).getD []).take (numV st most)
def textS (st : Option (List UInt8)) (most : Int) : Option (List UInt8) := (numS st most).bind fun l => if l.length < numV st most then none else some (l.drop (numV st most))

theorem num_bounds {l : List UInt8} {n k : Nat} (h : Oct.num? l = some (n, k)) : n < 18446744073709551616 ∧ k ≤ l.length := by
  cases l with
  | nil => cases h
  | cons b r =>
    unfold Oct.num? at h
    simp only at h
    split at h
    · cases h
    · rename_i hc
      simp only [Option.some.injEq, Prod.mk.injEq] at h
      obtain ⟨rfl, rfl⟩ := h
      have h1 := Oct.val_lt b.toNat (r.take b.toNat) (by rw [List.length_take]; omega)
      have h2 : 256 ^ b.toNat ≤ 256 ^ 8 := Nat.pow_le_pow_right (by decide) (by omega)
      exact ⟨by omega, by simp only [List.length_cons]; omega⟩

theorem longV_lt (st : Option (List UInt8)) : longV st < 18446744073709551616 := by
  unfold longV
  cases st with
  | none => decide
  | some l =>
    cases h : Oct.num? l with
    | none => simp [h]
    | some x => simp [h]; exact (num_bounds (n := x.1) (k := x.2) h).1

theorem longS_le (st : Option (List UInt8)) : ((longS st).getD []).length ≤ (st.getD []).length := by
  unfold longS
  cases st with
  | none => simp
  | some l =>
    cases h : Oct.num? l with
    | none => simp [h]
    | some x => simp [h]

theorem drop_rest (l : List UInt8) (k : Nat) : (restB (some l)).extract k (restB (some l)).size = restB (some (l.drop k)) := by
  rw [Lib.extract_eq, rest_size]
  simp [restB]
  rw [List.take_of_length_le (by simp)]

theorem take_rest (l : List UInt8) (k : Nat) : (restB (some l)).extract 0 k = ⟨(l.take k).toArray⟩ := by
  rw [Lib.extract_eq]
  simp [restB]

theorem rest_data (l : List UInt8) : (restB (some l)).data.toList = l := by simp [restB]

end Go.Proofs.YtollcdalokhjaaaDoor
/-! ## Plain mathematics: the bytes of two numbers are in the order of the numbers. -/
namespace Go.Proofs.YtollcdalokhjaaaDoor.Oct
open Go

theorem be_mod (n k : Nat) : ∀ j, j ≤ k → be (n % 256 ^ k) j = be n j
  | 0, _ => rfl
  | j + 1, h => by
    simp only [be]
    rw [be_mod n k j (by omega)]
    congr 1
    have e : 256 ^ k = 256 ^ j * (256 * 256 ^ (k - 1 - j)) := by
      rw [← Nat.pow_succ', ← Nat.pow_add]; congr 1; omega
    rw [e, Nat.mod_mul_right_div_self]
    apply UInt8.toNat_inj.1
    simp only [UInt8.toNat_ofNat']
    exact Nat.mod_mul_right_mod _ _ _

theorem ofNat_lt {a b : Nat} (ha : a < 256) (hb : b < 256) : (UInt8.ofNat a < UInt8.ofNat b) ↔ a < b := by
  rw [UInt8.lt_iff_toNat_lt]
  simp only [UInt8.toNat_ofNat']
  rw [Nat.mod_eq_of_lt ha, Nat.mod_eq_of_lt hb]

theorem ofNat_eq {a b : Nat} (ha : a < 256) (hb : b < 256) : (UInt8.ofNat a = UInt8.ofNat b) ↔ a = b := by
  rw [← UInt8.toNat_inj]
  simp only [UInt8.toNat_ofNat']
  rw [Nat.mod_eq_of_lt ha, Nat.mod_eq_of_lt hb]

theorem be_less : ∀ (k a b : Nat), a < 256 ^ k → b < 256 ^ k → Op.bytesLess (be a k) (be b k) = decide (a < b)
  | 0, a, b, ha, hb => by
    have : a = 0 := by simpa using ha
    have : b = 0 := by simpa using hb
    subst a b
    rfl
  | k + 1, a, b, ha, hb => by
    have hp : 0 < 256 ^ k := Nat.pow_pos (by decide)
    have qa : a / 256 ^ k < 256 := by rw [Nat.div_lt_iff_lt_mul hp, Nat.mul_comm]; exact ha
    have qb : b / 256 ^ k < 256 := by rw [Nat.div_lt_iff_lt_mul hp, Nat.mul_comm]; exact hb
    have ih := be_less k (a % 256 ^ k) (b % 256 ^ k) (Nat.mod_lt _ hp) (Nat.mod_lt _ hp)
    rw [be_mod a k k (Nat.le_refl _), be_mod b k k (Nat.le_refl _)] at ih
    simp only [be, Op.bytesLess, ih]
    have ea := Nat.div_add_mod a (256 ^ k)
    have eb := Nat.div_add_mod b (256 ^ k)
    have ra := Nat.mod_lt a hp
    have rb := Nat.mod_lt b hp
    rw [Bool.eq_iff_iff]
    simp only [Bool.or_eq_true, Bool.and_eq_true, decide_eq_true_eq, beq_iff_eq, ofNat_lt qa qb, ofNat_eq qa qb]
    generalize 256 ^ k = m at *
    generalize a / m = q at *
    generalize b / m = q' at *
    generalize a % m = r at *
    generalize b % m = r' at *
    constructor
    · rintro (h | ⟨h, h'⟩)
      · have : m * (q + 1) ≤ m * q' := Nat.mul_le_mul_left _ h
        rw [Nat.mul_add] at this
        omega
      · subst h; omega
    · intro h
      by_cases hq : q < q'
      · exact Or.inl hq
      · right
        have : q = q' := by
          apply Nat.le_antisymm _ (by omega)
          apply Nat.le_of_not_lt
          intro h'
          have : m * (q' + 1) ≤ m * q := Nat.mul_le_mul_left _ h'
          rw [Nat.mul_add] at this
          omega
        subst this
        exact ⟨rfl, by omega⟩

theorem putB_toList (n : Nat) : (putB n).toList = putL n := by rw [Lib.toList_data]; rfl

theorem need_mono {a b : Nat} (ha : a < 18446744073709551616) (hb : b < 18446744073709551616) (h : need a < need b) : a < b := by
  have h0 : b ≠ 0 := by intro e; subst e; rw [need_zero] at h; omega
  have h1 := lt_need a ha
  have h2 := le_need b hb h0
  have h3 : 256 ^ need a ≤ 256 ^ (need b - 1) := Nat.pow_le_pow_right (by decide) (by omega)
  omega

theorem put_less (a b : Nat) (ha : a < 18446744073709551616) (hb : b < 18446744073709551616) :
    Op.bytesLess (putB a).toList (putB b).toList = decide (a < b) := by
  rw [putB_toList, putB_toList, putL, putL]
  have na := need_le a ha
  have nb := need_le b hb
  simp only [Op.bytesLess]
  by_cases h : need a = need b
  · have := be_less (need b) a b (h ▸ lt_need a ha) (lt_need b hb)
    rw [h, this]
    simp
  · have hlt : (UInt8.ofNat (need a) < UInt8.ofNat (need b)) ↔ need a < need b := ofNat_lt (by omega) (by omega)
    have hne : (UInt8.ofNat (need a) == UInt8.ofNat (need b)) = false := by
      rw [beq_eq_false_iff_ne]; intro e; exact h ((ofNat_eq (by omega) (by omega)).1 e)
    rw [hne, Bool.false_and, Bool.or_false, Bool.eq_iff_iff]
    simp only [decide_eq_true_eq, hlt]
    constructor
    · exact need_mono ha hb
    · intro hab
      by_cases h' : need a < need b
      · exact h'
      · have := need_mono hb ha (by omega)
        omega

end Go.Proofs.YtollcdalokhjaaaDoor.Oct
/-! ## Plain mathematics: what was put is read again, and what stands behind it is left. -/
namespace Go.Proofs.YtollcdalokhjaaaDoor.Oct
open Go

theorem val_cons_acc (l : List UInt8) : ∀ a : Nat, l.foldl (fun n b => n * 256 + b.toNat) a = a * 256 ^ l.length + val l := by
  induction l with
  | nil => intro a; simp [val]
  | cons b r ih =>
    intro a
    simp only [List.foldl_cons, List.length_cons, val]
    rw [ih, ih (0 * 256 + b.toNat), Nat.pow_succ]
    rw [Nat.add_mul, Nat.mul_assoc, Nat.mul_comm 256]
    simp
    omega

theorem val_cons (b : UInt8) (l : List UInt8) : val (b :: l) = b.toNat * 256 ^ l.length + val l := by
  show (b :: l).foldl (fun n b => n * 256 + b.toNat) 0 = _
  rw [List.foldl_cons, val_cons_acc]
  simp

theorem val_be (n : Nat) : ∀ k, val (be n k) = n % 256 ^ k
  | 0 => by simp [be, val, Nat.mod_one]
  | k + 1 => by
    rw [be, val_cons, be_length, val_be n k, Nat.mod_pow_succ]
    simp only [UInt8.toNat_ofNat']
    rw [Nat.mul_comm, Nat.add_comm]

theorem val_be_need (n : Nat) (h : n < 18446744073709551616) : val (be n (need n)) = n := by
  rw [val_be, Nat.mod_eq_of_lt (lt_need n h)]

theorem be_head (n : Nat) (h : n < 18446744073709551616) (h0 : 0 < need n) (r : List UInt8) : (be n (need n) ++ r).headD 0 ≠ 0 := by
  have hn : n ≠ 0 := by intro e; subst e; rw [need_zero] at h0; omega
  obtain ⟨k, hk⟩ : ∃ k, need n = k + 1 := ⟨need n - 1, by omega⟩
  have h1 := le_need n h hn
  have h2 := lt_need n h
  rw [hk] at h1 h2 ⊢
  simp only [be, List.cons_append, List.headD_cons]
  intro e
  have e' := congrArg UInt8.toNat e
  simp only [UInt8.toNat_ofNat', UInt8.toNat_zero] at e'
  have hp : 0 < 256 ^ k := Nat.pow_pos (by decide)
  have q1 : n / 256 ^ k < 256 := by rw [Nat.div_lt_iff_lt_mul hp, Nat.mul_comm, ← Nat.pow_succ]; exact h2
  have q2 : 1 ≤ n / 256 ^ k := by rw [Nat.le_div_iff_mul_le hp]; simpa using h1
  rw [Nat.mod_eq_of_lt q1] at e'
  omega

theorem need_byte (n : Nat) (h : n < 18446744073709551616) : (UInt8.ofNat (need n)).toNat = need n := by
  have := need_le n h
  simp only [UInt8.toNat_ofNat']
  omega

/-- What was put is read. -/
theorem num_put (n : Nat) (h : n < 18446744073709551616) (r : List UInt8) : num? (putL n ++ r) = some (n, 1 + need n) := by
  have hn := need_le n h
  have hb := need_byte n h
  rw [putL, List.cons_append]
  simp only [num?]
  rw [hb, if_neg]
  · rw [List.take_append_of_le_length (by rw [be_length]; exact Nat.le_refl _), List.take_of_length_le (by rw [be_length]; exact Nat.le_refl _), val_be_need n h]
  · rintro (h1 | h1 | ⟨h1, h2⟩)
    · omega
    · rw [List.length_append, be_length] at h1; omega
    · exact be_head n h h1 r h2

theorem drop_put (n : Nat) (r : List UInt8) : (putL n ++ r).drop (1 + need n) = r := by
  rw [← putL_length n, List.drop_left]

theorem putB_data (n : Nat) : (putB n).data.toList = putL n := rfl

end Go.Proofs.YtollcdalokhjaaaDoor.Oct
/-! ## Package octet: what Text of a scanner does, for every scanner and every bound. -/
namespace Go.Proofs.YtollcdalokhjaaaDoor
open Go.RowKit

theorem long_none_zero (st : Option (List UInt8)) (h : longS st = none) : longV st = 0 := by
  unfold longS at h
  unfold longV
  cases st with
  | none => rfl
  | some l =>
    cases hn : Oct.num? l with
    | none => simp [hn]
    | some x => simp [hn] at h

theorem num_none_zero (st : Option (List UInt8)) (most : Int) (h : numS st most = none) : numV st most = 0 := by
  unfold numS at h
  unfold numV
  split
  · rfl
  · rename_i hc
    rw [if_neg hc] at h
    exact long_none_zero st h

theorem numV_le (st : Option (List UInt8)) (most : Int) (hm : most ≤ 9223372036854775807) : (numV st most : Int) ≤ 9223372036854775807 := by
  unfold numV
  split
  · decide
  · omega

theorem numS_len (st : Option (List UInt8)) (most : Int) : ((numS st most).getD []).length ≤ (st.getD []).length := by
  unfold numS
  split
  · simp
  · exact longS_le st

end Go.Proofs.YtollcdalokhjaaaDoor
/-! ## Package octet: Long and Num of what was put. -/
namespace Go.Proofs.YtollcdalokhjaaaDoor
open Go.RowKit

theorem longV_put (n : Nat) (h : n < 18446744073709551616) (r : List UInt8) : longV (some (Oct.putL n ++ r)) = n := by simp [longV, Oct.num_put n h r]
theorem longS_put (n : Nat) (h : n < 18446744073709551616) (r : List UInt8) : longS (some (Oct.putL n ++ r)) = some r := by simp [longS, Oct.num_put n h r, Oct.drop_put]
theorem numV_put (n : Nat) (h : n < 18446744073709551616) (r : List UInt8) (most : Int) (hm : ¬ (most < 0 ∨ most < n)) : numV (some (Oct.putL n ++ r)) most = n := by
  unfold numV; rw [longV_put n h r, if_neg hm]
theorem numS_put (n : Nat) (h : n < 18446744073709551616) (r : List UInt8) (most : Int) (hm : ¬ (most < 0 ∨ most < n)) : numS (some (Oct.putL n ++ r)) most = some r := by
  unfold numS; rw [longV_put n h r, if_neg hm, longS_put n h r]
theorem num_bad (n : Nat) (h : n < 18446744073709551616) (r : List UInt8) (most : Int) (hm : most < 0 ∨ most < n) : numV (some (Oct.putL n ++ r)) most = 0 ∧ numS (some (Oct.putL n ++ r)) most = none := by
  unfold numV numS; rw [longV_put n h r, if_pos hm, if_pos hm]; exact ⟨rfl, rfl⟩

theorem putL_le (n : Nat) (h : n < 18446744073709551616) : (Oct.putL n).length ≤ 9 := by have := Oct.need_le n h; rw [Oct.putL_length]; omega

theorem textPut_any (s : ByteArray) (w : World) (hs : s.size ≤ 1099511627776) :
    Calls Tryd.prog 89 #[.string s] w fun e w' => e = .returned (.string (Oct.putB s.size ++ s)) ∧ Below w.heap.size w w' := by
  have hp : (Oct.putB s.size).size ≤ 9 := by have := Oct.need_le s.size (by omega); rw [Oct.putB_size]; omega
  go_enter Tryd.func89, Tryd.ntmps89
  go_wp2_with (go_at_call 80; refine (put_any _ _ (by omega)).mono ?_; rintro e w' ⟨rfl, hb⟩)
  go_ret
  exact ⟨rfl, hb⟩

end Go.Proofs.YtollcdalokhjaaaDoor
/-! ## The document's own answer for layer 1 (package scriniumref01): Put, Text, List, Same, for every input that the statements hand them. -/
namespace Go.Proofs.YtollcdalokhjaaaDoor
open Go.RowKit

theorem app_list (x y : List UInt8) : ((⟨x.toArray⟩ : ByteArray) ++ ⟨y.toArray⟩) = ⟨(x ++ y).toArray⟩ := ByteArray.mk_append_mk x y

/-- One byte as a text. -/
theorem conv_one (u : World) (x : Int) (b : UInt8) (h : x = (b.toNat : Int)) :
    (convert 110 9 (.slice (some ⟨u.heap.size, 0, none⟩) 1 1)).run Tryd.prog (u.alloc (.cells #[.int .u8 x] 5)) = .ok (.string ⟨[b].toArray⟩) (u.alloc (.cells #[.int .u8 x] 5)) := by
  subst h
  refine run_convert_bytes_back _ _ _ 5 _ _ [b] Tryd.underlying110 Tryd.underlying5 Tryd.underlying9 fun j hj => ?_
  have : j = 0 := by simp at hj; omega
  subst this
  exact cell_one_new _ _ _ 0 _ rfl

theorem be_succ (n j : Nat) : Oct.be n (j + 1) = UInt8.ofNat (n / 256 ^ j) :: Oct.be n j := rfl
theorem byte_mod (m : Nat) : ((m : Int) % 256) = ((UInt8.ofNat m).toNat : Int) := by simp
theorem div_step (n j : Nat) : n / 256 ^ j / 256 = n / 256 ^ (j + 1) := by rw [Nat.div_div_eq_div_mul, Nat.pow_succ]
theorem need_of (n j : Nat) (h : n < 18446744073709551616) (h1 : j ≤ Oct.need n) (h2 : n / 256 ^ j = 0) : Oct.need n = j := by
  have hp : 0 < 256 ^ j := Nat.pow_pos (by decide)
  have h3 : n < 256 ^ j := (Nat.div_eq_zero_iff_lt hp).1 h2
  by_cases h0 : n = 0
  · subst h0; rw [Oct.need_zero] at *; omega
  · have h4 := Oct.le_need n h h0
    apply Nat.le_antisymm _ h1
    apply Nat.le_of_not_lt
    intro hlt
    have : 256 ^ j ≤ 256 ^ (Oct.need n - 1) := Nat.pow_le_pow_right (by decide) (by omega)
    omega
theorem lt_of_pos (n j : Nat) (h : n < 18446744073709551616) (h2 : 0 < n / 256 ^ j) : j < Oct.need n := by
  have hp : 0 < 256 ^ j := Nat.pow_pos (by decide)
  have h3 : 256 ^ j ≤ n := by
    apply Nat.le_of_not_lt; intro h4
    rw [(Nat.div_eq_zero_iff_lt hp).2 h4] at h2; omega
  have h4 := Oct.lt_need n h
  apply Nat.lt_of_not_le
  intro hle
  have : 256 ^ Oct.need n ≤ 256 ^ j := Nat.pow_le_pow_right (by decide) hle
  omega

set_option maxHeartbeats 800000 in
theorem refPut_any (n : Nat) (w : World) (h : n < 18446744073709551616) :
    Calls Tryd.prog 71 #[.int .u64 n] w fun e w' => e = .returned (.string (Oct.putB n)) ∧ Below w.heap.size w w' := by
  have hM := Oct.need_le n h
  go_enter Tryd.func71, Tryd.ntmps71
  go_wp2
  go_loopw [0, 3] (fun x t wr => ∃ (j m : Nat) (s : ByteArray), j ≤ Oct.need n ∧ Hid (m = n / 256 ^ j) ∧ m ≤ n ∧ Hid (s = ⟨(Oct.be n j).toArray⟩) ∧ s.size ≤ 8 ∧ x = .int .u64 m ∧ t = .string s ∧ Below w.heap.size w wr)
    (fun x _ _ => (intOf x).toNat)
  case atStart => exact ⟨0, n, ⟨#[]⟩, Nat.zero_le _, by simp [Hid], Nat.le_refl _, rfl, by decide, rfl, rfl, Below.refl _ _⟩
  case round =>
    obtain ⟨j, m, s, hj, hm, hmn, hs, hs8, rfl, rfl, hbl⟩ := hrel
    by_cases hpos : 0 < m
    · have hlt : j < Oct.need n := lt_of_pos n j h (by rw [← hm.out]; exact hpos)
      have hcv := fun u => conv_one u ((m : Int) % 256) (UInt8.ofNat m) (byte_mod m)
      go_wp2
      go_roundw
      case rel =>
        refine ⟨j + 1, m / 256, ⟨[UInt8.ofNat m].toArray⟩ ++ s, by omega, ?_, by omega, ?_, ?_, by go_num, rfl, hbl.alloc hbl.size _⟩
        · show m / 256 = n / 256 ^ (j + 1); rw [hm.out, div_step]
        · show _ = _; rw [hs.out, app_list, be_succ, hm.out]; rfl
        · rw [hs.out, app_list]; show ((_ : List UInt8).toArray).size ≤ 8; simp [Oct.be_length]; omega
      case measure => simp [intOf]; omega
    · obtain rfl : m = 0 := by omega
      have hN := need_of n j h hj hm.out.symm
      have hsz : s.size = Oct.need n := by rw [hs.out, hN]; show ((Oct.be n j).toArray).size = j; simp [Oct.be_length]
      have hcv := fun u => conv_one u (s.size : Int) (UInt8.ofNat (Oct.need n)) (by rw [hsz, Oct.need_byte n h])
      have HE : Hid ((⟨[UInt8.ofNat (Oct.need n)].toArray⟩ : ByteArray) ++ s = Oct.putB n) := by
        show _ = _
        rw [hs.out, app_list, ← hN]; rfl
      clear hsz hN
      go_wp2
      go_ret
      refine ⟨?_, hbl.alloc hbl.size _⟩
      rw [← HE.out]
      rfl

theorem refText_any (s : ByteArray) (w : World) (hs : s.size ≤ 1099511627776) :
    Calls Tryd.prog 70 #[.string s] w fun e w' => e = .returned (.string (Oct.putB s.size ++ s)) ∧ Below w.heap.size w w' := by
  have hp : (Oct.putB s.size).size ≤ 9 := by have := Oct.need_le s.size (by omega); rw [Oct.putB_size]; omega
  go_enter Tryd.func70, Tryd.ntmps70
  go_wp2_with (go_at_call 71; refine (refPut_any _ _ (by omega)).mono ?_; rintro e w' ⟨rfl, hb⟩)
  go_ret
  exact ⟨rfl, hb⟩

/-- A text as it is put. -/
def txtL (t : ByteArray) : List UInt8 := Oct.putL t.size ++ t.data.toList
/-- Texts as they are put, one behind the other. -/
def txtsL (ts : List ByteArray) : List UInt8 := (ts.map txtL).flatten
/-- A list as it is put. -/
def listL (ts : List ByteArray) : List UInt8 := Oct.putL ts.length ++ txtsL ts

theorem txt_eq (t : ByteArray) : Oct.putB t.size ++ t = ⟨(txtL t).toArray⟩ := by
  have e : t = ⟨t.data.toList.toArray⟩ := (Lib.mk_data t).symm
  rw [txtL, ← app_list, ← e]; rfl

theorem txtL_length (t : ByteArray) (h : t.size ≤ 1000) : (txtL t).length ≤ 1009 := by
  have := Oct.need_le t.size (by omega)
  rw [txtL, List.length_append, Oct.putL_length, ← Lib.size_eq]; omega

theorem txts_step (ts : List ByteArray) (k : Nat) (h : k < ts.length) : txtsL (ts.take (k + 1)) = txtsL (ts.take k) ++ txtL (ts.getD k ByteArray.empty) := by
  have e : ts.getD k ByteArray.empty = ts[k] := by simp [h]
  rw [e, List.take_succ_eq_append_getElem h]
  simp only [txtsL, List.map_append, List.map_cons, List.map_nil, List.flatten_append, List.flatten_cons, List.flatten_nil, List.append_nil]

theorem txts_length (ts : List ByteArray) (h : ∀ t ∈ ts, t.size ≤ 1000) : (txtsL ts).length ≤ 1009 * ts.length := by
  induction ts with
  | nil => simp [txtsL]
  | cons t r ih =>
    have h1 := txtL_length t (h t (by simp))
    have h2 := ih (fun x hx => h x (by simp [hx]))
    simp only [txtsL, List.map_cons, List.flatten_cons, List.length_append, List.length_cons] at *
    omega

theorem getD_le (ts : List ByteArray) (h : ∀ t ∈ ts, t.size ≤ 1000) (k : Nat) : (ts.getD k ByteArray.empty).size ≤ 1000 := by
  by_cases hk : k < ts.length
  · have e : ts.getD k ByteArray.empty = ts[k] := by simp [hk]
    rw [e]; exact h _ (List.getElem_mem hk)
  · have e : ts.getD k ByteArray.empty = ByteArray.empty := by simp [Nat.le_of_not_lt hk]
    rw [e]; decide
end Go.Proofs.YtollcdalokhjaaaDoor
/-! ## The document's own scanner (package scriniumref01): what it is in memory, and what Long, Num, Text, Left and End do: the same as package octet's. -/
namespace Go.Proofs.YtollcdalokhjaaaDoor
open Go.RowKit

theorem Only.drewN {b : Nat} {u w : World} (h : Only b u w) (n : Nat) : Only b u (w.drewN n) := h.trans ⟨rfl, rfl, rfl, Nat.le_refl _, fun _ _ _ => rfl⟩

/-- What stands at a place of a text. -/
theorem drop_at (S : ByteArray) (p : Nat) (h : p < S.size) : S.data.toList.drop p = S[p] :: S.data.toList.drop (p + 1) := by
  rw [List.drop_eq_getElem_cons (by rw [← Lib.size_eq]; exact h)]
  rfl
theorem drop_len (S : ByteArray) (p : Nat) : (S.data.toList.drop p).length = S.size - p := by rw [List.length_drop, ← Lib.size_eq]
theorem drop_head (S : ByteArray) (p : Nat) (h : p + 1 < S.size) : (S.data.toList.drop (p + 1)).headD 0 = S[p + 1] := by rw [drop_at S (p + 1) h]; rfl
theorem num_at (S : ByteArray) (p : Nat) (h : p < S.size) : Oct.num? (S.data.toList.drop p) =
    if 8 < S[p].toNat ∨ S.size - (p + 1) < S[p].toNat ∨ (0 < S[p].toNat ∧ (S.data.toList.drop (p + 1)).headD 0 = 0) then none else some (Oct.val ((S.data.toList.drop (p + 1)).take S[p].toNat), 1 + S[p].toNat) := by
  rw [drop_at S p h]
  simp only [Oct.num?]
  rw [drop_len]

theorem num_end (S : ByteArray) (p : Nat) (h : S.size ≤ p) : Oct.num? (S.data.toList.drop p) = none := by
  have : S.data.toList.drop p = [] := List.eq_nil_of_length_eq_zero (by rw [drop_len]; omega)
  rw [this]; rfl

end Go.Proofs.YtollcdalokhjaaaDoor
/-! ## The document's own scanner: what Long does where there is a number; and in one sentence of all. -/
namespace Go.Proofs.YtollcdalokhjaaaDoor
open Go.RowKit

theorem drop_step (S : ByteArray) (p j : Nat) (h : p + 1 + j < S.size) : (S.data.toList.drop (p + 1)).take (j + 1) = (S.data.toList.drop (p + 1)).take j ++ [S[p + 1 + j]] := by
  have hl : j < (S.data.toList.drop (p + 1)).length := by rw [drop_len]; omega
  rw [List.take_succ_eq_append_getElem hl]
  congr 2
  rw [List.getElem_drop]
  rfl

theorem u64_in (n : Int) (h0 : 0 ≤ n) (h1 : n ≤ 18446744073709551615) : IntKind.u64.wrap n = n := by
  simp [IntKind.wrap, IntKind.bits, IntKind.signed]; omega

end Go.Proofs.YtollcdalokhjaaaDoor
/-! ## The document's own scanner: what Num, Left, End and Text do. -/
namespace Go.Proofs.YtollcdalokhjaaaDoor
open Go.RowKit



end Go.Proofs.YtollcdalokhjaaaDoor
/-! ## The document's own scanner: what Text and List do. -/
namespace Go.Proofs.YtollcdalokhjaaaDoor
open Go.RowKit

theorem ret_str' {a b : ByteArray} (h : a = b) : Ending.returned (.string a) = .returned (.string b) := by rw [h]

theorem take_drop_text (S : ByteArray) (p n : Nat) : S.extract p (p + n) = ⟨((S.data.toList.drop p).take n).toArray⟩ := by
  rw [Lib.extract_eq, show p + n - p = n by omega]

end Go.Proofs.YtollcdalokhjaaaDoor
