/-
  The document's own answer for layer 1 (package scriniumref01): Put, Text, List, Same, for every input that the statements hand them.
-/
import Derived.Test.YtkoojbbimjjndaaOctPut
import Derived.Test.YtkoojbbimjjndaaOctBack
namespace Go.Proofs.Ytkoojbbimjjndaa
open Go.RowKit

theorem app_list (x y : List UInt8) : ((⟨x.toArray⟩ : ByteArray) ++ ⟨y.toArray⟩) = ⟨(x ++ y).toArray⟩ := ByteArray.mk_append_mk x y

/-- One byte as a text. -/
theorem conv_one (u : World) (x : Int) (b : UInt8) (h : x = (b.toNat : Int)) :
    (convert 53 9 (.slice (some ⟨u.heap.size, 0, none⟩) 1 1)).run Try.prog (u.alloc (.cells #[.int .u8 x] 5)) = .ok (.string ⟨[b].toArray⟩) (u.alloc (.cells #[.int .u8 x] 5)) := by
  subst h
  refine run_convert_bytes_back _ _ _ 5 _ _ [b] Try.underlying53 Try.underlying5 Try.underlying9 fun j hj => ?_
  have : j = 0 := by simp at hj; omega
  subst this
  exact cell_one_new _ _ _ 0 _ rfl

theorem be_succ (n j : Nat) : Oct.be n (j + 1) = UInt8.ofNat (n / 256 ^ j) :: Oct.be n j := rfl
theorem byte_mod (m : Nat) : ((m : Int) % 256) = ((UInt8.ofNat m).toNat : Int) := by simp
theorem div_step (n j : Nat) : n / 256 ^ j / 256 = n / 256 ^ (j + 1) := by rw [Nat.div_div_eq_div_mul, Nat.pow_succ]
theorem need_of (n j : Nat) (h : n < 18446744073709551616) (h1 : j ≤ Oct.need n) (h2 : n / 256 ^ j = 0) : Oct.need n = j := by
  have hp : 0 < 256 ^ j := Nat.pow_pos (by decide)
  have h3 : n < 256 ^ j := (Nat.div_eq_zero_iff_lt hp).1 h2
  by_cases h0 : n = 0
  · subst h0; rw [Oct.need_zero] at *; omega
  · have h4 := Oct.le_need n h h0
    apply Nat.le_antisymm _ h1
    apply Nat.le_of_not_lt
    intro hlt
    have : 256 ^ j ≤ 256 ^ (Oct.need n - 1) := Nat.pow_le_pow_right (by decide) (by omega)
    omega
theorem lt_of_pos (n j : Nat) (h : n < 18446744073709551616) (h2 : 0 < n / 256 ^ j) : j < Oct.need n := by
  have hp : 0 < 256 ^ j := Nat.pow_pos (by decide)
  have h3 : 256 ^ j ≤ n := by
    apply Nat.le_of_not_lt; intro h4
    rw [(Nat.div_eq_zero_iff_lt hp).2 h4] at h2; omega
  have h4 := Oct.lt_need n h
  apply Nat.lt_of_not_le
  intro hle
  have : 256 ^ Oct.need n ≤ 256 ^ j := Nat.pow_le_pow_right (by decide) hle
  omega

set_option maxHeartbeats 800000 in
theorem refPut_any (n : Nat) (w : World) (h : n < 18446744073709551616) :
    Calls Try.prog 53 #[.int .u64 n] w fun e w' => e = .returned (.string (Oct.putB n)) ∧ Below w.heap.size w w' := by
  have hM := Oct.need_le n h
  go_enter Try.func53, Try.ntmps53
  go_wp2
  go_loopw [0, 3] (fun x t wr => ∃ (j m : Nat) (s : ByteArray), j ≤ Oct.need n ∧ Hid (m = n / 256 ^ j) ∧ m ≤ n ∧ Hid (s = ⟨(Oct.be n j).toArray⟩) ∧ s.size ≤ 8 ∧ x = .int .u64 m ∧ t = .string s ∧ Below w.heap.size w wr)
    (fun x _ _ => (intOf x).toNat)
  case atStart => exact ⟨0, n, ⟨#[]⟩, Nat.zero_le _, by simp [Hid], Nat.le_refl _, rfl, by decide, rfl, rfl, Below.refl _ _⟩
  case round =>
    obtain ⟨j, m, s, hj, hm, hmn, hs, hs8, rfl, rfl, hbl⟩ := hrel
    by_cases hpos : 0 < m
    · have hlt : j < Oct.need n := lt_of_pos n j h (by rw [← hm.out]; exact hpos)
      have hcv := fun u => conv_one u ((m : Int) % 256) (UInt8.ofNat m) (byte_mod m)
      go_wp2
      go_roundw
      case rel =>
        refine ⟨j + 1, m / 256, ⟨[UInt8.ofNat m].toArray⟩ ++ s, by omega, ?_, by omega, ?_, ?_, by go_num, rfl, hbl.alloc hbl.size _⟩
        · show m / 256 = n / 256 ^ (j + 1); rw [hm.out, div_step]
        · show _ = _; rw [hs.out, app_list, be_succ, hm.out]; rfl
        · rw [hs.out, app_list]; show ((_ : List UInt8).toArray).size ≤ 8; simp [Oct.be_length]; omega
      case measure => simp [intOf]; omega
    · obtain rfl : m = 0 := by omega
      have hN := need_of n j h hj hm.out.symm
      have hsz : s.size = Oct.need n := by rw [hs.out, hN]; show ((Oct.be n j).toArray).size = j; simp [Oct.be_length]
      have hcv := fun u => conv_one u (s.size : Int) (UInt8.ofNat (Oct.need n)) (by rw [hsz, Oct.need_byte n h])
      have HE : Hid ((⟨[UInt8.ofNat (Oct.need n)].toArray⟩ : ByteArray) ++ s = Oct.putB n) := by
        show _ = _
        rw [hs.out, app_list, ← hN]; rfl
      clear hsz hN
      go_wp2
      go_ret
      refine ⟨?_, hbl.alloc hbl.size _⟩
      rw [← HE.out]
      rfl

theorem refText_any (s : ByteArray) (w : World) (hs : s.size ≤ 1099511627776) :
    Calls Try.prog 38 #[.string s] w fun e w' => e = .returned (.string (Oct.putB s.size ++ s)) ∧ Below w.heap.size w w' := by
  have hp : (Oct.putB s.size).size ≤ 9 := by have := Oct.need_le s.size (by omega); rw [Oct.putB_size]; omega
  go_enter Try.func38, Try.ntmps38
  go_wp2_with (go_at_call 53; refine (refPut_any _ _ (by omega)).mono ?_; rintro e w' ⟨rfl, hb⟩)
  go_ret
  exact ⟨rfl, hb⟩

/-- A text as it is put. -/
def txtL (t : ByteArray) : List UInt8 := Oct.putL t.size ++ t.data.toList
/-- Texts as they are put, one behind the other. -/
def txtsL (ts : List ByteArray) : List UInt8 := (ts.map txtL).flatten
/-- A list as it is put. -/
def listL (ts : List ByteArray) : List UInt8 := Oct.putL ts.length ++ txtsL ts

theorem txt_eq (t : ByteArray) : Oct.putB t.size ++ t = ⟨(txtL t).toArray⟩ := by
  have e : t = ⟨t.data.toList.toArray⟩ := (Lib.mk_data t).symm
  rw [txtL, ← app_list, ← e]; rfl

theorem txtL_length (t : ByteArray) (h : t.size ≤ 1000) : (txtL t).length ≤ 1009 := by
  have := Oct.need_le t.size (by omega)
  rw [txtL, List.length_append, Oct.putL_length, ← Lib.size_eq]; omega

theorem txts_step (ts : List ByteArray) (k : Nat) (h : k < ts.length) : txtsL (ts.take (k + 1)) = txtsL (ts.take k) ++ txtL (ts.getD k ByteArray.empty) := by
  have e : ts.getD k ByteArray.empty = ts[k] := by simp [h]
  rw [e, List.take_succ_eq_append_getElem h]
  simp only [txtsL, List.map_append, List.map_cons, List.map_nil, List.flatten_append, List.flatten_cons, List.flatten_nil, List.append_nil]

theorem txts_length (ts : List ByteArray) (h : ∀ t ∈ ts, t.size ≤ 1000) : (txtsL ts).length ≤ 1009 * ts.length := by
  induction ts with
  | nil => simp [txtsL]
  | cons t r ih =>
    have h1 := txtL_length t (h t (by simp))
    have h2 := ih (fun x hx => h x (by simp [hx]))
    simp only [txtsL, List.map_cons, List.flatten_cons, List.length_append, List.length_cons] at *
    omega

theorem getD_le (ts : List ByteArray) (h : ∀ t ∈ ts, t.size ≤ 1000) (k : Nat) : (ts.getD k ByteArray.empty).size ≤ 1000 := by
  by_cases hk : k < ts.length
  · have e : ts.getD k ByteArray.empty = ts[k] := by simp [hk]
    rw [e]; exact h _ (List.getElem_mem hk)
  · have e : ts.getD k ByteArray.empty = ByteArray.empty := by simp [Nat.le_of_not_lt hk]
    rw [e]; decide
end Go.Proofs.Ytkoojbbimjjndaa
