/-
  The document's own Fill, and the statements' with: the bytes of a sector that begin with a byte.
-/
import Derived.Test.YtkoojbbimjjndaaOctRef
import Derived.Test.YtkoojbbimjjndaaDiskPure
namespace Go.Proofs.Ytkoojbbimjjndaa
open Go.RowKit Dsk

/-- octet.Text(s). -/
def textB (s : ByteArray) : ByteArray := Oct.putB s.size ++ s
theorem textB_size (s : ByteArray) : (textB s).size = 1 + Oct.need s.size + s.size := by
  unfold textB; rw [ByteArray.size_append, Oct.putB_size]
/-- What Fill tells. -/
def fillS (s : ByteArray) : ByteArray := if (textB s).size ≤ 256 then textB s ++ zs (256 - (textB s).size) else ⟨#[]⟩
def fillE (s : ByteArray) : Int := if (textB s).size ≤ 256 then 0 else 11
theorem conv_zeros (n : Nat) (w : World) : (convert 53 9 (.slice (some ⟨w.heap.size, 0, none⟩) n n)).run Try.prog (w.alloc (.cells ((List.replicate n (0 : UInt8)).map u8V).toArray 5)) = .ok (.string (zs n)) (w.alloc (.cells ((List.replicate n (0 : UInt8)).map u8V).toArray 5)) :=
  convert_bytes _ w.heap.size n n (List.replicate n 0) (by simp) (cell_u8 (heap_alloc_last w _))
/-- 'string(make([]byte, k))': the block that is made, under one name. -/
theorem zeros_obj (k : Nat) (hk : k ≤ 1000) : ∃ X : Obj, (∀ u : World, (Instr.makeSlice 53 (.int .i64 (k : Int)) (.int .i64 (k : Int))).run Try.prog u = .ok (.slice (some ⟨u.heap.size, 0, none⟩) k k) (u.alloc X)) ∧ ∀ u : World, (convert 53 9 (.slice (some ⟨u.heap.size, 0, none⟩) k k)).run Try.prog (u.alloc X) = .ok (.string (zs k)) (u.alloc X) :=
  ⟨_, fun u => make_bytes k k (Nat.le_refl _) hk u, fun u => conv_zeros k u⟩
set_option maxRecDepth 100000 in
theorem refFill_any (s : ByteArray) (w : World) (hs : s.size ≤ 1000000) :
    Calls Try.prog 13 #[.string s] w fun e w' => e = .returned (.tuple #[.string (fillS s), .int .i64 (fillE s)]) ∧ Below w.heap.size w w' := by
  have ht := refText_any s w (by omega)
  rw [show Oct.putB s.size ++ s = textB s from rfl] at ht
  have hsz : (textB s).size ≤ 1000100 := by rw [textB_size]; have := Oct.need_le s.size (by omega); omega
  unfold fillS fillE
  obtain ⟨T, hT⟩ : ∃ T, T = textB s := ⟨_, rfl⟩
  rw [← hT] at ht hsz ⊢
  clear hT
  by_cases h : T.size ≤ 256
  · rw [if_pos h, if_pos h]
    have hk : (256 : Int) - (T.size : Int) = ((256 - T.size : Nat) : Int) := by omega
    obtain ⟨k, hk'⟩ : ∃ k, k = 256 - T.size := ⟨_, rfl⟩
    rw [← hk'] at hk ⊢
    have hkl : k ≤ 256 := by omega
    have hzs := zs_size k
    obtain ⟨X, hmk, hcv⟩ := zeros_obj k (by omega)
    obtain ⟨Z, hZ⟩ : ∃ Z, Z = zs k := ⟨_, rfl⟩
    rw [← hZ] at hzs hcv ⊢
    clear hZ hk'
    go_enter Try.func13, Try.ntmps13
    go_wp2_with (go_at_call 38; refine ht.mono ?_; rintro e w1 ⟨rfl, hb1⟩)
    go_ret2
    exact ⟨rfl, hb1.alloc hb1.size _⟩
  · rw [if_neg h, if_neg h]
    go_enter Try.func13, Try.ntmps13
    go_wp2_with (go_at_call 38; refine ht.mono ?_; rintro e w1 ⟨rfl, hb1⟩)
    go_ret2
    exact ⟨rfl, hb1⟩
theorem fillS_size (s : ByteArray) (h : (textB s).size ≤ 256) : (fillS s).size = 256 := by
  unfold fillS
  rw [if_pos h, ByteArray.size_append, zs_size]
  omega
/-- The bytes of a sector that begin with a byte. -/
def withB (c : UInt8) : ByteArray := fillS ⟨#[c]⟩
theorem one_len (c : UInt8) : (⟨#[c]⟩ : ByteArray).size = 1 := rfl
theorem one_size (c : UInt8) : (textB ⟨#[c]⟩).size = 3 := by rw [textB_size, one_len]; decide
theorem withB_size (c : UInt8) : (withB c).size = 256 := fillS_size _ (by rw [one_size]; decide)
theorem with_any (c : UInt8) (w : World) :
    Calls Try.prog 26 #[.int .u8 (c.toNat : Int)] w fun e w' => e = .returned (.string (withB c)) ∧ Below w.heap.size w w' := by
  have hc : (c.toNat : Int) ≤ 255 := by have := c.toNat_lt; omega
  have hcv := fun u => convert_one u (c.toNat : Int) c rfl
  unfold withB
  obtain ⟨S, hS⟩ : ∃ S : ByteArray, S = ⟨#[c]⟩ := ⟨_, rfl⟩
  have hs1 : S.size ≤ 1000000 := by rw [hS, one_len]; decide
  rw [← hS] at hcv ⊢
  clear hS
  go_enter Try.func26, Try.ntmps26
  go_wp2_with (go_at_call 13; refine (refFill_any S _ hs1).mono ?_; rintro e w1 ⟨rfl, hb1⟩)
  go_ret
  exact ⟨rfl, below_step ((Below.refl _ _).alloc (Nat.le_refl _) _) (Nat.le_refl _) hb1⟩
end Go.Proofs.Ytkoojbbimjjndaa
