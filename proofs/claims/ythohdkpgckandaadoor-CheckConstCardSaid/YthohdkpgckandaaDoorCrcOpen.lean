/-
  Package check and the document's own: what Open tells.
-/
import Derived.Test.YthohdkpgckandaaDoorCrcOf
import Derived.Deep.Cut
namespace Go.Proofs.YthohdkpgckandaaDoor
open Go.RowKit

/-- Is a text sealed? -/
def sealed (S : ByteArray) : Bool := decide (4 ≤ S.size) && decide (Crc.of S.data.toList = Crc.good)
/-- What a sealed text is the sealing of. -/
def openB (S : ByteArray) : ByteArray := if sealed S = true then S.extract 0 (S.size - 4) else ⟨#[]⟩
theorem sealed_short {S : ByteArray} (h : S.size < 4) : sealed S = false := by
  unfold sealed
  rw [decide_eq_false (by omega), Bool.false_and]
theorem sealed_long {S : ByteArray} (h : 4 ≤ S.size) : sealed S = decide (Crc.of S.data.toList = Crc.good) := by
  unfold sealed
  rw [decide_eq_true h, Bool.true_and]
theorem cut_data (S : ByteArray) (n : Nat) : (S.extract 0 n).data.toList = S.data.toList.take n := by
  rw [ByteArray.data_extract]; simp
theorem sealed_iff {S : ByteArray} (h : 4 ≤ S.size) : decide (sealB (S.extract 0 (S.size - 4)) = S) = sealed S := by
  rw [sealed_long h]
  refine decide_eq_decide.2 ?_
  have hl : 4 ≤ S.data.toList.length := by rw [← Lib.size_eq]; exact h
  rw [Crc.good_iff _ hl]
  have e : (sealB (S.extract 0 (S.size - 4))).data.toList = Crc.seals (S.data.toList.take (S.data.toList.length - 4)) := by
    rw [sealB_data, cut_data, Lib.size_eq]
  rw [← e]
  constructor
  · intro h; rw [h]
  · intro h; exact ByteArray.ext (Array.toList_inj.1 h)
theorem sealed_sealB (S : ByteArray) : sealed (sealB S) = true := by
  rw [sealed_long (by rw [sealB_size]; omega), sealB_data]
  exact decide_eq_true (Crc.of_seals _)
theorem openB_sealB (S : ByteArray) : openB (sealB S) = S := by
  unfold openB
  rw [if_pos (sealed_sealB S)]
  apply ByteArray.ext
  apply Array.toList_inj.1
  rw [cut_data, sealB_data, sealB_size, Lib.size_eq]
  unfold Crc.seals
  simp

set_option maxHeartbeats 1000000 in
set_option maxRecDepth 100000 in
theorem open_any (S : ByteArray) (w : World) (hT : TW w) (hl : S.size ≤ 1000000) :
    Calls Tryd.prog 16 #[.string S] w fun e w' => e = .returned (.tuple #[.string (openB S), .bool (sealed S)]) ∧ Below w.heap.size w w' := by
  have hle : S.data.toList.length ≤ 9223372036854775807 := by rw [← Lib.size_eq]; omega
  by_cases h4 : S.size < 4
  · have hs := sealed_short h4
    have ho : openB S = ⟨#[]⟩ := by unfold openB; rw [hs]; rfl
    rw [hs, ho]
    go_enter Tryd.func16, Tryd.ntmps16
    go_wp2_with (fail)
    go_ret2
    exact ⟨rfl, Below.refl _ _⟩
  · have h4' : 4 ≤ S.size := by omega
    have hs := sealed_long h4'
    have hw := whole_any S _ rfl w hT hle
    rw [← hs] at hw
    have HW := Lib.hid hw
    clear hw
    cases hb : sealed S with
    | false =>
      have ho : openB S = ⟨#[]⟩ := by unfold openB; rw [hb]; rfl
      rw [hb] at HW
      rw [ho]
      go_enter Tryd.func16, Tryd.ntmps16
      go_wp2_with (go_at_call 20; refine HW.out.mono ?_; rintro e w1 ⟨rfl, b1⟩)
      go_ret2
      exact ⟨rfl, b1⟩
    | true =>
      have ho : openB S = S.extract 0 (S.size - 4) := by unfold openB; rw [if_pos hb]
      rw [hb] at HW
      rw [ho]
      go_enter Tryd.func16, Tryd.ntmps16
      go_wp2_with (go_at_call 20; refine HW.out.mono ?_; rintro e w1 ⟨rfl, b1⟩)
      go_ret2
      exact ⟨rfl, b1⟩

set_option maxHeartbeats 1000000 in
set_option maxRecDepth 100000 in
theorem ropen_any (S : ByteArray) (w : World) (hl : S.size ≤ 1000000) :
    Calls Tryd.prog 17 #[.string S] w fun e w' => e = .returned (.tuple #[.string (openB S), .bool (sealed S)]) ∧ Below w.heap.size w w' := by
  by_cases h4 : S.size < 4
  · have hs := sealed_short h4
    have ho : openB S = ⟨#[]⟩ := by unfold openB; rw [hs]; rfl
    rw [hs, ho]
    go_enter Tryd.func17, Tryd.ntmps17
    go_wp2_with (fail)
    go_ret2
    exact ⟨rfl, Below.refl _ _⟩
  · have h4' : 4 ≤ S.size := by omega
    have hs := sealed_iff h4'
    have ho : openB S = if sealed S = true then S.extract 0 (S.size - 4) else ⟨#[]⟩ := rfl
    have hw := rseal_any (S.extract 0 (S.size - 4)) (by rw [ByteArray.size_extract]; omega) w
    generalize sealB (S.extract 0 (S.size - 4)) = X at *
    have HW := Lib.hid hw
    clear hw
    by_cases hx : X = S
    · rw [decide_eq_true hx] at hs
      rw [← hs, if_pos rfl] at ho
      rw [← hs, ho]
      subst hx
      clear ho hs
      go_enter Tryd.func17, Tryd.ntmps17
      go_wp2_with (go_at_call 19; refine HW.out.mono ?_; rintro e w1 ⟨rfl, b1⟩)
      go_ret2
      exact ⟨rfl, b1⟩
    · rw [decide_eq_false hx] at hs
      rw [← hs, if_neg (by decide)] at ho
      rw [← hs, ho]
      have hl : (X.toList == S.toList) = false := by
        have : X.toList ≠ S.toList := fun e => hx (by rw [Lib.toList_data, Lib.toList_data] at e; exact ByteArray.ext (Array.toList_inj.1 e))
        simpa using this
      clear ho hs
      go_enter Tryd.func17, Tryd.ntmps17
      go_wp2_with (go_at_call 19; refine HW.out.mono ?_; rintro e w1 ⟨rfl, b1⟩)
      go_ret2
      exact ⟨rfl, b1⟩

set_option maxHeartbeats 1000000 in
theorem short4_any (s : ByteArray) (n : Nat) (z : Int) (hz : z = (n : Int)) (w : World) :
    Calls Tryd.prog 11 #[.string s, .int .i64 z] w fun e w' => e = .returned (.string (shortB s n)) ∧ w = w' := by
  subst hz
  unfold shortB
  by_cases h : n < s.size
  · rw [if_pos h]
    have h' : (n : Int) < (s.size : Int) := by omega
    go_enter Tryd.func11, Tryd.ntmps11
    go_wp2
    go_ret
    exact ⟨rfl, rfl⟩
  · rw [if_neg h]
    have h' : ¬ (n : Int) < (s.size : Int) := by omega
    go_enter Tryd.func11, Tryd.ntmps11
    go_wp2
    go_ret
    exact ⟨rfl, rfl⟩

end Go.Proofs.YthohdkpgckandaaDoor
