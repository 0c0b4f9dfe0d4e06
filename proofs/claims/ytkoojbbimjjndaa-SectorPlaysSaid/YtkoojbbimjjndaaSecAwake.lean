/-
  The statements' awake: the chapter's own examples.
-/
import Derived.Test.YtkoojbbimjjndaaDiskIn
import Derived.Test.YtkoojbbimjjndaaSecFill
namespace Go.Proofs.Ytkoojbbimjjndaa
open Go.RowKit Dsk

def aD0 : Dk := Dsk.new 2
def aD1 (X : ByteArray) : Dk := writeD aD0 0 X
def aD2 (X : ByteArray) : Dk := Dsk.crash (aD1 X) (odd [0])
def aD3 (X : ByteArray) : Dk := writeD (aD2 X) 0 X
def aD4 (X : ByteArray) : Dk := Dsk.flush (aD3 X)
def aD5 (X : ByteArray) : Dk := Dsk.crash (aD4 X) (odd [])
def aD6 (X : ByteArray) : Dk := Dsk.arm (aD5 X) 1
def aD7 (X : ByteArray) : Dk := writeD (aD6 X) 1 X
def aD8 (X : ByteArray) : Dk := writeD (aD7 X) 1 X
theorem aD0_eq : aD0 = ⟨[zeroB, zeroB], [], true, false, 0, 0⟩ := rfl
section
variable {X : ByteArray} (hX : X.size = 256)
include hX
theorem ok_two (d : Dk) (k : Int) (h : d.lies.length = 2) (hk : 0 ≤ k ∧ k < 2) : writeOk d k X = true := by
  unfold writeOk hasB
  rw [h, hX]
  simp [hk]
theorem aD1_eq : aD1 X = ⟨[zeroB, zeroB], [(0, X)], true, false, 0, 1⟩ := by
  unfold aD1 writeD
  rw [if_pos (ok_two hX _ _ rfl (by decide))]; rfl
theorem aD2_eq : aD2 X = ⟨[zeroB, zeroB], [], true, false, 0, 1⟩ := by unfold aD2; rw [aD1_eq hX]; rfl
theorem aD3_eq : aD3 X = ⟨[zeroB, zeroB], [(0, X)], true, false, 0, 2⟩ := by
  unfold aD3 writeD
  rw [aD2_eq hX, if_pos (ok_two hX _ _ rfl (by decide))]; rfl
theorem aD4_eq : aD4 X = ⟨[X, zeroB], [], true, false, 0, 3⟩ := by unfold aD4; rw [aD3_eq hX]; rfl
theorem aD5_eq : aD5 X = ⟨[X, zeroB], [], true, false, 0, 3⟩ := by unfold aD5; rw [aD4_eq hX]; rfl
theorem aD6_eq : aD6 X = ⟨[X, zeroB], [], true, true, 1, 3⟩ := by unfold aD6; rw [aD5_eq hX]; rfl
theorem aD7_eq : aD7 X = ⟨[X, zeroB], [(1, X)], true, true, 0, 4⟩ := by
  unfold aD7 writeD
  rw [aD6_eq hX, if_pos (ok_two hX _ _ rfl (by decide))]; rfl
theorem aD8_eq : aD8 X = ⟨[X, zeroB], [(1, X)], false, true, 0, 4⟩ := by
  unfold aD8 writeD
  rw [aD7_eq hX, if_pos (ok_two hX _ _ rfl (by decide))]; rfl
theorem aE0 : writeE aD0 0 X = 0 := by
  unfold writeE
  rw [if_pos (ok_two hX _ _ rfl (by decide))]; rfl
theorem aR1 : readS (aD1 X) 0 = X := by rw [aD1_eq hX]; rfl
theorem aR1e : readE (aD1 X) 0 = 0 := by rw [aD1_eq hX]; rfl
theorem aP1 : peek (aD1 X) 0 = zeroB := by rw [aD1_eq hX]; rfl
theorem aR2 : readS (aD2 X) 0 = zeroB := by rw [aD2_eq hX]; rfl
theorem aR2e : readE (aD2 X) 0 = 0 := by rw [aD2_eq hX]; rfl
theorem aE3 : err (aD3 X) = 0 := by rw [aD3_eq hX]; rfl
theorem aR5 : readS (aD5 X) 0 = X := by rw [aD5_eq hX]; rfl
theorem aR5e : readE (aD5 X) 0 = 0 := by rw [aD5_eq hX]; rfl
theorem aE6 : writeE (aD6 X) 1 X = 0 := by
  unfold writeE
  rw [aD6_eq hX, if_pos (ok_two hX _ _ rfl (by decide))]; rfl
theorem aE7 : writeE (aD7 X) 1 X = 14 := by
  unfold writeE
  rw [aD7_eq hX, if_pos (ok_two hX _ _ rfl (by decide))]; rfl
theorem aS2 : (aD2 X).steps < 1000000 ∧ (aD2 X).cache.length < 1000000 := by
  rw [aD2_eq hX]
  exact ⟨(by decide : (1 : Nat) < 1000000), (by decide : (0 : Nat) < 1000000)⟩
theorem aS3 : (aD3 X).steps < 1000000 ∧ (aD3 X).cache.length < 1000000 := by
  rw [aD3_eq hX]
  exact ⟨(by decide : (2 : Nat) < 1000000), (by decide : (1 : Nat) < 1000000)⟩
theorem aS6 : (aD6 X).steps < 1000000 ∧ (aD6 X).cache.length < 1000000 := by
  rw [aD6_eq hX]
  exact ⟨(by decide : (3 : Nat) < 1000000), (by decide : (0 : Nat) < 1000000)⟩
theorem aS7 : (aD7 X).steps < 1000000 ∧ (aD7 X).cache.length < 1000000 := by
  rw [aD7_eq hX]
  exact ⟨(by decide : (4 : Nat) < 1000000), (by decide : (1 : Nat) < 1000000)⟩
theorem aO8 : (aD8 X).on = false := by rw [aD8_eq hX]
end
set_option maxHeartbeats 3200000 in
set_option maxRecDepth 100000 in
theorem awake_any (w : World) : Calls Try.prog 10 #[] w fun e w' => e = .returned (.bool true) ∧ Below w.heap.size w w' := by
  have hX := withB_size 120
  obtain ⟨X, hX'⟩ : ∃ X, X = withB 120 := ⟨_, rfl⟩
  have hw120 := fun u => with_any 120 u
  simp only [← hX'] at hw120
  rw [← hX'] at hX
  rw [show (((120 : UInt8).toNat : Nat) : Int) = 120 from rfl] at hw120
  clear hX'
  have hXl : X.size ≤ 9223372036854775807 := by omega
  have HX := Lib.hid hX
  clear hX
  obtain ⟨O, hmk, hcv⟩ := zeros_obj 256 (by decide)
  rw [show ((256 : Nat) : Int) = 256 from rfl, show zs 256 = zeroB from rfl] at *
  have hnew := newIn 2 w w.heap.size (by decide) (by decide) (Nat.le_refl _)
  rw [show ((2 : Nat) : Int) = 2 from rfl] at hnew
  have H0 : aD0 = Dsk.new 2 := rfl
  rw [← H0] at hnew
  clear H0
  go_enter Try.func10, Try.ntmps10
  go_upto_region 2 with (go_at_call 16; refine hnew.mono ?_; rintro e w0 ⟨p, rfl, h0, b0⟩)
  go_upto_region 5 with (go_at_call 26; refine (hw120 _).mono ?_; rintro e w1 ⟨rfl, b1⟩)
  have h1 := h0.old b1
  go_upto_region 6 with fail
  obtain ⟨w2, hw2⟩ : ∃ w2, w2 = w1.alloc O := ⟨_, rfl⟩
  have b2 : Below w1.heap.size w1 w2 := by rw [hw2]; exact (Below.refl _ _).alloc (Nat.le_refl _) _
  have h2 := h1.old b2
  rw [← hw2]
  clear hw2 hmk hcv
  go_upto_region 7 with (go_at_call 27; refine (writeIn _ _ _ 0 X _ h2 (by decide) (by decide) hXl).mono ?_; rintro e w3 ⟨rfl, h3, f3⟩; rw [aE0 HX.out])
  rw [show writeD aD0 0 X = aD1 X from rfl] at h3
  go_upto_region 8 with (go_at_call 32; refine (readIn _ _ _ 0 _ h3).mono ?_; rintro e w4 ⟨rfl, b4⟩; rw [aR1 HX.out, aR1e HX.out])
  have h4 := h3.old b4
  go_upto_region 9 with (go_at_call 34; refine (peekIn _ _ _ 0 _ h4).mono ?_; rintro e w4' ⟨rfl, rfl⟩; rw [aP1 HX.out])
  have al : Below w4.heap.size w4 (w4.alloc (.cells #[.int .i64 0] 3)) := (Below.refl _ _).alloc (Nat.le_refl _) _
  have hi5 : Ints (w4.alloc (.cells #[.int .i64 0] 3)) (.slice (some ⟨w4.heap.size, 0, none⟩) 1 1) [0] w4.heap.size := ⟨_, 1, rfl, by decide, fun _ => ⟨0, rfl, by simp, fun j hj => by
    obtain rfl : j = 0 := by simpa using hj
    exact cell_of (heap_alloc_last w4 _) 0⟩⟩
  have hcr := crashIn _ _ _ _ (h4.old al) _ [0] w4.heap.size hi5 (.inr (.inr ⟨_, _, heap_alloc_last w4 _⟩))
  rw [show Dsk.crash (aD1 X) (odd [0]) = aD2 X from rfl] at hcr
  go_upto_region 10 with (go_at_call 23; refine hcr.mono ?_; rintro e w5 ⟨rfl, h5, f5⟩)
  clear hcr hi5
  go_upto_region 11 with (go_at_call 32; refine (readIn _ _ _ 0 _ h5).mono ?_; rintro e w6 ⟨rfl, b6⟩; rw [aR2 HX.out, aR2e HX.out])
  have h6 := h5.old b6
  go_upto_region 12 with (go_at_call 27; refine (writeIn _ _ _ 0 X _ h6 (aS2 HX.out).1 (aS2 HX.out).2 hXl).mono ?_; rintro e w7 ⟨rfl, h7, f7⟩)
  rw [show writeD (aD2 X) 0 X = aD3 X from rfl] at h7
  go_upto_region 13 with (go_at_call 19; refine (flushIn _ _ _ _ h7 (aS3 HX.out).1).mono ?_; rintro e w8 ⟨rfl, h8, f8⟩; rw [aE3 HX.out])
  rw [show Dsk.flush (aD3 X) = aD4 X from rfl] at h8
  go_upto_region 14 with (go_at_call 23; refine (crashIn _ _ _ _ h8 _ [] w8.heap.size (Ints.nil _ _) (.inr (.inl (Nat.le_refl _)))).mono ?_; rintro e w9 ⟨rfl, h9, f9⟩)
  rw [show Dsk.crash (aD4 X) (odd []) = aD5 X from rfl] at h9
  go_upto_region 15 with (go_at_call 32; refine (readIn _ _ _ 0 _ h9).mono ?_; rintro e w10 ⟨rfl, b10⟩; rw [aR5 HX.out, aR5e HX.out])
  have h10 := h9.old b10
  go_upto_region 16 with (go_at_call 21; refine (armIn _ _ _ 1 _ h10 (by decide)).mono ?_; rintro e w11 ⟨rfl, h11, f11⟩)
  rw [show Dsk.arm (aD5 X) (Int.toNat 1) = aD6 X from rfl] at h11
  go_upto_region 17 with (go_at_call 27; refine (writeIn _ _ _ 1 X _ h11 (aS6 HX.out).1 (aS6 HX.out).2 hXl).mono ?_; rintro e w12 ⟨rfl, h12, f12⟩; rw [aE6 HX.out])
  rw [show writeD (aD6 X) 1 X = aD7 X from rfl] at h12
  go_upto_region 18 with (go_at_call 27; refine (writeIn _ _ _ 1 X _ h12 (aS7 HX.out).1 (aS7 HX.out).2 hXl).mono ?_; rintro e w13 ⟨rfl, h13, f13⟩; rw [aE7 HX.out])
  rw [show writeD (aD7 X) 1 X = aD8 X from rfl] at h13
  go_wp2_with (go_at_call 29; refine (onIn _ _ _ _ h13).mono ?_; rintro e w14 ⟨rfl, rfl⟩; rw [aO8 HX.out])
  go_ret
  have s2 := below_step (below_step b0 (Nat.le_refl _) b1) (Nat.le_refl _) b2
  have s5 := (below_step (below_step (s2.trans f3.below) (Nat.le_refl _) b4) (Nat.le_refl _) al).trans f5.below
  have s9 := (((below_step s5 (Nat.le_refl _) b6).trans f7.below).trans f8.below).trans f9.below
  exact ⟨rfl, (((below_step s9 (Nat.le_refl _) b10).trans f11.below).trans f12.below).trans f13.below⟩
end Go.Proofs.Ytkoojbbimjjndaa
