/-
  SectorNil: of no disk nothing comes, at every call; a zero disk has no sectors and no power, and a crash gives it none. For every place, no condition.
-/
import Derived.Test.YtnieebkkpmdgmaaSecAwake
import Derived.Test.YtnieebkkpmdgmaaDiskZero
import Derived.Test.YtnieebkkpmdgmaaGenLaw
namespace Go.Proofs.Ytnieebkkpmdgmaa.sectorNil
open Go.ChangeShapes Go.WideShapes Go.ChangeAt Go.RowKit Dsk

set_option maxHeartbeats 3200000 in
set_option maxRecDepth 100000 in
theorem walk {w : World} (a : Int) (_l : -9223372036854775808 ≤ a) (_m : a ≤ 9223372036854775807) :
    Calls Try.prog 8 #[.int .i64 a] w fun e w' => e = .returned (.bool true) ∧ Below w.heap.size w w' := by
  obtain ⟨X, hX'⟩ : ∃ X, X = withB 120 := ⟨_, rfl⟩
  have hw120 := fun u => with_any 120 u
  simp only [← hX'] at hw120
  rw [show (((120 : UInt8).toNat : Nat) : Int) = 120 from rfl] at hw120
  clear hX'
  go_enter Try.func8, Try.ntmps8
  go_upto_region 3 with fail
  obtain ⟨w0, hw0⟩ : ∃ w0, w0 = w.alloc (.cells #[.slice none 0 0, .slice none 0 0, .bool false, .bool false, .int .i64 0, .int .i64 0] 58) := ⟨_, rfl⟩
  have hz : ZeroAt w.heap.size w0 := by rw [hw0]; exact heap_alloc_last w _
  have b0 : Below w.heap.size w w0 := by rw [hw0]; exact (Below.refl _ _).alloc (Nat.le_refl _) _
  rw [← hw0]
  clear hw0
  go_upto_region 4 with (go_at_call 26; refine (hw120 _).mono ?_; rintro e w1 ⟨rfl, b1⟩)
  have hz1 := hz.old b1
  go_upto_region 5 with (go_at_call 21; refine (arm_nil _ _).mono ?_; rintro e w1' ⟨rfl, rfl⟩)
  have al : Below w1.heap.size w1 (w1.alloc (.cells #[.int .i64 1] 3)) := (Below.refl _ _).alloc (Nat.le_refl _) _
  have hi : Ints (w1.alloc (.cells #[.int .i64 1] 3)) (.slice (some ⟨w1.heap.size, 0, none⟩) 1 1) [1] w1.heap.size := ⟨_, 1, rfl, by decide, fun _ => ⟨0, rfl, by simp, fun j hj => by
    obtain rfl : j = 0 := by simpa using hj
    exact cell_of (heap_alloc_last w1 _) 0⟩⟩
  go_upto_region 6 with (go_at_call 23; refine (crash_nil _ [1] w1.heap.size _ hi).mono ?_; rintro e w2 ⟨rfl, b2⟩)
  have hz2 := (hz1.old al).old b2
  have al2 : Below w2.heap.size w2 (w2.alloc (.cells #[.int .i64 1] 3)) := (Below.refl _ _).alloc (Nat.le_refl _) _
  go_upto_region 7 with (go_at_call 23; refine (crash_z _ _ _ _ _ (hz2.old al2)).mono ?_; rintro e w3 ⟨rfl, hz3, o3⟩)
  go_upto_region 8 with (go_at_call 32; refine (read_nil _ _).mono ?_; rintro e w3' ⟨rfl, rfl⟩)
  go_upto_region 9 with (go_at_call 32; refine (read_z _ _ _ hz3).mono ?_; rintro e w3' ⟨rfl, rfl⟩)
  go_wp2_with (first
    | (go_at_call 10; refine (awake_any _).mono ?_; rintro e w4 ⟨rfl, b4⟩; have hz4 := hz3.old b4)
    | (go_at_call 27; first | (with_reducible refine (write_nil _ _ _).mono ?_; rintro e w5 ⟨rfl, rfl⟩) | (with_reducible refine (write_z _ _ _ _ hz4).mono ?_; rintro e w5 ⟨rfl, rfl⟩))
    | (go_at_call 19; refine (flush_nil _).mono ?_; rintro e w5 ⟨rfl, rfl⟩)
    | (go_at_call 18; first | (with_reducible refine (sectors_nil _).mono ?_; rintro e w5 ⟨rfl, rfl⟩) | (with_reducible refine (sectors_z _ _ hz4).mono ?_; rintro e w5 ⟨rfl, rfl⟩))
    | (go_at_call 30; refine (steps_nil _).mono ?_; rintro e w5 ⟨rfl, rfl⟩)
    | (go_at_call 31; refine (cached_nil _).mono ?_; rintro e w5 ⟨rfl, rfl⟩)
    | (go_at_call 29; first | (with_reducible refine (on_nil _).mono ?_; rintro e w5 ⟨rfl, rfl⟩) | (with_reducible refine (on_z _ _ hz4).mono ?_; rintro e w5 ⟨rfl, rfl⟩))
    | (go_at_call 34; first | (with_reducible refine (peek_nil _ _).mono ?_; rintro e w5 ⟨rfl, rfl⟩) | (with_reducible refine (peek_z _ _ _ hz4).mono ?_; rintro e w5 ⟨rfl, rfl⟩)))
  go_ret
  have s1 := below_step (below_step (below_step b0 (Nat.le_refl _) b1) (Nat.le_refl _) al) (Nat.le_refl _) b2
  have s2 := below_step s1 (Nat.le_refl _) al2
  exact ⟨rfl, below_step (s2.trans (o3.below (Nat.le_refl _) s2.size)) (Nat.le_refl _) b4⟩

set_option maxRecDepth 100000 in
theorem lifted (os : Os) (started : os.Started) (H : Type) (enc : TypeId × Value → H) :
    ReturnsInHanded {} Try.checked os 8 .any (Rows.sectorNilSpec.pre6 enc Try.prog Try.f8 Rows.sectorNilRow.domain false) (Rows.sectorNilSpec.post enc Try.prog Try.f8 false true false false) := by
  refine returnsInHanded_of_change (C := Try.checked) lawOwn started (by kernel_rfl) Try.func8
    (ChangeSpec.witness6 (enc := enc) (C := Try.checked) false ⟨#[], #[.int .i64 0], []⟩ 8 (by kernel_rfl) (by kernel_rfl) (by kernel_rfl) (by kernel_rfl)) ?_
  intro W base args ds gs before hval0 hW hcnd _
  have hval : ∀ (j : Nat) t v, Try.f8.params[j]? = some t → args[j]? = some v → Value.okWide Try.prog W .any base t v := hval0
  have hW' := hW
  obtain ⟨p, q, hA0, hV, rfl, hfz, hnd⟩ := hW
  have hA : DataW.TrodAll enc Try.prog W 0 (fun _ => true) true Try.f8.params.toList args.toList ds p := hA0
  rw [Try.params8] at hA hval
  obtain ⟨v0, vs0, d0, ds0, p0, q0, hargs, rfl, rfl, h0, r0⟩ := trodAll_cons hA
  obtain ⟨rfl, rfl, rfl⟩ := trodAll_nil r0
  obtain rfl : args = #[v0] := by cases args; simp_all
  obtain ⟨rfl, rfl⟩ := trodVars_none hV
  obtain ⟨a0, rfl, rfl, rfl, w0⟩ := open_int Try.underlying3 (hval 0 3 v0 rfl rfl) h0
  clear hA0 hval0 hcnd
  obtain ⟨l0, m0⟩ := i64_bounds w0
  refine (walk (w := W) a0 l0 m0).mono fun e W' ⟨he, bel⟩ => ?_
  subst he
  exact ⟨_, rfl, law_post rfl rfl (by kernel_rfl) hW' rfl bel⟩

theorem holds : Rows.SectorNilSaid :=
  OpenClaim.holds_of_wide 8 Try.f8 rfl rfl rfl rfl rfl rfl rfl ⟨rfl, rfl, rfl, rfl, rfl⟩ rfl rfl rfl rfl rfl (by kernel_rfl) Try.func8 (by kernel_rfl)
    (of_decide_eq_true (by kernel_rfl)) (by unfold Func.isWrapper; first | (rw [if_pos (by decide +kernel)]; kernel_rfl) | (rw [if_neg (by decide +kernel)]; exact ⟨rfl, rfl⟩))
    (fun os started H enc _ => lifted os started H enc)
end Go.Proofs.Ytnieebkkpmdgmaa.sectorNil

theorem Go.Proofs.Ytnieebkkpmdgmaa.sectorNil_holds : Go.Proofs.Ytnieebkkpmdgmaa.Rows.SectorNilSaid := Go.Proofs.Ytnieebkkpmdgmaa.sectorNil.holds
#print axioms Go.Proofs.Ytnieebkkpmdgmaa.sectorNil_holds
