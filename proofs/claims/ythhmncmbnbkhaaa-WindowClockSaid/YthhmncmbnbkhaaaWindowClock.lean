/-
  WindowClock: a clock that is ticked never goes back, and tells each time that is no less. For every slice of numbers (of a longer one the first 30), no condition.
-/
import Derived.Test.YthhmncmbnbkhaaaWinAll
import Derived.Test.YthhmncmbnbkhaaaWinArg
namespace Go.Proofs.Ythhmncmbnbkhaaa.windowClock
open Go.ChangeShapes Go.WideShapes Go.ChangeAt Go.RowKit

set_option maxHeartbeats 6400000 in
set_option maxRecDepth 100000 in
theorem walk {w : World} (v : Value) (l : List Int) (pb : Nat) (hl : Ints w v l pb) (_hpb : pb < w.heap.size ∨ l = []) :
    Calls Try.prog 5 #[v] w fun e w' => e = .returned (.bool true) ∧ Below w.heap.size w w' := by
  clear _hpb
  obtain ⟨a, cap, rfl, ⟨hlc, hcap⟩, _⟩ := id hl
  go_enter Try.func5, Try.ntmps5
  go_upto_region 3 with (go_at_call 7; ((with_reducible refine (awake_any _).mono ?_); rintro e w1 ⟨rfl, b1⟩))
  replace hl := hl.old b1
  obtain ⟨n, hn⟩ : ∃ n, n = l.length := ⟨_, rfl⟩
  have HL : Hid (∀ j, j < n → ∃ off y, a = some ⟨pb, off, none⟩ ∧ w1.cell? ⟨pb, off + j, none⟩ = some (.int .i64 y)) := Lib.hid fun j hj => by
    obtain ⟨a', cap', e, _, hc⟩ := hl
    injection e with e1 _ _
    subst e1
    obtain ⟨off, h1, _, h2⟩ := hc (fun e => by rw [e] at hn; simp at hn; omega)
    exact ⟨off, _, h1, h2 j (by omega)⟩
  rw [← hn] at hlc ⊢
  clear hn hl
  go_wp2
  go_loopw [4, 5, 6, 7, 8] (fun s4 s5 _ _ _ wr => ∃ (now : Int) (j : Nat), s4 = .int .i64 now ∧ 0 ≤ now ∧ s5 = .int .i64 j ∧ j ≤ 30 ∧ j ≤ n ∧ wr = w1) (fun _ s5 _ _ _ _ => n - (intOf s5).toNat)
  case atStart => exact ⟨0, 0, rfl, by omega, rfl, by omega, by omega, rfl⟩
  case round =>
    obtain ⟨now, j, rfl, hnow, rfl, hj30, hjn, rfl⟩ := hrel
    by_cases hjl : j < n
    · by_cases hj3 : j < 30
      · obtain ⟨off, y, rfl, hc⟩ := HL.out j hjl
        have q := fun u => tick_any now y u
        by_cases hy : now ≤ y
        · by_cases hy2 : y ≤ 1125899906842624
          · rw [show tickB now y = true from decide_eq_true ⟨⟨by omega, hy2⟩, hy⟩, if_pos rfl, if_pos rfl] at q
            go_wp2_with (go_at_call 14; ((with_reducible refine (q _).mono ?_); rintro e v1 ⟨rfl, rfl⟩))
            go_roundw
            case rel => exact ⟨y, j + 1, rfl, by omega, by go_num, by omega, by omega, trivial⟩
            case measure => simp [intOf]; omega
          · rw [show tickB now y = false from decide_eq_false fun h => hy2 h.1.2, if_neg Bool.false_ne_true, if_neg Bool.false_ne_true] at q
            go_wp2_with (go_at_call 14; ((with_reducible refine (q _).mono ?_); rintro e v1 ⟨rfl, rfl⟩))
            go_roundw
            case rel => exact ⟨now, j + 1, rfl, by omega, by go_num, by omega, by omega, trivial⟩
            case measure => simp [intOf]; omega
        · rw [show tickB now y = false from decide_eq_false fun h => hy h.2, if_neg Bool.false_ne_true, if_neg Bool.false_ne_true] at q
          go_wp2_with (go_at_call 14; ((with_reducible refine (q _).mono ?_); rintro e v1 ⟨rfl, rfl⟩))
          go_roundw
          case rel => exact ⟨now, j + 1, rfl, by omega, by go_num, by omega, by omega, trivial⟩
          case measure => simp [intOf]; omega
      · go_wp2
        go_ret
        exact ⟨by simp, b1⟩
    · go_wp2
      go_ret
      exact ⟨by simp, b1⟩
set_option maxRecDepth 100000 in
theorem lifted (os : Os) (started : os.Started) (H : Type) (enc : TypeId × Value → H) :
    ReturnsInHanded {} Try.checked os 5 .any (Rows.windowClockSpec.pre6 enc Try.prog Try.f5 Rows.windowClockRow.domain false) (Rows.windowClockSpec.post enc Try.prog Try.f5 false true false false) := by
  refine returnsInHanded_of_change (C := Try.checked) lawOwn started (by kernel_rfl) Try.func5
    (ChangeSpec.witness6 (enc := enc) (C := Try.checked) false ⟨#[], #[.slice none 0 0], []⟩ 8 (by kernel_rfl) (by kernel_rfl) (by kernel_rfl) (by kernel_rfl)) ?_
  intro W base args ds gs before hval0 hW hcnd _
  have hval : ∀ (j : Nat) t v, Try.f5.params[j]? = some t → args[j]? = some v → Value.okWide Try.prog W .any base t v := hval0
  have hW' := hW
  obtain ⟨p, q, hA0, hV, rfl, hfz, hnd⟩ := hW
  have hA : DataW.TrodAll enc Try.prog W 0 (fun _ => true) true Try.f5.params.toList args.toList ds p := hA0
  rw [Try.params5] at hA hval
  obtain ⟨v0, vs0, d0, ds0, p0, q0, hargs, rfl, rfl, h0, r0⟩ := trodAll_cons hA
  obtain ⟨rfl, rfl, rfl⟩ := trodAll_nil r0
  obtain rfl : args = #[v0] := by cases args; simp_all
  obtain ⟨rfl, rfl⟩ := trodVars_none hV
  obtain ⟨a0, len0, cap0, rfl⟩ := okWide_slice Try.underlying30 (hval 0 30 v0 rfl rfl)
  obtain ⟨zs0, b0, w0, u0⟩ := ints_of h0
  clear hA0 hval0 hcnd
  refine (walk (w := W) _ zs0 b0 w0 u0).mono fun e W' ⟨he, bel⟩ => ?_
  subst he
  exact ⟨_, rfl, law_post rfl rfl (by kernel_rfl) hW' rfl bel⟩

theorem holds : Rows.WindowClockSaid :=
  OpenClaim.holds_of_wide 5 Try.f5 rfl rfl rfl rfl rfl rfl rfl ⟨rfl, rfl, rfl, rfl, rfl⟩ rfl rfl rfl rfl rfl (by kernel_rfl) Try.func5 (by kernel_rfl)
    (of_decide_eq_true (by kernel_rfl)) (by unfold Func.isWrapper; first | (rw [if_pos (by decide +kernel)]; kernel_rfl) | (rw [if_neg (by decide +kernel)]; exact ⟨rfl, rfl⟩))
    (fun os started H enc _ => lifted os started H enc)
end Go.Proofs.Ythhmncmbnbkhaaa.windowClock

theorem Go.Proofs.Ythhmncmbnbkhaaa.windowClock_holds : Go.Proofs.Ythhmncmbnbkhaaa.Rows.WindowClockSaid := Go.Proofs.Ythhmncmbnbkhaaa.windowClock.holds
#print axioms Go.Proofs.Ythhmncmbnbkhaaa.windowClock_holds
