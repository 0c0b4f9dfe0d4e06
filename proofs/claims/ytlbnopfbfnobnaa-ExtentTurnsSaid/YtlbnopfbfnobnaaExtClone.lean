/-
  slices.Clone of runs, put.
-/
import Derived.Test.YtlbnopfbfnobnaaExtSmall
import Derived.Lib.Hide
import Derived.Lib.AppendZeros
import Derived.Lib.SliceRun
namespace Go.Proofs.Ytlbnopfbfnobnaa
open Go.RowKit Ext

theorem Own.empty (B : Nat) (w : World) (hB : B ≤ w.heap.size) : Own B (w.alloc (.cells #[] 24)) (.slice (some ⟨w.heap.size, 0, none⟩) 0 0) [] :=
  ⟨World.ownsRow_made w #[] 0 hB (by decide) (by simp), fun r hr => by cases hr⟩
set_option maxHeartbeats 1600000 in
theorem clone_any (v : Value) (l : List Rn) (w : World) (hl : Runs w v l) (hn : l.length ≤ 1000000) :
    Calls Try.prog 29 #[v] w fun e w' => ∃ v', e = .returned v' ∧ Runs w' v' l ∧ Below w.heap.size w w' := by
  obtain ⟨va, cap, rfl, hlc, hcap⟩ := hl.slice
  have q22 : ∀ (w : World) (a : Option Addr) (n c n' c' : Nat), (binOp .eql 22 (.slice a n c) (.slice none n' c')).run Try.prog w = .ok (.bool a.isNone) w := fun w a n c n' c' => Lib.run_eql_slice_nil w _ _ a n c n' c' Try.underlying22
  cases va with
  | none =>
    go_enter Try.func29, Try.ntmps29
    go_wp2
    go_ret
    rcases hl.news with ⟨_, rfl⟩ | ⟨a, c, e, _⟩
    · exact ⟨_, rfl, Runs.nil _, Below.refl _ _⟩
    · injection e with e _ _; cases e
  | some va =>
    obtain ⟨v', w', hr, ho, hb⟩ := append_own (B := w.heap.size) 22 (Own.empty w.heap.size w (Nat.le_refl _)) (hl.old (below_box w _)) (by simp) (by simp; omega)
    rw [List.nil_append] at ho
    have HO := Lib.hid ho
    have HR := Lib.hid hr
    clear ho hr
    go_enter Try.func29, Try.ntmps29
    go_wp2_with (at_builtin; refine Lib.wpList_append_run _ rfl _ _ _ _ rfl _ _ rfl rfl _ _ HR.out ?_)
    go_ret
    exact ⟨_, rfl, HO.out.runs, (below_box w _).trans hb⟩
end Go.Proofs.Ytlbnopfbfnobnaa
