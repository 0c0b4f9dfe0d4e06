/-
  Package redo: the method Checkpoint of a log that is open, or broken; of no log, and of a zero one.
-/
import Derived.Test.YteggaeopnljgnaaDoorRLaw
namespace Go.Proofs.YteggaeopnljgnaaDoor
open Go.RowKit Dsk

theorem ends2 (k : Nat) (h : k ≤ 2) : k = 0 ∨ k = 1 ∨ k = 2 := by omega
/-- The functions that a checkpoint calls. -/
def fnK (r : Option Addr) : Array Value := #[.func (.func 30) #[.pointer r] #[], .func (.func 35) #[.pointer r] #[]]
theorem Checkpoint_walk (r : Option Addr) (w : World) (Po : Int → World → Prop)
    (hg : ∀ fb u, w.heap.size ≤ fb → Below w.heap.size w u → u.heap[fb]? = some (.cells (fnK r) 39 (0, 0)) → Calls Tryd.prog 29 #[.slice (some ⟨fb, 0, none⟩) 2 2] u fun e w' => ∃ r, e = .returned (.int .i64 r) ∧ Po r w') :
    Calls Tryd.prog 15 #[.pointer r] w fun e w' => ∃ r, e = .returned (.int .i64 r) ∧ Po r w' := by
  have hmf : ∀ (fn : Fn) (first cap : Array Value) (w : World), (Instr.makeFunc fn first cap).run Tryd.prog w = .ok (.func fn first cap) w := fun _ _ _ _ => rfl
  have hgo := hg w.heap.size (w.alloc (.cells (fnK r) 39)) (Nat.le_refl _) ((Below.refl _ _).alloc (Nat.le_refl _) _) (heap_alloc_last w _)
  have HGO := Lib.hid hgo
  clear hg hgo
  go_enter Tryd.func15, Tryd.ntmps15
  go_wp2_with (go_at_call 29; refine (show Calls Tryd.prog 29 _ _ _ from HGO.out).mono ?_; rintro e w3 ⟨r, rfl, h3⟩)
  go_ret
  exact ⟨r, rfl, h3⟩
end Go.Proofs.YteggaeopnljgnaaDoor
