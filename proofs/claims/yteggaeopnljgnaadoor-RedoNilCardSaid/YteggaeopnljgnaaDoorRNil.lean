/-
  Package redo: the calls of no log, and of a zero one.
-/
import Derived.Test.YteggaeopnljgnaaDoorRCkp
namespace Go.Proofs.YteggaeopnljgnaaDoor
open Go.RowKit Dsk

theorem eql_err_t (a b : Int) (h : a = b) (w : World) : (binOp .eql 26 (.int .i64 a) (.int .i64 b)).run Tryd.prog w = .ok (.bool true) w := by
  subst h
  go_simp
theorem load_put {b o : Nat} {x : Int} {s : ByteArray} {w : World} (h0 : w.cell? ⟨b, o, none⟩ = some (.int .i64 x)) (h1 : w.cell? ⟨b, o + 1, none⟩ = some (.string s)) : (Instr.loadAt 35 (.pointer (some ⟨b, o, none⟩))).run Tryd.prog w = .ok (.agg #[.int .i64 x, .string s]) w := by go_simp
/-- A slice of one element. -/
def RT.one : RT := ⟨fun v _ => ∃ b, v = .slice (some ⟨b, 0, none⟩) 1 1, fun _ _ _ h _ => h⟩
def zlogC : Array Value := #[.pointer none, .int .i64 0, .int .i64 0, .int .i64 0, .int .i64 0, .int .i64 0, .int .i64 0]
/-- Block b is a zero log. -/
def ZLog (b : Nat) (w : World) : Prop := w.heap[b]? = some (.cells zlogC 45 (0, 0))
theorem ZLog.old {b : Nat} {w w' : World} (h : ZLog b w) (hb : Below w.heap.size w w') : ZLog b w' := (hb.block b (Array.getElem?_eq_some_iff.1 h).1).trans h
theorem ready_nil (w : World) : Calls Tryd.prog 30 #[.pointer none] w fun e w' => e = .returned (.int .i64 1) ∧ w = w' := by
  go_enter Tryd.func30, Tryd.ntmps30
  go_wp2
  go_ret
  exact ⟨rfl, rfl⟩
theorem ready_zero (b : Nat) (w : World) (h : ZLog b w) : Calls Tryd.prog 30 #[.pointer (some ⟨b, 0, none⟩)] w fun e w' => e = .returned (.int .i64 13) ∧ w = w' := by
  have c0 : w.cell? ⟨b, 0, none⟩ = some (.pointer none) := cell_of h 0
  go_enter Tryd.func30, Tryd.ntmps30
  go_wp2
  go_ret
  exact ⟨rfl, rfl⟩
theorem used_nil (w : World) : Calls Tryd.prog 13 #[.pointer none] w fun e w' => e = .returned (.int .i64 0) ∧ Below w.heap.size w w' := by
  go_enter Tryd.func13, Tryd.ntmps13
  go_wp2
  go_ret
  exact ⟨rfl, Below.refl _ _⟩
theorem seq_nil (w : World) : Calls Tryd.prog 14 #[.pointer none] w fun e w' => e = .returned (.int .i64 0) ∧ Below w.heap.size w w' := by
  go_enter Tryd.func14, Tryd.ntmps14
  go_wp2
  go_ret
  exact ⟨rfl, Below.refl _ _⟩
theorem room_nil (w : World) : Calls Tryd.prog 10 #[.pointer none] w fun e w' => e = .returned (.int .i64 0) ∧ Below w.heap.size w w' := by
  go_enter Tryd.func10, Tryd.ntmps10
  go_wp2
  go_ret
  exact ⟨rfl, Below.refl _ _⟩
theorem used_zero (b : Nat) (w : World) (h : ZLog b w) : Calls Tryd.prog 13 #[.pointer (some ⟨b, 0, none⟩)] w fun e w' => e = .returned (.int .i64 0) ∧ Below w.heap.size w w' := by
  have c0 : w.cell? ⟨b, 6, none⟩ = some (.int .i64 0) := cell_of h 6
  go_enter Tryd.func13, Tryd.ntmps13
  go_wp2
  go_ret
  exact ⟨rfl, Below.refl _ _⟩
theorem room_zero (b : Nat) (w : World) (h : ZLog b w) : Calls Tryd.prog 10 #[.pointer (some ⟨b, 0, none⟩)] w fun e w' => e = .returned (.int .i64 0) ∧ Below w.heap.size w w' := by
  have c0 : w.cell? ⟨b, 0, none⟩ = some (.pointer none) := cell_of h 0
  go_enter Tryd.func10, Tryd.ntmps10
  go_wp2
  go_ret
  exact ⟨rfl, Below.refl _ _⟩
theorem read_nil (z : Int) (w : World) : Calls Tryd.prog 16 #[.pointer none, .int .i64 z] w fun e w' => e = .returned (.tuple #[.string ⟨#[]⟩, .int .i64 1]) ∧ w = w' := by
  have hr := ready_nil w
  go_enter Tryd.func16, Tryd.ntmps16
  go_wp2_with (go_at_call 30; refine hr.mono ?_; rintro e w1 ⟨rfl, rfl⟩)
  go_ret2
  exact ⟨rfl, rfl⟩
theorem read_zero (b : Nat) (z : Int) (w : World) (h : ZLog b w) : Calls Tryd.prog 16 #[.pointer (some ⟨b, 0, none⟩), .int .i64 z] w fun e w' => e = .returned (.tuple #[.string ⟨#[]⟩, .int .i64 13]) ∧ w = w' := by
  have hr := ready_zero b w h
  go_enter Tryd.func16, Tryd.ntmps16
  go_wp2_with (go_at_call 30; refine hr.mono ?_; rintro e w1 ⟨rfl, rfl⟩)
  go_ret2
  exact ⟨rfl, rfl⟩
/-- A checkpoint of a log that is not ready. -/
theorem checkpoint_stop (r : Option Addr) (z : Int) (w : World) (hz : z ≠ 0) (h : ∀ u, Below w.heap.size w u → Calls Tryd.prog 30 #[.pointer r] u fun e w' => e = .returned (.int .i64 z) ∧ u = w') :
    Calls Tryd.prog 15 #[.pointer r] w fun e w' => e = .returned (.int .i64 z) ∧ Below w.heap.size w w' := by
  have key : Calls Tryd.prog 15 #[.pointer r] w fun e w' => ∃ y, e = .returned (.int .i64 y) ∧ y = z ∧ Below w.heap.size w w' := by
    refine Checkpoint_walk r w _ fun fb u hfb hb hf => ?_
    refine goOn2 _ _ _ _ fb u (fun k u' => k = 0 ∧ u' = u) _ rfl rfl (fun k u' hk => by rw [hk.2]; exact hf) ⟨rfl, rfl⟩ (fun u' hk => ?_) (fun u' hk => absurd hk.1 (by decide)) (fun u' hk => absurd hk.1 (by decide))
    rw [hk.2]
    exact (h u hb).mono fun e w' ⟨he, hw⟩ => ⟨z, he, fun e => absurd e hz, fun _ => ⟨rfl, hw ▸ hb⟩⟩
  exact key.mono fun e w' ⟨y, he, hy, hb⟩ => ⟨by rw [he, hy], hb⟩
/-- The functions that a commit of any log calls. -/
def fnV (r : Option Addr) (v : Value) : Array Value := #[.func (.func 30) #[.pointer r] #[], .func (.func 31) #[.agg #[.pointer r, v]] #[], .func (.func 32) #[.agg #[.pointer r, v]] #[], .func (.func 33) #[.agg #[.pointer r, v]] #[]]
set_option maxHeartbeats 1600000 in
set_option maxRecDepth 100000 in
theorem commit_stop (r : Option Addr) (a : Option Addr) (n cap : Nat) (z : Int) (w : World) (hz : z ≠ 0) (h : ∀ u, Below w.heap.size w u → Calls Tryd.prog 30 #[.pointer r] u fun e w' => e = .returned (.int .i64 z) ∧ u = w') :
    Calls Tryd.prog 11 #[.pointer r, .slice a n cap] w fun e w' => e = .returned (.int .i64 z) ∧ Below w.heap.size w w' := by
  have hmf : ∀ (fn : Fn) (first cap : Array Value) (w : World), (Instr.makeFunc fn first cap).run Tryd.prog w = .ok (.func fn first cap) w := fun _ _ _ _ => rfl
  obtain ⟨wb, hwb⟩ : ∃ wb, wb = w.alloc (.cells #[.pointer r, .slice a n cap] 67) := ⟨_, rfl⟩
  obtain ⟨b0, hb0⟩ : ∃ b0, b0 = w.heap.size := ⟨_, rfl⟩
  have hbb : Below w.heap.size w wb := by rw [hwb]; exact (Below.refl _ _).alloc (Nat.le_refl _) _
  have htb : wb.heap[b0]? = some (.cells #[.pointer r, .slice a n cap] 67 (0, 0)) := by rw [hwb, hb0]; exact heap_alloc_last w _
  have cb0 : wb.cell? ⟨b0, 0, none⟩ = some (.pointer r) := cell_of htb 0
  have cb1 : wb.cell? ⟨b0, 1, none⟩ = some (.slice a n cap) := cell_of htb 1
  have hbf : Below w.heap.size w (wb.alloc (.cells (fnV r (.slice a n cap)) 39)) := hbb.alloc hbb.size _
  have hgo : Calls Tryd.prog 29 #[.slice (some ⟨wb.heap.size, 0, none⟩) 4 4] (wb.alloc (.cells (fnV r (.slice a n cap)) 39)) fun e w' => ∃ y, e = .returned (.int .i64 y) ∧ y = z ∧ Below w.heap.size w w' := by
    refine goOn4 _ _ _ _ _ _ wb.heap.size _ (fun k u' => k = 0 ∧ u' = wb.alloc (.cells (fnV r (.slice a n cap)) 39)) _ rfl rfl rfl rfl (fun k u' hk => by rw [hk.2]; exact heap_alloc_last wb _) ⟨rfl, rfl⟩ (fun u' hk => ?_) (fun u' hk => absurd hk.1 (by decide)) (fun u' hk => absurd hk.1 (by decide)) (fun u' hk => absurd hk.1 (by decide)) (fun u' hk => absurd hk.1 (by decide))
    rw [hk.2]
    exact (h _ hbf).mono fun e w' ⟨he, hw⟩ => ⟨z, he, fun e => absurd e hz, fun _ => ⟨rfl, hw ▸ hbf⟩⟩
  have HGO := Lib.hid hgo
  clear hgo htb h
  go_enter Tryd.func11, Tryd.ntmps11
  go_upto_region 2 with fail
  rw [← hwb, ← hb0]
  clear hwb hb0
  go_wp2_with (go_at_call 29; refine (show Calls Tryd.prog 29 _ _ _ from HGO.out).mono ?_; rintro e w3 ⟨y, rfl, rfl, h3⟩)
  go_ret
  exact ⟨rfl, h3⟩
end Go.Proofs.YteggaeopnljgnaaDoor
