/-
  Package proof: the closure that goes up (beside), parts.
-/
import Derived.Test.YtjdhcncjcencbaaDoorProofPure
import Derived.Test.YtjdhcncjcencbaaDoorMPathB
import Derived.Deep.DeepCutAuto
import Derived.Laws.EntriesVeiled
namespace Go.Proofs.YtjdhcncjcencbaaDoor
open Go.RowKit

/-- What goes up: its two variables, the side and the hash. -/
abbrev upV (ca cx : Nat) : Value := .func (.func 47) #[] #[.pointer (some ⟨ca, 0, none⟩), .pointer (some ⟨cx, 0, none⟩)]
def UpAt (w : World) (ca cx : Nat) (x : List UInt8) (left : Bool) : Prop :=
  w.heap[ca]? = some (.cells #[.bool left] 4 (0, 0)) ∧ w.heap[cx]? = some (.cells (x.map u8V).toArray 23 (0, 0))
theorem UpAt.lt {w : World} {ca cx : Nat} {x : List UInt8} {left : Bool} (h : UpAt w ca cx x left) : ca < w.heap.size ∧ cx < w.heap.size := ⟨(Array.getElem?_eq_some_iff.1 h.1).1, (Array.getElem?_eq_some_iff.1 h.2).1⟩
theorem UpAt.old {w w' : World} {ca cx : Nat} {x : List UInt8} {left : Bool} (h : UpAt w ca cx x left) (hb : Below w.heap.size w w') : UpAt w' ca cx x left :=
  ⟨(hb.block _ h.lt.1).trans h.1, (hb.block _ h.lt.2).trans h.2⟩
theorem UpAt.only {w w' : World} {ca cx p : Nat} {x : List UInt8} {left : Bool} (h : UpAt w ca cx x left) (hb : Only p w w') (h1 : ca ≠ p) (h2 : cx ≠ p) : UpAt w' ca cx x left :=
  ⟨(hb.block _ h.lt.1 h1).trans h.1, (hb.block _ h.lt.2 h2).trans h.2⟩
set_option maxHeartbeats 1000000 in
set_option maxRecDepth 100000 in
theorem beside_any (x : List UInt8) (left : Bool) (w : World) :
    Calls Tryd.prog 32 #[sumV x, .bool left] w fun e w' => ∃ ca cx, e = .returned (upV ca cx) ∧ UpAt w' ca cx x left ∧ w.heap.size ≤ ca ∧ w.heap.size ≤ cx ∧ Below w.heap.size w w' := by
  have hmf : ∀ (fn : Fn) (first cap : Array Value) (w : World), (Instr.makeFunc fn first cap).run Tryd.prog w = .ok (.func fn first cap) w := fun _ _ _ _ => rfl
  unfold sumV
  obtain ⟨w0, hw0⟩ : ∃ w0, w0 = (w.alloc (.cells (x.map u8V).toArray 23)).alloc (.cells #[.bool left] 4) := ⟨_, rfl⟩
  have h1 : w0.heap[w.heap.size]? = some (.cells (x.map u8V).toArray 23 (0, 0)) := by
    rw [hw0]
    exact (((Below.refl (w.alloc (.cells (x.map u8V).toArray 23)).heap.size _).alloc (Nat.le_refl _) _).block w.heap.size (by simp)).trans (heap_alloc_last w _)
  have h2 : w0.heap[w.heap.size + 1]? = some (.cells #[.bool left] 4 (0, 0)) := by
    have := heap_alloc_last (w.alloc (.cells (x.map u8V).toArray 23)) (.cells #[.bool left] 4)
    rwa [World.size_alloc, ← hw0] at this
  have b0 : Below w.heap.size w w0 := by rw [hw0]; exact ((Below.refl _ _).alloc (Nat.le_refl _) _).alloc (by simp) _
  have H1 := Lib.hid h1
  have H2 := Lib.hid h2
  have HB := Lib.hid b0
  clear h1 h2 b0
  go_enter Tryd.func32, Tryd.ntmps32
  go_upto_region 1 with (fail)
  rw [← hw0]
  clear hw0
  go_wp2
  go_ret
  exact ⟨_, _, rfl, ⟨H2.out, H1.out⟩, Nat.le_succ _, Nat.le_refl _, HB.out⟩
set_option maxHeartbeats 1000000 in
set_option maxRecDepth 100000 in
theorem up_any (h x : List UInt8) (left : Bool) (hh : h.length = 32) (hx : x.length = 32) (ca cx : Nat) (w : World) (hU : UpAt w ca cx x left) (hK : KT w) :
    Calls Tryd.prog 47 #[sumV h, .pointer (some ⟨ca, 0, none⟩), .pointer (some ⟨cx, 0, none⟩)] w fun e w' => e = .returned (sumV (Tree.step h x left)) ∧ Below w.heap.size w w' := by
  obtain ⟨D, hD⟩ : ∃ D, D = Tree.step h x left := ⟨_, rfl⟩
  have hDl : D.length = 32 := by rw [hD]; exact Tree.step_length _ _ _
  rw [← hD]
  obtain ⟨w0, hw0⟩ : ∃ w0, w0 = (w.alloc (.cells (h.map u8V).toArray 23)).alloc zSum := ⟨_, rfl⟩
  have b0 : Below w.heap.size w w0 := by rw [hw0]; exact ((Below.refl _ _).alloc (Nat.le_refl _) _).alloc (by simp) _
  have h1 : w0.heap[w.heap.size]? = some (.cells (h.map u8V).toArray 23 (0, 0)) := by
    rw [hw0]
    exact (((Below.refl (w.alloc (.cells (h.map u8V).toArray 23)).heap.size _).alloc (Nat.le_refl _) _).block w.heap.size (by simp)).trans (heap_alloc_last w _)
  have h2 : w0.heap[w.heap.size + 1]? = some (.cells ((List.replicate 32 (0 : UInt8)).map u8V).toArray 23 (0, 0)) := by
    have := heap_alloc_last (w.alloc (.cells (h.map u8V).toArray 23)) zSum
    rwa [World.size_alloc, ← hw0] at this
  have l2 : w.heap.size + 1 < w0.heap.size := (Array.getElem?_eq_some_iff.1 h2).1
  have u0 := hU.old b0
  have cl : w0.cell? ⟨ca, 0, none⟩ = some (.bool left) := (cell_of u0.1 0).trans rfl
  have rx := range_var u0.2
  have rh := range_var h1
  have z2 := h2
  have HN : Hid (∀ a b, (a = h ∧ b = x ∧ left = false ∨ a = x ∧ b = h ∧ left = true) → Calls Tryd.prog 48 #[sumV a, sumV b] w0 fun e w' => e = .returned (sumV D) ∧ Below w0.heap.size w0 w') := Lib.hid fun a b hab => by
    rw [hD]
    rcases hab with ⟨rfl, rfl, rfl⟩ | ⟨rfl, rfl, rfl⟩
    · exact leafNode_any _ _ hh hx w0 (hK.old b0)
    · exact leafNode_any _ _ hx hh w0 (hK.old b0)
  have HRX := Lib.hid rx
  have HRH := Lib.hid rh
  have HB := Lib.hid b0
  have HZ := Lib.hid z2
  have HDl := Lib.hid hDl
  have Hh := Lib.hid hh
  have Hx := Lib.hid hx
  clear hD hDl rx rh b0 z2 h2 h1 u0 hU hK hh hx
  unfold sumV
  cases left <;>
  (go_enter Tryd.func47, Tryd.ntmps47
   go_upto_region 1 with (fail)
   change Code.wp _ _ _ _ ((w.alloc (.cells (h.map u8V).toArray 23)).alloc zSum)
   rw [← hw0]
   clear hw0
   go_wp2_with (first
     | refine wpList_load_mid rfl 23 (.tmp 2) rfl cx 0 rfl (x.map u8V) _ HRX.out Tryd.underlying23 rfl (sum_info' Hx.out) ?_
     | refine wpList_load_mid rfl 23 (.tmp 3) rfl w.heap.size 0 rfl (h.map u8V) _ HRH.out Tryd.underlying23 rfl (sum_info' Hh.out) ?_
     | (go_at_call 48; ((first | refine (HN.out h x (.inl ⟨rfl, rfl, rfl⟩)).mono ?_ | refine (HN.out x h (.inr ⟨rfl, rfl, rfl⟩)).mono ?_); rintro e w2 ⟨rfl, b2⟩; have z2 := Lib.hid ((b2.block _ l2).trans HZ.out)))
     | refine wpList_store_mid rfl 23 (.tmp 4) (.tmp 8) rfl (w.heap.size + 1) 0 (D.map u8V).toArray rfl rfl (sum_there z2.out HDl.out) (sum_info HDl.out) (sum_one D) ?_
     | refine wpList_store_mid rfl 23 (.tmp 4) (.tmp 11) rfl (w.heap.size + 1) 0 (D.map u8V).toArray rfl rfl (sum_there z2.out HDl.out) (sum_info HDl.out) (sum_one D) ?_)
   exact bodyPost_ret (v := sumV D) (results_cell (t := 4) (ty := 23) (b := w.heap.size + 1) (cs := D.map u8V) rfl _ _ _ rfl (sum_range z2.out HDl.out) Tryd.underlying23 rfl (sum_info' HDl.out)) rfl ⟨rfl, below_setCells (Nat.le_succ _) _ _ _ (below_step HB.out (Nat.le_refl _) b2)⟩)
end Go.Proofs.YtjdhcncjcencbaaDoor
