/-
  Package seal: freezes, heads and stones in memory; how they are read, written, built and compared.
-/
import Derived.Test.YtlcljjapeigaeaaDoorSelPure
import Derived.Test.YtlcljjapeigaeaaDoorMShaB
import Derived.Test.YtlcljjapeigaeaaDoorMShaA
namespace Go.Proofs.YtlcljjapeigaeaaDoor
open Go.RowKit

/-- Block p holds these cells. -/
def Blk (p : Nat) (T : TypeId) (cs : List Value) (w : World) : Prop := w.heap[p]? = some (.cells cs.toArray T (0, 0))
section
variable {p : Nat} {T : TypeId} {cs : List Value} {w w' : World}
theorem Blk.lt (h : Blk p T cs w) : p < w.heap.size := (Array.getElem?_eq_some_iff.1 h).1
theorem Blk.old {B : Nat} (h : Blk p T cs w) (k : Below B w w') (hp : p < B) : Blk p T cs w' := (k.block p hp).trans h
theorem Blk.kept {b : Nat} (h : Blk p T cs w) (k : Only b w w') (hp : p ≠ b) : Blk p T cs w' := (k.block p h.lt hp).trans h
theorem Blk.drew (h : Blk p T cs w) : Blk p T cs w.drew := h
theorem Blk.alloc (w : World) (T : TypeId) (cs : List Value) : Blk w.heap.size T cs (w.alloc (.cells cs.toArray T)) := heap_alloc_last w _
theorem Blk.fz (h : Blk p T cs w) (i : Nat) : w.frozen? ⟨p, i, none⟩ = false := fz_of h i
theorem Blk.cell (h : Blk p T cs w) (i : Nat) : w.cell? ⟨p, i, none⟩ = cs[i]? := by rw [cell_of h]; simp
theorem Blk.range {a m z : List Value} (h : Blk p T (a ++ (m ++ z)) w) : w.rangeAt p a.length m := fun j v hv => by
  have hj : j < m.length := (List.getElem?_eq_some_iff.1 hv).1
  rw [h.cell, List.getElem?_append_right (by omega), show a.length + j - a.length = j by omega, List.getElem?_append_left hj]
  exact hv
theorem Blk.all (h : Blk p T cs w) : w.rangeAt p 0 cs := fun j v hv => by rw [h.cell, Nat.zero_add]; exact hv
theorem Blk.sets {a m z n : List Value} (h : Blk p T (a ++ (m ++ z)) w) (hl : n.length = m.length) : Blk p T (a ++ (n ++ z)) (w.setCells p a.length n) := by
  unfold Blk
  rw [heap_setCells p T n a.length (a ++ (m ++ z)) w (by simp only [List.length_append]; omega) h]
  congr 3
  rw [List.take_left]
  congr 2
  rw [hl, ← List.append_assoc, ← List.length_append, List.drop_left]
theorem Blk.put {a z : List Value} {x : Value} (h : Blk p T (a ++ (x :: z)) w) (y : Value) : Blk p T (a ++ (y :: z)) (w.setCell ⟨p, a.length, none⟩ y) := by
  have := heap_set (i := a.length) h y
  unfold Blk
  rw [this]
  congr 2
  simp
theorem Blk.setAll {n : List Value} (h : Blk p T cs w) (hl : n.length = cs.length) : Blk p T n (w.setCells p 0 n) := by
  have := Blk.sets (a := []) (m := cs) (z := []) (n := n) (by simpa using h) hl
  simpa using this
theorem Blk.there (h : Blk p T cs w) {o n : Nat} (hn : o + n ≤ cs.length) : w.there p o n := there_of h hn
end
def FzAt (p : Nat) (f : FzR) (w : World) : Prop := Blk p 25 (fzCs f) w
def HdAt (p : Nat) (f : HdR) (w : World) : Prop := Blk p 27 (hdCs f) w
def StAt (p : Nat) (f : StR) (w : World) : Prop := Blk p 29 (stCs f) w
theorem info_fz : (Tryd.prog.info? 25).map (fun i => (i.zero, i.size)) = some (some (.agg (fzCs fz0).toArray), 34) := by kernel_rfl
theorem info_hd : (Tryd.prog.info? 27).map (fun i => (i.zero, i.size)) = some (some (.agg (hdCs hd0).toArray), 66) := by kernel_rfl
theorem info_st : (Tryd.prog.info? 29).map (fun i => (i.zero, i.size)) = some (some (.agg (stCs st0).toArray), 67) := by kernel_rfl
theorem size_of {t : TypeId} {z : Option Value} {n : Nat} (h : (Tryd.prog.info? t).map (fun i => (i.zero, i.size)) = some (z, n)) : (Tryd.prog.info? t).map (·.size) = some n := by
  cases e : Tryd.prog.info? t with
  | none => rw [e] at h; cases h
  | some i => rw [e] at h; simp at h ⊢; exact h.2
/-! ### Addresses of fields -/
theorem fld_fz (b o : Nat) (w : World) : (Instr.fieldAt 25 (.pointer (some ⟨b, o, none⟩)) 0).run Tryd.prog w = .ok (.pointer (some ⟨b, o, none⟩)) w ∧ (Instr.fieldAt 25 (.pointer (some ⟨b, o, none⟩)) 1).run Tryd.prog w = .ok (.pointer (some ⟨b, o + 1, none⟩)) w ∧
    (Instr.fieldAt 25 (.pointer (some ⟨b, o, none⟩)) 2).run Tryd.prog w = .ok (.pointer (some ⟨b, o + 2, none⟩)) w := by
  refine ⟨?_, ?_, ?_⟩ <;> go_simp
theorem fld_hd (b o : Nat) (w : World) : (Instr.fieldAt 27 (.pointer (some ⟨b, o, none⟩)) 0).run Tryd.prog w = .ok (.pointer (some ⟨b, o, none⟩)) w ∧ (Instr.fieldAt 27 (.pointer (some ⟨b, o, none⟩)) 1).run Tryd.prog w = .ok (.pointer (some ⟨b, o + 1, none⟩)) w ∧
    (Instr.fieldAt 27 (.pointer (some ⟨b, o, none⟩)) 2).run Tryd.prog w = .ok (.pointer (some ⟨b, o + 33, none⟩)) w ∧ (Instr.fieldAt 27 (.pointer (some ⟨b, o, none⟩)) 3).run Tryd.prog w = .ok (.pointer (some ⟨b, o + 34, none⟩)) w := by
  refine ⟨?_, ?_, ?_, ?_⟩ <;> go_simp
theorem fld_st (b o : Nat) (w : World) : (Instr.fieldAt 29 (.pointer (some ⟨b, o, none⟩)) 0).run Tryd.prog w = .ok (.pointer (some ⟨b, o, none⟩)) w ∧ (Instr.fieldAt 29 (.pointer (some ⟨b, o, none⟩)) 1).run Tryd.prog w = .ok (.pointer (some ⟨b, o + 34, none⟩)) w ∧
    (Instr.fieldAt 29 (.pointer (some ⟨b, o, none⟩)) 2).run Tryd.prog w = .ok (.pointer (some ⟨b, o + 35, none⟩)) w := by
  refine ⟨?_, ?_, ?_⟩ <;> go_simp
theorem fld_fz0 (b : Nat) (w : World) : (Instr.fieldAt 25 (.pointer (some ⟨b, 0, none⟩)) 0).run Tryd.prog w = .ok (.pointer (some ⟨b, 0, none⟩)) w ∧ (Instr.fieldAt 25 (.pointer (some ⟨b, 0, none⟩)) 1).run Tryd.prog w = .ok (.pointer (some ⟨b, 1, none⟩)) w ∧
    (Instr.fieldAt 25 (.pointer (some ⟨b, 0, none⟩)) 2).run Tryd.prog w = .ok (.pointer (some ⟨b, 2, none⟩)) w := by
  refine ⟨?_, ?_, ?_⟩ <;> go_simp
theorem fld_hd0 (b : Nat) (w : World) : (Instr.fieldAt 27 (.pointer (some ⟨b, 0, none⟩)) 0).run Tryd.prog w = .ok (.pointer (some ⟨b, 0, none⟩)) w ∧ (Instr.fieldAt 27 (.pointer (some ⟨b, 0, none⟩)) 1).run Tryd.prog w = .ok (.pointer (some ⟨b, 1, none⟩)) w ∧
    (Instr.fieldAt 27 (.pointer (some ⟨b, 0, none⟩)) 2).run Tryd.prog w = .ok (.pointer (some ⟨b, 33, none⟩)) w ∧ (Instr.fieldAt 27 (.pointer (some ⟨b, 0, none⟩)) 3).run Tryd.prog w = .ok (.pointer (some ⟨b, 34, none⟩)) w := by
  refine ⟨?_, ?_, ?_, ?_⟩ <;> go_simp
theorem fld_st0 (b : Nat) (w : World) : (Instr.fieldAt 29 (.pointer (some ⟨b, 0, none⟩)) 0).run Tryd.prog w = .ok (.pointer (some ⟨b, 0, none⟩)) w ∧ (Instr.fieldAt 29 (.pointer (some ⟨b, 0, none⟩)) 1).run Tryd.prog w = .ok (.pointer (some ⟨b, 34, none⟩)) w ∧
    (Instr.fieldAt 29 (.pointer (some ⟨b, 0, none⟩)) 2).run Tryd.prog w = .ok (.pointer (some ⟨b, 35, none⟩)) w := by
  refine ⟨?_, ?_, ?_⟩ <;> go_simp
/-! ### Reading -/
section
variable {p : Nat} {f : FzR} {h : HdR} {t : StR} {w : World}
theorem FzAt.win (k : FzAt p f w) : w.cell? ⟨p, 0, none⟩ = some (.int .i64 f.win) := (Blk.cell k 0).trans rfl
theorem FzAt.cnt (k : FzAt p f w) : w.cell? ⟨p, 1, none⟩ = some (.int .i64 f.cnt) := (Blk.cell k 1).trans rfl
theorem FzAt.root (k : FzAt p f w) : w.rangeAt p 2 (f.root.map u8V) := Blk.range (a := [.int .i64 f.win, .int .i64 f.cnt]) (z := []) (by rw [List.append_nil]; exact k)
theorem HdAt.size (k : HdAt p h w) : w.cell? ⟨p, 0, none⟩ = some (.int .i64 h.size) := (Blk.cell k 0).trans rfl
theorem HdAt.root (k : HdAt p h w) : w.rangeAt p 1 (h.root.map u8V) := Blk.range (a := [.int .i64 h.size]) k
theorem HdAt.clock (k : HdAt p h w) (hr : h.root.length = 32) : w.cell? ⟨p, 33, none⟩ = some (.int .i64 h.clock) := by
  have := Blk.range (a := [.int .i64 h.size] ++ h.root.map u8V) (m := [.int .i64 h.clock]) (z := h.mac.map u8V) (by rw [List.append_assoc]; exact k) 0 _ rfl
  simpa [hr] using this
theorem HdAt.mac (k : HdAt p h w) (hr : h.root.length = 32) : w.rangeAt p 34 (h.mac.map u8V) := by
  have := Blk.range (a := [.int .i64 h.size] ++ (h.root.map u8V ++ [.int .i64 h.clock])) (m := h.mac.map u8V) (z := []) (p := p) (T := 27) (w := w) (by rw [List.append_nil, List.append_assoc, List.append_assoc]; exact k)
  simpa [hr] using this
theorem StAt.fz (k : StAt p t w) : w.rangeAt p 0 (fzCs t.fz) := Blk.range (a := []) k
theorem StAt.tim (k : StAt p t w) (hr : t.fz.root.length = 32) : w.cell? ⟨p, 34, none⟩ = some (.int .i64 t.tim) := by
  have := Blk.range (a := fzCs t.fz) (m := [.int .i64 t.tim]) (z := t.mac.map u8V) k 0 _ rfl
  simpa [fzCs_length hr] using this
theorem StAt.mac (k : StAt p t w) (hr : t.fz.root.length = 32) : w.rangeAt p 35 (t.mac.map u8V) := by
  have := Blk.range (a := fzCs t.fz ++ [.int .i64 t.tim]) (m := t.mac.map u8V) (z := []) (p := p) (T := 29) (w := w) (by rw [List.append_nil, List.append_assoc]; exact k)
  simpa [fzCs_length hr] using this
end
theorem load_sumAt {b o : Nat} {D : List UInt8} {w : World} (h : w.rangeAt b o (D.map u8V)) (hl : D.length = 32) : (Instr.loadAt 23 (.pointer (some ⟨b, o, none⟩))).run Tryd.prog w = .ok (sumV D) w :=
  run_loadAt_mid w b o 23 _ _ h Tryd.underlying23 rfl (sum_info' hl)
theorem load_fzAt {b o : Nat} {f : FzR} {w : World} (h : w.rangeAt b o (fzCs f)) (hl : f.root.length = 32) : (Instr.loadAt 25 (.pointer (some ⟨b, o, none⟩))).run Tryd.prog w = .ok (fzV f) w :=
  run_loadAt_mid w b o 25 _ _ h Tryd.underlying25 rfl (by rw [fzCs_length hl]; exact size_of info_fz)
theorem load_hdAt {b o : Nat} {f : HdR} {w : World} (h : w.rangeAt b o (hdCs f)) (hl : f.root.length = 32) (hm : f.mac.length = 32) : (Instr.loadAt 27 (.pointer (some ⟨b, o, none⟩))).run Tryd.prog w = .ok (hdV f) w :=
  run_loadAt_mid w b o 27 _ _ h Tryd.underlying27 rfl (by rw [hdCs_length hl hm]; exact size_of info_hd)
theorem load_stAt {b o : Nat} {f : StR} {w : World} (h : w.rangeAt b o (stCs f)) (hl : f.fz.root.length = 32) (hm : f.mac.length = 32) : (Instr.loadAt 29 (.pointer (some ⟨b, o, none⟩))).run Tryd.prog w = .ok (stV f) w :=
  run_loadAt_mid w b o 29 _ _ h Tryd.underlying29 rfl (by rw [stCs_length hl hm]; exact size_of info_st)
theorem load_intS {b o : Nat} {x : Int} {w : World} (h0 : w.cell? ⟨b, o, none⟩ = some (.int .i64 x)) : (Instr.loadAt 3 (.pointer (some ⟨b, o, none⟩))).run Tryd.prog w = .ok (.int .i64 x) w := by go_simp
/-! ### Writing -/
theorem one_cells {f : FzR} : (fzCs f).toArray.all (·.oneCell') = true := all_oneCell_toArray (fun x hx => by
  simp only [fzCs, List.mem_append, List.mem_cons, List.not_mem_nil, or_false, List.mem_map] at hx
  rcases hx with (rfl | rfl) | ⟨_, _, rfl⟩ <;> rfl)
theorem one_hd {f : HdR} : (hdCs f).toArray.all (·.oneCell') = true := all_oneCell_toArray (fun x hx => by
  simp only [hdCs, List.mem_append, List.mem_cons, List.not_mem_nil, or_false, List.mem_map] at hx
  rcases hx with rfl | ⟨_, _, rfl⟩ | rfl | ⟨_, _, rfl⟩ <;> rfl)
theorem one_st {f : StR} : (stCs f).toArray.all (·.oneCell') = true := all_oneCell_toArray (fun x hx => by
  simp only [stCs, fzCs, List.mem_append, List.mem_cons, List.not_mem_nil, or_false, List.mem_map] at hx
  rcases hx with ((rfl | rfl) | ⟨_, _, rfl⟩) | rfl | ⟨_, _, rfl⟩ <;> rfl)
theorem store_intS {b o : Nat} {x : Int} {v : Value} {w : World} (c : w.cell? ⟨b, o, none⟩ = some v) (f : w.frozen? ⟨b, o, none⟩ = false) : (Instr.storeAt 3 (.pointer (some ⟨b, o, none⟩)) (.int .i64 x)).run Tryd.prog w = .ok () (w.setCell ⟨b, o, none⟩ (.int .i64 x)) := by go_simp
theorem store_sumS {b o : Nat} {D : List UInt8} {w : World} (h : w.there b o 32) (hl : D.length = 32) : (Instr.storeAt 23 (.pointer (some ⟨b, o, none⟩)) (sumV D)).run Tryd.prog w = .ok () (w.setCells b o (D.map u8V)) :=
  run_storeAt_mid w b o 23 (D.map u8V).toArray (by rw [List.size_toArray, List.length_map, hl]; exact h) (sum_info hl) (sum_one D)
theorem store_fzS {b o : Nat} {f : FzR} {w : World} (h : w.there b o 34) (hl : f.root.length = 32) : (Instr.storeAt 25 (.pointer (some ⟨b, o, none⟩)) (fzV f)).run Tryd.prog w = .ok () (w.setCells b o (fzCs f)) :=
  run_storeAt_mid w b o 25 (fzCs f).toArray (by rw [List.size_toArray, fzCs_length hl]; exact h) (by rw [List.size_toArray, fzCs_length hl]; exact size_of info_fz) one_cells
theorem store_hdS {b o : Nat} {f : HdR} {w : World} (h : w.there b o 66) (hl : f.root.length = 32) (hm : f.mac.length = 32) : (Instr.storeAt 27 (.pointer (some ⟨b, o, none⟩)) (hdV f)).run Tryd.prog w = .ok () (w.setCells b o (hdCs f)) :=
  run_storeAt_mid w b o 27 (hdCs f).toArray (by rw [List.size_toArray, hdCs_length hl hm]; exact h) (by rw [List.size_toArray, hdCs_length hl hm]; exact size_of info_hd) one_hd
theorem store_stS {b o : Nat} {f : StR} {w : World} (h : w.there b o 67) (hl : f.fz.root.length = 32) (hm : f.mac.length = 32) : (Instr.storeAt 29 (.pointer (some ⟨b, o, none⟩)) (stV f)).run Tryd.prog w = .ok () (w.setCells b o (stCs f)) :=
  run_storeAt_mid w b o 29 (stCs f).toArray (by rw [List.size_toArray, stCs_length hl hm]; exact h) (by rw [List.size_toArray, stCs_length hl hm]; exact size_of info_st) one_st
section
variable {p : Nat} {f : FzR} {h : HdR} {t : StR} {w : World}
theorem FzAt.setWin (k : FzAt p f w) (z : Int) : FzAt p ⟨z, f.cnt, f.root⟩ (w.setCell ⟨p, 0, none⟩ (.int .i64 z)) := Blk.put (a := []) (z := .int .i64 f.cnt :: f.root.map u8V) k (.int .i64 z)
theorem FzAt.setCnt (k : FzAt p f w) (z : Int) : FzAt p ⟨f.win, z, f.root⟩ (w.setCell ⟨p, 1, none⟩ (.int .i64 z)) := Blk.put (a := [.int .i64 f.win]) (z := f.root.map u8V) k (.int .i64 z)
theorem FzAt.setRoot (k : FzAt p f w) (D : List UInt8) (hl : D.length = f.root.length) : FzAt p ⟨f.win, f.cnt, D⟩ (w.setCells p 2 (D.map u8V)) := by
  have := Blk.sets (a := [.int .i64 f.win, .int .i64 f.cnt]) (m := f.root.map u8V) (z := []) (n := D.map u8V) (by rw [List.append_nil]; exact k) (by rw [List.length_map, List.length_map, hl])
  rw [List.append_nil] at this
  exact this
theorem HdAt.setSize (k : HdAt p h w) (z : Int) : HdAt p ⟨z, h.root, h.clock, h.mac⟩ (w.setCell ⟨p, 0, none⟩ (.int .i64 z)) := Blk.put (a := []) (z := h.root.map u8V ++ (([.int .i64 h.clock] : List Value) ++ h.mac.map u8V)) k (.int .i64 z)
theorem HdAt.setRoot (k : HdAt p h w) (D : List UInt8) (hl : D.length = h.root.length) : HdAt p ⟨h.size, D, h.clock, h.mac⟩ (w.setCells p 1 (D.map u8V)) :=
  Blk.sets (a := [.int .i64 h.size]) (m := h.root.map u8V) (z := ([.int .i64 h.clock] : List Value) ++ h.mac.map u8V) (n := D.map u8V) k (by rw [List.length_map, List.length_map, hl])
theorem HdAt.setClock (k : HdAt p h w) (hr : h.root.length = 32) (z : Int) : HdAt p ⟨h.size, h.root, z, h.mac⟩ (w.setCell ⟨p, 33, none⟩ (.int .i64 z)) := by
  have := Blk.put (a := [.int .i64 h.size] ++ h.root.map u8V) (z := h.mac.map u8V) (x := .int .i64 h.clock) (p := p) (T := 27) (w := w) (by rw [List.append_assoc]; exact k) (.int .i64 z)
  rw [List.append_assoc, show ([Value.int .i64 h.size] ++ h.root.map u8V).length = 33 by simp [hr]] at this
  exact this
theorem HdAt.setMac (k : HdAt p h w) (hr : h.root.length = 32) (D : List UInt8) (hl : D.length = h.mac.length) : HdAt p ⟨h.size, h.root, h.clock, D⟩ (w.setCells p 34 (D.map u8V)) := by
  have := Blk.sets (a := [.int .i64 h.size] ++ (h.root.map u8V ++ [.int .i64 h.clock])) (m := h.mac.map u8V) (z := []) (n := D.map u8V) (p := p) (T := 27) (w := w) (by rw [List.append_nil, List.append_assoc, List.append_assoc]; exact k) (by rw [List.length_map, List.length_map, hl])
  rw [List.append_nil, List.append_assoc, List.append_assoc, show ([Value.int .i64 h.size] ++ (h.root.map u8V ++ [Value.int .i64 h.clock])).length = 34 by simp [hr]] at this
  exact this
theorem StAt.setFz (k : StAt p t w) (g : FzR) (hr : t.fz.root.length = 32) (hg : g.root.length = 32) : StAt p ⟨g, t.tim, t.mac⟩ (w.setCells p 0 (fzCs g)) :=
  Blk.sets (a := []) (m := fzCs t.fz) (z := ([.int .i64 t.tim] : List Value) ++ t.mac.map u8V) (n := fzCs g) k (by rw [fzCs_length hr, fzCs_length hg])
theorem StAt.setTim (k : StAt p t w) (hr : t.fz.root.length = 32) (z : Int) : StAt p ⟨t.fz, z, t.mac⟩ (w.setCell ⟨p, 34, none⟩ (.int .i64 z)) := by
  have := Blk.put (a := fzCs t.fz) (z := t.mac.map u8V) (x := .int .i64 t.tim) (p := p) (T := 29) (w := w) k (.int .i64 z)
  rw [fzCs_length hr] at this
  exact this
theorem StAt.setMac (k : StAt p t w) (hr : t.fz.root.length = 32) (D : List UInt8) (hl : D.length = t.mac.length) : StAt p ⟨t.fz, t.tim, D⟩ (w.setCells p 35 (D.map u8V)) := by
  have := Blk.sets (a := fzCs t.fz ++ [.int .i64 t.tim]) (m := t.mac.map u8V) (z := []) (n := D.map u8V) (p := p) (T := 29) (w := w) (by rw [List.append_nil, List.append_assoc]; exact k) (by rw [List.length_map, List.length_map, hl])
  rw [List.append_nil, List.append_assoc, show (fzCs t.fz ++ [Value.int .i64 t.tim]).length = 35 by simp [fzCs_length hr]] at this
  exact this
theorem FzAt.len (hr : f.root.length = 32) : (fzCs f).length = 34 := fzCs_length hr
end
/-! ### Building -/
theorem part_one (i off : Nat) (x : Value) (place : Nat → Option (Nat × Nat)) (l : List Value) (rest : List (Nat × Value)) (hx : x.cells = #[x]) (hp : place i = some (off, 1)) (h : off < l.length) :
    Instr.fill place l.toArray ((i, x) :: rest) = Instr.fill place (l.set off x).toArray rest := by
  rw [Instr.fill, hp]
  have e : ¬ (l.length < off + 1) := by omega
  simp [hx, e]
end Go.Proofs.YtlcljjapeigaeaaDoor
