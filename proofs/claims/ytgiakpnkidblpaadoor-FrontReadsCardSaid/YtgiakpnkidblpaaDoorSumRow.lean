/-
  Slices of hashes in memory: what they read as, what append makes of them, how they are cut; such an argument.
-/
import Derived.Test.YtgiakpnkidblpaaDoorMGen
import Derived.Test.YtgiakpnkidblpaaDoorMArg
import Derived.Test.YtgiakpnkidblpaaDoorShaBase
import Derived.Laws.OwnMore
import Derived.Deep.AppendLies
import Derived.OwnWalk
import Derived.ArgAppend
namespace Go.Proofs.YtgiakpnkidblpaaDoor
open Go.RowKit Go.ChangeShapes Go.WideShapes Go.ChangeAt

abbrev Hs := List (List UInt8)
def all32 (l : Hs) : Prop := ∀ x ∈ l, x.length = 32
theorem all32.take {l : Hs} (h : all32 l) (k : Nat) : all32 (l.take k) := fun x hx => h x (List.mem_of_mem_take hx)
theorem all32.drop {l : Hs} (h : all32 l) (k : Nat) : all32 (l.drop k) := fun x hx => h x (List.mem_of_mem_drop hx)
theorem all32.nil : all32 [] := fun x hx => by cases hx
theorem all32.append {l m : Hs} (h : all32 l) (k : all32 m) : all32 (l ++ m) := fun x hx => (List.mem_append.1 hx).elim (h x) (k x)
theorem all32.one {x : List UInt8} (h : x.length = 32) : all32 [x] := fun y hy => by simp at hy; rw [hy]; exact h
theorem info_sumR : (Tryd.prog.info? 31).map (fun i => (i.zero, i.size, i.bytes)) = some (some (.agg ((List.replicate 32 (0 : UInt8)).map u8V).toArray), 32, 32) := by kernel_rfl
def sc (l : Hs) : List Value := l.flatMap fun x => x.map u8V
theorem sc_cons (x : List UInt8) (t : Hs) : sc (x :: t) = x.map u8V ++ sc t := by simp [sc]
theorem sc_append (a b : Hs) : sc (a ++ b) = sc a ++ sc b := by simp [sc]
theorem sc_one' (x : List UInt8) : sc [x] = x.map u8V := by simp [sc]
theorem sc_length : ∀ l : Hs, all32 l → (sc l).length = l.length * 32
  | [], _ => rfl
  | x :: t, h => by rw [sc_cons, List.length_append, List.length_map, h x (by simp), sc_length t (fun y hy => h y (by simp [hy])), List.length_cons]; omega
theorem sc_get : ∀ (l : Hs) (_ : all32 l) (j : Nat) (hj : j < l.length) (i : Nat) (v : Value), (l[j].map u8V)[i]? = some v → (sc l)[j * 32 + i]? = some v
  | x :: t, h, 0, _, i, v => fun hv => by
    have hi : i < (x.map u8V).length := (List.getElem?_eq_some_iff.1 hv).1
    rw [sc_cons, Nat.zero_mul, Nat.zero_add, List.getElem?_append_left hi]; exact hv
  | x :: t, h, j + 1, hj, i, v => fun hv => by
    have := sc_get t (fun y hy => h y (by simp [hy])) j (by simpa using hj) i v (by simpa using hv)
    rw [sc_cons, List.getElem?_append_right (by rw [List.length_map, h x (by simp)]; omega), List.length_map, h x (by simp), show (j + 1) * 32 + i - 32 = j * 32 + i by omega]
    exact this
theorem sc_get' (l : Hs) (h : all32 l) (k : Nat) (v : Value) (hv : (sc l)[k]? = some v) : ∃ (hj : k / 32 < l.length), (l[k / 32].map u8V)[k % 32]? = some v := by
  have hk : k < l.length * 32 := by rw [← sc_length l h]; exact (List.getElem?_eq_some_iff.1 hv).1
  have hj : k / 32 < l.length := by omega
  refine ⟨hj, ?_⟩
  have hlt : k % 32 < (l[k / 32].map u8V).length := by rw [List.length_map, h _ (List.getElem_mem hj)]; omega
  obtain ⟨u, hu⟩ : ∃ u, (l[k / 32].map u8V)[k % 32]? = some u := ⟨_, List.getElem?_eq_getElem hlt⟩
  have := sc_get l h (k / 32) hj (k % 32) u hu
  rw [show k / 32 * 32 + k % 32 = k by omega, hv] at this
  rw [hu, ← this]
theorem sc_one (l : Hs) : ∀ u ∈ sc l, u.oneCell' = true := by
  intro u hu
  obtain ⟨x, _, hx⟩ := List.mem_flatMap.1 hu
  obtain ⟨y, _, rfl⟩ := List.mem_map.1 hx
  rfl
/-- v is a slice that reads as the hashes l. -/
def Sums (w : World) (v : Value) (l : Hs) : Prop :=
  ∃ a cap, v = .slice a l.length cap ∧ l.length ≤ cap ∧ cap ≤ 9223372036854775807 ∧ (a = none → cap = 0) ∧ all32 l ∧
    (0 < l.length → ∃ b off, a = some ⟨b, off, none⟩ ∧ b < w.heap.size ∧ ∀ j (hj : j < l.length), w.rangeAt b (off + j * 32) (l[j].map u8V))
theorem Sums.kept {w w' : World} {v : Value} {l : Hs} (h : Sums w v l) (hs : w.heap.size ≤ w'.heap.size) (k : ∀ b o, b < w.heap.size → w'.cell? ⟨b, o, none⟩ = w.cell? ⟨b, o, none⟩) : Sums w' v l := by
  obtain ⟨a, cap, rfl, h1, h2, h3, h4, h5⟩ := h
  refine ⟨a, cap, rfl, h1, h2, h3, h4, fun hn => ?_⟩
  obtain ⟨b, off, rfl, hb, hj⟩ := h5 hn
  exact ⟨b, off, rfl, Nat.lt_of_lt_of_le hb hs, fun j h i v hv => (k _ _ hb).trans (hj j h i v hv)⟩
theorem Sums.old {w w' : World} {v : Value} {l : Hs} (h : Sums w v l) (k : Below w.heap.size w w') : Sums w' v l := h.kept k.size fun _ _ hb => k.cell (by exact hb)
theorem Sums.drew {w : World} {v : Value} {l : Hs} (h : Sums w v l) : Sums w.drew v l := h
/-- The hashes lie below B: what turns behind it does not matter. -/
def SumsB (B : Nat) (w : World) (v : Value) (l : Hs) : Prop := Sums w v l ∧ ∀ b off n c, v = .slice (some ⟨b, off, none⟩) n c → 0 < l.length → b < B
theorem Sums.below {w : World} {v : Value} {l : Hs} (h : Sums w v l) : SumsB w.heap.size w v l := ⟨h, fun b off n c e hl => by
  obtain ⟨a, cap, rfl, h1, h2, h3, h4, h5⟩ := h
  obtain ⟨b', off', rfl, hb, hj⟩ := h5 hl
  injection e with e1 _ _
  injection e1 with e1
  injection e1 with e1 _ _
  omega⟩
theorem SumsB.keep {B : Nat} {w w' : World} {v : Value} {l : Hs} (h : SumsB B w v l) (k : Below B w w') : SumsB B w' v l := by
  obtain ⟨⟨a, cap, rfl, h1, h2, h3, h4, h5⟩, hB⟩ := h
  refine ⟨⟨a, cap, rfl, h1, h2, h3, h4, fun hn => ?_⟩, hB⟩
  obtain ⟨b, off, rfl, hb, hj⟩ := h5 hn
  have hlt := hB b off _ _ rfl hn
  exact ⟨b, off, rfl, Nat.lt_of_lt_of_le hb k.size, fun j h i v hv => (k.cell (p := ⟨b, _, none⟩) hlt).trans (hj j h i v hv)⟩
theorem SumsB.mono {B B' : Nat} {w : World} {v : Value} {l : Hs} (h : SumsB B w v l) (hB : B ≤ B') : SumsB B' w v l := ⟨h.1, fun b off n c e hl => Nat.lt_of_lt_of_le (h.2 b off n c e hl) hB⟩
theorem Sums.nil (w : World) : Sums w (.slice none 0 0) [] := ⟨none, 0, rfl, by simp, by decide, fun _ => rfl, all32.nil, fun h => absurd h (by simp)⟩
theorem Sums.mk {w : World} {l : Hs} {b off cap : Nat} (hl : l.length ≤ cap) (hc : cap ≤ 9223372036854775807) (hok : all32 l) (hb : b < w.heap.size)
    (hj : ∀ j (hj : j < l.length), w.rangeAt b (off + j * 32) (l[j].map u8V)) : Sums w (.slice (some ⟨b, off, none⟩) l.length cap) l :=
  ⟨_, cap, rfl, hl, hc, fun h => (by cases h), hok, fun _ => ⟨b, off, rfl, hb, hj⟩⟩
theorem Sums.ok {w : World} {v : Value} {l : Hs} (h : Sums w v l) : all32 l := by
  obtain ⟨a, cap, rfl, h1, h2, h3, h4, h5⟩ := h
  exact h4
theorem Sums.slice {w : World} {v : Value} {l : Hs} (h : Sums w v l) : ∃ a cap, v = .slice a l.length cap ∧ l.length ≤ cap ∧ cap ≤ 9223372036854775807 := by
  obtain ⟨a, cap, rfl, h1, h2, h3, h4, h5⟩ := h
  exact ⟨a, cap, rfl, h1, h2⟩
theorem Sums.len {w : World} {a : Option Addr} {n cap : Nat} {l : Hs} (h : Sums w (.slice a n cap) l) : n = l.length ∧ l.length ≤ cap ∧ cap ≤ 9223372036854775807 := by
  obtain ⟨a', cap', e, h1, h2, _⟩ := h
  injection e with e1 e2 e3
  subst e3
  exact ⟨e2, h1, h2⟩
/-- One of them: its cells. -/
theorem Sums.at {w : World} {a : Option Addr} {n cap : Nat} {l : Hs} (h : Sums w (.slice a n cap) l) (k : Nat) (hk : k < l.length) : ∃ b off, a = some ⟨b, off, none⟩ ∧ b < w.heap.size ∧ n = l.length ∧ w.rangeAt b (off + k * 32) (l[k].map u8V) := by
  obtain ⟨a', cap', e, h1, h2, h3, h4, h5⟩ := h
  injection e with e1 e2 e3
  subst e1 e2 e3
  obtain ⟨b, off, rfl, hb, hj⟩ := h5 (by omega)
  exact ⟨b, off, rfl, hb, rfl, hj k hk⟩
theorem Sums.news {w : World} {v : Value} {l : Hs} (h : Sums w v l) : (v = .slice none 0 0 ∧ l = []) ∨ ∃ a c, v = .slice (some a) l.length c ∧ ∀ j u, (sc l)[j]? = some u → w.cell? (a.add j) = some u := by
  obtain ⟨a, cap, rfl, h1, h2, h3, h4, h5⟩ := h
  cases a with
  | none =>
    obtain rfl := h3 rfl
    have hl : l.length = 0 := by omega
    exact .inl ⟨by rw [hl], List.eq_nil_of_length_eq_zero hl⟩
  | some a =>
    refine .inr ⟨a, cap, rfl, fun j u hu => ?_⟩
    obtain ⟨hj32, hg⟩ := sc_get' l h4 j u hu
    obtain ⟨b, off, e, hb, hj⟩ := h5 (by omega)
    injection e with e
    subst e
    have := hj (j / 32) hj32 (j % 32) u hg
    rw [Addr.add_mid, show off + j = off + j / 32 * 32 + j % 32 by omega]
    exact this
/-- A slice of the call's own. -/
def OwnS (B : Nat) (w : World) (v : Value) (l : Hs) : Prop := w.ownsRow B 31 32 v l.length (sc l) ∧ all32 l
theorem OwnS.sums {B : Nat} {w : World} {v : Value} {l : Hs} (h : OwnS B w v l) : Sums w v l := by
  obtain ⟨h, hok⟩ := h
  have h' := h
  obtain ⟨_, h | ⟨g, cap, cur, rfl, hbg, hg, hnc, hcm, hcs, htake⟩⟩ := h
  · obtain ⟨rfl, h0⟩ := h
    have := List.eq_nil_of_length_eq_zero h0
    subst this
    exact Sums.nil _
  · have hlt : g < w.heap.size := (Array.getElem?_eq_some_iff.1 hg).1
    refine Sums.mk hnc (by unfold maxLen at hcm; omega) hok hlt fun j hj i v hv => ?_
    have := h'.cells (g := g) rfl _ _ (sc_get l hok j hj i v hv)
    rw [Addr.add_mid] at this
    rw [Nat.add_assoc]
    exact this
theorem OwnS.nil (B : Nat) (w : World) : OwnS B w (.slice none 0 0) [] := ⟨World.ownsRow_nil _ _ _ _, all32.nil⟩
theorem OwnS.lower {B B' : Nat} {w : World} {v : Value} {l : Hs} (h : OwnS B w v l) (hB : B' ≤ B) : OwnS B' w v l := by
  obtain ⟨⟨h1, h2⟩, h3⟩ := h
  refine ⟨⟨h1, ?_⟩, h3⟩
  rcases h2 with e | ⟨g, cap, cur, e1, e2, r⟩
  · exact .inl e
  · exact .inr ⟨g, cap, cur, e1, by omega, r⟩
theorem OwnS.lt {B : Nat} {w : World} {v : Value} {l : Hs} (h : OwnS B w v l) : ∀ g, v.ownBlock = some g → B ≤ g ∧ g < w.heap.size := World.ownsRow.lt h.1
theorem OwnS.kept' {B : Nat} {w w' : World} {v : Value} {l : Hs} (h : OwnS B w v l) (k : ∀ g, v.ownBlock = some g → w'.heap[g]? = w.heap[g]?) : OwnS B w' v l := by
  obtain ⟨⟨h1, h2⟩, h3⟩ := h
  refine ⟨⟨h1, ?_⟩, h3⟩
  rcases h2 with e | ⟨g, cap, cur, e1, e2, hg, r⟩
  · exact .inl e
  · exact .inr ⟨g, cap, cur, e1, e2, (k g (by rw [e1]; rfl)).trans hg, r⟩
theorem OwnS.kept {B : Nat} {w w' : World} {v : Value} {l : Hs} (h : OwnS B w v l) (k : Below w.heap.size w w') : OwnS B w' v l := h.kept' fun g e => k.block g (h.lt g e).2
theorem OwnS.drew {B : Nat} {w : World} {v : Value} {l : Hs} (h : OwnS B w v l) : OwnS B w.drew v l := h
theorem sgrown_below {w w' : World} {row : Option Nat} (h : w.grownBy w' row) {B : Nat} (hB : B ≤ w.heap.size) (hr : ∀ g, row = some g → B ≤ g) : Below B w w' :=
  ⟨h.os, h.tape, h.output, h.size, fun k hk => h.block k (by omega) fun e => by have := hr k e.symm; omega⟩
/-- append onto a slice of the call's own; but that slice's block nothing that was there turns. -/
theorem sappend_own' {B : Nat} {w : World} {v x : Value} {l m : Hs} (ty : TypeId) (h : OwnS B w v l) (hx : Sums w x m) (hB : B ≤ w.heap.size) (hl : l.length + m.length ≤ 1000000000) :
    ∃ v' w', (Builtin.append_ #[22, 22] ty #[v, x]).run Tryd.prog w = .ok v' w' ∧ OwnS B w' v' (l ++ m) ∧ Below B w w' ∧ w.grownBy w' v.ownBlock ∧ (∀ g, v'.ownBlock = some g → v.ownBlock = some g ∨ w.heap.size ≤ g) := by
  obtain ⟨i0, hi, hz0, hz1, hz2⟩ := info_parts info_sumR
  rcases hx.news with ⟨rfl, rfl⟩ | ⟨a, c, rfl, hc⟩
  · exact ⟨v, w, run_append_owned_none w B _ ty _ i0 32 Tryd.underlying22 hi v _ _ h.1, by rw [List.append_nil]; exact h, Below.refl _ _, World.grownBy.refl _ _, fun g e => .inl e⟩
  · obtain ⟨v', w', h1, h2, h3, _, h4⟩ := run_append_own_at (P := Tryd.prog) w B _ ty _ i0 _ 32 32 Tryd.underlying22 hi hz0 hz1 hz2 rfl (by decide) v l.length (sc l) h.1 a m.length c (sc m) (sc_length m hx.ok) hc (sc_one m) (by unfold maxLen; omega) (by omega) hB
    exact ⟨v', w', h1, ⟨by rw [List.length_append, sc_append]; exact h2, h.2.append hx.ok⟩, sgrown_below h3 hB fun g e => (h.lt g e).1, h3, fun g e => h4.elim (fun e' => .inl (e' ▸ e)) (fun e' => .inr (by rw [e'] at e; injection e with e; omega))⟩
theorem sappend_own {B : Nat} {w : World} {v x : Value} {l m : Hs} (ty : TypeId) (h : OwnS B w v l) (hx : Sums w x m) (hB : B ≤ w.heap.size) (hl : l.length + m.length ≤ 1000000000) :
    ∃ v' w', (Builtin.append_ #[22, 22] ty #[v, x]).run Tryd.prog w = .ok v' w' ∧ OwnS B w' v' (l ++ m) ∧ Below B w w' := by
  obtain ⟨v', w', h1, h2, h3, _⟩ := sappend_own' ty h hx hB hl
  exact ⟨v', w', h1, h2, h3⟩
/-- A slice of one hash that was just laid. -/
theorem Sums.one (w : World) (x : List UInt8) (h : x.length = 32) : Sums (w.alloc (.cells (x.map u8V).toArray 31)) (.slice (some ⟨w.heap.size, 0, none⟩) 1 1) [x] := by
  refine Sums.mk (l := [x]) (by simp) (by decide) (all32.one h) (by simp) fun j hj i v hv => ?_
  obtain rfl : j = 0 := by simpa using hj
  rw [cell_of (heap_alloc_last w _)]
  simpa using hv
theorem below_range {w w' : World} {b o : Nat} {cs : List Value} (h : Below w.heap.size w w') (hb : b < w.heap.size) (r : w.rangeAt b o cs) : w'.rangeAt b o cs := fun j v hv => (h.cell (p := ⟨b, o + j, none⟩) hb).trans (r j v hv)
theorem below_range' {B : Nat} {w w' : World} {b o : Nat} {cs : List Value} (h : Below B w w') (hb : b < B) (r : w.rangeAt b o cs) : w'.rangeAt b o cs := fun j v hv => (h.cell (p := ⟨b, o + j, none⟩) hb).trans (r j v hv)
/- Slices are cut. -/
/-- The address behind k hashes, as the model has it. -/
def cutS (a : Option Addr) (k cap : Nat) : Option Addr := if cap = k then a else a.map (·.add (k * 32))
theorem Sums.head {w : World} {a : Option Addr} {n cap : Nat} {l : Hs} (h : Sums w (.slice a n cap) l) (k : Nat) (hk : k ≤ l.length) : Sums w (.slice a k cap) (l.take k) := by
  obtain ⟨a', cap', e, h1, h2, h3, h4, h5⟩ := h
  injection e with e1 e2 e3
  subst e1 e2 e3
  have hl : (l.take k).length = k := by rw [List.length_take]; omega
  refine ⟨a, cap, by rw [hl], by omega, by omega, fun e => by have := h3 e; omega, h4.take k, fun hn => ?_⟩
  obtain ⟨b, off, rfl, hb, hj⟩ := h5 (by omega)
  exact ⟨b, off, rfl, hb, fun j h => by rw [List.getElem_take]; exact hj j (by omega)⟩
theorem Sums.tail {w : World} {a : Option Addr} {n cap : Nat} {l : Hs} (h : Sums w (.slice a n cap) l) (k : Nat) (hk : k ≤ l.length) : Sums w (.slice (cutS a k cap) (l.length - k) (cap - k)) (l.drop k) := by
  obtain ⟨a', cap', e, h1, h2, h3, h4, h5⟩ := h
  injection e with e1 e2 e3
  subst e1 e2 e3
  have hl : (l.drop k).length = l.length - k := List.length_drop
  refine ⟨cutS a k cap, cap - k, by rw [hl], by omega, by omega, fun e => ?_, h4.drop k, fun hn => ?_⟩
  · unfold cutS at e
    split at e
    · omega
    · cases a with
      | none => have := h3 rfl; omega
      | some a => cases e
  · obtain ⟨b, off, rfl, hb, hj⟩ := h5 (by omega)
    refine ⟨b, off + k * 32, ?_, hb, fun j h => ?_⟩
    · unfold cutS
      rw [if_neg (by omega), Option.map_some, Addr.add_mid]
    · rw [List.getElem_drop, show off + k * 32 + j * 32 = off + (k + j) * 32 by omega]
      exact hj (k + j) (by omega)
theorem size_sum (w : World) : (Go.sizeOf 31).run Tryd.prog w = .ok 32 w := by
  obtain ⟨i0, hi, _, _, _⟩ := info_parts info_sumR
  have hc : Tryd.prog.cellsOf 31 = 32 := by kernel_rfl
  rw [run_sizeOf w hi, hc]
theorem elem_sums : Tryd.prog.elem 22 = 31 := by kernel_rfl
set_option maxRecDepth 100000 in
theorem scut_lh (va : Option Addr) (n cap k m : Nat) (h : k ≤ m) (h2 : m ≤ cap) (w : World) : (Instr.sliceAt 22 (.slice va n cap) (some (.int .i64 (k : Int))) (some (.int .i64 (m : Int))) none).run Tryd.prog w = .ok (.slice (cutS va k cap) (m - k) (cap - k)) w := by
  refine (run_sliceAt_slice w _ _ _ _ _ Tryd.underlying22).trans ?_
  rw [run_slice_lh (P := Tryd.prog) w _ va n cap Tryd.underlying22 _ _ _ _ (by omega) (by omega) (by omega), elem_sums, size_sum]
  simp only [Result.andThen, sliced, Int.toNat_natCast, cutS]
set_option maxRecDepth 100000 in
theorem scut_h (va : Option Addr) (n cap m : Nat) (h2 : m ≤ cap) (w : World) : (Instr.sliceAt 22 (.slice va n cap) none (some (.int .i64 (m : Int))) none).run Tryd.prog w = .ok (.slice va m cap) w := by
  refine (run_sliceAt_slice w _ _ _ _ _ Tryd.underlying22).trans ?_
  rw [run_slice_h (P := Tryd.prog) w _ va n cap Tryd.underlying22 _ _ (by omega) (by omega), elem_sums, size_sum]
  cases va with
  | none => simp [Result.andThen, sliced]
  | some a => obtain ⟨b, off, s⟩ := a; cases s <;> simp [Result.andThen, sliced, Addr.add]
set_option maxRecDepth 100000 in
theorem scut_l (va : Option Addr) (n cap k : Nat) (h2 : k ≤ n) (w : World) : (Instr.sliceAt 22 (.slice va n cap) (some (.int .i64 (k : Int))) none none).run Tryd.prog w = .ok (.slice (cutS va k cap) (n - k) (cap - k)) w := by
  refine (run_sliceAt_slice w _ _ _ _ _ Tryd.underlying22).trans ?_
  rw [run_slice_l (P := Tryd.prog) w _ va n cap Tryd.underlying22 _ _ (by omega) (by omega), elem_sums, size_sum]
  simp only [Result.andThen, sliced, Int.toNat_natCast, cutS]
theorem wpList_slice_runS {ops : Array Oper} {rest : List Oper} {o : Oper} {a : Act} {w : World} {Q : Exit → Act → World → Prop} (hg : o.guard = none) (t : TypeId) (x : Operand) (lo hi mx : Option Operand) (hop : o.op = .slice t x lo hi mx) {u r : Value} {lo' hi' mx' : Option Value} (hx : a.eval x = u) (h1 : lo.map a.eval = lo') (h2 : hi.map a.eval = hi') (h3 : mx.map a.eval = mx')
    (hr : (Instr.sliceAt t u lo' hi' mx').run Tryd.prog w = .ok r w) (h : wpList Tryd.prog ops Q rest (a.put o.dst r) w) : wpList Tryd.prog ops Q (o :: rest) a w := by
  refine wpList_plain hg fun K hK => ?_
  unfold Oper.wp
  simp [execOp, hop, hx, h1, h2, h3, hr]
  exact hK _ _ h
/-! ### An argument -/
set_option maxRecDepth 100000 in
theorem sum_cells {H : Type} {enc : TypeId × Value → H} {W : World} {fuel : Nat} {cs : List Value} {x : DataW H × List MemPlace}
    (hf : DataW.trod enc Tryd.prog W 0 (fun _ => true) true fuel 31 cs = some x) : ∃ l : List UInt8, cs = l.map u8V ∧ l.length = 32 := by
  obtain ⟨xs, m, _, _, hcl, hl, hx⟩ := DataW.trod_array Tryd.underlying31 hf
  have k1 : Tryd.prog.cellsOf 5 = 1 := by kernel_rfl
  have hc32 : cs.length = 32 := hcl.trans (by kernel_rfl)
  have key : ∀ i, i < 32 → ∃ z, cs[i]? = some (.int .u8 z) ∧ (Lit.int .u8 z).wf = true := by
    intro i hi
    have h0 := hx i hi
    rw [k1] at h0
    obtain ⟨y, hy⟩ : ∃ y, xs[i]? = some y := ⟨xs[i], List.getElem?_eq_getElem (by omega)⟩
    rw [hy] at h0
    obtain ⟨z, hc, _, hw⟩ := DataW.trod_int Tryd.underlying5 h0
    refine ⟨z, ?_, hw⟩
    have := congrArg (·[0]?) hc
    simpa [List.getElem?_take, List.getElem?_drop] using this
  have hb : ∀ z, (Lit.int .u8 z).wf = true → ∃ b : UInt8, z = (b.toNat : Int) := fun z h => by
    have hz : 0 ≤ z ∧ z ≤ 255 := by simpa [Lit.wf, IntKind.min, IntKind.max, IntKind.signed, IntKind.bits] using h
    refine ⟨UInt8.ofNat z.toNat, ?_⟩
    rw [UInt8.toNat_ofNat']
    omega
  have key2 : ∀ i, i < 32 → ∃ b : UInt8, cs[i]? = some (u8V b) := fun i hi => by
    obtain ⟨z, h1, h2⟩ := key i hi
    obtain ⟨b, rfl⟩ := hb z h2
    exact ⟨b, h1⟩
  refine ⟨(List.range 32).attach.map fun i => Classical.choose (key2 i.1 (List.mem_range.1 i.2)), ?_, by simp⟩
  apply List.ext_getElem?
  intro i
  by_cases hi : i < 32
  · have := Classical.choose_spec (key2 i hi)
    rw [this]
    simp [hi]
  · rw [List.getElem?_eq_none (by omega), List.getElem?_eq_none (by simp; omega)]
theorem sums_of {H : Type} {enc : TypeId × Value → H} {W : World} {a : Option Addr} {len cap : Nat} {d : DataW H} {ps : List MemPlace}
    (h : DataW.Trod enc Tryd.prog W 0 (fun _ => true) true 22 (.slice a len cap) d ps) : ∃ l, Sums W (.slice a len cap) l := by
  obtain ⟨fuel, hf⟩ := h
  have hf' : DataW.trod enc Tryd.prog W 0 (fun _ => true) true fuel 22 [.slice a len cap] = some (d, ps) := by simpa [Value.cells] using hf
  have k6 : Tryd.prog.cellsOf 31 = 32 := by kernel_rfl
  rcases DataW.trod_slice Tryd.underlying22 hf' with ⟨hcs, _⟩ | ⟨a', len', cap', elems, rest, n, _, hcs, _, _, hl, hm, hlen', hel, _, _⟩
  · simp at hcs
    obtain ⟨rfl, rfl, rfl⟩ := hcs
    exact ⟨[], Sums.nil _⟩
  · simp at hcs
    obtain ⟨rfl, rfl, rfl⟩ := hcs
    have each : ∀ i, i < len → ∃ cs, W.cells? 0 (a'.add (i * 32)) 32 = some cs ∧ ∃ y, DataW.trod enc Tryd.prog W 0 (fun _ => true) true n 31 cs = some y := by
      intro i hi
      have := hel i hi
      rw [k6, List.getElem?_eq_getElem (by omega)] at this
      obtain ⟨cs, h1, h2⟩ := Option.bind_eq_some_iff.1 this
      exact ⟨cs, h1, _, h2⟩
    have hplain : 0 < len → ∃ b off, a' = ⟨b, off, none⟩ ∧ b < W.heap.size := by
      intro hp
      obtain ⟨cs, h1, y, h2⟩ := each 0 hp
      obtain ⟨x, rfl, hx⟩ := sum_cells h2
      have hb := World.cells?_block h1 (by decide)
      have h3 := (World.cells?_some h1).2.2 0 (by decide)
      have e0 : (a'.add (0 * 32)).add 0 = a' := by unfold Addr.add; simp
      have e1 : (a'.add (0 * 32)).block = a'.block := by unfold Addr.add; simp
      rw [e0] at h3
      rw [e1] at hb
      obtain ⟨b, off, spot⟩ := a'
      refine ⟨b, off, ?_, hb⟩
      cases spot with
      | none => rfl
      | some s =>
        obtain ⟨z, hz⟩ : ∃ z, (x.map u8V)[0]? = some (u8V z) := ⟨x[0]'(by omega), by rw [List.getElem?_map, List.getElem?_eq_getElem (by omega)]; rfl⟩
        rw [hz] at h3
        unfold World.cell? at h3
        split at h3 <;> simp_all
    have op : ∀ i, i < len → ∃ x : List UInt8, x.length = 32 ∧ ∃ b off, a' = ⟨b, off, none⟩ ∧ b < W.heap.size ∧ W.rangeAt b (off + i * 32) (x.map u8V) := by
      intro i hi
      obtain ⟨cs, h1, y, h2⟩ := each i hi
      obtain ⟨x, rfl, hx⟩ := sum_cells h2
      obtain ⟨b, off, rfl, hb⟩ := hplain (by omega)
      refine ⟨x, hx, b, off, rfl, hb, fun j v hv => ?_⟩
      have hj : j < 32 := by have := (List.getElem?_eq_some_iff.1 hv).1; simpa [hx] using this
      have := (World.cells?_some h1).2.2 j hj
      rw [Addr.add_mid, Addr.add_mid] at this
      rw [this]
      exact hv
    refine ⟨(List.range len).attach.map fun i => Classical.choose (op i.1 (List.mem_range.1 i.2)), some a', cap, by simp, by simpa using hl, by unfold maxLen at hm; omega, fun e => (by cases e), fun x hx => ?_, fun hp => ?_⟩
    · obtain ⟨i, _, rfl⟩ := List.mem_map.1 hx
      exact (Classical.choose_spec (op i.1 (List.mem_range.1 i.2))).1
    · have hp' : 0 < len := by simpa using hp
      obtain ⟨_, b, off, e, hb, _⟩ := Classical.choose_spec (op 0 hp')
      subst e
      refine ⟨b, off, rfl, hb, fun j hj => ?_⟩
      have hj' : j < len := by simpa using hj
      obtain ⟨_, b', off', e', _, hr⟩ := Classical.choose_spec (op j hj')
      injection e' with e1 e2 _
      subst e1 e2
      simp only [List.getElem_map, List.getElem_attach, List.getElem_range]
      exact hr
end Go.Proofs.YtgiakpnkidblpaaDoor
