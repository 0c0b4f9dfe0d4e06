/-
  Slices of runs in memory: what they read as, what append makes of them.
-/
import Derived.Test.YtlbnopfbfnobnaaGenMem
import Derived.Test.YtlbnopfbfnobnaaExtGive
import Derived.Laws.OwnMore
import Derived.Deep.AppendLies
import Derived.OwnWalk
import Derived.ArgAppend
namespace Go.Proofs.Ytlbnopfbfnobnaa
open Go.RowKit Ext

theorem info_run : (Try.prog.info? 24).map (fun i => (i.zero, i.size, i.bytes)) = some (some (.agg #[.int .i64 0, .int .i64 0]), 2, 16) := by kernel_rfl
def okR (r : Rn) : Prop := (-9223372036854775808 ≤ r.1 ∧ r.1 ≤ 9223372036854775807) ∧ -9223372036854775808 ≤ r.2 ∧ r.2 ≤ 9223372036854775807
theorem okR_snd {r : Rn} (h : sndB r = true) : okR r := by rw [sndB_iff] at h; unfold okR; omega
def rV (r : Rn) : Value := .agg #[.int .i64 r.1, .int .i64 r.2]
def rc (l : List Rn) : List Value := l.flatMap fun r => [.int .i64 r.1, .int .i64 r.2]
theorem rc_cons (r : Rn) (t : List Rn) : rc (r :: t) = .int .i64 r.1 :: .int .i64 r.2 :: rc t := by simp [rc]
theorem rc_append (a b : List Rn) : rc (a ++ b) = rc a ++ rc b := by simp [rc]
theorem rc_length : ∀ l : List Rn, (rc l).length = l.length * 2
  | [] => rfl
  | r :: t => by rw [rc_cons, List.length_cons, List.length_cons, rc_length t, List.length_cons]; omega
theorem rc_get : ∀ (l : List Rn) (j : Nat) (hj : j < l.length), (rc l)[j * 2]? = some (.int .i64 l[j].1) ∧ (rc l)[j * 2 + 1]? = some (.int .i64 l[j].2)
  | r :: t, 0, _ => by rw [rc_cons]; exact ⟨rfl, rfl⟩
  | r :: t, j + 1, hj => by
    have := rc_get t j (by simpa using hj)
    rw [rc_cons, show (j + 1) * 2 = j * 2 + 1 + 1 by omega]
    simpa using this
theorem rc_one (l : List Rn) : ∀ u ∈ rc l, u.oneCell' = true := by
  intro u hu
  obtain ⟨r, _, hr⟩ := List.mem_flatMap.1 hu
  simp at hr
  rcases hr with rfl | rfl <;> rfl
/-- v is a slice that reads as the runs l. -/
def Runs (w : World) (v : Value) (l : List Rn) : Prop :=
  ∃ a cap, v = .slice a l.length cap ∧ l.length ≤ cap ∧ cap ≤ 9223372036854775807 ∧ (a = none → cap = 0) ∧ (∀ r ∈ l, okR r) ∧
    (0 < l.length → ∃ b off, a = some ⟨b, off, none⟩ ∧ b < w.heap.size ∧ ∀ j (hj : j < l.length), w.cell? ⟨b, off + j * 2, none⟩ = some (.int .i64 l[j].1) ∧ w.cell? ⟨b, off + j * 2 + 1, none⟩ = some (.int .i64 l[j].2))
theorem Runs.kept {w w' : World} {v : Value} {l : List Rn} (h : Runs w v l) (hs : w.heap.size ≤ w'.heap.size) (k : ∀ b o, b < w.heap.size → w'.cell? ⟨b, o, none⟩ = w.cell? ⟨b, o, none⟩) : Runs w' v l := by
  obtain ⟨a, cap, rfl, h1, h2, h3, h4, h5⟩ := h
  refine ⟨a, cap, rfl, h1, h2, h3, h4, fun hn => ?_⟩
  obtain ⟨b, off, rfl, hb, hj⟩ := h5 hn
  exact ⟨b, off, rfl, Nat.lt_of_lt_of_le hb hs, fun j h => by rw [k _ _ hb, k _ _ hb]; exact hj j h⟩
theorem Runs.old {w w' : World} {v : Value} {l : List Rn} (h : Runs w v l) (k : Below w.heap.size w w') : Runs w' v l := h.kept k.size fun _ _ hb => k.cell (by exact hb)
/-- The runs lie below B: what turns behind it does not matter. -/
def RunsB (B : Nat) (w : World) (v : Value) (l : List Rn) : Prop := Runs w v l ∧ ∀ b off n c, v = .slice (some ⟨b, off, none⟩) n c → 0 < l.length → b < B
theorem Runs.below {w : World} {v : Value} {l : List Rn} (h : Runs w v l) : RunsB w.heap.size w v l := ⟨h, fun b off n c e hl => by
  obtain ⟨a, cap, rfl, h1, h2, h3, h4, h5⟩ := h
  obtain ⟨b', off', rfl, hb, hj⟩ := h5 hl
  injection e with e1 _ _
  injection e1 with e1
  injection e1 with e1 _ _
  omega⟩
theorem RunsB.keep {B : Nat} {w w' : World} {v : Value} {l : List Rn} (h : RunsB B w v l) (k : Below B w w') : RunsB B w' v l := by
  obtain ⟨⟨a, cap, rfl, h1, h2, h3, h4, h5⟩, hB⟩ := h
  refine ⟨⟨a, cap, rfl, h1, h2, h3, h4, fun hn => ?_⟩, hB⟩
  obtain ⟨b, off, rfl, hb, hj⟩ := h5 hn
  have hlt := hB b off _ _ rfl hn
  exact ⟨b, off, rfl, Nat.lt_of_lt_of_le hb k.size, fun j h => by rw [k.cell (p := ⟨b, _, none⟩) hlt, k.cell (p := ⟨b, _, none⟩) hlt]; exact hj j h⟩
theorem Runs.nil (w : World) : Runs w (.slice none 0 0) [] := ⟨none, 0, rfl, by simp, by decide, fun _ => rfl, (fun r hr => by cases hr), fun h => absurd h (by simp)⟩
theorem Runs.mk {w : World} {l : List Rn} {b off cap : Nat} (hl : l.length ≤ cap) (hc : cap ≤ 9223372036854775807) (hok : ∀ r ∈ l, okR r) (hb : b < w.heap.size)
    (hj : ∀ j (hj : j < l.length), w.cell? ⟨b, off + j * 2, none⟩ = some (.int .i64 l[j].1) ∧ w.cell? ⟨b, off + j * 2 + 1, none⟩ = some (.int .i64 l[j].2)) : Runs w (.slice (some ⟨b, off, none⟩) l.length cap) l :=
  ⟨_, cap, rfl, hl, hc, fun h => (by cases h), hok, fun _ => ⟨b, off, rfl, hb, hj⟩⟩
theorem Runs.ok {w : World} {v : Value} {l : List Rn} (h : Runs w v l) : ∀ r ∈ l, okR r := by
  obtain ⟨a, cap, rfl, h1, h2, h3, h4, h5⟩ := h
  exact h4
theorem Runs.slice {w : World} {v : Value} {l : List Rn} (h : Runs w v l) : ∃ a cap, v = .slice a l.length cap ∧ l.length ≤ cap ∧ cap ≤ 9223372036854775807 := by
  obtain ⟨a, cap, rfl, h1, h2, h3, h4, h5⟩ := h
  exact ⟨a, cap, rfl, h1, h2⟩
/-- A run of them: its cells. -/
theorem Runs.at {w : World} {a : Option Addr} {n cap : Nat} {l : List Rn} (h : Runs w (.slice a n cap) l) (k : Nat) (hk : k < l.length) : ∃ b off, a = some ⟨b, off, none⟩ ∧ b < w.heap.size ∧ n = l.length ∧ w.cell? ⟨b, off + k * 2, none⟩ = some (.int .i64 l[k].1) ∧ w.cell? ⟨b, off + k * 2 + 1, none⟩ = some (.int .i64 l[k].2) := by
  obtain ⟨a', cap', e, h1, h2, h3, h4, h5⟩ := h
  injection e with e1 e2 e3
  subst e1 e2 e3
  obtain ⟨b, off, rfl, hb, hj⟩ := h5 (by omega)
  exact ⟨b, off, rfl, hb, rfl, hj k hk⟩
theorem Runs.news {w : World} {v : Value} {l : List Rn} (h : Runs w v l) : (v = .slice none 0 0 ∧ l = []) ∨ ∃ a c, v = .slice (some a) l.length c ∧ ∀ j u, (rc l)[j]? = some u → w.cell? (a.add j) = some u := by
  obtain ⟨a, cap, rfl, h1, h2, h3, h4, h5⟩ := h
  cases a with
  | none =>
    obtain rfl := h3 rfl
    have hl : l.length = 0 := by omega
    exact .inl ⟨by rw [hl], List.eq_nil_of_length_eq_zero hl⟩
  | some a =>
    refine .inr ⟨a, cap, rfl, fun j u hu => ?_⟩
    have hjl : j < l.length * 2 := by rw [← rc_length]; exact (List.getElem?_eq_some_iff.1 hu).1
    obtain ⟨b, off, e, hb, hj⟩ := h5 (by omega)
    injection e with e
    subst e
    rw [Addr.add_mid]
    obtain ⟨c1, c2⟩ := hj (j / 2) (by omega)
    obtain ⟨g1, g2⟩ := rc_get l (j / 2) (by omega)
    rcases Nat.mod_two_eq_zero_or_one j with e | e
    · rw [show off + j = off + j / 2 * 2 by omega, c1, ← g1, show j / 2 * 2 = j by omega]; exact hu
    · rw [show off + j = off + j / 2 * 2 + 1 by omega, c2, ← g2, show j / 2 * 2 + 1 = j by omega]; exact hu
/-- A slice of the call's own. -/
def Own (B : Nat) (w : World) (v : Value) (l : List Rn) : Prop := w.ownsRow B 24 2 v l.length (rc l) ∧ ∀ r ∈ l, okR r
theorem Own.runs {B : Nat} {w : World} {v : Value} {l : List Rn} (h : Own B w v l) : Runs w v l := by
  obtain ⟨h, hok⟩ := h
  have h' := h
  obtain ⟨_, h | ⟨g, cap, cur, rfl, hbg, hg, hnc, hcm, hcs, htake⟩⟩ := h
  · obtain ⟨rfl, h0⟩ := h
    have := List.eq_nil_of_length_eq_zero h0
    subst this
    exact Runs.nil _
  · have hlt : g < w.heap.size := (Array.getElem?_eq_some_iff.1 hg).1
    refine Runs.mk hnc (by unfold maxLen at hcm; omega) hok hlt fun j hj => ?_
    have hc := h'.cells (g := g) rfl
    obtain ⟨g1, g2⟩ := rc_get l j hj
    have c1 := hc _ _ g1
    have c2 := hc _ _ g2
    rw [Addr.add_mid] at c1 c2
    rw [Nat.add_assoc]
    exact ⟨c1, c2⟩
theorem Own.nil (B : Nat) (w : World) : Own B w (.slice none 0 0) [] := ⟨World.ownsRow_nil _ _ _ _, fun r hr => by cases hr⟩
theorem Own.lower {B B' : Nat} {w : World} {v : Value} {l : List Rn} (h : Own B w v l) (hB : B' ≤ B) : Own B' w v l := by
  obtain ⟨⟨h1, h2⟩, h3⟩ := h
  refine ⟨⟨h1, ?_⟩, h3⟩
  rcases h2 with e | ⟨g, cap, cur, e1, e2, r⟩
  · exact .inl e
  · exact .inr ⟨g, cap, cur, e1, by omega, r⟩
theorem Own.kept {B : Nat} {w w' : World} {v : Value} {l : List Rn} (h : Own B w v l) (k : Below w.heap.size w w') : Own B w' v l := by
  obtain ⟨⟨h1, h2⟩, h3⟩ := h
  refine ⟨⟨h1, ?_⟩, h3⟩
  rcases h2 with e | ⟨g, cap, cur, e1, e2, hg, r⟩
  · exact .inl e
  · exact .inr ⟨g, cap, cur, e1, e2, (k.block g (Array.getElem?_eq_some_iff.1 hg).1).trans hg, r⟩
theorem Own.drew {B : Nat} {w : World} {v : Value} {l : List Rn} (h : Own B w v l) : Own B w.drew v l := h
theorem Runs.drew {w : World} {v : Value} {l : List Rn} (h : Runs w v l) : Runs w.drew v l := h
theorem grown_below {w w' : World} {row : Option Nat} (h : w.grownBy w' row) {B : Nat} (hB : B ≤ w.heap.size) (hr : ∀ g, row = some g → B ≤ g) : Below B w w' :=
  ⟨h.os, h.tape, h.output, h.size, fun k hk => h.block k (by omega) fun e => by have := hr k e.symm; omega⟩
theorem Own.lt {B : Nat} {w : World} {v : Value} {l : List Rn} (h : Own B w v l) : ∀ g, v.ownBlock = some g → B ≤ g ∧ g < w.heap.size := World.ownsRow.lt h.1
/-- append onto a slice of the call's own; but that slice's block nothing that was there turns. -/
theorem append_own' {B : Nat} {w : World} {v x : Value} {l m : List Rn} (ty : TypeId) (h : Own B w v l) (hx : Runs w x m) (hB : B ≤ w.heap.size) (hl : l.length + m.length ≤ 1000000000) :
    ∃ v' w', (Builtin.append_ #[22, 22] ty #[v, x]).run Try.prog w = .ok v' w' ∧ Own B w' v' (l ++ m) ∧ Below B w w' ∧ w.grownBy w' v.ownBlock := by
  obtain ⟨i0, hi, hz0, hz1, hz2⟩ := info_parts info_run
  rcases hx.news with ⟨rfl, rfl⟩ | ⟨a, c, rfl, hc⟩
  · exact ⟨v, w, run_append_owned_none w B _ ty _ i0 2 Try.underlying22 hi v _ _ h.1, by rw [List.append_nil]; exact h, Below.refl _ _, World.grownBy.refl _ _⟩
  · obtain ⟨v', w', h1, h2, h3, _⟩ := run_append_own_at (P := Try.prog) w B _ ty _ i0 _ 2 16 Try.underlying22 hi hz0 hz1 hz2 rfl (by decide) v l.length (rc l) h.1 a m.length c (rc m) (rc_length m) hc (rc_one m) (by unfold maxLen; omega) (by omega) hB
    refine ⟨v', w', h1, ⟨by rw [List.length_append, rc_append]; exact h2, fun r hr => ?_⟩, grown_below h3 hB fun g e => (h.lt g e).1, h3⟩
    rcases List.mem_append.1 hr with hr | hr
    · exact h.2 r hr
    · exact hx.ok r hr
theorem append_own {B : Nat} {w : World} {v x : Value} {l m : List Rn} (ty : TypeId) (h : Own B w v l) (hx : Runs w x m) (hB : B ≤ w.heap.size) (hl : l.length + m.length ≤ 1000000000) :
    ∃ v' w', (Builtin.append_ #[22, 22] ty #[v, x]).run Try.prog w = .ok v' w' ∧ Own B w' v' (l ++ m) ∧ Below B w w' := by
  obtain ⟨v', w', h1, h2, h3, _⟩ := append_own' ty h hx hB hl
  exact ⟨v', w', h1, h2, h3⟩
/-- append onto a slice that has no room: the new one is the call's own. -/
theorem append_full {w : World} {a : Option Addr} {x : Value} {l m : List Rn} (ty : TypeId) (h : Runs w (.slice a l.length l.length) l) (hx : Runs w x m) (hm : 0 < m.length) (hl : l.length + m.length ≤ 1000000000) :
    ∃ v' w', (Builtin.append_ #[22, 22] ty #[.slice a l.length l.length, x]).run Try.prog w = .ok v' w' ∧ Own w.heap.size w' v' (l ++ m) ∧ Below w.heap.size w w' := by
  obtain ⟨i0, hi, hz0, hz1, hz2⟩ := info_parts info_run
  have hok : ∀ r ∈ l ++ m, okR r := fun r hr => by
    rcases List.mem_append.1 hr with hr | hr
    · exact h.ok r hr
    · exact hx.ok r hr
  rcases hx.news with ⟨_, rfl⟩ | ⟨a', c, rfl, hc⟩
  · simp at hm
  · rcases h.news with ⟨e, rfl⟩ | ⟨b, c', e, hcb⟩
    · injection e with e _ _
      subst e
      obtain ⟨v', w', h1, h2, h3, _⟩ := run_append_own_at (P := Try.prog) w w.heap.size _ ty _ i0 _ 2 16 Try.underlying22 hi hz0 hz1 hz2 rfl (by decide) (.slice none 0 0) 0 [] (World.ownsRow_nil _ _ _ _) a' m.length c (rc m) (rc_length m) hc (rc_one m) (by unfold maxLen; omega) (by omega) (Nat.le_refl _)
      refine ⟨v', w', h1, ⟨by rw [List.length_append, rc_append]; exact h2, hok⟩, grown_below h3 (Nat.le_refl _) fun g e => by simp [Value.ownBlock] at e⟩
    · injection e with e _ _
      subst e
      obtain ⟨v', w', h1, h2, h3⟩ := run_append_arg_grows (P := Try.prog) w _ ty _ i0 _ 2 16 Try.underlying22 hi hz0 hz1 hz2 rfl (by decide) b l.length l.length (rc l) (rc_length l) hcb a' m.length c (rc m) (rc_length m) hc (by omega) (by unfold maxLen; omega) (by omega)
      exact ⟨v', w', h1, ⟨by rw [List.length_append, rc_append]; exact h2, hok⟩, grown_below h3 (Nat.le_refl _) fun g e => by cases e⟩
/-- A slice of one run that was just laid. -/
theorem Runs.one (w : World) (r : Rn) (h : okR r) : Runs (w.alloc (.cells #[.int .i64 r.1, .int .i64 r.2] 24)) (.slice (some ⟨w.heap.size, 0, none⟩) 1 1) [r] := by
  refine Runs.mk (l := [r]) (by simp) (by decide) (fun x hx => by simp at hx; subst hx; exact h) (by simp) fun j hj => ?_
  have : j = 0 := by simpa using hj
  subst this
  exact ⟨cell_of (heap_alloc_last w _) 0, cell_of (heap_alloc_last w _) 1⟩
/- Slices are cut. -/
theorem Runs.head {w : World} {a : Option Addr} {n cap : Nat} {l : List Rn} (h : Runs w (.slice a n cap) l) (k : Nat) (hk : k ≤ l.length) : Runs w (.slice a k k) (l.take k) := by
  obtain ⟨a', cap', e, h1, h2, h3, h4, h5⟩ := h
  injection e with e1 e2 e3
  subst e1 e2 e3
  have hl : (l.take k).length = k := by rw [List.length_take]; omega
  refine ⟨a, k, by rw [hl], by omega, by omega, fun e => by have := h3 e; omega, fun r hr => h4 r (List.mem_of_mem_take hr), fun hn => ?_⟩
  obtain ⟨b, off, rfl, hb, hj⟩ := h5 (by omega)
  exact ⟨b, off, rfl, hb, fun j h => by rw [List.getElem_take]; exact hj j (by omega)⟩
theorem Runs.head' {w : World} {a : Option Addr} {n cap : Nat} {l : List Rn} (h : Runs w (.slice a n cap) l) (k : Nat) (hk : k ≤ l.length) : Runs w (.slice a k cap) (l.take k) := by
  obtain ⟨a', cap', e, h1, h2, h3, h4, h5⟩ := h
  injection e with e1 e2 e3
  subst e1 e2 e3
  have hl : (l.take k).length = k := by rw [List.length_take]; omega
  refine ⟨a, cap, by rw [hl], by omega, by omega, fun e => by have := h3 e; omega, fun r hr => h4 r (List.mem_of_mem_take hr), fun hn => ?_⟩
  obtain ⟨b, off, rfl, hb, hj⟩ := h5 (by omega)
  exact ⟨b, off, rfl, hb, fun j h => by rw [List.getElem_take]; exact hj j (by omega)⟩
/-- The address behind k runs, as the model has it. -/
def cutA (a : Option Addr) (k cap : Nat) : Option Addr := if cap = k then a else a.map (·.add (k * 2))
theorem Runs.tail {w : World} {a : Option Addr} {n cap : Nat} {l : List Rn} (h : Runs w (.slice a n cap) l) (k : Nat) (hk : k ≤ l.length) : Runs w (.slice (cutA a k cap) (l.length - k) (cap - k)) (l.drop k) := by
  obtain ⟨a', cap', e, h1, h2, h3, h4, h5⟩ := h
  injection e with e1 e2 e3
  subst e1 e2 e3
  have hl : (l.drop k).length = l.length - k := List.length_drop
  refine ⟨cutA a k cap, cap - k, by rw [hl], by omega, by omega, fun e => ?_, fun r hr => h4 r (List.mem_of_mem_drop hr), fun hn => ?_⟩
  · unfold cutA at e
    split at e
    · omega
    · cases a with
      | none => have := h3 rfl; omega
      | some a => cases e
  · obtain ⟨b, off, rfl, hb, hj⟩ := h5 (by omega)
    refine ⟨b, off + k * 2, ?_, hb, fun j h => ?_⟩
    · unfold cutA
      rw [if_neg (by omega), Option.map_some, Addr.add_mid]
    · rw [List.getElem_drop, show off + k * 2 + j * 2 = off + (k + j) * 2 by omega]
      exact hj (k + j) (by omega)
end Go.Proofs.Ytlbnopfbfnobnaa
