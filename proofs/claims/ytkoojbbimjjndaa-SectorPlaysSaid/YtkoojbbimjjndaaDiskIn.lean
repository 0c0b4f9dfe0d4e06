/-
  One disk whose blocks lie from B on: what each call does to it, and what it keeps.
-/
import Derived.Test.YtkoojbbimjjndaaDiskLast
import Derived.Test.YtkoojbbimjjndaaDiskSettle
import Derived.Test.YtkoojbbimjjndaaDiskNew
namespace Go.Proofs.Ytkoojbbimjjndaa
open Go.RowKit Dsk

/-- Block p is a disk whose blocks lie from B on. -/
def DiskIn (B p : Nat) (d : Dk) (w : World) : Prop := B ≤ p ∧ ∃ bl cv, B ≤ bl ∧ (∀ k, cv.ownBlock = some k → B ≤ k) ∧ DiskAt p bl cv d w
/-- Nothing below B has turned, nor any block that is of no disk. -/
structure FrT (B : Nat) (w w' : World) : Prop where
  below : Below B w w'
  other : ∀ (k : Nat) (C : Array Value) (T : TypeId) (fr : Nat × Nat), w.heap[k]? = some (Obj.cells C T fr) → T ≠ 58 → T ≠ 9 → T ≠ 73 → w'.heap[k]? = w.heap[k]?
theorem FrT.refl (B : Nat) (w : World) : FrT B w w := ⟨Below.refl _ _, fun _ _ _ _ _ _ _ _ => rfl⟩
theorem FrT.trans {B : Nat} {u v w : World} (h : FrT B u v) (k : FrT B v w) : FrT B u w :=
  ⟨h.below.trans k.below, fun i C T fr hi h1 h2 h3 => (k.other i C T fr ((h.other i C T fr hi h1 h2 h3).trans hi) h1 h2 h3).trans (h.other i C T fr hi h1 h2 h3)⟩
theorem FrT.of_below {B : Nat} {w w' : World} (h : Below w.heap.size w w') (hB : B ≤ w.heap.size) : FrT B w w' :=
  ⟨h.mono hB, fun i _ _ _ hi _ _ _ => h.block i (Array.getElem?_eq_some_iff.1 hi).1⟩
theorem FrT.of_fr {B p bl : Nat} {cv : Value} {d : Dk} {w w' : World} (h : DiskAt p bl cv d w) (hp : B ≤ p) (hl : B ≤ bl) (hc : ∀ k, cv.ownBlock = some k → B ≤ k) (hf : Fr (fp p bl cv) w w') : FrT B w w' :=
  ⟨hf.below (by have := h.lt; omega) (fun k hk e => by
    rcases e with rfl | rfl | e
    · omega
    · omega
    · have := hc k e; omega), fun i C T fr hi h1 h2 h3 => hf.block i (Array.getElem?_eq_some_iff.1 hi).1 (h.apart hi h1 h2 h3)⟩
theorem FrT.cellT {B : Nat} {w w' : World} (h : FrT B w w') {k : Nat} {C : Array Value} {T : TypeId} {fr : Nat × Nat} (hk : w.heap[k]? = some (.cells C T fr)) (h1 : T ≠ 58) (h2 : T ≠ 9) (h3 : T ≠ 73) : w'.heap[k]? = some (.cells C T fr) := (h.other k C T fr hk h1 h2 h3).trans hk
theorem DiskIn.old {B p : Nat} {d : Dk} {w w' : World} (h : DiskIn B p d w) (hb : Below w.heap.size w w') : DiskIn B p d w' := by
  obtain ⟨h1, bl, cv, h2, h3, h4⟩ := h
  exact ⟨h1, bl, cv, h2, h3, h4.old hb⟩
theorem DiskIn.size {B p : Nat} {d : Dk} {w : World} (h : DiskIn B p d w) : B ≤ w.heap.size := by
  obtain ⟨h1, bl, cv, h2, h3, h4⟩ := h
  have := h4.lt; omega
/-- A block of another type is turned, or made: a disk stays. -/
theorem DiskIn.other {B p : Nat} {d : Dk} {w w' : World} (h : DiskIn B p d w) {k : Nat} {C : Array Value} {T : TypeId} {fr : Nat × Nat} (hk : w.heap[k]? = some (.cells C T fr)) (h1 : T ≠ 58) (h2 : T ≠ 9) (h3 : T ≠ 73) (ho : Only k w w') : DiskIn B p d w' := by
  obtain ⟨e1, bl, cv, e2, e3, e4⟩ := h
  exact ⟨e1, bl, cv, e2, e3, e4.kept fun j hj hf => ho.block j hj fun e => e4.apart hk h1 h2 h3 (e ▸ hf)⟩

theorem newIn (n : Nat) (w : World) (B : Nat) (h1 : 1 ≤ n) (hn : n ≤ 65536) (hB : B ≤ w.heap.size) :
    Calls Try.prog 16 #[.int .i64 (n : Int)] w fun e w' => ∃ p, e = .returned (.pointer (some ⟨p, 0, none⟩)) ∧ DiskIn B p (Dsk.new n) w' ∧ Below w.heap.size w w' :=
  (new_disk n w h1 hn).mono fun _ _ ⟨p, bl, he, hp, hl, hd, hb⟩ => ⟨p, he, ⟨by omega, bl, _, by omega, (fun k e => by simp [Value.ownBlock] at e), hd⟩, hb⟩
theorem writeIn (B p : Nat) (d : Dk) (at_ : Int) (s : ByteArray) (w : World) (h : DiskIn B p d w) (hs : d.steps < 1000000) (hc : d.cache.length < 1000000) (hz : s.size ≤ 9223372036854775807) :
    Calls Try.prog 27 #[.pointer (some ⟨p, 0, none⟩), .int .i64 at_, .string s] w fun e w' => e = .returned (.int .i64 (writeE d at_ s)) ∧ DiskIn B p (writeD d at_ s) w' ∧ FrT B w w' := by
  obtain ⟨h1, bl, cv, h2, h3, h4⟩ := h
  refine (write_disk p bl cv d at_ s w h4 hs hc hz).mono fun e w' ⟨cv', he, hd, hf, hg⟩ => ⟨he, ⟨h1, bl, cv', h2, fun k e => ?_, hd⟩, FrT.of_fr h4 h1 h2 h3 hf⟩
  rcases hg k e with e' | e'
  · exact h3 k e'
  · have := h4.lt; omega
theorem flushIn (B p : Nat) (d : Dk) (w : World) (h : DiskIn B p d w) (hs : d.steps < 1000000) :
    Calls Try.prog 19 #[.pointer (some ⟨p, 0, none⟩)] w fun e w' => e = .returned (.int .i64 (err d)) ∧ DiskIn B p (Dsk.flush d) w' ∧ FrT B w w' := by
  obtain ⟨h1, bl, cv, h2, h3, h4⟩ := h
  refine (flush_disk p bl cv d w h4 hs).mono fun e w' ⟨cv', he, hd, hf, hg⟩ => ⟨he, ⟨h1, bl, cv', h2, fun k e => ?_, hd⟩, FrT.of_fr h4 h1 h2 h3 hf⟩
  rcases hg k e with e' | e'
  · exact h3 k e'
  · have := h4.lt; omega
theorem crashIn (B p : Nat) (d : Dk) (w : World) (h : DiskIn B p d w) (v : Value) (ps : List Int) (b : Nat) (hps : Ints w v ps b) (hb : b < B ∨ w.heap.size ≤ b ∨ ∃ C fr, w.heap[b]? = some (.cells C 3 fr)) :
    Calls Try.prog 23 #[.pointer (some ⟨p, 0, none⟩), v] w fun e w' => e = .returned (.tuple #[]) ∧ DiskIn B p (Dsk.crash d (odd ps)) w' ∧ FrT B w w' := by
  obtain ⟨h1, bl, cv, h2, h3, h4⟩ := h
  refine (crash_disk p bl cv d w h4 v ps b hps fun hlt e => ?_).mono fun e w' ⟨he, hd, hf⟩ => ⟨he, ⟨h1, bl, _, h2, (fun k e => by simp [Value.ownBlock] at e), hd⟩, FrT.of_fr h4 h1 h2 h3 hf⟩
  subst e
  rcases hb with hb | hb | ⟨C, fr, hb⟩
  · omega
  · omega
  · have := h4.rows
    rw [hb] at this
    simp at this
theorem armIn (B p : Nat) (d : Dk) (n : Int) (w : World) (h : DiskIn B p d w) (hn : n ≤ 9223372036854775807) :
    Calls Try.prog 21 #[.pointer (some ⟨p, 0, none⟩), .int .i64 n] w fun e w' => e = .returned (.tuple #[]) ∧ DiskIn B p (Dsk.arm d n.toNat) w' ∧ FrT B w w' := by
  obtain ⟨h1, bl, cv, h2, h3, h4⟩ := h
  exact (arm_any p bl cv d n w h4 hn).mono fun e w' ⟨he, hd, ho⟩ => ⟨he, ⟨h1, bl, cv, h2, h3, hd⟩, FrT.of_fr h4 h1 h2 h3 (ho.fr (.inl rfl))⟩
theorem readIn (B p : Nat) (d : Dk) (at_ : Int) (w : World) (h : DiskIn B p d w) :
    Calls Try.prog 32 #[.pointer (some ⟨p, 0, none⟩), .int .i64 at_] w fun e w' => e = .returned (.tuple #[.string (readS d at_), .int .i64 (readE d at_)]) ∧ Below w.heap.size w w' := by
  obtain ⟨h1, bl, cv, h2, h3, h4⟩ := h
  exact read_disk p bl cv d at_ w h4
theorem peekIn (B p : Nat) (d : Dk) (at_ : Int) (w : World) (h : DiskIn B p d w) :
    Calls Try.prog 34 #[.pointer (some ⟨p, 0, none⟩), .int .i64 at_] w fun e w' => e = .returned (.string (peek d at_)) ∧ w = w' := by
  obtain ⟨h1, bl, cv, h2, h3, h4⟩ := h
  exact peek_any p bl cv d at_ w h4
theorem onIn (B p : Nat) (d : Dk) (w : World) (h : DiskIn B p d w) :
    Calls Try.prog 29 #[.pointer (some ⟨p, 0, none⟩)] w fun e w' => e = .returned (.bool d.on) ∧ w = w' := by
  obtain ⟨h1, bl, cv, h2, h3, h4⟩ := h
  exact on_any p bl cv d w h4
theorem stepsIn (B p : Nat) (d : Dk) (w : World) (h : DiskIn B p d w) :
    Calls Try.prog 30 #[.pointer (some ⟨p, 0, none⟩)] w fun e w' => e = .returned (.int .i64 d.steps) ∧ w = w' := by
  obtain ⟨h1, bl, cv, h2, h3, h4⟩ := h
  exact steps_any p bl cv d w h4
theorem cachedIn (B p : Nat) (d : Dk) (w : World) (h : DiskIn B p d w) :
    Calls Try.prog 31 #[.pointer (some ⟨p, 0, none⟩)] w fun e w' => e = .returned (.int .i64 d.cache.length) ∧ w = w' := by
  obtain ⟨h1, bl, cv, h2, h3, h4⟩ := h
  exact cached_any p bl cv d w h4
end Go.Proofs.Ytkoojbbimjjndaa
