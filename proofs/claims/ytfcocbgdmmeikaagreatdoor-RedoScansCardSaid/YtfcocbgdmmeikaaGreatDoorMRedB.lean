/-
  Several texts in one (RedSys, RedAbs, RedLog, RedReg, RedHeadW, RedCk, RedPut, RedFmt).
-/
import Derived.Test.YtfcocbgdmmeikaaGreatDoorMDisk
import Derived.Test.YtfcocbgdmmeikaaGreatDoorMJnl
import Derived.Test.YtfcocbgdmmeikaaGreatDoorMRedA
import Derived.BigQuiet
import Derived.Deep.QuietTactic
import Derived.StillTailTactics
import Derived.Test.YtfcocbgdmmeikaaGreatDoorMGen
/-! ## A disk whose blocks are of a set S, and a pen on it: what each step does, and what it keeps. -/
namespace Go.Proofs.YtfcocbgdmmeikaaGreatDoor
open Go.RowKit Dsk

/-- A disk, all of whose blocks are of S. -/
def DiskS (S : Nat → Prop) (p : Nat) (d : Dk) (w : World) : Prop := S p ∧ ∃ bl cv, S bl ∧ (∀ k, cv.ownBlock = some k → S k) ∧ DiskAt p bl cv d w
/-- New blocks are of S. -/
def Up (S : Nat → Prop) (w : World) : Prop := ∀ k, w.heap.size ≤ k → S k
theorem Up.mono {S : Nat → Prop} {w w' : World} (h : Up S w) (hl : w.heap.size ≤ w'.heap.size) : Up S w' := fun k hk => h k (Nat.le_trans hl hk)
/-- Nothing but blocks of S has turned; of these only block b, and the disk's, by their types. -/
structure FrL (b : Nat) (S : Nat → Prop) (w w' : World) : Prop where
  fr : Fr S w w'
  other : ∀ (k : Nat) (C : Array Value) (T : TypeId) (fr : Nat × Nat), k ≠ b → w.heap[k]? = some (Obj.cells C T fr) → T ≠ 89 → T ≠ 9 → T ≠ 64 → w'.heap[k]? = w.heap[k]?
theorem FrL.refl (b : Nat) (S : Nat → Prop) (w : World) : FrL b S w w := ⟨Fr.refl _ _, fun _ _ _ _ _ _ _ _ _ => rfl⟩
theorem FrL.trans {b : Nat} {S : Nat → Prop} {u v w : World} (h : FrL b S u v) (k : FrL b S v w) : FrL b S u w :=
  ⟨h.fr.trans k.fr, fun i C T fr hb hi h1 h2 h3 => (k.other i C T fr hb ((h.other i C T fr hb hi h1 h2 h3).trans hi) h1 h2 h3).trans (h.other i C T fr hb hi h1 h2 h3)⟩
theorem FrL.of_below {b : Nat} {S : Nat → Prop} {w w' : World} (h : Below w.heap.size w w') : FrL b S w w' :=
  ⟨Fr.of_below h, fun i _ _ _ _ hi _ _ _ => h.block i (Array.getElem?_eq_some_iff.1 hi).1⟩
theorem FrL.of_only {b : Nat} {S : Nat → Prop} {w w' : World} (h : Only b w w') (hb : S b) : FrL b S w w' :=
  ⟨h.fr hb, fun i _ _ _ hn hi _ _ _ => h.block i (Array.getElem?_eq_some_iff.1 hi).1 hn⟩
theorem FrL.size {b : Nat} {S : Nat → Prop} {w w' : World} (h : FrL b S w w') : w.heap.size ≤ w'.heap.size := h.fr.size
theorem FrL.mono {b : Nat} {S S' : Nat → Prop} {w w' : World} (h : FrL b S w w') (hs : ∀ k, k < w.heap.size → S k → S' k) : FrL b S' w w' := ⟨h.fr.mono hs, h.other⟩
theorem DiskS.old {S : Nat → Prop} {p : Nat} {d : Dk} {w w' : World} (h : DiskS S p d w) (hb : Below w.heap.size w w') : DiskS S p d w' := by
  obtain ⟨h1, bl, cv, h2, h3, h4⟩ := h
  exact ⟨h1, bl, cv, h2, h3, h4.old hb⟩
theorem DiskS.mono {S S' : Nat → Prop} {p : Nat} {d : Dk} {w : World} (h : DiskS S p d w) (hs : ∀ k, k < w.heap.size → S k → S' k) : DiskS S' p d w := by
  obtain ⟨h1, bl, cv, h2, h3, h4⟩ := h
  exact ⟨hs _ h4.lt h1, bl, cv, hs _ h4.ltl h2, fun k e => hs _ (h4.ltc e) (h3 k e), h4⟩
/-- A block of another type is turned: a disk stays. -/
theorem DiskS.only {S : Nat → Prop} {p : Nat} {d : Dk} {w w' : World} (h : DiskS S p d w) {k : Nat} {C : Array Value} {T : TypeId} {fr : Nat × Nat} (hk : w.heap[k]? = some (.cells C T fr)) (h1 : T ≠ 89) (h2 : T ≠ 9) (h3 : T ≠ 64) (ho : Only k w w') : DiskS S p d w' := by
  obtain ⟨e0, bl, cv, e2, e3, e4⟩ := h
  exact ⟨e0, bl, cv, e2, e3, e4.kept fun j hj hf => ho.block j hj fun e => e4.apart hk h1 h2 h3 (e ▸ hf)⟩
theorem DiskS.of {B p : Nat} {d : Dk} {w : World} (h : DiskIn B p d w) : DiskS (fun k => B ≤ k) p d w := h
theorem DiskS.lt {S : Nat → Prop} {p : Nat} {d : Dk} {w : World} (h : DiskS S p d w) : p < w.heap.size := by
  obtain ⟨_, bl, cv, _, _, h4⟩ := h
  exact h4.lt
theorem DiskS.most {S : Nat → Prop} {p : Nat} {d : Dk} {w : World} (h : DiskS S p d w) : d.lies.length ≤ 65536 := by
  obtain ⟨_, bl, cv, _, _, h4⟩ := h
  exact h4.most
theorem frl_of {S : Nat → Prop} {p bl : Nat} {cv : Value} {d : Dk} {w w' : World} (b : Nat) (h : DiskAt p bl cv d w) (h1 : S p) (h2 : S bl) (h3 : ∀ k, cv.ownBlock = some k → S k) (hf : Fr (fp p bl cv) w w') : FrL b S w w' :=
  ⟨hf.mono fun k _ e => by
    rcases e with rfl | rfl | e
    · exact h1
    · exact h2
    · exact h3 k e, fun i C T fr _ hi t1 t2 t3 => hf.block i (Array.getElem?_eq_some_iff.1 hi).1 (h.apart hi t1 t2 t3)⟩
theorem writeS (S : Nat → Prop) (p : Nat) (d : Dk) (at_ : Int) (s : ByteArray) (w : World) (h : DiskS S p d w) (hu : Up S w) (hs : d.steps < 1000000) (hc : d.cache.length < 1000000) (hz : s.size ≤ 9223372036854775807) :
    Calls Tryz.prog 81 #[.pointer (some ⟨p, 0, none⟩), .int .i64 at_, .string s] w fun e w' => e = .returned (.int .i64 (writeE d at_ s)) ∧ DiskS S p (writeD d at_ s) w' ∧ ∀ b, FrL b S w w' := by
  obtain ⟨h1, bl, cv, h2, h3, h4⟩ := h
  refine (write_disk p bl cv d at_ s w h4 hs hc hz).mono fun e w' ⟨cv', he, hd, hf, hg⟩ => ⟨he, ⟨h1, bl, cv', h2, fun k e => ?_, hd⟩, fun b => frl_of b h4 h1 h2 h3 hf⟩
  rcases hg k e with e' | e'
  · exact h3 k e'
  · exact hu k e'
theorem flushS (S : Nat → Prop) (p : Nat) (d : Dk) (w : World) (h : DiskS S p d w) (hu : Up S w) (hs : d.steps < 1000000) :
    Calls Tryz.prog 82 #[.pointer (some ⟨p, 0, none⟩)] w fun e w' => e = .returned (.int .i64 (err d)) ∧ DiskS S p (Dsk.flush d) w' ∧ ∀ b, FrL b S w w' := by
  obtain ⟨h1, bl, cv, h2, h3, h4⟩ := h
  refine (flush_disk p bl cv d w h4 hs).mono fun e w' ⟨cv', he, hd, hf, hg⟩ => ⟨he, ⟨h1, bl, cv', h2, fun k e => ?_, hd⟩, fun b => frl_of b h4 h1 h2 h3 hf⟩
  rcases hg k e with e' | e'
  · exact h3 k e'
  · exact hu k e'
theorem readS_any (S : Nat → Prop) (p : Nat) (d : Dk) (at_ : Int) (w : World) (h : DiskS S p d w) :
    Calls Tryz.prog 63 #[.pointer (some ⟨p, 0, none⟩), .int .i64 at_] w fun e w' => e = .returned (.tuple #[.string (readS d at_), .int .i64 (readE d at_)]) ∧ Below w.heap.size w w' := by
  obtain ⟨h1, bl, cv, h2, h3, h4⟩ := h
  exact read_disk p bl cv d at_ w h4
theorem sectorsS (S : Nat → Prop) (p : Nat) (d : Dk) (w : World) (h : DiskS S p d w) :
    Calls Tryz.prog 59 #[.pointer (some ⟨p, 0, none⟩)] w fun e w' => e = .returned (.int .i64 d.lies.length) ∧ w = w' := by
  obtain ⟨h1, bl, cv, h2, h3, h4⟩ := h
  exact sectors_any p bl cv d w h4

/-! ### Steps, once an error was told nothing more -/
/-- A disk, and whether all steps so far were done; behind more steps. -/
def gos (x : Dk × Bool) (l : List Jnl.O) : Dk × Bool := if x.2 then Jnl.go x.1 l else x
def eOf (b : Bool) : Int := if b then 0 else 14
theorem gos_append (x : Dk × Bool) (l k : List Jnl.O) : gos x (l ++ k) = gos (gos x l) k := by
  unfold gos
  by_cases h : x.2 = true
  · rw [if_pos h, if_pos h, Jnl.go_append]
  · rw [if_neg h, if_neg h, if_neg h]
theorem gos_nil (x : Dk × Bool) : gos x [] = x := by
  unfold gos
  split
  · rename_i h; exact Prod.ext rfl h.symm
  · rfl
theorem gos_off (d : Dk) (l : List Jnl.O) : gos (d, false) l = (d, false) := rfl
theorem gos_on (d : Dk) (l : List Jnl.O) : gos (d, true) l = Jnl.go d l := rfl
theorem gos_w (d : Dk) (a : Nat) (s : ByteArray) : gos (d, true) [.w a s] = (Dsk.write d a s, may d) := by
  show Jnl.go d [.w a s] = _
  unfold Jnl.go
  split
  · rename_i h; rw [h]; rfl
  · rename_i h
    have h' : may d = false := by simpa using h
    unfold Dsk.write
    rw [h', if_neg Bool.false_ne_true]
theorem gos_f (d : Dk) : gos (d, true) [.f] = (Dsk.flush d, may d) := by
  show Jnl.go d [.f] = _
  unfold Jnl.go
  split
  · rename_i h; rw [h]; rfl
  · rename_i h
    have h' : may d = false := by simpa using h
    unfold Dsk.flush
    rw [h', if_neg Bool.false_ne_true]
theorem gos_len (x : Dk × Bool) (l : List Jnl.O) : (gos x l).1.lies.length = x.1.lies.length := by
  unfold gos
  split
  · exact Jnl.go_len l x.1
  · rfl
/-- There is room for n more steps. -/
def Bd (x : Dk × Bool) (n : Nat) : Prop := x.1.steps + n ≤ 900000 ∧ x.1.cache.length + n ≤ 900000
theorem Bd.gos {x : Dk × Bool} {l : List Jnl.O} {n : Nat} (h : Bd x (l.length + n)) : Bd (gos x l) n := by
  unfold Go.Proofs.YtfcocbgdmmeikaaGreatDoor.gos
  obtain ⟨h1, h2⟩ := h
  split
  · have := Jnl.go_bound l x.1
    exact ⟨by omega, by omega⟩
  · exact ⟨by omega, by omega⟩
theorem Bd.mono {x : Dk × Bool} {n m : Nat} (h : Bd x n) (hm : m ≤ n) : Bd x m := by
  obtain ⟨h1, h2⟩ := h
  exact ⟨by omega, by omega⟩
theorem writeE_go {d : Dk} {a : Nat} {s : ByteArray} (ha : a < d.lies.length) (hs : s.size = 256) : writeE d (a : Int) s = err d ∧ writeD d (a : Int) s = Dsk.write d a s := by
  have h : writeOk d (a : Int) s = true := by
    unfold writeOk hasB
    simp only [Bool.and_eq_true, decide_eq_true_eq]
    omega
  unfold writeE writeD
  rw [if_pos h, if_pos h]
  exact ⟨rfl, rfl⟩
theorem err_eOf (d : Dk) : err d = eOf (may d) := by unfold err eOf; rfl

/-! ### A pen -/
/-- Block b begins with a pen on disk p; rest is what stands behind it. -/
structure Sys (S : Nat → Prop) (b p : Nat) (T : TypeId) (rest : List Value) (x : Dk × Bool) (w : World) : Prop where
  sb : S b
  disk : DiskS S p x.1 w
  pen : w.heap[b]? = some (.cells (Value.pointer (some ⟨p, 0, none⟩) :: .int .i64 (eOf x.2) :: rest).toArray T (0, 0))
  t1 : T ≠ 89
  t2 : T ≠ 9
  t3 : T ≠ 64
section
variable {S : Nat → Prop} {b p : Nat} {T : TypeId} {rest : List Value} {x : Dk × Bool} {w w' : World}
theorem Sys.c0 (h : Sys S b p T rest x w) : w.cell? ⟨b, 0, none⟩ = some (.pointer (some ⟨p, 0, none⟩)) := cell_of h.pen 0
theorem Sys.c1 (h : Sys S b p T rest x w) : w.cell? ⟨b, 1, none⟩ = some (.int .i64 (eOf x.2)) := cell_of h.pen 1
theorem Sys.fz (h : Sys S b p T rest x w) (i : Nat) : w.frozen? ⟨b, i, none⟩ = false := fz_of h.pen i
theorem Sys.lt (h : Sys S b p T rest x w) : b < w.heap.size := (Array.getElem?_eq_some_iff.1 h.pen).1
theorem Sys.old (h : Sys S b p T rest x w) (hb : Below w.heap.size w w') : Sys S b p T rest x w' := ⟨h.sb, h.disk.old hb, (hb.block b h.lt).trans h.pen, h.t1, h.t2, h.t3⟩
theorem Sys.mono {S' : Nat → Prop} (h : Sys S b p T rest x w) (hs : ∀ k, k < w.heap.size → S k → S' k) : Sys S' b p T rest x w := ⟨hs _ h.lt h.sb, h.disk.mono hs, h.pen, h.t1, h.t2, h.t3⟩
theorem Sys.set1 (h : Sys S b p T rest x w) {x' : Dk × Bool} {u : World} (hd : DiskS S p x'.1 u) (hp : u.heap[b]? = w.heap[b]?) : Sys S b p T rest x' (u.setCell ⟨b, 1, none⟩ (.int .i64 (eOf x'.2))) := by
  have hb : u.heap[b]? = some (.cells (Value.pointer (some ⟨p, 0, none⟩) :: .int .i64 (eOf x.2) :: rest).toArray T (0, 0)) := hp.trans h.pen
  exact ⟨h.sb, hd.only hb h.t1 h.t2 h.t3 ((Only.refl _ _).setCell _ _), heap_set hb _, h.t1, h.t2, h.t3⟩
end
theorem Sys.stays {S : Nat → Prop} {b p : Nat} {T : TypeId} {rest : List Value} {x : Dk × Bool} {w w' : World} (h : Sys S b p T rest x w) (hf : ∀ b, FrL b S w w') : w'.heap[b]? = w.heap[b]? := (hf (b + 1)).other b _ T _ (by omega) h.pen h.t1 h.t2 h.t3
theorem pwrite_any (S : Nat → Prop) (b p : Nat) (T : TypeId) (rest : List Value) (x : Dk × Bool) (a : Nat) (s : ByteArray) (w : World) (h : Sys S b p T rest x w) (hu : Up S w) (ha : a < x.1.lies.length) (hs : s.size = 256) (hb : Bd x 1) :
    Calls Tryz.prog 48 #[.pointer (some ⟨b, 0, none⟩), .int .i64 (a : Int), .string s] w fun e w' => e = .returned (.tuple #[]) ∧ Sys S b p T rest (gos x [.w a s]) w' ∧ FrL b S w w' := by
  obtain ⟨d, ok⟩ := x
  have c0 := h.c0
  have c1 := h.c1
  cases ok with
  | false =>
    rw [show eOf (d, false).2 = 14 from rfl] at c1
    go_enter Tryz.func48, Tryz.ntmps48
    go_wp2
    go_end0
    exact ⟨rfl, h, FrL.refl _ _ _⟩
  | true =>
    rw [show eOf (d, true).2 = 0 from rfl] at c1
    have hw := writeS S p d (a : Int) s w h.disk hu (by have := hb.1; simp at this; omega) (by have := hb.2; simp at this; omega) (by omega)
    rw [(writeE_go ha hs).1, (writeE_go ha hs).2, err_eOf] at hw
    have H := Lib.hid h
    rw [gos_w]
    clear h
    go_enter Tryz.func48, Tryz.ntmps48
    go_wp2_with (go_at_call 81; refine hw.mono ?_; rintro e w1 ⟨rfl, h1, f1⟩; have z1 : w1.frozen? ⟨b, 1, none⟩ = false := fz_of ((H.out.stays f1).trans H.out.pen) 1; have c11 : w1.cell? ⟨b, 1, none⟩ = some (.int .i64 0) := (cell_of ((H.out.stays f1).trans H.out.pen) 1).trans rfl)
    go_end0
    exact ⟨rfl, Sys.set1 (x' := (Dsk.write d a s, may d)) H.out h1 (H.out.stays f1), (f1 b).trans (FrL.of_only ((Only.refl _ _).setCell _ _) H.out.sb)⟩
theorem pflush_any (S : Nat → Prop) (b p : Nat) (T : TypeId) (rest : List Value) (x : Dk × Bool) (w : World) (h : Sys S b p T rest x w) (hu : Up S w) (hb : Bd x 1) :
    Calls Tryz.prog 50 #[.pointer (some ⟨b, 0, none⟩)] w fun e w' => e = .returned (.tuple #[]) ∧ Sys S b p T rest (gos x [.f]) w' ∧ FrL b S w w' := by
  obtain ⟨d, ok⟩ := x
  have c0 := h.c0
  have c1 := h.c1
  cases ok with
  | false =>
    rw [show eOf (d, false).2 = 14 from rfl] at c1
    go_enter Tryz.func50, Tryz.ntmps50
    go_wp2
    go_end0
    exact ⟨rfl, h, FrL.refl _ _ _⟩
  | true =>
    rw [show eOf (d, true).2 = 0 from rfl] at c1
    have hw := flushS S p d w h.disk hu (by have := hb.1; simp at this; omega)
    rw [err_eOf] at hw
    have H := Lib.hid h
    rw [gos_f]
    clear h
    go_enter Tryz.func50, Tryz.ntmps50
    go_wp2_with (go_at_call 82; refine hw.mono ?_; rintro e w1 ⟨rfl, h1, f1⟩; have z1 : w1.frozen? ⟨b, 1, none⟩ = false := fz_of ((H.out.stays f1).trans H.out.pen) 1; have c11 : w1.cell? ⟨b, 1, none⟩ = some (.int .i64 0) := (cell_of ((H.out.stays f1).trans H.out.pen) 1).trans rfl)
    go_end0
    exact ⟨rfl, Sys.set1 (x' := (Dsk.flush d, may d)) H.out h1 (H.out.stays f1), (f1 b).trans (FrL.of_only ((Only.refl _ _).setCell _ _) H.out.sb)⟩
end Go.Proofs.YtfcocbgdmmeikaaGreatDoor
/-! ## A log, as a law sees it: what a commit, a checkpoint, an opening and a format leave on the disk. No walk. -/
namespace Go.Proofs.YtfcocbgdmmeikaaGreatDoor
open Go.RowKit Dsk

/-- A log that is open, on a disk with power: S is what it comes to, q the next transaction's number, u slots are used, place is the next one's. -/
structure LogA (G : Jnl.Geo) (d : Dk) (S : Jnl.Im) (q u place : Nat) : Prop where
  on : d.on = true
  ex : ∃ p s txs, Jnl.RD RL G d S q p s txs ∧ place = (p + Jnl.slots txs) % G.m ∧ u = Jnl.slots txs
theorem LogA.len {G : Jnl.Geo} {d : Dk} {S : Jnl.Im} {q u place : Nat} (h : LogA G d S q u place) : d.lies.length = G.N := by
  obtain ⟨_, p, s, txs, h1, _⟩ := h
  exact h1.1
theorem LogA.room {G : Jnl.Geo} {d : Dk} {S : Jnl.Im} {q u place : Nat} (h : LogA G d S q u place) : u + 1 ≤ G.m := by
  obtain ⟨_, p, s, txs, h1, _, rfl⟩ := h
  exact h1.2.room
theorem LogA.place {G : Jnl.Geo} {d : Dk} {S : Jnl.Im} {q u place : Nat} (h : LogA G d S q u place) : place < G.m := by
  obtain ⟨_, p, s, txs, h1, rfl, rfl⟩ := h
  exact Nat.mod_lt _ (by have := G.m3; omega)
theorem LogA.q1 {G : Jnl.Geo} {d : Dk} {S : Jnl.Im} {q u place : Nat} (h : LogA G d S q u place) : 1 ≤ q := by
  obtain ⟨_, p, s, txs, h1, rfl, rfl⟩ := h
  have := h1.2.ls
  have := h1.2.lq
  omega
theorem LogA.safe {G : Jnl.Geo} {d : Dk} {S : Jnl.Im} {q u place : Nat} (h : LogA G d S q u place) : Jnl.Safe (fun L => Jnl.IsGood RL G L S q) d := by
  obtain ⟨_, p, s, txs, h1, _⟩ := h
  exact h1.safe
theorem LogA.read {G : Jnl.Geo} {d : Dk} {S : Jnl.Im} {q u place : Nat} (h : LogA G d S q u place) {a : Nat} (ha : G.Data a) : Dsk.read d a = S a := by
  obtain ⟨_, p, s, txs, h1, _⟩ := h
  exact h1.2.read a ha
/-- What steps leave: is there power just if all were done; P is true of whatever may lie behind a crash; once all were done, a log. -/
structure Left (P : Jnl.Im → Prop) (A : Dk → Prop) (x : Dk × Bool) : Prop where
  on : x.1.on = x.2
  safe : Jnl.Safe P x.1
  all : x.2 = true → A x.1
theorem Left.of {P : Jnl.Im → Prop} {Q A : Dk → Prop} {d : Dk} {l : List Jnl.O} (hon : d.on = true) (h : Jnl.Ok P Q d l) (hA : ∀ d', d'.on = true → Q d' → A d') : Left P A (gos (d, true) l) :=
  ⟨Jnl.go_on l d hon, h.1, fun e => hA _ ((Jnl.go_on l d hon).trans e) (h.2 e)⟩
theorem ck_abs {G : Jnl.Geo} {d : Dk} {S : Jnl.Im} {q u place : Nat} (h : LogA G d S q u place) :
    Left (fun L => Jnl.IsGood RL G L S q) (fun d' => LogA G d' S q 0 place) (gos (d, true) (Jnl.ckOps RL G place q)) := by
  have hp := h.place
  obtain ⟨hon, p, s, txs, h1, h2, h3⟩ := h
  exact Left.of hon (Jnl.ck_ok h1 h2) fun d' ho hr => ⟨ho, place, q, [], hr, by show place = (place + 0) % G.m; rw [Nat.add_zero, Nat.mod_eq_of_lt hp], rfl⟩
/-- A commit's steps. -/
def cAll (G : Jnl.Geo) (place q u : Nat) (t : Jnl.Txn) : List Jnl.O := (if G.m - u ≤ t.length + 2 then Jnl.ckOps RL G place q else []) ++ Jnl.cmOps RL G place q t
/-- How many slots are used behind a commit. -/
def uAfter (m u n : Nat) : Nat := (if m - u ≤ n + 2 then 0 else u) + (n + 2)
theorem cm_abs {G : Jnl.Geo} {d : Dk} {S : Jnl.Im} {q u place : Nat} {t : Jnl.Txn} (h : LogA G d S q u place) (hq : q ≤ 2 ^ 40) (h1 : 1 ≤ t.length) (h60 : t.length ≤ 60)
    (hat : ∀ x ∈ t, x.1 ≤ 65535) (ht : ∀ x ∈ t, G.Data x.1 ∧ x.2.size = 256) (hroom : u + t.length + 3 ≤ G.m) :
    Left (fun L => Jnl.IsGood RL G L S q ∨ Jnl.IsGood RL G L (fun a => Jnl.after t a (S a)) (q + 1)) (fun d' => LogA G d' (fun a => Jnl.after t a (S a)) (q + 1) (u + (t.length + 2)) ((place + (t.length + 2)) % G.m)) (gos (d, true) (Jnl.cmOps RL G place q t)) := by
  obtain ⟨hon, p, s, txs, h2, h3, h4⟩ := h
  refine Left.of hon (Jnl.cm_ok h2 h3 hq h1 h60 hat ht (by omega)) fun d' ho hr => ⟨ho, p, s, txs ++ [t], hr, ?_, ?_⟩
  · rw [h3, Jnl.slots_append, Nat.mod_add_mod]
    show _ = (p + (Jnl.slots txs + (t.length + 2 + 0))) % G.m
    congr 1
    omega
  · rw [h4, Jnl.slots_append]
    show _ = Jnl.slots txs + (t.length + 2 + 0)
    omega
theorem commit_abs {G : Jnl.Geo} {d : Dk} {S : Jnl.Im} {q u place : Nat} {t : Jnl.Txn} (h : LogA G d S q u place) (hq : q ≤ 2 ^ 40) (h1 : 1 ≤ t.length) (h60 : t.length ≤ 60)
    (hat : ∀ x ∈ t, x.1 ≤ 65535) (ht : ∀ x ∈ t, G.Data x.1 ∧ x.2.size = 256) (hroom : t.length + 3 ≤ G.m) :
    Left (fun L => Jnl.IsGood RL G L S q ∨ Jnl.IsGood RL G L (fun a => Jnl.after t a (S a)) (q + 1)) (fun d' => LogA G d' (fun a => Jnl.after t a (S a)) (q + 1) (uAfter G.m u t.length) ((place + (t.length + 2)) % G.m)) (gos (d, true) (cAll G place q u t)) := by
  have hu := h.room
  unfold cAll uAfter
  by_cases hc : G.m - u ≤ t.length + 2
  · rw [if_pos hc, if_pos hc, gos_append]
    have hk := ck_abs h
    generalize gos (d, true) (Jnl.ckOps RL G place q) = y at hk
    obtain ⟨d1, b1⟩ := y
    cases b1 with
    | false => exact ⟨hk.on, fun L hL => .inl (hk.safe L hL), fun e => absurd e Bool.false_ne_true⟩
    | true => exact cm_abs (hk.all rfl) hq h1 h60 hat ht (by omega)
  · rw [if_neg hc, if_neg hc, List.nil_append]
    exact cm_abs h hq h1 h60 hat ht (by omega)
/-- Not armed: all is done, and not armed. -/
theorem gos_free (l : List Jnl.O) (d : Dk) (h : d.on = true) (ha : d.armed = false) : (gos (d, true) l).2 = true ∧ (gos (d, true) l).1.armed = false := Jnl.go_free l d h ha
/-- What lies. -/
def imOf (d : Dk) : Jnl.Im := fun a => d.lies.getD a .empty
theorem good_congr {G : Jnl.Geo} {L L' S : Jnl.Im} {q p s : Nat} {txs : List Jnl.Txn} (h : Jnl.Good RL G L S q p s txs) (e : ∀ a, a < G.N → L' a = L a) : Jnl.Good RL G L' S q p s txs := by
  have hb : G.base < G.N := by have := G.h; omega
  have hR : ∀ i, G.R L' (i % G.m) = G.R L (i % G.m) := fun i => e _ (G.sl_lt i)
  exact ⟨h.lp, h.ls, h.lq, (e _ hb).trans h.head, h.row.kept fun i _ => hR _, h.room, fun t k => h.ends t (k.kept fun i _ => (hR _).symm), h.own, fun a ha => by rw [e a ha.1]; exact h.data a ha⟩
theorem open_abs {G : Jnl.Geo} {d : Dk} {S : Jnl.Im} {q p s place : Nat} {txs : List Jnl.Txn} (hon : d.on = true) (hN : d.lies.length = G.N) (hc : d.cache = []) (h : Jnl.Good RL G (imOf d) S q p s txs) (hp : place = (p + Jnl.slots txs) % G.m) :
    Left (fun L => Jnl.IsGood RL G L S q) (fun d' => LogA G d' S q 0 place ∧ d'.cache = []) (gos (d, true) (Jnl.opOps RL G place q txs)) := by
  have hpm : place < G.m := by rw [hp]; exact Nat.mod_lt _ (by have := G.m3; omega)
  have hok := Jnl.op_ok hN (Jnl.K.flat hc) h hp
  refine ⟨Jnl.go_on _ d hon, hok.1, fun e => ⟨⟨(Jnl.go_on _ d hon).trans e, place, q, [], hok.2 e, by show place = (place + 0) % G.m; rw [Nat.add_zero, Nat.mod_eq_of_lt hpm], rfl⟩, ?_⟩⟩
  have e' : (Jnl.go d (Jnl.opOps RL G place q txs)).2 = true := e
  show (Jnl.go d (Jnl.opOps RL G place q txs)).1.cache = []
  unfold Jnl.opOps at e' ⊢
  rw [show ∀ l : List Jnl.O, l ++ [Jnl.O.w (G.sl place) zeroB, Jnl.O.f] = (l ++ [Jnl.O.w (G.sl place) zeroB]) ++ [Jnl.O.f] from fun l => by rw [List.append_assoc]; rfl] at e' ⊢
  exact Jnl.go_flushed _ d e'
theorem format_abs {G : Jnl.Geo} {d : Dk} (hon : d.on = true) (ha : d.armed = false) (hN : d.lies.length = G.N) (hc : d.cache = []) :
    (gos (d, true) (Jnl.fmOps RL G)).2 = true ∧ (gos (d, true) (Jnl.fmOps RL G)).1.on = true ∧ (gos (d, true) (Jnl.fmOps RL G)).1.armed = false ∧ (gos (d, true) (Jnl.fmOps RL G)).1.cache = [] ∧ (gos (d, true) (Jnl.fmOps RL G)).1.lies.length = G.N ∧
      Jnl.Good RL G (imOf (gos (d, true) (Jnl.fmOps RL G)).1) (imOf d) 1 0 1 [] := by
  have h1 := gos_free (Jnl.fmOps RL G) d hon ha
  have h2 : (gos (d, true) (Jnl.fmOps RL G)).1.cache = [] := Jnl.go_flushed [.w G.base (RL.head 0 1), .w (G.sl 0) zeroB] d h1.1
  obtain ⟨hn, L', hK, hG⟩ := (Jnl.fm_ok (Λ := RL) hN (Jnl.K.flat hc)).2 h1.1
  refine ⟨h1.1, (Jnl.go_on _ d hon).trans h1.1, h1.2, h2, hn, good_congr hG fun a ha => ?_⟩
  refine (hK.f a ?_ _ (.inl rfl))
  show a < (Jnl.go d (Jnl.fmOps RL G)).1.lies.length
  rw [hn]; exact ha
theorem imOf_crash (d : Dk) (pick : Nat → Bool) : imOf (Dsk.crash d pick) = fun a => (Dsk.crash d pick).lies.getD a .empty := rfl
end Go.Proofs.YtfcocbgdmmeikaaGreatDoor
/-! ## Package redo: a log in memory; writes of a list; its slots. -/
namespace Go.Proofs.YtfcocbgdmmeikaaGreatDoor
open Go.RowKit Dsk

/-- v is a slice that reads as the writes t; they lie in block g. -/
def PutsR (w : World) (v : Value) (t : List (Int × ByteArray)) (g : Nat) : Prop :=
  ∃ a cap, v = .slice a t.length cap ∧ (t.length ≤ cap ∧ cap ≤ 9223372036854775807) ∧ (t ≠ [] → ∃ off, a = some ⟨g, off, none⟩ ∧ g < w.heap.size ∧ ∀ j, j < t.length → w.cell? ⟨g, off + j * 2, none⟩ = some (.int .i64 (t.getD j (0, .empty)).1) ∧ w.cell? ⟨g, off + j * 2 + 1, none⟩ = some (.string (t.getD j (0, .empty)).2))
theorem PutsR.kept {w w' : World} {v : Value} {t : List (Int × ByteArray)} {g : Nat} (h : PutsR w v t g) (hk : g < w.heap.size → g < w'.heap.size ∧ w'.heap[g]? = w.heap[g]?) : PutsR w' v t g := by
  obtain ⟨a, cap, rfl, hl, hc⟩ := h
  refine ⟨a, cap, rfl, hl, fun hn => ?_⟩
  obtain ⟨off, rfl, hb, hj⟩ := hc hn
  obtain ⟨h1, h2⟩ := hk hb
  refine ⟨off, rfl, h1, fun j h => ?_⟩
  have := hj j h
  unfold World.cell? at this ⊢
  rw [h2]
  exact this
theorem PutsR.old {w w' : World} {v : Value} {t : List (Int × ByteArray)} {g : Nat} (h : PutsR w v t g) (hb : Below w.heap.size w w') : PutsR w' v t g := h.kept fun hg => ⟨Nat.lt_of_lt_of_le hg hb.size, hb.block g hg⟩
theorem PutsR.fr {w w' : World} {v : Value} {t : List (Int × ByteArray)} {g : Nat} {S : Nat → Prop} (h : PutsR w v t g) (hf : Fr S w w') (hg : ¬ S g) : PutsR w' v t g := h.kept fun hl => ⟨Nat.lt_of_lt_of_le hl hf.size, hf.block g hl hg⟩
/-- Writes, as numbers. -/
def zT (t : Jnl.Txn) : List (Int × ByteArray) := t.map fun x => ((x.1 : Int), x.2)
theorem zT_len (t : Jnl.Txn) : (zT t).length = t.length := List.length_map _
theorem zT_get (t : Jnl.Txn) (k : Nat) (h : k < t.length) : (zT t).getD k (0, .empty) = ((t[k].1 : Int), t[k].2) := by
  unfold zT
  simp [List.getD_eq_getElem?_getD, h]
/-- What a log has behind its pen. -/
def logC (G : Jnl.Geo) (place seq used : Nat) : List Value := [.int .i64 (G.base : Int), .int .i64 (G.m : Int), .int .i64 (place : Int), .int .i64 (seq : Int), .int .i64 (used : Int)]
/-- Block l is a log on disk p. -/
abbrev LogS (S : Nat → Prop) (l p : Nat) (G : Jnl.Geo) (place seq used : Nat) (x : Dk × Bool) (w : World) : Prop := Sys S l p 98 (logC G place seq used) x w
section
variable {S : Nat → Prop} {l p : Nat} {G : Jnl.Geo} {place seq used : Nat} {x : Dk × Bool} {w w' : World}
theorem Sys.l2 (h : LogS S l p G place seq used x w) : w.cell? ⟨l, 2, none⟩ = some (.int .i64 (G.base : Int)) := cell_of h.pen 2
theorem Sys.l3 (h : LogS S l p G place seq used x w) : w.cell? ⟨l, 3, none⟩ = some (.int .i64 (G.m : Int)) := cell_of h.pen 3
theorem Sys.l4 (h : LogS S l p G place seq used x w) : w.cell? ⟨l, 4, none⟩ = some (.int .i64 (place : Int)) := cell_of h.pen 4
theorem Sys.l5 (h : LogS S l p G place seq used x w) : w.cell? ⟨l, 5, none⟩ = some (.int .i64 (seq : Int)) := cell_of h.pen 5
theorem Sys.l6 (h : LogS S l p G place seq used x w) : w.cell? ⟨l, 6, none⟩ = some (.int .i64 (used : Int)) := cell_of h.pen 6
end
theorem below_drewN' {w : World} (n : Nat) : Below w.heap.size w (w.drewN n) := ⟨rfl, rfl, rfl, Nat.le_refl _, fun _ _ => rfl⟩
theorem slot_any (S : Nat → Prop) (l p : Nat) (G : Jnl.Geo) (place seq used : Nat) (x : Dk × Bool) (i : Nat) (w : World) (h : LogS S l p G place seq used x w) (hN : G.N ≤ 65536) (hp : place < G.m) (hi : i ≤ 1000) :
    Calls Tryz.prog 53 #[.pointer (some ⟨l, 0, none⟩), .int .i64 (i : Int)] w fun e w' => e = .returned (.int .i64 (G.sl (place + i) : Nat)) ∧ Below w.heap.size w w' := by
  have c2 := h.l2
  have c3 := h.l3
  have c4 := h.l4
  have h1 := G.h
  have h3 := G.m3
  have hmod := Nat.mod_lt (place + i) (show 0 < G.m by omega)
  have hne : ¬ (G.m : Int) = 0 := by omega
  have e1 : (((place : Int) + (i : Int)).tmod (G.m : Int)) = ((place + i) % G.m : Nat) := by rw [← Int.natCast_add, ← Int.ofNat_tmod]
  unfold Jnl.Geo.sl
  generalize (place + i) % G.m = r at *
  have H := Lib.hid h
  clear h
  go_enter Tryz.func53, Tryz.ntmps53
  go_wp2
  go_quiet (fail)
  go_wp2
  go_ret
  exact ⟨ret_int (show ((G.base : Int) + 1 + (r : Int)) = ((G.base + 1 + r : Nat) : Int) by omega), below_drewN' _⟩
set_option maxHeartbeats 1600000 in
set_option maxRecDepth 100000 in
theorem writeAll_any (S : Nat → Prop) (l p : Nat) (G : Jnl.Geo) (place seq used : Nat) (x : Dk × Bool) (v : Value) (t : Jnl.Txn) (g : Nat) (w : World) (h : LogS S l p G place seq used x w) (hu : Up S w) (hv : PutsR w v (zT t) g) (hg : g < w.heap.size → ¬ S g)
    (ht : ∀ y ∈ t, y.1 < x.1.lies.length ∧ y.2.size = 256) (hb : Bd x t.length) :
    Calls Tryz.prog 83 #[.pointer (some ⟨l, 0, none⟩), v] w fun e w' => e = .returned (.tuple #[]) ∧ LogS S l p G place seq used (gos x (Jnl.wOps t)) w' ∧ FrL l S w w' := by
  obtain ⟨a, cap, rfl, hl, hc⟩ := hv
  rw [zT_len] at hl hc ⊢
  have HC := Lib.hid hc
  have HT := Lib.hid ht
  have HB := Lib.hid hb
  have HU := Lib.hid hu
  clear hc ht hb hu
  go_enter Tryz.func83, Tryz.ntmps83
  go_wp2
  go_loopw [8] (fun i wr => ∃ k : Nat, k ≤ t.length ∧ i = .int .i64 k ∧ LogS S l p G place seq used (gos x (Jnl.wOps (t.take k))) wr ∧ FrL l S w wr) (fun i _ => t.length - (intOf i).toNat)
  case atStart => exact ⟨0, Nat.zero_le _, rfl, by rw [show Jnl.wOps (t.take 0) = [] from rfl, gos_nil]; exact h, FrL.refl _ _ _⟩
  case round =>
    obtain ⟨k, hk, rfl, hs, hf⟩ := hrel
    by_cases hlt : k < t.length
    · obtain ⟨off, rfl, hgl, hj⟩ := HC.out (fun e => by
        have e' : t.length = 0 := by rw [← zT_len, e]; rfl
        omega)
      obtain ⟨c1, c2⟩ := hj k hlt
      rw [zT_get t k hlt] at c1 c2
      have hng : ¬ S g := hg hgl
      have d1 := (hf.fr.cell (o := off + k * 2) hgl hng).trans c1
      have d2 := (hf.fr.cell (o := off + k * 2 + 1) hgl hng).trans c2
      obtain ⟨ht1, ht2⟩ := HT.out _ (List.getElem_mem hlt)
      have hw := fun u (h' : LogS S l p G place seq used (gos x (Jnl.wOps (t.take k))) u) (hu' : Up S u) => pwrite_any S l p _ _ _ t[k].1 t[k].2 u h' hu' (by rw [gos_len]; exact ht1) ht2 (Bd.gos (by show Bd x _; rw [Jnl.wOps, List.length_map, List.length_take]; exact HB.out.mono (by omega)))
      have htk : Jnl.wOps (t.take (k + 1)) = Jnl.wOps (t.take k) ++ [.w t[k].1 t[k].2] := by
        unfold Jnl.wOps
        rw [List.take_succ_eq_append_getElem hlt, List.map_append]
        rfl
      generalize t[k].1 = A at *
      generalize t[k].2 = X at *
      rw [← gos_append, ← htk] at hw
      clear c1 c2 hj htk ht1 ht2
      go_upto_region 3 with fail
      obtain ⟨w1, hw1⟩ : ∃ w1, w1 = wr.alloc (.cells #[.int .i64 (A : Int), .string X] 64) := ⟨_, rfl⟩
      have b1 : Below wr.heap.size wr w1 := by rw [hw1]; exact (Below.refl _ _).alloc (Nat.le_refl _) _
      have e1 : w1.cell? ⟨wr.heap.size, 0, none⟩ = some (.int .i64 (A : Int)) := by rw [hw1, cell_of (heap_alloc_last wr _)]; rfl
      have e2 : w1.cell? ⟨wr.heap.size, 1, none⟩ = some (.string X) := by rw [hw1, cell_of (heap_alloc_last wr _)]; rfl
      rw [← hw1]
      clear hw1
      go_still_tail 7, (by kernel_rfl)
      change wpList _ _ _ _ _ w1.drew
      have b2 : Below wr.heap.size wr w1.drew := below_drew b1
      generalize w1.drew = w2 at b2 ⊢
      have hs2 := hs.old b2
      have hu2 : Up S w2 := HU.out.mono (Nat.le_trans hf.size b2.size)
      clear e1 e2 b1
      go_wp2_with (go_at_call 48; refine (hw _ hs2 hu2).mono ?_; rintro e w3 ⟨rfl, h3, f3⟩)
      go_roundw
      case rel => exact ⟨k + 1, by omega, by go_num, h3, (hf.trans (FrL.of_below b2)).trans f3⟩
      case measure => simp [intOf]; omega
    · obtain rfl : k = t.length := by omega
      rw [List.take_length] at hs
      go_wp2
      go_end0
      exact ⟨rfl, hs, hf⟩
end Go.Proofs.YtfcocbgdmmeikaaGreatDoor
/-! ## Regions over a log: loads of its fields, calls by a closure. -/
namespace Go.Proofs.YtfcocbgdmmeikaaGreatDoor
open Go.RowKit

section
variable {ops : Array Oper} {Q : Exit → Act → World → Prop} {a : Act} {w : World} {K : Act → World → Prop} {o : Oper}
theorem rop_nil (x : Operand) (hop : o.op = .nilCheck x) {b : Addr} (hx : a.eval x = .pointer (some b)) (hw : Region.wanted o (yielded ops a.tmps) = true) (h : K (a.put o.dst (.pointer (some b))) w) :
    if Region.wanted o (yielded ops a.tmps) = true then Oper.wp Tryz.prog o a w K Q else K (a.put o.dst undef) w :=
  rop_v hw (by simp [execOp, hop, hx]) h
theorem rop_len_sl (x : Operand) (hop : o.op = .call { callee := .builtin .len, args := #[x], argTypes := #[58] }) {va : Option Addr} {n cap : Nat} (hx : a.eval x = .slice va n cap) (hw : Region.wanted o (yielded ops a.tmps) = true) (h : K (a.put o.dst (.int .i64 n)) w) :
    if Region.wanted o (yielded ops a.tmps) = true then Oper.wp Tryz.prog o a w K Q else K (a.put o.dst undef) w :=
  rop_v hw (by simp [execOp, hop, resolve, invoke, builtin, hx, Builtin.len_, run_underlying Tryz.underlying58, goInt]) h
theorem rop_callv {P : Program} (f : FuncId) (x : Operand) (xs : Array Operand) (ts : Array TypeId) (hop : o.op = .call { callee := .value x, args := xs, argTypes := ts }) (cap args : Array Value) (hx : a.eval x = .func (.func f) #[] cap) (ha : xs.map a.eval = args) (he : enters P f = true)
    (hw : Region.wanted o (yielded ops a.tmps) = true) (h : Calls P f (args ++ cap) w fun e w' => ∃ v, e = .returned v ∧ K (a.put o.dst v) w') :
    if Region.wanted o (yielded ops a.tmps) = true then Oper.wp P o a w K Q else K (a.put o.dst undef) w := by
  rw [if_pos hw]
  unfold Oper.wp
  have hrun : (execOp a.eval o).run P w = .ok (.enter f (args ++ cap)) w := by
    have hx2 := run_enters he (args ++ cap) w
    simp [execOp, hop, resolve, invoke, ha, hx, Deferred.ofValue, hx2]
  rw [hrun, Oper.upon_enter]
  exact h.mono fun e w' ⟨v, he, hk⟩ => by subst he; exact hk
end
section
variable {ops : Array Oper} {Q : Exit → Act → World → Prop} {a : Act} {w w' : World} {K : Act → World → Prop} {o : Oper}
theorem rop_store (t : TypeId) (x y : Operand) (hop : o.op = .store t x y) {u v : Value} (hx : a.eval x = u) (hy : a.eval y = v) (hr : (Instr.storeAt t u v).run Tryz.prog w = .ok () w') (hw : Region.wanted o (yielded ops a.tmps) = true) (h : K (a.put o.dst undef) w') :
    if Region.wanted o (yielded ops a.tmps) = true then Oper.wp Tryz.prog o a w K Q else K (a.put o.dst undef) w := by
  rw [if_pos hw]
  unfold Oper.wp
  simp [execOp, hop, hx, hy, hr]
  exact h
theorem rop_alloc (t : TypeId) (hop : o.op = .alloc t) {v : Value} (hr : (Instr.alloc t true (.tuple #[])).run Tryz.prog w = .ok v w') (hw : Region.wanted o (yielded ops a.tmps) = true) (h : K (a.put o.dst v) w') :
    if Region.wanted o (yielded ops a.tmps) = true then Oper.wp Tryz.prog o a w K Q else K (a.put o.dst undef) w :=
  rop_v hw (by simp [execOp, hop, hr]) h
end
theorem foldl_sets (a : Act) : ∀ (D : List Nat) (arr : Array Value), arr.size = a.tmps.size → (D.foldl (fun r d => r.setIfInBounds d (a.eval (.tmp d))) arr).size = arr.size ∧ ∀ t : Nat, (D.foldl (fun r d => r.setIfInBounds d (a.eval (.tmp d))) arr)[t]? = if t ∈ D then a.tmps[t]? else arr[t]?
  | [], arr, _ => ⟨rfl, fun t => by simp⟩
  | d :: D, arr, h => by
    have hs : (arr.setIfInBounds d (a.eval (.tmp d))).size = arr.size := by simp
    obtain ⟨h1, h2⟩ := foldl_sets a D (arr.setIfInBounds d (a.eval (.tmp d))) (hs.trans h)
    refine ⟨h1.trans hs, fun t => ?_⟩
    rw [List.foldl_cons, h2 t]
    by_cases hD : t ∈ D
    · rw [if_pos hD, if_pos (List.mem_cons_of_mem _ hD)]
    · rw [if_neg hD]
      by_cases e : t = d
      · subst e
        rw [if_pos List.mem_cons_self]
        by_cases hl : t < a.tmps.size
        · rw [Array.getElem?_setIfInBounds_self_of_lt (by omega)]
          simp [Act.eval, hl]
        · rw [Array.getElem?_eq_none (by simp; omega), Array.getElem?_eq_none (by omega)]
      · rw [Array.getElem?_setIfInBounds_ne (Ne.symm e), if_neg (by simp [e, hD])]
theorem RFrame.sets {ops : Array Oper} {a0 a : Act} (hF : RFrame ops a0 a) (D : List Nat) (hD : ((rdsts ops).all fun d => D.contains d) = true) : a = ⟨D.foldl (fun r d => r.setIfInBounds d (a.eval (.tmp d))) a0.tmps, a0.defers⟩ := by
  obtain ⟨h1, h2⟩ := foldl_sets a D a0.tmps hF.size.symm
  have ht : a.tmps = D.foldl (fun r d => r.setIfInBounds d (a.eval (.tmp d))) a0.tmps := by
    apply Array.ext_getElem?
    intro t
    rw [h2 t]
    by_cases e : t ∈ D
    · rw [if_pos e]
    · rw [if_neg e]
      refine hF.out t fun hm => e ?_
      have := List.all_eq_true.1 hD t hm
      simpa using this
  have hd := hF.defers
  obtain ⟨at_, ad⟩ := a
  simp only at ht hd
  rw [← hd, ← ht]
theorem alloc_logp (u : World) : (Instr.alloc 43 true (.tuple #[])).run Tryz.prog u = .ok (.pointer (some ⟨u.heap.size, 0, none⟩)) (u.alloc (.cells #[.pointer none] 43)) := by go_simp
theorem store_logp {b : Nat} {x : Option Addr} {v : Value} {u : World} (h : u.heap[b]? = some (.cells #[v] 43 (0, 0))) : (Instr.storeAt 43 (.pointer (some ⟨b, 0, none⟩)) (.pointer x)).run Tryz.prog u = .ok () (u.setCell ⟨b, 0, none⟩ (.pointer x)) := by
  have h1 : u.cell? ⟨b, 0, none⟩ = some v := cell_of h 0
  have h2 := fz_of h 0
  go_simp
theorem store_int {b o : Nat} {x : Int} {v : Value} {u : World} (h1 : u.cell? ⟨b, o, none⟩ = some v) (h2 : u.frozen? ⟨b, o, none⟩ = false) : (Instr.storeAt 3 (.pointer (some ⟨b, o, none⟩)) (.int .i64 x)).run Tryz.prog u = .ok () (u.setCell ⟨b, o, none⟩ (.int .i64 x)) := by
  go_simp
theorem same_below {f : FuncId} {args : Array Value} {w : World} {x : Ending} (h : Calls Tryz.prog f args w fun e w' => e = x ∧ w = w') : Calls Tryz.prog f args w fun e w' => e = x ∧ Below w.heap.size w w' :=
  h.mono fun _ _ ⟨h1, h2⟩ => ⟨h1, h2 ▸ Below.refl _ _⟩
theorem load_int {b o : Nat} {x : Int} {w : World} (h0 : w.cell? ⟨b, o, none⟩ = some (.int .i64 x)) : (Instr.loadAt 3 (.pointer (some ⟨b, o, none⟩))).run Tryz.prog w = .ok (.int .i64 x) w := by
  go_simp
theorem load_logp {b o : Nat} {x : Option Addr} {w : World} (h0 : w.cell? ⟨b, o, none⟩ = some (.pointer x)) : (Instr.loadAt 43 (.pointer (some ⟨b, o, none⟩))).run Tryz.prog w = .ok (.pointer x) w := by
  go_simp
theorem load_puts {b o : Nat} {x : Option Addr} {n c : Nat} {w : World} (h0 : w.cell? ⟨b, o, none⟩ = some (.slice x n c)) : (Instr.loadAt 58 (.pointer (some ⟨b, o, none⟩))).run Tryz.prog w = .ok (.slice x n c) w := by
  go_simp
theorem load_txn {b : Nat} {x y : Value} {w : World} (h0 : w.cell? ⟨b, 0, none⟩ = some x) (h1 : w.cell? ⟨b, 1, none⟩ = some y) : (Instr.loadAt 106 (.pointer (some ⟨b, 0, none⟩))).run Tryz.prog w = .ok (.agg #[x, y]) w := by
  go_simp
theorem logFld (l : Nat) (w : World) : (Instr.fieldAt 98 (.pointer (some ⟨l, 0, none⟩)) 0).run Tryz.prog w = .ok (.pointer (some ⟨l, 0, none⟩)) w ∧ (Instr.fieldAt 98 (.pointer (some ⟨l, 0, none⟩)) 1).run Tryz.prog w = .ok (.pointer (some ⟨l, 2, none⟩)) w ∧ (Instr.fieldAt 98 (.pointer (some ⟨l, 0, none⟩)) 2).run Tryz.prog w = .ok (.pointer (some ⟨l, 3, none⟩)) w ∧ (Instr.fieldAt 98 (.pointer (some ⟨l, 0, none⟩)) 3).run Tryz.prog w = .ok (.pointer (some ⟨l, 4, none⟩)) w ∧ (Instr.fieldAt 98 (.pointer (some ⟨l, 0, none⟩)) 4).run Tryz.prog w = .ok (.pointer (some ⟨l, 5, none⟩)) w ∧ (Instr.fieldAt 98 (.pointer (some ⟨l, 0, none⟩)) 5).run Tryz.prog w = .ok (.pointer (some ⟨l, 6, none⟩)) w := by
  refine ⟨?_, ?_, ?_, ?_, ?_, ?_⟩ <;> go_simp
theorem txnFld (q : Nat) (w : World) : (Instr.fieldAt 106 (.pointer (some ⟨q, 0, none⟩)) 0).run Tryz.prog w = .ok (.pointer (some ⟨q, 0, none⟩)) w ∧ (Instr.fieldAt 106 (.pointer (some ⟨q, 0, none⟩)) 1).run Tryz.prog w = .ok (.pointer (some ⟨q, 1, none⟩)) w := by
  refine ⟨?_, ?_⟩ <;> go_simp
end Go.Proofs.YtfcocbgdmmeikaaGreatDoor
/-! ## Package redo: the head is written. -/
namespace Go.Proofs.YtfcocbgdmmeikaaGreatDoor
open Go.RowKit Dsk

theorem TW.fr {S : Nat → Prop} {w w' : World} (h : TW w) (hf : Fr S w w') (h0 : ¬ S 0) : TW w' := fun i hi => (hf.cell h.pos h0).trans (h i hi)
set_option maxHeartbeats 1600000 in
set_option maxRecDepth 100000 in
theorem writeHead_any (S : Nat → Prop) (l p : Nat) (G : Jnl.Geo) (place seq used : Nat) (x : Dk × Bool) (w : World) (h : LogS S l p G place seq used x w) (hu : Up S w) (hS0 : ¬ S 0) (hT : TW w) (hN : x.1.lies.length = G.N) (hp : place ≤ 65535) (hq : seq ≤ 1099511627776) (hb : Bd x 1) :
    Calls Tryz.prog 84 #[.pointer (some ⟨l, 0, none⟩)] w fun e w' => e = .returned (.tuple #[]) ∧ LogS S l p G place seq used (gos x [.w G.base (hdL place seq)]) w' ∧ FrL l S w w' := by
  have hG := G.h
  have hz : (hdL place seq).size = 256 := line_size (fits_two _ rfl (by omega) (by omega))
  have hd := fun u hT' => hdl_any (place : Int) (seq : Int) u hT' (by omega) (by omega) (by omega) (by omega)
  rw [keptN_id _ _ hp, keptN_id _ _ hq] at hd
  have hw := fun u (h' : LogS S l p G place seq used x u) (hu' : Up S u) => pwrite_any S l p _ _ x G.base (hdL place seq) u h' hu' (by omega) hz hb
  generalize hdL place seq = X at *
  go_enter Tryz.func84, Tryz.ntmps84
  try simp only [Act.put]
  refine wp_region_eff (Lx := fun _ _ => True) [RX.is (.pointer (some ⟨l, 0, none⟩)), RX.is (.pointer (some ⟨l, 0, none⟩)), RX.is (.pointer (some ⟨l, 0, none⟩)), RX.is (.pointer (some ⟨l, 0, none⟩)), RX.is (.pointer (some ⟨l, 0, none⟩)), RX.is (.pointer (some ⟨l, 2, none⟩)), RX.is (.int .i64 (G.base : Int)), RX.is (.pointer (some ⟨l, 0, none⟩)), RX.is (.pointer (some ⟨l, 0, none⟩)), RX.is (.pointer (some ⟨l, 4, none⟩)), RX.is (.int .i64 (place : Int)), RX.is (.pointer (some ⟨l, 0, none⟩)), RX.is (.pointer (some ⟨l, 0, none⟩)), RX.is (.pointer (some ⟨l, 5, none⟩)), RX.is (.int .i64 (seq : Int)), RX.is (.string X), RX.any] [16] (fun k u => LogS S l p G place seq used (if k = 0 then x else gos x [.w G.base X]) u ∧ FrL l S w u) (by kernel_rfl) (by kernel_rfl) (by kernel_rfl) (by kernel_rfl) (by kernel_rfl) (⟨h.old (below_drewN' 1), FrL.of_below (below_drewN' 1)⟩) ⟨?_, ?_, ?_, ?_, ?_, ?_, ?_, ?_, ?_, ?_, ?_, ?_, ?_, ?_, ?_, ?_, ?_, trivial⟩ ?_
  · intro ac w' ph hF hPh hlt hP hU K hK0
    have hK := fun v w2 (hl : Le8 w' w2) ht => hK0 v w2 (trivial) (⟨hPh.1.old hl, hPh.2.trans (FrL.of_below hl)⟩) ht
    have e0 : ac.eval (.tmp 0) = .pointer (some ⟨l, 0, none⟩) := hF.at 0 (by kernel_rfl)
    exact rop_move _ rfl e0 (wanted_none rfl) (hK _ _ (le8_refl _) rfl)
  · intro ac w' ph hF hPh hlt hP hU K hK0
    have hK := fun v w2 (hl : Le8 w' w2) ht => hK0 v w2 (trivial) (⟨hPh.1.old hl, hPh.2.trans (FrL.of_below hl)⟩) ht
    have e2 : ac.eval (.tmp 2) = .pointer (some ⟨l, 0, none⟩) := hP 0 (by kernel_rfl)
    exact rop_nil _ rfl e2 (wanted_none rfl) (hK _ _ (le8_refl _) rfl)
  · intro ac w' ph hF hPh hlt hP hU K hK0
    have hK := fun v w2 (hl : Le8 w' w2) ht => hK0 v w2 (trivial) (⟨hPh.1.old hl, hPh.2.trans (FrL.of_below hl)⟩) ht
    have e3 : ac.eval (.tmp 3) = .pointer (some ⟨l, 0, none⟩) := hP 1 (by kernel_rfl)
    exact rop_fld _ _ _ rfl e3 ((logFld l _).1) (wanted_none rfl) (hK _ _ (le8_refl _) rfl)
  · intro ac w' ph hF hPh hlt hP hU K hK0
    have hK := fun v w2 (hl : Le8 w' w2) ht => hK0 v w2 (trivial) (⟨hPh.1.old hl, hPh.2.trans (FrL.of_below hl)⟩) ht
    have e0 : ac.eval (.tmp 0) = .pointer (some ⟨l, 0, none⟩) := hF.at 0 (by kernel_rfl)
    exact rop_move _ rfl e0 (wanted_none rfl) (hK _ _ (le8_refl _) rfl)
  · intro ac w' ph hF hPh hlt hP hU K hK0
    have hK := fun v w2 (hl : Le8 w' w2) ht => hK0 v w2 (trivial) (⟨hPh.1.old hl, hPh.2.trans (FrL.of_below hl)⟩) ht
    have e5 : ac.eval (.tmp 5) = .pointer (some ⟨l, 0, none⟩) := hP 3 (by kernel_rfl)
    exact rop_nil _ rfl e5 (wanted_none rfl) (hK _ _ (le8_refl _) rfl)
  · intro ac w' ph hF hPh hlt hP hU K hK0
    have hK := fun v w2 (hl : Le8 w' w2) ht => hK0 v w2 (trivial) (⟨hPh.1.old hl, hPh.2.trans (FrL.of_below hl)⟩) ht
    have e6 : ac.eval (.tmp 6) = .pointer (some ⟨l, 0, none⟩) := hP 4 (by kernel_rfl)
    exact rop_fld _ _ _ rfl e6 ((logFld l _).2.1) (wanted_none rfl) (hK _ _ (le8_refl _) rfl)
  · intro ac w' ph hF hPh hlt hP hU K hK0
    have hK := fun v w2 (hl : Le8 w' w2) ht => hK0 v w2 (trivial) (⟨hPh.1.old hl, hPh.2.trans (FrL.of_below hl)⟩) ht
    have e7 : ac.eval (.tmp 7) = .pointer (some ⟨l, 2, none⟩) := hP 5 (by kernel_rfl)
    exact rop_ld _ _ rfl e7 (load_int hPh.1.l2) (wanted_none rfl) (hK _ _ (le8_refl _) rfl)
  · intro ac w' ph hF hPh hlt hP hU K hK0
    have hK := fun v w2 (hl : Le8 w' w2) ht => hK0 v w2 (trivial) (⟨hPh.1.old hl, hPh.2.trans (FrL.of_below hl)⟩) ht
    have e0 : ac.eval (.tmp 0) = .pointer (some ⟨l, 0, none⟩) := hF.at 0 (by kernel_rfl)
    exact rop_move _ rfl e0 (wanted_none rfl) (hK _ _ (le8_refl _) rfl)
  · intro ac w' ph hF hPh hlt hP hU K hK0
    have hK := fun v w2 (hl : Le8 w' w2) ht => hK0 v w2 (trivial) (⟨hPh.1.old hl, hPh.2.trans (FrL.of_below hl)⟩) ht
    have e9 : ac.eval (.tmp 9) = .pointer (some ⟨l, 0, none⟩) := hP 7 (by kernel_rfl)
    exact rop_nil _ rfl e9 (wanted_none rfl) (hK _ _ (le8_refl _) rfl)
  · intro ac w' ph hF hPh hlt hP hU K hK0
    have hK := fun v w2 (hl : Le8 w' w2) ht => hK0 v w2 (trivial) (⟨hPh.1.old hl, hPh.2.trans (FrL.of_below hl)⟩) ht
    have e10 : ac.eval (.tmp 10) = .pointer (some ⟨l, 0, none⟩) := hP 8 (by kernel_rfl)
    exact rop_fld _ _ _ rfl e10 ((logFld l _).2.2.2.1) (wanted_none rfl) (hK _ _ (le8_refl _) rfl)
  · intro ac w' ph hF hPh hlt hP hU K hK0
    have hK := fun v w2 (hl : Le8 w' w2) ht => hK0 v w2 (trivial) (⟨hPh.1.old hl, hPh.2.trans (FrL.of_below hl)⟩) ht
    have e11 : ac.eval (.tmp 11) = .pointer (some ⟨l, 4, none⟩) := hP 9 (by kernel_rfl)
    exact rop_ld _ _ rfl e11 (load_int hPh.1.l4) (wanted_none rfl) (hK _ _ (le8_refl _) rfl)
  · intro ac w' ph hF hPh hlt hP hU K hK0
    have hK := fun v w2 (hl : Le8 w' w2) ht => hK0 v w2 (trivial) (⟨hPh.1.old hl, hPh.2.trans (FrL.of_below hl)⟩) ht
    have e0 : ac.eval (.tmp 0) = .pointer (some ⟨l, 0, none⟩) := hF.at 0 (by kernel_rfl)
    exact rop_move _ rfl e0 (wanted_none rfl) (hK _ _ (le8_refl _) rfl)
  · intro ac w' ph hF hPh hlt hP hU K hK0
    have hK := fun v w2 (hl : Le8 w' w2) ht => hK0 v w2 (trivial) (⟨hPh.1.old hl, hPh.2.trans (FrL.of_below hl)⟩) ht
    have e13 : ac.eval (.tmp 13) = .pointer (some ⟨l, 0, none⟩) := hP 11 (by kernel_rfl)
    exact rop_nil _ rfl e13 (wanted_none rfl) (hK _ _ (le8_refl _) rfl)
  · intro ac w' ph hF hPh hlt hP hU K hK0
    have hK := fun v w2 (hl : Le8 w' w2) ht => hK0 v w2 (trivial) (⟨hPh.1.old hl, hPh.2.trans (FrL.of_below hl)⟩) ht
    have e14 : ac.eval (.tmp 14) = .pointer (some ⟨l, 0, none⟩) := hP 12 (by kernel_rfl)
    exact rop_fld _ _ _ rfl e14 ((logFld l _).2.2.2.2.1) (wanted_none rfl) (hK _ _ (le8_refl _) rfl)
  · intro ac w' ph hF hPh hlt hP hU K hK0
    have hK := fun v w2 (hl : Le8 w' w2) ht => hK0 v w2 (trivial) (⟨hPh.1.old hl, hPh.2.trans (FrL.of_below hl)⟩) ht
    have e15 : ac.eval (.tmp 15) = .pointer (some ⟨l, 5, none⟩) := hP 13 (by kernel_rfl)
    exact rop_ld _ _ rfl e15 (load_int hPh.1.l5) (wanted_none rfl) (hK _ _ (le8_refl _) rfl)
  · intro ac w' ph hF hPh hlt hP hU K hK0
    have hK := fun v w2 (hl : Le8 w' w2) ht => hK0 v w2 (trivial) (⟨hPh.1.old hl, hPh.2.trans (FrL.of_below hl)⟩) ht
    have e12 : ac.eval (.tmp 12) = .int .i64 (place : Int) := hP 10 (by kernel_rfl)
    have e16 : ac.eval (.tmp 16) = .int .i64 (seq : Int) := hP 14 (by kernel_rfl)
    refine rop_call 7 _ _ rfl #[.int .i64 (place : Int), .int .i64 (seq : Int)] (by simp [e12, e16]) (by kernel_rfl) (wanted_none rfl) ?_
    refine (hd _ (hT.fr hPh.2.fr hS0)).mono ?_
    rintro e w2 ⟨rfl, hb⟩
    exact ⟨_, rfl, hK _ _ hb rfl⟩
  · intro ac w' ph hF hPh hlt hP hU K hK0
    obtain rfl : ph = 0 := (hlt 0 16 rfl).1 rfl
    have e4 : ac.eval (.tmp 4) = .pointer (some ⟨l, 0, none⟩) := hP 2 (by kernel_rfl)
    have e8 : ac.eval (.tmp 8) = .int .i64 (G.base : Int) := hP 6 (by kernel_rfl)
    have e17 : ac.eval (.tmp 17) = .string X := hP 15 (by kernel_rfl)
    refine rop_call 48 _ _ rfl #[.pointer (some ⟨l, 0, none⟩), .int .i64 (G.base : Int), .string X] (by simp [e4, e8, e17]) (by kernel_rfl) (wanted_none rfl) ?_
    refine (hw _ hPh.1 (hu.mono hPh.2.size)).mono ?_
    rintro e w3 ⟨rfl, h3, f3⟩
    exact ⟨_, rfl, hK0 _ _ trivial ⟨h3, hPh.2.trans f3⟩ trivial⟩
  · intro ac w' hF hPh hT
    rw [hF.sets [2, 3, 4, 5, 6, 7, 8, 9, 10, 11, 12, 13, 14, 15, 16, 17, 18] (by kernel_rfl)]
    simp only [List.foldl_cons, List.foldl_nil, List.setIfInBounds_toArray, List.set_cons_succ, List.set_cons_zero]
    generalize ac.eval (.tmp 2) = u2
    generalize ac.eval (.tmp 3) = u3
    generalize ac.eval (.tmp 4) = u4
    generalize ac.eval (.tmp 5) = u5
    generalize ac.eval (.tmp 6) = u6
    generalize ac.eval (.tmp 7) = u7
    generalize ac.eval (.tmp 8) = u8
    generalize ac.eval (.tmp 9) = u9
    generalize ac.eval (.tmp 10) = u10
    generalize ac.eval (.tmp 11) = u11
    generalize ac.eval (.tmp 12) = u12
    generalize ac.eval (.tmp 13) = u13
    generalize ac.eval (.tmp 14) = u14
    generalize ac.eval (.tmp 15) = u15
    generalize ac.eval (.tmp 16) = u16
    generalize ac.eval (.tmp 17) = u17
    generalize ac.eval (.tmp 18) = u18
    clear  hT hF ac
    go_wp2
    go_end0
    exact ⟨rfl, hPh.1, hPh.2⟩
end Go.Proofs.YtfcocbgdmmeikaaGreatDoor
/-! ## Package redo: a checkpoint; the small functions of a transaction. -/
namespace Go.Proofs.YtfcocbgdmmeikaaGreatDoor
open Go.RowKit Dsk

section
variable {S : Nat → Prop} {l p : Nat} {G : Jnl.Geo} {place seq used : Nat} {x : Dk × Bool} {w w' : World}
theorem LogS.used0 (h : LogS S l p G place seq used x w) : LogS S l p G place seq 0 x (w.setCell ⟨l, 6, none⟩ (.int .i64 0)) := by
  have hb := h.pen
  exact ⟨h.sb, h.disk.only hb h.t1 h.t2 h.t3 ((Only.refl _ _).setCell _ _), heap_set hb _, h.t1, h.t2, h.t3⟩
end
theorem zerosR_any (w : World) : Calls Tryz.prog 49 #[] w fun e w' => e = .returned (.string zeroB) ∧ Below w.heap.size w w' := by
  have hr := repeat_any ⟨#[0]⟩ 256 w (by omega) (by show 1 * 256 ≤ _; omega)
  have e : (⟨(Lib.repeatL (⟨#[0]⟩ : ByteArray).data.toList 256).toArray⟩ : ByteArray) = zeroB := by
    show (⟨(Lib.repeatL [(0 : UInt8)] 256).toArray⟩ : ByteArray) = _
    rw [repL]; rfl
  rw [e] at hr
  go_enter Tryz.func49, Tryz.ntmps49
  go_wp2_with (go_at_call 80; refine hr.mono ?_; rintro e w' ⟨rfl, hb⟩)
  go_ret
  exact ⟨rfl, hb⟩
theorem checkpoint_none (S : Nat → Prop) (l p : Nat) (G : Jnl.Geo) (place seq : Nat) (x : Dk × Bool) (w : World) (h : LogS S l p G place seq 0 x w) :
    Calls Tryz.prog 56 #[.pointer (some ⟨l, 0, none⟩)] w fun e w' => e = .returned (.int .i64 0) ∧ w = w' := by
  have c6 : w.cell? ⟨l, 6, none⟩ = some (.int .i64 0) := h.l6
  go_enter Tryz.func56, Tryz.ntmps56
  go_wp2
  go_ret
  exact ⟨rfl, rfl⟩
set_option maxHeartbeats 1600000 in
set_option maxRecDepth 100000 in
theorem checkpoint_some (S : Nat → Prop) (l p : Nat) (G : Jnl.Geo) (place seq used : Nat) (x : Dk × Bool) (w : World) (h : LogS S l p G place seq used x w) (h0 : 0 < used) (hu : Up S w) (hS0 : ¬ S 0) (hT : TW w) (hN : x.1.lies.length = G.N) (hp : place ≤ 65535) (hq : seq ≤ 1099511627776) (hb : Bd x 3) :
    Calls Tryz.prog 56 #[.pointer (some ⟨l, 0, none⟩)] w fun e w' => e = .returned (.int .i64 (eOf (gos x (Jnl.ckOps RL G place seq)).2)) ∧ LogS S l p G place seq (if (gos x (Jnl.ckOps RL G place seq)).2 then 0 else used) (gos x (Jnl.ckOps RL G place seq)) w' ∧ FrL l S w w' := by
  have e : Jnl.ckOps RL G place seq = [.f] ++ ([.w G.base (hdL place seq)] ++ [.f]) := rfl
  rw [e, gos_append, gos_append]
  have c6 : w.cell? ⟨l, 6, none⟩ = some (.int .i64 (used : Int)) := h.l6
  have hne : ¬ (used : Int) = 0 := by omega
  have f1 := pflush_any S l p _ _ x w h hu (hb.mono (by omega))
  have b1 : Bd (gos x [.f]) 2 := Bd.gos (show Bd x (1 + 2) from hb)
  have n1 : (gos x [.f]).1.lies.length = G.N := by rw [gos_len]; exact hN
  generalize gos x [.f] = x1 at *
  have b2 : Bd (gos x1 [.w G.base (hdL place seq)]) 1 := Bd.gos (show Bd x1 (1 + 1) from b1)
  have f2 := fun u (h' : LogS S l p G place seq used x1 u) (hu' : Up S u) (hT' : TW u) => writeHead_any S l p G place seq used x1 u h' hu' hS0 hT' n1 hp hq (b1.mono (by omega))
  generalize gos x1 [.w G.base (hdL place seq)] = x2 at *
  have f3 := fun u (h' : LogS S l p G place seq used x2 u) (hu' : Up S u) => pflush_any S l p _ _ x2 u h' hu' b2
  generalize gos x2 [.f] = x3 at *
  have H := Lib.hid h
  obtain ⟨U, hU⟩ : ∃ U, U = if x3.2 = true then 0 else used := ⟨_, rfl⟩
  rw [← hU]
  have HU := Lib.hid hU
  clear h e hU
  go_enter Tryz.func56, Tryz.ntmps56
  go_upto_region 4 with (go_at_call 50; refine f1.mono ?_; rintro e w1 ⟨rfl, h1, g1⟩)
  have u1 := hu.mono g1.size
  have t1 := hT.fr g1.fr hS0
  go_upto_region 5 with (go_at_call 84; refine (f2 _ h1 u1 t1).mono ?_; rintro e w2 ⟨rfl, h2, g2⟩)
  have u2 := u1.mono g2.size
  go_upto_region 6 with (go_at_call 50; refine (f3 _ h2 u2).mono ?_; rintro e w3 ⟨rfl, h3, g3⟩)
  have gg := (g1.trans g2).trans g3
  clear f1 f2 f3 h1 h2 g1 g2 g3 t1 u1 u2 b1 b2 n1 c6
  have c1 := h3.c1
  have z6 := h3.fz 6
  have c36 := h3.l6
  have H3 := Lib.hid h3
  clear h3
  cases hx : x3.2 with
  | true =>
    rw [hx, show eOf true = 0 from rfl] at c1
    have c1' : (w3.setCell ⟨l, 6, none⟩ (.int .i64 0)).cell? ⟨l, 1, none⟩ = some (.int .i64 0) := by
      have := (LogS.used0 H3.out).c1
      rw [hx] at this
      exact this
    go_wp2
    go_ret
    rw [HU.out, if_pos hx, hx]
    exact ⟨rfl, LogS.used0 H3.out, gg.trans (FrL.of_only ((Only.refl _ _).setCell _ _) H3.out.sb)⟩
  | false =>
    rw [hx, show eOf false = 14 from rfl] at c1
    go_wp2
    go_ret
    rw [HU.out, if_neg (by rw [hx]; decide), hx]
    exact ⟨rfl, H3.out, gg⟩
/-- A transaction as a value. -/
def txnV (l : Nat) (v : Value) : Value := .agg #[.pointer (some ⟨l, 0, none⟩), v]
theorem txnSize_is (l : Nat) (a : Option Addr) (n cap : Nat) (w : World) (hn : n ≤ 1000000) :
    Calls Tryz.prog 87 #[txnV l (.slice a n cap)] w fun e w' => e = .returned (.int .i64 ((n + 2 : Nat) : Int)) ∧ w' = w.alloc (.cells #[.pointer (some ⟨l, 0, none⟩), .slice a n cap] 106) := by
  unfold txnV
  go_enter Tryz.func87, Tryz.ntmps87
  go_wp2
  go_ret
  exact ⟨ret_int (by omega), rfl⟩
theorem txnSize_any (l : Nat) (a : Option Addr) (n cap : Nat) (w : World) (hn : n ≤ 1000000) :
    Calls Tryz.prog 87 #[txnV l (.slice a n cap)] w fun e w' => e = .returned (.int .i64 ((n + 2 : Nat) : Int)) ∧ Below w.heap.size w w' :=
  (txnSize_is l a n cap w hn).mono fun _ _ ⟨h1, h2⟩ => ⟨h1, h2 ▸ (Below.refl _ _).alloc (Nat.le_refl _) _⟩
theorem made_int (c : Nat) : madeCells (Value.int .i64 0).cells (c * 1) = ((List.replicate c (0 : Int)).map fun z => Value.int .i64 z).toArray := by
  apply Array.ext_getElem?
  intro i
  by_cases hi : i < c
  · simp [madeCells, hi, Value.cells, Nat.mod_one]
  · simp [madeCells, hi, Value.cells]
theorem make_ints (n : Nat) (hc : n ≤ 1000000) (w : World) : (Instr.makeSlice 23 (.int .i64 (n : Int)) (.int .i64 (n : Int))).run Tryz.prog w = .ok (.slice (some ⟨w.heap.size, 0, none⟩) n n) (w.alloc (.cells ((List.replicate n (0 : Int)).map fun z => Value.int .i64 z).toArray 3)) := by
  obtain ⟨i0, hi, hz0, hz1, hz2⟩ := info_parts info_int
  have hr := run_make (P := Tryz.prog) w 23 3 i0 (.int .i64 0) Tryz.underlying23 hi hz0 .i64 .i64 n n (by omega) (by omega) (by rw [hz2]; omega) (by omega)
  rw [hz1] at hr
  simp only [Int.toNat_natCast] at hr
  rw [made_int] at hr
  exact hr
theorem ints_set (L : List Int) (i : Nat) (z : Int) : ((L.map fun z => Value.int .i64 z).toArray).setIfInBounds i (.int .i64 z) = ((L.set i z).map fun z => Value.int .i64 z).toArray := by
  rw [List.setIfInBounds_toArray, List.map_set]
/-- Block q is a row of the numbers L. -/
def IntRow (q : Nat) (L : List Int) (w : World) : Prop := w.heap[q]? = some (.cells (L.map fun z => Value.int .i64 z).toArray 3 (0, 0))
theorem IntRow.ints {q : Nat} {L : List Int} {w : World} (h : IntRow q L w) (hl : L.length ≤ 1000000) : Ints w (.slice (some ⟨q, 0, none⟩) L.length L.length) L q :=
  ⟨_, _, rfl, by omega, fun _ => ⟨0, rfl, (Array.getElem?_eq_some_iff.1 h).1, fun j hj => by rw [Nat.zero_add, cell_of h]; simp [hj]⟩⟩
set_option maxHeartbeats 1600000 in
set_option maxRecDepth 100000 in
theorem sectors_txn (l : Nat) (v : Value) (t : List (Int × ByteArray)) (g : Nat) (w : World) (hv : PutsR w v t g) (hn : t.length ≤ 100000) :
    Calls Tryz.prog 89 #[txnV l v] w fun e w' => ∃ q, e = .returned (.slice (some ⟨q, 0, none⟩) t.length t.length) ∧ IntRow q (t.map Prod.fst) w' ∧ Below w.heap.size w w' := by
  obtain ⟨a, cap, rfl, hl, hc⟩ := hv
  unfold txnV
  obtain ⟨wb, hwb⟩ : ∃ wb, wb = w.alloc (.cells #[.pointer (some ⟨l, 0, none⟩), .slice a t.length cap] 106) := ⟨_, rfl⟩
  have bb : Below w.heap.size w wb := by rw [hwb]; exact (Below.refl _ _).alloc (Nat.le_refl _) _
  have sb : wb.heap.size = w.heap.size + 1 := by rw [hwb]; simp
  have cb1 : wb.cell? ⟨w.heap.size, 1, none⟩ = some (.slice a t.length cap) := by rw [hwb, cell_of (heap_alloc_last w _)]; rfl
  have hmk := make_ints t.length (by omega) wb
  obtain ⟨O, hO⟩ : ∃ O, O = Obj.cells ((List.replicate t.length (0 : Int)).map fun z => Value.int .i64 z).toArray 3 := ⟨_, rfl⟩
  rw [← hO] at hmk
  have HO := Lib.hid hO
  have SB := Lib.hid sb
  clear hO sb
  go_enter Tryz.func89, Tryz.ntmps89
  go_upto_region 1 with fail
  rw [← hwb]
  clear hwb
  go_upto_region 2 with fail
  obtain ⟨wc, hwc⟩ : ∃ wc, wc = wb.alloc O := ⟨_, rfl⟩
  obtain ⟨q, hq⟩ : ∃ q, q = wb.heap.size := ⟨_, rfl⟩
  have bc : Below w.heap.size w wc := by rw [hwc]; exact bb.alloc bb.size _
  have hr : IntRow q (List.replicate t.length (0 : Int)) wc := by rw [hwc, HO.out, hq]; exact heap_alloc_last wb _
  have cc1 : wc.cell? ⟨w.heap.size, 1, none⟩ = some (.slice a t.length cap) := by
    rw [← cb1, hwc]
    exact ((Below.refl wb.heap.size wb).alloc (Nat.le_refl _) O).cell (p := ⟨w.heap.size, 1, none⟩) (by show w.heap.size < wb.heap.size; have := SB.out; omega)
  have hqw : w.heap.size < q := by have := SB.out; omega
  rw [← hwc, ← hq]
  clear hmk HO hwc cb1 hq SB bb
  go_upto_region 3 with fail
  go_loopw [13] (fun i wr => ∃ k : Nat, k ≤ t.length ∧ i = .int .i64 k ∧ ∃ L : List Int, L.length = t.length ∧ (∀ j, j < k → L.getD j 0 = (t.getD j (0, .empty)).1) ∧ IntRow q L wr ∧ Below w.heap.size w wr) (fun i _ => t.length - (intOf i).toNat)
  case atStart => exact ⟨0, Nat.zero_le _, rfl, _, by simp, fun j hj => absurd hj (Nat.not_lt_zero j), hr, bc⟩
  case round =>
    obtain ⟨k, hk, rfl, L, hL, hLj, hI, hbl⟩ := hrel
    clear hr bc cc1
    by_cases hlt : k < t.length
    · obtain ⟨off, rfl, hgl, hj⟩ := hc (fun e => by rw [e] at hlt; simp at hlt)
      obtain ⟨c1, c2⟩ := hj k hlt
      have d1 := (hbl.cell (p := ⟨g, off + k * 2, none⟩) hgl).trans c1
      have d2 := (hbl.cell (p := ⟨g, off + k * 2 + 1, none⟩) hgl).trans c2
      obtain ⟨A, hA⟩ : ∃ A, A = (t.getD k (0, .empty)).1 := ⟨_, rfl⟩
      obtain ⟨X, hX⟩ : ∃ X, X = (t.getD k (0, .empty)).2 := ⟨_, rfl⟩
      rw [← hA] at d1
      rw [← hX] at d2
      have HA := Lib.hid hA
      have HLJ := Lib.hid hLj
      clear c1 c2 hj hX hA hLj
      go_upto_region 5 with fail
      obtain ⟨w1, hw1⟩ : ∃ w1, w1 = wr.alloc (.cells #[.int .i64 A, .string X] 64) := ⟨_, rfl⟩
      have b1 : Below wr.heap.size wr w1 := by rw [hw1]; exact (Below.refl _ _).alloc (Nat.le_refl _) _
      have e1 : w1.cell? ⟨wr.heap.size, 0, none⟩ = some (.int .i64 A) := by rw [hw1, cell_of (heap_alloc_last wr _)]; rfl
      have hql : q < wr.heap.size := (Array.getElem?_eq_some_iff.1 hI).1
      have hI1 : IntRow q L w1 := (b1.block q hql).trans hI
      have eq1 : w1.cell? ⟨q, k, none⟩ = some (.int .i64 (L.getD k 0)) := by rw [cell_of hI1]; simp [hL, hlt]
      have z1 : w1.frozen? ⟨q, k, none⟩ = false := fz_of hI1 k
      have bl1 : Below w.heap.size w w1 := below_step hbl (Nat.le_refl _) b1
      have hks : (k : Int) < (t.length : Int) := by omega
      rw [← hw1]
      clear hw1 d1 d2
      go_wp2
      go_roundw
      case rel =>
        refine ⟨k + 1, by omega, by go_num, L.set k A, by rw [List.length_set]; exact hL, fun j hj => ?_, ?_, bl1.setCell (p := ⟨q, k, none⟩) (Nat.le_of_lt hqw) _⟩
        · by_cases e : k = j
          · subst e
            rw [List.getD_eq_getElem?_getD, List.getElem?_set_self (by omega)]
            exact HA.out
          · rw [List.getD_eq_getElem?_getD, List.getElem?_set_ne e, ← List.getD_eq_getElem?_getD]
            exact HLJ.out j (by omega)
        · unfold IntRow
          rw [← ints_set]
          exact heap_set hI1 _
      case measure => simp [intOf]; omega
    · obtain rfl : k = t.length := by omega
      have e : L = t.map Prod.fst := by
        apply List.ext_getElem (by rw [List.length_map]; exact hL)
        intro i h1 h2
        have := hLj i (by omega)
        rw [List.getD_eq_getElem?_getD, List.getElem?_eq_getElem h1, List.getD_eq_getElem?_getD, List.getElem?_eq_getElem (by omega)] at this
        simpa using this
      rw [e] at hI
      go_wp2
      go_ret
      exact ⟨q, rfl, hI, hbl⟩
end Go.Proofs.YtfcocbgdmmeikaaGreatDoor
/-! ## Package redo: the closure that writes a slot. -/
namespace Go.Proofs.YtfcocbgdmmeikaaGreatDoor
open Go.RowKit Dsk

/-- Block c is a variable that has the log l. -/
def ClosL (c l : Nat) (w : World) : Prop := w.heap[c]? = some (.cells #[.pointer (some ⟨l, 0, none⟩)] 43 (0, 0))
theorem ClosL.old {c l : Nat} {w w' : World} (h : ClosL c l w) (hb : Below w.heap.size w w') : ClosL c l w' := (hb.block c (Array.getElem?_eq_some_iff.1 h).1).trans h
theorem ClosL.kept {c l : Nat} {S : Nat → Prop} {w w' : World} (h : ClosL c l w) (hn : c ≠ l) (hf : FrL l S w w') : ClosL c l w' := (hf.other c _ _ _ hn h (by decide) (by decide) (by decide)).trans h
set_option maxHeartbeats 1600000 in
set_option maxRecDepth 100000 in
theorem put_slot (S : Nat → Prop) (l p : Nat) (G : Jnl.Geo) (place seq used : Nat) (x : Dk × Bool) (c i : Nat) (X : ByteArray) (w : World) (h : LogS S l p G place seq used x w) (hu : Up S w) (hc : ClosL c l w) (hcl : c ≠ l) (hN : x.1.lies.length = G.N) (hN2 : G.N ≤ 65536) (hp : place < G.m) (hi : i ≤ 1000) (hX : X.size = 256) (hb : Bd x 1) :
    Calls Tryz.prog 88 #[.int .i64 (i : Int), .string X, .pointer (some ⟨c, 0, none⟩)] w fun e w' => e = .returned (.tuple #[]) ∧ LogS S l p G place seq used (gos x [.w (G.sl (place + i)) X]) w' ∧ FrL l S w w' ∧ ClosL c l w' := by
  have hsl := fun u x' (h' : LogS S l p G place seq used x' u) => slot_any S l p G place seq used x' i u h' hN2 hp hi
  have hw := fun u (h' : LogS S l p G place seq used x u) (hu' : Up S u) => pwrite_any S l p _ _ x (G.sl (place + i)) X u h' hu' (by rw [hN]; exact G.sl_lt _) hX hb
  generalize G.sl (place + i) = A at *
  go_enter Tryz.func88, Tryz.ntmps88
  try simp only [Act.put]
  refine wp_region_eff (Lx := fun _ _ => True) [RX.is (.pointer (some ⟨l, 0, none⟩)), RX.is (.pointer (some ⟨l, 0, none⟩)), RX.is (.pointer (some ⟨l, 0, none⟩)), RX.is (.pointer (some ⟨l, 0, none⟩)), RX.is (.int .i64 (i : Int)), RX.is (.int .i64 (A : Int)), RX.is (.string X), RX.any] [7] (fun k u => LogS S l p G place seq used (if k = 0 then x else gos x [.w A X]) u ∧ FrL l S w u ∧ ClosL c l u) (by kernel_rfl) (by kernel_rfl) (by kernel_rfl) (by kernel_rfl) (by kernel_rfl) (⟨h.old (below_drewN' 1), FrL.of_below (below_drewN' 1), hc.old (below_drewN' 1)⟩) ⟨?_, ?_, ?_, ?_, ?_, ?_, ?_, ?_, trivial⟩ ?_
  · intro ac w' ph hF hPh hlt hP hU K hK0
    have hK := fun v w2 (hl : Le8 w' w2) ht => hK0 v w2 (trivial) (⟨hPh.1.old hl, hPh.2.1.trans (FrL.of_below hl), hPh.2.2.old hl⟩) ht
    have e2 : ac.eval (.tmp 2) = .pointer (some ⟨c, 0, none⟩) := hF.at 2 (by kernel_rfl)
    exact rop_ld _ _ rfl e2 (load_logp (cell_of hPh.2.2 0)) (wanted_none rfl) (hK _ _ (le8_refl _) rfl)
  · intro ac w' ph hF hPh hlt hP hU K hK0
    have hK := fun v w2 (hl : Le8 w' w2) ht => hK0 v w2 (trivial) (⟨hPh.1.old hl, hPh.2.1.trans (FrL.of_below hl), hPh.2.2.old hl⟩) ht
    have e5 : ac.eval (.tmp 5) = .pointer (some ⟨l, 0, none⟩) := hP 0 (by kernel_rfl)
    exact rop_nil _ rfl e5 (wanted_none rfl) (hK _ _ (le8_refl _) rfl)
  · intro ac w' ph hF hPh hlt hP hU K hK0
    have hK := fun v w2 (hl : Le8 w' w2) ht => hK0 v w2 (trivial) (⟨hPh.1.old hl, hPh.2.1.trans (FrL.of_below hl), hPh.2.2.old hl⟩) ht
    have e6 : ac.eval (.tmp 6) = .pointer (some ⟨l, 0, none⟩) := hP 1 (by kernel_rfl)
    exact rop_fld _ _ _ rfl e6 ((logFld l _).1) (wanted_none rfl) (hK _ _ (le8_refl _) rfl)
  · intro ac w' ph hF hPh hlt hP hU K hK0
    have hK := fun v w2 (hl : Le8 w' w2) ht => hK0 v w2 (trivial) (⟨hPh.1.old hl, hPh.2.1.trans (FrL.of_below hl), hPh.2.2.old hl⟩) ht
    have e2 : ac.eval (.tmp 2) = .pointer (some ⟨c, 0, none⟩) := hF.at 2 (by kernel_rfl)
    exact rop_ld _ _ rfl e2 (load_logp (cell_of hPh.2.2 0)) (wanted_none rfl) (hK _ _ (le8_refl _) rfl)
  · intro ac w' ph hF hPh hlt hP hU K hK0
    have hK := fun v w2 (hl : Le8 w' w2) ht => hK0 v w2 (trivial) (⟨hPh.1.old hl, hPh.2.1.trans (FrL.of_below hl), hPh.2.2.old hl⟩) ht
    have e0 : ac.eval (.tmp 0) = .int .i64 (i : Int) := hF.at 0 (by kernel_rfl)
    exact rop_move _ rfl e0 (wanted_none rfl) (hK _ _ (le8_refl _) rfl)
  · intro ac w' ph hF hPh hlt hP hU K hK0
    have hK := fun v w2 (hl : Le8 w' w2) ht => hK0 v w2 (trivial) (⟨hPh.1.old hl, hPh.2.1.trans (FrL.of_below hl), hPh.2.2.old hl⟩) ht
    have e8 : ac.eval (.tmp 8) = .pointer (some ⟨l, 0, none⟩) := hP 3 (by kernel_rfl)
    have e9 : ac.eval (.tmp 9) = .int .i64 (i : Int) := hP 4 (by kernel_rfl)
    refine rop_call 53 _ _ rfl #[.pointer (some ⟨l, 0, none⟩), .int .i64 (i : Int)] (by simp [e8, e9]) (by kernel_rfl) (wanted_none rfl) ?_
    refine (hsl _ _ hPh.1).mono ?_
    rintro e w2 ⟨rfl, hb⟩
    exact ⟨_, rfl, hK _ _ hb rfl⟩
  · intro ac w' ph hF hPh hlt hP hU K hK0
    have hK := fun v w2 (hl : Le8 w' w2) ht => hK0 v w2 (trivial) (⟨hPh.1.old hl, hPh.2.1.trans (FrL.of_below hl), hPh.2.2.old hl⟩) ht
    have e1 : ac.eval (.tmp 1) = .string X := hF.at 1 (by kernel_rfl)
    exact rop_move _ rfl e1 (wanted_none rfl) (hK _ _ (le8_refl _) rfl)
  · intro ac w' ph hF hPh hlt hP hU K hK0
    obtain rfl : ph = 0 := (hlt 0 7 rfl).1 rfl
    have e7 : ac.eval (.tmp 7) = .pointer (some ⟨l, 0, none⟩) := hP 2 (by kernel_rfl)
    have e10 : ac.eval (.tmp 10) = .int .i64 (A : Int) := hP 5 (by kernel_rfl)
    have e11 : ac.eval (.tmp 11) = .string X := hP 6 (by kernel_rfl)
    refine rop_call 48 _ _ rfl #[.pointer (some ⟨l, 0, none⟩), .int .i64 (A : Int), .string X] (by simp [e7, e10, e11]) (by kernel_rfl) (wanted_none rfl) ?_
    refine (hw _ hPh.1 (hu.mono hPh.2.1.size)).mono ?_
    rintro e w3 ⟨rfl, h3, f3⟩
    exact ⟨_, rfl, hK0 _ _ trivial ⟨h3, hPh.2.1.trans f3, hPh.2.2.kept hcl f3⟩ trivial⟩
  · intro ac w' hF hPh hT
    rw [hF.sets [5, 6, 7, 8, 9, 10, 11, 12] (by kernel_rfl)]
    simp only [List.foldl_cons, List.foldl_nil, List.setIfInBounds_toArray, List.set_cons_succ, List.set_cons_zero]
    generalize ac.eval (.tmp 5) = u5
    generalize ac.eval (.tmp 6) = u6
    generalize ac.eval (.tmp 7) = u7
    generalize ac.eval (.tmp 8) = u8
    generalize ac.eval (.tmp 9) = u9
    generalize ac.eval (.tmp 10) = u10
    generalize ac.eval (.tmp 11) = u11
    generalize ac.eval (.tmp 12) = u12
    clear  hT hF ac
    go_wp2
    go_end0
    exact ⟨rfl, hPh.1, hPh.2.1, hPh.2.2⟩
end Go.Proofs.YtfcocbgdmmeikaaGreatDoor
/-! ## Package redo: isRegion, Format. -/
namespace Go.Proofs.YtfcocbgdmmeikaaGreatDoor
open Go.RowKit Dsk

/-- Has a disk of N sectors the sectors of a region? -/
def regB (N : Nat) (base size : Int) : Bool := decide (0 ≤ base) && decide (4 ≤ size) && decide (size ≤ (N : Int) - base)
theorem isRegion_any (S : Nat → Prop) (p : Nat) (d : Dk) (base size : Int) (w : World) (h : DiskS S p d w) (hb1 : -9223372036854775808 ≤ base) (hb2 : base ≤ 9223372036854775807) :
    Calls Tryz.prog 47 #[.pointer (some ⟨p, 0, none⟩), .int .i64 base, .int .i64 size] w fun e w' => e = .returned (.bool (regB d.lies.length base size)) ∧ w = w' := by
  have hs := sectorsS S p d w h
  have hm := h.most
  unfold regB
  generalize d.lies.length = N at *
  by_cases h0 : 0 ≤ base
  · rw [decide_eq_true h0, Bool.true_and]
    by_cases h4 : 4 ≤ size
    · rw [decide_eq_true h4, Bool.true_and]
      go_enter Tryz.func47, Tryz.ntmps47
      go_wp2_with (go_at_call 59; refine hs.mono ?_; rintro e w1 ⟨rfl, rfl⟩)
      go_ret
      exact ⟨rfl, rfl⟩
    · rw [decide_eq_false h4, Bool.false_and]
      have h4' : decide (4 ≤ size) = false := decide_eq_false h4
      go_enter Tryz.func47, Tryz.ntmps47
      go_wp2
      go_ret
      exact ⟨rfl, rfl⟩
  · rw [decide_eq_false h0, Bool.false_and, Bool.false_and]
    have h0' : decide (0 ≤ base) = false := decide_eq_false h0
    go_enter Tryz.func47, Tryz.ntmps47
    go_wp2
    go_ret
    exact ⟨rfl, rfl⟩
theorem Format_bad (S : Nat → Prop) (p : Nat) (d : Dk) (base size : Int) (w : World) (h : DiskS S p d w) (hb1 : -9223372036854775808 ≤ base) (hb2 : base ≤ 9223372036854775807) (hr : regB d.lies.length base size = false) :
    Calls Tryz.prog 19 #[.pointer (some ⟨p, 0, none⟩), .int .i64 base, .int .i64 size] w fun e w' => e = .returned (.int .i64 1) ∧ w = w' := by
  have hi := isRegion_any S p d base size w h hb1 hb2
  rw [hr] at hi
  go_enter Tryz.func19, Tryz.ntmps19
  go_wp2_with (go_at_call 47; refine hi.mono ?_; rintro e w1 ⟨rfl, rfl⟩)
  go_ret
  exact ⟨rfl, rfl⟩
theorem geo_reg (G : Jnl.Geo) : regB G.N (G.base : Int) ((G.m + 1 : Nat) : Int) = true := by
  have h1 := G.h
  have h3 := G.m3
  unfold regB
  simp only [Bool.and_eq_true, decide_eq_true_eq]
  omega
set_option maxHeartbeats 1600000 in
set_option maxRecDepth 100000 in
theorem Format_ok (S : Nat → Prop) (p : Nat) (G : Jnl.Geo) (d : Dk) (w : World) (h : DiskS S p d w) (hu : Up S w) (_hS0 : ¬ S 0) (hT : TW w) (hN : d.lies.length = G.N) (hN2 : G.N ≤ 65536) (hb : Bd (d, true) 3) :
    Calls Tryz.prog 19 #[.pointer (some ⟨p, 0, none⟩), .int .i64 (G.base : Int), .int .i64 ((G.m + 1 : Nat) : Int)] w fun e w' => e = .returned (.int .i64 (eOf (gos (d, true) (Jnl.fmOps RL G)).2)) ∧ DiskS S p (gos (d, true) (Jnl.fmOps RL G)).1 w' ∧ FrL w.heap.size S w w' := by
  have e0 : Jnl.fmOps RL G = [.w G.base (hdL 0 1)] ++ ([.w (G.sl 0) zeroB] ++ [.f]) := rfl
  rw [e0, gos_append, gos_append]
  clear e0
  have hi := isRegion_any S p d (G.base : Int) ((G.m + 1 : Nat) : Int) w h (by omega) (by have := G.h; omega)
  rw [hN, geo_reg] at hi
  have h1 := G.h
  have h3 := G.m3
  have hsl : G.sl 0 = G.base + 1 := by unfold Jnl.Geo.sl; rw [Nat.zero_mod]
  rw [hsl]
  obtain ⟨pb, hpb⟩ : ∃ pb, pb = w.heap.size := ⟨_, rfl⟩
  obtain ⟨w1, hw1⟩ : ∃ w1, w1 = w.alloc (.cells #[.pointer (some ⟨p, 0, none⟩), .int .i64 0] 92) := ⟨_, rfl⟩
  have b1 : Below w.heap.size w w1 := by rw [hw1]; exact (Below.refl _ _).alloc (Nat.le_refl _) _
  have hsys : Sys S pb p 92 [] (d, true) w1 := by
    refine ⟨hu _ (by omega), h.old b1, ?_, by decide, by decide, by decide⟩
    rw [hw1, hpb]
    exact heap_alloc_last w _
  have u1 := hu.mono b1.size
  have t1 := hT.old b1
  have hz : (hdL 0 1).size = 256 := line_size (fits_two _ rfl (by omega) (by omega))
  have hd := fun u hT' => hdl_any 0 1 u hT' (by decide) (by decide) (by decide) (by decide)
  rw [show keptN 0 65535 = 0 from rfl, show keptN 1 1099511627776 = 1 from rfl] at hd
  have q1 := fun u (h' : Sys S pb p 92 [] (d, true) u) (hu' : Up S u) => pwrite_any S pb p _ _ (d, true) G.base (hdL 0 1) u h' hu' (by show G.base < d.lies.length; omega) hz (hb.mono (by omega))
  have B1 : Bd (gos (d, true) [.w G.base (hdL 0 1)]) 2 := Bd.gos (show Bd (d, true) (1 + 2) from hb)
  have N1 : (gos (d, true) [.w G.base (hdL 0 1)]).1.lies.length = G.N := (gos_len _ _).trans hN
  generalize gos (d, true) [.w G.base (hdL 0 1)] = x1 at *
  generalize hdL 0 1 = X at *
  have q2 := fun u (h' : Sys S pb p 92 [] x1 u) (hu' : Up S u) => pwrite_any S pb p _ _ x1 (G.base + 1) zeroB u h' hu' (by omega) zeroB_size (B1.mono (by omega))
  have B2 : Bd (gos x1 [.w (G.base + 1) zeroB]) 1 := Bd.gos (show Bd x1 (1 + 1) from B1)
  generalize gos x1 [.w (G.base + 1) zeroB] = x2 at *
  have q3 := fun u (h' : Sys S pb p 92 [] x2 u) (hu' : Up S u) => pflush_any S pb p _ _ x2 u h' hu' B2
  generalize gos x2 [.f] = x3 at *
  rw [show ((G.base + 1 : Nat) : Int) = (G.base : Int) + 1 by omega] at q2
  rw [← hpb]
  go_enter Tryz.func19, Tryz.ntmps19
  go_upto_region 4 with (go_at_call 47; refine hi.mono ?_; rintro e w0 ⟨rfl, rfl⟩)
  rw [← hw1, ← hpb]
  have HP := Lib.hid hpb
  clear hw1 hpb hi h hT hu
  go_upto_region 5 with (first
    | (go_at_call 7; refine (hd _ t1).mono ?_; rintro e w2 ⟨rfl, b2⟩; have s2 := hsys.old b2; have u2 := u1.mono b2.size)
    | (go_at_call 48; refine (q1 _ s2 u2).mono ?_; rintro e w3 ⟨rfl, s3, f3⟩))
  have u3 := u2.mono f3.size
  clear q1 hsys s2 u1 t1 hd
  go_upto_region 6 with (first
    | (go_at_call 49; refine (zerosR_any _).mono ?_; rintro e w4 ⟨rfl, b4⟩; have s4 := s3.old b4; have u4 := u3.mono b4.size)
    | (go_at_call 48; refine (q2 _ s4 u4).mono ?_; rintro e w5 ⟨rfl, s5, f5⟩))
  have u5 := u4.mono f5.size
  clear q2 s3 s4
  go_upto_region 7 with (go_at_call 50; refine (q3 _ s5 u5).mono ?_; rintro e w6 ⟨rfl, s6, f6⟩)
  clear q3 s5
  have c1 := s6.c1
  have HD := Lib.hid s6.disk
  clear s6
  obtain ⟨E, hE⟩ : ∃ E, E = eOf x3.2 := ⟨_, rfl⟩
  rw [← hE] at c1
  have HE := Lib.hid hE
  clear hE
  go_wp2
  go_ret
  rw [← HE.out]
  exact ⟨rfl, HD.out, ((((FrL.of_below b1).trans (FrL.of_below b2)).trans f3).trans (FrL.of_below b4)).trans (f5.trans f6)⟩
end Go.Proofs.YtfcocbgdmmeikaaGreatDoor
