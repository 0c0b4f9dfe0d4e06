/-
  Logs in a law: all that a law makes lies in blocks that were not there ahead of it.
-/
import Derived.Test.YteggaeopnljgnaaGreatDoorMRedE
namespace Go.Proofs.YteggaeopnljgnaaGreatDoor
open Go.RowKit Dsk

/-- All blocks from one on. -/
def Hi (B : Nat) : Nat → Prop := fun k => B ≤ k
theorem hi_up {B : Nat} {u : World} (h : B ≤ u.heap.size) : Up (Hi B) u := fun _ hk => Nat.le_trans h hk
theorem hi_zero {B : Nat} (h : 0 < B) : ¬ Hi B 0 := fun h' => by unfold Hi at h'; omega
theorem FrL.hi {b B : Nat} {w w' : World} (h : FrL b (Hi B) w w') (hB : B ≤ w.heap.size) : Below B w w' := h.below hB fun _ hk => hk
/-- A disk of N sectors, with room for many steps. -/
structure Fine (N k : Nat) (d : Dk) : Prop where
  len : d.lies.length = N
  sz : Sz d
  steps : d.steps ≤ k
  cache : d.cache.length ≤ k
theorem Fine.mono {N k k' : Nat} {d : Dk} (h : Fine N k d) (hk : k ≤ k') : Fine N k' d := ⟨h.len, h.sz, Nat.le_trans h.steps hk, Nat.le_trans h.cache hk⟩
theorem Fine.crash {N k : Nat} {d : Dk} (h : Fine N k d) (pick : Nat → Bool) : Fine N k (Dsk.crash d pick) := ⟨by rw [Jnl.crash_len]; exact h.len, h.sz.crash _, h.steps, Nat.zero_le _⟩
theorem Fine.arm {N k : Nat} {d : Dk} (h : Fine N k d) (n : Nat) : Fine N k (Dsk.arm d n) := by
  refine ⟨?_, h.sz.arm n, ?_, ?_⟩
  · unfold Dsk.arm; split <;> exact h.len
  · unfold Dsk.arm; split <;> exact h.steps
  · unfold Dsk.arm; split <;> exact h.cache
theorem Fine.new (N : Nat) : Fine N 0 (Dsk.new N) := ⟨List.length_replicate, Sz.new N, Nat.le_refl _, Nat.le_refl _⟩
/-- A disk on which all lies, which is a journal. -/
structure Flat (G : Jnl.Geo) (S : Jnl.Im) (q k : Nat) (d : Dk) : Prop where
  fine : Fine G.N k d
  on : d.on = true
  cache : d.cache = []
  good : Jnl.IsGood RL G (imOf d) S q
theorem Flat.mono {G : Jnl.Geo} {S : Jnl.Im} {q k k' : Nat} {d : Dk} (h : Flat G S q k d) (hk : k ≤ k') : Flat G S q k' d := ⟨h.fine.mono hk, h.on, h.cache, h.good⟩
theorem Flat.arm {G : Jnl.Geo} {S : Jnl.Im} {q k : Nat} {d : Dk} (h : Flat G S q k d) (n : Nat) : Flat G S q k (Dsk.arm d n) := by
  refine ⟨h.fine.arm n, ?_, ?_, ?_⟩
  · unfold Dsk.arm; split <;> exact h.on
  · unfold Dsk.arm; split <;> exact h.cache
  · have : imOf (Dsk.arm d n) = imOf d := by unfold imOf Dsk.arm; split <;> rfl
    rw [this]; exact h.good
theorem Flat.crash {P : Jnl.Im → Prop} {d : Dk} {N k : Nat} (h : Jnl.Safe P d) (hf : Fine N k d) (pick : Nat → Bool) (hN : 0 < N) : P (imOf (Dsk.crash d pick)) ∧ Fine N k (Dsk.crash d pick) ∧ (Dsk.crash d pick).on = true ∧ (Dsk.crash d pick).cache = [] ∧ (Dsk.crash d pick).armed = false :=
  ⟨h.crash pick, hf.crash pick, by show decide (0 < d.lies.length) = true; rw [hf.len]; exact decide_eq_true hN, rfl, rfl⟩
/-- A disk that is new. -/
theorem new_hi (N B : Nat) (w : World) (h1 : 1 ≤ N) (hn : N ≤ 65536) (hB : B ≤ w.heap.size) (z : Int) (hz : z = (N : Int)) :
    Calls Tryz.prog 19 #[.int .i64 z] w fun e w' => ∃ p, e = .returned (.pointer (some ⟨p, 0, none⟩)) ∧ Below B w w' ∧ DiskS (Hi B) p (Dsk.new N) w' := by
  subst hz
  exact (newIn N w B h1 hn hB).mono fun e w' ⟨p, he, h0, b0⟩ => ⟨p, he, b0.mono hB, h0⟩
theorem format_hi (B p : Nat) (G : Jnl.Geo) (u : World) (h : DiskS (Hi B) p (Dsk.new G.N) u) (hB : B ≤ u.heap.size) (h0 : 0 < B) (hT : TW u) (_hN : 1 ≤ G.N) (hN2 : G.N ≤ 1000) (z y : Int) (hz : z = (G.base : Int)) (hy : y = ((G.m + 1 : Nat) : Int)) :
    Calls Tryz.prog 20 #[.pointer (some ⟨p, 0, none⟩), .int .i64 z, .int .i64 y] u fun e w' => ∃ d', e = .returned (.int .i64 0) ∧ Below B u w' ∧ DiskS (Hi B) p d' w' ∧ Flat G (imOf (Dsk.new G.N)) 1 3 d' ∧ d'.armed = false := by
  subst hz
  subst hy
  have hf := Fine.new G.N
  exact (Format_law (Hi B) p G (Dsk.new G.N) u h (hi_up hB) (hi_zero h0) hT hf.len hN2 rfl rfl rfl hf.sz (by unfold Bd; exact ⟨by show 0 + 3 ≤ _; decide, by show 0 + 3 ≤ _; decide⟩)).mono fun e w' ⟨d', he, hD, hF, z', l', s', o', a', c', g'⟩ => ⟨d', he, hF.hi hB, hD, ⟨⟨l', z', by have : (Dsk.new G.N).steps = 0 := rfl; omega, by rw [c']; exact Nat.zero_le _⟩, o', c', g'⟩, a'⟩
theorem open_hi (B p : Nat) (G : Jnl.Geo) (d : Dk) (S : Jnl.Im) (q k : Nat) (u : World) (h : DiskS (Hi B) p d u) (hB : B ≤ u.heap.size) (h0 : 0 < B) (hT : TW u) (hN2 : G.N ≤ 1000) (hf : Flat G S q k d) (hq : q ≤ 549755813888) (hk : k ≤ 800000) (z y : Int) (hz : z = (G.base : Int)) (hy : y = ((G.m + 1 : Nat) : Int)) :
    Calls Tryz.prog 21 #[.pointer (some ⟨p, 0, none⟩), .int .i64 z, .int .i64 y] u fun e w' => ∃ l x, Below B u w' ∧ e = .returned (.tuple #[if x.2 then .pointer (some ⟨l, 0, none⟩) else .pointer none, .int .i64 (eOf x.2)]) ∧ DiskS (Hi B) p x.1 w' ∧ Fine G.N (k + 2000) x.1 ∧ Left (fun L => Jnl.IsGood RL G L S q) (fun d' => LG (Hi B) l p G d' S q 0 w' ∧ d'.cache = []) x ∧ (d.armed = false → x.2 = true ∧ x.1.armed = false) := by
  subst hz
  subst hy
  have hs := hf.fine.steps
  have hc := hf.fine.cache
  refine (Open_lawc (Hi B) p G d S q u h (hi_up hB) (hi_zero h0) hT hf.fine.len hN2 hf.on hf.cache hf.fine.sz hf.good hq ⟨by show d.steps + 2000 ≤ _; omega, by show d.cache.length + 2000 ≤ _; rw [hf.cache]; decide⟩).mono fun e w' ⟨l, x, hl, hF, he, hD, z', l', s', c', hL, ha⟩ => ⟨l, x, hF.hi hB, he, hD, ⟨l', z', by omega, by omega⟩, hL, ha⟩
/-- Opened where nothing is armed. -/
theorem open_free (B p : Nat) (G : Jnl.Geo) (d : Dk) (S : Jnl.Im) (q k : Nat) (u : World) (h : DiskS (Hi B) p d u) (hB : B ≤ u.heap.size) (h0 : 0 < B) (hT : TW u) (hN2 : G.N ≤ 1000) (hf : Flat G S q k d) (hq : q ≤ 549755813888) (hk : k ≤ 800000) (ha : d.armed = false) (z y : Int) (hz : z = (G.base : Int)) (hy : y = ((G.m + 1 : Nat) : Int)) :
    Calls Tryz.prog 21 #[.pointer (some ⟨p, 0, none⟩), .int .i64 z, .int .i64 y] u fun e w' => ∃ l d', e = .returned (.tuple #[.pointer (some ⟨l, 0, none⟩), .int .i64 0]) ∧ Below B u w' ∧ LG (Hi B) l p G d' S q 0 w' ∧ Fine G.N (k + 2000) d' ∧ d'.cache = [] ∧ d'.armed = false :=
  (open_hi B p G d S q k u h hB h0 hT hN2 hf hq hk z y hz hy).mono fun e w' ⟨l, x, hb, he, hD, hF, hL, hr⟩ => ⟨l, x.1, by rw [he, (hr ha).1, if_pos rfl]; rfl, hb, (hL.all (hr ha).1).1, hF, (hL.all (hr ha).1).2, (hr ha).2⟩
/-- A commit of writes that lie in a block of their own, which is younger than the log. -/
theorem commit_hi (B l p : Nat) (G : Jnl.Geo) (d : Dk) (S : Jnl.Im) (q u k : Nat) (v : Value) (t : Jnl.Txn) (g : Nat) (w0 w : World) (h : LG (Hi B) l p G d S q u w0) (hb : Below w0.heap.size w0 w) (hB : B ≤ w0.heap.size) (hg : w0.heap.size ≤ g) (h0 : 0 < B) (hT : TW w) (hv : PutsR w v (zT t) g)
    (hN2 : G.N ≤ 1000) (hf : Fine G.N k d) (hk : k ≤ 800000) (hq : q ≤ 549755813888) (h1 : 1 ≤ t.length) (hr : t.length ≤ roomN G) (ht : ∀ y ∈ t, G.Data y.1 ∧ y.2.size = 256) :
    Calls Tryz.prog 29 #[.pointer (some ⟨l, 0, none⟩), v] w fun e w' => ∃ x : Dk × Bool, e = .returned (.int .i64 (eOf x.2)) ∧ Below B w w' ∧ PutsR w' v (zT t) g ∧ DiskS (Hi B) p x.1 w' ∧ Fine G.N (k + 203) x.1 ∧
      Left (fun L => Jnl.IsGood RL G L S q ∨ Jnl.IsGood RL G L (fun a => Jnl.after t a (S a)) (q + 1)) (fun d' => LG (Hi B) l p G d' (fun a => Jnl.after t a (S a)) (q + 1) (uAfter G.m u t.length) w') x ∧ (x.2 = false → ∃ pl sq us, LogS (Hi B) l p G pl sq us x w') ∧ (d.armed = false → x.2 = true ∧ x.1.armed = false) := by
  have hl := (h.mono (Sy' := fun i => Hi B i ∧ i ≠ g) fun i hi hs => ⟨hs, by omega⟩).old hb
  have hs := hf.steps
  have hc := hf.cache
  have hBw : B ≤ w.heap.size := Nat.le_trans hB hb.size
  by_cases hgw : g < w.heap.size
  · refine (Commit_law (fun i => Hi B i ∧ i ≠ g) l p G d S q u v t g w hl (fun i hi => ⟨Nat.le_trans hBw hi, by omega⟩) (fun hh => hi_zero h0 hh.1) hT hv (fun _ hh => hh.2 rfl) hN2 hf.sz hq h1 hr ht ⟨by show d.steps + 203 ≤ _; omega, by show d.cache.length + 203 ≤ _; omega⟩).mono fun e w' ⟨x, he, hF, hD, z', l', s', c', hL, hn, ha⟩ => ⟨x, he, hF.below hBw fun i hi => hi.1, hv.kept fun hg' => ⟨Nat.lt_of_lt_of_le hg' hF.size, hF.fr.block g hg' fun hh => hh.2 rfl⟩, hD.mono fun i _ hi => hi.1, ⟨l', z', by omega, by omega⟩, ⟨hL.on, hL.safe, fun e => (hL.all e).mono fun i _ hi => hi.1⟩, fun e => ?_, ha⟩
    obtain ⟨pl, sq, us, hh⟩ := hn e
    exact ⟨pl, sq, us, hh.mono fun i _ hi => hi.1⟩
  · exfalso
    obtain ⟨a, cap, _, _, hc⟩ := hv
    obtain ⟨off, _, hlt, _⟩ := hc (fun e => by have := congrArg List.length e; rw [zT_len, List.length_nil] at this; omega)
    exact hgw hlt
/-- A commit of one write in a block of its own. -/
theorem commit_1 (B l p : Nat) (G : Jnl.Geo) (d : Dk) (S : Jnl.Im) (q u k : Nat) (a : Nat) (X : ByteArray) (w0 : World) (h : LG (Hi B) l p G d S q u w0) (hB : B ≤ w0.heap.size) (h0 : 0 < B) (hT : TW w0)
    (hN2 : G.N ≤ 1000) (hf : Fine G.N k d) (hk : k ≤ 800000) (hq : q ≤ 549755813888) (hr : 1 ≤ roomN G) (ha : G.Data a) (hX : X.size = 256) (har : d.armed = false) :
    Calls Tryz.prog 29 #[.pointer (some ⟨l, 0, none⟩), .slice (some ⟨w0.heap.size, 0, none⟩) 1 1] (w0.alloc (.cells #[.int .i64 (a : Int), .string X] 64)) fun e w' => ∃ d', e = .returned (.int .i64 0) ∧ Below B w0 w' ∧ LG (Hi B) l p G d' (fun b => Jnl.after [(a, X)] b (S b)) (q + 1) (uAfter G.m u 1) w' ∧ Fine G.N (k + 203) d' ∧ d'.armed = false := by
  have hb1 : Below w0.heap.size w0 (w0.alloc (.cells #[.int .i64 (a : Int), .string X] 64)) := (Below.refl _ _).alloc (Nat.le_refl _) _
  refine (commit_hi B l p G d S q u k _ [(a, X)] w0.heap.size w0 _ h hb1 hB (Nat.le_refl _) h0 (hT.alloc _) (puts_one w0 a X) hN2 hf hk hq (Nat.le_refl 1) hr (fun y hy => ?_)).mono fun e w' ⟨x, he, hb, _, hD, hF, hL, _, hr⟩ => ⟨x.1, by rw [he, (hr har).1]; rfl, (hb1.mono hB).trans hb, hL.all (hr har).1, hF, (hr har).2⟩
  rw [List.mem_singleton] at hy
  subst hy
  exact ⟨ha, hX⟩
theorem crash_hi (B p : Nat) (d : Dk) (u : World) (h : DiskS (Hi B) p d u) (hB : B ≤ u.heap.size) (v : Value) (ps : List Int) (b : Nat) (hps : Ints u v ps b) (hb : b < u.heap.size → b < B) :
    Calls Tryz.prog 24 #[.pointer (some ⟨p, 0, none⟩), v] u fun e w' => e = .returned (.tuple #[]) ∧ Below B u w' ∧ DiskS (Hi B) p (Dsk.crash d (odd ps)) w' :=
  (crashS (Hi B) p d u h v ps b hps fun hlt hh => by have := hb hlt; unfold Hi at hh; omega).mono fun e w' ⟨he, hD, hF⟩ => ⟨he, (hF 0).hi hB, hD⟩
/-- Bytes 0 are no line. -/
theorem fill_ne (x : ByteArray) : fillS (sealB x) ≠ zeroB := by
  obtain ⟨T, hT⟩ : ∃ T, T = sealB x := ⟨_, rfl⟩
  have hs : 4 ≤ T.size := by rw [hT, sealB_size]; omega
  rw [← hT]
  intro e
  by_cases h : (textB T).size ≤ 256
  · have hd := fill_data T h
    have hsz : T.size ≤ 256 := by rw [textB_size] at h; omega
    rw [e] at hd
    have h0 := congrArg (fun l => l.headD 1) hd
    have hz : zeroB.data.toList = 0 :: List.replicate 255 0 := rfl
    rw [hz] at h0
    unfold txtL Oct.putL at h0
    simp only [List.headD_cons, List.cons_append] at h0
    have h1 := Oct.need_byte T.size (by omega)
    rw [← h0] at h1
    have h2 := Oct.need_pos T.size (by omega) (by omega)
    have : (0 : UInt8).toNat = 0 := rfl
    omega
  · have : (fillS T).size = 0 := by unfold fillS; rw [if_neg h]; rfl
    rw [e, zeroB_size] at this
    cases this
theorem text_zero {mark : List UInt8} (hm : mark ≠ []) : textOf zeroB mark = none := by
  cases h : textOf zeroB mark with
  | none => rfl
  | some r => exact absurd (textOf_inv hm h).1.symm (fill_ne _)
theorem hOk_zero (m : Nat) : hOk zeroB m = false := by
  cases h : hOk zeroB m with
  | false => rfl
  | true =>
    unfold hOk at h
    rw [Bool.and_eq_true, decide_eq_true_eq, decide_eq_true_eq] at h
    have h1 := (endV_iff _).1 h.1
    unfold hE at h1
    obtain ⟨r1, e1⟩ := numS_none h1
    obtain ⟨r2, e2⟩ := numS_none e1
    rw [text_zero (by decide)] at e2
    cases e2
theorem new_lies (N a : Nat) (h : a < N) : imOf (Dsk.new N) a = zeroB := by
  show ((List.replicate N zeroB).getD a .empty) = zeroB
  rw [List.getD_eq_getElem?_getD, List.getElem?_replicate, if_pos h]
  rfl
theorem new_read (N a : Nat) (h : a < N) : Dsk.read (Dsk.new N) a = zeroB := new_lies N a h
/-- Opened of a disk that is new. -/
theorem open_new (B p : Nat) (G : Jnl.Geo) (u : World) (h : DiskS (Hi B) p (Dsk.new G.N) u) (_hB : B ≤ u.heap.size) (hT : TW u) (hN2 : G.N ≤ 1000) (z y : Int) (hz : z = (G.base : Int)) (hy : y = ((G.m + 1 : Nat) : Int)) :
    Calls Tryz.prog 21 #[.pointer (some ⟨p, 0, none⟩), .int .i64 z, .int .i64 y] u fun e w' => e = .returned (.tuple #[.pointer none, .int .i64 10]) ∧ Below u.heap.size u w' := by
  subst hz
  subst hy
  have hG := G.h
  have hr := new_read G.N G.base (by omega)
  exact Open_form (Hi B) p G (Dsk.new G.N) u h hT (Fine.new G.N).len (by omega) rfl (by rw [hr, zeroB_size]; decide) (by rw [hr]; exact hOk_zero _)
end Go.Proofs.YteggaeopnljgnaaGreatDoor
