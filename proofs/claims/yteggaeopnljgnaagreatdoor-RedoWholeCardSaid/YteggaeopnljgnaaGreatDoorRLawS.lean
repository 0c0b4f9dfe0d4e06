/-
  Logs in a law that holds other blocks besides: any set of blocks.
-/
import Derived.Test.YteggaeopnljgnaaGreatDoorRCkp
namespace Go.Proofs.YteggaeopnljgnaaGreatDoor
open Go.RowKit Dsk

theorem Sys.keep {S : Nat → Prop} {b p : Nat} {T : TypeId} {rest : List Value} {x : Dk × Bool} {w w' : World} (h : Sys S b p T rest x w) (hk : ∀ k, k < w.heap.size → S k → w'.heap[k]? = w.heap[k]?) : Sys S b p T rest x w' := by
  obtain ⟨h1, bl, cv, h2, h3, h4⟩ := h.disk
  refine ⟨h.sb, ⟨h1, bl, cv, h2, h3, h4.kept fun k hlt hf => hk k hlt ?_⟩, (hk b h.lt h.sb).trans h.pen, h.t1, h.t2, h.t3⟩
  rcases hf with rfl | rfl | hf
  · exact h1
  · exact h2
  · exact h3 k hf
/-- What turns beside a log's own blocks is nothing to it. -/
theorem LG.fr {Sy F : Nat → Prop} {l p : Nat} {G : Jnl.Geo} {d : Dk} {S : Jnl.Im} {q u : Nat} {w w' : World} (h : LG Sy l p G d S q u w) (hf : Fr F w w') (hd : ∀ k, Sy k → ¬ F k) : LG Sy l p G d S q u w' := by
  obtain ⟨place, h1, h2⟩ := h
  exact ⟨place, h1, h2.keep fun k hlt hs => hf.block k hlt (hd k hs)⟩
theorem LG.lt {Sy : Nat → Prop} {l p : Nat} {G : Jnl.Geo} {d : Dk} {S : Jnl.Im} {q u : Nat} {w : World} (h : LG Sy l p G d S q u w) : l < w.heap.size := by
  obtain ⟨_, _, h2⟩ := h
  exact h2.lt
/-- Opened. -/
theorem open_s (Sy : Nat → Prop) (p : Nat) (G : Jnl.Geo) (d : Dk) (S : Jnl.Im) (q k : Nat) (u : World) (h : DiskS Sy p d u) (hu : Up Sy u) (h0 : ¬ Sy 0) (hT : TW u) (hN2 : G.N ≤ 1000) (hf : Flat G S q k d) (hq : q ≤ 549755813888) (hk : k ≤ 800000) (z y : Int) (hz : z = (G.base : Int)) (hy : y = ((G.m + 1 : Nat) : Int)) :
    Calls Tryz.prog 21 #[.pointer (some ⟨p, 0, none⟩), .int .i64 z, .int .i64 y] u fun e w' => ∃ l x, u.heap.size ≤ l ∧ FrL l Sy u w' ∧ e = .returned (.tuple #[if x.2 then .pointer (some ⟨l, 0, none⟩) else .pointer none, .int .i64 (eOf x.2)]) ∧ DiskS Sy p x.1 w' ∧ Fine G.N (k + 2000) x.1 ∧ Left (fun L => Jnl.IsGood RL G L S q) (fun d' => LG Sy l p G d' S q 0 w' ∧ d'.cache = []) x ∧ (d.armed = false → x.2 = true ∧ x.1.armed = false) := by
  subst hz
  subst hy
  have hs := hf.fine.steps
  have hc := hf.fine.cache
  refine (Open_lawc Sy p G d S q u h hu h0 hT hf.fine.len hN2 hf.on hf.cache hf.fine.sz hf.good hq ⟨by show d.steps + 2000 ≤ _; omega, by show d.cache.length + 2000 ≤ _; rw [hf.cache]; decide⟩).mono fun e w' ⟨l, x, hl, hF, he, hD, z', l', s', c', hL, ha⟩ => ⟨l, x, hl, hF, he, hD, ⟨l', z', by omega, by omega⟩, hL, ha⟩
/-- Opened where nothing is armed. -/
theorem open_sf (Sy : Nat → Prop) (p : Nat) (G : Jnl.Geo) (d : Dk) (S : Jnl.Im) (q k : Nat) (u : World) (h : DiskS Sy p d u) (hu : Up Sy u) (h0 : ¬ Sy 0) (hT : TW u) (hN2 : G.N ≤ 1000) (hf : Flat G S q k d) (hq : q ≤ 549755813888) (hk : k ≤ 800000) (ha : d.armed = false) (z y : Int) (hz : z = (G.base : Int)) (hy : y = ((G.m + 1 : Nat) : Int)) :
    Calls Tryz.prog 21 #[.pointer (some ⟨p, 0, none⟩), .int .i64 z, .int .i64 y] u fun e w' => ∃ l d', e = .returned (.tuple #[.pointer (some ⟨l, 0, none⟩), .int .i64 0]) ∧ u.heap.size ≤ l ∧ FrL l Sy u w' ∧ LG Sy l p G d' S q 0 w' ∧ Fine G.N (k + 2000) d' ∧ d'.cache = [] ∧ d'.armed = false :=
  (open_s Sy p G d S q k u h hu h0 hT hN2 hf hq hk z y hz hy).mono fun e w' ⟨l, x, hl, hb, he, hD, hF, hL, hr⟩ => ⟨l, x.1, by rw [he, (hr ha).1, if_pos rfl]; rfl, hl, hb, (hL.all (hr ha).1).1, hF, (hL.all (hr ha).1).2, (hr ha).2⟩
/-- A commit. -/
theorem commit_t (Sy : Nat → Prop) (l p : Nat) (G : Jnl.Geo) (d : Dk) (S : Jnl.Im) (q u k : Nat) (v : Value) (t : Jnl.Txn) (g : Nat) (w : World) (h : LG Sy l p G d S q u w) (hu : Up Sy w) (h0 : ¬ Sy 0) (hT : TW w) (hv : PutsR w v (zT t) g) (hg : g < w.heap.size → ¬ Sy g)
    (hN2 : G.N ≤ 1000) (hf : Fine G.N k d) (hk : k ≤ 800000) (hq : q ≤ 549755813888) (h1 : 1 ≤ t.length) (hr : t.length ≤ roomN G) (ht : ∀ y ∈ t, G.Data y.1 ∧ y.2.size = 256) :
    Calls Tryz.prog 29 #[.pointer (some ⟨l, 0, none⟩), v] w fun e w' => ∃ x : Dk × Bool, e = .returned (.int .i64 (eOf x.2)) ∧ FrL l Sy w w' ∧ PutsR w' v (zT t) g ∧ DiskS Sy p x.1 w' ∧ Fine G.N (k + 203) x.1 ∧
      Left (fun L => Jnl.IsGood RL G L S q ∨ Jnl.IsGood RL G L (fun a => Jnl.after t a (S a)) (q + 1)) (fun d' => LG Sy l p G d' (fun a => Jnl.after t a (S a)) (q + 1) (uAfter G.m u t.length) w') x ∧ (x.2 = false → ∃ pl sq us, LogS Sy l p G pl sq us x w') ∧ (d.armed = false → x.2 = true ∧ x.1.armed = false) := by
  have hs := hf.steps
  have hc := hf.cache
  exact (Commit_law Sy l p G d S q u v t g w h hu h0 hT hv hg hN2 hf.sz hq h1 hr ht ⟨by show d.steps + 203 ≤ _; omega, by show d.cache.length + 203 ≤ _; omega⟩).mono fun e w' ⟨x, he, hF, hD, z', l', s', c', hL, hn, ha⟩ => ⟨x, he, hF, hv.kept fun hg' => ⟨Nat.lt_of_lt_of_le hg' hF.size, hF.fr.block g hg' (hg hg')⟩, hD, ⟨l', z', by omega, by omega⟩, hL, hn, ha⟩
/-- A commit of one write in a block of its own, where nothing is armed. -/
theorem commit_s (Sy : Nat → Prop) (l p : Nat) (G : Jnl.Geo) (d : Dk) (S : Jnl.Im) (q u k : Nat) (a : Nat) (X : ByteArray) (w0 : World) (h : LG Sy l p G d S q u w0) (hu : Up Sy w0) (h0 : ¬ Sy 0) (hT : TW w0)
    (hN2 : G.N ≤ 1000) (hf : Fine G.N k d) (hk : k ≤ 800000) (hq : q ≤ 549755813888) (hr : 1 ≤ roomN G) (ha : G.Data a) (hX : X.size = 256) (har : d.armed = false) :
    Calls Tryz.prog 29 #[.pointer (some ⟨l, 0, none⟩), .slice (some ⟨w0.heap.size, 0, none⟩) 1 1] (w0.alloc (.cells #[.int .i64 (a : Int), .string X] 64)) fun e w' => ∃ d', e = .returned (.int .i64 0) ∧ FrL l Sy w0 w' ∧ LG Sy l p G d' (fun b => Jnl.after [(a, X)] b (S b)) (q + 1) (uAfter G.m u 1) w' ∧ Fine G.N (k + 203) d' ∧ d'.armed = false := by
  have hb1 : Below w0.heap.size w0 (w0.alloc (.cells #[.int .i64 (a : Int), .string X] 64)) := (Below.refl _ _).alloc (Nat.le_refl _) _
  have hsz : (w0.alloc (.cells #[.int .i64 (a : Int), .string X] 64)).heap.size = w0.heap.size + 1 := World.size_alloc _ _
  have hl := (h.mono (Sy' := fun i => Sy i ∧ i ≠ w0.heap.size) fun i hi hs => ⟨hs, by omega⟩).old hb1
  refine (commit_t (fun i => Sy i ∧ i ≠ w0.heap.size) l p G d S q u k _ [(a, X)] w0.heap.size _ hl (fun i hi => ⟨hu i (by omega), by omega⟩) (fun hh => h0 hh.1) (hT.alloc _) (puts_one w0 a X) (fun _ hh => hh.2 rfl) hN2 hf hk hq (Nat.le_refl 1) hr (fun y hy => ?_)).mono fun e w' ⟨x, he, hF, _, hD, hf', hL, _, hr⟩ => ⟨x.1, by rw [he, (hr har).1]; rfl, (FrL.of_below hb1).trans (hF.mono fun i _ hi => hi.1), (hL.all (hr har).1).mono fun i _ hi => hi.1, hf', (hr har).2⟩
  rw [List.mem_singleton] at hy
  subst hy
  exact ⟨ha, hX⟩
end Go.Proofs.YteggaeopnljgnaaGreatDoor
