/-
  What the theorem of the journal wants besides: power that goes behind some steps, a log that broke, a step's picks.
-/
import Derived.Test.YteggaeopnljgnaaGreatDoorRLawS
import Derived.Test.YteggaeopnljgnaaGreatDoorMArg
import Derived.Test.YteggaeopnljgnaaGreatDoorRState
namespace Go.Proofs.YteggaeopnljgnaaGreatDoor
open Go.RowKit Dsk

theorem arm_read (d : Dk) (n a : Nat) : Dsk.read (Dsk.arm d n) a = Dsk.read d a := by unfold Dsk.arm; split <;> rfl
theorem arm_poss (d : Dk) (n a : Nat) (v : ByteArray) : Jnl.Poss (Dsk.arm d n) a v ↔ Jnl.Poss d a v := by unfold Dsk.arm; split <;> exact Iff.rfl
theorem arm_len (d : Dk) (n : Nat) : (Dsk.arm d n).lies.length = d.lies.length := by unfold Dsk.arm; split <;> rfl
theorem arm_on (d : Dk) (n : Nat) : (Dsk.arm d n).on = d.on := by unfold Dsk.arm; split <;> rfl
theorem LogA.arm {G : Jnl.Geo} {d : Dk} {S : Jnl.Im} {q u place : Nat} (h : LogA G d S q u place) (n : Nat) : LogA G (Dsk.arm d n) S q u place := by
  obtain ⟨hon, p, s, txs, ⟨h1, h2⟩, h3, h4⟩ := h
  refine ⟨(arm_on d n).trans hon, p, s, txs, ⟨(arm_len d n).trans h1, ?_⟩, h3, h4⟩
  exact h2.mono (fun a _ v hv => (arm_poss d n a v).1 hv) (fun a _ => arm_read d n a)
theorem safe_arm {P : Jnl.Im → Prop} {d : Dk} (h : Jnl.Safe P d) (n : Nat) : Jnl.Safe P (Dsk.arm d n) := fun L hL => h L fun a ha => (arm_poss d n a _).1 (hL a (by rw [arm_len]; exact ha))
/-- Power is to go behind some steps. -/
theorem armS (Sy : Nat → Prop) (p : Nat) (d : Dk) (n : Int) (w : World) (h : DiskS Sy p d w) (hn : n ≤ 9223372036854775807) :
    Calls Tryz.prog 23 #[.pointer (some ⟨p, 0, none⟩), .int .i64 n] w fun e w' => e = .returned (.tuple #[]) ∧ DiskS Sy p (Dsk.arm d n.toNat) w' ∧ Only p w w' := by
  obtain ⟨h1, bl, cv, h2, h3, h4⟩ := h
  exact (arm_any p bl cv d n w h4 hn).mono fun e w' ⟨he, hd, ho⟩ => ⟨he, ⟨h1, bl, cv, h2, h3, hd⟩, ho⟩
theorem Sys.turn {S : Nat → Prop} {b p : Nat} {T : TypeId} {rest : List Value} {x : Dk × Bool} {w w' : World} (h : Sys S b p T rest x w) {d' : Dk} (hd : DiskS S p d' w') (hp : w'.heap[b]? = w.heap[b]?) : Sys S b p T rest (d', x.2) w' :=
  ⟨h.sb, hd, hp.trans h.pen, h.t1, h.t2, h.t3⟩
/-- The disk's own block is not the log's. -/
theorem Sys.apart {S : Nat → Prop} {b p : Nat} {T : TypeId} {rest : List Value} {x : Dk × Bool} {w : World} (h : Sys S b p T rest x w) : b ≠ p := by
  rintro rfl
  obtain ⟨_, _, _, _, _, h4⟩ := h.disk
  have := h4.head
  rw [h.pen] at this
  simp at this
  exact h.t1 this.2
/-- A log that is open, and power that is to go. -/
theorem arm_log (Sy : Nat → Prop) (l p : Nat) (G : Jnl.Geo) (d : Dk) (S : Jnl.Im) (q u : Nat) (n : Int) (w : World) (h : LG Sy l p G d S q u w) (hn : n ≤ 9223372036854775807) :
    Calls Tryz.prog 23 #[.pointer (some ⟨p, 0, none⟩), .int .i64 n] w fun e w' => e = .returned (.tuple #[]) ∧ LG Sy l p G (Dsk.arm d n.toNat) S q u w' ∧ Only p w w' ∧ Sy p := by
  obtain ⟨place, hA, hL⟩ := h
  have hs : Sy p := hL.disk.1
  exact (armS Sy p d n w hL.disk hn).mono fun e w' ⟨he, hd, ho⟩ => ⟨he, ⟨place, hA.arm _, hL.turn hd (ho.block l hL.lt hL.apart)⟩, ho, hs⟩
/-- A log that broke, and power that is to go: nothing is. -/
theorem arm_off (Sy : Nat → Prop) (l p : Nat) (G : Jnl.Geo) (pl sq us : Nat) (d : Dk) (n : Int) (w : World) (h : LogS Sy l p G pl sq us (d, false) w) (hoff : d.on = false) (hn : n ≤ 9223372036854775807) :
    Calls Tryz.prog 23 #[.pointer (some ⟨p, 0, none⟩), .int .i64 n] w fun e w' => e = .returned (.tuple #[]) ∧ LogS Sy l p G pl sq us (d, false) w' ∧ Only p w w' ∧ Sy p := by
  have hs : Sy p := h.disk.1
  refine (armS Sy p d n w h.disk hn).mono fun e w' ⟨he, hd, ho⟩ => ⟨he, ?_, ho, hs⟩
  have e1 : Dsk.arm d n.toNat = d := by unfold Dsk.arm; rw [hoff]; rfl
  rw [e1] at hd
  exact h.turn hd (ho.block l h.lt h.apart)
/-- A checkpoint of a log that is open. -/
theorem checkpoint_t (Sy : Nat → Prop) (l p : Nat) (G : Jnl.Geo) (d : Dk) (S : Jnl.Im) (q u k : Nat) (w : World) (h : LG Sy l p G d S q u w) (hu0 : Up Sy w) (h0 : ¬ Sy 0) (hT : TW w)
    (hN2 : G.N ≤ 1000) (hf : Fine G.N k d) (hk : k ≤ 800000) (hq : q ≤ 549755813888) :
    Calls Tryz.prog 22 #[.pointer (some ⟨l, 0, none⟩)] w fun e w' => ∃ x : Dk × Bool, e = .returned (.int .i64 (eOf x.2)) ∧ FrL l Sy w w' ∧ DiskS Sy p x.1 w' ∧ Fine G.N (k + 3) x.1 ∧
      Left (fun L => Jnl.IsGood RL G L S q) (fun d' => LG Sy l p G d' S q 0 w') x ∧ (x.2 = false → ∃ pl sq us, LogS Sy l p G pl sq us x w') ∧ (d.armed = false → x.2 = true ∧ x.1.armed = false) := by
  obtain ⟨place, hA, hL⟩ := h
  have hN := hA.len
  have hs := hf.steps
  have hc := hf.cache
  have key : Calls Tryz.prog 22 #[.pointer (some ⟨l, 0, none⟩)] w fun e w' => ∃ r, e = .returned (.int .i64 r) ∧ ∃ x : Dk × Bool, r = eOf x.2 ∧ FrL l Sy w w' ∧ DiskS Sy p x.1 w' ∧ Fine G.N (k + 3) x.1 ∧
      Left (fun L => Jnl.IsGood RL G L S q) (fun d' => LG Sy l p G d' S q 0 w') x ∧ (x.2 = false → ∃ pl sq us, LogS Sy l p G pl sq us x w') ∧ (d.armed = false → x.2 = true ∧ x.1.armed = false) := by
    refine Checkpoint_walk (some ⟨l, 0, none⟩) w _ fun fb u' hfb hb hf' => ?_
    have hL' := hL.old hb
    have hf0 : FrL l Sy w u' := FrL.of_below hb
    have hBu : Up Sy u' := hu0.mono hb.size
    by_cases hu : u = 0
    · subst hu
      refine goOn2 _ _ _ _ fb u' (fun k v => k ≤ 2 ∧ v = u') _ rfl rfl (fun k v hk => by rw [hk.2]; exact hf') ⟨Nat.zero_le _, rfl⟩ (fun v hk => ?_) (fun v hk => ?_) (fun v hk => ?_)
      · rw [hk.2]
        exact (ready_ok Sy l p G place q 0 u' _ hL').mono fun e w' ⟨he, hw⟩ => ⟨0, he, fun _ => ⟨by decide, hw.symm⟩, fun e => absurd rfl e⟩
      · rw [hk.2]
        exact (checkpoint_none Sy l p G place q _ u' hL').mono fun e w' ⟨he, hw⟩ => ⟨0, he, fun _ => ⟨by decide, hw.symm⟩, fun e => absurd rfl e⟩
      · rw [hk.2]
        exact ⟨(d, true), rfl, hf0, hL'.disk, hf.mono (by omega), ⟨hA.on, hA.safe, fun _ => ⟨place, hA, hL'⟩⟩, (fun e => by cases e), fun ha => ⟨rfl, ha⟩⟩
    · have hck := ck_abs hA
      have hlen : (Jnl.ckOps RL G place q).length = 3 := rfl
      have hbd := Jnl.go_bound (Jnl.ckOps RL G place q) d
      rw [hlen] at hbd
      obtain ⟨X, hX⟩ : ∃ X, X = gos (d, true) (Jnl.ckOps RL G place q) := ⟨_, rfl⟩
      have hxs : X.1.steps ≤ d.steps + 3 ∧ X.1.cache.length ≤ d.cache.length + 3 := by rw [hX, gos_on]; exact hbd
      have hfine : Fine G.N (k + 3) X.1 := ⟨by rw [hX]; exact (gos_len _ _).trans hN, by rw [hX]; exact hf.sz.gos (szo_ck _ _), by omega, by omega⟩
      have hfree := gos_free (Jnl.ckOps RL G place q) d hA.on
      have hpl := hA.place
      have hG := G.h
      refine goOn2 _ _ (.pointer (some ⟨l, 0, none⟩)) (.pointer (some ⟨l, 0, none⟩)) fb u' (fun k v => (k ≤ 1 ∧ v = u') ∨ (k = 2 ∧ FrL l Sy u' v ∧ X.2 = true ∧ LogS Sy l p G place q 0 X v)) _ rfl rfl (fun k v hk => ?_) (.inl ⟨Nat.zero_le _, rfl⟩) (fun v hk => ?_) (fun v hk => ?_) (fun v hk => ?_)
      · rcases hk with ⟨_, rfl⟩ | ⟨_, hk, _, _⟩
        · exact hf'
        · have hlt : l < w.heap.size := hL.lt
          exact (hk.other fb _ _ _ (by omega) hf' (by decide) (by decide) (by decide)).trans hf'
      · rcases hk with ⟨_, rfl⟩ | ⟨hk, _⟩
        · exact (ready_ok Sy l p G place q u v _ hL').mono fun e w' ⟨he, hw⟩ => ⟨0, he, fun _ => .inl ⟨by decide, hw.symm⟩, fun e => absurd rfl e⟩
        · exact absurd hk (by decide)
      · rcases hk with ⟨_, rfl⟩ | ⟨hk, _⟩
        · refine (checkpoint_some Sy l p G place q u (d, true) v hL' (by omega) hBu h0 (hT.old hb) hN (by omega) (by omega) ⟨by show d.steps + 3 ≤ _; omega, by show d.cache.length + 3 ≤ _; omega⟩).mono fun e w' ⟨he, hL2, hF2⟩ => ?_
          rw [← hX] at he hL2
          refine ⟨eOf X.2, he, fun h0' => ?_, fun h0' => ?_⟩
          · have h2 : X.2 = true := by cases hx : X.2 with | true => rfl | false => rw [hx] at h0'; exact absurd h0' (by decide)
            rw [h2, if_pos rfl] at hL2
            exact .inr ⟨rfl, hF2, h2, hL2⟩
          · have h2 : X.2 = false := by cases hx : X.2 with | false => rfl | true => rw [hx] at h0'; exact absurd rfl h0'
            rw [h2, if_neg Bool.false_ne_true] at hL2
            exact ⟨X, rfl, hf0.trans hF2, hL2.disk, hfine, ⟨by rw [hX]; exact hck.on, by rw [hX]; exact hck.safe, fun e => (by rw [h2] at e; cases e)⟩, fun _ => ⟨place, q, u, hL2⟩, fun ha => by rw [hX]; exact hfree ha⟩
        · exact absurd hk (by decide)
      · rcases hk with ⟨hk, _⟩ | ⟨_, h1, h2, h3⟩
        · exact absurd hk (by decide)
        · exact ⟨X, by rw [h2]; rfl, hf0.trans h1, h3.disk, hfine, ⟨by rw [hX]; exact hck.on, by rw [hX]; exact hck.safe, fun _ => ⟨place, by rw [hX]; exact hck.all (by rw [← hX]; exact h2), by
            have : X = (X.1, true) := Prod.ext rfl h2
            rw [this] at h3; exact h3⟩⟩, fun e => (by rw [h2] at e; cases e), fun ha => by rw [hX]; exact hfree ha⟩
  exact key.mono fun e w' ⟨r, he, x, hr, hF, hD, h5, h6, h7, h8⟩ => ⟨x, by rw [he, hr], hF, hD, h5, h6, h7, h8⟩
set_option maxHeartbeats 1600000 in
set_option maxRecDepth 100000 in
/-- A step's picks: at most 20. -/
theorem picks7_any (k n : Int) (sv pv : Value) (ps : List Int) (b : Nat) (w : World) (hp : Ints w pv ps b) :
    Calls Tryz.prog 25 #[.agg #[.int .i64 k, .int .i64 n, sv, pv]] w fun e w' => ∃ v', e = .returned v' ∧ Below w.heap.size w w' ∧ (∀ u, Below w.heap.size w u → Ints u v' (ps.take 20) b) := by
  have hp0 := hp
  obtain ⟨a, cap, rfl, hcap, hc⟩ := hp
  have hcs : ∀ C : Array Value, (Value.agg C).cells = C := fun _ => rfl
  obtain ⟨w1, hw1⟩ : ∃ w1, w1 = w.alloc (.cells #[.int .i64 k, .int .i64 n, sv, .slice a ps.length cap] 51) := ⟨_, rfl⟩
  obtain ⟨ob, hob⟩ : ∃ ob, ob = w.heap.size := ⟨_, rfl⟩
  have b1 : Below w.heap.size w w1 := by rw [hw1]; exact (Below.refl _ _).alloc (Nat.le_refl _) _
  have z1 : w1.heap[ob]? = some (.cells #[.int .i64 k, .int .i64 n, sv, .slice a ps.length cap] 51 (0, 0)) := by rw [hw1, hob]; exact heap_alloc_last w _
  have c3 : w1.cell? ⟨ob, 3, none⟩ = some (.slice a ps.length cap) := cell_of z1 3
  have hfin : ∀ u, Below w.heap.size w u → ∀ N c', N ≤ ps.length → N ≤ c' → c' ≤ 9223372036854775807 → Ints u (.slice a N c') (ps.take N) b := fun u hu N c' h1 h2 h3 => by
    have hln : (ps.take N).length = N := by rw [List.length_take]; omega
    refine ⟨a, c', by rw [hln], ⟨by omega, h3⟩, fun hne => ?_⟩
    obtain ⟨o, e1, e2, e3⟩ := hc (fun e => hne (by rw [e, List.take_nil]))
    refine ⟨o, e1, by have := hu.size; omega, fun j hj => ?_⟩
    rw [hu.cell (p := ⟨b, o + j, none⟩) e2, e3 j (by omega), List.getD_eq_getElem?_getD, List.getD_eq_getElem?_getD, List.getElem?_take_of_lt (by omega)]
  have HFIN := Lib.hid hfin
  clear hc hfin hp0 z1
  go_enter Tryz.func25, Tryz.ntmps25
  go_upto_region 1 with fail
  try simp only [hcs]
  rw [← hw1, ← hob]
  clear hw1 hob hcs
  by_cases h20 : ps.length ≤ 20
  · have h20' : ¬ 20 < (ps.length : Int) := by omega
    go_wp2
    go_ret
    exact ⟨_, rfl, b1, fun u hu => by rw [show ps.take 20 = ps.take ps.length by rw [List.take_of_length_le h20, List.take_length]]; exact HFIN.out u hu _ _ (Nat.le_refl _) hcap.1 hcap.2⟩
  · have h20' : 20 < (ps.length : Int) := by omega
    have hcap20 : 20 ≤ cap := by omega
    go_wp2
    go_ret
    exact ⟨_, rfl, b1, fun u hu => HFIN.out u hu 20 cap (by omega) hcap20 hcap.2⟩
/-! ### A play of a journal -/
/-- A state says what a journal comes to. -/
def Agree (n : Nat) (L : List ByteArray) (S : Jnl.Im) : Prop := ∀ a, a < 40 → n ≤ a → L.getD a .empty = S a
def StAt (b : Nat) (L : List ByteArray) (w : World) : Prop := w.heap[b]? = some (.cells (L.map Value.string).toArray 47 (0, 0))
/-- The log is open: it comes to what is sure. -/
def Alive (Sy : Nat → Prop) (x p : Nat) (G : Jnl.Geo) (n k : Nat) (L L' : List ByteArray) (w : World) : Prop :=
  ∃ (S : Jnl.Im) (q u : Nat) (d : Dk), LG Sy x p G d S q u w ∧ Fine G.N (5000 * (k + 1)) d ∧ q ≤ k + 1 ∧ Agree n L S ∧ L' = L
/-- The log broke, power is gone: what lies behind a crash comes to what is sure, or to what may be. -/
def Broken (Sy : Nat → Prop) (x p : Nat) (G : Jnl.Geo) (n k : Nat) (L L' : List ByteArray) (w : World) : Prop :=
  ∃ (S S' : Jnl.Im) (q q' pl sq us : Nat) (d : Dk), LogS Sy x p G pl sq us (d, false) w ∧ d.on = false ∧ Fine G.N (5000 * (k + 1)) d ∧ Jnl.Safe (fun J => Jnl.IsGood RL G J S q ∨ Jnl.IsGood RL G J S' q') d ∧ q ≤ k + 1 ∧ q' ≤ k + 1 ∧ Agree n L S ∧ Agree n L' S'
structure Play (Sy : Nat → Prop) (p : Nat) (G : Jnl.Geo) (n sb mb : Nat) (w wc : World) (k x : Nat) (L L' : List ByteArray) (wr : World) : Prop where
  len : L.length = 40
  len' : L'.length = 40
  sure : StAt sb L wr
  maybe : StAt mb L' wr
  low : Below w.heap.size w wr
  size : wc.heap.size ≤ wr.heap.size
  log : Alive Sy x p G n k L L' wr ∨ Broken Sy x p G n k L L' wr
theorem Alive.next {Sy : Nat → Prop} {x p : Nat} {G : Jnl.Geo} {n k : Nat} {L L' : List ByteArray} {w : World} (h : Alive Sy x p G n k L L' w) : Alive Sy x p G n (k + 1) L L' w := by
  obtain ⟨S, q, u, d, h1, h2, h3, h4, h5⟩ := h
  exact ⟨S, q, u, d, h1, h2.mono (by omega), by omega, h4, h5⟩
theorem Broken.next {Sy : Nat → Prop} {x p : Nat} {G : Jnl.Geo} {n k : Nat} {L L' : List ByteArray} {w : World} (h : Broken Sy x p G n k L L' w) : Broken Sy x p G n (k + 1) L L' w := by
  obtain ⟨S, S', q, q', pl, sq, us, d, h1, h2, h3, h4, h5, h6, h7, h8⟩ := h
  exact ⟨S, S', q, q', pl, sq, us, d, h1, h2, h3.mono (by omega), h4, by omega, by omega, h7, h8⟩
/-- The method Checkpoint in a play. -/
theorem checkpoint_play (Sy : Nat → Prop) (p : Nat) (G : Jnl.Geo) (n sb mb : Nat) (w wc : World) (k x : Nat) (L L' : List ByteArray) (wr wo : World) (h : Play Sy p G n sb mb w wc k x L L' wr) (hb : Below wr.heap.size wr wo) (hSyB : ∀ k, Sy k → w.heap.size ≤ k) (hs : ¬ Sy sb) (hm : ¬ Sy mb) (h0 : ¬ Sy 0) (hu : Up Sy wo) (hT : TW wo) (hN2 : G.N ≤ 1000) (hk : k ≤ 60) :
    Calls Tryz.prog 22 #[.pointer (some ⟨x, 0, none⟩)] wo fun e w' => ∃ z : Int, e = .returned (.int .i64 z) ∧ Play Sy p G n sb mb w wc (k + 1) x L L' w' := by
  have hlow := below_step h.low (Nat.le_refl _) hb
  have hsz := Nat.le_trans h.size hb.size
  have hsu : StAt sb L wo := (hb.block sb (Array.getElem?_eq_some_iff.1 h.sure).1).trans h.sure
  have hma : StAt mb L' wo := (hb.block mb (Array.getElem?_eq_some_iff.1 h.maybe).1).trans h.maybe
  rcases h.log with ⟨S, q, u, d, h1, h2, h3, h4, h5⟩ | ⟨S, S', q, q', pl, sq, us, d, h1, h2, h3, h4, h5, h6, h7, h8⟩
  · refine (checkpoint_t Sy x p G d S q u _ wo (h1.old hb) hu h0 hT hN2 h2 (by omega) (by omega)).mono fun e w' ⟨y, he, hF, hD, hfi, hL, hn, ha⟩ => ⟨_, he, ⟨h.len, h.len', ?_, ?_, hlow.trans (hF.below hlow.size hSyB), Nat.le_trans hsz hF.size, ?_⟩⟩
    · exact (hF.fr.block sb (Array.getElem?_eq_some_iff.1 hsu).1 hs).trans hsu
    · exact (hF.fr.block mb (Array.getElem?_eq_some_iff.1 hma).1 hm).trans hma
    · cases hy : y.2 with
      | true => exact .inl ⟨S, q, 0, y.1, hL.all hy, hfi.mono (by omega), by omega, h4, h5⟩
      | false =>
        obtain ⟨pl, sq, us, hh⟩ := hn hy
        have hx : y = (y.1, false) := Prod.ext rfl hy
        rw [hx] at hh
        exact .inr ⟨S, S, q, q, pl, sq, us, y.1, hh, hL.on.trans hy, hfi.mono (by omega), fun J hJ => .inl (hL.safe J hJ), by omega, by omega, h4, h5 ▸ h4⟩
  · refine (Checkpoint_off Sy x p G pl sq us d wo (h1.old hb)).mono fun e w' ⟨r, he, _, hb2⟩ => ⟨r, he, ⟨h.len, h.len', (hb2.block sb (Array.getElem?_eq_some_iff.1 hsu).1).trans hsu, (hb2.block mb (Array.getElem?_eq_some_iff.1 hma).1).trans hma, below_step hlow (Nat.le_refl _) hb2, Nat.le_trans hsz hb2.size, .inr (Broken.next ⟨S, S', q, q', pl, sq, us, d, (h1.old hb).old hb2, h2, h3, h4, h5, h6, h7, h8⟩)⟩⟩
/-- Power that is to go, in a play. -/
theorem arm_play (Sy : Nat → Prop) (p : Nat) (G : Jnl.Geo) (n sb mb : Nat) (w wc : World) (k x : Nat) (L L' : List ByteArray) (wr wo : World) (z : Int) (h : Play Sy p G n sb mb w wc k x L L' wr) (hb : Below wr.heap.size wr wo) (hSyB : ∀ k, Sy k → w.heap.size ≤ k) (hs : ¬ Sy sb) (hm : ¬ Sy mb) (hz : z ≤ 9223372036854775807) :
    Calls Tryz.prog 23 #[.pointer (some ⟨p, 0, none⟩), .int .i64 z] wo fun e w' => e = .returned (.tuple #[]) ∧ Play Sy p G n sb mb w wc (k + 1) x L L' w' := by
  have hlow := below_step h.low (Nat.le_refl _) hb
  have hsz := Nat.le_trans h.size hb.size
  have hsu : StAt sb L wo := (hb.block sb (Array.getElem?_eq_some_iff.1 h.sure).1).trans h.sure
  have hma : StAt mb L' wo := (hb.block mb (Array.getElem?_eq_some_iff.1 h.maybe).1).trans h.maybe
  rcases h.log with ⟨S, q, u, d, h1, h2, h3, h4, h5⟩ | ⟨S, S', q, q', pl, sq, us, d, h1, h2, h3, h4, h5, h6, h7, h8⟩
  · refine (arm_log Sy x p G d S q u z wo (h1.old hb) hz).mono fun e w' ⟨he, hL, ho, hp⟩ => ⟨he, ⟨h.len, h.len', (ho.block sb (Array.getElem?_eq_some_iff.1 hsu).1 fun e => hs (e ▸ hp)).trans hsu, (ho.block mb (Array.getElem?_eq_some_iff.1 hma).1 fun e => hm (e ▸ hp)).trans hma, hlow.trans (ho.below (hSyB _ hp) hlow.size), Nat.le_trans hsz ho.size, .inl (Alive.next ⟨S, q, u, _, hL, h2.arm _, h3, h4, h5⟩)⟩⟩
  · refine (arm_off Sy x p G pl sq us d z wo (h1.old hb) h2 hz).mono fun e w' ⟨he, hL, ho, hp⟩ => ⟨he, ⟨h.len, h.len', (ho.block sb (Array.getElem?_eq_some_iff.1 hsu).1 fun e => hs (e ▸ hp)).trans hsu, (ho.block mb (Array.getElem?_eq_some_iff.1 hma).1 fun e => hm (e ▸ hp)).trans hma, hlow.trans (ho.below (hSyB _ hp) hlow.size), Nat.le_trans hsz ho.size, .inr (Broken.next ⟨S, S', q, q', pl, sq, us, d, hL, h2, h3, h4, h5, h6, h7, h8⟩)⟩⟩
/-- A journal that lies flat, and comes to what is sure, or to what may be. -/
structure Lying (Sy : Nat → Prop) (p : Nat) (G : Jnl.Geo) (n sb mb : Nat) (w wc : World) (K k : Nat) (L L' : List ByteArray) (wr : World) : Prop where
  len : L.length = 40
  len' : L'.length = 40
  sure : StAt sb L wr
  maybe : StAt mb L' wr
  low : Below w.heap.size w wr
  size : wc.heap.size ≤ wr.heap.size
  flat : ∃ (S : Jnl.Im) (q : Nat) (d : Dk), DiskS Sy p d wr ∧ Flat G S q K d ∧ d.armed = false ∧ q ≤ k ∧ (Agree n L S ∨ Agree n L' S)
theorem StAt.fr {F : Nat → Prop} {b : Nat} {L : List ByteArray} {w w' : World} (h : StAt b L w) (hf : Fr F w w') (hb : ¬ F b) : StAt b L w' := (hf.block b (Array.getElem?_eq_some_iff.1 h).1 hb).trans h
theorem StAt.old {b : Nat} {L : List ByteArray} {w w' : World} (h : StAt b L w) (hb : Below w.heap.size w w') : StAt b L w' := (hb.block b (Array.getElem?_eq_some_iff.1 h).1).trans h
theorem Lying.old {Sy : Nat → Prop} {p : Nat} {G : Jnl.Geo} {n sb mb : Nat} {w wc : World} {K k : Nat} {L L' : List ByteArray} {wr wo : World} (h : Lying Sy p G n sb mb w wc K k L L' wr) (hb : Below wr.heap.size wr wo) : Lying Sy p G n sb mb w wc K k L L' wo := by
  obtain ⟨S, q, d, h1, h2, h3, h4, h5⟩ := h.flat
  exact ⟨h.len, h.len', h.sure.old hb, h.maybe.old hb, below_step h.low (Nat.le_refl _) hb, Nat.le_trans h.size hb.size, S, q, d, h1.old hb, h2, h3, h4, h5⟩
/-- A crash in a play; what else there is and what the disk does not have stays. -/
theorem crash_play (Sy : Nat → Prop) (p : Nat) (G : Jnl.Geo) (n sb mb : Nat) (w wc : World) (k x : Nat) (L L' : List ByteArray) (wr wo : World) (v : Value) (ps : List Int) (pb : Nat) (h : Play Sy p G n sb mb w wc k x L L' wr) (hb : Below wr.heap.size wr wo) (hSyB : ∀ k, Sy k → w.heap.size ≤ k) (hs : ¬ Sy sb) (hm : ¬ Sy mb) (hps : Ints wo v ps pb) (hpb : pb < w.heap.size) (hN : 0 < G.N) :
    Calls Tryz.prog 24 #[.pointer (some ⟨p, 0, none⟩), v] wo fun e w' => e = .returned (.tuple #[]) ∧ Lying Sy p G n sb mb w wc (5000 * (k + 1)) (k + 1) L L' w' ∧ ∀ b, FrL b Sy wo w' := by
  have hlow := below_step h.low (Nat.le_refl _) hb
  have hsz := Nat.le_trans h.size hb.size
  have hpS : pb < wo.heap.size → ¬ Sy pb := fun _ hh => by have := hSyB _ hh; omega
  rcases h.log with ⟨S, q, u, d, h1, h2, h3, h4, h5⟩ | ⟨S, S', q, q', pl, sq, us, d, h1, h2, h3, h4, h5, h6, h7, h8⟩
  · obtain ⟨place, hA⟩ := h1.a
    obtain ⟨c1, c2, c3, c4, c5⟩ := Flat.crash hA.safe h2 (odd ps) hN
    exact (crashS Sy p d wo (h1.old hb).disk v ps pb hps hpS).mono fun e w' ⟨he, hD, hF⟩ => ⟨he, ⟨h.len, h.len', (h.sure.old hb).fr (hF 0).fr hs, (h.maybe.old hb).fr (hF 0).fr hm, hlow.trans ((hF 0).below hlow.size hSyB), Nat.le_trans hsz (hF 0).size, S, q, _, hD, ⟨c2, c3, c4, c1⟩, c5, h3, .inl h4⟩, hF⟩
  · obtain ⟨c1, c2, c3, c4, c5⟩ := Flat.crash h4 h3 (odd ps) hN
    refine (crashS Sy p d wo (h1.old hb).disk v ps pb hps hpS).mono fun e w' ⟨he, hD, hF⟩ => ⟨he, ⟨h.len, h.len', (h.sure.old hb).fr (hF 0).fr hs, (h.maybe.old hb).fr (hF 0).fr hm, hlow.trans ((hF 0).below hlow.size hSyB), Nat.le_trans hsz (hF 0).size, ?_⟩, hF⟩
    rcases c1 with c1 | c1
    · exact ⟨S, q, _, hD, ⟨c2, c3, c4, c1⟩, c5, h5, .inl h7⟩
    · exact ⟨S', q', _, hD, ⟨c2, c3, c4, c1⟩, c5, h6, .inr h8⟩
/-- A journal that lies flat on a disk that is armed. -/
structure Armed7 (Sy : Nat → Prop) (p : Nat) (G : Jnl.Geo) (n sb mb : Nat) (w wc : World) (K k : Nat) (L L' : List ByteArray) (wr : World) : Prop where
  len : L.length = 40
  len' : L'.length = 40
  sure : StAt sb L wr
  maybe : StAt mb L' wr
  low : Below w.heap.size w wr
  size : wc.heap.size ≤ wr.heap.size
  flat : ∃ (S : Jnl.Im) (q : Nat) (d : Dk), DiskS Sy p d wr ∧ Flat G S q K d ∧ q ≤ k ∧ (Agree n L S ∨ Agree n L' S)
theorem arm_flat (Sy : Nat → Prop) (p : Nat) (G : Jnl.Geo) (n sb mb : Nat) (w wc : World) (K k : Nat) (L L' : List ByteArray) (wr : World) (z : Int) (h : Lying Sy p G n sb mb w wc K k L L' wr) (hSyB : ∀ k, Sy k → w.heap.size ≤ k) (hs : ¬ Sy sb) (hm : ¬ Sy mb) (hz : z ≤ 9223372036854775807) :
    Calls Tryz.prog 23 #[.pointer (some ⟨p, 0, none⟩), .int .i64 z] wr fun e w' => e = .returned (.tuple #[]) ∧ Armed7 Sy p G n sb mb w wc K k L L' w' ∧ Only p wr w' ∧ Sy p := by
  obtain ⟨S, q, d, h1, h2, h3, h4, h5⟩ := h.flat
  have hp : Sy p := h1.1
  exact (armS Sy p d z wr h1 hz).mono fun e w' ⟨he, hD, ho⟩ => ⟨he, ⟨h.len, h.len', h.sure.fr (ho.fr (S := fun i => i = p) rfl) (fun e => hs (e ▸ hp)), h.maybe.fr (ho.fr (S := fun i => i = p) rfl) (fun e => hm (e ▸ hp)), h.low.trans (ho.below (hSyB _ hp) h.low.size), Nat.le_trans h.size ho.size, S, q, _, hD, h2.arm _, h4, h5⟩, ho, hp⟩
/-- It is opened, and power may go. -/
structure Half7 (Sy : Nat → Prop) (p : Nat) (G : Jnl.Geo) (n sb mb : Nat) (w wc : World) (K k : Nat) (L L' : List ByteArray) (wr : World) : Prop where
  len : L.length = 40
  len' : L'.length = 40
  sure : StAt sb L wr
  maybe : StAt mb L' wr
  low : Below w.heap.size w wr
  size : wc.heap.size ≤ wr.heap.size
  safe : ∃ (S : Jnl.Im) (q : Nat) (d : Dk), DiskS Sy p d wr ∧ Fine G.N K d ∧ Jnl.Safe (fun J => Jnl.IsGood RL G J S q) d ∧ q ≤ k ∧ (Agree n L S ∨ Agree n L' S)
theorem open_half (Sy : Nat → Prop) (p : Nat) (G : Jnl.Geo) (n sb mb : Nat) (w wc : World) (K k : Nat) (L L' : List ByteArray) (wr : World) (h : Armed7 Sy p G n sb mb w wc K k L L' wr) (hSyB : ∀ k, Sy k → w.heap.size ≤ k) (hs : ¬ Sy sb) (hm : ¬ Sy mb) (h0 : ¬ Sy 0) (hu : Up Sy wr) (hT : TW wr) (hN2 : G.N ≤ 1000) (hK : K ≤ 700000) (hk : k ≤ 100) (z y : Int) (hz : z = (G.base : Int)) (hy : y = ((G.m + 1 : Nat) : Int)) :
    Calls Tryz.prog 21 #[.pointer (some ⟨p, 0, none⟩), .int .i64 z, .int .i64 y] wr fun e w' => ∃ a b : Value, e = .returned (.tuple #[a, b]) ∧ Half7 Sy p G n sb mb w wc (K + 2000) k L L' w' ∧ ∃ l, wr.heap.size ≤ l ∧ FrL l Sy wr w' := by
  obtain ⟨S, q, d, h1, h2, h4, h5⟩ := h.flat
  exact (open_s Sy p G d S q K wr h1 hu h0 hT hN2 h2 (by omega) (by omega) z y hz hy).mono fun e w' ⟨l, x, hl, hF, he, hD, hfi, hL, _⟩ => ⟨_, _, he, ⟨h.len, h.len', h.sure.fr hF.fr hs, h.maybe.fr hF.fr hm, h.low.trans (hF.below h.low.size hSyB), Nat.le_trans h.size hF.size, S, q, x.1, hD, hfi, hL.safe, h4, h5⟩, l, hl, hF⟩
theorem crash_half (Sy : Nat → Prop) (p : Nat) (G : Jnl.Geo) (n sb mb : Nat) (w wc : World) (K k : Nat) (L L' : List ByteArray) (wr wo : World) (v : Value) (ps : List Int) (pb : Nat) (h : Half7 Sy p G n sb mb w wc K k L L' wr) (hb : Below wr.heap.size wr wo) (hSyB : ∀ k, Sy k → w.heap.size ≤ k) (hs : ¬ Sy sb) (hm : ¬ Sy mb) (hps : Ints wo v ps pb) (hpb : pb < w.heap.size) (hN : 0 < G.N) :
    Calls Tryz.prog 24 #[.pointer (some ⟨p, 0, none⟩), v] wo fun e w' => e = .returned (.tuple #[]) ∧ Lying Sy p G n sb mb w wc K k L L' w' := by
  obtain ⟨S, q, d, h1, h2, h3, h4, h5⟩ := h.safe
  obtain ⟨c1, c2, c3, c4, c5⟩ := Flat.crash h3 h2 (odd ps) hN
  have hlow := below_step h.low (Nat.le_refl _) hb
  exact (crashS Sy p d wo (h1.old hb) v ps pb hps fun _ hh => by have := hSyB _ hh; omega).mono fun e w' ⟨he, hD, hF⟩ => ⟨he, ⟨h.len, h.len', (h.sure.old hb).fr (hF 0).fr hs, (h.maybe.old hb).fr (hF 0).fr hm, hlow.trans ((hF 0).below hlow.size hSyB), Nat.le_trans (Nat.le_trans h.size hb.size) (hF 0).size, S, q, _, hD, ⟨c2, c3, c4, c1⟩, c5, h4, h5⟩⟩
/-- It is opened behind a crash. -/
theorem open_play (Sy : Nat → Prop) (p : Nat) (G : Jnl.Geo) (n sb mb : Nat) (w wc : World) (K k : Nat) (L L' : List ByteArray) (wr : World) (h : Lying Sy p G n sb mb w wc K k L L' wr) (hSyB : ∀ k, Sy k → w.heap.size ≤ k) (hs : ¬ Sy sb) (hm : ¬ Sy mb) (h0 : ¬ Sy 0) (hu : Up Sy wr) (hT : TW wr) (hN2 : G.N ≤ 1000) (hK : K ≤ 700000) (hk : k ≤ 100) (z y : Int) (hz : z = (G.base : Int)) (hy : y = ((G.m + 1 : Nat) : Int)) :
    Calls Tryz.prog 21 #[.pointer (some ⟨p, 0, none⟩), .int .i64 z, .int .i64 y] wr fun e w' => ∃ x : Nat, e = .returned (.tuple #[.pointer (some ⟨x, 0, none⟩), .int .i64 0]) ∧ StAt sb L w' ∧ StAt mb L' w' ∧ Below w.heap.size w w' ∧ wc.heap.size ≤ w'.heap.size ∧ ∃ (S : Jnl.Im) (q : Nat) (d : Dk), LG Sy x p G d S q 0 w' ∧ Fine G.N (K + 2000) d ∧ q ≤ k ∧ (Agree n L S ∨ Agree n L' S) := by
  obtain ⟨S, q, d, h1, h2, h3, h4, h5⟩ := h.flat
  exact (open_sf Sy p G d S q K wr h1 hu h0 hT hN2 h2 (by omega) (by omega) h3 z y hz hy).mono fun e w' ⟨x, d', he, _, hF, hL, hfi, _, _⟩ => ⟨x, he, h.sure.fr hF.fr hs, h.maybe.fr hF.fr hm, h.low.trans (hF.below h.low.size hSyB), Nat.le_trans h.size hF.size, S, q, d', hL, hfi, h4, h5⟩
/-- A commit in a play. -/
theorem commit_play (Sy : Nat → Prop) (p : Nat) (G : Jnl.Geo) (n sb mb : Nat) (w wc : World) (k x : Nat) (L L' : List ByteArray) (wr wo : World) (cv : Value) (t : Jnl.Txn) (g : Nat) (h : Play Sy p G n sb mb w wc k x L L' wr) (hb : Below wr.heap.size wr wo) (hSyB : ∀ k, Sy k → w.heap.size ≤ k) (hs : ¬ Sy sb) (hm : ¬ Sy mb) (h0 : ¬ Sy 0) (hu : Up Sy wo) (hT : TW wo) (hN2 : G.N ≤ 1000) (hk : k ≤ 60)
    (hv : PutsR wo cv (zT t) g) (hg : wr.heap.size ≤ g) (ht6 : t.length ≤ 6) (ht : ∀ y ∈ t, n ≤ y.1 ∧ y.1 < 40 ∧ y.2.size = 256) (hdat : ∀ a, n ≤ a → a < 40 → G.Data a) :
    Calls Tryz.prog 29 #[.pointer (some ⟨x, 0, none⟩), cv] wo fun e w' => ∃ z : Int, e = .returned (.int .i64 z) ∧ PutsR w' cv (zT t) g ∧ StAt sb L w' ∧ StAt mb L' w' ∧ Below w.heap.size w w' ∧ wc.heap.size ≤ w'.heap.size ∧
      ((z = 0 ∧ Alive Sy x p G n (k + 1) (aftL t L) (aftL t L) w') ∨ (z = 14 ∧ Broken Sy x p G n (k + 1) L (aftL t L) w') ∨ (z ≠ 0 ∧ z ≠ 14 ∧ (Alive Sy x p G n (k + 1) L L' w' ∨ Broken Sy x p G n (k + 1) L L' w'))) := by
  have hlow := below_step h.low (Nat.le_refl _) hb
  have hsz := Nat.le_trans h.size hb.size
  have hsu := h.sure.old hb
  have hma := h.maybe.old hb
  have hv0 := hv
  rcases h.log with ⟨S, q, u, d, h1, h2, h3, h4, h5⟩ | ⟨S, S', q, q', pl, sq, us, d, h1, h2, h3, h4, h5, h6, h7, h8⟩
  · by_cases hgood : 1 ≤ t.length ∧ t.length ≤ roomN G
    · obtain ⟨hg1, hg2⟩ := hgood
      have hgw : g < wo.heap.size := by
        obtain ⟨_, _, _, _, hc⟩ := hv
        obtain ⟨_, _, hlt, _⟩ := hc (fun e => by have := congrArg List.length e; rw [zT_len, List.length_nil] at this; omega)
        exact hlt
      have hl := (h1.mono (Sy' := fun i => Sy i ∧ i ≠ g) fun i hi hh => ⟨hh, by omega⟩).old hb
      have hag : Agree n (aftL t L) (fun a => Jnl.after t a (S a)) := fun a ha hna => by rw [aftL_get _ _ _ (by rw [h.len]; exact ha), h4 a ha hna]
      refine (commit_t (fun i => Sy i ∧ i ≠ g) x p G d S q u _ cv t g wo hl (fun i hi => ⟨hu i hi, by omega⟩) (fun hh => h0 hh.1) hT hv (fun _ hh => hh.2 rfl) hN2 h2 (by omega) (by omega) hg1 hg2 fun y hy => ⟨hdat _ (ht y hy).1 (ht y hy).2.1, (ht y hy).2.2⟩).mono fun e w' ⟨y, he, hF, hP, hD, hfi, hL, hn, ha⟩ => ⟨_, he, hP, hsu.fr hF.fr fun hh => hs hh.1, hma.fr hF.fr fun hh => hm hh.1, hlow.trans (hF.below hlow.size fun i hi => hSyB i hi.1), Nat.le_trans hsz hF.size, ?_⟩
      cases hy : y.2 with
      | true => exact .inl ⟨rfl, _, q + 1, _, y.1, (hL.all hy).mono fun i _ hi => hi.1, hfi.mono (by omega), by omega, hag, rfl⟩
      | false =>
        obtain ⟨pl, sq, us, hh⟩ := hn hy
        have hx : y = (y.1, false) := Prod.ext rfl hy
        rw [hx] at hh
        exact .inr (.inl ⟨rfl, S, _, q, q + 1, pl, sq, us, y.1, hh.mono fun i _ hi => hi.1, hL.on.trans hy, hfi.mono (by omega), hL.safe, by omega, by omega, h4, hag⟩)
    · obtain ⟨place, hA, hLs⟩ := h1.old hb
      have hbad : allowE G (zT t) = 1 ∨ allowE G (zT t) = 11 := by
        unfold allowE
        rw [zT_len]
        by_cases e0 : t.length = 0
        · rw [if_pos e0]; exact .inl rfl
        · rw [if_neg e0, if_pos (show roomN G < t.length by omega)]
          split
          · exact .inr rfl
          · exact .inl rfl
      refine (Commit_bad Sy x p G place q u d cv g wo (zT t) hLs hv (by rw [zT_len]; omega) h2.len (by omega) (fun y hy => ?_) (by rcases hbad with e | e <;> rw [e] <;> decide)).mono fun e w' ⟨r, he, hr, hb2⟩ => ⟨r, he, hv0.old hb2, hsu.old hb2, hma.old hb2, below_step hlow (Nat.le_refl _) hb2, Nat.le_trans hsz hb2.size, .inr (.inr ⟨by rcases hbad with e | e <;> rw [hr, e] <;> decide, by rcases hbad with e | e <;> rw [hr, e] <;> decide, .inl (Alive.next ⟨S, q, u, d, ⟨place, hA, hLs.old hb2⟩, h2, h3, h4, h5⟩)⟩)⟩
      obtain ⟨z, hz, rfl⟩ := List.mem_map.1 hy
      show z.2.size ≤ _
      rw [(ht z hz).2.2]
      decide
  · obtain ⟨a, cap, rfl, _, _⟩ := hv
    exact (Commit_off Sy x p G pl sq us d wo a _ cap (h1.old hb)).mono fun e w' ⟨r, he, hr, hb2⟩ => ⟨r, he, hv0.old hb2, hsu.old hb2, hma.old hb2, below_step hlow (Nat.le_refl _) hb2, Nat.le_trans hsz hb2.size, .inr (.inr ⟨by rw [hr]; decide, by rw [hr]; decide, .inr (Broken.next ⟨S, S', q, q', pl, sq, us, d, (h1.old hb).old hb2, h2, h3, h4, h5, h6, h7, h8⟩)⟩)⟩
/-- Is there power? -/
theorem on_alive (Sy : Nat → Prop) (p : Nat) (G : Jnl.Geo) (n k x : Nat) (L L' : List ByteArray) (w : World) (h : Alive Sy x p G n k L L' w) :
    Calls Tryz.prog 31 #[.pointer (some ⟨p, 0, none⟩)] w fun e w' => e = .returned (.bool true) ∧ w = w' := by
  obtain ⟨S, q, u, d, h1, _⟩ := h
  obtain ⟨place, hA, hL⟩ := h1
  obtain ⟨e1, bl, cv, e2, e3, e4⟩ := hL.disk
  refine (on_any p bl cv d w e4).mono fun e w' ⟨he, hw⟩ => ⟨by rw [he]; exact congrArg (fun b => Ending.returned (.bool b)) hA.on, hw⟩
theorem st_set {b : Nat} {L L2 : List ByteArray} {u : World} (h : StAt b L u) (h1 : L.length = 40) (h2 : L2.length = 40) : StAt b L2 (u.setCells b 0 (L2.map Value.string).toArray.toList) ∧ Only b u (u.setCells b 0 (L2.map Value.string).toArray.toList) := by
  refine ⟨?_, only_setCells _ _ _ (Only.refl b u)⟩
  have := heap_setCells b 47 (L2.map Value.string) 0 (L.map Value.string) u (by rw [List.length_map, List.length_map]; omega) h
  unfold StAt
  rw [show (L2.map Value.string).toArray.toList = L2.map Value.string from rfl, this]
  congr 2
  simp [h1, h2]
theorem st_there {b : Nat} {L L2 : List ByteArray} {u : World} (h : StAt b L u) (h1 : L.length = 40) (h2 : L2.length = 40) : u.there b 0 (L2.map Value.string).toArray.size := by
  rw [List.size_toArray, List.length_map, h2]
  exact there_of h (by simp [h1])
theorem st_info {L2 : List ByteArray} (h2 : L2.length = 40) : (Tryz.prog.info? 47).map (·.size) = some (L2.map Value.string).toArray.size := by rw [List.size_toArray]; exact state_info h2
theorem st_one (L2 : List ByteArray) : (L2.map Value.string).toArray.all (·.oneCell') = true := all_oneCell_toArray (fun x hx => by obtain ⟨_, _, rfl⟩ := List.mem_map.1 hx; rfl)
theorem StAt.only {b c : Nat} {L : List ByteArray} {w w' : World} (h : StAt b L w) (ho : Only c w w') (hn : b ≠ c) : StAt b L w' := (ho.block b (Array.getElem?_eq_some_iff.1 h).1 hn).trans h
theorem Alive.only {Sy : Nat → Prop} {x p : Nat} {G : Jnl.Geo} {n k b : Nat} {L L' : List ByteArray} {w w' : World} (h : Alive Sy x p G n k L L' w) (ho : Only b w w') (hb : ¬ Sy b) : Alive Sy x p G n k L L' w' := by
  obtain ⟨S, q, u, d, h1, h2⟩ := h
  exact ⟨S, q, u, d, h1.fr (ho.fr (S := fun i => i = b) rfl) fun i hi e => hb (e ▸ hi), h2⟩
theorem Alive.old {Sy : Nat → Prop} {x p : Nat} {G : Jnl.Geo} {n k : Nat} {L L' : List ByteArray} {w w' : World} (h : Alive Sy x p G n k L L' w) (hb : Below w.heap.size w w') : Alive Sy x p G n k L L' w' := by
  obtain ⟨S, q, u, d, h1, h2⟩ := h
  exact ⟨S, q, u, d, h1.old hb, h2⟩
theorem Broken.only {Sy : Nat → Prop} {x p : Nat} {G : Jnl.Geo} {n k b : Nat} {L L' : List ByteArray} {w w' : World} (h : Broken Sy x p G n k L L' w) (ho : Only b w w') (hb : ¬ Sy b) : Broken Sy x p G n k L L' w' := by
  obtain ⟨S, S', q, q', pl, sq, us, d, h1, h2⟩ := h
  exact ⟨S, S', q, q', pl, sq, us, d, h1.keep fun i hi hs => ho.block i hi fun e => hb (e ▸ hs), h2⟩
theorem Broken.old {Sy : Nat → Prop} {x p : Nat} {G : Jnl.Geo} {n k : Nat} {L L' : List ByteArray} {w w' : World} (h : Broken Sy x p G n k L L' w) (hb : Below w.heap.size w w') : Broken Sy x p G n k L L' w' := by
  obtain ⟨S, S', q, q', pl, sq, us, d, h1, h2⟩ := h
  exact ⟨S, S', q, q', pl, sq, us, d, h1.old hb, h2⟩
/-- A log that is open reads what is sure. -/
theorem reads_alive (Sy : Nat → Prop) (p : Nat) (G : Jnl.Geo) (n k x : Nat) (L L' : List ByteArray) (w : World) (h : Alive Sy x p G n k L L' w) (hL : L.length = 40) (hn : n ≤ 40) (hd : ∀ a, n ≤ a → a < 40 → G.Data a) :
    Calls Tryz.prog 27 #[.agg (L.map Value.string).toArray, .pointer (some ⟨x, 0, none⟩), .int .i64 (n : Int)] w fun e w' => e = .returned (.bool true) ∧ Below w.heap.size w w' := by
  obtain ⟨S, q, u, d, h1, h2, h3, h4, h5⟩ := h
  have := reads_any Sy x p G d S q u n L w h1 hL hn hd
  rw [sameB_iff.2 h4] at this
  exact this
end Go.Proofs.YteggaeopnljgnaaGreatDoor
