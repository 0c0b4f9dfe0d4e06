/-
  Package redo: the method Checkpoint of a log that is open, or broken; of no log, and of a zero one.
-/
import Derived.Test.YteggaeopnljgnaaGreatDoorRLaw
namespace Go.Proofs.YteggaeopnljgnaaGreatDoor
open Go.RowKit Dsk

theorem ends2 (k : Nat) (h : k ≤ 2) : k = 0 ∨ k = 1 ∨ k = 2 := by omega
/-- Two calls, one behind the other, up to the first that tells an error. -/
theorem goOn2 (f0 f1 : FuncId) (v0 v1 : Value) (fb : Nat) (w : World) (I : Nat → World → Prop) (Po : Int → World → Prop)
    (hf0 : f0 = 56) (hf1 : f1 = 57)
    (hc : ∀ k u, I k u → u.heap[fb]? = some (.cells #[.func (.func f0) #[v0] #[], .func (.func f1) #[v1] #[]] 52 (0, 0)))
    (h0 : I 0 w)
    (k0 : ∀ u, I 0 u → Calls Tryz.prog f0 #[v0] u fun e w' => ∃ r, e = .returned (.int .i64 r) ∧ (r = 0 → I 1 w') ∧ (r ≠ 0 → Po r w'))
    (k1 : ∀ u, I 1 u → Calls Tryz.prog f1 #[v1] u fun e w' => ∃ r, e = .returned (.int .i64 r) ∧ (r = 0 → I 2 w') ∧ (r ≠ 0 → Po r w'))
    (h4 : ∀ u, I 2 u → Po 0 u) :
    Calls Tryz.prog 55 #[.slice (some ⟨fb, 0, none⟩) 2 2] w fun e w' => ∃ r, e = .returned (.int .i64 r) ∧ Po r w' := by
  subst hf0
  subst hf1
  have HC := Lib.hid hc
  have H4 := Lib.hid h4
  have K0 := Lib.hid k0
  have K1 := Lib.hid k1
  clear hc h4 k0 k1
  go_enter Tryz.func55, Tryz.ntmps55
  go_wp2
  go_loopw [8] (fun i wr => ∃ k : Nat, k ≤ 2 ∧ i = .int .i64 k ∧ I k wr) (fun i _ => 2 - (intOf i).toNat)
  case atStart => exact ⟨0, by omega, rfl, h0⟩
  case round =>
    clear h0
    obtain ⟨k, hk, rfl, hI⟩ := hrel
    have hce := HC.out k wr hI
    rcases ends2 k hk with rfl | rfl | rfl
    · have c := cell_of hce 0
      have kk := K0.out wr hI
      clear hce
      go_upto_region 5 with (go_at_call 56; refine kk.mono ?_; rintro e w2 ⟨r, rfl, h1, h2⟩)
      clear kk c
      by_cases hr : r = 0
      · subst hr
        have h1' := h1 rfl
        clear h1 h2
        go_wp2
        go_roundw
        case rel => exact ⟨1, by omega, by go_num, h1'⟩
        case measure => simp [intOf]
      · have h2' := h2 hr
        clear h1 h2
        go_wp2
        try rw [Exit.noGoto_ret]
        go_ret
        exact ⟨r, rfl, h2'⟩
    · have c := cell_of hce 1
      have kk := K1.out wr hI
      clear hce
      go_upto_region 5 with (go_at_call 57; refine kk.mono ?_; rintro e w2 ⟨r, rfl, h1, h2⟩)
      clear kk c
      by_cases hr : r = 0
      · subst hr
        have h1' := h1 rfl
        clear h1 h2
        go_wp2
        go_roundw
        case rel => exact ⟨2, by omega, by go_num, h1'⟩
        case measure => simp [intOf]
      · have h2' := h2 hr
        clear h1 h2
        go_wp2
        try rw [Exit.noGoto_ret]
        go_ret
        exact ⟨r, rfl, h2'⟩
    · have h5 := H4.out wr hI
      clear hce
      go_wp2
      go_ret
      exact ⟨0, rfl, h5⟩
/-- The functions that a checkpoint calls. -/
def fnK (r : Option Addr) : Array Value := #[.func (.func 56) #[.pointer r] #[], .func (.func 57) #[.pointer r] #[]]
theorem Checkpoint_walk (r : Option Addr) (w : World) (Po : Int → World → Prop)
    (hg : ∀ fb u, w.heap.size ≤ fb → Below w.heap.size w u → u.heap[fb]? = some (.cells (fnK r) 52 (0, 0)) → Calls Tryz.prog 55 #[.slice (some ⟨fb, 0, none⟩) 2 2] u fun e w' => ∃ r, e = .returned (.int .i64 r) ∧ Po r w') :
    Calls Tryz.prog 22 #[.pointer r] w fun e w' => ∃ r, e = .returned (.int .i64 r) ∧ Po r w' := by
  have hmf : ∀ (fn : Fn) (first cap : Array Value) (w : World), (Instr.makeFunc fn first cap).run Tryz.prog w = .ok (.func fn first cap) w := fun _ _ _ _ => rfl
  have hgo := hg w.heap.size (w.alloc (.cells (fnK r) 52)) (Nat.le_refl _) ((Below.refl _ _).alloc (Nat.le_refl _) _) (heap_alloc_last w _)
  have HGO := Lib.hid hgo
  clear hg hgo
  go_enter Tryz.func22, Tryz.ntmps22
  go_wp2_with (go_at_call 55; refine (show Calls Tryz.prog 55 _ _ _ from HGO.out).mono ?_; rintro e w3 ⟨r, rfl, h3⟩)
  go_ret
  exact ⟨r, rfl, h3⟩
theorem Checkpoint_off (S : Nat → Prop) (l p : Nat) (G : Jnl.Geo) (place seq used : Nat) (d : Dk) (w : World) (h : LogS S l p G place seq used (d, false) w) :
    Calls Tryz.prog 22 #[.pointer (some ⟨l, 0, none⟩)] w fun e w' => ∃ r, e = .returned (.int .i64 r) ∧ r = 13 ∧ Below w.heap.size w w' := by
  refine Checkpoint_walk (some ⟨l, 0, none⟩) w _ fun fb u hfb hb hf => ?_
  refine goOn2 _ _ _ _ fb u (fun k u' => k = 0 ∧ u' = u) _ rfl rfl (fun k u' hk => by rw [hk.2]; exact hf) ⟨rfl, rfl⟩ (fun u' hk => ?_) (fun u' hk => absurd hk.1 (by decide)) (fun u' hk => absurd hk.1 (by decide))
  rw [hk.2]
  exact (ready_ok S l p G place seq used u _ (h.old hb)).mono fun e w' ⟨he, hw⟩ => ⟨13, he, fun e => absurd e (by decide), fun _ => ⟨rfl, hw ▸ hb⟩⟩
/-- A checkpoint of a log that is open. -/
theorem checkpoint_hi (B l p : Nat) (G : Jnl.Geo) (d : Dk) (S : Jnl.Im) (q u k : Nat) (w : World) (h : LG (Hi B) l p G d S q u w) (hB : B ≤ w.heap.size) (h0 : 0 < B) (hT : TW w)
    (hN2 : G.N ≤ 1000) (hf : Fine G.N k d) (hk : k ≤ 800000) (hq : q ≤ 549755813888) :
    Calls Tryz.prog 22 #[.pointer (some ⟨l, 0, none⟩)] w fun e w' => ∃ x : Dk × Bool, e = .returned (.int .i64 (eOf x.2)) ∧ Below B w w' ∧ DiskS (Hi B) p x.1 w' ∧ Fine G.N (k + 3) x.1 ∧
      Left (fun L => Jnl.IsGood RL G L S q) (fun d' => LG (Hi B) l p G d' S q 0 w') x ∧ (x.2 = false → ∃ pl sq us, LogS (Hi B) l p G pl sq us x w') ∧ (d.armed = false → x.2 = true ∧ x.1.armed = false) := by
  obtain ⟨place, hA, hL⟩ := h
  have hN := hA.len
  have hs := hf.steps
  have hc := hf.cache
  have key : Calls Tryz.prog 22 #[.pointer (some ⟨l, 0, none⟩)] w fun e w' => ∃ r, e = .returned (.int .i64 r) ∧ ∃ x : Dk × Bool, r = eOf x.2 ∧ FrL l (Hi B) w w' ∧ DiskS (Hi B) p x.1 w' ∧ Fine G.N (k + 3) x.1 ∧
      Left (fun L => Jnl.IsGood RL G L S q) (fun d' => LG (Hi B) l p G d' S q 0 w') x ∧ (x.2 = false → ∃ pl sq us, LogS (Hi B) l p G pl sq us x w') ∧ (d.armed = false → x.2 = true ∧ x.1.armed = false) := by
    refine Checkpoint_walk (some ⟨l, 0, none⟩) w _ fun fb u' hfb hb hf' => ?_
    have hL' := hL.old hb
    have hf0 : FrL l (Hi B) w u' := FrL.of_below hb
    have hBu : B ≤ u'.heap.size := Nat.le_trans hB hb.size
    by_cases hu : u = 0
    · subst hu
      refine goOn2 _ _ _ _ fb u' (fun k v => k ≤ 2 ∧ v = u') _ rfl rfl (fun k v hk => by rw [hk.2]; exact hf') ⟨Nat.zero_le _, rfl⟩ (fun v hk => ?_) (fun v hk => ?_) (fun v hk => ?_)
      · rw [hk.2]
        exact (ready_ok (Hi B) l p G place q 0 u' _ hL').mono fun e w' ⟨he, hw⟩ => ⟨0, he, fun _ => ⟨by decide, hw.symm⟩, fun e => absurd rfl e⟩
      · rw [hk.2]
        exact (checkpoint_none (Hi B) l p G place q _ u' hL').mono fun e w' ⟨he, hw⟩ => ⟨0, he, fun _ => ⟨by decide, hw.symm⟩, fun e => absurd rfl e⟩
      · rw [hk.2]
        exact ⟨(d, true), rfl, hf0, hL'.disk, hf.mono (by omega), ⟨hA.on, hA.safe, fun _ => ⟨place, hA, hL'⟩⟩, (fun e => by cases e), fun ha => ⟨rfl, ha⟩⟩
    · have hck := ck_abs hA
      have hlen : (Jnl.ckOps RL G place q).length = 3 := rfl
      have hbd := Jnl.go_bound (Jnl.ckOps RL G place q) d
      rw [hlen] at hbd
      obtain ⟨X, hX⟩ : ∃ X, X = gos (d, true) (Jnl.ckOps RL G place q) := ⟨_, rfl⟩
      have hxs : X.1.steps ≤ d.steps + 3 ∧ X.1.cache.length ≤ d.cache.length + 3 := by rw [hX, gos_on]; exact hbd
      have hfine : Fine G.N (k + 3) X.1 := ⟨by rw [hX]; exact (gos_len _ _).trans hN, by rw [hX]; exact hf.sz.gos (szo_ck _ _), by omega, by omega⟩
      have hfree := gos_free (Jnl.ckOps RL G place q) d hA.on
      have hpl := hA.place
      have hG := G.h
      refine goOn2 _ _ (.pointer (some ⟨l, 0, none⟩)) (.pointer (some ⟨l, 0, none⟩)) fb u' (fun k v => (k ≤ 1 ∧ v = u') ∨ (k = 2 ∧ FrL l (Hi B) u' v ∧ X.2 = true ∧ LogS (Hi B) l p G place q 0 X v)) _ rfl rfl (fun k v hk => ?_) (.inl ⟨Nat.zero_le _, rfl⟩) (fun v hk => ?_) (fun v hk => ?_) (fun v hk => ?_)
      · rcases hk with ⟨_, rfl⟩ | ⟨_, hk, _, _⟩
        · exact hf'
        · have hlt : l < w.heap.size := hL.lt
          exact (hk.other fb _ _ _ (by omega) hf' (by decide) (by decide) (by decide)).trans hf'
      · rcases hk with ⟨_, rfl⟩ | ⟨hk, _⟩
        · exact (ready_ok (Hi B) l p G place q u v _ hL').mono fun e w' ⟨he, hw⟩ => ⟨0, he, fun _ => .inl ⟨by decide, hw.symm⟩, fun e => absurd rfl e⟩
        · exact absurd hk (by decide)
      · rcases hk with ⟨_, rfl⟩ | ⟨hk, _⟩
        · refine (checkpoint_some (Hi B) l p G place q u (d, true) v hL' (by omega) (hi_up hBu) (hi_zero h0) (hT.old hb) hN (by omega) (by omega) ⟨by show d.steps + 3 ≤ _; omega, by show d.cache.length + 3 ≤ _; omega⟩).mono fun e w' ⟨he, hL2, hF2⟩ => ?_
          rw [← hX] at he hL2
          refine ⟨eOf X.2, he, fun h0' => ?_, fun h0' => ?_⟩
          · have h2 : X.2 = true := by cases hx : X.2 with | true => rfl | false => rw [hx] at h0'; exact absurd h0' (by decide)
            rw [h2, if_pos rfl] at hL2
            exact .inr ⟨rfl, hF2, h2, hL2⟩
          · have h2 : X.2 = false := by cases hx : X.2 with | false => rfl | true => rw [hx] at h0'; exact absurd rfl h0'
            rw [h2, if_neg Bool.false_ne_true] at hL2
            exact ⟨X, rfl, hf0.trans hF2, hL2.disk, hfine, ⟨by rw [hX]; exact hck.on, by rw [hX]; exact hck.safe, fun e => (by rw [h2] at e; cases e)⟩, fun _ => ⟨place, q, u, hL2⟩, fun ha => by rw [hX]; exact hfree ha⟩
        · exact absurd hk (by decide)
      · rcases hk with ⟨hk, _⟩ | ⟨_, h1, h2, h3⟩
        · exact absurd hk (by decide)
        · exact ⟨X, by rw [h2]; rfl, hf0.trans h1, h3.disk, hfine, ⟨by rw [hX]; exact hck.on, by rw [hX]; exact hck.safe, fun _ => ⟨place, by rw [hX]; exact hck.all (by rw [← hX]; exact h2), by
            have : X = (X.1, true) := Prod.ext rfl h2
            rw [this] at h3; exact h3⟩⟩, fun e => (by rw [h2] at e; cases e), fun ha => by rw [hX]; exact hfree ha⟩
  exact key.mono fun e w' ⟨r, he, x, hr, hF, hD, h5, h6, h7, h8⟩ => ⟨x, by rw [he, hr], hF.hi hB, hD, h5, h6, h7, h8⟩
end Go.Proofs.YteggaeopnljgnaaGreatDoor
