/-
  Several texts in one (RedCma, RedCm, RedSmall, RedAllow, RedCommit, RedCom, RedComA).
-/
import Derived.Test.YtfcocbgdmmeikaaGreatDoorMRedB
import Derived.Deep.DeepCutAuto
/-! ## Package redo: a transaction is laid down, and its writes are done. -/
namespace Go.Proofs.YtfcocbgdmmeikaaGreatDoor
open Go.RowKit Dsk

/-- Variables of a log stay. -/
def LxL (u u' : World) : Prop := ∀ (c : Nat) C fr, u.heap[c]? = some (Obj.cells C 43 fr) → ∃ C' fr', u'.heap[c]? = some (Obj.cells C' 43 fr')
theorem LxL.refl (u : World) : LxL u u := fun _ C fr h => ⟨C, fr, h⟩
theorem LxL.alloc (u : World) (o : Obj) : LxL u (u.alloc o) := fun c C fr h => ⟨C, fr, (((Below.refl u.heap.size u).alloc (Nat.le_refl _) o).block c (Array.getElem?_eq_some_iff.1 h).1).trans h⟩
theorem LxL.set {u : World} {b : Nat} {D : Array Value} (hb : u.heap[b]? = some (.cells D 43 (0, 0))) (v : Value) : LxL u (u.setCell ⟨b, 0, none⟩ v) := by
  intro c C fr h
  by_cases e : c = b
  · subst e; exact ⟨_, _, heap_set hb v⟩
  · exact ⟨C, fr, (heap_far e v).trans h⟩
/-- A pointer to a variable of a log, not below B. -/
def NewL (B : Nat) : RX LxL := ⟨fun v u => ∃ c, v = .pointer (some ⟨c, 0, none⟩) ∧ B ≤ c ∧ ∃ C fr, u.heap[c]? = some (Obj.cells C 43 fr), fun _v _u _u' ⟨c, h1, h2, C, fr, h3⟩ hl => ⟨c, h1, h2, hl c C fr h3⟩⟩
/-- No new variable of a log; one, empty; one, with the log. -/
def PhL (wb : World) (l k : Nat) (u : World) : Prop := Below wb.heap.size wb u ∧
  (k = 0 → ∀ (c : Nat) C fr, wb.heap.size ≤ c → u.heap[c]? ≠ some (Obj.cells C 43 fr)) ∧
  (0 < k → ∃ c0, wb.heap.size ≤ c0 ∧ u.heap[c0]? = some (Obj.cells #[.pointer (if k = 1 then none else some ⟨l, 0, none⟩)] 43 (0, 0)) ∧ ∀ (c : Nat) C fr, wb.heap.size ≤ c → u.heap[c]? = some (Obj.cells C 43 fr) → c = c0)
theorem PhL.start (wb : World) (l : Nat) : PhL wb l 0 wb.drew := ⟨below_drew (Below.refl _ _), fun _ c C fr hc h => by
  have h1 : wb.heap[c]? = some _ := h
  have := (Array.getElem?_eq_some_iff.1 h1).1
  omega, fun h => absurd h (Nat.lt_irrefl 0)⟩
theorem heap_alloc_past {u : World} {o x : Obj} {c : Nat} (h : (u.alloc o).heap[c]? = some x) : u.heap[c]? = some x ∨ (c = u.heap.size ∧ x = o) := by
  by_cases hc : c < u.heap.size
  · exact .inl ((((Below.refl u.heap.size u).alloc (Nat.le_refl _) o).block c hc).symm.trans h)
  · have h1 := (Array.getElem?_eq_some_iff.1 h).1
    have h2 : (u.alloc o).heap.size = u.heap.size + 1 := World.size_alloc _ _
    have e : c = u.heap.size := by omega
    subst e
    rw [heap_alloc_last u o] at h
    exact .inr ⟨rfl, (Option.some.inj h).symm⟩
theorem PhL.grow {wb u : World} {l k : Nat} (h : PhL wb l k u) {D : Array Value} {T : TypeId} (fr0 : Nat × Nat := (0, 0)) (hT : T ≠ 43) : PhL wb l k (u.alloc (.cells D T fr0)) := by
  refine ⟨h.1.alloc h.1.size _, fun hk c C fr hc e => ?_, fun hk => ?_⟩
  · rcases heap_alloc_past e with e | ⟨_, e⟩
    · exact h.2.1 hk c C fr hc e
    · injection e with _ e; exact hT e.symm
  · obtain ⟨c0, h1, h2, h3⟩ := h.2.2 hk
    refine ⟨c0, h1, (((Below.refl u.heap.size u).alloc (Nat.le_refl _) _).block c0 (Array.getElem?_eq_some_iff.1 h2).1).trans h2, fun c C fr hc e => ?_⟩
    rcases heap_alloc_past e with e | ⟨_, e⟩
    · exact h3 c C fr hc e
    · injection e with _ e; exact absurd e.symm hT
theorem PhL.made {wb u : World} {l : Nat} (h : PhL wb l 0 u) : PhL wb l 1 (u.alloc (.cells #[.pointer none] 43)) := by
  refine ⟨h.1.alloc h.1.size _, fun hk => absurd hk (by decide), fun _ => ⟨u.heap.size, h.1.size, heap_alloc_last u _, fun c C fr hc e => ?_⟩⟩
  rcases heap_alloc_past e with e | ⟨e, _⟩
  · exact absurd e (h.2.1 rfl c C fr hc)
  · exact e
theorem PhL.at1 {wb u : World} {l c : Nat} {C : Array Value} {fr : Nat × Nat} (h : PhL wb l 1 u) (hc : wb.heap.size ≤ c) (h2 : u.heap[c]? = some (Obj.cells C 43 fr)) : u.heap[c]? = some (Obj.cells #[.pointer none] 43 (0, 0)) ∧ PhL wb l 2 (u.setCell ⟨c, 0, none⟩ (.pointer (some ⟨l, 0, none⟩))) := by
  obtain ⟨c0, e1, e2, e3⟩ := h.2.2 (by decide)
  obtain rfl := e3 c C fr hc h2
  rw [if_pos rfl] at e2
  refine ⟨e2, h.1.setCell (p := ⟨c, 0, none⟩) hc _, fun hk => absurd hk (by decide), fun _ => ⟨c, hc, heap_set e2 _, fun c' C' fr' hc' e => ?_⟩⟩
  by_cases hcc : c' = c
  · exact hcc
  · rw [heap_far hcc] at e
    exact e3 c' C' fr' hc' e
theorem PhL.at2 {wb u : World} {l c : Nat} {C : Array Value} {fr : Nat × Nat} (h : PhL wb l 2 u) (hc : wb.heap.size ≤ c) (h2 : u.heap[c]? = some (Obj.cells C 43 fr)) : ClosL c l u := by
  obtain ⟨c0, e1, e2, e3⟩ := h.2.2 (by decide)
  obtain rfl := e3 c C fr hc h2
  exact e2
theorem mid_step' (G : Jnl.Geo) : ∀ (t : Jnl.Txn) (c k : Nat) (h : k < t.length), Jnl.midOps G c (t.take (k + 1)) = Jnl.midOps G c (t.take k) ++ [.w (G.sl (c + k)) t[k].2]
  | x :: t, c, 0, _ => by simp [Jnl.midOps]
  | x :: t, c, k + 1, h => by
    have ih := mid_step' G t (c + 1) k (by simpa using h)
    simp only [List.take_succ_cons, Jnl.midOps, List.getElem_cons_succ]
    rw [ih, show c + 1 + k = c + (k + 1) by omega]
    rfl
theorem mid_len (G : Jnl.Geo) : ∀ (t : Jnl.Txn) (c : Nat), (Jnl.midOps G c t).length = t.length
  | [], _ => rfl
  | _ :: t, c => by simp [Jnl.midOps, mid_len G t]

/-- What a commit has all along: its log, its variables. -/
structure CmSt (S : Nat → Prop) (l p : Nat) (G : Jnl.Geo) (place seq used : Nat) (w : World) (c b0 : Nat) (vv : Value) (x : Dk × Bool) (u : World) : Prop where
  log : LogS S l p G place seq used x u
  fr : FrL l S w u
  clo : ClosL c l u
  box : u.heap[b0]? = some (.cells #[.pointer (some ⟨l, 0, none⟩), vv] 106 (0, 0))
  hcl : c ≠ l
  hbl : b0 ≠ l
  up : Up S u
  tw : TW u
  s0 : ¬ S 0
section
variable {S : Nat → Prop} {l p : Nat} {G : Jnl.Geo} {place seq used : Nat} {w : World} {c b0 : Nat} {vv : Value} {x x' : Dk × Bool} {u u' : World}
theorem CmSt.next (h : CmSt S l p G place seq used w c b0 vv x u) (hl : LogS S l p G place seq used x' u') (hf : FrL l S u u') : CmSt S l p G place seq used w c b0 vv x' u' :=
  ⟨hl, h.fr.trans hf, h.clo.kept h.hcl hf, (hf.other _ _ _ _ h.hbl h.box (by decide) (by decide) (by decide)).trans h.box, h.hcl, h.hbl, h.up.mono hf.size, h.tw.fr hf.fr h.s0, h.s0⟩
theorem CmSt.old (h : CmSt S l p G place seq used w c b0 vv x u) (hb : Below u.heap.size u u') : CmSt S l p G place seq used w c b0 vv x u' := h.next (h.log.old hb) (FrL.of_below hb)
theorem CmSt.drew (h : CmSt S l p G place seq used w c b0 vv x u) : CmSt S l p G place seq used w c b0 vv x u.drew := h.old (below_drewN' 1)
theorem CmSt.set (h : CmSt S l p G place seq used w c b0 vv x u) {place' seq' used' : Nat} {o : Nat} {v : Value} (hp : (u.setCell ⟨l, o, none⟩ v).heap[l]? = some (.cells (Value.pointer (some ⟨p, 0, none⟩) :: .int .i64 (eOf x.2) :: logC G place' seq' used').toArray 98 (0, 0))) : CmSt S l p G place' seq' used' w c b0 vv x (u.setCell ⟨l, o, none⟩ v) := by
  have ho : Only l u (u.setCell ⟨l, o, none⟩ v) := (Only.refl _ _).setCell _ _
  have hf : FrL l S u (u.setCell ⟨l, o, none⟩ v) := FrL.of_only ho h.log.sb
  have hk := h.next h.log (FrL.refl l S u)
  exact ⟨⟨h.log.sb, h.log.disk.only h.log.pen h.log.t1 h.log.t2 h.log.t3 ho, hp, h.log.t1, h.log.t2, h.log.t3⟩, h.fr.trans hf, h.clo.kept h.hcl hf, (hf.other _ _ _ _ h.hbl h.box (by decide) (by decide) (by decide)).trans h.box, h.hcl, h.hbl, h.up.mono hf.size, h.tw.fr hf.fr h.s0, h.s0⟩
theorem CmSt.place_set (h : CmSt S l p G place seq used w c b0 vv x u) {n : Nat} : CmSt S l p G n seq used w c b0 vv x (u.setCell ⟨l, 4, none⟩ (.int .i64 (n : Int))) := h.set (heap_set h.log.pen _)
theorem CmSt.seq_set (h : CmSt S l p G place seq used w c b0 vv x u) {n : Nat} : CmSt S l p G place n used w c b0 vv x (u.setCell ⟨l, 5, none⟩ (.int .i64 (n : Int))) := h.set (heap_set h.log.pen _)
theorem CmSt.used_set (h : CmSt S l p G place seq used w c b0 vv x u) {n : Nat} : CmSt S l p G place seq n w c b0 vv x (u.setCell ⟨l, 6, none⟩ (.int .i64 (n : Int))) := h.set (heap_set h.log.pen _)
theorem CmSt.put (h : CmSt S l p G place seq used w c b0 vv x u) (hN : x.1.lies.length = G.N) (hN2 : G.N ≤ 65536) (hp : place < G.m) {i : Nat} (hi : i ≤ 1000) {X : ByteArray} (hX : X.size = 256) (hb : Bd x 1) {z : Int} (hz : z = (i : Int)) :
    Calls Tryz.prog 88 #[.int .i64 z, .string X, .pointer (some ⟨c, 0, none⟩)] u fun e w' => e = .returned (.tuple #[]) ∧ CmSt S l p G place seq used w c b0 vv (gos x [.w (G.sl (place + i)) X]) w' ∧ FrL l S u w' := by
  subst hz
  exact (put_slot S l p G place seq used x c i X u h.log h.up h.clo h.hcl hN hN2 hp hi hX hb).mono fun e w' ⟨h1, h2, h3, _⟩ => ⟨h1, h.next h2 h3, h3⟩
theorem CmSt.flush (h : CmSt S l p G place seq used w c b0 vv x u) (hb : Bd x 1) :
    Calls Tryz.prog 50 #[.pointer (some ⟨l, 0, none⟩)] u fun e w' => e = .returned (.tuple #[]) ∧ CmSt S l p G place seq used w c b0 vv (gos x [.f]) w' :=
  (pflush_any S l p _ _ x u h.log h.up hb).mono fun _e _w' ⟨h1, h2, h3⟩ => ⟨h1, h.next h2 h3⟩
end
/-- Rows of numbers stay. -/
def LxI (u u' : World) : Prop := ∀ q L, IntRow q L u → IntRow q L u'
theorem LxI.of_below {u u' : World} (h : Below u.heap.size u u') : LxI u u' := fun q _L hq => (h.block q (Array.getElem?_eq_some_iff.1 hq).1).trans hq
theorem LxI.of_frl {S : Nat → Prop} {l p : Nat} {rest : List Value} {x : Dk × Bool} {u u' : World} (h : FrL l S u u') (hl : Sys S l p 98 rest x u) : LxI u u' := fun q L hq => (h.other q _ _ _ (fun e => by
  have h1 := hl.pen
  rw [← e, hq] at h1
  simp at h1) hq (by decide) (by decide) (by decide)).trans hq
def IntsX (n : Nat) (L : List Int) : RX LxI := ⟨fun v u => ∃ q, v = .slice (some ⟨q, 0, none⟩) n n ∧ IntRow q L u, fun _v _u _u' ⟨q, h1, h2⟩ hl => ⟨q, h1, hl q L h2⟩⟩
/-- The sectors of writes. -/
def atI (t : Jnl.Txn) : List Int := t.map fun y => ((y.1 : Nat) : Int)
theorem atI_len (t : Jnl.Txn) : (atI t).length = t.length := List.length_map _
theorem atI_nat (t : Jnl.Txn) : atI t = (t.map Prod.fst).map fun y => ((y : Nat) : Int) := by unfold atI; rw [List.map_map]; rfl
theorem zT_fst (t : Jnl.Txn) : (zT t).map Prod.fst = atI t := by unfold zT atI; rw [List.map_map]; rfl
theorem atI_bd (t : Jnl.Txn) (h : ∀ y ∈ t, y.1 ≤ 65536) (j : Nat) : -9223372036854775808 ≤ (atI t).getD j 0 ∧ (atI t).getD j 0 ≤ 9223372036854775807 := by
  unfold atI
  rw [List.getD_eq_getElem?_getD, List.getElem?_map]
  cases hj : t[j]? with
  | none => simp
  | some y =>
    have := h y (List.mem_of_getElem? hj)
    simp
    omega
theorem atsK_nat (l : List Nat) (h60 : l.length ≤ 60) (h : ∀ y ∈ l, y ≤ 65535) : atsK (l.map fun y => ((y : Nat) : Int)) = l := by
  unfold atsK
  rw [List.take_of_length_le (by rw [List.length_map]; exact h60), List.map_map]
  conv => rhs; rw [← List.map_id l]
  exact List.map_congr_left fun y hy => keptN_id y 65535 (h y hy)
theorem rem_nat (a b r : Nat) (h : r = a % b) (hb : 0 < b) (hb2 : b ≤ 65536) (w : World) : (binOp .rem 3 (.int .i64 (a : Int)) (.int .i64 (b : Int))).run Tryz.prog w = .ok (.int .i64 (r : Int)) w := by
  have h0 : ¬ (b : Int) = 0 := by omega
  have h1 : ((a : Int).tmod (b : Int)) = (r : Int) := by rw [h, Int.ofNat_tmod]
  have h2 : r < b := by rw [h]; exact Nat.mod_lt _ hb
  go_simp
  omega
end Go.Proofs.YtfcocbgdmmeikaaGreatDoor
/-! ## Package redo: a transaction is laid down, and its writes are done. -/
namespace Go.Proofs.YtfcocbgdmmeikaaGreatDoor
open Go.RowKit Dsk

set_option maxHeartbeats 6400000 in
set_option maxRecDepth 100000 in
theorem commit_run (S : Nat → Prop) (l p : Nat) (G : Jnl.Geo) (place seq used : Nat) (x : Dk × Bool) (v : Value) (t : Jnl.Txn) (g : Nat) (w : World) (h : LogS S l p G place seq used x w) (hu : Up S w) (hS0 : ¬ S 0) (hT : TW w) (hv : PutsR w v (zT t) g) (hg : g < w.heap.size → ¬ S g)
    (hN : x.1.lies.length = G.N) (hN2 : G.N ≤ 65536) (hp : place < G.m) (hq : seq ≤ 549755813888) (hus : used ≤ 65536) (ht : ∀ y ∈ t, y.1 < G.N ∧ y.2.size = 256) (ht60 : t.length ≤ 60) (hb : Bd x 200) :
    Calls Tryz.prog 62 #[txnV l v] w fun e w' => e = .returned (.int .i64 (eOf (gos x (Jnl.cmOps RL G place seq t)).2)) ∧ FrL l S w w' ∧
      ((gos x (Jnl.cmOps RL G place seq t)).2 = true → LogS S l p G ((place + (t.length + 2)) % G.m) (seq + 1) (used + (t.length + 2)) (gos x (Jnl.cmOps RL G place seq t)) w') ∧
      ((gos x (Jnl.cmOps RL G place seq t)).2 = false → LogS S l p G place seq used (gos x (Jnl.cmOps RL G place seq t)) w') := by
  have hv0 := hv
  obtain ⟨a, cap, rfl, hl, hc⟩ := hv
  rw [zT_len] at hl hc
  have hv1 := hv0
  rw [zT_len] at hv1
  have hsz := fun u => txnSize_any l a t.length cap u (by omega)
  have HV := Lib.hid hv1
  have HC := Lib.hid hc
  unfold txnV at hsz ⊢
  rw [zT_len]
  have E : Jnl.cmOps RL G place seq t = [.w (G.sl (place + (t.length + 1))) zeroB] ++ ([.w (G.sl (place + (t.length + 2))) zeroB] ++ ([.f] ++ ([.w (G.sl place) (fsL seq (t.map Prod.fst))] ++ (Jnl.midOps G (place + 1) t ++ ([.f] ++ ([.w (G.sl (place + (t.length + 1))) (lsL seq t.length)] ++ ([.f] ++ Jnl.wOps t))))))) := by
    unfold Jnl.cmOps
    simp [RL]
  have hmG := G.m3
  have hGh := G.h
  have hat : ∀ y ∈ t.map Prod.fst, y ≤ 65535 := by
    intro y hy
    obtain ⟨z, hz, rfl⟩ := List.mem_map.1 hy
    have := (ht z hz).1
    omega
  have hfz : (fsL seq (t.map Prod.fst)).size = 256 := line_size (fits_first (by omega) (by rw [List.length_map]; exact ht60) hat)
  have hlz : (lsL seq t.length).size = 256 := line_size (fits_two _ rfl (by omega) (by omega))
  have hfs : ∀ u q, TW u → IntRow q (atI t) u → Calls Tryz.prog 9 #[.int .i64 (seq : Int), .slice (some ⟨q, 0, none⟩) t.length t.length] u fun e w' => e = .returned (.string (fsL seq (t.map Prod.fst))) ∧ Below u.heap.size u w' := by
    intro u q hu1 hq1
    have hI := IntRow.ints hq1 (by rw [atI_len]; omega)
    rw [atI_len] at hI
    have := fsl_any (seq : Int) _ _ q u hu1 hI (atI_bd t fun y hy => by have := (ht y hy).1; omega) (by omega) (by omega)
    rw [keptN_id _ _ (by omega), atI_nat, atsK_nat _ (by rw [List.length_map]; exact ht60) hat] at this
    exact this
  have hls : ∀ u, TW u → Calls Tryz.prog 11 #[.int .i64 (seq : Int), .int .i64 (t.length : Int)] u fun e w' => e = .returned (.string (lsL seq t.length)) ∧ Below u.heap.size u w' := by
    intro u hu1
    have := lsl_any (seq : Int) (t.length : Int) u hu1 (by omega) (by omega) (by omega) (by omega)
    rw [keptN_id _ _ (by omega), keptN_id _ _ (by omega)] at this
    exact this
  have hse : ∀ u, FrL l S w u → Calls Tryz.prog 89 #[.agg #[.pointer (some ⟨l, 0, none⟩), .slice a t.length cap]] u fun e w' => ∃ q, e = .returned (.slice (some ⟨q, 0, none⟩) t.length t.length) ∧ IntRow q (atI t) w' ∧ Below u.heap.size u w' := by
    intro u hf
    have hv2 : PutsR u (.slice a t.length cap) (zT t) g := HV.out.kept fun hlt => ⟨Nat.lt_of_lt_of_le hlt hf.size, hf.fr.block g hlt (hg hlt)⟩
    have := sectors_txn l _ (zT t) g u hv2 (by rw [zT_len]; omega)
    rw [zT_len, zT_fst] at this
    exact this
  rw [E, gos_append, gos_append, gos_append, gos_append, gos_append, gos_append, gos_append, gos_append]
  obtain ⟨n1, hn1⟩ : ∃ n1, n1 = t.length + 1 := ⟨_, rfl⟩
  have P1 := fun c b0 u (st : CmSt S l p G place seq used w c b0 (.slice a t.length cap) x u) => st.put hN hN2 hp (i := t.length + 1) (by omega) zeroB_size (hb.mono (by omega)) (z := (n1 : Int)) (by omega)
  have B1 : Bd (gos x [.w (G.sl (place + (t.length + 1))) zeroB]) 199 := Bd.gos (show Bd x (1 + 199) from hb)
  have N1 : (gos x [.w (G.sl (place + (t.length + 1))) zeroB]).1.lies.length = G.N := (gos_len _ _).trans hN
  generalize gos x [.w (G.sl (place + (t.length + 1))) zeroB] = x1 at *
  have P2 := fun c b0 u (st : CmSt S l p G place seq used w c b0 (.slice a t.length cap) x1 u) => st.put N1 hN2 hp (i := t.length + 2) (by omega) zeroB_size (B1.mono (by omega)) (z := (n1 : Int) + 1) (by omega)
  have B2 : Bd (gos x1 [.w (G.sl (place + (t.length + 2))) zeroB]) 198 := Bd.gos (show Bd x1 (1 + 198) from B1)
  have N2 : (gos x1 [.w (G.sl (place + (t.length + 2))) zeroB]).1.lies.length = G.N := (gos_len _ _).trans N1
  generalize gos x1 [.w (G.sl (place + (t.length + 2))) zeroB] = x2 at *
  have P3 := fun c b0 u (st : CmSt S l p G place seq used w c b0 (.slice a t.length cap) x2 u) => st.flush (B2.mono (by omega))
  have B3 : Bd (gos x2 [.f]) 197 := Bd.gos (show Bd x2 (1 + 197) from B2)
  have N3 : (gos x2 [.f]).1.lies.length = G.N := (gos_len _ _).trans N2
  generalize gos x2 [.f] = x3 at *
  have P4f' := fun c b0 u (st : CmSt S l p G place seq used w c b0 (.slice a t.length cap) x3 u) => st.put N3 hN2 hp (i := 0) (by omega) hfz (B3.mono (by omega)) (z := 0) rfl
  rw [Nat.add_zero] at P4f'
  have B4 : Bd (gos x3 [.w (G.sl place) (fsL seq (t.map Prod.fst))]) 196 := Bd.gos (show Bd x3 (1 + 196) from B3)
  have N4 : (gos x3 [.w (G.sl place) (fsL seq (t.map Prod.fst))]).1.lies.length = G.N := (gos_len _ _).trans N3
  generalize gos x3 [.w (G.sl place) (fsL seq (t.map Prod.fst))] = x4 at *
  have P5 := fun c b0 u k (hk : k < t.length) (st : CmSt S l p G place seq used w c b0 (.slice a t.length cap) (gos x4 (Jnl.midOps G (place + 1) (t.take k))) u) => st.put ((gos_len _ _).trans N4) hN2 hp (i := 1 + k) (by omega) (ht t[k] (List.getElem_mem hk)).2 (Bd.gos (by rw [mid_len, List.length_take]; exact B4.mono (by omega))) (z := 1 + (k : Int)) (by omega)
  have B5 : Bd (gos x4 (Jnl.midOps G (place + 1) t)) 136 := Bd.gos (by rw [mid_len]; exact B4.mono (by omega))
  have N5 : (gos x4 (Jnl.midOps G (place + 1) t)).1.lies.length = G.N := (gos_len _ _).trans N4
  obtain ⟨x5, hx5⟩ : ∃ x5, x5 = gos x4 (Jnl.midOps G (place + 1) t) := ⟨_, rfl⟩
  rw [← hx5] at B5 N5 ⊢
  have P6 := fun c b0 u (st : CmSt S l p G place seq used w c b0 (.slice a t.length cap) x5 u) => st.flush (B5.mono (by omega))
  have B6 : Bd (gos x5 [.f]) 135 := Bd.gos (show Bd x5 (1 + 135) from B5)
  have N6 : (gos x5 [.f]).1.lies.length = G.N := (gos_len _ _).trans N5
  generalize gos x5 [.f] = x6 at *
  have P7' := fun c b0 u (st : CmSt S l p G place seq used w c b0 (.slice a t.length cap) x6 u) => st.put N6 hN2 hp (i := t.length + 1) (by omega) hlz (B6.mono (by omega)) (z := (n1 : Int)) (by omega)
  have B7 : Bd (gos x6 [.w (G.sl (place + (t.length + 1))) (lsL seq t.length)]) 134 := Bd.gos (show Bd x6 (1 + 134) from B6)
  have N7 : (gos x6 [.w (G.sl (place + (t.length + 1))) (lsL seq t.length)]).1.lies.length = G.N := (gos_len _ _).trans N6
  generalize gos x6 [.w (G.sl (place + (t.length + 1))) (lsL seq t.length)] = x7 at *
  have P8 := fun c b0 u (st : CmSt S l p G place seq used w c b0 (.slice a t.length cap) x7 u) => st.flush (B7.mono (by omega))
  have B8 : Bd (gos x7 [.f]) 133 := Bd.gos (show Bd x7 (1 + 133) from B7)
  have N8 : (gos x7 [.f]).1.lies.length = G.N := (gos_len _ _).trans N7
  generalize gos x7 [.f] = x8 at *
  have P9 : ∀ c b0 u, CmSt S l p G place seq used w c b0 (.slice a t.length cap) x8 u → Calls Tryz.prog 83 #[.pointer (some ⟨l, 0, none⟩), .slice a t.length cap] u fun e w' => e = .returned (.tuple #[]) ∧ CmSt S l p G place seq used w c b0 (.slice a t.length cap) (gos x8 (Jnl.wOps t)) w' := by
    intro c b0 u st
    have hv2 : PutsR u (.slice a t.length cap) (zT t) g := HV.out.kept fun hlt => ⟨Nat.lt_of_lt_of_le hlt st.fr.size, st.fr.fr.block g hlt (hg hlt)⟩
    by_cases hgl : g < w.heap.size
    · exact (writeAll_any S l p G place seq used x8 _ t g u st.log st.up hv2 (fun _ => hg hgl) (fun y hy => by rw [N8]; exact ht y hy) (B8.mono (by omega))).mono fun e w' ⟨h1, h2, h3⟩ => ⟨h1, st.next h2 h3⟩
    · have e0 : t = [] := by
        by_cases e : zT t = []
        · exact List.map_eq_nil_iff.1 e
        · obtain ⟨_, _, hh, _⟩ := HC.out e
          exact absurd hh hgl
      have hv3 : PutsR u (.slice a t.length cap) (zT t) u.heap.size := by
        obtain ⟨a', cap', e1, e2, _⟩ := hv2
        exact ⟨a', cap', e1, e2, fun hn => absurd (by rw [e0]; rfl) hn⟩
      exact (writeAll_any S l p G place seq used x8 _ t u.heap.size u st.log st.up hv3 (fun hh => absurd hh (Nat.lt_irrefl _)) (fun y hy => by rw [N8]; exact ht y hy) (B8.mono (by omega))).mono fun e w' ⟨h1, h2, h3⟩ => ⟨h1, st.next h2 h3⟩
  generalize gos x8 (Jnl.wOps t) = x9 at *
  generalize fsL seq (t.map Prod.fst) = Fl at *
  generalize lsL seq t.length = Ll at *
  have hn1b : n1 ≤ 61 := by omega
  have HX5 := Lib.hid hx5
  have HN1 := Lib.hid hn1
  have HTT := Lib.hid ht
  have HMF := Lib.hid G.h
  have HP1 := Lib.hid P1
  have HP2 := Lib.hid P2
  have HP3 := Lib.hid P3
  have HP4 := Lib.hid P4f'
  have HP5 := Lib.hid P5
  have HP6 := Lib.hid P6
  have HP7 := Lib.hid P7'
  have HP8 := Lib.hid P8
  have HP9 := Lib.hid P9
  have HFS := Lib.hid hfs
  have HLS := Lib.hid hls
  have HSE := Lib.hid hse
  clear P1 P2 P3 P4f' P5 P6 P7' P8 P9 hfs hls hse hmG hGh
  clear E B1 B2 B3 B4 B5 B6 B7 B8 N1 N2 N3 N4 N5 N6 N7 N8 hx5 hn1 ht hat hfz hlz
  obtain ⟨wb, hwb⟩ : ∃ wb, wb = w.alloc (.cells #[.pointer (some ⟨l, 0, none⟩), .slice a t.length cap] 106) := ⟨_, rfl⟩
  obtain ⟨b0, hb0⟩ : ∃ b0, b0 = w.heap.size := ⟨_, rfl⟩
  have bb : Below w.heap.size w wb := by rw [hwb]; exact (Below.refl _ _).alloc (Nat.le_refl _) _
  have sb : wb.heap.size = b0 + 1 := by rw [hwb, hb0]; simp
  have tb : wb.heap[b0]? = some (.cells #[.pointer (some ⟨l, 0, none⟩), .slice a t.length cap] 106 (0, 0)) := by rw [hwb, hb0]; exact heap_alloc_last w _
  have cb0 : wb.cell? ⟨b0, 0, none⟩ = some (.pointer (some ⟨l, 0, none⟩)) := cell_of tb 0
  have cb1 : wb.cell? ⟨b0, 1, none⟩ = some (.slice a t.length cap) := cell_of tb 1
  have hbl : b0 ≠ l := by rw [hb0]; have := h.lt; omega
  have SB := Lib.hid sb
  have TB := Lib.hid tb
  clear hv0 hv1 hc sb tb
  go_enter Tryz.func62, Tryz.ntmps62
  go_upto_region 1 with fail
  rw [← hwb, ← hb0]
  clear hwb
  have HB0 := Lib.hid hb0
  clear hb0
  have sb := SB.out
  have tb := TB.out
  have hsi := fun u => txnSize_is l a t.length cap u (by omega)
  unfold txnV at hsi
  try simp only [Act.put]
  refine wp_region_eff (Lx := LxL) [RX.is (.pointer (some ⟨b0, 0, none⟩)), RX.is (.pointer (some ⟨l, 0, none⟩)), RX.is (.agg #[.pointer (some ⟨l, 0, none⟩), .slice a t.length cap]), RX.is (.int .i64 ((t.length + 2 : Nat) : Int)), RX.is (.int .i64 (n1 : Int)), NewL wb.heap.size, RX.any, RX.is (.int .i64 (n1 : Int))] [5, 6] (PhL wb l) (by kernel_rfl) (by kernel_rfl) (by kernel_rfl) (by kernel_rfl) (by kernel_rfl) (PhL.start wb l) ⟨?_, ?_, ?_, ?_, ?_, ?_, ?_, ?_, trivial⟩ ?_
  · intro ac w' ph hF hPh hlt hP hU K hK0
    have e1 : ac.eval (.tmp 1) = .pointer (some ⟨b0, 0, none⟩) := hF.at 1 (by kernel_rfl)
    exact rop_fld _ _ _ rfl e1 ((txnFld b0 _).1) (wanted_none rfl) (hK0 _ _ (LxL.refl _) hPh rfl)
  · intro ac w' ph hF hPh hlt hP hU K hK0
    have e8 : ac.eval (.tmp 8) = .pointer (some ⟨b0, 0, none⟩) := hP 0 (by kernel_rfl)
    exact rop_ld _ _ rfl e8 (load_logp (cell_of ((hPh.1.block b0 (by omega)).trans tb) 0)) (wanted_none rfl) (hK0 _ _ (LxL.refl _) hPh rfl)
  · intro ac w' ph hF hPh hlt hP hU K hK0
    have e1 : ac.eval (.tmp 1) = .pointer (some ⟨b0, 0, none⟩) := hF.at 1 (by kernel_rfl)
    exact rop_ld _ _ rfl e1 (load_txn (cell_of ((hPh.1.block b0 (by omega)).trans tb) 0) (cell_of ((hPh.1.block b0 (by omega)).trans tb) 1)) (wanted_none rfl) (hK0 _ _ (LxL.refl _) hPh rfl)
  · intro ac w' ph hF hPh hlt hP hU K hK0
    have e10 : ac.eval (.tmp 10) = .agg #[.pointer (some ⟨l, 0, none⟩), .slice a t.length cap] := hP 2 (by kernel_rfl)
    refine rop_call 87 _ _ rfl #[.agg #[.pointer (some ⟨l, 0, none⟩), .slice a t.length cap]] (by simp [e10]) (by kernel_rfl) (wanted_none rfl) ?_
    refine (hsi _).mono ?_
    rintro e w2 ⟨rfl, rfl⟩
    exact ⟨_, rfl, hK0 _ _ (LxL.alloc _ _) (hPh.grow _ (by decide)) rfl⟩
  · intro ac w' ph hF hPh hlt hP hU K hK0
    have e11 : ac.eval (.tmp 11) = .int .i64 ((t.length + 2 : Nat) : Int) := hP 3 (by kernel_rfl)
    exact rop_bin _ _ _ _ _ rfl e11 rfl (guard_int _ _ _ _ _ _ _ _) (sub_int _ _ _ (by have := HN1.out; omega) (by have := HN1.out; omega) _) (wanted_none rfl) (hK0 _ _ (LxL.refl _) hPh rfl)
  · intro ac w' ph hF hPh hlt hP hU K hK0
    obtain rfl : ph = 0 := (hlt 0 5 rfl).1 rfl
    exact rop_alloc _ rfl (alloc_logp _) (wanted_none rfl) (hK0 _ _ (LxL.alloc _ _) hPh.made ⟨w'.heap.size, rfl, hPh.1.size, _, _, heap_alloc_last w' _⟩)
  · intro ac w' ph hF hPh hlt hP hU K hK0
    obtain rfl : ph = 1 := (hlt 1 6 rfl).1 rfl
    have e9 : ac.eval (.tmp 9) = .pointer (some ⟨l, 0, none⟩) := hP 1 (by kernel_rfl)
    obtain ⟨c, e3, hc1, C, fr, hc2⟩ : (NewL wb.heap.size).p (ac.eval (.tmp 3)) w' := hP 5 (by kernel_rfl)
    obtain ⟨h1, h2⟩ := hPh.at1 hc1 hc2
    exact rop_store _ _ _ rfl e3 e9 (store_logp h1) (wanted_none rfl) (hK0 undef _ (LxL.set h1 _) h2 trivial)
  · intro ac w' ph hF hPh hlt hP hU K hK0
    have e12 : ac.eval (.tmp 12) = .int .i64 (n1 : Int) := hP 4 (by kernel_rfl)
    exact rop_assign _ rfl e12 (wanted_none rfl) (hK0 _ _ (LxL.refl _) hPh rfl)
  · intro ac w' hF hPh hT'
    obtain ⟨c, e3, hc1, C, fr, hc2⟩ : (NewL wb.heap.size).p (ac.eval (.tmp 3)) w' := hT' 5 (by decide)
    have e4 : ac.eval (.tmp 4) = .int .i64 (n1 : Int) := hT' 7 (by decide)
    have hcl := hPh.at2 hc1 hc2
    have hbw := hPh.1
    rw [hF.sets [8, 9, 10, 11, 12, 3, 4] (by kernel_rfl)]
    simp only [List.foldl_cons, List.foldl_nil, List.setIfInBounds_toArray, List.set_cons_succ, List.set_cons_zero, e3, e4]
    generalize ac.eval (.tmp 8) = u8
    generalize ac.eval (.tmp 9) = u9
    generalize ac.eval (.tmp 10) = u10
    generalize ac.eval (.tmp 11) = u11
    generalize ac.eval (.tmp 12) = u12
    clear e3 e4 hT' hF ac
    have hcl' : c ≠ l := by have := h.lt; have := bb.size; omega
    have st : CmSt S l p G place seq used w c b0 (.slice a t.length cap) x w' := ⟨h.old (bb.trans (hbw.mono bb.size)), FrL.of_below (bb.trans (hbw.mono bb.size)), hcl, (hbw.block b0 (by omega)).trans tb, hcl', hbl, hu.mono (Nat.le_trans bb.size hbw.size), hT.old (bb.trans (hbw.mono bb.size)), hS0⟩
    have HSZ := Lib.hid hsz
    have hmf : ∀ (fn : Fn) (first cap : Array Value) (w : World), (Instr.makeFunc fn first cap).run Tryz.prog w = .ok (.func fn first cap) w := fun _ _ _ _ => rfl
    clear hcl hbw tb sb hsi hc1 hc2 bb SB TB cb0 cb1 hPh hsz h hT hu
    have q1 := HP1.out c b0
    go_upto_region 4 with (first
      | (go_at_call 49; refine (zerosR_any _).mono ?_; rintro e wz ⟨rfl, bz⟩; have sz := st.old bz; clear bz)
      | (go_at_call 88; refine (q1 _ sz).mono ?_; rintro e w2 ⟨rfl, st2, _⟩))
    clear st sz q1
    have q2 := HP2.out c b0
    go_upto_region 5 with (first
      | (go_at_call 49; refine (zerosR_any _).mono ?_; rintro e wz2 ⟨rfl, bz⟩; have sz := st2.old bz; clear bz)
      | (go_at_call 88; refine (q2 _ sz).mono ?_; rintro e w3 ⟨rfl, st3, _⟩))
    clear st2 sz q2
    have q3 := HP3.out c b0
    have c3 : w3.cell? ⟨c, 0, none⟩ = some (.pointer (some ⟨l, 0, none⟩)) := cell_of st3.clo 0
    go_upto_region 6 with (go_at_call 50; refine (q3 _ st3).mono ?_; rintro e w4 ⟨rfl, st⟩)
    clear c3 st3 q3 HP1 HP2 HP3 hmf
    have P4f := HP4.out c b0
    have hse := HSE.out
    have hfs := HFS.out
    try simp only [Act.put]
    refine wp_region_eff (Lx := LxI) [RX.is (.func (.func 88) #[] #[.pointer (some ⟨c, 0, none⟩)]), RX.is (.pointer (some ⟨l, 0, none⟩)), RX.is (.pointer (some ⟨l, 0, none⟩)), RX.is (.pointer (some ⟨l, 5, none⟩)), RX.is (.int .i64 (seq : Int)), RX.is (.agg #[.pointer (some ⟨l, 0, none⟩), .slice a t.length cap]), IntsX t.length (atI t), RX.is (.string Fl), RX.any] [8] (fun k u => CmSt S l p G place seq used w c b0 (.slice a t.length cap) (if k = 0 then x3 else x4) u) (by kernel_rfl) (by kernel_rfl) (by kernel_rfl) (by kernel_rfl) (by kernel_rfl) (st.drew) ⟨?_, ?_, ?_, ?_, ?_, ?_, ?_, ?_, ?_, trivial⟩ ?_
    · intro ac w' ph hF hPh hlt hP hU K hK0
      have hK := fun v w2 (hl : Le8 w' w2) ht => hK0 v w2 (LxI.of_below hl) (hPh.old hl) ht
      have e5 : ac.eval (.tmp 5) = .func (.func 88) #[] #[.pointer (some ⟨c, 0, none⟩)] := hF.at 5 (by kernel_rfl)
      exact rop_move _ rfl e5 (wanted_none rfl) (hK _ _ (le8_refl _) rfl)
    · intro ac w' ph hF hPh hlt hP hU K hK0
      have hK := fun v w2 (hl : Le8 w' w2) ht => hK0 v w2 (LxI.of_below hl) (hPh.old hl) ht
      have e3 : ac.eval (.tmp 3) = .pointer (some ⟨c, 0, none⟩) := hF.at 3 (by kernel_rfl)
      exact rop_ld _ _ rfl e3 (load_logp (cell_of hPh.clo 0)) (wanted_none rfl) (hK _ _ (le8_refl _) rfl)
    · intro ac w' ph hF hPh hlt hP hU K hK0
      have hK := fun v w2 (hl : Le8 w' w2) ht => hK0 v w2 (LxI.of_below hl) (hPh.old hl) ht
      have e28 : ac.eval (.tmp 28) = .pointer (some ⟨l, 0, none⟩) := hP 1 (by kernel_rfl)
      exact rop_nil _ rfl e28 (wanted_none rfl) (hK _ _ (le8_refl _) rfl)
    · intro ac w' ph hF hPh hlt hP hU K hK0
      have hK := fun v w2 (hl : Le8 w' w2) ht => hK0 v w2 (LxI.of_below hl) (hPh.old hl) ht
      have e29 : ac.eval (.tmp 29) = .pointer (some ⟨l, 0, none⟩) := hP 2 (by kernel_rfl)
      exact rop_fld _ _ _ rfl e29 ((logFld l _).2.2.2.2.1) (wanted_none rfl) (hK _ _ (le8_refl _) rfl)
    · intro ac w' ph hF hPh hlt hP hU K hK0
      have hK := fun v w2 (hl : Le8 w' w2) ht => hK0 v w2 (LxI.of_below hl) (hPh.old hl) ht
      have e30 : ac.eval (.tmp 30) = .pointer (some ⟨l, 5, none⟩) := hP 3 (by kernel_rfl)
      exact rop_ld _ _ rfl e30 (load_int hPh.log.l5) (wanted_none rfl) (hK _ _ (le8_refl _) rfl)
    · intro ac w' ph hF hPh hlt hP hU K hK0
      have hK := fun v w2 (hl : Le8 w' w2) ht => hK0 v w2 (LxI.of_below hl) (hPh.old hl) ht
      have e1 : ac.eval (.tmp 1) = .pointer (some ⟨b0, 0, none⟩) := hF.at 1 (by kernel_rfl)
      exact rop_ld _ _ rfl e1 (load_txn (cell_of hPh.box 0) (cell_of hPh.box 1)) (wanted_none rfl) (hK _ _ (le8_refl _) rfl)
    · intro ac w' ph hF hPh hlt hP hU K hK0
      have hK := fun v w2 (hl : Le8 w' w2) ht => hK0 v w2 (LxI.of_below hl) (hPh.old hl) ht
      have e32 : ac.eval (.tmp 32) = .agg #[.pointer (some ⟨l, 0, none⟩), .slice a t.length cap] := hP 5 (by kernel_rfl)
      refine rop_call 89 _ _ rfl #[.agg #[.pointer (some ⟨l, 0, none⟩), .slice a t.length cap]] (by simp [e32]) (by kernel_rfl) (wanted_none rfl) ?_
      refine (hse _ hPh.fr).mono ?_
      rintro e w2 ⟨q, rfl, hq, hb⟩
      exact ⟨_, rfl, hK _ _ hb ⟨q, rfl, hq⟩⟩
    · intro ac w' ph hF hPh hlt hP hU K hK0
      have hK := fun v w2 (hl : Le8 w' w2) ht => hK0 v w2 (LxI.of_below hl) (hPh.old hl) ht
      have e31 : ac.eval (.tmp 31) = .int .i64 (seq : Int) := hP 4 (by kernel_rfl)
      obtain ⟨q, e33, hq⟩ : (IntsX t.length (atI t)).p (ac.eval (.tmp 33)) w' := hP 6 (by kernel_rfl)
      refine rop_call 9 _ _ rfl #[.int .i64 (seq : Int), .slice (some ⟨q, 0, none⟩) t.length t.length] (by simp [e31, e33]) (by kernel_rfl) (wanted_none rfl) ?_
      refine (hfs _ q hPh.tw hq).mono ?_
      rintro e w2 ⟨rfl, hb⟩
      exact ⟨_, rfl, hK _ _ hb rfl⟩
    · intro ac w' ph hF hPh hlt hP hU K hK0
      obtain rfl : ph = 0 := (hlt 0 8 rfl).1 rfl
      have e27 : ac.eval (.tmp 27) = .func (.func 88) #[] #[.pointer (some ⟨c, 0, none⟩)] := hP 0 (by kernel_rfl)
      have e34 : ac.eval (.tmp 34) = .string Fl := hP 7 (by kernel_rfl)
      refine rop_callv 88 _ _ _ rfl #[.pointer (some ⟨c, 0, none⟩)] #[.int .i64 0, .string Fl] e27 (by simp [e34, eval_const]) (by kernel_rfl) (wanted_none rfl) ?_
      refine (P4f _ hPh).mono ?_
      rintro e w3 ⟨rfl, h3, f3⟩
      exact ⟨_, rfl, hK0 undef _ (LxI.of_frl f3 hPh.log) h3 trivial⟩
    · intro ac w' hF hPh hT
      rw [hF.sets [27, 28, 29, 30, 31, 32, 33, 34, 35] (by kernel_rfl)]
      simp only [List.foldl_cons, List.foldl_nil, List.setIfInBounds_toArray, List.set_cons_succ, List.set_cons_zero]
      generalize ac.eval (.tmp 27) = u27
      generalize ac.eval (.tmp 28) = u28
      generalize ac.eval (.tmp 29) = u29
      generalize ac.eval (.tmp 30) = u30
      generalize ac.eval (.tmp 31) = u31
      generalize ac.eval (.tmp 32) = u32
      generalize ac.eval (.tmp 33) = u33
      generalize ac.eval (.tmp 34) = u34
      generalize ac.eval (.tmp 35) = u35
      clear  hT hF ac
      have st := hPh
      clear hPh P4f hse hfs HP4 HSE HFS
      have q5 := HP5.out c b0
      have c4 : w'.cell? ⟨b0, 1, none⟩ = some (.slice a t.length cap) := cell_of st.box 1
      go_upto_region 8 with fail
      clear c4
      go_loopw [39] (fun i wr => ∃ k : Nat, k ≤ t.length ∧ i = .int .i64 k ∧ CmSt S l p G place seq used w c b0 (.slice a t.length cap) (gos x4 (Jnl.midOps G (place + 1) (t.take k))) wr) (fun i _ => t.length - (intOf i).toNat)
      case atStart => exact ⟨0, Nat.zero_le _, rfl, by rw [show Jnl.midOps G (place + 1) (t.take 0) = [] from rfl, gos_nil]; exact st⟩
      case round =>
        clear st
        obtain ⟨k, hk, rfl, st⟩ := hrel
        by_cases hlt : k < t.length
        · obtain ⟨off, rfl, hgl, hj⟩ := HC.out (fun e => by
            have e' : t.length = 0 := by rw [← zT_len, e]; rfl
            omega)
          obtain ⟨c1, c2⟩ := hj k hlt
          rw [zT_get t k hlt] at c1 c2
          have hng : ¬ S g := hg hgl
          have d1 := (st.fr.fr.cell (o := off + k * 2) hgl hng).trans c1
          have d2 := (st.fr.fr.cell (o := off + k * 2 + 1) hgl hng).trans c2
          have q5k := fun u => q5 u k hlt
          have hms : gos (gos x4 (Jnl.midOps G (place + 1) (t.take k))) [.w (G.sl (place + (1 + k))) t[k].2] = gos x4 (Jnl.midOps G (place + 1) (t.take (k + 1))) := by rw [← gos_append, mid_step' G t (place + 1) k hlt, Nat.add_assoc place 1 k]
          rw [hms] at q5k
          clear q5 c1 c2 hj hms
          generalize t[k].1 = A at *
          generalize t[k].2 = X at *
          go_upto_region 10 with fail
          obtain ⟨w1, hw1⟩ : ∃ w1, w1 = wr.alloc (.cells #[.int .i64 (A : Int), .string X] 64) := ⟨_, rfl⟩
          have b1 : Below wr.heap.size wr w1 := by rw [hw1]; exact (Below.refl _ _).alloc (Nat.le_refl _) _
          have e2 : w1.cell? ⟨wr.heap.size, 1, none⟩ = some (.string X) := by rw [hw1, cell_of (heap_alloc_last wr _)]; rfl
          have st1 := st.old b1
          rw [← hw1]
          clear hw1 d1 d2 st
          go_wp2_with (go_at_call 88; refine (q5k _ st1).mono ?_; rintro e w2 ⟨rfl, st2, _⟩)
          go_roundw
          case rel => exact ⟨k + 1, by omega, by go_num, st2⟩
          case measure => simp [intOf]; omega
        · obtain rfl : k = t.length := by omega
          rw [List.take_length, ← HX5.out] at st
          clear q5 HP5 HX5 hlt hk
          have q6 := HP6.out c b0
          have c3 : wr.cell? ⟨c, 0, none⟩ = some (.pointer (some ⟨l, 0, none⟩)) := cell_of st.clo 0
          go_upto_region 13 with (go_at_call 50; refine (q6 _ st).mono ?_; rintro e w5 ⟨rfl, st5⟩)
          clear c3 q6 st HP6
          have st := st5
          clear st5
          have P7 := fun u st => (HP7.out c b0 u st).mono fun _ _ ⟨h1, h2, _⟩ => (⟨h1, h2⟩ : _ ∧ _)
          have hls := HLS.out
          clear HP7 HLS
          try simp only [Act.put]
          refine wp_region_eff (Lx := fun _ _ => True) [RX.is (.func (.func 88) #[] #[.pointer (some ⟨c, 0, none⟩)]), RX.is (.int .i64 (n1 : Int)), RX.is (.pointer (some ⟨l, 0, none⟩)), RX.is (.pointer (some ⟨l, 0, none⟩)), RX.is (.pointer (some ⟨l, 5, none⟩)), RX.is (.int .i64 (seq : Int)), RX.is (.pointer (some ⟨b0, 1, none⟩)), RX.is (.slice a t.length cap), RX.is (.int .i64 t.length), RX.is (.string Ll), RX.any] [10] (fun k u => CmSt S l p G place seq used w c b0 (.slice a t.length cap) (if k = 0 then x6 else x7) u) (by kernel_rfl) (by kernel_rfl) (by kernel_rfl) (by kernel_rfl) (by kernel_rfl) (st.drew) ⟨?_, ?_, ?_, ?_, ?_, ?_, ?_, ?_, ?_, ?_, ?_, trivial⟩ ?_
          · intro ac w' ph hF hPh hlt hP hU K hK0
            have hK := fun v w2 (hl : Le8 w' w2) ht => hK0 v w2 (trivial) (hPh.old hl) ht
            have e5 : ac.eval (.tmp 5) = .func (.func 88) #[] #[.pointer (some ⟨c, 0, none⟩)] := hF.at 5 (by kernel_rfl)
            exact rop_move _ rfl e5 (wanted_none rfl) (hK _ _ (le8_refl _) rfl)
          · intro ac w' ph hF hPh hlt hP hU K hK0
            have hK := fun v w2 (hl : Le8 w' w2) ht => hK0 v w2 (trivial) (hPh.old hl) ht
            have e4 : ac.eval (.tmp 4) = .int .i64 (n1 : Int) := hF.at 4 (by kernel_rfl)
            exact rop_move _ rfl e4 (wanted_none rfl) (hK _ _ (le8_refl _) rfl)
          · intro ac w' ph hF hPh hlt hP hU K hK0
            have hK := fun v w2 (hl : Le8 w' w2) ht => hK0 v w2 (trivial) (hPh.old hl) ht
            have e3 : ac.eval (.tmp 3) = .pointer (some ⟨c, 0, none⟩) := hF.at 3 (by kernel_rfl)
            exact rop_ld _ _ rfl e3 (load_logp (cell_of hPh.clo 0)) (wanted_none rfl) (hK _ _ (le8_refl _) rfl)
          · intro ac w' ph hF hPh hlt hP hU K hK0
            have hK := fun v w2 (hl : Le8 w' w2) ht => hK0 v w2 (trivial) (hPh.old hl) ht
            have e57 : ac.eval (.tmp 57) = .pointer (some ⟨l, 0, none⟩) := hP 2 (by kernel_rfl)
            exact rop_nil _ rfl e57 (wanted_none rfl) (hK _ _ (le8_refl _) rfl)
          · intro ac w' ph hF hPh hlt hP hU K hK0
            have hK := fun v w2 (hl : Le8 w' w2) ht => hK0 v w2 (trivial) (hPh.old hl) ht
            have e58 : ac.eval (.tmp 58) = .pointer (some ⟨l, 0, none⟩) := hP 3 (by kernel_rfl)
            exact rop_fld _ _ _ rfl e58 ((logFld l _).2.2.2.2.1) (wanted_none rfl) (hK _ _ (le8_refl _) rfl)
          · intro ac w' ph hF hPh hlt hP hU K hK0
            have hK := fun v w2 (hl : Le8 w' w2) ht => hK0 v w2 (trivial) (hPh.old hl) ht
            have e59 : ac.eval (.tmp 59) = .pointer (some ⟨l, 5, none⟩) := hP 4 (by kernel_rfl)
            exact rop_ld _ _ rfl e59 (load_int hPh.log.l5) (wanted_none rfl) (hK _ _ (le8_refl _) rfl)
          · intro ac w' ph hF hPh hlt hP hU K hK0
            have hK := fun v w2 (hl : Le8 w' w2) ht => hK0 v w2 (trivial) (hPh.old hl) ht
            have e1 : ac.eval (.tmp 1) = .pointer (some ⟨b0, 0, none⟩) := hF.at 1 (by kernel_rfl)
            exact rop_fld _ _ _ rfl e1 ((txnFld b0 _).2) (wanted_none rfl) (hK _ _ (le8_refl _) rfl)
          · intro ac w' ph hF hPh hlt hP hU K hK0
            have hK := fun v w2 (hl : Le8 w' w2) ht => hK0 v w2 (trivial) (hPh.old hl) ht
            have e61 : ac.eval (.tmp 61) = .pointer (some ⟨b0, 1, none⟩) := hP 6 (by kernel_rfl)
            exact rop_ld _ _ rfl e61 (load_puts (cell_of hPh.box 1)) (wanted_none rfl) (hK _ _ (le8_refl _) rfl)
          · intro ac w' ph hF hPh hlt hP hU K hK0
            have hK := fun v w2 (hl : Le8 w' w2) ht => hK0 v w2 (trivial) (hPh.old hl) ht
            have e62 : ac.eval (.tmp 62) = .slice a t.length cap := hP 7 (by kernel_rfl)
            exact rop_len_sl _ rfl e62 (wanted_none rfl) (hK _ _ (le8_refl _) rfl)
          · intro ac w' ph hF hPh hlt hP hU K hK0
            have hK := fun v w2 (hl : Le8 w' w2) ht => hK0 v w2 (trivial) (hPh.old hl) ht
            have e60 : ac.eval (.tmp 60) = .int .i64 (seq : Int) := hP 5 (by kernel_rfl)
            have e63 : ac.eval (.tmp 63) = .int .i64 t.length := hP 8 (by kernel_rfl)
            refine rop_call 11 _ _ rfl #[.int .i64 (seq : Int), .int .i64 t.length] (by simp [e60, e63]) (by kernel_rfl) (wanted_none rfl) ?_
            refine (hls _ hPh.tw).mono ?_
            rintro e w2 ⟨rfl, hb⟩
            exact ⟨_, rfl, hK _ _ hb rfl⟩
          · intro ac w' ph hF hPh hlt hP hU K hK0
            obtain rfl : ph = 0 := (hlt 0 10 rfl).1 rfl
            have e55 : ac.eval (.tmp 55) = .func (.func 88) #[] #[.pointer (some ⟨c, 0, none⟩)] := hP 0 (by kernel_rfl)
            have e56 : ac.eval (.tmp 56) = .int .i64 (n1 : Int) := hP 1 (by kernel_rfl)
            have e64 : ac.eval (.tmp 64) = .string Ll := hP 9 (by kernel_rfl)
            refine rop_callv 88 _ _ _ rfl #[.pointer (some ⟨c, 0, none⟩)] #[.int .i64 (n1 : Int), .string Ll] e55 (by simp [e56, e64]) (by kernel_rfl) (wanted_none rfl) ?_
            refine (P7 _ hPh).mono ?_
            rintro e w3 ⟨rfl, h3⟩
            exact ⟨_, rfl, hK0 undef _ trivial h3 trivial⟩
          · intro ac w' hF hPh hT
            rw [hF.sets [55, 56, 57, 58, 59, 60, 61, 62, 63, 64, 65] (by kernel_rfl)]
            simp only [List.foldl_cons, List.foldl_nil, List.setIfInBounds_toArray, List.set_cons_succ, List.set_cons_zero]
            generalize ac.eval (.tmp 55) = u55
            generalize ac.eval (.tmp 56) = u56
            generalize ac.eval (.tmp 57) = u57
            generalize ac.eval (.tmp 58) = u58
            generalize ac.eval (.tmp 59) = u59
            generalize ac.eval (.tmp 60) = u60
            generalize ac.eval (.tmp 61) = u61
            generalize ac.eval (.tmp 62) = u62
            generalize ac.eval (.tmp 63) = u63
            generalize ac.eval (.tmp 64) = u64
            generalize ac.eval (.tmp 65) = u65
            clear  hT hF ac
            have st7 := hPh
            clear hPh P7 hls
            have q8 := HP8.out c b0
            have c3 : w'.cell? ⟨c, 0, none⟩ = some (.pointer (some ⟨l, 0, none⟩)) := cell_of st7.clo 0
            go_upto_region 15 with (go_at_call 50; refine (q8 _ st7).mono ?_; rintro e w8 ⟨rfl, st8⟩)
            clear c3 q8 st7 HP8
            have q9 := HP9.out c b0
            have c3 : w8.cell? ⟨c, 0, none⟩ = some (.pointer (some ⟨l, 0, none⟩)) := cell_of st8.clo 0
            have c4 : w8.cell? ⟨b0, 1, none⟩ = some (.slice a t.length cap) := cell_of st8.box 1
            go_upto_region 16 with (go_at_call 83; refine (q9 _ st8).mono ?_; rintro e w9 ⟨rfl, st9⟩)
            clear c3 c4 q9 st8 HP9
            have st := st9
            clear st9
            have c3 : w9.cell? ⟨c, 0, none⟩ = some (.pointer (some ⟨l, 0, none⟩)) := cell_of st.clo 0
            have c1 := st.log.c1
            cases hx : x9.2 with
            | false =>
              rw [hx, show eOf false = 14 from rfl] at c1
              have ST := Lib.hid st
              have HX := Lib.hid hx
              clear st hx
              go_wp2
              go_ret
              rw [HX.out]
              exact ⟨rfl, ST.out.fr, fun e => absurd e Bool.false_ne_true, fun _ => ST.out.log⟩
            | true =>
              rw [hx, show eOf true = 0 from rfl] at c1
              have ST := Lib.hid st
              have HX := Lib.hid hx
              clear st hx
              go_upto_region 17 with fail
              have st := ST.out
              have hsz := HSZ.out
              have hGm := HMF.out
              have hus1 : used + (t.length + 2) ≤ 70000 := by omega
              obtain ⟨place2, hp2⟩ : ∃ place2, place2 = (place + (t.length + 2)) % G.m := ⟨_, rfl⟩
              have hrem := fun w => rem_nat (place + (t.length + 2)) G.m place2 hp2 (by omega) (by omega) w
              clear c1 c3
              try simp only [Act.put]
              refine wp_region_eff (Lx := fun _ _ => True) [RX.is (.pointer (some ⟨l, 0, none⟩)), RX.is (.pointer (some ⟨l, 0, none⟩)), RX.is (.pointer (some ⟨l, 0, none⟩)), RX.is (.pointer (some ⟨l, 0, none⟩)), RX.is (.pointer (some ⟨l, 0, none⟩)), RX.is (.pointer (some ⟨l, 4, none⟩)), RX.is (.int .i64 (place : Int)), RX.is (.agg #[.pointer (some ⟨l, 0, none⟩), .slice a t.length cap]), RX.is (.int .i64 ((t.length + 2 : Nat) : Int)), RX.is (.int .i64 (((place + (t.length + 2) : Nat) : Int))), RX.is (.pointer (some ⟨l, 0, none⟩)), RX.is (.pointer (some ⟨l, 0, none⟩)), RX.is (.pointer (some ⟨l, 3, none⟩)), RX.is (.int .i64 (G.m : Int)), RX.is (.int .i64 (place2 : Int)), RX.is (.pointer (some ⟨l, 0, none⟩)), RX.is (.pointer (some ⟨l, 0, none⟩)), RX.is (.pointer (some ⟨l, 5, none⟩)), RX.is (.int .i64 (seq : Int)), RX.is (.int .i64 (((seq + 1 : Nat) : Int))), RX.is (.pointer (some ⟨l, 0, none⟩)), RX.is (.pointer (some ⟨l, 0, none⟩)), RX.is (.pointer (some ⟨l, 6, none⟩)), RX.is (.int .i64 (used : Int)), RX.is (.agg #[.pointer (some ⟨l, 0, none⟩), .slice a t.length cap]), RX.is (.int .i64 ((t.length + 2 : Nat) : Int)), RX.is (.int .i64 (((used + (t.length + 2) : Nat) : Int))), RX.is (.pointer (some ⟨l, 0, none⟩)), RX.is (.pointer (some ⟨l, 4, none⟩)), RX.any, RX.is (.pointer (some ⟨l, 0, none⟩)), RX.is (.pointer (some ⟨l, 5, none⟩)), RX.any, RX.is (.pointer (some ⟨l, 0, none⟩)), RX.is (.pointer (some ⟨l, 6, none⟩)), RX.any] [29, 32, 35] (fun k u => CmSt S l p G (if k = 0 then place else place2) (if k ≤ 1 then seq else seq + 1) (if k ≤ 2 then used else used + (t.length + 2)) w c b0 (.slice a t.length cap) x9 u) (by kernel_rfl) (by kernel_rfl) (by kernel_rfl) (by kernel_rfl) (by kernel_rfl) (st.drew) ⟨?_, ?_, ?_, ?_, ?_, ?_, ?_, ?_, ?_, ?_, ?_, ?_, ?_, ?_, ?_, ?_, ?_, ?_, ?_, ?_, ?_, ?_, ?_, ?_, ?_, ?_, ?_, ?_, ?_, ?_, ?_, ?_, ?_, ?_, ?_, ?_, trivial⟩ ?_
              · intro ac w' ph hF hPh hlt hP hU K hK0
                have hK := fun v w2 (hl : Le8 w' w2) ht => hK0 v w2 (trivial) (hPh.old hl) ht
                have e3 : ac.eval (.tmp 3) = .pointer (some ⟨c, 0, none⟩) := hF.at 3 (by kernel_rfl)
                exact rop_ld _ _ rfl e3 (load_logp (cell_of hPh.clo 0)) (wanted_none rfl) (hK _ _ (le8_refl _) rfl)
              · intro ac w' ph hF hPh hlt hP hU K hK0
                have hK := fun v w2 (hl : Le8 w' w2) ht => hK0 v w2 (trivial) (hPh.old hl) ht
                have e3 : ac.eval (.tmp 3) = .pointer (some ⟨c, 0, none⟩) := hF.at 3 (by kernel_rfl)
                exact rop_ld _ _ rfl e3 (load_logp (cell_of hPh.clo 0)) (wanted_none rfl) (hK _ _ (le8_refl _) rfl)
              · intro ac w' ph hF hPh hlt hP hU K hK0
                have hK := fun v w2 (hl : Le8 w' w2) ht => hK0 v w2 (trivial) (hPh.old hl) ht
                have e3 : ac.eval (.tmp 3) = .pointer (some ⟨c, 0, none⟩) := hF.at 3 (by kernel_rfl)
                exact rop_ld _ _ rfl e3 (load_logp (cell_of hPh.clo 0)) (wanted_none rfl) (hK _ _ (le8_refl _) rfl)
              · intro ac w' ph hF hPh hlt hP hU K hK0
                have hK := fun v w2 (hl : Le8 w' w2) ht => hK0 v w2 (trivial) (hPh.old hl) ht
                have e3 : ac.eval (.tmp 3) = .pointer (some ⟨c, 0, none⟩) := hF.at 3 (by kernel_rfl)
                exact rop_ld _ _ rfl e3 (load_logp (cell_of hPh.clo 0)) (wanted_none rfl) (hK _ _ (le8_refl _) rfl)
              · intro ac w' ph hF hPh hlt hP hU K hK0
                have hK := fun v w2 (hl : Le8 w' w2) ht => hK0 v w2 (trivial) (hPh.old hl) ht
                have e83 : ac.eval (.tmp 83) = .pointer (some ⟨l, 0, none⟩) := hP 3 (by kernel_rfl)
                exact rop_nil _ rfl e83 (wanted_none rfl) (hK _ _ (le8_refl _) rfl)
              · intro ac w' ph hF hPh hlt hP hU K hK0
                have hK := fun v w2 (hl : Le8 w' w2) ht => hK0 v w2 (trivial) (hPh.old hl) ht
                have e84 : ac.eval (.tmp 84) = .pointer (some ⟨l, 0, none⟩) := hP 4 (by kernel_rfl)
                exact rop_fld _ _ _ rfl e84 ((logFld l _).2.2.2.1) (wanted_none rfl) (hK _ _ (le8_refl _) rfl)
              · intro ac w' ph hF hPh hlt hP hU K hK0
                have hK := fun v w2 (hl : Le8 w' w2) ht => hK0 v w2 (trivial) (hPh.old hl) ht
                have hph : ph ≤ 0 := (hlt 0 29 rfl).2 (by kernel_rfl)
                have e85 : ac.eval (.tmp 85) = .pointer (some ⟨l, 4, none⟩) := hP 5 (by kernel_rfl)
                exact rop_ld _ _ rfl e85 (load_int (by have h := hPh.log.l4; rw [if_pos (Nat.le_zero.1 hph)] at h; exact h)) (wanted_none rfl) (hK _ _ (le8_refl _) rfl)
              · intro ac w' ph hF hPh hlt hP hU K hK0
                have hK := fun v w2 (hl : Le8 w' w2) ht => hK0 v w2 (trivial) (hPh.old hl) ht
                have e1 : ac.eval (.tmp 1) = .pointer (some ⟨b0, 0, none⟩) := hF.at 1 (by kernel_rfl)
                exact rop_ld _ _ rfl e1 (load_txn (cell_of hPh.box 0) (cell_of hPh.box 1)) (wanted_none rfl) (hK _ _ (le8_refl _) rfl)
              · intro ac w' ph hF hPh hlt hP hU K hK0
                have hK := fun v w2 (hl : Le8 w' w2) ht => hK0 v w2 (trivial) (hPh.old hl) ht
                have e87 : ac.eval (.tmp 87) = .agg #[.pointer (some ⟨l, 0, none⟩), .slice a t.length cap] := hP 7 (by kernel_rfl)
                refine rop_call 87 _ _ rfl #[.agg #[.pointer (some ⟨l, 0, none⟩), .slice a t.length cap]] (by simp [e87]) (by kernel_rfl) (wanted_none rfl) ?_
                refine (hsz _).mono ?_
                rintro e w2 ⟨rfl, hb⟩
                exact ⟨_, rfl, hK _ _ hb rfl⟩
              · intro ac w' ph hF hPh hlt hP hU K hK0
                have hK := fun v w2 (hl : Le8 w' w2) ht => hK0 v w2 (trivial) (hPh.old hl) ht
                have e86 : ac.eval (.tmp 86) = .int .i64 (place : Int) := hP 6 (by kernel_rfl)
                have e88 : ac.eval (.tmp 88) = .int .i64 ((t.length + 2 : Nat) : Int) := hP 8 (by kernel_rfl)
                exact rop_bin _ _ _ _ _ rfl e86 e88 (guard_int _ _ _ _ _ _ _ w') (add_int _ _ _ (by omega) (by omega) w') (wanted_none rfl) (hK _ _ (le8_refl _) rfl)
              · intro ac w' ph hF hPh hlt hP hU K hK0
                have hK := fun v w2 (hl : Le8 w' w2) ht => hK0 v w2 (trivial) (hPh.old hl) ht
                have e3 : ac.eval (.tmp 3) = .pointer (some ⟨c, 0, none⟩) := hF.at 3 (by kernel_rfl)
                exact rop_ld _ _ rfl e3 (load_logp (cell_of hPh.clo 0)) (wanted_none rfl) (hK _ _ (le8_refl _) rfl)
              · intro ac w' ph hF hPh hlt hP hU K hK0
                have hK := fun v w2 (hl : Le8 w' w2) ht => hK0 v w2 (trivial) (hPh.old hl) ht
                have e90 : ac.eval (.tmp 90) = .pointer (some ⟨l, 0, none⟩) := hP 10 (by kernel_rfl)
                exact rop_nil _ rfl e90 (wanted_none rfl) (hK _ _ (le8_refl _) rfl)
              · intro ac w' ph hF hPh hlt hP hU K hK0
                have hK := fun v w2 (hl : Le8 w' w2) ht => hK0 v w2 (trivial) (hPh.old hl) ht
                have e91 : ac.eval (.tmp 91) = .pointer (some ⟨l, 0, none⟩) := hP 11 (by kernel_rfl)
                exact rop_fld _ _ _ rfl e91 ((logFld l _).2.2.1) (wanted_none rfl) (hK _ _ (le8_refl _) rfl)
              · intro ac w' ph hF hPh hlt hP hU K hK0
                have hK := fun v w2 (hl : Le8 w' w2) ht => hK0 v w2 (trivial) (hPh.old hl) ht
                have e92 : ac.eval (.tmp 92) = .pointer (some ⟨l, 3, none⟩) := hP 12 (by kernel_rfl)
                exact rop_ld _ _ rfl e92 (load_int hPh.log.l3) (wanted_none rfl) (hK _ _ (le8_refl _) rfl)
              · intro ac w' ph hF hPh hlt hP hU K hK0
                have hK := fun v w2 (hl : Le8 w' w2) ht => hK0 v w2 (trivial) (hPh.old hl) ht
                have e89 : ac.eval (.tmp 89) = .int .i64 (((place + (t.length + 2) : Nat) : Int)) := hP 9 (by kernel_rfl)
                have e93 : ac.eval (.tmp 93) = .int .i64 (G.m : Int) := hP 13 (by kernel_rfl)
                exact rop_bin _ _ _ _ _ rfl e89 e93 (guard_int _ _ _ _ _ _ _ _) (hrem _) (wanted_none rfl) (hK _ _ (le8_refl _) rfl)
              · intro ac w' ph hF hPh hlt hP hU K hK0
                have hK := fun v w2 (hl : Le8 w' w2) ht => hK0 v w2 (trivial) (hPh.old hl) ht
                have e3 : ac.eval (.tmp 3) = .pointer (some ⟨c, 0, none⟩) := hF.at 3 (by kernel_rfl)
                exact rop_ld _ _ rfl e3 (load_logp (cell_of hPh.clo 0)) (wanted_none rfl) (hK _ _ (le8_refl _) rfl)
              · intro ac w' ph hF hPh hlt hP hU K hK0
                have hK := fun v w2 (hl : Le8 w' w2) ht => hK0 v w2 (trivial) (hPh.old hl) ht
                have e95 : ac.eval (.tmp 95) = .pointer (some ⟨l, 0, none⟩) := hP 15 (by kernel_rfl)
                exact rop_nil _ rfl e95 (wanted_none rfl) (hK _ _ (le8_refl _) rfl)
              · intro ac w' ph hF hPh hlt hP hU K hK0
                have hK := fun v w2 (hl : Le8 w' w2) ht => hK0 v w2 (trivial) (hPh.old hl) ht
                have e96 : ac.eval (.tmp 96) = .pointer (some ⟨l, 0, none⟩) := hP 16 (by kernel_rfl)
                exact rop_fld _ _ _ rfl e96 ((logFld l _).2.2.2.2.1) (wanted_none rfl) (hK _ _ (le8_refl _) rfl)
              · intro ac w' ph hF hPh hlt hP hU K hK0
                have hK := fun v w2 (hl : Le8 w' w2) ht => hK0 v w2 (trivial) (hPh.old hl) ht
                have hph : ph ≤ 1 := (hlt 1 32 rfl).2 (by kernel_rfl)
                have e97 : ac.eval (.tmp 97) = .pointer (some ⟨l, 5, none⟩) := hP 17 (by kernel_rfl)
                exact rop_ld _ _ rfl e97 (load_int (by have h := hPh.log.l5; rw [if_pos (show ph ≤ 1 from hph)] at h; exact h)) (wanted_none rfl) (hK _ _ (le8_refl _) rfl)
              · intro ac w' ph hF hPh hlt hP hU K hK0
                have hK := fun v w2 (hl : Le8 w' w2) ht => hK0 v w2 (trivial) (hPh.old hl) ht
                have e98 : ac.eval (.tmp 98) = .int .i64 (seq : Int) := hP 18 (by kernel_rfl)
                exact rop_bin _ _ _ _ _ rfl e98 rfl (guard_int _ _ _ _ _ _ _ w') (add_int _ _ _ (by omega) (by omega) w') (wanted_none rfl) (hK _ _ (le8_refl _) rfl)
              · intro ac w' ph hF hPh hlt hP hU K hK0
                have hK := fun v w2 (hl : Le8 w' w2) ht => hK0 v w2 (trivial) (hPh.old hl) ht
                have e3 : ac.eval (.tmp 3) = .pointer (some ⟨c, 0, none⟩) := hF.at 3 (by kernel_rfl)
                exact rop_ld _ _ rfl e3 (load_logp (cell_of hPh.clo 0)) (wanted_none rfl) (hK _ _ (le8_refl _) rfl)
              · intro ac w' ph hF hPh hlt hP hU K hK0
                have hK := fun v w2 (hl : Le8 w' w2) ht => hK0 v w2 (trivial) (hPh.old hl) ht
                have e100 : ac.eval (.tmp 100) = .pointer (some ⟨l, 0, none⟩) := hP 20 (by kernel_rfl)
                exact rop_nil _ rfl e100 (wanted_none rfl) (hK _ _ (le8_refl _) rfl)
              · intro ac w' ph hF hPh hlt hP hU K hK0
                have hK := fun v w2 (hl : Le8 w' w2) ht => hK0 v w2 (trivial) (hPh.old hl) ht
                have e101 : ac.eval (.tmp 101) = .pointer (some ⟨l, 0, none⟩) := hP 21 (by kernel_rfl)
                exact rop_fld _ _ _ rfl e101 ((logFld l _).2.2.2.2.2) (wanted_none rfl) (hK _ _ (le8_refl _) rfl)
              · intro ac w' ph hF hPh hlt hP hU K hK0
                have hK := fun v w2 (hl : Le8 w' w2) ht => hK0 v w2 (trivial) (hPh.old hl) ht
                have hph : ph ≤ 2 := (hlt 2 35 rfl).2 (by kernel_rfl)
                have e102 : ac.eval (.tmp 102) = .pointer (some ⟨l, 6, none⟩) := hP 22 (by kernel_rfl)
                exact rop_ld _ _ rfl e102 (load_int (by have h := hPh.log.l6; rw [if_pos (show ph ≤ 2 from hph)] at h; exact h)) (wanted_none rfl) (hK _ _ (le8_refl _) rfl)
              · intro ac w' ph hF hPh hlt hP hU K hK0
                have hK := fun v w2 (hl : Le8 w' w2) ht => hK0 v w2 (trivial) (hPh.old hl) ht
                have e1 : ac.eval (.tmp 1) = .pointer (some ⟨b0, 0, none⟩) := hF.at 1 (by kernel_rfl)
                exact rop_ld _ _ rfl e1 (load_txn (cell_of hPh.box 0) (cell_of hPh.box 1)) (wanted_none rfl) (hK _ _ (le8_refl _) rfl)
              · intro ac w' ph hF hPh hlt hP hU K hK0
                have hK := fun v w2 (hl : Le8 w' w2) ht => hK0 v w2 (trivial) (hPh.old hl) ht
                have e104 : ac.eval (.tmp 104) = .agg #[.pointer (some ⟨l, 0, none⟩), .slice a t.length cap] := hP 24 (by kernel_rfl)
                refine rop_call 87 _ _ rfl #[.agg #[.pointer (some ⟨l, 0, none⟩), .slice a t.length cap]] (by simp [e104]) (by kernel_rfl) (wanted_none rfl) ?_
                refine (hsz _).mono ?_
                rintro e w2 ⟨rfl, hb⟩
                exact ⟨_, rfl, hK _ _ hb rfl⟩
              · intro ac w' ph hF hPh hlt hP hU K hK0
                have hK := fun v w2 (hl : Le8 w' w2) ht => hK0 v w2 (trivial) (hPh.old hl) ht
                have e103 : ac.eval (.tmp 103) = .int .i64 (used : Int) := hP 23 (by kernel_rfl)
                have e105 : ac.eval (.tmp 105) = .int .i64 ((t.length + 2 : Nat) : Int) := hP 25 (by kernel_rfl)
                exact rop_bin _ _ _ _ _ rfl e103 e105 (guard_int _ _ _ _ _ _ _ w') (add_int _ _ _ (by omega) (by omega) w') (wanted_none rfl) (hK _ _ (le8_refl _) rfl)
              · intro ac w' ph hF hPh hlt hP hU K hK0
                have hK := fun v w2 (hl : Le8 w' w2) ht => hK0 v w2 (trivial) (hPh.old hl) ht
                have e80 : ac.eval (.tmp 80) = .pointer (some ⟨l, 0, none⟩) := hP 0 (by kernel_rfl)
                exact rop_nil _ rfl e80 (wanted_none rfl) (hK _ _ (le8_refl _) rfl)
              · intro ac w' ph hF hPh hlt hP hU K hK0
                have hK := fun v w2 (hl : Le8 w' w2) ht => hK0 v w2 (trivial) (hPh.old hl) ht
                have e107 : ac.eval (.tmp 107) = .pointer (some ⟨l, 0, none⟩) := hP 27 (by kernel_rfl)
                exact rop_fld _ _ _ rfl e107 ((logFld l _).2.2.2.1) (wanted_none rfl) (hK _ _ (le8_refl _) rfl)
              · intro ac w' ph hF hPh hlt hP hU K hK0
                obtain rfl : ph = 0 := (hlt 0 29 rfl).1 rfl
                have e108 : ac.eval (.tmp 108) = .pointer (some ⟨l, 4, none⟩) := hP 28 (by kernel_rfl)
                have e94 : ac.eval (.tmp 94) = .int .i64 (place2 : Int) := hP 14 (by kernel_rfl)
                exact rop_store _ _ _ rfl e108 e94 (store_int hPh.log.l4 (hPh.log.fz 4)) (wanted_none rfl) (hK0 undef _ trivial hPh.place_set trivial)
              · intro ac w' ph hF hPh hlt hP hU K hK0
                have hK := fun v w2 (hl : Le8 w' w2) ht => hK0 v w2 (trivial) (hPh.old hl) ht
                have e81 : ac.eval (.tmp 81) = .pointer (some ⟨l, 0, none⟩) := hP 1 (by kernel_rfl)
                exact rop_nil _ rfl e81 (wanted_none rfl) (hK _ _ (le8_refl _) rfl)
              · intro ac w' ph hF hPh hlt hP hU K hK0
                have hK := fun v w2 (hl : Le8 w' w2) ht => hK0 v w2 (trivial) (hPh.old hl) ht
                have e109 : ac.eval (.tmp 109) = .pointer (some ⟨l, 0, none⟩) := hP 30 (by kernel_rfl)
                exact rop_fld _ _ _ rfl e109 ((logFld l _).2.2.2.2.1) (wanted_none rfl) (hK _ _ (le8_refl _) rfl)
              · intro ac w' ph hF hPh hlt hP hU K hK0
                obtain rfl : ph = 1 := (hlt 1 32 rfl).1 rfl
                have e110 : ac.eval (.tmp 110) = .pointer (some ⟨l, 5, none⟩) := hP 31 (by kernel_rfl)
                have e99 : ac.eval (.tmp 99) = .int .i64 (((seq + 1 : Nat) : Int)) := hP 19 (by kernel_rfl)
                exact rop_store _ _ _ rfl e110 e99 (store_int hPh.log.l5 (hPh.log.fz 5)) (wanted_none rfl) (hK0 undef _ trivial hPh.seq_set trivial)
              · intro ac w' ph hF hPh hlt hP hU K hK0
                have hK := fun v w2 (hl : Le8 w' w2) ht => hK0 v w2 (trivial) (hPh.old hl) ht
                have e82 : ac.eval (.tmp 82) = .pointer (some ⟨l, 0, none⟩) := hP 2 (by kernel_rfl)
                exact rop_nil _ rfl e82 (wanted_none rfl) (hK _ _ (le8_refl _) rfl)
              · intro ac w' ph hF hPh hlt hP hU K hK0
                have hK := fun v w2 (hl : Le8 w' w2) ht => hK0 v w2 (trivial) (hPh.old hl) ht
                have e111 : ac.eval (.tmp 111) = .pointer (some ⟨l, 0, none⟩) := hP 33 (by kernel_rfl)
                exact rop_fld _ _ _ rfl e111 ((logFld l _).2.2.2.2.2) (wanted_none rfl) (hK _ _ (le8_refl _) rfl)
              · intro ac w' ph hF hPh hlt hP hU K hK0
                obtain rfl : ph = 2 := (hlt 2 35 rfl).1 rfl
                have e112 : ac.eval (.tmp 112) = .pointer (some ⟨l, 6, none⟩) := hP 34 (by kernel_rfl)
                have e106 : ac.eval (.tmp 106) = .int .i64 (((used + (t.length + 2) : Nat) : Int)) := hP 26 (by kernel_rfl)
                exact rop_store _ _ _ rfl e112 e106 (store_int hPh.log.l6 (hPh.log.fz 6)) (wanted_none rfl) (hK0 undef _ trivial hPh.used_set trivial)
              · intro ac w' hF hPh hT
                rw [hF.sets [80, 81, 82, 83, 84, 85, 86, 87, 88, 89, 90, 91, 92, 93, 94, 95, 96, 97, 98, 99, 100, 101, 102, 103, 104, 105, 106, 107, 108, 109, 110, 111, 112] (by kernel_rfl)]
                simp only [List.foldl_cons, List.foldl_nil, List.setIfInBounds_toArray, List.set_cons_succ, List.set_cons_zero]
                generalize ac.eval (.tmp 80) = u80
                generalize ac.eval (.tmp 81) = u81
                generalize ac.eval (.tmp 82) = u82
                generalize ac.eval (.tmp 83) = u83
                generalize ac.eval (.tmp 84) = u84
                generalize ac.eval (.tmp 85) = u85
                generalize ac.eval (.tmp 86) = u86
                generalize ac.eval (.tmp 87) = u87
                generalize ac.eval (.tmp 88) = u88
                generalize ac.eval (.tmp 89) = u89
                generalize ac.eval (.tmp 90) = u90
                generalize ac.eval (.tmp 91) = u91
                generalize ac.eval (.tmp 92) = u92
                generalize ac.eval (.tmp 93) = u93
                generalize ac.eval (.tmp 94) = u94
                generalize ac.eval (.tmp 95) = u95
                generalize ac.eval (.tmp 96) = u96
                generalize ac.eval (.tmp 97) = u97
                generalize ac.eval (.tmp 98) = u98
                generalize ac.eval (.tmp 99) = u99
                generalize ac.eval (.tmp 100) = u100
                generalize ac.eval (.tmp 101) = u101
                generalize ac.eval (.tmp 102) = u102
                generalize ac.eval (.tmp 103) = u103
                generalize ac.eval (.tmp 104) = u104
                generalize ac.eval (.tmp 105) = u105
                generalize ac.eval (.tmp 106) = u106
                generalize ac.eval (.tmp 107) = u107
                generalize ac.eval (.tmp 108) = u108
                generalize ac.eval (.tmp 109) = u109
                generalize ac.eval (.tmp 110) = u110
                generalize ac.eval (.tmp 111) = u111
                generalize ac.eval (.tmp 112) = u112
                clear  hT hF ac
                have st9 : CmSt S l p G place2 (seq + 1) (used + (t.length + 2)) w c b0 (.slice a t.length cap) x9 w' := hPh
                clear hPh hrem st ST
                have c3 : w'.cell? ⟨c, 0, none⟩ = some (.pointer (some ⟨l, 0, none⟩)) := cell_of st9.clo 0
                have c1 := st9.log.c1
                rw [HX.out, show eOf true = 0 from rfl] at c1
                have ST := Lib.hid st9
                have HP2 := Lib.hid hp2
                clear st9 hp2
                go_wp2
                go_ret
                rw [HX.out]
                refine ⟨rfl, ST.out.fr, fun _ => ?_, fun e => absurd e.symm Bool.false_ne_true⟩
                rw [← HP2.out]
                exact ST.out.log
end Go.Proofs.YtfcocbgdmmeikaaGreatDoor
/-! ## Package redo: ready, guards, Room, Used, Seq, Read, makeRoom. -/
namespace Go.Proofs.YtfcocbgdmmeikaaGreatDoor
open Go.RowKit Dsk

section
variable (S : Nat → Prop) (l p : Nat) (G : Jnl.Geo) (place seq used : Nat) (w : World)
theorem ready_ok (x : Dk × Bool) (h : LogS S l p G place seq used x w) :
    Calls Tryz.prog 55 #[.pointer (some ⟨l, 0, none⟩)] w fun e w' => e = .returned (.int .i64 (if x.2 then 0 else 13)) ∧ w = w' := by
  have c0 := h.c0
  have c1 := h.c1
  cases hx : x.2 with
  | true =>
    rw [hx, show eOf true = 0 from rfl] at c1
    go_enter Tryz.func55, Tryz.ntmps55
    go_wp2
    go_ret
    exact ⟨rfl, rfl⟩
  | false =>
    rw [hx, show eOf false = 14 from rfl] at c1
    go_enter Tryz.func55, Tryz.ntmps55
    go_wp2
    go_ret
    exact ⟨rfl, rfl⟩
theorem used_any (x : Dk × Bool) (h : LogS S l p G place seq used x w) :
    Calls Tryz.prog 25 #[.pointer (some ⟨l, 0, none⟩)] w fun e w' => e = .returned (.int .i64 (used : Int)) ∧ w = w' := by
  have c := h.l6
  go_enter Tryz.func25, Tryz.ntmps25
  go_wp2
  go_ret
  exact ⟨rfl, rfl⟩
theorem seq_any (x : Dk × Bool) (h : LogS S l p G place seq used x w) :
    Calls Tryz.prog 31 #[.pointer (some ⟨l, 0, none⟩)] w fun e w' => e = .returned (.int .i64 (seq : Int)) ∧ w = w' := by
  have c := h.l5
  go_enter Tryz.func31, Tryz.ntmps31
  go_wp2
  go_ret
  exact ⟨rfl, rfl⟩
/-- How many writes a transaction has at most. -/
def roomN (G : Jnl.Geo) : Nat := Nat.min 60 (G.m - 3)
theorem room_any (x : Dk × Bool) (h : LogS S l p G place seq used x w) (hN : G.N ≤ 65536) :
    Calls Tryz.prog 86 #[.pointer (some ⟨l, 0, none⟩)] w fun e w' => e = .returned (.int .i64 (roomN G : Nat)) ∧ w = w' := by
  have c0 := h.c0
  have c := h.l3
  have h3 := G.m3
  have h4 := G.h
  go_enter Tryz.func86, Tryz.ntmps86
  go_wp2
  go_ret
  refine ⟨ret_int (show min (60 : Int) ((G.m : Int) - 2 - 1) = _ from ?_), rfl⟩
  show _ = ((min 60 (G.m - 3) : Nat) : Int)
  omega
theorem readL_any (d : Dk) (at_ : Int) (h : LogS S l p G place seq used (d, true) w) :
    Calls Tryz.prog 32 #[.pointer (some ⟨l, 0, none⟩), .int .i64 at_] w fun e w' => e = .returned (.tuple #[.string (readS d at_), .int .i64 (readE d at_)]) ∧ Below w.heap.size w w' := by
  have c0 := h.c0
  have hr := ready_ok S l p G place seq used w _ h
  have hd := readS_any S p d at_ w h.disk
  rw [if_pos rfl] at hr
  go_enter Tryz.func32, Tryz.ntmps32
  go_wp2_with (first
    | (go_at_call 55; refine hr.mono ?_; rintro e w1 ⟨rfl, rfl⟩)
    | (go_at_call 63; refine hd.mono ?_; rintro e w2 ⟨rfl, b2⟩))
  go_ret2
  exact ⟨rfl, b2⟩
/-- Is it a sector in front of which the journal stands? -/
def okAt (G : Jnl.Geo) (z : Int) : Bool := decide (0 ≤ z ∧ z < (G.N : Int) ∧ ¬ ((G.base : Int) ≤ z ∧ z ≤ (G.base : Int) + (G.m : Int)))
theorem guards_any (x : Dk × Bool) (z : Int) (h : LogS S l p G place seq used x w) (hN : x.1.lies.length = G.N) (hN2 : G.N ≤ 65536) :
    Calls Tryz.prog 85 #[.pointer (some ⟨l, 0, none⟩), .int .i64 z] w fun e w' => e = .returned (.bool (okAt G z)) ∧ Below w.heap.size w w' := by
  have c0 := h.c0
  have c2 := h.l2
  have c3 := h.l3
  have h3 := G.m3
  have h4 := G.h
  have hs := fun n => sectorsS S p x.1 (w.drewN n) (h.old (below_drewN' n)).disk
  rw [hN] at hs
  have H := Lib.hid h
  clear h
  have fin : okAt G z = (decide (0 ≤ z) && decide (z < (G.N : Int)) && !(decide ((G.base : Int) ≤ z) && decide (z ≤ (G.base : Int) + (G.m : Int)))) := by
    unfold okAt
    by_cases q1 : 0 ≤ z <;> by_cases q2 : z < (G.N : Int) <;> by_cases q3 : (G.base : Int) ≤ z <;> by_cases q4 : z ≤ (G.base : Int) + (G.m : Int) <;> simp [q1, q2, q3, q4]
  rw [fin]
  clear fin
  by_cases q1 : 0 ≤ z
  · by_cases q3 : (G.base : Int) ≤ z
    · have q3' : ¬ z < (G.base : Int) := by omega
      by_cases q4 : z ≤ (G.base : Int) + (G.m : Int)
      · have q2 : z < (G.N : Int) := by omega
        have q4' : ¬ (G.base : Int) + (G.m : Int) < z := by omega
        rw [decide_eq_true q1, decide_eq_true q2, decide_eq_true q3, decide_eq_true q4]
        go_enter Tryz.func85, Tryz.ntmps85
        go_upto_region 1 with fail
        go_quiet (fail)
        go_wp2_with (go_at_call 59; refine (hs _).mono ?_; rintro e w' ⟨rfl, rfl⟩)
        go_ret
        exact ⟨rfl, below_drewN' _⟩
      · have q4' : (G.base : Int) + (G.m : Int) < z := by omega
        rw [decide_eq_true q1, decide_eq_true q3, decide_eq_false q4]
        by_cases q2 : z < (G.N : Int)
        · rw [decide_eq_true q2]
          go_enter Tryz.func85, Tryz.ntmps85
          go_upto_region 1 with fail
          go_quiet (fail)
          go_wp2_with (go_at_call 59; refine (hs _).mono ?_; rintro e w' ⟨rfl, rfl⟩)
          go_ret
          exact ⟨rfl, below_drewN' _⟩
        · rw [decide_eq_false q2]
          go_enter Tryz.func85, Tryz.ntmps85
          go_upto_region 1 with fail
          go_quiet (fail)
          go_wp2_with (go_at_call 59; refine (hs _).mono ?_; rintro e w' ⟨rfl, rfl⟩)
          go_ret
          exact ⟨rfl, below_drewN' _⟩
    · have q3' : z < (G.base : Int) := by omega
      have q2 : z < (G.N : Int) := by omega
      rw [decide_eq_true q1, decide_eq_false q3, decide_eq_true q2]
      go_enter Tryz.func85, Tryz.ntmps85
      go_upto_region 1 with fail
      go_quiet (fail)
      go_wp2_with (go_at_call 59; refine (hs _).mono ?_; rintro e w' ⟨rfl, rfl⟩)
      go_ret
      exact ⟨rfl, below_drewN' _⟩
  · have q3 : ¬ (G.base : Int) ≤ z := by omega
    have q3' : z < (G.base : Int) := by omega
    have q1' : z < 0 := by omega
    rw [decide_eq_false q1]
    go_enter Tryz.func85, Tryz.ntmps85
    go_upto_region 1 with fail
    go_quiet (fail)
    go_wp2
    go_ret
    exact ⟨rfl, below_drewN' _⟩
end
theorem leq_dec (x y : Int) (q : Prop) [Decidable q] (h : q ↔ x ≤ y) (w : World) : (binOp .leq 3 (.int .i64 x) (.int .i64 y)).run Tryz.prog w = .ok (.bool (decide q)) w := by
  by_cases hq : q
  · have := h.1 hq
    rw [decide_eq_true hq]
    go_simp
  · have : ¬ x ≤ y := fun e => hq (h.2 e)
    rw [decide_eq_false hq]
    go_simp
/-- A disk behind the step that makes room. -/
def mrX (G : Jnl.Geo) (place seq used : Nat) (d : Dk) (n : Nat) : Dk × Bool := gos (d, true) (if G.m - used ≤ n + 2 then Jnl.ckOps RL G place seq else [])
set_option maxHeartbeats 1600000 in
set_option maxRecDepth 100000 in
theorem makeRoom_any (S : Nat → Prop) (l p : Nat) (G : Jnl.Geo) (place seq used : Nat) (d : Dk) (a : Option Addr) (n cap : Nat) (w : World) (h : LogS S l p G place seq used (d, true) w) (hu : Up S w) (hS0 : ¬ S 0) (hT : TW w) (hN : d.lies.length = G.N) (hN2 : G.N ≤ 65536) (hp : place ≤ 65535) (hq : seq ≤ 1099511627776) (hb : Bd (d, true) 3) (hn : n ≤ 100000) (hus : used ≤ G.m) (hroom : n + 3 ≤ G.m) :
    Calls Tryz.prog 61 #[.agg #[.pointer (some ⟨l, 0, none⟩), .slice a n cap]] w fun e w' => e = .returned (.int .i64 (eOf (mrX G place seq used d n).2)) ∧ FrL l S w w' ∧ ∃ used', LogS S l p G place seq used' (mrX G place seq used d n) w' ∧ ((mrX G place seq used d n).2 = true → used' = if G.m - used ≤ n + 2 then 0 else used) := by
  obtain ⟨Y, hY⟩ : ∃ Y, Y = mrX G place seq used d n := ⟨_, rfl⟩
  rw [← hY]
  obtain ⟨W, hW⟩ : ∃ W, W = if G.m - used ≤ n + 2 then 0 else used := ⟨_, rfl⟩
  rw [← hW]
  have HY := Lib.hid hY
  have HW := Lib.hid hW
  clear hY hW
  have x := (d, true)
  obtain ⟨x, hx⟩ : ∃ x, x = (d, true) := ⟨_, rfl⟩
  have hG := G.h
  obtain ⟨wb, hwb⟩ : ∃ wb, wb = w.alloc (.cells #[.pointer (some ⟨l, 0, none⟩), .slice a n cap] 106) := ⟨_, rfl⟩
  obtain ⟨b0, hb0⟩ : ∃ b0, b0 = w.heap.size := ⟨_, rfl⟩
  have hbb : Below w.heap.size w wb := by rw [hwb]; exact (Below.refl _ _).alloc (Nat.le_refl _) _
  have htb : wb.heap[b0]? = some (.cells #[.pointer (some ⟨l, 0, none⟩), .slice a n cap] 106 (0, 0)) := by rw [hwb, hb0]; exact heap_alloc_last w _
  have hsz := fun u => txnSize_any l a n cap u (by omega)
  unfold txnV at hsz
  have hb1 := h.old hbb
  rw [← hx] at hb1
  have HX := Lib.hid hx
  clear hx
  go_enter Tryz.func61, Tryz.ntmps61
  go_upto_region 1 with fail
  rw [← hwb, ← hb0]
  clear hwb hb0
  try simp only [Act.put]
  refine wp_region_eff (Lx := fun _ _ => True) [RX.is (.pointer (some ⟨b0, 0, none⟩)), RX.is (.pointer (some ⟨l, 0, none⟩)), RX.is (.pointer (some ⟨l, 0, none⟩)), RX.is (.pointer (some ⟨l, 3, none⟩)), RX.is (.int .i64 (G.m : Int)), RX.is (.pointer (some ⟨b0, 0, none⟩)), RX.is (.pointer (some ⟨l, 0, none⟩)), RX.is (.pointer (some ⟨l, 0, none⟩)), RX.is (.pointer (some ⟨l, 6, none⟩)), RX.is (.int .i64 (used : Int)), RX.is (.int .i64 ((G.m : Int) - (used : Int))), RX.is (.agg #[.pointer (some ⟨l, 0, none⟩), .slice a n cap]), RX.is (.int .i64 ((n + 2 : Nat) : Int)), RX.is (.bool (decide (G.m - used ≤ n + 2)))] [] (fun _ u => LogS S l p G place seq used x u ∧ Below w.heap.size w u ∧ u.heap[b0]? = some (.cells #[.pointer (some ⟨l, 0, none⟩), .slice a n cap] 106 (0, 0))) (by kernel_rfl) (by kernel_rfl) (by kernel_rfl) (by kernel_rfl) (by kernel_rfl) (⟨hb1.old (below_drewN' 1), below_drew hbb, htb⟩) ⟨?_, ?_, ?_, ?_, ?_, ?_, ?_, ?_, ?_, ?_, ?_, ?_, ?_, ?_, trivial⟩ ?_
  · intro ac w' ph hF hPh hlt hP hU K hK0
    have hK := fun v w2 (hl : Le8 w' w2) ht => hK0 v w2 (trivial) (⟨hPh.1.old hl, below_step hPh.2.1 (Nat.le_refl _) hl, (hl.block b0 (Array.getElem?_eq_some_iff.1 hPh.2.2).1).trans hPh.2.2⟩) ht
    have e1 : ac.eval (.tmp 1) = .pointer (some ⟨b0, 0, none⟩) := hF.at 1 (by kernel_rfl)
    exact rop_fld _ _ _ rfl e1 ((txnFld b0 _).1) (wanted_none rfl) (hK _ _ (le8_refl _) rfl)
  · intro ac w' ph hF hPh hlt hP hU K hK0
    have hK := fun v w2 (hl : Le8 w' w2) ht => hK0 v w2 (trivial) (⟨hPh.1.old hl, below_step hPh.2.1 (Nat.le_refl _) hl, (hl.block b0 (Array.getElem?_eq_some_iff.1 hPh.2.2).1).trans hPh.2.2⟩) ht
    have e3 : ac.eval (.tmp 3) = .pointer (some ⟨b0, 0, none⟩) := hP 0 (by kernel_rfl)
    exact rop_ld _ _ rfl e3 (load_logp (cell_of hPh.2.2 0)) (wanted_none rfl) (hK _ _ (le8_refl _) rfl)
  · intro ac w' ph hF hPh hlt hP hU K hK0
    have hK := fun v w2 (hl : Le8 w' w2) ht => hK0 v w2 (trivial) (⟨hPh.1.old hl, below_step hPh.2.1 (Nat.le_refl _) hl, (hl.block b0 (Array.getElem?_eq_some_iff.1 hPh.2.2).1).trans hPh.2.2⟩) ht
    have e4 : ac.eval (.tmp 4) = .pointer (some ⟨l, 0, none⟩) := hP 1 (by kernel_rfl)
    exact rop_nil _ rfl e4 (wanted_none rfl) (hK _ _ (le8_refl _) rfl)
  · intro ac w' ph hF hPh hlt hP hU K hK0
    have hK := fun v w2 (hl : Le8 w' w2) ht => hK0 v w2 (trivial) (⟨hPh.1.old hl, below_step hPh.2.1 (Nat.le_refl _) hl, (hl.block b0 (Array.getElem?_eq_some_iff.1 hPh.2.2).1).trans hPh.2.2⟩) ht
    have e5 : ac.eval (.tmp 5) = .pointer (some ⟨l, 0, none⟩) := hP 2 (by kernel_rfl)
    exact rop_fld _ _ _ rfl e5 ((logFld l _).2.2.1) (wanted_none rfl) (hK _ _ (le8_refl _) rfl)
  · intro ac w' ph hF hPh hlt hP hU K hK0
    have hK := fun v w2 (hl : Le8 w' w2) ht => hK0 v w2 (trivial) (⟨hPh.1.old hl, below_step hPh.2.1 (Nat.le_refl _) hl, (hl.block b0 (Array.getElem?_eq_some_iff.1 hPh.2.2).1).trans hPh.2.2⟩) ht
    have e6 : ac.eval (.tmp 6) = .pointer (some ⟨l, 3, none⟩) := hP 3 (by kernel_rfl)
    exact rop_ld _ _ rfl e6 (load_int hPh.1.l3) (wanted_none rfl) (hK _ _ (le8_refl _) rfl)
  · intro ac w' ph hF hPh hlt hP hU K hK0
    have hK := fun v w2 (hl : Le8 w' w2) ht => hK0 v w2 (trivial) (⟨hPh.1.old hl, below_step hPh.2.1 (Nat.le_refl _) hl, (hl.block b0 (Array.getElem?_eq_some_iff.1 hPh.2.2).1).trans hPh.2.2⟩) ht
    have e1 : ac.eval (.tmp 1) = .pointer (some ⟨b0, 0, none⟩) := hF.at 1 (by kernel_rfl)
    exact rop_fld _ _ _ rfl e1 ((txnFld b0 _).1) (wanted_none rfl) (hK _ _ (le8_refl _) rfl)
  · intro ac w' ph hF hPh hlt hP hU K hK0
    have hK := fun v w2 (hl : Le8 w' w2) ht => hK0 v w2 (trivial) (⟨hPh.1.old hl, below_step hPh.2.1 (Nat.le_refl _) hl, (hl.block b0 (Array.getElem?_eq_some_iff.1 hPh.2.2).1).trans hPh.2.2⟩) ht
    have e8 : ac.eval (.tmp 8) = .pointer (some ⟨b0, 0, none⟩) := hP 5 (by kernel_rfl)
    exact rop_ld _ _ rfl e8 (load_logp (cell_of hPh.2.2 0)) (wanted_none rfl) (hK _ _ (le8_refl _) rfl)
  · intro ac w' ph hF hPh hlt hP hU K hK0
    have hK := fun v w2 (hl : Le8 w' w2) ht => hK0 v w2 (trivial) (⟨hPh.1.old hl, below_step hPh.2.1 (Nat.le_refl _) hl, (hl.block b0 (Array.getElem?_eq_some_iff.1 hPh.2.2).1).trans hPh.2.2⟩) ht
    have e9 : ac.eval (.tmp 9) = .pointer (some ⟨l, 0, none⟩) := hP 6 (by kernel_rfl)
    exact rop_nil _ rfl e9 (wanted_none rfl) (hK _ _ (le8_refl _) rfl)
  · intro ac w' ph hF hPh hlt hP hU K hK0
    have hK := fun v w2 (hl : Le8 w' w2) ht => hK0 v w2 (trivial) (⟨hPh.1.old hl, below_step hPh.2.1 (Nat.le_refl _) hl, (hl.block b0 (Array.getElem?_eq_some_iff.1 hPh.2.2).1).trans hPh.2.2⟩) ht
    have e10 : ac.eval (.tmp 10) = .pointer (some ⟨l, 0, none⟩) := hP 7 (by kernel_rfl)
    exact rop_fld _ _ _ rfl e10 ((logFld l _).2.2.2.2.2) (wanted_none rfl) (hK _ _ (le8_refl _) rfl)
  · intro ac w' ph hF hPh hlt hP hU K hK0
    have hK := fun v w2 (hl : Le8 w' w2) ht => hK0 v w2 (trivial) (⟨hPh.1.old hl, below_step hPh.2.1 (Nat.le_refl _) hl, (hl.block b0 (Array.getElem?_eq_some_iff.1 hPh.2.2).1).trans hPh.2.2⟩) ht
    have e11 : ac.eval (.tmp 11) = .pointer (some ⟨l, 6, none⟩) := hP 8 (by kernel_rfl)
    exact rop_ld _ _ rfl e11 (load_int hPh.1.l6) (wanted_none rfl) (hK _ _ (le8_refl _) rfl)
  · intro ac w' ph hF hPh hlt hP hU K hK0
    have hK := fun v w2 (hl : Le8 w' w2) ht => hK0 v w2 (trivial) (⟨hPh.1.old hl, below_step hPh.2.1 (Nat.le_refl _) hl, (hl.block b0 (Array.getElem?_eq_some_iff.1 hPh.2.2).1).trans hPh.2.2⟩) ht
    have e7 : ac.eval (.tmp 7) = .int .i64 (G.m : Int) := hP 4 (by kernel_rfl)
    have e12 : ac.eval (.tmp 12) = .int .i64 (used : Int) := hP 9 (by kernel_rfl)
    exact rop_bin _ _ _ _ _ rfl e7 e12 (guard_int _ _ _ _ _ _ _ w') (sub_int _ _ _ (rfl) (by omega) w') (wanted_none rfl) (hK _ _ (le8_refl _) rfl)
  · intro ac w' ph hF hPh hlt hP hU K hK0
    have hK := fun v w2 (hl : Le8 w' w2) ht => hK0 v w2 (trivial) (⟨hPh.1.old hl, below_step hPh.2.1 (Nat.le_refl _) hl, (hl.block b0 (Array.getElem?_eq_some_iff.1 hPh.2.2).1).trans hPh.2.2⟩) ht
    have e1 : ac.eval (.tmp 1) = .pointer (some ⟨b0, 0, none⟩) := hF.at 1 (by kernel_rfl)
    exact rop_ld _ _ rfl e1 (load_txn (cell_of hPh.2.2 0) (cell_of hPh.2.2 1)) (wanted_none rfl) (hK _ _ (le8_refl _) rfl)
  · intro ac w' ph hF hPh hlt hP hU K hK0
    have hK := fun v w2 (hl : Le8 w' w2) ht => hK0 v w2 (trivial) (⟨hPh.1.old hl, below_step hPh.2.1 (Nat.le_refl _) hl, (hl.block b0 (Array.getElem?_eq_some_iff.1 hPh.2.2).1).trans hPh.2.2⟩) ht
    have e14 : ac.eval (.tmp 14) = .agg #[.pointer (some ⟨l, 0, none⟩), .slice a n cap] := hP 11 (by kernel_rfl)
    refine rop_call 87 _ _ rfl #[.agg #[.pointer (some ⟨l, 0, none⟩), .slice a n cap]] (by simp [e14]) (by kernel_rfl) (wanted_none rfl) ?_
    refine (hsz _).mono ?_
    rintro e w2 ⟨rfl, hb⟩
    exact ⟨_, rfl, hK _ _ hb rfl⟩
  · intro ac w' ph hF hPh hlt hP hU K hK0
    have hK := fun v w2 (hl : Le8 w' w2) ht => hK0 v w2 (trivial) (⟨hPh.1.old hl, below_step hPh.2.1 (Nat.le_refl _) hl, (hl.block b0 (Array.getElem?_eq_some_iff.1 hPh.2.2).1).trans hPh.2.2⟩) ht
    have e13 : ac.eval (.tmp 13) = .int .i64 ((G.m : Int) - (used : Int)) := hP 10 (by kernel_rfl)
    have e15 : ac.eval (.tmp 15) = .int .i64 ((n + 2 : Nat) : Int) := hP 12 (by kernel_rfl)
    exact rop_bin _ _ _ _ _ rfl e13 e15 (guard_int _ _ _ _ _ _ _ _) (leq_dec _ _ _ (by omega) _) (wanted_none rfl) (hK _ _ (le8_refl _) rfl)
  · intro ac w' hF hPh hT
    have e16 : ac.eval (.tmp 16) = .bool (decide (G.m - used ≤ n + 2)) := hT 13 (by decide)
    rw [hF.sets [3, 4, 5, 6, 7, 8, 9, 10, 11, 12, 13, 14, 15, 16] (by kernel_rfl)]
    simp only [List.foldl_cons, List.foldl_nil, List.setIfInBounds_toArray, List.set_cons_succ, List.set_cons_zero, e16]
    generalize ac.eval (.tmp 3) = u3
    generalize ac.eval (.tmp 4) = u4
    generalize ac.eval (.tmp 5) = u5
    generalize ac.eval (.tmp 6) = u6
    generalize ac.eval (.tmp 7) = u7
    generalize ac.eval (.tmp 8) = u8
    generalize ac.eval (.tmp 9) = u9
    generalize ac.eval (.tmp 10) = u10
    generalize ac.eval (.tmp 11) = u11
    generalize ac.eval (.tmp 12) = u12
    generalize ac.eval (.tmp 13) = u13
    generalize ac.eval (.tmp 14) = u14
    generalize ac.eval (.tmp 15) = u15
    clear e16 hT hF ac
    have h1 := hPh.1
    rw [HX.out] at h1
    have hb2 := hPh.2.1
    have c0 : w'.cell? ⟨b0, 0, none⟩ = some (.pointer (some ⟨l, 0, none⟩)) := cell_of hPh.2.2 0
    clear hPh hbb htb hb1 HX hsz
    by_cases hc : G.m - used ≤ n + 2
    · rw [decide_eq_true hc]
      have h0 : 0 < used := by omega
      have hck := checkpoint_some S l p G place seq used (d, true) w' h1 h0 (hu.mono hb2.size) hS0 (hT.old hb2) hN hp hq hb
      have hY2 := HY.out
      unfold mrX at hY2
      rw [if_pos hc] at hY2
      rw [← hY2] at hck
      clear hY2
      go_wp2_with (go_at_call 56; refine hck.mono ?_; rintro e w3 ⟨rfl, h3, f3⟩)
      go_ret
      refine ⟨rfl, (FrL.of_below hb2).trans f3, _, h3, fun e => ?_⟩
      rw [if_pos e, HW.out, if_pos hc]
    · rw [decide_eq_false hc]
      have hY2 := HY.out
      unfold mrX at hY2
      rw [if_neg hc, gos_nil] at hY2
      subst hY2
      go_wp2
      go_ret
      exact ⟨rfl, FrL.of_below hb2, by rw [HW.out, if_neg hc]; exact h1⟩
end Go.Proofs.YtfcocbgdmmeikaaGreatDoor
/-! ## Package redo: which writes a log does. -/
namespace Go.Proofs.YtfcocbgdmmeikaaGreatDoor
open Go.RowKit Dsk

/-- A write that a log does. -/
def okP (G : Jnl.Geo) (y : Int × ByteArray) : Bool := decide (y.2.size = 256) && okAt G y.1
/-- What a commit tells of writes ahead of all else. -/
def allowE (G : Jnl.Geo) (t : List (Int × ByteArray)) : Int := if t.length = 0 then 1 else if (t.all (okP G)) = true then (if roomN G < t.length then 11 else 0) else 1
set_option maxHeartbeats 3200000 in
set_option maxRecDepth 100000 in
theorem allowed_any (S : Nat → Prop) (l p : Nat) (G : Jnl.Geo) (place seq used : Nat) (x : Dk × Bool) (v : Value) (t : List (Int × ByteArray)) (g : Nat) (w : World) (h : LogS S l p G place seq used x w) (hv : PutsR w v t g) (hlen : t.length ≤ 100000) (hN : x.1.lies.length = G.N) (hN2 : G.N ≤ 65536) (hsz : ∀ y ∈ t, y.2.size ≤ 1000000) :
    Calls Tryz.prog 60 #[.agg #[.pointer (some ⟨l, 0, none⟩), v]] w fun e w' => e = .returned (.int .i64 (allowE G t)) ∧ Below w.heap.size w w' := by
  obtain ⟨a, cap, rfl, hl, hc⟩ := hv
  obtain ⟨E, hE⟩ : ∃ E, E = allowE G t := ⟨_, rfl⟩
  rw [← hE]
  have HE := Lib.hid hE
  have HC := Lib.hid hc
  have HSZ := Lib.hid hsz
  obtain ⟨wb, hwb⟩ : ∃ wb, wb = w.alloc (.cells #[.pointer (some ⟨l, 0, none⟩), .slice a t.length cap] 106) := ⟨_, rfl⟩
  obtain ⟨b0, hb0⟩ : ∃ b0, b0 = w.heap.size := ⟨_, rfl⟩
  have hbb : Below w.heap.size w wb := by rw [hwb]; exact (Below.refl _ _).alloc (Nat.le_refl _) _
  have htb : wb.heap[b0]? = some (.cells #[.pointer (some ⟨l, 0, none⟩), .slice a t.length cap] 106 (0, 0)) := by rw [hwb, hb0]; exact heap_alloc_last w _
  have cb0 : wb.cell? ⟨b0, 0, none⟩ = some (.pointer (some ⟨l, 0, none⟩)) := cell_of htb 0
  have cb1 : wb.cell? ⟨b0, 1, none⟩ = some (.slice a t.length cap) := cell_of htb 1
  have hlb : b0 < wb.heap.size := (Array.getElem?_eq_some_iff.1 htb).1
  have HTB := Lib.hid htb
  clear hE hc hsz htb
  by_cases h0 : t.length = 0
  · have h0' : ((t.length : Nat) : Int) = 0 := by omega
    have hE1 : E = 1 := by rw [HE.out]; unfold allowE; rw [if_pos h0]
    subst hE1
    have H0 := Lib.hid h0'
    clear h0 h0'
    go_enter Tryz.func60, Tryz.ntmps60
    go_upto_region 1 with fail
    rw [← hwb, ← hb0]
    clear hwb hb0
    have h0' := H0.out
    go_wp2
    go_ret
    exact ⟨rfl, hbb⟩
  · have h0' : ¬ ((t.length : Nat) : Int) = 0 := by omega
    have h0b : (((t.length : Nat) : Int) == 0) = false := beq_false_of_ne h0'
    go_enter Tryz.func60, Tryz.ntmps60
    go_upto_region 1 with fail
    rw [← hwb, ← hb0]
    clear hwb hb0
    go_upto_region 4 with fail
    go_loopw [12] (fun i wr => ∃ k : Nat, k ≤ t.length ∧ i = .int .i64 k ∧ (t.take k).all (okP G) = true ∧ Below wb.heap.size wb wr) (fun i _ => t.length - (intOf i).toNat)
    case atStart => exact ⟨0, Nat.zero_le _, rfl, rfl, Below.refl _ _⟩
    case round =>
      obtain ⟨k, hk, rfl, hall, hb⟩ := hrel
      clear cb0 cb1
      by_cases hlt : k < t.length
      · obtain ⟨off, rfl, hgl, hj⟩ := HC.out (fun e => by rw [e] at hlt; simp at hlt)
        obtain ⟨c1, c2⟩ := hj k hlt
        have hbw := hbb.trans (hb.mono hbb.size)
        have d1 := (hbw.cell (p := ⟨g, off + k * 2, none⟩) hgl).trans c1
        have d2 := (hbw.cell (p := ⟨g, off + k * 2 + 1, none⟩) hgl).trans c2
        have hy : t.getD k (0, .empty) = t[k] := by rw [List.getD_eq_getElem?_getD, List.getElem?_eq_getElem hlt]; rfl
        rw [hy] at d1 d2
        have hsk := HSZ.out _ (List.getElem_mem hlt)
        have hok : (t.take (k + 1)).all (okP G) = okP G t[k] := by rw [List.take_succ_eq_append_getElem hlt, List.all_append, hall]; simp
        have hbad : okP G t[k] = false → E = 1 := fun e => by
          rw [HE.out]
          unfold allowE
          rw [if_neg h0, if_neg]
          intro hh
          have := List.all_eq_true.1 hh t[k] (List.getElem_mem hlt)
          rw [e] at this
          exact Bool.false_ne_true this
        have hpe : okP G t[k] = (decide (t[k].2.size = 256) && okAt G t[k].1) := rfl
        rw [hpe] at hok hbad
        have HOK := Lib.hid hok
        have HBAD := Lib.hid hbad
        clear hok hbad hpe hy c1 c2 hj
        generalize t[k].1 = A at *
        generalize t[k].2 = X at *
        go_upto_region 6 with fail
        obtain ⟨w1, hw1⟩ : ∃ w1, w1 = wr.alloc (.cells #[.int .i64 A, .string X] 64) := ⟨_, rfl⟩
        have b1 : Below wr.heap.size wr w1 := by rw [hw1]; exact (Below.refl _ _).alloc (Nat.le_refl _) _
        have e1 : w1.cell? ⟨wr.heap.size, 0, none⟩ = some (.int .i64 A) := by rw [hw1, cell_of (heap_alloc_last wr _)]; rfl
        have e2 : w1.cell? ⟨wr.heap.size, 1, none⟩ = some (.string X) := by rw [hw1, cell_of (heap_alloc_last wr _)]; rfl
        have bb1 : Below wb.heap.size wb w1 := below_step hb (Nat.le_refl _) b1
        have f0 : w1.cell? ⟨b0, 0, none⟩ = some (.pointer (some ⟨l, 0, none⟩)) := (bb1.cell (p := ⟨b0, 0, none⟩) hlb).trans (cell_of HTB.out 0)
        have hgu := guards_any S l p G place seq used w1 x A (h.old (hbb.trans (bb1.mono hbb.size))) hN hN2
        rw [← hw1]
        clear hw1 d1 d2
        by_cases h256 : X.size = 256
        · have h256' : ((X.size : Nat) : Int) = 256 := by omega
          cases hg : okAt G A with
          | true =>
            rw [hg] at hgu
            have HG := Lib.hid hg
            clear hg
            go_wp2_with (go_at_call 85; refine hgu.mono ?_; rintro e w2 ⟨rfl, b2⟩)
            go_roundw
            case rel => exact ⟨k + 1, by omega, by go_num, by rw [HOK.out, HG.out, decide_eq_true h256]; rfl, below_step bb1 (Nat.le_refl _) b2⟩
            case measure => simp [intOf]; omega
          | false =>
            rw [hg] at hgu
            have HG := Lib.hid hg
            clear hg
            have hE1 : E = 1 := HBAD.out (by rw [HG.out, Bool.and_false])
            subst hE1
            go_wp2_with (go_at_call 85; refine hgu.mono ?_; rintro e w2 ⟨rfl, b2⟩)
            try rw [Exit.noGoto_ret]
            go_ret
            exact ⟨rfl, hbb.trans ((below_step bb1 (Nat.le_refl _) b2).mono hbb.size)⟩
        · have h256' : ¬ ((X.size : Nat) : Int) = 256 := by omega
          have hE1 : E = 1 := HBAD.out (by rw [decide_eq_false h256, Bool.false_and])
          subst hE1
          clear hgu
          go_wp2
          try rw [Exit.noGoto_ret]
          go_ret
          exact ⟨rfl, hbb.trans (bb1.mono hbb.size)⟩
      · obtain rfl : k = t.length := by omega
        rw [List.take_length] at hall
        have hE2 : E = if roomN G < t.length then 11 else 0 := by rw [HE.out]; unfold allowE; rw [if_neg h0, if_pos hall]
        have f0 : wr.cell? ⟨b0, 0, none⟩ = some (.pointer (some ⟨l, 0, none⟩)) := (hb.cell (p := ⟨b0, 0, none⟩) hlb).trans (cell_of HTB.out 0)
        have f1 : wr.cell? ⟨b0, 1, none⟩ = some (.slice a t.length cap) := (hb.cell (p := ⟨b0, 1, none⟩) hlb).trans (cell_of HTB.out 1)
        have hro := fun n => room_any S l p G place seq used (wr.drewN n) x (h.old ((hbb.trans (hb.mono hbb.size)).trans ((below_drewN' n).mono (Nat.le_trans hbb.size hb.size)))) hN2
        have hr60 : roomN G ≤ 60 := Nat.min_le_left _ _
        generalize roomN G = r at *
        have HE2 := Lib.hid hE2
        clear hE2
        go_upto_region 9 with fail
        go_quiet ((go_at_call 86; exact quiet_left (hro _)))
        by_cases hrl : r < t.length
        · have hrl' : ((r : Nat) : Int) < (t.length : Int) := by omega
          have hE1 : E = 11 := by rw [HE2.out, if_pos hrl]
          subst hE1
          go_wp2
          go_ret
          exact ⟨rfl, (hbb.trans (hb.mono hbb.size)).trans ((below_drewN' _).mono (Nat.le_trans hbb.size hb.size))⟩
        · have hrl' : ¬ ((r : Nat) : Int) < (t.length : Int) := by omega
          have hE1 : E = 0 := by rw [HE2.out, if_neg hrl]
          subst hE1
          go_wp2
          go_ret
          exact ⟨rfl, (hbb.trans (hb.mono hbb.size)).trans ((below_drewN' _).mono (Nat.le_trans hbb.size hb.size))⟩
end Go.Proofs.YtfcocbgdmmeikaaGreatDoor
/-! ## Package redo: Commit, Checkpoint, whole: what they tell, and what they leave. -/
namespace Go.Proofs.YtfcocbgdmmeikaaGreatDoor
open Go.RowKit Dsk

theorem ends4 (k : Nat) (h : k ≤ 4) : k = 0 ∨ k = 1 ∨ k = 2 ∨ k = 3 ∨ k = 4 := by omega
/-- Four calls, one behind the other, up to the first that tells an error. -/
theorem goOn4 (f0 f1 f2 f3 : FuncId) (v0 v1 : Value) (fb : Nat) (w : World) (I : Nat → World → Prop) (Po : Int → World → Prop)
    (hf0 : f0 = 55) (hf1 : f1 = 60) (hf2 : f2 = 61) (hf3 : f3 = 62)
    (hc : ∀ k u, I k u → u.heap[fb]? = some (.cells #[.func (.func f0) #[v0] #[], .func (.func f1) #[v1] #[], .func (.func f2) #[v1] #[], .func (.func f3) #[v1] #[]] 52 (0, 0)))
    (h0 : I 0 w)
    (k0 : ∀ u, I 0 u → Calls Tryz.prog f0 #[v0] u fun e w' => ∃ r, e = .returned (.int .i64 r) ∧ (r = 0 → I 1 w') ∧ (r ≠ 0 → Po r w'))
    (k1 : ∀ u, I 1 u → Calls Tryz.prog f1 #[v1] u fun e w' => ∃ r, e = .returned (.int .i64 r) ∧ (r = 0 → I 2 w') ∧ (r ≠ 0 → Po r w'))
    (k2 : ∀ u, I 2 u → Calls Tryz.prog f2 #[v1] u fun e w' => ∃ r, e = .returned (.int .i64 r) ∧ (r = 0 → I 3 w') ∧ (r ≠ 0 → Po r w'))
    (k3 : ∀ u, I 3 u → Calls Tryz.prog f3 #[v1] u fun e w' => ∃ r, e = .returned (.int .i64 r) ∧ (r = 0 → I 4 w') ∧ (r ≠ 0 → Po r w'))
    (h4 : ∀ u, I 4 u → Po 0 u) :
    Calls Tryz.prog 54 #[.slice (some ⟨fb, 0, none⟩) 4 4] w fun e w' => ∃ r, e = .returned (.int .i64 r) ∧ Po r w' := by
  subst hf0
  subst hf1
  subst hf2
  subst hf3
  have HC := Lib.hid hc
  have H4 := Lib.hid h4
  have K0 := Lib.hid k0
  have K1 := Lib.hid k1
  have K2 := Lib.hid k2
  have K3 := Lib.hid k3
  clear hc h4 k0 k1 k2 k3
  go_enter Tryz.func54, Tryz.ntmps54
  go_wp2
  go_loopw [8] (fun i wr => ∃ k : Nat, k ≤ 4 ∧ i = .int .i64 k ∧ I k wr) (fun i _ => 4 - (intOf i).toNat)
  case atStart => exact ⟨0, by omega, rfl, h0⟩
  case round =>
    clear h0
    obtain ⟨k, hk, rfl, hI⟩ := hrel
    have hce := HC.out k wr hI
    rcases ends4 k hk with rfl | rfl | rfl | rfl | rfl
    · have c := cell_of hce 0
      have kk := K0.out wr hI
      clear hce
      go_upto_region 5 with (go_at_call 55; refine kk.mono ?_; rintro e w2 ⟨r, rfl, h1, h2⟩)
      clear kk c
      by_cases hr : r = 0
      · subst hr
        have h1' := h1 rfl
        clear h1 h2
        go_wp2
        go_roundw
        case rel => exact ⟨1, by omega, by go_num, h1'⟩
        case measure => simp [intOf]
      · have h2' := h2 hr
        clear h1 h2
        go_wp2
        try rw [Exit.noGoto_ret]
        go_ret
        exact ⟨r, rfl, h2'⟩
    · have c := cell_of hce 1
      have kk := K1.out wr hI
      clear hce
      go_upto_region 5 with (go_at_call 60; refine kk.mono ?_; rintro e w2 ⟨r, rfl, h1, h2⟩)
      clear kk c
      by_cases hr : r = 0
      · subst hr
        have h1' := h1 rfl
        clear h1 h2
        go_wp2
        go_roundw
        case rel => exact ⟨2, by omega, by go_num, h1'⟩
        case measure => simp [intOf]
      · have h2' := h2 hr
        clear h1 h2
        go_wp2
        try rw [Exit.noGoto_ret]
        go_ret
        exact ⟨r, rfl, h2'⟩
    · have c := cell_of hce 2
      have kk := K2.out wr hI
      clear hce
      go_upto_region 5 with (go_at_call 61; refine kk.mono ?_; rintro e w2 ⟨r, rfl, h1, h2⟩)
      clear kk c
      by_cases hr : r = 0
      · subst hr
        have h1' := h1 rfl
        clear h1 h2
        go_wp2
        go_roundw
        case rel => exact ⟨3, by omega, by go_num, h1'⟩
        case measure => simp [intOf]
      · have h2' := h2 hr
        clear h1 h2
        go_wp2
        try rw [Exit.noGoto_ret]
        go_ret
        exact ⟨r, rfl, h2'⟩
    · have c := cell_of hce 3
      have kk := K3.out wr hI
      clear hce
      go_upto_region 5 with (go_at_call 62; refine kk.mono ?_; rintro e w2 ⟨r, rfl, h1, h2⟩)
      clear kk c
      by_cases hr : r = 0
      · subst hr
        have h1' := h1 rfl
        clear h1 h2
        go_wp2
        go_roundw
        case rel => exact ⟨4, by omega, by go_num, h1'⟩
        case measure => simp [intOf]
      · have h2' := h2 hr
        clear h1 h2
        go_wp2
        try rw [Exit.noGoto_ret]
        go_ret
        exact ⟨r, rfl, h2'⟩
    · have h5 := H4.out wr hI
      clear hce
      go_wp2
      go_ret
      exact ⟨0, rfl, h5⟩
end Go.Proofs.YtfcocbgdmmeikaaGreatDoor
/-! ## Package redo: Commit, whole: what it tells, and what it leaves. -/
namespace Go.Proofs.YtfcocbgdmmeikaaGreatDoor
open Go.RowKit Dsk

theorem okAt_data {G : Jnl.Geo} {a : Nat} : okAt G (a : Int) = true ↔ G.Data a := by
  unfold okAt Jnl.Geo.Data
  rw [decide_eq_true_eq]
  constructor
  · intro ⟨_, h1, h2⟩
    exact ⟨by omega, by omega⟩
  · intro ⟨h1, h2⟩
    exact ⟨by omega, by omega, by omega⟩
theorem allow_zero {G : Jnl.Geo} {tz : List (Int × ByteArray)} (h : allowE G tz = 0) : ∃ t : Jnl.Txn, tz = zT t ∧ 1 ≤ t.length ∧ t.length ≤ roomN G ∧ ∀ y ∈ t, G.Data y.1 ∧ y.2.size = 256 := by
  unfold allowE at h
  by_cases h0 : tz.length = 0
  · rw [if_pos h0] at h; cases h
  · rw [if_neg h0] at h
    by_cases ha : (tz.all (okP G)) = true
    · rw [if_pos ha] at h
      by_cases hr : roomN G < tz.length
      · rw [if_pos hr] at h; cases h
      · have hk := List.all_eq_true.1 ha
        have hz : ∀ y ∈ tz, y.2.size = 256 ∧ okAt G y.1 = true ∧ 0 ≤ y.1 := by
          intro y hy
          have := hk y hy
          unfold okP at this
          simp only [Bool.and_eq_true, decide_eq_true_eq] at this
          refine ⟨this.1, this.2, ?_⟩
          have h2 := this.2
          unfold okAt at h2
          rw [decide_eq_true_eq] at h2
          exact h2.1
        have e : tz = zT (tz.map fun y => (y.1.toNat, y.2)) := by
          unfold zT
          rw [List.map_map]
          conv => lhs; rw [← List.map_id tz]
          refine List.map_congr_left fun y hy => ?_
          have := (hz y hy).2.2
          exact Prod.ext (by show y.1 = ((y.1.toNat : Nat) : Int); omega) rfl
        refine ⟨_, e, by rw [List.length_map]; omega, by rw [List.length_map]; omega, fun y hy => ?_⟩
        obtain ⟨z, hz', rfl⟩ := List.mem_map.1 hy
        obtain ⟨a1, a2, a3⟩ := hz z hz'
        refine ⟨okAt_data.1 ?_, a1⟩
        rw [show ((z.1.toNat : Nat) : Int) = z.1 by omega]
        exact a2
    · rw [if_neg ha] at h; cases h
/-- The functions that a commit calls. -/
def fnC (l : Nat) (v : Value) : Array Value := #[.func (.func 55) #[.pointer (some ⟨l, 0, none⟩)] #[], .func (.func 60) #[.agg #[.pointer (some ⟨l, 0, none⟩), v]] #[], .func (.func 61) #[.agg #[.pointer (some ⟨l, 0, none⟩), v]] #[], .func (.func 62) #[.agg #[.pointer (some ⟨l, 0, none⟩), v]] #[]]
set_option maxHeartbeats 1600000 in
set_option maxRecDepth 100000 in
theorem Commit_walk (l : Nat) (a : Option Addr) (n cap : Nat) (w : World) (_hl : l < w.heap.size) (Po : Int → World → Prop)
    (hg : ∀ fb u, w.heap.size ≤ fb → Below w.heap.size w u → u.heap[fb]? = some (.cells (fnC l (.slice a n cap)) 52 (0, 0)) → Calls Tryz.prog 54 #[.slice (some ⟨fb, 0, none⟩) 4 4] u fun e w' => ∃ r, e = .returned (.int .i64 r) ∧ Po r w') :
    Calls Tryz.prog 28 #[.pointer (some ⟨l, 0, none⟩), .slice a n cap] w fun e w' => ∃ r, e = .returned (.int .i64 r) ∧ Po r w' := by
  have hmf : ∀ (fn : Fn) (first cap : Array Value) (w : World), (Instr.makeFunc fn first cap).run Tryz.prog w = .ok (.func fn first cap) w := fun _ _ _ _ => rfl
  obtain ⟨wb, hwb⟩ : ∃ wb, wb = w.alloc (.cells #[.pointer (some ⟨l, 0, none⟩), .slice a n cap] 106) := ⟨_, rfl⟩
  obtain ⟨b0, hb0⟩ : ∃ b0, b0 = w.heap.size := ⟨_, rfl⟩
  have hbb : Below w.heap.size w wb := by rw [hwb]; exact (Below.refl _ _).alloc (Nat.le_refl _) _
  have htb : wb.heap[b0]? = some (.cells #[.pointer (some ⟨l, 0, none⟩), .slice a n cap] 106 (0, 0)) := by rw [hwb, hb0]; exact heap_alloc_last w _
  have cb0 : wb.cell? ⟨b0, 0, none⟩ = some (.pointer (some ⟨l, 0, none⟩)) := cell_of htb 0
  have cb1 : wb.cell? ⟨b0, 1, none⟩ = some (.slice a n cap) := cell_of htb 1
  have hgo := hg wb.heap.size (wb.alloc (.cells (fnC l (.slice a n cap)) 52)) hbb.size (hbb.alloc hbb.size _) (heap_alloc_last wb _)
  have HGO := Lib.hid hgo
  clear hg hgo htb
  go_enter Tryz.func28, Tryz.ntmps28
  go_upto_region 2 with fail
  rw [← hwb, ← hb0]
  clear hwb hb0
  go_wp2_with (go_at_call 54; refine (show Calls Tryz.prog 54 _ _ _ from HGO.out).mono ?_; rintro e w3 ⟨r, rfl, h3⟩)
  go_ret
  exact ⟨r, rfl, h3⟩
end Go.Proofs.YtfcocbgdmmeikaaGreatDoor
/-! ## Package redo: what Commit tells and leaves: a broken log; writes that it does not do; writes that it does. -/
namespace Go.Proofs.YtfcocbgdmmeikaaGreatDoor
open Go.RowKit Dsk

section
variable (S : Nat → Prop) (l p : Nat) (G : Jnl.Geo) (place seq used : Nat) (d : Dk) (v : Value) (g : Nat) (w : World)
theorem fn_kept {S : Nat → Prop} {l fb : Nat} {v : Value} {u u' : World} (h : u.heap[fb]? = some (.cells (fnC l v) 52 (0, 0))) (hn : fb ≠ l) (hf : FrL l S u u') : u'.heap[fb]? = some (.cells (fnC l v) 52 (0, 0)) :=
  (hf.other fb _ _ _ hn h (by decide) (by decide) (by decide)).trans h
theorem Commit_off (a : Option Addr) (n cap : Nat) (h : LogS S l p G place seq used (d, false) w) :
    Calls Tryz.prog 28 #[.pointer (some ⟨l, 0, none⟩), .slice a n cap] w fun e w' => ∃ r, e = .returned (.int .i64 r) ∧ r = 13 ∧ Below w.heap.size w w' := by
  refine Commit_walk l a n cap w h.lt _ fun fb u hfb hb hf => ?_
  refine goOn4 _ _ _ _ _ _ fb u (fun k u' => k = 0 ∧ u' = u) _ rfl rfl rfl rfl (fun k u' hk => by rw [hk.2]; exact hf) ⟨rfl, rfl⟩ (fun u' hk => ?_) (fun u' hk => absurd hk.1 (by decide)) (fun u' hk => absurd hk.1 (by decide)) (fun u' hk => absurd hk.1 (by decide)) (fun u' hk => absurd hk.1 (by decide))
  rw [hk.2]
  refine (ready_ok S l p G place seq used u _ (h.old hb)).mono fun e w' ⟨he, hw⟩ => ⟨13, he, fun e => absurd e (by decide), fun _ => ⟨rfl, hw ▸ hb⟩⟩
theorem Commit_bad (t : List (Int × ByteArray)) (h : LogS S l p G place seq used (d, true) w) (hv : PutsR w v t g) (hlen : t.length ≤ 100000) (hN : d.lies.length = G.N) (hN2 : G.N ≤ 65536) (hsz : ∀ y ∈ t, y.2.size ≤ 1000000) (hbad : allowE G t ≠ 0) :
    Calls Tryz.prog 28 #[.pointer (some ⟨l, 0, none⟩), v] w fun e w' => ∃ r, e = .returned (.int .i64 r) ∧ r = allowE G t ∧ Below w.heap.size w w' := by
  have hv0 := hv
  obtain ⟨a, cap, rfl, _, _⟩ := hv
  refine Commit_walk l a _ cap w h.lt _ fun fb u hfb hb hf => ?_
  have hfl : fb < u.heap.size := (Array.getElem?_eq_some_iff.1 hf).1
  refine goOn4 _ _ _ _ _ _ fb u (fun k u' => k ≤ 1 ∧ Below u.heap.size u u') _ rfl rfl rfl rfl (fun k u' hk => (hk.2.block fb hfl).trans hf) ⟨Nat.zero_le _, Below.refl _ _⟩ (fun u' hk => ?_) (fun u' hk => ?_) (fun u' hk => absurd hk.1 (by decide)) (fun u' hk => absurd hk.1 (by decide)) (fun u' hk => absurd hk.1 (by decide))
  · have hb2 := below_step hb (Nat.le_refl _) hk.2
    exact (ready_ok S l p G place seq used u' _ (h.old hb2)).mono fun e w' ⟨he, hw⟩ => ⟨0, he, fun _ => ⟨by decide, hw ▸ hk.2⟩, fun e => absurd rfl e⟩
  · have hb2 := below_step hb (Nat.le_refl _) hk.2
    exact (allowed_any S l p G place seq used _ _ t g u' (h.old hb2) (hv0.old hb2) hlen hN hN2 hsz).mono fun e w' ⟨he, hw⟩ => ⟨_, he, fun e => absurd e hbad, fun _ => ⟨rfl, below_step hb2 (Nat.le_refl _) hw⟩⟩
/-- What a commit has between its parts. -/
def IC (t : Jnl.Txn) (fb : Nat) (v : Value) (k : Nat) (u : World) : Prop := FrL l S w u ∧ u.heap[fb]? = some (.cells (fnC l v) 52 (0, 0)) ∧
  (k ≤ 2 → LogS S l p G place seq used (d, true) u) ∧
  (k = 3 → (mrX G place seq used d t.length).2 = true ∧ LogS S l p G place seq (if G.m - used ≤ t.length + 2 then 0 else used) (mrX G place seq used d t.length) u) ∧
  (k = 4 → (gos (d, true) (cAll G place seq used t)).2 = true ∧ LogS S l p G ((place + (t.length + 2)) % G.m) (seq + 1) (uAfter G.m used t.length) (gos (d, true) (cAll G place seq used t)) u)
theorem Commit_ok (t : Jnl.Txn) (h : LogS S l p G place seq used (d, true) w) (hu : Up S w) (hS0 : ¬ S 0) (hT : TW w) (hv : PutsR w v (zT t) g) (hg : g < w.heap.size → ¬ S g)
    (hN : d.lies.length = G.N) (hN2 : G.N ≤ 65536) (hp : place < G.m) (hq : seq ≤ 549755813888) (hus : used + 1 ≤ G.m) (h1 : 1 ≤ t.length) (hr : t.length ≤ roomN G) (ht : ∀ y ∈ t, G.Data y.1 ∧ y.2.size = 256) (hb : Bd (d, true) 203) :
    Calls Tryz.prog 28 #[.pointer (some ⟨l, 0, none⟩), v] w fun e w' => ∃ r, e = .returned (.int .i64 r) ∧ r = eOf (gos (d, true) (cAll G place seq used t)).2 ∧ FrL l S w w' ∧
      ((gos (d, true) (cAll G place seq used t)).2 = true → LogS S l p G ((place + (t.length + 2)) % G.m) (seq + 1) (uAfter G.m used t.length) (gos (d, true) (cAll G place seq used t)) w') ∧
      ((gos (d, true) (cAll G place seq used t)).2 = false → ∃ pl sq us, LogS S l p G pl sq us (gos (d, true) (cAll G place seq used t)) w') := by
  have hv0 := hv
  have hG := G.h
  have h3 := G.m3
  have hr60 : t.length ≤ 60 := Nat.le_trans hr (Nat.min_le_left _ _)
  have hrm : t.length + 3 ≤ G.m := by have := Nat.le_trans hr (Nat.min_le_right 60 (G.m - 3)); omega
  have hal : allowE G (zT t) = 0 := by
    unfold allowE
    rw [zT_len, if_neg (by omega), if_pos, if_neg (by omega)]
    refine List.all_eq_true.2 fun y hy => ?_
    obtain ⟨z, hz, rfl⟩ := List.mem_map.1 hy
    unfold okP
    rw [decide_eq_true (ht z hz).2, okAt_data.2 (ht z hz).1]
    rfl
  have hcz : gos (d, true) (cAll G place seq used t) = gos (mrX G place seq used d t.length) (Jnl.cmOps RL G place seq t) := by unfold cAll mrX; rw [gos_append]
  have hBm : Bd (mrX G place seq used d t.length) 200 := by
    unfold mrX
    refine Bd.gos ?_
    split
    · exact hb
    · exact hb.mono (by simp)
  have hNm : (mrX G place seq used d t.length).1.lies.length = G.N := by unfold mrX; rw [gos_len]; exact hN
  obtain ⟨a, cap, rfl, _, _⟩ := hv
  refine Commit_walk l a _ cap w h.lt _ fun fb u hfb hbu hf => ?_
  have hnl : fb ≠ l := by have := h.lt; omega
  refine goOn4 _ _ _ _ _ _ fb u (IC S l p G place seq used d w t fb (.slice a (zT t).length cap)) _ rfl rfl rfl rfl (fun k u' hk => hk.2.1) ⟨FrL.of_below hbu, hf, fun _ => h.old hbu, fun e => absurd e (by decide), fun e => absurd e (by decide)⟩ (fun u' hk => ?_) (fun u' hk => ?_) (fun u' hk => ?_) (fun u' hk => ?_) (fun u' hk => ?_)
  · obtain ⟨f1, f2, f3, _⟩ := hk
    refine (ready_ok S l p G place seq used u' _ (f3 (by decide))).mono fun e w' ⟨he, hw⟩ => ⟨0, he, fun _ => ?_, fun e => absurd rfl e⟩
    subst hw
    exact ⟨f1, f2, fun _ => f3 (by decide), fun e => absurd e (by decide), fun e => absurd e (by decide)⟩
  · obtain ⟨f1, f2, f3, _⟩ := hk
    have hL := f3 (by decide)
    have hv2 : PutsR u' (.slice a (zT t).length cap) (zT t) g := hv0.kept fun hlt => ⟨Nat.lt_of_lt_of_le hlt f1.size, f1.fr.block g hlt (hg hlt)⟩
    refine (allowed_any S l p G place seq used _ _ (zT t) g u' hL hv2 (by rw [zT_len]; omega) hN hN2 (fun y hy => by
      obtain ⟨z, hz, rfl⟩ := List.mem_map.1 hy
      have := (ht z hz).2
      show z.2.size ≤ _
      omega)).mono fun e w' ⟨he, hw⟩ => ⟨0, by rw [he, hal], fun _ => ?_, fun e => absurd rfl e⟩
    exact ⟨f1.trans (FrL.of_below hw), fn_kept f2 hnl (FrL.of_below (S := S) hw), fun _ => hL.old hw, fun e => absurd e (by decide), fun e => absurd e (by decide)⟩
  · obtain ⟨f1, f2, f3, _⟩ := hk
    have hL := f3 (by decide)
    have hmr := makeRoom_any S l p G place seq used d a (zT t).length cap u' hL (hu.mono f1.size) hS0 (hT.fr f1.fr hS0) hN hN2 (by omega) (by omega) (hb.mono (by omega)) (by rw [zT_len]; omega) (by omega) (by rw [zT_len]; omega)
    rw [zT_len] at hmr
    rw [zT_len] at f2 ⊢
    refine hmr.mono fun e w' ⟨he, hf2, us, hL2, hus2⟩ => ⟨_, he, fun e0 => ?_, fun e0 => ?_⟩
    · have hok : (mrX G place seq used d t.length).2 = true := by
        cases hm : (mrX G place seq used d t.length).2 with
        | true => rfl
        | false => rw [hm] at e0; exact absurd e0 (by decide)
      refine ⟨f1.trans hf2, fn_kept f2 hnl hf2, fun e => absurd e (by decide), fun _ => ⟨hok, ?_⟩, fun e => absurd e (by decide)⟩
      rw [← hus2 hok]
      exact hL2
    · have hno : (mrX G place seq used d t.length).2 = false := by
        cases hm : (mrX G place seq used d t.length).2 with
        | false => rfl
        | true => rw [hm] at e0; exact absurd rfl e0
      have hz : gos (d, true) (cAll G place seq used t) = mrX G place seq used d t.length := by
        rw [hcz]
        unfold gos
        rw [hno, if_neg Bool.false_ne_true]
      rw [hz]
      exact ⟨rfl, f1.trans hf2, fun e => absurd (hno.symm.trans e) Bool.false_ne_true, fun _ => ⟨_, _, _, hL2⟩⟩
  · obtain ⟨f1, f2, _, f4, _⟩ := hk
    obtain ⟨hok, hL⟩ := f4 rfl
    have hv2 : PutsR u' (.slice a (zT t).length cap) (zT t) g := hv0.kept fun hlt => ⟨Nat.lt_of_lt_of_le hlt f1.size, f1.fr.block g hlt (hg hlt)⟩
    have hg2 : ∃ g', PutsR u' (.slice a (zT t).length cap) (zT t) g' ∧ (g' < u'.heap.size → ¬ S g') := by
      by_cases hgl : g < w.heap.size
      · exact ⟨g, hv2, fun _ => hg hgl⟩
      · obtain ⟨a1, c1, e1, _, e3⟩ := hv0
        exfalso
        have hne : zT t ≠ [] := fun e => absurd (show t.length = 0 by rw [← zT_len, e]; rfl) (by omega)
        obtain ⟨_, _, hh, _⟩ := e3 hne
        exact hgl hh
    obtain ⟨g', hv3, hg3⟩ := hg2
    have hus3 : (if G.m - used ≤ t.length + 2 then 0 else used) ≤ 65536 := by split <;> omega
    have hcr := commit_run S l p G place seq _ _ _ t g' u' hL (hu.mono f1.size) hS0 (hT.fr f1.fr hS0) hv3 hg3 hNm hN2 hp hq hus3 (fun y hy => ⟨(ht y hy).1.1, (ht y hy).2⟩) hr60 hBm
    rw [← hcz] at hcr
    unfold txnV at hcr
    refine hcr.mono fun e w' ⟨he, hf2, hy, hn⟩ => ⟨_, he, fun e0 => ?_, fun e0 => ?_⟩
    · have hok2 : (gos (d, true) (cAll G place seq used t)).2 = true := by
        cases hm : (gos (d, true) (cAll G place seq used t)).2 with
        | true => rfl
        | false => rw [hm] at e0; exact absurd e0 (by decide)
      exact ⟨f1.trans hf2, fn_kept f2 hnl hf2, fun e => absurd e (by decide), fun e => absurd e (by decide), fun _ => ⟨hok2, hy hok2⟩⟩
    · have hno : (gos (d, true) (cAll G place seq used t)).2 = false := by
        cases hm : (gos (d, true) (cAll G place seq used t)).2 with
        | false => rfl
        | true => rw [hm] at e0; exact absurd rfl e0
      exact ⟨rfl, f1.trans hf2, fun e => absurd (hno.symm.trans e) Bool.false_ne_true, fun _ => ⟨_, _, _, hn hno⟩⟩
  · obtain ⟨f1, _, _, _, f5⟩ := hk
    obtain ⟨hok, hL⟩ := f5 rfl
    exact ⟨by rw [hok]; rfl, f1, fun _ => hL, fun e => absurd (hok.symm.trans e).symm Bool.false_ne_true⟩
end
end Go.Proofs.YtfcocbgdmmeikaaGreatDoor
