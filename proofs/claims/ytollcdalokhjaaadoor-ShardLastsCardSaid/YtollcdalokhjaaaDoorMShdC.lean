/-
  Several texts in one (ShdGrow, ShdStrip, ShdLaw).
-/
import Derived.Test.YtollcdalokhjaaaDoorMShdB
import Derived.Laws.Small
import Derived.Test.YtollcdalokhjaaaDoorMLeafL
import Derived.Test.YtollcdalokhjaaaDoorMRec
/-! ## Package shard: Add. -/
namespace Go.Proofs.YtollcdalokhjaaaDoor
open Go.RowKit

def addE (x : ShR) (tim : Int) (P : ByteArray) : Int := if x.st ≠ 0 then 13 else if x.lvs.length = 4000 then 15 else chkZ x.win (x.lvs.length : Int) tim P
/-- A record's leaf. -/
def lfR (r : RecR) : List UInt8 := recLf r.win r.idx r.tim r.pay
def addR (x : ShR) (tim : Int) (P : ByteArray) : RecR := ⟨x.win, (x.lvs.length : Int), tim, P⟩
def shAdd (x : ShR) (tim : Int) (P : ByteArray) : ShR := ⟨x.win, x.st, x.lvs ++ [lfR (addR x tim P)], x.rows ++ [addR x tim P], x.stn⟩
theorem load_ptA {b o : Nat} {a : Option Addr} {w : World} (h : w.cell? ⟨b, o, none⟩ = some (.pointer a)) : (Instr.loadAt 24 (.pointer (some ⟨b, o, none⟩))).run Tryd.prog w = .ok (.pointer a) w := by
  go_simp
section
variable {ops : Array Oper} {Q : Exit → Act → World → Prop} {a : Act} {w w' : World} {K : Act → World → Prop} {o : Oper}
theorem rop_allocA (t : TypeId) (hop : o.op = .alloc t) {v : Value} (hr : (Instr.alloc t true (.tuple #[])).run Tryd.prog w = .ok v w') (hw : Region.wanted o (yielded ops a.tmps) = true) (h : K (a.put o.dst v) w') :
    if Region.wanted o (yielded ops a.tmps) = true then Oper.wp Tryd.prog o a w K Q else K (a.put o.dst undef) w := by
  rw [if_pos hw]
  unfold Oper.wp
  simp [execOp, hop, hr]
  exact h
end
theorem alloc_recA (u : World) : (Instr.alloc 55 true (.tuple #[])).run Tryd.prog u = .ok (.pointer (some ⟨u.heap.size, 0, none⟩)) (u.alloc (.cells #[.int .i64 0, .int .i64 0, .int .i64 0, .string ⟨#[]⟩] 55)) := by go_simp
theorem rec_thereA {q : Nat} {w : World} {a b c : Int} {s : ByteArray} (h : RecAt q a b c s w) : w.there q 0 4 := there_of (l := [.int .i64 a, .int .i64 b, .int .i64 c, .string s]) h (by simp)
theorem store_recA {q : Nat} {w : World} {a b c : Int} {s : ByteArray} (h : RecAt q a b c s w) (x y z : Int) (t : ByteArray) : (Instr.storeAt 55 (.pointer (some ⟨q, 0, none⟩)) (.agg #[.int .i64 x, .int .i64 y, .int .i64 z, .string t])).run Tryd.prog w = .ok () (w.setCells q 0 [.int .i64 x, .int .i64 y, .int .i64 z, .string t]) :=
  run_storeAt_mid w q 0 _ #[.int .i64 x, .int .i64 y, .int .i64 z, .string t] (rec_thereA h) (size_of info_rec4) (by simp; first | rfl | exact ⟨rfl, rfl, rfl, rfl⟩)
theorem set_recA {q : Nat} {w : World} {a b c : Int} {s : ByteArray} (h : RecAt q a b c s w) (x y z : Int) (t : ByteArray) : RecAt q x y z t (w.setCells q 0 [.int .i64 x, .int .i64 y, .int .i64 z, .string t]) := by
  have := heap_setCells q 55 [.int .i64 x, .int .i64 y, .int .i64 z, .string t] 0 [.int .i64 a, .int .i64 b, .int .i64 c, .string s] w (by simp) h
  simpa [RecAt] using this
theorem RecAt.pre1 {g : Nat} {w : World} (r : RecR) (h : RecAt g r.win r.idx r.tim r.pay w) : PreR w (.slice (some ⟨g, 0, none⟩) 1 1) [r] :=
  .inr ⟨g, 1, _, rfl, h, Nat.le_refl _, by decide, Nat.le_refl _, rfl⟩
theorem RecAt.rg {g : Nat} {w : World} {a b c : Int} {s : ByteArray} (h : RecAt g a b c s w) : w.rangeAt g 0 [.int .i64 a, .int .i64 b, .int .i64 c, .string s] := fun j v hv => by
  rw [cell_of h, Nat.zero_add]; simpa using hv
set_option maxHeartbeats 1600000 in
set_option maxRecDepth 100000 in
theorem add1_any (x : ShR) (b p q : Nat) (tim : Int) (P : ByteArray) (hP : P.size ≤ 9223372036854775807) (u : World) (cp : u.cell? ⟨p, 0, none⟩ = some (.pointer (some ⟨b, 0, none⟩))) (cs : u.cell? ⟨b, 1, none⟩ = some (.int .i64 x.st)) (hq : RecAt q x.win (x.lvs.length : Int) tim P u) :
    Calls Tryd.prog 38 #[.pointer (some ⟨p, 0, none⟩), .pointer (some ⟨q, 0, none⟩)] u fun e w' => e = .returned (.int .i64 (addE x tim P)) ∧ Below u.heap.size u w' := by
  have HCK := Lib.hid (fun v => check_any x.win (x.lvs.length : Int) tim P v hP)
  have HRG := Lib.hid hq.rg
  have c1 := hq.c1
  unfold addE
  obtain ⟨z, hz⟩ : ∃ z, z = x.st := ⟨_, rfl⟩
  obtain ⟨n, hn⟩ : ∃ n, n = x.lvs.length := ⟨_, rfl⟩
  rw [← hz] at cs ⊢
  rw [← hn] at HCK HRG c1 ⊢
  have HI : Hid ((Tryd.prog.info? 55).map (·.size) = some 4) := Lib.hid (size_of info_rec4)
  generalize x.win = win at *
  clear hq hz hn hP
  by_cases h1 : z = 0
  · subst h1
    rw [if_neg (by simp)]
    by_cases h2 : n = 4000
    · subst h2
      rw [if_pos rfl]
      clear HCK HRG
      go_enter Tryd.func38, Tryd.ntmps38
      go_wp2
      try rw [Exit.noGoto_ret]
      go_ret
      exact ⟨rfl, Below.refl _ _⟩
    · rw [if_neg h2]
      have h3 : ¬ (n : Int) = 4000 := by omega
      have h4 : ((n : Int) == 4000) = false := by simpa using h3
      clear h2
      go_enter Tryd.func38, Tryd.ntmps38
      go_wp2_with (first
        | refine wpList_load_mid rfl 55 (.tmp 1) rfl q 0 rfl [.int .i64 win, .int .i64 (n : Int), .int .i64 tim, .string P] _ HRG.out Tryd.underlying55 rfl HI.out ?_
        | (go_at_call 39; (refine (HCK.out _).mono ?_; rintro e w2 ⟨rfl, b2⟩)))
      try rw [Exit.noGoto_ret]
      go_ret
      exact ⟨rfl, b2⟩
  · rw [if_pos h1]
    have h4 : (z == 0) = false := by simpa using h1
    clear HCK HRG
    go_enter Tryd.func38, Tryd.ntmps38
    go_wp2
    try rw [Exit.noGoto_ret]
    go_ret
    exact ⟨rfl, Below.refl _ _⟩
set_option maxHeartbeats 1600000 in
set_option maxRecDepth 100000 in
theorem shAdd_nil (tim : Int) (P : ByteArray) (w : World) : Calls Tryd.prog 15 #[.pointer none, .int .i64 tim, .string P] w fun e w' => e = .returned (.tuple #[.int .i64 0, .int .i64 1]) ∧ Below w.heap.size w w' := by
  have hb := below_boxS w (.cells #[.pointer none] 24)
  go_enter Tryd.func15, Tryd.ntmps15
  go_wp2
  go_ret2
  exact ⟨rfl, hb⟩

set_option maxHeartbeats 3200000 in
set_option maxRecDepth 100000 in
theorem shAdd_no {S : Nat → Prop} {b : Nat} {x : ShR} {w : World} (h : Shd S b x w) (tim : Int) (P : ByteArray) (hP : P.size ≤ 1000000000) (he : addE x tim P ≠ 0) : Calls Tryd.prog 15 #[.pointer (some ⟨b, 0, none⟩), .int .i64 tim, .string P] w fun e w' => e = .returned (.tuple #[.int .i64 0, .int .i64 (addE x tim P)]) ∧ Below w.heap.size w w' := by
  have hP9 : P.size ≤ 9223372036854775807 := by omega
  obtain ⟨vl, vr, Q, hv⟩ := h
  obtain ⟨va, cap, rfl, -⟩ := hv.ol.sums.slice
  obtain ⟨n, hn⟩ : ∃ n, n = x.lvs.length := ⟨_, rfl⟩
  obtain ⟨p, hp⟩ : ∃ p, p = w.heap.size := ⟨_, rfl⟩
  obtain ⟨W, hW⟩ : ∃ W, W = w.alloc (.cells #[.pointer (some ⟨b, 0, none⟩)] 24) := ⟨_, rfl⟩
  obtain ⟨q, hq⟩ : ∃ q, q = W.heap.size := ⟨_, rfl⟩
  have b1 : Below w.heap.size w W := by rw [hW]; exact below_boxS _ _
  have cp : W.cell? ⟨p, 0, none⟩ = some (.pointer (some ⟨b, 0, none⟩)) := by rw [hW, hp, cell_of (heap_alloc_last w _)]; rfl
  have hpl : p < W.heap.size := by rw [hW, hp]; simp
  have hvW := hv.old b1
  have HADD : Hid (∀ u, Below W.heap.size W u → RecAt q x.win (n : Int) tim P u → Calls Tryd.prog 38 #[.pointer (some ⟨p, 0, none⟩), .pointer (some ⟨q, 0, none⟩)] u fun e w' => e = .returned (.int .i64 (addE x tim P)) ∧ Below u.heap.size u w') := Lib.hid fun u hu hr => add1_any x b p q tim P hP9 u ((hu.cell (p := ⟨p, 0, none⟩) hpl).trans cp) ((hu.cell (p := ⟨b, 1, none⟩) hvW.lt).trans hvW.cSt) (by rw [← hn]; exact hr)
  obtain ⟨E, hE⟩ : ∃ E, E = addE x tim P := ⟨_, rfl⟩
  rw [← hE] at HADD he
  have HCP := Lib.hid cp
  have HPL := Lib.hid hpl
  have HV := Lib.hid (hn ▸ hvW)
  have HN := Lib.hid hn
  have HQ := Lib.hid hq
  have HW := Lib.hid hW
  have HP := Lib.hid hp
  have HPW : Hid (p = w.heap.size) := Lib.hid hp
  have B1 := Lib.hid b1
  rw [← hE]
  have q2 : (E == 0) = false := by simpa using he
  clear hv hvW hn hp hW hq hE b1 hpl hP hP9
  go_enter Tryd.func15, Tryd.ntmps15
  go_upto_region 1 with fail
  change Code.wp _ _ _ _ (w.alloc (.cells #[.pointer (some ⟨b, 0, none⟩)] 24))
  rw [← HW.out, ← HP.out]
  clear HW HP
  go_upto_region 3 with fail
  try simp only [Act.put]
  refine wp_region_ph (Lx := GLx 2) [RXP.is (.pointer (some ⟨b, 0, none⟩)), RXP.is (.pointer (some ⟨b, 0, none⟩)), RXP.is (.pointer (some ⟨b, 0, none⟩)), RXP.is (.int .i64 x.win), RXP.is (.pointer (some ⟨b, 0, none⟩)), RXP.is (.pointer (some ⟨b, 0, none⟩)), RXP.is (.pointer (some ⟨b, 2, none⟩)), RXP.is (.slice va n cap), RXP.is (.int .i64 (n : Int)), RXP.is (.int .i64 tim), RXP.is (.string P), RXP.is (.agg #[.int .i64 x.win, .int .i64 (n : Int), .int .i64 tim, .string P]), RXP.is (.pointer (some ⟨q, 0, none⟩)), RXP.any] [12, 13] (fun k w' => Below W.heap.size W w' ∧ (k = 0 → w'.heap.size = q) ∧ (k = 1 → RecAt q 0 0 0 ⟨#[]⟩ w') ∧ (k = 2 → RecAt q x.win n tim P w')) (by kernel_rfl) (by kernel_rfl) (by kernel_rfl) (by kernel_rfl) (by kernel_rfl) (⟨below_drew (Below.refl _ _), fun _ => HQ.out.symm, (fun h => absurd h (by decide)), (fun h => absurd h (by decide))⟩) ⟨?_, ?_, ?_, ?_, ?_, ?_, ?_, ?_, ?_, ?_, ?_, ?_, ?_, ?_, trivial⟩ ?_
  · intro ac w' ph hF hPh hlt hP hU K hK0
    have e3 : ac.eval (.tmp 3) = .pointer (some ⟨p, 0, none⟩) := hF.at 3 (by kernel_rfl)
    exact rop_ld _ _ rfl e3 (load_ptA ((hPh.1.cell (p := ⟨p, 0, none⟩) HPL.out).trans HCP.out)) (wanted_none rfl) (hK0 _ _ GLx.same hPh rfl)
  · intro ac w' ph hF hPh hlt hP hU K hK0
    have e14 : ac.eval (.tmp 14) = .pointer (some ⟨b, 0, none⟩) := hP 0 (by kernel_rfl)
    exact rop_nilG _ rfl e14 (wanted_none rfl) (hK0 _ _ GLx.same hPh rfl)
  · intro ac w' ph hF hPh hlt hP hU K hK0
    have e15 : ac.eval (.tmp 15) = .pointer (some ⟨b, 0, none⟩) := hP 1 (by kernel_rfl)
    exact rop_fld _ _ _ rfl e15 ((fld_sh b _).1) (wanted_none rfl) (hK0 _ _ GLx.same hPh rfl)
  · intro ac w' ph hF hPh hlt hP hU K hK0
    have e16 : ac.eval (.tmp 16) = .pointer (some ⟨b, 0, none⟩) := hP 2 (by kernel_rfl)
    exact rop_ld _ _ rfl e16 (load_intR ((hPh.1.cell (p := ⟨b, 0, none⟩) HV.out.lt).trans HV.out.cWin)) (wanted_none rfl) (hK0 _ _ GLx.same hPh rfl)
  · intro ac w' ph hF hPh hlt hP hU K hK0
    have e3 : ac.eval (.tmp 3) = .pointer (some ⟨p, 0, none⟩) := hF.at 3 (by kernel_rfl)
    exact rop_ld _ _ rfl e3 (load_ptA ((hPh.1.cell (p := ⟨p, 0, none⟩) HPL.out).trans HCP.out)) (wanted_none rfl) (hK0 _ _ GLx.same hPh rfl)
  · intro ac w' ph hF hPh hlt hP hU K hK0
    have e18 : ac.eval (.tmp 18) = .pointer (some ⟨b, 0, none⟩) := hP 4 (by kernel_rfl)
    exact rop_nilG _ rfl e18 (wanted_none rfl) (hK0 _ _ GLx.same hPh rfl)
  · intro ac w' ph hF hPh hlt hP hU K hK0
    have e19 : ac.eval (.tmp 19) = .pointer (some ⟨b, 0, none⟩) := hP 5 (by kernel_rfl)
    exact rop_fld _ _ _ rfl e19 ((fld_sh b _).2.2.1) (wanted_none rfl) (hK0 _ _ GLx.same hPh rfl)
  · intro ac w' ph hF hPh hlt hP hU K hK0
    have e20 : ac.eval (.tmp 20) = .pointer (some ⟨b, 2, none⟩) := hP 6 (by kernel_rfl)
    exact rop_ld _ _ rfl e20 (load_slS ((hPh.1.cell (p := ⟨b, 2, none⟩) HV.out.lt).trans HV.out.cLvs)) (wanted_none rfl) (hK0 _ _ GLx.same hPh rfl)
  · intro ac w' ph hF hPh hlt hP hU K hK0
    have e21 : ac.eval (.tmp 21) = .slice va n cap := hP 7 (by kernel_rfl)
    exact rop_lenG _ Tryd.underlying27 rfl e21 (wanted_none rfl) (hK0 _ _ GLx.same hPh rfl)
  · intro ac w' ph hF hPh hlt hP hU K hK0
    have e1 : ac.eval (.tmp 1) = .int .i64 tim := hF.at 1 (by kernel_rfl)
    exact rop_move _ rfl e1 (wanted_none rfl) (hK0 _ _ GLx.same hPh rfl)
  · intro ac w' ph hF hPh hlt hP hU K hK0
    have e2 : ac.eval (.tmp 2) = .string P := hF.at 2 (by kernel_rfl)
    exact rop_move _ rfl e2 (wanted_none rfl) (hK0 _ _ GLx.same hPh rfl)
  · intro ac w' ph hF hPh hlt hP hU K hK0
    have e17 : ac.eval (.tmp 17) = .int .i64 x.win := hP 3 (by kernel_rfl)
    have e22 : ac.eval (.tmp 22) = .int .i64 (n : Int) := hP 8 (by kernel_rfl)
    have e23 : ac.eval (.tmp 23) = .int .i64 tim := hP 9 (by kernel_rfl)
    have e24 : ac.eval (.tmp 24) = .string P := hP 10 (by kernel_rfl)
    exact rop_buildR _ _ rfl _ (by simp [e17, e22, e23, e24]) (built_rec4 x.win n tim P) (wanted_none rfl) (hK0 _ _ GLx.same hPh rfl)
  · intro ac w' ph hF hPh hlt hP hU K hK0
    obtain rfl : ph = 0 := (hlt 0 12 rfl).1 rfl
    have hsz : w'.heap.size = q := (hPh.2.1 rfl)
    have hve : Value.pointer (some ⟨w'.heap.size, 0, none⟩) = .pointer (some ⟨q, 0, none⟩) := by rw [hsz]
    refine rop_allocA _ rfl (alloc_recA w') (wanted_none rfl) ?_
    exact hK0 _ _ (GLx.old (by decide) (below_box' _ _)) ⟨hPh.1.alloc (by rw [hsz]; exact Nat.le_of_eq HQ.out.symm) _, (fun h => absurd h (by decide)), fun _ => by rw [← hsz]; exact RecAt.alloc w' 0 0 0 ⟨#[]⟩, fun h => absurd h (by decide)⟩ hve
  · intro ac w' ph hF hPh hlt hP hU K hK0
    obtain rfl : ph = 1 := (hlt 1 13 rfl).1 rfl
    have e8 : ac.eval (.tmp 8) = .pointer (some ⟨q, 0, none⟩) := hP 12 (by kernel_rfl)
    have e25 : ac.eval (.tmp 25) = .agg #[.int .i64 x.win, .int .i64 (n : Int), .int .i64 tim, .string P] := hP 11 (by kernel_rfl)
    have hz : RecAt q 0 0 0 ⟨#[]⟩ w' := hPh.2.2.1 rfl
    exact rop_storeG _ _ _ rfl e8 e25 (store_recA hz x.win n tim P) (wanted_none rfl) (hK0 _ _ (GLx.last rfl) ⟨below_setCells (Nat.le_of_eq HQ.out.symm) _ _ _ hPh.1, (fun h => absurd h (by decide)), (fun h => absurd h (by decide)), fun _ => set_recA hz x.win n tim P⟩ trivial)
  · intro ac w' hF hPh hT
    have e8 : ac.eval (.tmp 8) = .pointer (some ⟨q, 0, none⟩) := hT 12 (by decide)
    rw [hF.setsG [14, 15, 16, 17, 18, 19, 20, 21, 22, 23, 24, 25, 8] (by kernel_rfl)]
    simp only [List.foldl_cons, List.foldl_nil, List.setIfInBounds_toArray, List.set_cons_succ, List.set_cons_zero, e8]
    generalize ac.eval (.tmp 14) = u14
    generalize ac.eval (.tmp 15) = u15
    generalize ac.eval (.tmp 16) = u16
    generalize ac.eval (.tmp 17) = u17
    generalize ac.eval (.tmp 18) = u18
    generalize ac.eval (.tmp 19) = u19
    generalize ac.eval (.tmp 20) = u20
    generalize ac.eval (.tmp 21) = u21
    generalize ac.eval (.tmp 22) = u22
    generalize ac.eval (.tmp 23) = u23
    generalize ac.eval (.tmp 24) = u24
    generalize ac.eval (.tmp 25) = u25
    clear e8 hT hF ac
    have hr := hPh.2.2.2 rfl
    have hB := hPh.1
    clear hPh cp
    go_wp2_with (go_at_call 38; (refine (HADD.out _ hB hr).mono ?_; rintro e w4 ⟨rfl, b4⟩))
    go_ret2
    exact ⟨rfl, below_step B1.out (Nat.le_refl _) (below_step hB (Nat.le_refl _) b4)⟩
/-- How the world goes on in Add's last step: two appends, two stores. -/
def Lx10 (b : Nat) (vl vr : Value) (k k' : Nat) (u u' : World) : Prop :=
  (k = k' ∧ Below u.heap.size u u') ∨ (k' = k + 1 ∧ (k = 0 → u.grownBy u' vl.ownBlock) ∧ (k = 1 → u.grownBy u' vr.ownBlock) ∧ (2 ≤ k → Only b u u'))
/-- What of the world W stays, where k of them are over. -/
structure Fr10 (b : Nat) (vl vr : Value) (k : Nat) (W u : World) : Prop where
  os : u.os = W.os
  tape : u.tape = W.tape
  output : u.output = W.output
  size : W.heap.size ≤ u.heap.size
  block : ∀ j, j < W.heap.size → (1 ≤ k → vl.ownBlock ≠ some j) → (2 ≤ k → vr.ownBlock ≠ some j) → (3 ≤ k → j ≠ b) → u.heap[j]? = W.heap[j]?
section
variable {b : Nat} {vl vr : Value} {k : Nat} {W u u' : World}
theorem Fr10.start (h : Below W.heap.size W u) : Fr10 b vl vr 0 W u := ⟨h.os, h.tape, h.output, h.size, fun j hj _ _ _ => h.block j hj⟩
theorem Fr10.below (h : Fr10 b vl vr k W u) (g : Below u.heap.size u u') : Fr10 b vl vr k W u' :=
  ⟨g.os.trans h.os, g.tape.trans h.tape, g.output.trans h.output, Nat.le_trans h.size g.size, fun j hj h1 h2 h3 => (g.block j (Nat.lt_of_lt_of_le hj h.size)).trans (h.block j hj h1 h2 h3)⟩
theorem Fr10.grow0 (h : Fr10 b vl vr 0 W u) (g : u.grownBy u' vl.ownBlock) : Fr10 b vl vr 1 W u' :=
  ⟨g.os.trans h.os, g.tape.trans h.tape, g.output.trans h.output, Nat.le_trans h.size g.size, fun j hj h1 _ _ => (g.block j (Nat.lt_of_lt_of_le hj h.size) (fun e => h1 (by decide) e.symm)).trans (h.block j hj (fun h => absurd h (by decide)) (fun h => absurd h (by decide)) (fun h => absurd h (by decide)))⟩
theorem Fr10.grow1 (h : Fr10 b vl vr 1 W u) (g : u.grownBy u' vr.ownBlock) : Fr10 b vl vr 2 W u' :=
  ⟨g.os.trans h.os, g.tape.trans h.tape, g.output.trans h.output, Nat.le_trans h.size g.size, fun j hj h1 h2 _ => (g.block j (Nat.lt_of_lt_of_le hj h.size) (fun e => h2 (by decide) e.symm)).trans (h.block j hj (fun _ => h1 (by decide)) (fun h => absurd h (by decide)) (fun h => absurd h (by decide)))⟩
theorem Fr10.only2 (h : Fr10 b vl vr 2 W u) (g : Only b u u') : Fr10 b vl vr 3 W u' :=
  ⟨g.os.trans h.os, g.tape.trans h.tape, g.output.trans h.output, Nat.le_trans h.size g.size, fun j hj h1 h2 h3 => (g.block j (Nat.lt_of_lt_of_le hj h.size) (h3 (by decide))).trans (h.block j hj (fun _ => h1 (by decide)) (fun _ => h2 (by decide)) (fun h => absurd h (by decide)))⟩
theorem Fr10.only3 (h : Fr10 b vl vr 3 W u) (g : Only b u u') : Fr10 b vl vr 4 W u' :=
  ⟨g.os.trans h.os, g.tape.trans h.tape, g.output.trans h.output, Nat.le_trans h.size g.size, fun j hj h1 h2 h3 => (g.block j (Nat.lt_of_lt_of_le hj h.size) (h3 (by decide))).trans (h.block j hj (fun _ => h1 (by decide)) (fun _ => h2 (by decide)) (fun _ => h3 (by decide)))⟩
theorem Fr10.cell (h : Fr10 b vl vr k W u) {j : Nat} (hj : j < W.heap.size) (h1 : j ≠ b) (h2 : vl.ownBlock ≠ some j) (h3 : vr.ownBlock ≠ some j) (o : Nat) : u.cell? ⟨j, o, none⟩ = W.cell? ⟨j, o, none⟩ := World.cell?_of_block (w := W) (a := ⟨j, o, none⟩) (h.block j hj (fun _ => h2) (fun _ => h3) (fun _ => h1))
theorem Fr10.blkB (h : Fr10 b vl vr k W u) (hk : k ≤ 2) (hb : b < W.heap.size) (h2 : vl.ownBlock ≠ some b) (h3 : vr.ownBlock ≠ some b) : u.heap[b]? = W.heap[b]? := h.block b hb (fun _ => h2) (fun _ => h3) (fun h => absurd h (by omega))
theorem Fr10.atB (h : Fr10 b vl vr k W u) (hk : k ≤ 2) (hb : b < W.heap.size) (h2 : vl.ownBlock ≠ some b) (h3 : vr.ownBlock ≠ some b) (o : Nat) : u.cell? ⟨b, o, none⟩ = W.cell? ⟨b, o, none⟩ := World.cell?_of_block (w := W) (a := ⟨b, o, none⟩) (h.blkB hk hb h2 h3)
theorem Fr10.own0 (h : Fr10 b vl vr k W u) (hk : k ≤ 0) {g : Nat} (hg : g < W.heap.size) (_h1 : g ≠ b) (_h2 : vr.ownBlock ≠ some g) : u.heap[g]? = W.heap[g]? := h.block g hg (fun h => absurd h (by omega)) (fun h => absurd h (by omega)) (fun h => absurd h (by omega))
theorem Fr10.own1 (h : Fr10 b vl vr k W u) (hk : k ≤ 1) {g : Nat} (hg : g < W.heap.size) (_h1 : g ≠ b) (h2 : ¬ vl.ownBlock = some g) : u.heap[g]? = W.heap[g]? := h.block g hg (fun _ => h2) (fun h => absurd h (by omega)) (fun h => absurd h (by omega))
end
def TaSum (vl vr : Value) (b : Nat) (D : List UInt8) : RXP (Lx10 b vl vr) := ⟨fun k v u => k < 1 → Sums u v [D], fun v u u' k k' h hx hk => by
  rcases hx with ⟨rfl, hb⟩ | ⟨rfl, _⟩
  · exact (h hk).old hb
  · omega⟩
def TaRec (vl vr : Value) (b n0 : Nat) (win : Int) (n : Nat) (tim : Int) (P : ByteArray) (hl : ∀ g, vl.ownBlock = some g → g < n0) : RXP (Lx10 b vl vr) := ⟨fun k v u => k < 2 → ∃ g, v = .slice (some ⟨g, 0, none⟩) 1 1 ∧ n0 ≤ g ∧ RecAt g win n tim P u, fun v u u' k k' h hx hk => by
  rcases hx with ⟨rfl, hb⟩ | ⟨rfl, h0, _⟩
  · obtain ⟨g, e, hg, hr⟩ := h hk
    exact ⟨g, e, hg, hr.old hb hr.lt⟩
  · obtain ⟨g, e, hg, hr⟩ := h (by omega)
    exact ⟨g, e, hg, ((h0 (by omega)).block g hr.lt (fun e2 => by have := hl g e2.symm; omega)).trans hr⟩⟩
def TaOwnS (vl vr : Value) (b n0 : Nat) (l : Hs) (hlr : ∀ g, vl.ownBlock = some g → vr.ownBlock ≠ some g) (hr : ∀ g, vr.ownBlock = some g → g < n0) (hl : ∀ g, vl.ownBlock = some g → g ≠ b) (hb0 : b < n0) : RXP (Lx10 b vl vr) := ⟨fun k v u => 1 ≤ k ∧ OwnS 0 u v l ∧ (∀ g, v.ownBlock = some g → vl.ownBlock = some g ∨ n0 ≤ g), fun v u u' k k' ⟨hk, h, hg⟩ hx => by
  rcases hx with ⟨rfl, hb⟩ | ⟨rfl, _, h1, h2⟩
  · exact ⟨hk, h.kept hb, hg⟩
  · refine ⟨by omega, ?_, hg⟩
    by_cases e1 : k = 1
    · exact h.kept' fun g e => (h1 e1).block g (h.lt g e).2 (fun e2 => by
        rcases hg g e with e3 | e3
        · exact hlr g e3 e2.symm
        · have := hr g e2.symm; omega)
    · exact h.kept' fun g e => (h2 (by omega)).block g (h.lt g e).2 (by
        rcases hg g e with e3 | e3
        · exact hl g e3
        · omega)⟩
def TaOwnR (vl vr : Value) (b n0 : Nat) (l : List RecR) (hl : ∀ g, vr.ownBlock = some g → g ≠ b) (hb0 : b < n0) : RXP (Lx10 b vl vr) := ⟨fun k v u => 2 ≤ k ∧ OwnR 0 u v l ∧ (∀ g, v.ownBlock = some g → vr.ownBlock = some g ∨ n0 ≤ g), fun v u u' k k' ⟨hk, h, hg⟩ hx => by
  rcases hx with ⟨rfl, hb⟩ | ⟨rfl, _, h1, h2⟩
  · exact ⟨hk, h.kept hb, hg⟩
  · exact ⟨by omega, h.kept' fun g e => (h2 hk).block g (World.ownsRow.lt h g e).2 (by
      rcases hg g e with e3 | e3
      · exact hl g e3
      · omega), hg⟩⟩
set_option maxHeartbeats 3200000 in
set_option maxRecDepth 100000 in
theorem shAdd_ok {S : Nat → Prop} {b : Nat} {x : ShR} {w : World} (h : Shd S b x w) (tim : Int) (P : ByteArray) (he : addE x tim P = 0) (hu : UpS S w) (hK : KT w) : Calls Tryd.prog 15 #[.pointer (some ⟨b, 0, none⟩), .int .i64 tim, .string P] w fun e w' => e = .returned (.tuple #[.int .i64 (x.lvs.length : Int), .int .i64 0]) ∧ Shd S b (shAdd x tim P) w' ∧ OnlyS S w w' := by
  have hst0 : x.st = 0 := by
    unfold addE at he
    by_cases e : x.st = 0
    · exact e
    · rw [if_pos e] at he; cases he
  have hn4 : x.lvs.length ≠ 4000 := fun e => by
    unfold addE at he
    rw [if_neg (by simp [hst0]), if_pos e] at he
    cases he
  have hck : chkZ x.win (x.lvs.length : Int) tim P = 0 := by
    unfold addE at he
    rw [if_neg (by simp [hst0]), if_neg hn4] at he
    exact he
  have hP : P.size ≤ 1000000000 := by have := (chk_ok hck).2.2.2; omega
  have hP9 : P.size ≤ 9223372036854775807 := by omega
  obtain ⟨vl, vr, Q, hv⟩ := h
  obtain ⟨va, cap, rfl, -⟩ := hv.ol.sums.slice
  obtain ⟨n, hn⟩ : ∃ n, n = x.lvs.length := ⟨_, rfl⟩
  obtain ⟨p, hp⟩ : ∃ p, p = w.heap.size := ⟨_, rfl⟩
  obtain ⟨W, hW⟩ : ∃ W, W = w.alloc (.cells #[.pointer (some ⟨b, 0, none⟩)] 24) := ⟨_, rfl⟩
  obtain ⟨q, hq⟩ : ∃ q, q = W.heap.size := ⟨_, rfl⟩
  have b1 : Below w.heap.size w W := by rw [hW]; exact below_boxS _ _
  have cp : W.cell? ⟨p, 0, none⟩ = some (.pointer (some ⟨b, 0, none⟩)) := by rw [hW, hp, cell_of (heap_alloc_last w _)]; rfl
  have hpl : p < W.heap.size := by rw [hW, hp]; simp
  have hvW := hv.old b1
  have HADD : Hid (∀ u, Below W.heap.size W u → RecAt q x.win (n : Int) tim P u → Calls Tryd.prog 38 #[.pointer (some ⟨p, 0, none⟩), .pointer (some ⟨q, 0, none⟩)] u fun e w' => e = .returned (.int .i64 (addE x tim P)) ∧ Below u.heap.size u w') := Lib.hid fun u hu hr => add1_any x b p q tim P hP9 u ((hu.cell (p := ⟨p, 0, none⟩) hpl).trans cp) ((hu.cell (p := ⟨b, 1, none⟩) hvW.lt).trans hvW.cSt) (by rw [← hn]; exact hr)
  obtain ⟨E, hE⟩ : ∃ E, E = addE x tim P := ⟨_, rfl⟩
  rw [← hE] at HADD he
  have HCP := Lib.hid cp
  have HPL := Lib.hid hpl
  have HV := Lib.hid (hn ▸ hvW)
  have HN := Lib.hid hn
  have HQ := Lib.hid hq
  have HW := Lib.hid hW
  have HP := Lib.hid hp
  have HPW : Hid (p = w.heap.size) := Lib.hid hp
  have B1 := Lib.hid b1
  obtain rfl : E = 0 := he
  have hn0 : n ≠ 4000 := by omega
  have hnm : n ≤ 4000 := by have := hv.most; omega
  obtain ⟨D, hD⟩ : ∃ D, D = recLf x.win (n : Int) tim P := ⟨_, rfl⟩
  have HDl : Hid (D.length = 32) := Lib.hid (by rw [hD]; exact Tree.leafH_length _)
  have HLF : Hid (∀ u, KT u → Calls Tryd.prog 40 #[.agg #[.int .i64 x.win, .int .i64 (n : Int), .int .i64 tim, .string P]] u fun e w' => e = .returned (sumV D) ∧ Below u.heap.size u w') := Lib.hid fun u hu => by rw [hD]; exact recLeaf_any x.win n tim P u hu hP
  have HDD := Lib.hid hD
  have HST0 := Lib.hid hst0
  have HNM : Hid (n < 4000) := Lib.hid (by omega)
  have HI4 : Hid ((Tryd.prog.info? 55).map (·.size) = some 4) := Lib.hid (size_of info_rec4)
  have HUP := Lib.hid hu
  have HKW := Lib.hid (hK.old b1)
  have HVW := Lib.hid (hn ▸ hv)
  rw [← hn]
  clear hv hvW hn hp hW hq hE b1 hpl hP hP9 hD hst0 hn4 hck hn0 hnm hu hK
  go_enter Tryd.func15, Tryd.ntmps15
  go_upto_region 1 with fail
  change Code.wp _ _ _ _ (w.alloc (.cells #[.pointer (some ⟨b, 0, none⟩)] 24))
  rw [← HW.out, ← HP.out]
  clear HW HP
  go_upto_region 3 with fail
  try simp only [Act.put]
  refine wp_region_ph (Lx := GLx 2) [RXP.is (.pointer (some ⟨b, 0, none⟩)), RXP.is (.pointer (some ⟨b, 0, none⟩)), RXP.is (.pointer (some ⟨b, 0, none⟩)), RXP.is (.int .i64 x.win), RXP.is (.pointer (some ⟨b, 0, none⟩)), RXP.is (.pointer (some ⟨b, 0, none⟩)), RXP.is (.pointer (some ⟨b, 2, none⟩)), RXP.is (.slice va n cap), RXP.is (.int .i64 (n : Int)), RXP.is (.int .i64 tim), RXP.is (.string P), RXP.is (.agg #[.int .i64 x.win, .int .i64 (n : Int), .int .i64 tim, .string P]), RXP.is (.pointer (some ⟨q, 0, none⟩)), RXP.any] [12, 13] (fun k w' => Below W.heap.size W w' ∧ (k = 0 → w'.heap.size = q) ∧ (k = 1 → RecAt q 0 0 0 ⟨#[]⟩ w') ∧ (k = 2 → RecAt q x.win n tim P w')) (by kernel_rfl) (by kernel_rfl) (by kernel_rfl) (by kernel_rfl) (by kernel_rfl) (⟨below_drew (Below.refl _ _), fun _ => HQ.out.symm, (fun h => absurd h (by decide)), (fun h => absurd h (by decide))⟩) ⟨?_, ?_, ?_, ?_, ?_, ?_, ?_, ?_, ?_, ?_, ?_, ?_, ?_, ?_, trivial⟩ ?_
  · intro ac w' ph hF hPh hlt hP hU K hK0
    have e3 : ac.eval (.tmp 3) = .pointer (some ⟨p, 0, none⟩) := hF.at 3 (by kernel_rfl)
    exact rop_ld _ _ rfl e3 (load_ptA ((hPh.1.cell (p := ⟨p, 0, none⟩) HPL.out).trans HCP.out)) (wanted_none rfl) (hK0 _ _ GLx.same hPh rfl)
  · intro ac w' ph hF hPh hlt hP hU K hK0
    have e14 : ac.eval (.tmp 14) = .pointer (some ⟨b, 0, none⟩) := hP 0 (by kernel_rfl)
    exact rop_nilG _ rfl e14 (wanted_none rfl) (hK0 _ _ GLx.same hPh rfl)
  · intro ac w' ph hF hPh hlt hP hU K hK0
    have e15 : ac.eval (.tmp 15) = .pointer (some ⟨b, 0, none⟩) := hP 1 (by kernel_rfl)
    exact rop_fld _ _ _ rfl e15 ((fld_sh b _).1) (wanted_none rfl) (hK0 _ _ GLx.same hPh rfl)
  · intro ac w' ph hF hPh hlt hP hU K hK0
    have e16 : ac.eval (.tmp 16) = .pointer (some ⟨b, 0, none⟩) := hP 2 (by kernel_rfl)
    exact rop_ld _ _ rfl e16 (load_intR ((hPh.1.cell (p := ⟨b, 0, none⟩) HV.out.lt).trans HV.out.cWin)) (wanted_none rfl) (hK0 _ _ GLx.same hPh rfl)
  · intro ac w' ph hF hPh hlt hP hU K hK0
    have e3 : ac.eval (.tmp 3) = .pointer (some ⟨p, 0, none⟩) := hF.at 3 (by kernel_rfl)
    exact rop_ld _ _ rfl e3 (load_ptA ((hPh.1.cell (p := ⟨p, 0, none⟩) HPL.out).trans HCP.out)) (wanted_none rfl) (hK0 _ _ GLx.same hPh rfl)
  · intro ac w' ph hF hPh hlt hP hU K hK0
    have e18 : ac.eval (.tmp 18) = .pointer (some ⟨b, 0, none⟩) := hP 4 (by kernel_rfl)
    exact rop_nilG _ rfl e18 (wanted_none rfl) (hK0 _ _ GLx.same hPh rfl)
  · intro ac w' ph hF hPh hlt hP hU K hK0
    have e19 : ac.eval (.tmp 19) = .pointer (some ⟨b, 0, none⟩) := hP 5 (by kernel_rfl)
    exact rop_fld _ _ _ rfl e19 ((fld_sh b _).2.2.1) (wanted_none rfl) (hK0 _ _ GLx.same hPh rfl)
  · intro ac w' ph hF hPh hlt hP hU K hK0
    have e20 : ac.eval (.tmp 20) = .pointer (some ⟨b, 2, none⟩) := hP 6 (by kernel_rfl)
    exact rop_ld _ _ rfl e20 (load_slS ((hPh.1.cell (p := ⟨b, 2, none⟩) HV.out.lt).trans HV.out.cLvs)) (wanted_none rfl) (hK0 _ _ GLx.same hPh rfl)
  · intro ac w' ph hF hPh hlt hP hU K hK0
    have e21 : ac.eval (.tmp 21) = .slice va n cap := hP 7 (by kernel_rfl)
    exact rop_lenG _ Tryd.underlying27 rfl e21 (wanted_none rfl) (hK0 _ _ GLx.same hPh rfl)
  · intro ac w' ph hF hPh hlt hP hU K hK0
    have e1 : ac.eval (.tmp 1) = .int .i64 tim := hF.at 1 (by kernel_rfl)
    exact rop_move _ rfl e1 (wanted_none rfl) (hK0 _ _ GLx.same hPh rfl)
  · intro ac w' ph hF hPh hlt hP hU K hK0
    have e2 : ac.eval (.tmp 2) = .string P := hF.at 2 (by kernel_rfl)
    exact rop_move _ rfl e2 (wanted_none rfl) (hK0 _ _ GLx.same hPh rfl)
  · intro ac w' ph hF hPh hlt hP hU K hK0
    have e17 : ac.eval (.tmp 17) = .int .i64 x.win := hP 3 (by kernel_rfl)
    have e22 : ac.eval (.tmp 22) = .int .i64 (n : Int) := hP 8 (by kernel_rfl)
    have e23 : ac.eval (.tmp 23) = .int .i64 tim := hP 9 (by kernel_rfl)
    have e24 : ac.eval (.tmp 24) = .string P := hP 10 (by kernel_rfl)
    exact rop_buildR _ _ rfl _ (by simp [e17, e22, e23, e24]) (built_rec4 x.win n tim P) (wanted_none rfl) (hK0 _ _ GLx.same hPh rfl)
  · intro ac w' ph hF hPh hlt hP hU K hK0
    obtain rfl : ph = 0 := (hlt 0 12 rfl).1 rfl
    have hsz : w'.heap.size = q := (hPh.2.1 rfl)
    have hve : Value.pointer (some ⟨w'.heap.size, 0, none⟩) = .pointer (some ⟨q, 0, none⟩) := by rw [hsz]
    refine rop_allocA _ rfl (alloc_recA w') (wanted_none rfl) ?_
    exact hK0 _ _ (GLx.old (by decide) (below_box' _ _)) ⟨hPh.1.alloc (by rw [hsz]; exact Nat.le_of_eq HQ.out.symm) _, (fun h => absurd h (by decide)), fun _ => by rw [← hsz]; exact RecAt.alloc w' 0 0 0 ⟨#[]⟩, fun h => absurd h (by decide)⟩ hve
  · intro ac w' ph hF hPh hlt hP hU K hK0
    obtain rfl : ph = 1 := (hlt 1 13 rfl).1 rfl
    have e8 : ac.eval (.tmp 8) = .pointer (some ⟨q, 0, none⟩) := hP 12 (by kernel_rfl)
    have e25 : ac.eval (.tmp 25) = .agg #[.int .i64 x.win, .int .i64 (n : Int), .int .i64 tim, .string P] := hP 11 (by kernel_rfl)
    have hz : RecAt q 0 0 0 ⟨#[]⟩ w' := hPh.2.2.1 rfl
    exact rop_storeG _ _ _ rfl e8 e25 (store_recA hz x.win n tim P) (wanted_none rfl) (hK0 _ _ (GLx.last rfl) ⟨below_setCells (Nat.le_of_eq HQ.out.symm) _ _ _ hPh.1, (fun h => absurd h (by decide)), (fun h => absurd h (by decide)), fun _ => set_recA hz x.win n tim P⟩ trivial)
  · intro ac w' hF hPh hT
    have e8 : ac.eval (.tmp 8) = .pointer (some ⟨q, 0, none⟩) := hT 12 (by decide)
    rw [hF.setsG [14, 15, 16, 17, 18, 19, 20, 21, 22, 23, 24, 25, 8] (by kernel_rfl)]
    simp only [List.foldl_cons, List.foldl_nil, List.setIfInBounds_toArray, List.set_cons_succ, List.set_cons_zero, e8]
    generalize ac.eval (.tmp 14) = u14
    generalize ac.eval (.tmp 15) = u15
    generalize ac.eval (.tmp 16) = u16
    generalize ac.eval (.tmp 17) = u17
    generalize ac.eval (.tmp 18) = u18
    generalize ac.eval (.tmp 19) = u19
    generalize ac.eval (.tmp 20) = u20
    generalize ac.eval (.tmp 21) = u21
    generalize ac.eval (.tmp 22) = u22
    generalize ac.eval (.tmp 23) = u23
    generalize ac.eval (.tmp 24) = u24
    generalize ac.eval (.tmp 25) = u25
    clear e8 hT hF ac
    have hr := hPh.2.2.2 rfl
    have hB := hPh.1
    clear hPh cp
    obtain ⟨W5, hW5⟩ : ∃ u, u = w' := ⟨_, rfl⟩
    subst hW5
    have HQ5 := Lib.hid hr
    have B5 := Lib.hid hB
    go_upto_region 8 with (go_at_call 38; (refine (HADD.out _ hB hr).mono ?_; rintro e w4 ⟨rfl, b4⟩))
    have hq4 := hr.old b4 hr.lt
    have B6 := Lib.hid (below_step hB (Nat.le_refl _) b4)
    have HRG := Lib.hid hq4.rg
    have HQ6 := Lib.hid hq4
    clear hr hB b4 hq4 HADD HQ5 B5
    go_upto_region 9 with (first
      | refine wpList_load_mid rfl 55 (.tmp 8) rfl q 0 rfl [.int .i64 x.win, .int .i64 (n : Int), .int .i64 tim, .string P] _ HRG.out Tryd.underlying55 rfl HI4.out ?_
      | (go_at_call 40; (refine (HLF.out _ (HKW.out.old B6.out)).mono ?_; rintro e w7 ⟨rfl, b7⟩))
      | refine wpList_store_mid (w := w7.alloc zSum) rfl 33 (.tmp 11) (.tmp 33) rfl w7.heap.size 0 (D.map u8V).toArray rfl rfl (sum_there (heap_alloc_last _ _) HDl.out) (sum_info HDl.out) (sum_one D) ?_)
    obtain ⟨s, hs⟩ : ∃ s, s = w7.heap.size := ⟨_, rfl⟩
    obtain ⟨W8, hW8⟩ : ∃ u, u = (w7.alloc zSum).setCells w7.heap.size 0 (D.map u8V) := ⟨_, rfl⟩
    change Code.wp _ _ _ _ ((w7.alloc zSum).setCells w7.heap.size 0 (D.map u8V))
    rw [← hW8, ← hs]
    have b8 : Below w7.heap.size w7 W8 := by rw [hW8]; exact (var_sum w7 D HDl.out).2
    have hs8 : Blk s 33 (D.map u8V) W8 := by rw [hW8, hs]; exact (var_sum w7 D HDl.out).1
    have hq8 := (HQ6.out.old b7 HQ6.out.lt).old b8 (Nat.lt_of_lt_of_le HQ6.out.lt b7.size)
    have B8 := below_step (below_step B6.out (Nat.le_refl _) b7) (Nat.le_refl _) b8
    have hqs : q < s := by rw [hs]; exact Nat.lt_of_lt_of_le HQ6.out.lt b7.size
    have hv8 := HV.out.old B8
    have hp8 := (B8.cell (p := ⟨p, 0, none⟩) HPL.out).trans HCP.out
    have hpq : p < q := by have := HQ.out; have := HPL.out; omega
    have hbp : b < p := by have := HVW.out.lt; have := HPW.out; omega
    have HFA : Hid (∀ u, Below W8.heap.size W8 u → Calls Tryd.prog 41 #[.pointer (some ⟨b, 3, none⟩), sumV D] u fun e w' => e = .returned (.int .i64 ((n + 1 : Nat) : Int)) ∧ (∃ Q', FrI 68 (shPre x (.slice va n cap)) (shPost x vr) 3 b (n + 1) Q' w' ∧ Q'.take (Tree.ones (n + 1)) = Tree.addP n (Q.take (Tree.ones n)) D) ∧ Only b u w') := Lib.hid fun u hu => by
      have hf := hv8.fr
      rw [← HN.out] at hf
      exact faddI_any _ _ _ _ b n Q D u (hf.old' hu) (by have := HNM.out; omega) (fun e => HV.out.sk (e ▸ HV.out.inb)) HDl.out ((HKW.out.old B8).old hu)
    have HC9 := Lib.hid hp8
    have HP9 : Hid (p < W8.heap.size) := Lib.hid (Nat.lt_of_lt_of_le HPL.out B8.size)
    have HPB : Hid (p ≠ b) := Lib.hid (by omega)
    have HS9 := Lib.hid hs8
    have HQ9 := Lib.hid hq8
    have HV8 := Lib.hid hv8
    have HB8 := Lib.hid B8
    have HQS := Lib.hid hqs
    have HPQ := Lib.hid hpq
    have HBP := Lib.hid hbp
    clear hW8 hs b8 hs8 hq8 B8 hqs hv8 hp8 hpq hbp b7 HRG HQ6 B6 HLF
    try simp only [Act.put]
    refine wp_region_ph (Lx := GLx 1) [RXP.is (.pointer (some ⟨b, 0, none⟩)), RXP.is (.pointer (some ⟨b, 0, none⟩)), RXP.is (.pointer (some ⟨b, 3, none⟩)), RXP.is (sumV D), RXP.is (.int .i64 ((n + 1 : Nat) : Int))] [4] (fun k w' => (k < 1 → Below W8.heap.size W8 w') ∧ (k = 1 → (∃ Q', FrI 68 (shPre x (.slice va n cap)) (shPost x vr) 3 b (n + 1) Q' w' ∧ Q'.take (Tree.ones (n + 1)) = Tree.addP n (Q.take (Tree.ones n)) D) ∧ Only b W8 w') ∧ Only b W8 w') (by kernel_rfl) (by kernel_rfl) (by kernel_rfl) (by kernel_rfl) (by kernel_rfl) (⟨fun _ => below_drew (Below.refl _ _), (fun h => absurd h (by decide)), Only.of_below (below_drew (Below.refl _ _))⟩) ⟨?_, ?_, ?_, ?_, ?_, trivial⟩ ?_
    · intro ac w' ph hF hPh hlt hP hU K hK0
      have e3 : ac.eval (.tmp 3) = .pointer (some ⟨p, 0, none⟩) := hF.at 3 (by kernel_rfl)
      exact rop_ld _ _ rfl e3 (load_ptA ((hPh.2.2.cell HP9.out HPB.out).trans HC9.out)) (wanted_none rfl) (hK0 _ _ GLx.same hPh rfl)
    · intro ac w' ph hF hPh hlt hP hU K hK0
      have e34 : ac.eval (.tmp 34) = .pointer (some ⟨b, 0, none⟩) := hP 0 (by kernel_rfl)
      exact rop_nilG _ rfl e34 (wanted_none rfl) (hK0 _ _ GLx.same hPh rfl)
    · intro ac w' ph hF hPh hlt hP hU K hK0
      have e35 : ac.eval (.tmp 35) = .pointer (some ⟨b, 0, none⟩) := hP 1 (by kernel_rfl)
      exact rop_fld _ _ _ rfl e35 ((fld_sh b _).2.2.2.1) (wanted_none rfl) (hK0 _ _ GLx.same hPh rfl)
    · intro ac w' ph hF hPh hlt hP hU K hK0
      have hph : ph ≤ 0 := (hlt 0 4 rfl).2 (by kernel_rfl)
      have e11 : ac.eval (.tmp 11) = .pointer (some ⟨s, 0, none⟩) := hF.at 11 (by kernel_rfl)
      exact rop_ld _ _ rfl e11 (load_sumAt (below_range (hPh.1 (by omega)) HS9.out.lt (Blk.all HS9.out)) HDl.out) (wanted_none rfl) (hK0 _ _ GLx.same hPh rfl)
    · intro ac w' ph hF hPh hlt hP hU K hK0
      obtain rfl : ph = 0 := (hlt 0 4 rfl).1 rfl
      have e36 : ac.eval (.tmp 36) = .pointer (some ⟨b, 3, none⟩) := hP 2 (by kernel_rfl)
      have e37 : ac.eval (.tmp 37) = sumV D := hP 3 (by kernel_rfl)
      have hB := hPh.1 (by decide)
      refine rop_call 41 _ _ rfl #[.pointer (some ⟨b, 3, none⟩), sumV D] (by simp [e36, e37]) (by kernel_rfl) (wanted_none rfl) ?_
      refine (HFA.out w' hB).mono ?_
      rintro e w2 ⟨rfl, hf, ho⟩
      exact ⟨_, rfl, hK0 _ _ (GLx.last rfl) ⟨(fun h => absurd h (by decide)), fun _ => ⟨hf, (Only.of_below hB).trans ho⟩, (Only.of_below hB).trans ho⟩ rfl⟩
    · intro ac w' hF hPh hT
      rw [hF.setsG [34, 35, 36, 37, 38] (by kernel_rfl)]
      simp only [List.foldl_cons, List.foldl_nil, List.setIfInBounds_toArray, List.set_cons_succ, List.set_cons_zero]
      generalize ac.eval (.tmp 34) = u34
      generalize ac.eval (.tmp 35) = u35
      generalize ac.eval (.tmp 36) = u36
      generalize ac.eval (.tmp 37) = u37
      generalize ac.eval (.tmp 38) = u38
      clear  hT hF ac
      obtain ⟨⟨Q2, hf2, hpk⟩, oW⟩ := hPh.2.1 rfl
      clear hPh
      obtain ⟨W9, hW9⟩ : ∃ u, u = w' := ⟨_, rfl⟩
      subst hW9
      have hvl0 := HVW.out
      obtain ⟨ra, rc, hvr⟩ := HVW.out.pr.slice
      subst hvr
      obtain ⟨rn, hrn⟩ : ∃ rn, rn = x.rows.length := ⟨_, rfl⟩
      have hol9 : OwnS 0 W9 (.slice va n cap) x.lvs := HV8.out.ol.kept' fun g e => oW.block g (HV8.out.ol.lt g e).2 (HV8.out.neL g e)
      have hor9 : OwnR 0 W9 (.slice ra x.rows.length rc) x.rows := (HV8.out.own (by rw [HST0.out]; decide)).kept' fun g e => oW.block g (HV8.out.pr.lt g e) (HV8.out.neR g e)
      have hgl : ∀ g, (Value.slice va n cap).ownBlock = some g → g < p := fun g e => by have := (HVW.out.ol.lt g e).2; rw [HPW.out]; exact this
      have hgr : ∀ g, (Value.slice ra x.rows.length rc).ownBlock = some g → g < p := fun g e => by have := HVW.out.pr.lt g e; rw [HPW.out]; exact this
      have hs9 : Blk s 33 (D.map u8V) W9 := Blk.kept HS9.out oW (by have := HBP.out; have := HPQ.out; have := HQS.out; omega)
      have hq9 : RecAt q x.win n tim P W9 := HQ9.out.kept oW (by have := HBP.out; have := HPQ.out; omega)
      have hc9 : W9.cell? ⟨p, 0, none⟩ = some (.pointer (some ⟨b, 0, none⟩)) := (oW.cell HP9.out HPB.out).trans HC9.out
      have hp9 : p < W9.heap.size := Nat.lt_of_lt_of_le HP9.out oW.size
      have HPA := Lib.hid hp9
      have HCA := Lib.hid hc9
      have HPL0 : Hid ((Value.slice va n cap).ownBlock ≠ some p) := Lib.hid fun e => by have := hgl p e; omega
      have HPR0 : Hid ((Value.slice ra x.rows.length rc).ownBlock ≠ some p) := Lib.hid fun e => by have := hgr p e; omega
      have HBA : Hid (b < W9.heap.size) := Lib.hid (Nat.lt_of_lt_of_le HV8.out.lt oW.size)
      have HBL1 : Hid (∀ g, (Value.slice va n cap).ownBlock = some g → g ≠ b) := Lib.hid HVW.out.neL
      have HBR1 : Hid (∀ g, (Value.slice ra x.rows.length rc).ownBlock = some g → g ≠ b) := Lib.hid HVW.out.neR
      have HBL0 : Hid ((Value.slice va n cap).ownBlock ≠ some b) := Lib.hid fun e => HBL1.out b e rfl
      have HBR0 : Hid ((Value.slice ra x.rows.length rc).ownBlock ≠ some b) := Lib.hid fun e => HBR1.out b e rfl
      have HLR0 : Hid (∀ g, (Value.slice va n cap).ownBlock = some g → (Value.slice ra x.rows.length rc).ownBlock ≠ some g) := Lib.hid HVW.out.neLR
      have HLN : Hid (∀ g, (Value.slice va n cap).ownBlock = some g → g < W9.heap.size) := Lib.hid fun g e => by have := hgl g e; omega
      have HRN : Hid (∀ g, (Value.slice ra x.rows.length rc).ownBlock = some g → g < W9.heap.size) := Lib.hid fun g e => by have := hgr g e; omega
      have HSA := Lib.hid hs9
      have HSB : Hid (s ≠ b) := Lib.hid (by have := HBP.out; have := HPQ.out; have := HQS.out; omega)
      have HSL0 : Hid ((Value.slice va n cap).ownBlock ≠ some s) := Lib.hid fun e => by have := hgl s e; have := HPQ.out; have := HQS.out; omega
      have HSR0 : Hid ((Value.slice ra x.rows.length rc).ownBlock ≠ some s) := Lib.hid fun e => by have := hgr s e; have := HPQ.out; have := HQS.out; omega
      have HQA := Lib.hid hq9
      have HQB : Hid (q ≠ b) := Lib.hid (by have := HBP.out; have := HPQ.out; omega)
      have HQL0 : Hid ((Value.slice va n cap).ownBlock ≠ some q) := Lib.hid fun e => by have := hgl q e; have := HPQ.out; omega
      have HQR0 : Hid ((Value.slice ra x.rows.length rc).ownBlock ≠ some q) := Lib.hid fun e => by have := hgr q e; have := HPQ.out; omega
      have HBK := Lib.hid hf2.2.2.2
      have HLC : Hid (W9.cell? ⟨b, 2, none⟩ = some (.slice va n cap)) := Lib.hid ((hf2.2.2.2.cell 2).trans rfl)
      have HFL : Hid ((fL (n + 1) Q2).length = 1281) := Lib.hid (fL_length _ _ hf2.1 hf2.2.1)
      have HRC : Hid (W9.cell? ⟨b, 1284, none⟩ = some (.slice ra x.rows.length rc)) := Lib.hid (by
        have := Blk.range (a := shPre x (.slice va n cap) ++ fL (n + 1) Q2) (m := shPost x (.slice ra x.rows.length rc)) (z := []) (p := b) (T := 68) (w := W9) (by rw [List.append_nil, List.append_assoc]; exact hf2.2.2.2) 0 _ rfl
        rw [List.length_append, HFL.out] at this
        exact this)
      have HOL := Lib.hid hol9
      have HOR := Lib.hid hor9
      have HM : Hid (x.lvs.length ≤ 4000) := Lib.hid HVW.out.most
      have HRL : Hid (x.rows.length ≤ x.lvs.length) := Lib.hid HVW.out.rle
      have HF2 := Lib.hid hf2
      have HPK := Lib.hid hpk
      have HOW := Lib.hid oW
      clear hf2 hpk oW hvl0 hol9 hor9 hgl hgr hs9 hq9 hc9 hp9 HFA hrn
      go_upto_region 10 with fail
      try simp only [Act.put]
      refine wp_region_ph (Lx := Lx10 b (Value.slice va n cap) (Value.slice ra x.rows.length rc)) [RXP.is (.pointer (some ⟨b, 0, none⟩)), RXP.is (.pointer (some ⟨b, 0, none⟩)), RXP.is (.pointer (some ⟨b, 0, none⟩)), RXP.is (.pointer (some ⟨b, 0, none⟩)), RXP.is (.pointer (some ⟨b, 2, none⟩)), RXP.is (.slice va n cap), RXP.is (sumV D), (TaSum (Value.slice va n cap) (Value.slice ra x.rows.length rc) b D), (TaOwnS (Value.slice va n cap) (Value.slice ra x.rows.length rc) b W9.heap.size (x.lvs ++ [D]) HLR0.out HRN.out HBL1.out HBA.out), RXP.is (.pointer (some ⟨b, 0, none⟩)), RXP.is (.pointer (some ⟨b, 0, none⟩)), RXP.is (.pointer (some ⟨b, 1284, none⟩)), RXP.is (.slice ra x.rows.length rc), RXP.is (.agg #[.int .i64 x.win, .int .i64 (n : Int), .int .i64 tim, .string P]), (TaRec (Value.slice va n cap) (Value.slice ra x.rows.length rc) b W9.heap.size x.win n tim P HLN.out), (TaOwnR (Value.slice va n cap) (Value.slice ra x.rows.length rc) b W9.heap.size (x.rows ++ [⟨x.win, n, tim, P⟩]) HBR1.out HBA.out), RXP.is (.pointer (some ⟨b, 0, none⟩)), RXP.is (.pointer (some ⟨b, 2, none⟩)), RXP.any, RXP.is (.pointer (some ⟨b, 0, none⟩)), RXP.is (.pointer (some ⟨b, 1284, none⟩)), RXP.any] [8, 15, 18, 21] (fun k w' => Fr10 b (Value.slice va n cap) (Value.slice ra x.rows.length rc) k W9 w' ∧ (k = 3 → ∃ v1, Blk b 68 ([.int .i64 x.win, .int .i64 x.st, v1] ++ (fL (n + 1) Q2 ++ shPost x (.slice ra x.rows.length rc))) w' ∧ OwnS 0 w' v1 (x.lvs ++ [D]) ∧ (∀ g, v1.ownBlock = some g → (Value.slice va n cap).ownBlock = some g ∨ W9.heap.size ≤ g)) ∧ (k = 4 → ∃ v1 v2, Blk b 68 ([.int .i64 x.win, .int .i64 x.st, v1] ++ (fL (n + 1) Q2 ++ shPost x v2)) w' ∧ OwnS 0 w' v1 (x.lvs ++ [D]) ∧ (∀ g, v1.ownBlock = some g → (Value.slice va n cap).ownBlock = some g ∨ W9.heap.size ≤ g) ∧ OwnR 0 w' v2 (x.rows ++ [⟨x.win, n, tim, P⟩]) ∧ (∀ g, v2.ownBlock = some g → (Value.slice ra x.rows.length rc).ownBlock = some g ∨ W9.heap.size ≤ g))) (by kernel_rfl) (by kernel_rfl) (by kernel_rfl) (by kernel_rfl) (by kernel_rfl) (⟨Fr10.start (below_drew (Below.refl _ _)), (fun h => absurd h (by decide)), (fun h => absurd h (by decide))⟩) ⟨?_, ?_, ?_, ?_, ?_, ?_, ?_, ?_, ?_, ?_, ?_, ?_, ?_, ?_, ?_, ?_, ?_, ?_, ?_, ?_, ?_, ?_, trivial⟩ ?_
      · intro ac w' ph hF hPh hlt hP hU K hK0
        have e3 : ac.eval (.tmp 3) = .pointer (some ⟨p, 0, none⟩) := hF.at 3 (by kernel_rfl)
        exact rop_ld _ _ rfl e3 (load_ptA ((hPh.1.cell HPA.out HPB.out HPL0.out HPR0.out 0).trans HCA.out)) (wanted_none rfl) (hK0 _ _ (.inl ⟨rfl, Below.refl _ _⟩) hPh rfl)
      · intro ac w' ph hF hPh hlt hP hU K hK0
        have e3 : ac.eval (.tmp 3) = .pointer (some ⟨p, 0, none⟩) := hF.at 3 (by kernel_rfl)
        exact rop_ld _ _ rfl e3 (load_ptA ((hPh.1.cell HPA.out HPB.out HPL0.out HPR0.out 0).trans HCA.out)) (wanted_none rfl) (hK0 _ _ (.inl ⟨rfl, Below.refl _ _⟩) hPh rfl)
      · intro ac w' ph hF hPh hlt hP hU K hK0
        have e3 : ac.eval (.tmp 3) = .pointer (some ⟨p, 0, none⟩) := hF.at 3 (by kernel_rfl)
        exact rop_ld _ _ rfl e3 (load_ptA ((hPh.1.cell HPA.out HPB.out HPL0.out HPR0.out 0).trans HCA.out)) (wanted_none rfl) (hK0 _ _ (.inl ⟨rfl, Below.refl _ _⟩) hPh rfl)
      · intro ac w' ph hF hPh hlt hP hU K hK0
        have e41 : ac.eval (.tmp 41) = .pointer (some ⟨b, 0, none⟩) := hP 2 (by kernel_rfl)
        exact rop_nilG _ rfl e41 (wanted_none rfl) (hK0 _ _ (.inl ⟨rfl, Below.refl _ _⟩) hPh rfl)
      · intro ac w' ph hF hPh hlt hP hU K hK0
        have e42 : ac.eval (.tmp 42) = .pointer (some ⟨b, 0, none⟩) := hP 3 (by kernel_rfl)
        exact rop_fld _ _ _ rfl e42 ((fld_sh b _).2.2.1) (wanted_none rfl) (hK0 _ _ (.inl ⟨rfl, Below.refl _ _⟩) hPh rfl)
      · intro ac w' ph hF hPh hlt hP hU K hK0
        have hph : ph ≤ 0 := (hlt 0 8 rfl).2 (by kernel_rfl)
        have e43 : ac.eval (.tmp 43) = .pointer (some ⟨b, 2, none⟩) := hP 4 (by kernel_rfl)
        exact rop_ld _ _ rfl e43 (load_slS ((hPh.1.atB (by omega) HBA.out HBL0.out HBR0.out 2).trans HLC.out)) (wanted_none rfl) (hK0 _ _ (.inl ⟨rfl, Below.refl _ _⟩) hPh rfl)
      · intro ac w' ph hF hPh hlt hP hU K hK0
        have e11 : ac.eval (.tmp 11) = .pointer (some ⟨s, 0, none⟩) := hF.at 11 (by kernel_rfl)
        exact rop_ld _ _ rfl e11 (load_sumAt (fun j v hv => (hPh.1.cell HSA.out.lt HSB.out HSL0.out HSR0.out _).trans (Blk.all HSA.out j v hv)) HDl.out) (wanted_none rfl) (hK0 _ _ (.inl ⟨rfl, Below.refl _ _⟩) hPh rfl)
      · intro ac w' ph hF hPh hlt hP hU K hK0
        have e45 : ac.eval (.tmp 45) = sumV D := hP 6 (by kernel_rfl)
        have hph : ph ≤ 0 := (hlt 0 8 rfl).2 (by kernel_rfl)
        obtain rfl : ph = 0 := Nat.le_zero.1 hph
        refine rop_bslG _ _ _ rfl #[(0, sumV D)] (by simp [e45]) (build_sum1 D HDl.out w') (wanted_none rfl) ?_
        exact hK0 _ _ (.inl ⟨rfl, below_boxS _ _⟩) ⟨hPh.1.below (below_boxS _ _), (fun h => absurd h (by decide)), (fun h => absurd h (by decide))⟩ (fun _ => Sums.one w' D HDl.out)
      · intro ac w' ph hF hPh hlt hP hU K hK0
        obtain rfl : ph = 0 := (hlt 0 8 rfl).1 rfl
        have e44 : ac.eval (.tmp 44) = .slice va n cap := hP 5 (by kernel_rfl)
        have e46 : 0 < 1 → Sums w' (ac.eval (.tmp 46)) [D] := hP 7 (by kernel_rfl)
        have ho0 := HOL.out.kept' (fun g e => hPh.1.own0 (by decide) (HOL.out.lt g e).2 (HBL1.out g e) (HLR0.out g e))
        obtain ⟨v', w2, hrun, ho, -, hgr, hg⟩ := sappend_own' 27 ho0 (e46 (by decide)) (Nat.zero_le _) (by have := HM.out; simp only [List.length_cons, List.length_nil]; omega)
        exact rop_appendG _ _ _ rfl e44 rfl hrun (wanted_none rfl) (hK0 _ _ (.inr ⟨rfl, fun _ => hgr, (fun h => absurd h (by decide)), (fun h => absurd h (by decide))⟩) ⟨hPh.1.grow0 hgr, (fun h => absurd h (by decide)), (fun h => absurd h (by decide))⟩ ⟨by decide, ho, fun g e => (hg g e).imp id (fun h => Nat.le_trans hPh.1.size h)⟩)
      · intro ac w' ph hF hPh hlt hP hU K hK0
        have e3 : ac.eval (.tmp 3) = .pointer (some ⟨p, 0, none⟩) := hF.at 3 (by kernel_rfl)
        exact rop_ld _ _ rfl e3 (load_ptA ((hPh.1.cell HPA.out HPB.out HPL0.out HPR0.out 0).trans HCA.out)) (wanted_none rfl) (hK0 _ _ (.inl ⟨rfl, Below.refl _ _⟩) hPh rfl)
      · intro ac w' ph hF hPh hlt hP hU K hK0
        have e48 : ac.eval (.tmp 48) = .pointer (some ⟨b, 0, none⟩) := hP 9 (by kernel_rfl)
        exact rop_nilG _ rfl e48 (wanted_none rfl) (hK0 _ _ (.inl ⟨rfl, Below.refl _ _⟩) hPh rfl)
      · intro ac w' ph hF hPh hlt hP hU K hK0
        have e49 : ac.eval (.tmp 49) = .pointer (some ⟨b, 0, none⟩) := hP 10 (by kernel_rfl)
        exact rop_fld _ _ _ rfl e49 ((fld_sh b _).2.2.2.2.1) (wanted_none rfl) (hK0 _ _ (.inl ⟨rfl, Below.refl _ _⟩) hPh rfl)
      · intro ac w' ph hF hPh hlt hP hU K hK0
        have hph : ph ≤ 1 := (hlt 1 15 rfl).2 (by kernel_rfl)
        have e50 : ac.eval (.tmp 50) = .pointer (some ⟨b, 1284, none⟩) := hP 11 (by kernel_rfl)
        exact rop_ld _ _ rfl e50 (load_slR ((hPh.1.atB (by omega) HBA.out HBL0.out HBR0.out 1284).trans HRC.out)) (wanted_none rfl) (hK0 _ _ (.inl ⟨rfl, Below.refl _ _⟩) hPh rfl)
      · intro ac w' ph hF hPh hlt hP hU K hK0
        have e8 : ac.eval (.tmp 8) = .pointer (some ⟨q, 0, none⟩) := hF.at 8 (by kernel_rfl)
        exact rop_ld _ _ rfl e8 (load_recR (b := q) (o := 0) ((hPh.1.cell HQA.out.lt HQB.out HQL0.out HQR0.out 0).trans HQA.out.c0) ((hPh.1.cell HQA.out.lt HQB.out HQL0.out HQR0.out 1).trans HQA.out.c1) ((hPh.1.cell HQA.out.lt HQB.out HQL0.out HQR0.out 2).trans HQA.out.c2) ((hPh.1.cell HQA.out.lt HQB.out HQL0.out HQR0.out 3).trans HQA.out.c3)) (wanted_none rfl) (hK0 _ _ (.inl ⟨rfl, Below.refl _ _⟩) hPh rfl)
      · intro ac w' ph hF hPh hlt hP hU K hK0
        have e52 : ac.eval (.tmp 52) = .agg #[.int .i64 x.win, .int .i64 (n : Int), .int .i64 tim, .string P] := hP 13 (by kernel_rfl)
        have hph : ph ≤ 1 := (hlt 1 15 rfl).2 (by kernel_rfl)
        refine rop_bslG _ _ _ rfl #[(0, .agg #[.int .i64 x.win, .int .i64 (n : Int), .int .i64 tim, .string P])] (by simp [e52]) (build_rec1 x.win n tim P w') (wanted_none rfl) ?_
        exact hK0 _ _ (.inl ⟨rfl, below_boxS _ _⟩) ⟨hPh.1.below (below_boxS _ _), (fun h => absurd (show ph = 3 from h) (by omega)), (fun h => absurd (show ph = 4 from h) (by omega))⟩ (fun _ => ⟨_, rfl, hPh.1.size, RecAt.alloc w' _ _ _ _⟩)
      · intro ac w' ph hF hPh hlt hP hU K hK0
        obtain rfl : ph = 1 := (hlt 1 15 rfl).1 rfl
        have e51 : ac.eval (.tmp 51) = .slice ra x.rows.length rc := hP 12 (by kernel_rfl)
        have e53 : 1 < 2 → ∃ g, (ac.eval (.tmp 53)) = .slice (some ⟨g, 0, none⟩) 1 1 ∧ W9.heap.size ≤ g ∧ RecAt g x.win n tim P w' := hP 14 (by kernel_rfl)
        have ho0 := HOR.out.kept' (fun g e => hPh.1.own1 (by decide) (World.ownsRow.lt HOR.out g e).2 (HBR1.out g e) (fun e2 => HLR0.out g e2 e))
        obtain ⟨g5, hg5, hg5n, hr5⟩ := e53 (by decide)
        obtain ⟨v', w2, hrun, ho, -, hgr, hg⟩ := rappend_pre 58 ho0 (RecAt.pre1 ⟨x.win, n, tim, P⟩ hr5) (Nat.zero_le _) (by have := HM.out; have := HRL.out; simp only [List.length_cons, List.length_nil]; omega)
        exact rop_appendG _ _ _ rfl e51 hg5 hrun (wanted_none rfl) (hK0 _ _ (.inr ⟨rfl, (fun h => absurd h (by decide)), fun _ => hgr, (fun h => absurd h (by decide))⟩) ⟨hPh.1.grow1 hgr, (fun h => absurd h (by decide)), (fun h => absurd h (by decide))⟩ ⟨by decide, ho, fun g e => (hg g e).imp id (fun h => Nat.le_trans hPh.1.size h)⟩)
      · intro ac w' ph hF hPh hlt hP hU K hK0
        have e39 : ac.eval (.tmp 39) = .pointer (some ⟨b, 0, none⟩) := hP 0 (by kernel_rfl)
        exact rop_nilG _ rfl e39 (wanted_none rfl) (hK0 _ _ (.inl ⟨rfl, Below.refl _ _⟩) hPh rfl)
      · intro ac w' ph hF hPh hlt hP hU K hK0
        have e55 : ac.eval (.tmp 55) = .pointer (some ⟨b, 0, none⟩) := hP 16 (by kernel_rfl)
        exact rop_fld _ _ _ rfl e55 ((fld_sh b _).2.2.1) (wanted_none rfl) (hK0 _ _ (.inl ⟨rfl, Below.refl _ _⟩) hPh rfl)
      · intro ac w' ph hF hPh hlt hP hU K hK0
        obtain rfl : ph = 2 := (hlt 2 18 rfl).1 rfl
        have e56 : ac.eval (.tmp 56) = .pointer (some ⟨b, 2, none⟩) := hP 17 (by kernel_rfl)
        have e47 : 1 ≤ 2 ∧ OwnS 0 w' (ac.eval (.tmp 47)) (x.lvs ++ [D]) ∧ (∀ g, (ac.eval (.tmp 47)).ownBlock = some g → (Value.slice va n cap).ownBlock = some g ∨ W9.heap.size ≤ g) := hP 8 (by kernel_rfl)
        obtain ⟨-, ho, hg⟩ := e47
        obtain ⟨sa, sn, hsl, -⟩ := ho.sums.slice
        rw [hsl] at ho hg
        have hbk : Blk b 68 (shPre x (.slice va n cap) ++ (fL (n + 1) Q2 ++ shPost x (.slice ra x.rows.length rc))) w' := (hPh.1.blkB (by decide) HBA.out HBL0.out HBR0.out).trans HBK.out
        have hp := Blk.put (a := [.int .i64 x.win, .int .i64 x.st]) (z := fL (n + 1) Q2 ++ shPost x (.slice ra x.rows.length rc)) hbk (.slice sa (x.lvs ++ [D]).length sn)
        have oB : Only b w' (w'.setCell ⟨b, 2, none⟩ (.slice sa (x.lvs ++ [D]).length sn)) := (Only.refl _ _).setCell 2 _
        have hne : ∀ g, (Value.slice sa (x.lvs ++ [D]).length sn).ownBlock = some g → g ≠ b := fun g e => by
          rcases hg g e with e2 | e2
          · exact HBL1.out g e2
          · have := HBA.out; omega
        exact rop_storeG _ _ _ rfl e56 hsl (store_slS (hbk.cell 2) (hbk.fz 2)) (wanted_none rfl) (hK0 _ _ (.inr ⟨rfl, (fun h => absurd h (by decide)), (fun h => absurd h (by decide)), fun _ => oB⟩) ⟨hPh.1.only2 oB, fun _ => ⟨_, hp, ho.kept' fun g e => oB.block g (ho.lt g e).2 (hne g e), hg⟩, (fun h => absurd h (by decide))⟩ trivial)
      · intro ac w' ph hF hPh hlt hP hU K hK0
        have e40 : ac.eval (.tmp 40) = .pointer (some ⟨b, 0, none⟩) := hP 1 (by kernel_rfl)
        exact rop_nilG _ rfl e40 (wanted_none rfl) (hK0 _ _ (.inl ⟨rfl, Below.refl _ _⟩) hPh rfl)
      · intro ac w' ph hF hPh hlt hP hU K hK0
        have e57 : ac.eval (.tmp 57) = .pointer (some ⟨b, 0, none⟩) := hP 19 (by kernel_rfl)
        exact rop_fld _ _ _ rfl e57 ((fld_sh b _).2.2.2.2.1) (wanted_none rfl) (hK0 _ _ (.inl ⟨rfl, Below.refl _ _⟩) hPh rfl)
      · intro ac w' ph hF hPh hlt hP hU K hK0
        obtain rfl : ph = 3 := (hlt 3 21 rfl).1 rfl
        have e58 : ac.eval (.tmp 58) = .pointer (some ⟨b, 1284, none⟩) := hP 20 (by kernel_rfl)
        have e54 : 2 ≤ 3 ∧ OwnR 0 w' (ac.eval (.tmp 54)) (x.rows ++ [⟨x.win, n, tim, P⟩]) ∧ (∀ g, (ac.eval (.tmp 54)).ownBlock = some g → (Value.slice ra x.rows.length rc).ownBlock = some g ∨ W9.heap.size ≤ g) := hP 15 (by kernel_rfl)
        obtain ⟨-, ho2, hg2⟩ := e54
        obtain ⟨sa, sn, hsl⟩ := ho2.pre.slice
        rw [hsl] at ho2 hg2
        obtain ⟨v1, hbk, ho1, hg1⟩ := hPh.2.1 rfl
        have hlen : ([.int .i64 x.win, .int .i64 x.st, v1] ++ fL (n + 1) Q2 : List Value).length = 1284 := by
          rw [List.length_append, HFL.out]; rfl
        have hbk' : Blk b 68 (([.int .i64 x.win, .int .i64 x.st, v1] ++ fL (n + 1) Q2) ++ ((.slice ra x.rows.length rc : Value) :: stCs x.stn)) w' := by
          rw [List.append_assoc]; exact hbk
        have k4 := hbk'.cell 1284
        rw [List.getElem?_append_right (by rw [hlen]; exact Nat.le_refl _), hlen] at k4
        have hp := Blk.put hbk' (.slice sa (x.rows ++ [(⟨x.win, n, tim, P⟩ : RecR)]).length sn)
        rw [hlen, List.append_assoc] at hp
        have oB : Only b w' (w'.setCell ⟨b, 1284, none⟩ (.slice sa (x.rows ++ [(⟨x.win, n, tim, P⟩ : RecR)]).length sn)) := (Only.refl _ _).setCell 1284 _
        have hne1 : ∀ g, v1.ownBlock = some g → g ≠ b := fun g e => by
          rcases hg1 g e with e2 | e2
          · exact HBL1.out g e2
          · have := HBA.out; omega
        have hne2 : ∀ g, (Value.slice sa (x.rows ++ [(⟨x.win, n, tim, P⟩ : RecR)]).length sn).ownBlock = some g → g ≠ b := fun g e => by
          rcases hg2 g e with e2 | e2
          · exact HBR1.out g e2
          · have := HBA.out; omega
        exact rop_storeG _ _ _ rfl e58 hsl (store_slR k4 (hbk.fz 1284)) (wanted_none rfl) (hK0 _ _ (.inr ⟨rfl, (fun h => absurd h (by decide)), (fun h => absurd h (by decide)), fun _ => oB⟩) ⟨hPh.1.only3 oB, (fun h => absurd h (by decide)), fun _ => ⟨v1, _, hp, ho1.kept' fun g e => oB.block g (ho1.lt g e).2 (hne1 g e), hg1, ho2.kept' fun g e => oB.block g (World.ownsRow.lt ho2 g e).2 (hne2 g e), hg2⟩⟩ trivial)
      · intro ac w' hF hPh hT
        rw [hF.setsG [39, 40, 41, 42, 43, 44, 45, 46, 47, 48, 49, 50, 51, 52, 53, 54, 55, 56, 57, 58] (by kernel_rfl)]
        simp only [List.foldl_cons, List.foldl_nil, List.setIfInBounds_toArray, List.set_cons_succ, List.set_cons_zero]
        generalize ac.eval (.tmp 39) = u39
        generalize ac.eval (.tmp 40) = u40
        generalize ac.eval (.tmp 41) = u41
        generalize ac.eval (.tmp 42) = u42
        generalize ac.eval (.tmp 43) = u43
        generalize ac.eval (.tmp 44) = u44
        generalize ac.eval (.tmp 45) = u45
        generalize ac.eval (.tmp 46) = u46
        generalize ac.eval (.tmp 47) = u47
        generalize ac.eval (.tmp 48) = u48
        generalize ac.eval (.tmp 49) = u49
        generalize ac.eval (.tmp 50) = u50
        generalize ac.eval (.tmp 51) = u51
        generalize ac.eval (.tmp 52) = u52
        generalize ac.eval (.tmp 53) = u53
        generalize ac.eval (.tmp 54) = u54
        generalize ac.eval (.tmp 55) = u55
        generalize ac.eval (.tmp 56) = u56
        generalize ac.eval (.tmp 57) = u57
        generalize ac.eval (.tmp 58) = u58
        clear  hT hF ac
        obtain ⟨v1, v2, hbk, ho1, hg1, ho2, hg2⟩ := hPh.2.2 rfl
        have hfr := hPh.1
        clear hPh
        have hln : (x.lvs ++ [D]).length = n + 1 := by rw [List.length_append, ← HN.out]; rfl
        have hvF : ShV S b ⟨x.win, x.st, x.lvs ++ [D], x.rows ++ [⟨x.win, n, tim, P⟩], x.stn⟩ v1 v2 Q2 w' := by
          have hrl := HVW.out.req (by rw [HST0.out]; decide)
          have hsz : w.heap.size ≤ W9.heap.size := Nat.le_trans B1.out.size (Nat.le_trans HB8.out.size HOW.out.size)
          refine ⟨⟨HF2.out.1, HF2.out.2.1, rfl, by rw [hln]; exact hbk⟩, ?_, ho1, ho2.pre, fun _ => ho2, HVW.out.inb, fun g e => ?_, fun g e => ?_, HVW.out.sk, HVW.out.stl, ?_, ?_, fun _ => ?_, HVW.out.wok⟩
          · rw [hln, HPK.out, HN.out, HVW.out.pk]
            exact Tree.addP_peaks x.lvs D
          · exact (hg1 g e).elim (HVW.out.inl g) (fun h => HUP.out g (Nat.le_trans hsz h))
          · exact (hg2 g e).elim (HVW.out.inr g) (fun h => HUP.out g (Nat.le_trans hsz h))
          · show (x.lvs ++ [D]).length ≤ 4000
            rw [hln]; exact HNM.out
          · show (x.rows ++ [_]).length ≤ (x.lvs ++ [D]).length
            rw [List.length_append, List.length_append, hrl]; exact Nat.le_refl _
          · show (x.rows ++ [_]).length = (x.lvs ++ [D]).length
            rw [List.length_append, List.length_append, hrl]; rfl
        have hoF : OnlyS S w w' := by
          have o1 : OnlyS S w W9 := (OnlyS.of_below B1.out).trans ((OnlyS.of_below HB8.out).trans (OnlyS.of_only HOW.out HVW.out.inb))
          refine o1.trans ⟨hfr.os, hfr.tape, hfr.output, hfr.size, fun j hj hs => hfr.block j hj (fun _ e => hs (HVW.out.inl j e)) (fun _ e => hs (HVW.out.inr j e)) (fun _ e => hs (e ▸ HVW.out.inb))⟩
        have hqF : w'.cell? ⟨q, 1, none⟩ = some (.int .i64 (n : Int)) := (hfr.cell HQA.out.lt HQB.out HQL0.out HQR0.out 1).trans HQA.out.c1
        have hS : Hid (Shd S b (shAdd x tim P) w') := Lib.hid (by
          refine ⟨v1, v2, Q2, ?_⟩
          unfold shAdd lfR addR
          rw [← HN.out, ← HDD.out]
          exact hvF)
        have HO := Lib.hid hoF
        clear hbk ho1 hg1 ho2 hg2 hfr hln hvF hoF
        go_wp2
        go_ret2
        exact ⟨rfl, hS.out, HO.out⟩
end Go.Proofs.YtollcdalokhjaaaDoor
/-! ## Package shard: Strip. -/
namespace Go.Proofs.YtollcdalokhjaaaDoor
open Go.RowKit

section
variable {ops : Array Oper} {Q : Exit → Act → World → Prop} {a : Act} {w w' : World} {K : Act → World → Prop} {o : Oper}
theorem rop_maxG (x y : Operand) (ts : Array TypeId) (hop : o.op = .call { callee := .builtin .max, args := #[x, y], argTypes := ts }) {u v r : Int} (hx : a.eval x = .int .i64 u) (hy : a.eval y = .int .i64 v) (hr : (if v > u then v else u) = r) (hw : Region.wanted o (yielded ops a.tmps) = true) (h : K (a.put o.dst (.int .i64 r)) w) :
    if Region.wanted o (yielded ops a.tmps) = true then Oper.wp Tryd.prog o a w K Q else K (a.put o.dst undef) w :=
  rop_v hw (by have := run_max_int2 (P := Tryd.prog) (w := w) ts o.type .i64 .i64 u v; rw [hr] at this; simp [execOp, hop, resolve, invoke, builtin, hx, hy, this]) h
theorem rop_minG (x y : Operand) (ts : Array TypeId) (hop : o.op = .call { callee := .builtin .min, args := #[x, y], argTypes := ts }) {u v r : Int} (hx : a.eval x = .int .i64 u) (hy : a.eval y = .int .i64 v) (hr : (if v < u then v else u) = r) (hw : Region.wanted o (yielded ops a.tmps) = true) (h : K (a.put o.dst (.int .i64 r)) w) :
    if Region.wanted o (yielded ops a.tmps) = true then Oper.wp Tryd.prog o a w K Q else K (a.put o.dst undef) w :=
  rop_v hw (by have := run_min_int2 (P := Tryd.prog) (w := w) ts o.type .i64 .i64 u v; rw [hr] at this; simp [execOp, hop, resolve, invoke, builtin, hx, hy, this]) h
theorem rop_clearG (s : Operand) (t : TypeId) (hop : o.op = .call { callee := .builtin .clear, args := #[s], argTypes := #[t] }) {v u : Value} (hs : a.eval s = v) (hr : (Builtin.clear_ #[t] o.type #[v]).run Tryd.prog w = .ok u w') (hw : Region.wanted o (yielded ops a.tmps) = true) (h : K (a.put o.dst u) w') :
    if Region.wanted o (yielded ops a.tmps) = true then Oper.wp Tryd.prog o a w K Q else K (a.put o.dst undef) w := by
  rw [if_pos hw]
  unfold Oper.wp execOp
  simp only [hop, resolve, invoke, builtin, Sem.run_bind, Sem.run_pure, Result.andThen_ok, List.map_toArray, List.map_cons, List.map_nil, hs, hr]
  exact h
end
theorem size_recS (w : World) : (Go.sizeOf 55).run Tryd.prog w = .ok 4 w := by
  obtain ⟨i0, hi, _, _, _⟩ := info_parts info_rec
  have hc : Tryd.prog.cellsOf 55 = 4 := by kernel_rfl
  rw [run_sizeOf w hi, hc]
theorem elem_recs : Tryd.prog.elem 58 = 55 := by kernel_rfl
/-- The address behind k records, as the model has it. -/
def cutR (a : Option Addr) (k cap : Nat) : Option Addr := if cap = k then a else a.map (·.add (k * 4))
set_option maxRecDepth 1000000 in
theorem rcut_hm (va : Option Addr) (n cap m : Nat) (h2 : m ≤ cap) (w : World) : (Instr.sliceAt 58 (.slice va n cap) none (some (.int .i64 (m : Int))) (some (.int .i64 (m : Int)))).run Tryd.prog w = .ok (.slice va m m) w := by
  refine (run_sliceAt_slice w _ _ _ _ _ Tryd.underlying58).trans ?_
  rw [run_slice_hm (P := Tryd.prog) w _ va n cap Tryd.underlying58 _ _ _ _ (by omega) (by omega) (by omega), elem_recs, size_recS]
  cases va with
  | none => simp [Result.andThen, sliced]
  | some a => obtain ⟨b, off, s⟩ := a; cases s <;> simp [Result.andThen, sliced, Addr.add]
set_option maxRecDepth 1000000 in
theorem rcut_h (va : Option Addr) (n cap m : Nat) (h2 : m ≤ cap) (w : World) : (Instr.sliceAt 58 (.slice va n cap) none (some (.int .i64 (m : Int))) none).run Tryd.prog w = .ok (.slice va m cap) w := by
  refine (run_sliceAt_slice w _ _ _ _ _ Tryd.underlying58).trans ?_
  rw [run_slice_h (P := Tryd.prog) w _ va n cap Tryd.underlying58 _ _ (by omega) (by omega), elem_recs, size_recS]
  cases va with
  | none => simp [Result.andThen, sliced]
  | some a => obtain ⟨b, off, s⟩ := a; cases s <;> simp [Result.andThen, sliced, Addr.add]
set_option maxRecDepth 1000000 in
theorem rcut_l (va : Option Addr) (n cap k : Nat) (h2 : k ≤ n) (w : World) : (Instr.sliceAt 58 (.slice va n cap) (some (.int .i64 (k : Int))) none none).run Tryd.prog w = .ok (.slice (cutR va k cap) (n - k) (cap - k)) w := by
  refine (run_sliceAt_slice w _ _ _ _ _ Tryd.underlying58).trans ?_
  rw [run_slice_l (P := Tryd.prog) w _ va n cap Tryd.underlying58 _ _ (by omega) (by omega), elem_recs, size_recS]
  simp only [Result.andThen, sliced, Int.toNat_natCast, cutR]
theorem rec0_cells : (Value.agg (recCs rec0).toArray).cells = (recCs rec0).toArray := rfl
/-- clear of records: the cells that are theirs are written; what stands there then is not asked. -/
theorem run_clear_rec (w : World) (b o n c : Nat) (hn : 0 < n) (ht : w.there b o (n * 4)) :
    ∃ zs : List Value, zs.length = n * 4 ∧ ∀ ty, (Builtin.clear_ #[58] ty #[.slice (some ⟨b, o, none⟩) n c]).run Tryd.prog w = .ok (.tuple #[]) (w.setCells b o zs) := by
  obtain ⟨m, rfl⟩ : ∃ m, n = m + 1 := ⟨n - 1, by omega⟩
  have hz := (zero_of_info info_rec4).1
  obtain ⟨zs, hzs⟩ : ∃ zs, zs = (Builtin.zeroCells (recCs rec0).toArray (m + 1)).toList := ⟨_, rfl⟩
  have hl : zs.length = (m + 1) * 4 := by rw [hzs]; simp [Builtin.zeroCells, recCs]
  have hone : ∀ v ∈ zs, v.oneCell' = true := fun v hv => by
    rw [hzs] at hv
    simp only [Builtin.zeroCells, Array.toList_map, List.mem_map] at hv
    obtain ⟨i, _, rfl⟩ := hv
    have h4 : i % (recCs rec0).toArray.size < 4 := Nat.mod_lt _ (by decide)
    have : ∀ j, j < 4 → ((recCs rec0).toArray[j]!).oneCell' = true := by decide
    exact this _ h4
  have hst := run_storeCells_cells (P := Tryd.prog) b o zs 0 w (fun j hj => by rw [Nat.add_zero]; exact (ht j (by omega)).1) (fun j hj => by rw [Nat.add_zero]; exact (ht j (by omega)).2) hone
  rw [Nat.add_zero] at hst
  refine ⟨zs, hl, fun ty => ?_⟩
  rw [hzs] at hst ⊢
  simp [Builtin.clear_, run_underlying Tryd.underlying58, hz, rec0_cells, hst]
/-- What is left when k records are, in a block that was cleared behind them. -/
theorem PreR.cleared {w : World} {g n cap : Nat} {l : List RecR} (h : PreR w (.slice (some ⟨g, 0, none⟩) n cap) l) (k : Nat) (hk : k ≤ l.length) (zs : List Value) (hz : zs.length = (l.length - k) * 4) : PreR (w.setCells g (k * 4) zs) (.slice (some ⟨g, 0, none⟩) k k) (l.take k) := by
  rcases h with ⟨e, _⟩ | ⟨g', cap', cur, e, hgg, h1, h2, h3, htake⟩
  · cases e
  · injection e with e _ e3
    cases e
    subst e3
    have hb : w.heap[g]? = some (.cells cur.toList.toArray 55 (0, 0)) := by rw [hgg]
    have hs := heap_setCells g 55 zs (k * 4) cur.toList w (by have e0 : cur.toList.length = cur.size := Array.length_toList; omega) hb
    have hl : (l.take k).length = k := by rw [List.length_take]; omega
    refine .inr ⟨g, k, _, by rw [hl], hs, by omega, by omega, ?_, ?_⟩
    · have e0 : cur.toList.length = cur.size := Array.length_toList
      simp only [List.size_toArray, List.length_append, List.length_take, List.length_drop]
      omega
    · have hlen : (cur.toList.take (k * 4)).length = k * 4 := by
        have e0 : cur.toList.length = cur.size := Array.length_toList
        rw [List.length_take]; omega
      rw [hl, List.take_left' hlen]
      have e1 : cur.toList.take (k * 4) = (cur.toList.take (l.length * 4)).take (k * 4) := by rw [List.take_take, Nat.min_eq_left (by omega)]
      have e2 : recsC l = recsC (l.take k) ++ recsC (l.drop k) := by rw [← recsC_append, List.take_append_drop]
      have hlen2 : (recsC (l.take k)).length = k * 4 := by rw [recsC_length, hl]
      rw [e1, htake, e2, ← hlen2, List.take_left]
theorem PreR.there {w : World} {g n cap : Nat} {l : List RecR} (h : PreR w (.slice (some ⟨g, 0, none⟩) n cap) l) (k : Nat) (hk : k ≤ l.length) : w.there g (k * 4) ((l.length - k) * 4) := by
  rcases h with ⟨e, _⟩ | ⟨g', cap', cur, e, hgg, h1, h2, h3, htake⟩
  · cases e
  · injection e with e _ e3
    cases e
    subst e3
    have hb : w.heap[g]? = some (.cells cur.toList.toArray 55 (0, 0)) := by rw [hgg]
    exact there_of hb (by have e0 : cur.toList.length = cur.size := Array.length_toList; omega)
/-- The rows are others, in a pruned shard. -/
theorem ShV.setRows {S : Nat → Prop} {b : Nat} {x : ShR} {vl vr : Value} {Q : Hs} {w u : World} (h : ShV S b x vl vr Q w) (hst : x.st = 2) (ho : OnlyS (fun k => vr.ownBlock = some k) w u) (vr' : Value) (rows' : List RecR) (hp : PreR u vr' rows') (hs : ∀ g, vr'.ownBlock = some g → vr.ownBlock = some g) (hl : rows'.length ≤ x.rows.length) :
    ShV S b ⟨x.win, x.st, x.lvs, rows', x.stn⟩ vl vr' Q (u.setCell ⟨b, 1284, none⟩ vr') := by
  have hbn : ¬ vr.ownBlock = some b := fun e => h.neR b e rfl
  have hbu : Blk b 68 (shPre x vl ++ (fL x.lvs.length Q ++ shPost x vr)) u := (ho.block b h.lt hbn).trans h.blk
  have hlen : (shPre x vl ++ fL x.lvs.length Q).length = 1284 := by
    rw [List.length_append, fL_length _ _ h.fr.1 h.fr.2.1]; rfl
  have hb0 : Blk b 68 ((shPre x vl ++ fL x.lvs.length Q) ++ (vr :: stCs x.stn)) u := by
    rw [List.append_assoc]; exact hbu
  have hb := Blk.put hb0 vr'
  rw [hlen, List.append_assoc] at hb
  have k : ∀ g, g ≠ b → (u.setCell ⟨b, 1284, none⟩ vr').heap[g]? = u.heap[g]? := fun g hg => Below.heap_setCell _ _ _ _ hg
  exact ⟨⟨h.fr.1, h.fr.2.1, rfl, hb⟩, h.pk, h.ol.kept' fun g e => (k g (h.neL g e)).trans (ho.block g (h.ol.lt g e).2 (h.neLR g e)), hp.kept' fun g e => k g (h.neR g (hs g e)), fun e => absurd hst e, h.inb, h.inl, fun g e => h.inr g (hs g e), h.sk, h.stl, h.most, Nat.le_trans hl h.rle, fun e => absurd hst e, h.wok⟩

theorem shStrip_nil (n : Int) (w : World) : Calls Tryd.prog 22 #[.pointer none, .int .i64 n] w fun e w' => e = .returned (.int .i64 0) ∧ w = w' := by
  go_enter Tryd.func22, Tryd.ntmps22
  go_wp2_with (first
    | (go_at_call 31; (refine (shState_nil _).mono ?_; rintro e w3 ⟨rfl, rfl⟩))
    | (go_at_call 25; (refine (shLeft_nil _).mono ?_; rintro e w3 ⟨rfl, rfl⟩)))
  go_ret
  exact ⟨rfl, rfl⟩
theorem shStrip_not {S : Nat → Prop} {b : Nat} {x : ShR} {w : World} (h : Shd S b x w) (hst : x.st ≠ 2) (n : Int) : Calls Tryd.prog 22 #[.pointer (some ⟨b, 0, none⟩), .int .i64 n] w fun e w' => e = .returned (.int .i64 (x.rows.length : Int)) ∧ w = w' := by
  have HST := Lib.hid (shState_any h)
  have HLF := Lib.hid (shLeft_any h)
  obtain ⟨z, hz⟩ : ∃ z, z = x.st := ⟨_, rfl⟩
  rw [← hz] at HST
  have q1 : ¬ z = 2 := by omega
  have q2 : (z == 2) = false := by simpa using q1
  clear hz hst h
  generalize x.rows.length = m at *
  go_enter Tryd.func22, Tryd.ntmps22
  go_wp2_with (first
    | (go_at_call 31; (refine HST.out.mono ?_; rintro e w3 ⟨rfl, rfl⟩))
    | (go_at_call 25; (refine HLF.out.mono ?_; rintro e w3 ⟨rfl, rfl⟩)))
  go_ret
  exact ⟨rfl, rfl⟩
/-- Behind clear: the rows' block has turned, what is left of the rows can be read. -/
def Cleared (x : ShR) (vr : Value) (ra : Option Addr) (k : Nat) (w u : World) : Prop := OnlyS (fun g => vr.ownBlock = some g) w u ∧ PreR u (.slice ra k k) (x.rows.take k)
/-- How many are left when z are stripped. -/
def stripK (n : Nat) (z : Int) : Nat := n - z.toNat
set_option maxHeartbeats 3200000 in
set_option maxRecDepth 100000 in
theorem clear_rows {S : Nat → Prop} {b : Nat} {x : ShR} {vl : Value} {ra : Option Addr} {n rc : Nat} {Q : Hs} (k : Nat) (hn : n = x.rows.length) (hk : k ≤ n) (hrc : n ≤ rc) (u : World) (hu : ShV S b x vl (.slice ra n rc) Q u) :
    ∃ W2, (∀ ty, (Builtin.clear_ #[58] ty #[.slice (cutR ra k rc) (n - k) (rc - k)]).run Tryd.prog u = .ok (.tuple #[]) W2) ∧ Cleared x (.slice ra n rc) ra k u W2 := by
  have hkl : k ≤ x.rows.length := by omega
  by_cases h0 : n - k = 0
  · refine ⟨u, fun ty => ?_, OnlyS.refl _ _, ?_⟩
    · rw [h0]
      cases cutR ra k rc <;> simp [Builtin.clear_, run_underlying Tryd.underlying58]
    · obtain rfl : k = n := by omega
      have hpr := hu.pr
      rcases hpr with ⟨e, e2⟩ | ⟨g, cap, cur, e, _⟩
      · injection e with e e1 _
        rw [e, e1, e2]
        exact PreR.nil _
      · injection e with e _ _
        subst e
        exact PreR.head hu.pr k hkl k (Nat.le_refl _) hrc
  · have hpr := hu.pr
    rcases hpr with ⟨e, e2⟩ | ⟨g, cap, cur, e, _⟩
    · exfalso
      injection e with _ e1 _; omega
    · injection e with e _ _
      subst e
      have hct : cutR (some ⟨g, 0, none⟩) k rc = some ⟨g, k * 4, none⟩ := by
        unfold cutR
        rw [if_neg (by omega), Option.map_some, Addr.add_mid, Nat.zero_add]
      have hth := PreR.there hu.pr k hkl
      rw [← hn] at hth
      obtain ⟨zs, hzl, hrun⟩ := run_clear_rec u g (k * 4) (n - k) (rc - k) (by omega) hth
      have hos : Only g u (u.setCells g (k * 4) zs) := only_setCells _ _ _ (Only.refl _ _)
      exact ⟨u.setCells g (k * 4) zs, fun ty => by rw [hct]; exact hrun ty, OnlyS.of_only hos rfl, PreR.cleared hu.pr k hkl zs (by rw [hzl, hn])⟩
set_option maxHeartbeats 3200000 in
set_option maxRecDepth 100000 in
theorem shStrip_any {S : Nat → Prop} {b : Nat} {x : ShR} {w : World} (h : Shd S b x w) (hst : x.st = 2) (z : Int) : Calls Tryd.prog 22 #[.pointer (some ⟨b, 0, none⟩), .int .i64 z] w fun e w' => e = .returned (.int .i64 (stripK x.rows.length z : Int)) ∧ Shd S b ⟨x.win, x.st, x.lvs, x.rows.take (stripK x.rows.length z), x.stn⟩ w' ∧ OnlyS S w w' := by
  have HST := Lib.hid (shState_any h)
  rw [hst] at HST
  obtain ⟨vl, vr, Q, hv⟩ := h
  obtain ⟨ra, rc, rfl⟩ := hv.pr.slice
  obtain ⟨n, hn⟩ : ∃ n, n = x.rows.length := ⟨_, rfl⟩
  obtain ⟨m, hm⟩ : ∃ m, m = z.toNat := ⟨_, rfl⟩
  obtain ⟨k, hk⟩ : ∃ k, k = stripK x.rows.length z := ⟨_, rfl⟩
  have hkm : k = n - m := by rw [hk, hn, hm]; rfl
  have hn4 : n ≤ 4000 := by have := hv.most; have := hv.rle; omega
  rw [← hk]
  rw [← hn] at hv
  have hrc : n ≤ rc := by
    rcases hv.pr with ⟨e, e2⟩ | ⟨g, cap, cur, e, _, e2, _⟩
    · injection e with _ e1 _; omega
    · injection e with _ e1 e3; omega
  have hkn : k ≤ n := by omega
  have HCLR := Lib.hid (clear_rows (S := S) (b := b) (vl := vl) (ra := ra) (Q := Q) k hn hkn hrc)
  have HV := Lib.hid hv
  have HN := Lib.hid hn
  have HKM := Lib.hid hkm
  have HM := Lib.hid hm
  have HST2 := Lib.hid hst
  have HCUT := Lib.hid (fun u => rcut_hm ra n rc k (by omega) u)
  clear hv hn hk hst
  go_enter Tryd.func22, Tryd.ntmps22
  go_upto_region 2 with (go_at_call 31; (refine HST.out.mono ?_; rintro e w3 ⟨rfl, rfl⟩))
  clear HST
  try simp only [Act.put]
  refine wp_region_tab [RT.is (.pointer (some ⟨b, 0, none⟩)), RT.is (.pointer (some ⟨b, 0, none⟩)), RT.is (.pointer (some ⟨b, 1284, none⟩)), RT.is (.slice ra n rc), RT.is (.int .i64 (n : Int)), RT.is (.int .i64 z), RT.is (.int .i64 (m : Int)), RT.is (.pointer (some ⟨b, 0, none⟩)), RT.is (.pointer (some ⟨b, 0, none⟩)), RT.is (.pointer (some ⟨b, 1284, none⟩)), RT.is (.slice ra n rc), RT.is (.int .i64 (n : Int)), RT.is (.int .i64 ((min m n : Nat) : Int)), RT.is (.int .i64 (k : Int)), RT.is (.int .i64 (k : Int))] (by kernel_rfl) (by kernel_rfl) (by kernel_rfl) (by kernel_rfl) ⟨?_, ?_, ?_, ?_, ?_, ?_, ?_, ?_, ?_, ?_, ?_, ?_, ?_, ?_, ?_, trivial⟩ ?_
  · intro ac w' hF hL hP hU K hK
    have hB := below_undrew hL
    have e0 : ac.eval (.tmp 0) = .pointer (some ⟨b, 0, none⟩) := hF.at 0 (by kernel_rfl)
    exact rop_move _ rfl e0 (wanted_none rfl) (hK _ _ (le8_refl _) rfl)
  · intro ac w' hF hL hP hU K hK
    have hB := below_undrew hL
    have e9 : ac.eval (.tmp 9) = .pointer (some ⟨b, 0, none⟩) := hP 0 (by kernel_rfl)
    exact rop_nilG _ rfl e9 (wanted_none rfl) (hK _ _ (le8_refl _) rfl)
  · intro ac w' hF hL hP hU K hK
    have hB := below_undrew hL
    have e10 : ac.eval (.tmp 10) = .pointer (some ⟨b, 0, none⟩) := hP 1 (by kernel_rfl)
    exact rop_fld _ _ _ rfl e10 ((fld_sh b _).2.2.2.2.1) (wanted_none rfl) (hK _ _ (le8_refl _) rfl)
  · intro ac w' hF hL hP hU K hK
    have hB := below_undrew hL
    have e11 : ac.eval (.tmp 11) = .pointer (some ⟨b, 1284, none⟩) := hP 2 (by kernel_rfl)
    exact rop_ld _ _ rfl e11 (load_slR ((HV.out.old hB).cRows)) (wanted_none rfl) (hK _ _ (le8_refl _) rfl)
  · intro ac w' hF hL hP hU K hK
    have hB := below_undrew hL
    have e12 : ac.eval (.tmp 12) = .slice ra n rc := hP 3 (by kernel_rfl)
    exact rop_lenG _ Tryd.underlying58 rfl e12 (wanted_none rfl) (hK _ _ (le8_refl _) rfl)
  · intro ac w' hF hL hP hU K hK
    have hB := below_undrew hL
    have e1 : ac.eval (.tmp 1) = .int .i64 z := hF.at 1 (by kernel_rfl)
    exact rop_move _ rfl e1 (wanted_none rfl) (hK _ _ (le8_refl _) rfl)
  · intro ac w' hF hL hP hU K hK
    have hB := below_undrew hL
    have e14 : ac.eval (.tmp 14) = .int .i64 z := hP 5 (by kernel_rfl)
    exact rop_maxG _ _ _ rfl e14 rfl (by have := HM.out; split <;> omega) (wanted_none rfl) (hK _ _ (le8_refl _) rfl)
  · intro ac w' hF hL hP hU K hK
    have hB := below_undrew hL
    have e0 : ac.eval (.tmp 0) = .pointer (some ⟨b, 0, none⟩) := hF.at 0 (by kernel_rfl)
    exact rop_move _ rfl e0 (wanted_none rfl) (hK _ _ (le8_refl _) rfl)
  · intro ac w' hF hL hP hU K hK
    have hB := below_undrew hL
    have e16 : ac.eval (.tmp 16) = .pointer (some ⟨b, 0, none⟩) := hP 7 (by kernel_rfl)
    exact rop_nilG _ rfl e16 (wanted_none rfl) (hK _ _ (le8_refl _) rfl)
  · intro ac w' hF hL hP hU K hK
    have hB := below_undrew hL
    have e17 : ac.eval (.tmp 17) = .pointer (some ⟨b, 0, none⟩) := hP 8 (by kernel_rfl)
    exact rop_fld _ _ _ rfl e17 ((fld_sh b _).2.2.2.2.1) (wanted_none rfl) (hK _ _ (le8_refl _) rfl)
  · intro ac w' hF hL hP hU K hK
    have hB := below_undrew hL
    have e18 : ac.eval (.tmp 18) = .pointer (some ⟨b, 1284, none⟩) := hP 9 (by kernel_rfl)
    exact rop_ld _ _ rfl e18 (load_slR ((HV.out.old hB).cRows)) (wanted_none rfl) (hK _ _ (le8_refl _) rfl)
  · intro ac w' hF hL hP hU K hK
    have hB := below_undrew hL
    have e19 : ac.eval (.tmp 19) = .slice ra n rc := hP 10 (by kernel_rfl)
    exact rop_lenG _ Tryd.underlying58 rfl e19 (wanted_none rfl) (hK _ _ (le8_refl _) rfl)
  · intro ac w' hF hL hP hU K hK
    have hB := below_undrew hL
    have e15 : ac.eval (.tmp 15) = .int .i64 (m : Int) := hP 6 (by kernel_rfl)
    have e20 : ac.eval (.tmp 20) = .int .i64 (n : Int) := hP 11 (by kernel_rfl)
    exact rop_minG _ _ _ rfl e15 e20 (by split <;> omega) (wanted_none rfl) (hK _ _ (le8_refl _) rfl)
  · intro ac w' hF hL hP hU K hK
    have hB := below_undrew hL
    have e13 : ac.eval (.tmp 13) = .int .i64 (n : Int) := hP 4 (by kernel_rfl)
    have e21 : ac.eval (.tmp 21) = .int .i64 ((min m n : Nat) : Int) := hP 12 (by kernel_rfl)
    exact rop_bin _ _ _ _ _ rfl e13 e21 (guard_int _ _ _ _ _ _ _ w') ((sub_iG _ _ (IntWalk.i64_in _ (by omega)) w').trans (by rw [show (n : Int) - ((min m n : Nat) : Int) = (k : Int) by rw [HKM.out]; omega])) (wanted_none rfl) (hK _ _ (le8_refl _) rfl)
  · intro ac w' hF hL hP hU K hK
    have hB := below_undrew hL
    have e22 : ac.eval (.tmp 22) = .int .i64 (k : Int) := hP 13 (by kernel_rfl)
    exact rop_assign _ rfl e22 (wanted_none rfl) (hK _ _ (le8_refl _) rfl)
  · intro ac w' hF hB hT
    have e5 : ac.eval (.tmp 5) = .int .i64 (k : Int) := hT 14 (by decide)
    rw [hF.setsG [9, 10, 11, 12, 13, 14, 15, 16, 17, 18, 19, 20, 21, 22, 5] (by kernel_rfl)]
    simp only [List.foldl_cons, List.foldl_nil, List.setIfInBounds_toArray, List.set_cons_succ, List.set_cons_zero, e5]
    generalize ac.eval (.tmp 9) = u9
    generalize ac.eval (.tmp 10) = u10
    generalize ac.eval (.tmp 11) = u11
    generalize ac.eval (.tmp 12) = u12
    generalize ac.eval (.tmp 13) = u13
    generalize ac.eval (.tmp 14) = u14
    generalize ac.eval (.tmp 15) = u15
    generalize ac.eval (.tmp 16) = u16
    generalize ac.eval (.tmp 17) = u17
    generalize ac.eval (.tmp 18) = u18
    generalize ac.eval (.tmp 19) = u19
    generalize ac.eval (.tmp 20) = u20
    generalize ac.eval (.tmp 21) = u21
    generalize ac.eval (.tmp 22) = u22
    clear e5 hT hF ac
    clear hkm hm hrc hn4
    obtain ⟨W, hW⟩ : ∃ u, u = w' := ⟨_, rfl⟩
    subst hW
    have HV2 := Lib.hid (HV.out.old hB)
    have B2 := Lib.hid hB
    clear HV hB
    go_upto_region 3 with fail
    try simp only [Act.put]
    refine wp_region_ph0 (Lx := GLx 1) [RXP.is (.pointer (some ⟨b, 0, none⟩)), RXP.is (.pointer (some ⟨b, 0, none⟩)), RXP.is (.pointer (some ⟨b, 1284, none⟩)), RXP.is (.slice ra n rc), RXP.is (.int .i64 (k : Int)), RXP.is (.slice (cutR ra k rc) (n - k) (rc - k)), RXP.any] [6] (fun j w' => (j < 1 → W = w') ∧ (j = 1 → Cleared x (.slice ra n rc) ra k W w') ∧ w'.heap[b]? = W.heap[b]?) (by kernel_rfl) (by kernel_rfl) (by kernel_rfl) (by kernel_rfl) (by kernel_rfl) (⟨fun _ => rfl, (fun h => absurd h (by decide)), rfl⟩) ⟨?_, ?_, ?_, ?_, ?_, ?_, ?_, trivial⟩ ?_
    · intro ac w' ph hF hPh hlt hP hU K hK0
      have e0 : ac.eval (.tmp 0) = .pointer (some ⟨b, 0, none⟩) := hF.at 0 (by kernel_rfl)
      exact rop_move _ rfl e0 (wanted_none rfl) (hK0 _ _ GLx.same hPh rfl)
    · intro ac w' ph hF hPh hlt hP hU K hK0
      have e23 : ac.eval (.tmp 23) = .pointer (some ⟨b, 0, none⟩) := hP 0 (by kernel_rfl)
      exact rop_nilG _ rfl e23 (wanted_none rfl) (hK0 _ _ GLx.same hPh rfl)
    · intro ac w' ph hF hPh hlt hP hU K hK0
      have e24 : ac.eval (.tmp 24) = .pointer (some ⟨b, 0, none⟩) := hP 1 (by kernel_rfl)
      exact rop_fld _ _ _ rfl e24 ((fld_sh b _).2.2.2.2.1) (wanted_none rfl) (hK0 _ _ GLx.same hPh rfl)
    · intro ac w' ph hF hPh hlt hP hU K hK0
      have e25 : ac.eval (.tmp 25) = .pointer (some ⟨b, 1284, none⟩) := hP 2 (by kernel_rfl)
      exact rop_ld _ _ rfl e25 (load_slR ((World.cell?_of_block (w := W) (a := ⟨b, 1284, none⟩) hPh.2.2).trans HV2.out.cRows)) (wanted_none rfl) (hK0 _ _ GLx.same hPh rfl)
    · intro ac w' ph hF hPh hlt hP hU K hK0
      have e5 : ac.eval (.tmp 5) = .int .i64 (k : Int) := hF.at 5 (by kernel_rfl)
      exact rop_move _ rfl e5 (wanted_none rfl) (hK0 _ _ GLx.same hPh rfl)
    · intro ac w' ph hF hPh hlt hP hU K hK0
      have e26 : ac.eval (.tmp 26) = .slice ra n rc := hP 3 (by kernel_rfl)
      have e27 : ac.eval (.tmp 27) = .int .i64 (k : Int) := hP 4 (by kernel_rfl)
      exact rop_sliceG _ _ _ _ _ rfl e26 (by simp [e27]) rfl rfl (rcut_l ra n rc k hkn w') (wanted_none rfl) (hK0 _ _ GLx.same hPh rfl)
    · intro ac w' ph hF hPh hlt hP hU K hK0
      obtain rfl : ph = 0 := (hlt 0 6 rfl).1 rfl
      have e28 : ac.eval (.tmp 28) = .slice (cutR ra k rc) (n - k) (rc - k) := hP 5 (by kernel_rfl)
      obtain rfl := hPh.1 (by decide)
      obtain ⟨W2, hrun, hf⟩ := HCLR.out _ HV2.out
      exact rop_clearG _ _ rfl e28 (hrun _) (wanted_none rfl) (hK0 _ _ (GLx.last rfl) ⟨(fun h => absurd h (by decide)), (fun _ => hf), hf.1.block b HV2.out.lt (fun e => HV2.out.neR b e rfl)⟩ trivial)
    · intro ac w' hF hPh hT
      rw [hF.setsG [23, 24, 25, 26, 27, 28] (by kernel_rfl)]
      simp only [List.foldl_cons, List.foldl_nil, List.setIfInBounds_toArray, List.set_cons_succ, List.set_cons_zero]
      generalize ac.eval (.tmp 23) = u23
      generalize ac.eval (.tmp 24) = u24
      generalize ac.eval (.tmp 25) = u25
      generalize ac.eval (.tmp 26) = u26
      generalize ac.eval (.tmp 27) = u27
      generalize ac.eval (.tmp 28) = u28
      clear  hT hF ac
      have hcl := hPh.2.1 rfl
      obtain ⟨W4, hW4⟩ : ∃ u, u = w' := ⟨_, rfl⟩
      subst hW4
      have hbn : ¬ (Value.slice ra n rc).ownBlock = some b := fun e => HV2.out.neR b e rfl
      have hb4 := hcl.1.block b HV2.out.lt hbn
      have c4 : W4.cell? ⟨b, 1284, none⟩ = some (.slice ra n rc) := (World.cell?_of_block (w := W) (a := ⟨b, 1284, none⟩) hb4).trans HV2.out.cRows
      have f4 : W4.frozen? ⟨b, 1284, none⟩ = false := (World.frozen?_of_block (w := W) (a := ⟨b, 1284, none⟩) hb4).trans (HV2.out.fr.fz _)
      have hvF := HV2.out.setRows HST2.out hcl.1 (.slice ra k k) (x.rows.take k) hcl.2 (fun g e => by cases ra with | none => cases e | some a => exact e) (by rw [List.length_take]; omega)
      obtain ⟨W5, hW5⟩ : ∃ u, u = W4.setCell ⟨b, 1284, none⟩ (.slice ra k k) := ⟨_, rfl⟩
      rw [← hW5] at hvF
      have ho5 : OnlyS S w W5 := by
        refine (OnlyS.of_below B2.out).trans (OnlyS.trans (v := W4) ⟨hcl.1.os, hcl.1.tape, hcl.1.output, hcl.1.size, fun j hj hs => hcl.1.block j hj fun e => hs (HV2.out.inr j e)⟩ ?_)
        rw [hW5]
        exact OnlyS.of_only ((Only.refl b W4).setCell 1284 _) HV2.out.inb
      have hF : Shd S b ⟨x.win, x.st, x.lvs, x.rows.take k, x.stn⟩ W5 := ⟨_, _, _, hvF⟩
      have hL := shLeft_any hF
      rw [show (ShR.rows ⟨x.win, x.st, x.lvs, x.rows.take k, x.stn⟩).length = k by rw [List.length_take, ← HN.out]; omega] at hL
      have HL := Lib.hid hL
      have HF := Lib.hid hF
      have HO := Lib.hid ho5
      have H5 := Lib.hid hW5
      clear hPh hcl hb4 hvF hW5 ho5 hF hL hbn HV2 B2
      go_upto_region 5 with (refine wpList_slice_runS rfl 58 (.tmp 33) none (some (.tmp 34)) (some (.tmp 35)) rfl (u := .slice ra n rc) (lo' := none) (hi' := some (.int .i64 (k : Int))) (mx' := some (.int .i64 (k : Int))) rfl rfl rfl rfl (HCUT.out _) ?_)
      change Code.wp _ _ _ _ (W4.setCell ⟨b, 1284, none⟩ (.slice ra k k))
      rw [← H5.out]
      clear H5 c4 f4
      go_wp2_with (go_at_call 25; (refine HL.out.mono ?_; rintro e w6 ⟨rfl, rfl⟩))
      go_ret
      exact ⟨rfl, HF.out, HO.out⟩
end Go.Proofs.YtollcdalokhjaaaDoor
/-! ## The statements' short and grown (scriniumlaw17); arguments that are slices of calls. -/
namespace Go.Proofs.YtollcdalokhjaaaDoor
open Go.ChangeShapes Go.WideShapes Go.ChangeAt Go.RowKit

set_option maxRecDepth 100000 in
theorem op_cells {H : Type} {enc : TypeId × Value → H} {W : World} {fuel : Nat} {cs : List Value} {x : DataW H × List MemPlace}
    (hf : DataW.trod enc Tryd.prog W 0 (fun _ => true) true fuel 40 cs = some x) : ∃ r : RecR, cs = recCs r ∧ RecOk r := by
  obtain ⟨xs, m, _, _, hl, hxl, hx⟩ := DataW.trod_struct Tryd.underlying40 hf
  have hl4 : cs.length = 4 := hl.trans (by kernel_rfl)
  match cs, hl4 with
  | [c0, c1, c2, c3], _ =>
    have g : ∀ i, i < 4 → ∃ y, xs[i]? = some y := fun i hi => ⟨xs[i]'(by rw [hxl]; exact hi), List.getElem?_eq_getElem _⟩
    obtain ⟨y0, e0⟩ := g 0 (by decide)
    obtain ⟨y1, e1⟩ := g 1 (by decide)
    obtain ⟨y2, e2⟩ := g 2 (by decide)
    obtain ⟨y3, e3⟩ := g 3 (by decide)
    have k0 : Tryd.prog.cellsOf 3 = 1 := by kernel_rfl
    have k3 : Tryd.prog.cellsOf 9 = 1 := by kernel_rfl
    have h0 : DataW.trod enc Tryd.prog W 0 (fun _ => true) true m 3 ([c0, c1, c2, c3].take (Tryd.prog.cellsOf 3)) = some y0 := by rw [← e0]; exact hx 0 _ rfl
    have h1 : DataW.trod enc Tryd.prog W 0 (fun _ => true) true m 3 ([c1, c2, c3].take (Tryd.prog.cellsOf 3)) = some y1 := by rw [← e1]; exact hx 1 _ rfl
    have h2 : DataW.trod enc Tryd.prog W 0 (fun _ => true) true m 3 ([c2, c3].take (Tryd.prog.cellsOf 3)) = some y2 := by rw [← e2]; exact hx 2 _ rfl
    have h3 : DataW.trod enc Tryd.prog W 0 (fun _ => true) true m 9 ([c3].take (Tryd.prog.cellsOf 9)) = some y3 := by rw [← e3]; exact hx 3 _ rfl
    rw [k0] at h0 h1 h2
    rw [k3] at h3
    simp only [List.take_succ_cons, List.take_zero] at h0 h1 h2 h3
    obtain ⟨z0, q0, _, w0⟩ := DataW.trod_int Tryd.underlying3 h0
    obtain ⟨z1, q1, _, w1⟩ := DataW.trod_int Tryd.underlying3 h1
    obtain ⟨z2, q2, _, w2⟩ := DataW.trod_int Tryd.underlying3 h2
    obtain ⟨z3, q3, _, w3⟩ := DataW.trod_string Tryd.underlying9 h3
    injection q0 with q0 _
    injection q1 with q1 _
    injection q2 with q2 _
    injection q3 with q3 _
    subst q0
    subst q1
    subst q2
    subst q3
    exact ⟨⟨z0, z1, z2, z3⟩, rfl, i64_bounds w0, i64_bounds w1, i64_bounds w2, w3⟩
set_option maxRecDepth 1000000 in
/-- A slice of calls. -/
theorem ops17_of {H : Type} {enc : TypeId × Value → H} {W : World} {a : Option Addr} {len cap : Nat} {d : DataW H} {ps : List MemPlace}
    (h : DataW.Trod enc Tryd.prog W 0 (fun _ => true) true 22 (.slice a len cap) d ps) : ∃ l, RowR W (.slice a len cap) l ∧ ∀ r ∈ l, RecOk r := by
  obtain ⟨fuel, hf⟩ := h
  have hf' : DataW.trod enc Tryd.prog W 0 (fun _ => true) true fuel 22 [.slice a len cap] = some (d, ps) := by simpa [Value.cells] using hf
  rcases DataW.trod_slice Tryd.underlying22 hf' with ⟨hcs, _⟩ | ⟨a', len', cap', elems, rest, n, _, hcs, _, _, hl, hm, hlen, hel, _, _⟩
  · simp at hcs
    obtain ⟨rfl, rfl, rfl⟩ := hcs
    exact ⟨[], RowR.nil _, fun r hr => by cases hr⟩
  · simp at hcs
    obtain ⟨rfl, rfl, rfl⟩ := hcs
    have k2 : Tryd.prog.cellsOf 40 = 4 := by kernel_rfl
    have each : ∀ i, i < len → ∃ cs, W.cells? 0 (a'.add (i * 4)) 4 = some cs ∧ ∃ y, DataW.trod enc Tryd.prog W 0 (fun _ => true) true n 40 cs = some y := by
      intro i hi
      have := hel i hi
      rw [k2, List.getElem?_eq_getElem (by omega)] at this
      obtain ⟨cs, h1, h2⟩ := Option.bind_eq_some_iff.1 this
      exact ⟨cs, h1, _, h2⟩
    have hplain : 0 < len → ∃ b off, a' = ⟨b, off, none⟩ ∧ b < W.heap.size := by
      intro hp
      obtain ⟨cs, h1, y, h2⟩ := each 0 hp
      have h3 := (World.cells?_some h1).2.2 0 (by decide)
      have hb := World.cells?_block h1 (by decide)
      have e0 : (a'.add (0 * 4)).add 0 = a' := by unfold Addr.add; simp
      rw [e0] at h3
      have e1 : (a'.add (0 * 4)).block = a'.block := by unfold Addr.add; simp
      rw [e1] at hb
      obtain ⟨b, off, spot⟩ := a'
      refine ⟨b, off, ?_, hb⟩
      cases spot with
      | none => rfl
      | some x =>
        obtain ⟨o, rfl, _⟩ := op_cells h2
        unfold World.cell? at h3
        split at h3 <;> simp_all [recCs]
    have op : ∀ i, i < len → ∃ r : RecR, RecOk r ∧ ∃ b off, a' = ⟨b, off, none⟩ ∧ b < W.heap.size ∧ W.cell? ⟨b, off + i * 4, none⟩ = some (.int .i64 r.win) ∧ W.cell? ⟨b, off + i * 4 + 1, none⟩ = some (.int .i64 r.idx) ∧ W.cell? ⟨b, off + i * 4 + 2, none⟩ = some (.int .i64 r.tim) ∧ W.cell? ⟨b, off + i * 4 + 3, none⟩ = some (.string r.pay) := by
      intro i hi
      obtain ⟨cs, h1, y, h2⟩ := each i hi
      obtain ⟨b, off, rfl, hb⟩ := hplain (by omega)
      obtain ⟨r, rfl, hok⟩ := op_cells h2
      have t0 := (World.cells?_some h1).2.2 0 (by decide)
      have t1 := (World.cells?_some h1).2.2 1 (by decide)
      have t2 := (World.cells?_some h1).2.2 2 (by decide)
      have t3 := (World.cells?_some h1).2.2 3 (by decide)
      rw [add_addR _ _ _ rfl] at t0 t1 t2 t3
      exact ⟨r, hok, b, off, rfl, hb, t0, t1, t2, t3⟩
    refine ⟨(List.range len).attach.map fun i => Classical.choose (op i.1 (List.mem_range.1 i.2)), ⟨some a', cap, by simp, by simp; unfold maxLen at hm; omega, fun j r hr => ?_⟩, fun r hr => ?_⟩
    · obtain ⟨hj, e⟩ := List.getElem?_eq_some_iff.1 hr
      have hj' : j < len := by simpa using hj
      obtain ⟨hok, b, off, ea, hb, hc⟩ := Classical.choose_spec (op j hj')
      simp only [List.getElem_map, List.getElem_attach, List.getElem_range] at e
      refine ⟨b, off, by rw [ea], hb, ?_⟩
      rw [← e]
      exact hc
    · obtain ⟨i, _, rfl⟩ := List.mem_map.1 hr
      exact (Classical.choose_spec (op i.1 (List.mem_range.1 i.2))).1
set_option maxRecDepth 1000000 in
theorem index_op (b off n cap k : Nat) (h : k < n) (w : World) : (Instr.indexAt 22 (.slice (some ⟨b, off, none⟩) n cap) (.int .i64 (k : Int))).run Tryd.prog w = .ok (.pointer (some ⟨b, off + k * 4, none⟩)) w := by
  go_simp
set_option maxRecDepth 1000000 in
theorem opFld (b o : Nat) (w : World) : (Instr.fieldAt 40 (.pointer (some ⟨b, o, none⟩)) 0).run Tryd.prog w = .ok (.pointer (some ⟨b, o, none⟩)) w ∧ (Instr.fieldAt 40 (.pointer (some ⟨b, o, none⟩)) 1).run Tryd.prog w = .ok (.pointer (some ⟨b, o + 1, none⟩)) w ∧
    (Instr.fieldAt 40 (.pointer (some ⟨b, o, none⟩)) 2).run Tryd.prog w = .ok (.pointer (some ⟨b, o + 2, none⟩)) w ∧ (Instr.fieldAt 40 (.pointer (some ⟨b, o, none⟩)) 3).run Tryd.prog w = .ok (.pointer (some ⟨b, o + 3, none⟩)) w := by
  refine ⟨?_, ?_, ?_, ?_⟩ <;> go_simp
theorem short17_any (s : ByteArray) (n : Nat) (z : Int) (hz : z = (n : Int)) (w : World) :
    Calls Tryd.prog 16 #[.string s, .int .i64 z] w fun e w' => e = .returned (.string (shortB s n)) ∧ w = w' := by
  subst hz
  unfold shortB
  by_cases h : n < s.size
  · rw [if_pos h]
    have hi : (n : Int) < (s.size : Int) := by omega
    have hn : (n : Int) ≤ (s.size : Int) := by omega
    go_enter Tryd.func16, Tryd.ntmps16
    go_wp2
    go_ret
    exact ⟨by simp, rfl⟩
  · rw [if_neg h]
    have hi : ¬ (n : Int) < (s.size : Int) := by omega
    go_enter Tryd.func16, Tryd.ntmps16
    go_wp2
    go_ret
    exact ⟨rfl, rfl⟩
/-- What grown makes of a call: a record. (A call's Kind, At, More, Text are named as a record's numbers and payload.) -/
def grR (win : Int) (i : Nat) (o : RecR) : RecR := ⟨win, (i : Int), o.idx % 1024, shortB o.pay 60⟩
def gr (win : Int) (l : List RecR) (k : Nat) : List RecR := (List.range k).map fun i => grR win i (l.getD i rec0)
def grX (win : Int) (l : List RecR) (k : Nat) : ShR := ⟨win, 0, (gr win l k).map lfR, gr win l k, st0⟩
theorem gr_length (win : Int) (l : List RecR) (k : Nat) : (gr win l k).length = k := by simp [gr]
theorem gr_lvs (win : Int) (l : List RecR) (k : Nat) : (grX win l k).lvs.length = k := by simp [grX, gr]
theorem gr_succ (win : Int) (l : List RecR) (k : Nat) : gr win l (k + 1) = gr win l k ++ [grR win k (l.getD k rec0)] := by simp [gr, List.range_succ]
theorem gr_add (win : Int) (l : List RecR) (k : Nat) : shAdd (grX win l k) ((l.getD k rec0).idx % 1024) (shortB (l.getD k rec0).pay 60) = grX win l (k + 1) := by
  have hr : addR (grX win l k) ((l.getD k rec0).idx % 1024) (shortB (l.getD k rec0).pay 60) = grR win k (l.getD k rec0) := by
    unfold addR grR
    rw [gr_lvs]
    rfl
  unfold shAdd
  rw [hr]
  unfold grX
  rw [gr_succ, List.map_append]
  rfl
theorem gr_all32 (win : Int) (l : List RecR) (k : Nat) : all32 (grX win l k).lvs := fun x hx => by
  obtain ⟨r, _, rfl⟩ := List.mem_map.1 hx
  exact Tree.leafH_length _
theorem gr_get (win : Int) (l : List RecR) (k i : Nat) (h : i < k) : (gr win l k)[i]? = some (grR win i (l.getD i rec0)) := by
  simp [gr, h]
theorem gr_addE (win : Int) (l : List RecR) (k : Nat) (hw : timB win = true) (hk : k < 4000) (tim : Int) (P : ByteArray) (ht : 0 ≤ tim ∧ tim ≤ 1125899906842624) (hP : P.size ≤ 2000) : addE (grX win l k) tim P = 0 := by
  unfold addE
  rw [if_neg (by simp [grX]), gr_lvs, if_neg (by omega)]
  have := (timB_iff win).1 hw
  exact chk_of ⟨this, by omega, ht, hP⟩
theorem gr_at (win : Int) (l : List RecR) (k i : Nat) (h : i < k) : (grX win l k).lvs[i]? = some (lfR (grR win i (l.getD i rec0))) := by
  simp [grX, gr, h]

set_option maxHeartbeats 3200000 in
set_option maxRecDepth 100000 in
theorem grown_any (z : Int) (v : Value) (l : List RecR) (w : World) (hv : RowR w v l) (hK : KT w) : Calls Tryd.prog 9 #[.int .i64 z, v] w fun e w' => e = .returned (.pointer (some ⟨w.heap.size, 0, none⟩)) ∧ Shd (fun j => w.heap.size ≤ j) w.heap.size (grX (z % 1024) l (min 12 l.length)) w' ∧ Below w.heap.size w w' := by
  have hbit : bits .and .i64 z 1023 = z % 1024 := and_maskL z 10 1023 (by decide) (by decide)
  obtain ⟨win, hwin⟩ : ∃ win, win = z % 1024 := ⟨_, rfl⟩
  have hwr : 0 ≤ win ∧ win < 1024 := by omega
  have htm : timB win = true := (timB_iff win).2 (by omega)
  rw [← hwin] at hbit ⊢
  have HNEW := Lib.hid (shNew_any win htm w hK)
  obtain ⟨B, hB⟩ : ∃ B, B = w.heap.size := ⟨_, rfl⟩
  rw [← hB] at HNEW ⊢
  obtain ⟨a, cap, rfl⟩ := hv.slice
  obtain ⟨n, hn⟩ : ∃ n, n = l.length := ⟨_, rfl⟩
  rw [← hn] at hv ⊢
  have HL := Lib.hid hv
  have HN := Lib.hid hn
  have HBW := Lib.hid hB
  have HTM := Lib.hid htm
  have HK := Lib.hid hK
  clear hwin hv hn hB htm hK hwr
  go_enter Tryd.func9, Tryd.ntmps9
  go_upto_region 5 with (go_at_call 32; (refine HNEW.out.mono ?_; rintro e w1 ⟨rfl, hs1, b1⟩))
  clear hbit
  go_loopw [6, 7, 8] (fun s6 _ _ wr => ∃ k : Nat, k ≤ 12 ∧ k ≤ n ∧ s6 = .int .i64 k ∧ Shd (fun j => B ≤ j) B (grX win l k) wr ∧ Below B w wr) (fun s6 _ _ _ => 12 - (intOf s6).toNat)
  case atStart => exact ⟨0, by omega, by omega, rfl, hs1, b1⟩
  case round =>
    obtain ⟨k, hk12, hkn', rfl, hs, hb⟩ := hrel
    have HS := Lib.hid hs
    have HB := Lib.hid hb
    clear hs hb hs1 b1
    go_upto_region 5 with fail
    go_cut [21] (fun sc wx => wr = wx ∧ sc = .bool (decide (k < n ∧ k < 12)))
    case first =>
      by_cases hlt : k < n
      · have hlt' : (k : Int) < (n : Int) := by omega
        by_cases h12 : k < 12
        · have h12' : (k : Int) < 12 := by omega
          go_wp2
          go_meet
          case rel => exact ⟨rfl, by simp [hlt, h12]⟩
        · have h12' : ¬ (k : Int) < 12 := by omega
          go_wp2
          go_meet
          case rel => exact ⟨rfl, by simp [h12]⟩
      · have hlt' : ¬ (k : Int) < (n : Int) := by omega
        go_wp2
        go_meet
        case rel => exact ⟨rfl, by simp [hlt]⟩
    case rest =>
    obtain ⟨rfl, rfl⟩ := hcut
    by_cases hc : k < n ∧ k < 12
    · rw [decide_eq_true hc]
      obtain ⟨hkn, h12⟩ := hc
      have hw1 := IntWalk.i64_in ((k : Int) + 1) (by omega)
      obtain ⟨r, hr⟩ : ∃ r, l[k]? = some r := ⟨l[k]'(by rw [← HN.out]; exact hkn), List.getElem?_eq_getElem _⟩
      have hrd : l.getD k rec0 = r := by rw [List.getD_eq_getElem?_getD, hr]; rfl
      obtain ⟨b0, off, rfl, hbl0, _, c1, _, c3⟩ := HL.out.at k r hr
      have hbl : b0 < B := by rw [HBW.out]; exact hbl0
      replace c1 := (HB.out.cell (p := ⟨b0, _, none⟩) hbl).trans c1
      replace c3 := (HB.out.cell (p := ⟨b0, _, none⟩) hbl).trans c3
      have hgr := gr_add win l k
      rw [hrd] at hgr
      obtain ⟨knd, idx, mor, pay⟩ := r
      simp only at c1 c3 hgr
      obtain ⟨P, hP⟩ : ∃ P, P = shortB pay 60 := ⟨_, rfl⟩
      obtain ⟨tm, htm⟩ : ∃ tm, tm = idx % 1024 := ⟨_, rfl⟩
      rw [← hP, ← htm] at hgr
      have HSH : Hid (∀ u, Calls Tryd.prog 16 #[.string pay, .int .i64 60] u fun e w' => e = .returned (.string P) ∧ u = w') := Lib.hid fun u => by rw [hP]; exact short17_any pay 60 60 rfl u
      have HAND : Hid (∀ u, (binOp .and 3 (.int .i64 idx) (.int .i64 1023)).run Tryd.prog u = .ok (.int .i64 tm) u) := Lib.hid fun u => by
        have hq : bits .and .i64 idx 1023 = tm := by rw [htm]; exact and_maskL idx 10 1023 (by decide) (by decide)
        clear hgr hP htm c1 c3
        go_simp
      have hPs : P.size ≤ 2000 := by rw [hP]; have := shortB_size pay 60; omega
      have hE := gr_addE win l k HTM.out (by omega) tm P (by omega) hPs
      have HADD : Hid (∀ u, Below wr.heap.size wr u → Calls Tryd.prog 15 #[.pointer (some ⟨B, 0, none⟩), .int .i64 tm, .string P] u fun e w' => e = .returned (.tuple #[.int .i64 (k : Int), .int .i64 0]) ∧ Shd (fun j => B ≤ j) B (grX win l (k + 1)) w' ∧ Below B u w') := Lib.hid fun u hu => by
        have hsz : B ≤ u.heap.size := by have := HB.out.size; have := hu.size; have := HBW.out; omega
        have := shAdd_ok (HS.out.old hu) tm P hE (fun j hj => Nat.le_trans hsz hj) ((HK.out.old (HBW.out ▸ HB.out)).old hu)
        rw [gr_lvs, hgr] at this
        exact this.mono fun e w' ⟨h1, h2, h3⟩ => ⟨h1, h2, h3.below (fun _ h => h) hsz⟩
      clear hr hrd hP htm hPs hE hgr hbl0
      go_upto_region 7 with fail
      try simp only [Act.put]
      refine wp_region_ph (Lx := GLx 1) [RXP.is (.pointer (some ⟨B, 0, none⟩)), RXP.is (.slice (some ⟨b0, off, none⟩) n cap), RXP.is (.int .i64 (k : Int)), RXP.is (.pointer (some ⟨b0, off + k * 4, none⟩)), RXP.is (.pointer (some ⟨b0, off + k * 4 + 1, none⟩)), RXP.is (.int .i64 idx), RXP.is (.int .i64 tm), RXP.is (.slice (some ⟨b0, off, none⟩) n cap), RXP.is (.int .i64 (k : Int)), RXP.is (.pointer (some ⟨b0, off + k * 4, none⟩)), RXP.is (.pointer (some ⟨b0, off + k * 4 + 3, none⟩)), RXP.is (.string pay), RXP.is (.string P), RXP.is (.tuple #[.int .i64 (k : Int), .int .i64 0]), RXP.is (.tuple #[.int .i64 (k : Int), .int .i64 0]), RXP.is (.int .i64 (k : Int)), RXP.is (.int .i64 0), RXP.is (.int .i64 (k : Int)), RXP.is (.int .i64 0)] [13] (fun i w' => Below B wr w' ∧ (i < 1 → Below wr.heap.size wr w') ∧ (i = 1 → Shd (fun j => B ≤ j) B (grX win l (k + 1)) w')) (by kernel_rfl) (by kernel_rfl) (by kernel_rfl) (by kernel_rfl) (by kernel_rfl) (⟨below_drew (Below.refl _ _), fun _ => below_drew (Below.refl _ _), (fun h => absurd h (by decide))⟩) ⟨?_, ?_, ?_, ?_, ?_, ?_, ?_, ?_, ?_, ?_, ?_, ?_, ?_, ?_, ?_, ?_, ?_, ?_, ?_, trivial⟩ ?_
      · intro ac w' ph hF hPh hlt hP hU K hK0
        have e5 : ac.eval (.tmp 5) = .pointer (some ⟨B, 0, none⟩) := hF.at 5 (by kernel_rfl)
        exact rop_move _ rfl e5 (wanted_none rfl) (hK0 _ _ GLx.same hPh rfl)
      · intro ac w' ph hF hPh hlt hP hU K hK0
        have e1 : ac.eval (.tmp 1) = .slice (some ⟨b0, off, none⟩) n cap := hF.at 1 (by kernel_rfl)
        exact rop_move _ rfl e1 (wanted_none rfl) (hK0 _ _ GLx.same hPh rfl)
      · intro ac w' ph hF hPh hlt hP hU K hK0
        have e6 : ac.eval (.tmp 6) = .int .i64 (k : Int) := hF.at 6 (by kernel_rfl)
        exact rop_move _ rfl e6 (wanted_none rfl) (hK0 _ _ GLx.same hPh rfl)
      · intro ac w' ph hF hPh hlt hP hU K hK0
        have e26 : ac.eval (.tmp 26) = .slice (some ⟨b0, off, none⟩) n cap := hP 1 (by kernel_rfl)
        have e27 : ac.eval (.tmp 27) = .int .i64 (k : Int) := hP 2 (by kernel_rfl)
        exact rop_idx _ _ _ rfl e26 e27 (index_op b0 off n cap k hkn w') (wanted_none rfl) (hK0 _ _ GLx.same hPh rfl)
      · intro ac w' ph hF hPh hlt hP hU K hK0
        have e28 : ac.eval (.tmp 28) = .pointer (some ⟨b0, off + k * 4, none⟩) := hP 3 (by kernel_rfl)
        exact rop_fld _ _ _ rfl e28 ((opFld b0 (off + k * 4) _).2.1) (wanted_none rfl) (hK0 _ _ GLx.same hPh rfl)
      · intro ac w' ph hF hPh hlt hP hU K hK0
        have e29 : ac.eval (.tmp 29) = .pointer (some ⟨b0, off + k * 4 + 1, none⟩) := hP 4 (by kernel_rfl)
        exact rop_ld _ _ rfl e29 (load_intR ((hPh.1.cell (p := ⟨b0, _, none⟩) hbl).trans c1)) (wanted_none rfl) (hK0 _ _ GLx.same hPh rfl)
      · intro ac w' ph hF hPh hlt hP hU K hK0
        have e30 : ac.eval (.tmp 30) = .int .i64 idx := hP 5 (by kernel_rfl)
        exact rop_bin _ _ _ _ _ rfl e30 rfl (guard_int _ _ _ _ _ _ _ w') (HAND.out w') (wanted_none rfl) (hK0 _ _ GLx.same hPh rfl)
      · intro ac w' ph hF hPh hlt hP hU K hK0
        have e1 : ac.eval (.tmp 1) = .slice (some ⟨b0, off, none⟩) n cap := hF.at 1 (by kernel_rfl)
        exact rop_move _ rfl e1 (wanted_none rfl) (hK0 _ _ GLx.same hPh rfl)
      · intro ac w' ph hF hPh hlt hP hU K hK0
        have e6 : ac.eval (.tmp 6) = .int .i64 (k : Int) := hF.at 6 (by kernel_rfl)
        exact rop_move _ rfl e6 (wanted_none rfl) (hK0 _ _ GLx.same hPh rfl)
      · intro ac w' ph hF hPh hlt hP hU K hK0
        have e32 : ac.eval (.tmp 32) = .slice (some ⟨b0, off, none⟩) n cap := hP 7 (by kernel_rfl)
        have e33 : ac.eval (.tmp 33) = .int .i64 (k : Int) := hP 8 (by kernel_rfl)
        exact rop_idx _ _ _ rfl e32 e33 (index_op b0 off n cap k hkn w') (wanted_none rfl) (hK0 _ _ GLx.same hPh rfl)
      · intro ac w' ph hF hPh hlt hP hU K hK0
        have e34 : ac.eval (.tmp 34) = .pointer (some ⟨b0, off + k * 4, none⟩) := hP 9 (by kernel_rfl)
        exact rop_fld _ _ _ rfl e34 ((opFld b0 (off + k * 4) _).2.2.2) (wanted_none rfl) (hK0 _ _ GLx.same hPh rfl)
      · intro ac w' ph hF hPh hlt hP hU K hK0
        have e35 : ac.eval (.tmp 35) = .pointer (some ⟨b0, off + k * 4 + 3, none⟩) := hP 10 (by kernel_rfl)
        exact rop_ld _ _ rfl e35 (load_strR ((hPh.1.cell (p := ⟨b0, _, none⟩) hbl).trans c3)) (wanted_none rfl) (hK0 _ _ GLx.same hPh rfl)
      · intro ac w' ph hF hPh hlt hP hU K hK0
        have e36 : ac.eval (.tmp 36) = .string pay := hP 11 (by kernel_rfl)
        refine rop_call 16 _ _ rfl #[.string pay, .int .i64 60] (by simp [e36, eval_const]) (by kernel_rfl) (wanted_none rfl) ?_
        refine (HSH.out w').mono ?_
        rintro e w2 ⟨rfl, rfl⟩
        exact ⟨_, rfl, hK0 _ _ GLx.same hPh rfl⟩
      · intro ac w' ph hF hPh hlt hP hU K hK0
        obtain rfl : ph = 0 := (hlt 0 13 rfl).1 rfl
        have e25 : ac.eval (.tmp 25) = .pointer (some ⟨B, 0, none⟩) := hP 0 (by kernel_rfl)
        have e31 : ac.eval (.tmp 31) = .int .i64 tm := hP 6 (by kernel_rfl)
        have e37 : ac.eval (.tmp 37) = .string P := hP 12 (by kernel_rfl)
        refine rop_call 15 _ _ rfl #[.pointer (some ⟨B, 0, none⟩), .int .i64 tm, .string P] (by simp [e25, e31, e37]) (by kernel_rfl) (wanted_none rfl) ?_
        refine (HADD.out w' (hPh.2.1 (by decide))).mono ?_
        rintro e w2 ⟨rfl, hs, ho⟩
        exact ⟨_, rfl, hK0 _ _ (GLx.last rfl) ⟨hPh.1.trans ho, (fun h => absurd h (by decide)), fun _ => hs⟩ rfl⟩
      · intro ac w' ph hF hPh hlt hP hU K hK0
        have e38 : ac.eval (.tmp 38) = .tuple #[.int .i64 (k : Int), .int .i64 0] := hP 13 (by kernel_rfl)
        exact rop_move _ rfl e38 (wanted_none rfl) (hK0 _ _ GLx.same hPh rfl)
      · intro ac w' ph hF hPh hlt hP hU K hK0
        have e24 : ac.eval (.tmp 24) = .tuple #[.int .i64 (k : Int), .int .i64 0] := hP 14 (by kernel_rfl)
        exact rop_extractS _ _ rfl e24 rfl (wanted_none rfl) (hK0 _ _ GLx.same hPh rfl)
      · intro ac w' ph hF hPh hlt hP hU K hK0
        have e24 : ac.eval (.tmp 24) = .tuple #[.int .i64 (k : Int), .int .i64 0] := hP 14 (by kernel_rfl)
        exact rop_extractS _ _ rfl e24 rfl (wanted_none rfl) (hK0 _ _ GLx.same hPh rfl)
      · intro ac w' ph hF hPh hlt hP hU K hK0
        have e39 : ac.eval (.tmp 39) = .int .i64 (k : Int) := hP 15 (by kernel_rfl)
        exact rop_assign _ rfl e39 (wanted_none rfl) (hK0 _ _ GLx.same hPh rfl)
      · intro ac w' ph hF hPh hlt hP hU K hK0
        have e40 : ac.eval (.tmp 40) = .int .i64 0 := hP 16 (by kernel_rfl)
        exact rop_assign _ rfl e40 (wanted_none rfl) (hK0 _ _ GLx.same hPh rfl)
      · intro ac w' hF hPh hT
        have e7 : ac.eval (.tmp 7) = .int .i64 (k : Int) := hT 17 (by decide)
        have e8 : ac.eval (.tmp 8) = .int .i64 0 := hT 18 (by decide)
        rw [hF.setsG [25, 26, 27, 28, 29, 30, 31, 32, 33, 34, 35, 36, 37, 38, 24, 39, 40, 7, 8] (by kernel_rfl)]
        simp only [List.foldl_cons, List.foldl_nil, List.setIfInBounds_toArray, List.set_cons_succ, List.set_cons_zero, e7, e8]
        generalize ac.eval (.tmp 25) = u25
        generalize ac.eval (.tmp 26) = u26
        generalize ac.eval (.tmp 27) = u27
        generalize ac.eval (.tmp 28) = u28
        generalize ac.eval (.tmp 29) = u29
        generalize ac.eval (.tmp 30) = u30
        generalize ac.eval (.tmp 31) = u31
        generalize ac.eval (.tmp 32) = u32
        generalize ac.eval (.tmp 33) = u33
        generalize ac.eval (.tmp 34) = u34
        generalize ac.eval (.tmp 35) = u35
        generalize ac.eval (.tmp 36) = u36
        generalize ac.eval (.tmp 37) = u37
        generalize ac.eval (.tmp 38) = u38
        generalize ac.eval (.tmp 24) = u24
        generalize ac.eval (.tmp 39) = u39
        generalize ac.eval (.tmp 40) = u40
        clear e7 e8 hT hF ac
        have hs2 := hPh.2.2 rfl
        have hb2 := HB.out.trans hPh.1
        clear hPh c1 c3 HADD HSH HAND
        go_wp2
        go_roundw
        case rel => exact ⟨k + 1, by omega, by omega, by go_num, hs2, hb2⟩
        case measure => simp [intOf]; omega
    · rw [decide_eq_false hc]
      have hkm : min 12 n = k := by omega
      have HF : Hid (Shd (fun j => B ≤ j) B (grX win l (min 12 n)) wr) := Lib.hid (by rw [hkm]; exact HS.out)
      clear hkm
      go_wp2
      go_ret
      exact ⟨rfl, HF.out, HB.out⟩
end Go.Proofs.YtollcdalokhjaaaDoor
