/-
  Several texts in one (ShdFn, ShdTell, ShdMake).
-/
import Derived.Test.YtollcdalokhjaaaDoorMShdA
import Derived.Test.YtollcdalokhjaaaDoorMSelB
import Derived.Test.YtollcdalokhjaaaDoorMPathB
import Derived.Lib.SliceRun
/-! ## Package shard: what a shard tells: Window, State, Count, Left, Root, Leaves, Rows; freeze. -/
namespace Go.Proofs.YtollcdalokhjaaaDoor
open Go.RowKit

set_option maxRecDepth 1000000 in
theorem fld_sh (b : Nat) (w : World) : (Instr.fieldAt 68 (.pointer (some ⟨b, 0, none⟩)) 0).run Tryd.prog w = .ok (.pointer (some ⟨b, 0, none⟩)) w ∧ (Instr.fieldAt 68 (.pointer (some ⟨b, 0, none⟩)) 1).run Tryd.prog w = .ok (.pointer (some ⟨b, 1, none⟩)) w ∧
    (Instr.fieldAt 68 (.pointer (some ⟨b, 0, none⟩)) 2).run Tryd.prog w = .ok (.pointer (some ⟨b, 2, none⟩)) w ∧ (Instr.fieldAt 68 (.pointer (some ⟨b, 0, none⟩)) 3).run Tryd.prog w = .ok (.pointer (some ⟨b, 3, none⟩)) w ∧
    (Instr.fieldAt 68 (.pointer (some ⟨b, 0, none⟩)) 4).run Tryd.prog w = .ok (.pointer (some ⟨b, 1284, none⟩)) w ∧ (Instr.fieldAt 68 (.pointer (some ⟨b, 0, none⟩)) 5).run Tryd.prog w = .ok (.pointer (some ⟨b, 1285, none⟩)) w := by
  refine ⟨?_, ?_, ?_, ?_, ?_, ?_⟩ <;> go_simp

theorem shWindow_nil (w : World) : Calls Tryd.prog 28 #[.pointer none] w fun e w' => e = .returned (.int .i64 (-1)) ∧ w = w' := by
  go_enter Tryd.func28, Tryd.ntmps28
  go_wp2
  go_ret
  exact ⟨rfl, rfl⟩
theorem shState_nil (w : World) : Calls Tryd.prog 31 #[.pointer none] w fun e w' => e = .returned (.int .i64 0) ∧ w = w' := by
  go_enter Tryd.func31, Tryd.ntmps31
  go_wp2
  go_ret
  exact ⟨rfl, rfl⟩
theorem shCount_nil (w : World) : Calls Tryd.prog 10 #[.pointer none] w fun e w' => e = .returned (.int .i64 0) ∧ w = w' := by
  go_enter Tryd.func10, Tryd.ntmps10
  go_wp2
  go_ret
  exact ⟨rfl, rfl⟩
theorem shLeft_nil (w : World) : Calls Tryd.prog 25 #[.pointer none] w fun e w' => e = .returned (.int .i64 0) ∧ w = w' := by
  go_enter Tryd.func25, Tryd.ntmps25
  go_wp2
  go_ret
  exact ⟨rfl, rfl⟩
theorem shLeaves_nil (w : World) : Calls Tryd.prog 11 #[.pointer none] w fun e w' => e = .returned (.slice none 0 0) ∧ w = w' := by
  go_enter Tryd.func11, Tryd.ntmps11
  go_wp2
  go_ret
  exact ⟨rfl, rfl⟩
theorem shRows_nil (w : World) : Calls Tryd.prog 24 #[.pointer none] w fun e w' => e = .returned (.slice none 0 0) ∧ w = w' := by
  go_enter Tryd.func24, Tryd.ntmps24
  go_wp2
  go_ret
  exact ⟨rfl, rfl⟩
theorem shWindow_any {S : Nat → Prop} {b : Nat} {x : ShR} {w : World} (h : Shd S b x w) : Calls Tryd.prog 28 #[.pointer (some ⟨b, 0, none⟩)] w fun e w' => e = .returned (.int .i64 x.win) ∧ w = w' := by
  obtain ⟨vl, vr, Q, h⟩ := h
  have c0 := h.cWin
  clear h
  go_enter Tryd.func28, Tryd.ntmps28
  go_wp2
  go_ret
  exact ⟨rfl, rfl⟩
theorem shState_any {S : Nat → Prop} {b : Nat} {x : ShR} {w : World} (h : Shd S b x w) : Calls Tryd.prog 31 #[.pointer (some ⟨b, 0, none⟩)] w fun e w' => e = .returned (.int .i64 x.st) ∧ w = w' := by
  obtain ⟨vl, vr, Q, h⟩ := h
  have c0 := h.cSt
  clear h
  go_enter Tryd.func31, Tryd.ntmps31
  go_wp2
  go_ret
  exact ⟨rfl, rfl⟩
theorem shCount_any {S : Nat → Prop} {b : Nat} {x : ShR} {w : World} (h : Shd S b x w) : Calls Tryd.prog 10 #[.pointer (some ⟨b, 0, none⟩)] w fun e w' => e = .returned (.int .i64 (x.lvs.length : Int)) ∧ w = w' := by
  obtain ⟨vl, vr, Q, h⟩ := h
  have c0 := h.cLvs
  have hs := h.ol.sums.slice
  obtain ⟨va, cap, rfl, -⟩ := hs
  clear h
  generalize x.lvs.length = n at *
  go_enter Tryd.func10, Tryd.ntmps10
  go_wp2
  go_ret
  exact ⟨rfl, rfl⟩
theorem shLeft_any {S : Nat → Prop} {b : Nat} {x : ShR} {w : World} (h : Shd S b x w) : Calls Tryd.prog 25 #[.pointer (some ⟨b, 0, none⟩)] w fun e w' => e = .returned (.int .i64 (x.rows.length : Int)) ∧ w = w' := by
  obtain ⟨vl, vr, Q, h⟩ := h
  have c0 := h.cRows
  have hs := h.pr.slice
  obtain ⟨va, cap, rfl⟩ := hs
  clear h
  generalize x.rows.length = n at *
  go_enter Tryd.func25, Tryd.ntmps25
  go_wp2
  go_ret
  exact ⟨rfl, rfl⟩
set_option maxHeartbeats 1600000 in
set_option maxRecDepth 100000 in
theorem shLeaves_any {S : Nat → Prop} {b : Nat} {x : ShR} {w : World} (h : Shd S b x w) : Calls Tryd.prog 11 #[.pointer (some ⟨b, 0, none⟩)] w fun e w' => ∃ v', e = .returned v' ∧ OwnS w.heap.size w' v' x.lvs ∧ Below w.heap.size w w' := by
  obtain ⟨vl, vr, Q, h⟩ := h
  have c0 := h.cLvs
  have HC := Lib.hid (sclone_any vl x.lvs w h.ol.sums (by have := h.most; omega))
  obtain ⟨va, cap, rfl, -⟩ := h.ol.sums.slice
  clear h
  generalize x.lvs = L at *
  go_enter Tryd.func11, Tryd.ntmps11
  go_wp2_with (go_at_call 33; (refine HC.out.mono ?_; rintro e w2 ⟨v2, rfl, ho, hb⟩))
  go_ret
  exact ⟨_, rfl, ho, hb⟩
set_option maxHeartbeats 1600000 in
set_option maxRecDepth 100000 in
theorem shRows_any {S : Nat → Prop} {b : Nat} {x : ShR} {w : World} (h : Shd S b x w) : Calls Tryd.prog 24 #[.pointer (some ⟨b, 0, none⟩)] w fun e w' => ∃ v', e = .returned v' ∧ OwnR w.heap.size w' v' x.rows ∧ Below w.heap.size w w' := by
  obtain ⟨vl, vr, Q, h⟩ := h
  have c0 := h.cRows
  have HC := Lib.hid (rclone_any vr x.rows w h.pr (by have := h.most; have := h.rle; omega))
  obtain ⟨va, cap, rfl⟩ := h.pr.slice
  clear h
  generalize x.rows = L at *
  go_enter Tryd.func24, Tryd.ntmps24
  go_wp2_with (go_at_call 49; (refine HC.out.mono ?_; rintro e w2 ⟨v2, rfl, ho, hb⟩))
  go_ret
  exact ⟨_, rfl, ho, hb⟩
theorem rootI_any {T : TypeId} {pre post : List Value} {o b : Nat} {l : Hs} {Q : Hs} {w : World} (h : FrI T pre post o b l.length Q w) (hp : Q.take (Tree.ones l.length) = Tree.peaks l) (hl : l.length ≤ 1000000) (hK : KT w) :
    Calls Tryd.prog 36 #[.pointer (some ⟨b, o, none⟩)] w fun e w' => e = .returned (sumV (Tree.root l)) ∧ Below w.heap.size w w' := by
  rw [← Tree.rootP_peaks l.length l (Nat.le_refl _), ← hp]
  have h40 := Tree.ones_most l.length (by omega)
  exact froot_gen _ _ w (fun u hu => fpeaksI_any T pre post o b l.length Q u (h.old' hu) (by omega)) (by rw [List.length_take]; omega) (h.2.1.take _) hK

set_option maxHeartbeats 1600000 in
set_option maxRecDepth 100000 in
theorem shRoot_any {S : Nat → Prop} {b : Nat} {x : ShR} {w : World} (h : Shd S b x w) (hK : KT w) : Calls Tryd.prog 13 #[.pointer (some ⟨b, 0, none⟩)] w fun e w' => e = .returned (sumV (Tree.root x.lvs)) ∧ Below w.heap.size w w' := by
  obtain ⟨D, hD⟩ : ∃ D, D = (Tree.root x.lvs) := ⟨_, rfl⟩
  have hDl : D.length = 32 := by rw [hD]; exact Tree.root_length _ (by obtain ⟨vl, vr, Q, h⟩ := h; exact h.l32)
  rw [← hD]
  have HDl := Lib.hid hDl
  obtain ⟨w0, hw0⟩ : ∃ w0, w0 = w.alloc zSum := ⟨_, rfl⟩
  have b0 : Below w.heap.size w w0 := by rw [hw0]; exact (Below.refl _ _).alloc (Nat.le_refl _) _
  have z0 : w0.heap[w.heap.size]? = some (.cells ((List.replicate 32 (0 : UInt8)).map u8V).toArray 33 (0, 0)) := by rw [hw0]; exact heap_alloc_last _ _
  have Hz0 := Lib.hid z0
  have l0 : w.heap.size < w0.heap.size := by rw [hw0]; simp
  have hs := h.old b0
  obtain ⟨vl, vr, Q, h'⟩ := hs
  have hc := rootI_any h'.fr h'.pk (by have := h'.most; omega) (hK.old b0)
  clear h'
  rw [← hD] at hc
  have HC := Lib.hid hc
  clear hD hDl z0 hc h hK
  go_enter Tryd.func13, Tryd.ntmps13
  go_upto_region 1 with (fail)
  change Code.wp _ _ _ _ (w.alloc zSum)
  rw [← hw0]
  clear hw0
  go_wp2_with (first
    | (go_at_call 36; ((with_reducible refine HC.out.mono ?_); rintro e w2 ⟨rfl, b2⟩; have z2 := Lib.hid ((b2.block _ l0).trans Hz0.out)))
    | refine wpList_store_mid rfl 33 (.tmp 2) (.tmp 9) rfl w.heap.size 0 (D.map u8V).toArray rfl rfl (sum_there z2.out HDl.out) (sum_info HDl.out) (sum_one D) ?_)
  exact bodyPost_ret (v := sumV D) (results_cell (t := 2) (ty := 33) (b := w.heap.size) (cs := D.map u8V) rfl _ _ _ rfl (sum_range z2.out HDl.out) Tryd.underlying33 rfl (sum_info' HDl.out)) rfl ⟨rfl, below_setCells (Nat.le_refl _) _ _ _ (below_step b0 (Nat.le_refl _) b2)⟩
set_option maxHeartbeats 1600000 in
set_option maxRecDepth 100000 in
theorem shRoot_nil (w : World) (hK : KT w) : Calls Tryd.prog 13 #[.pointer none] w fun e w' => e = .returned (sumV Tree.empty) ∧ Below w.heap.size w w' := by
  obtain ⟨D, hD⟩ : ∃ D, D = Tree.empty := ⟨_, rfl⟩
  have hDl : D.length = 32 := by rw [hD]; exact Tree.empty_length
  rw [← hD]
  have HDl := Lib.hid hDl
  obtain ⟨w0, hw0⟩ : ∃ w0, w0 = w.alloc zSum := ⟨_, rfl⟩
  have b0 : Below w.heap.size w w0 := by rw [hw0]; exact (Below.refl _ _).alloc (Nat.le_refl _) _
  have z0 : w0.heap[w.heap.size]? = some (.cells ((List.replicate 32 (0 : UInt8)).map u8V).toArray 33 (0, 0)) := by rw [hw0]; exact heap_alloc_last _ _
  have Hz0 := Lib.hid z0
  have l0 : w.heap.size < w0.heap.size := by rw [hw0]; simp
  have hc := leafEmpty_any w0 (hK.old b0)
  rw [← hD] at hc
  have HC := Lib.hid hc
  clear hD hDl z0 hc hK
  go_enter Tryd.func13, Tryd.ntmps13
  go_upto_region 1 with (fail)
  change Code.wp _ _ _ _ (w.alloc zSum)
  rw [← hw0]
  clear hw0
  go_wp2_with (first
    | (go_at_call 35; ((with_reducible refine HC.out.mono ?_); rintro e w2 ⟨rfl, b2⟩; have z2 := Lib.hid ((b2.block _ l0).trans Hz0.out)))
    | refine wpList_store_mid rfl 33 (.tmp 2) (.tmp 5) rfl w.heap.size 0 (D.map u8V).toArray rfl rfl (sum_there z2.out HDl.out) (sum_info HDl.out) (sum_one D) ?_)
  exact bodyPost_ret (v := sumV D) (results_cell (t := 2) (ty := 33) (b := w.heap.size) (cs := D.map u8V) rfl _ _ _ rfl (sum_range z2.out HDl.out) Tryd.underlying33 rfl (sum_info' HDl.out)) rfl ⟨rfl, below_setCells (Nat.le_refl _) _ _ _ (below_step b0 (Nat.le_refl _) b2)⟩
end Go.Proofs.YtollcdalokhjaaaDoor
/-! ## Package shard: freeze, Close, Freeze, Stone, Prune, Get. -/
namespace Go.Proofs.YtollcdalokhjaaaDoor
open Go.RowKit

def rec0 : RecR := ⟨0, 0, 0, ⟨#[]⟩⟩
theorem info_rec4 : (Tryd.prog.info? 55).map (fun i => (i.zero, i.size)) = some (some (.agg (recCs rec0).toArray), 4) := by kernel_rfl
theorem one_rec {f : RecR} : (recCs f).toArray.all (·.oneCell') = true := all_oneCell_toArray (fun x hx => by
  simp only [recCs, List.mem_cons, List.not_mem_nil, or_false] at hx
  rcases hx with rfl | rfl | rfl | rfl <;> rfl)
theorem shFz_root {x : ShR} (h : all32 x.lvs) : (shFz x).root.length = 32 := Tree.root_length _ h
theorem load_slS {b o : Nat} {a : Option Addr} {n c : Nat} {w : World} (h : w.cell? ⟨b, o, none⟩ = some (.slice a n c)) : (Instr.loadAt 27 (.pointer (some ⟨b, o, none⟩))).run Tryd.prog w = .ok (.slice a n c) w := by
  go_simp
theorem load_slR {b o : Nat} {a : Option Addr} {n c : Nat} {w : World} (h : w.cell? ⟨b, o, none⟩ = some (.slice a n c)) : (Instr.loadAt 58 (.pointer (some ⟨b, o, none⟩))).run Tryd.prog w = .ok (.slice a n c) w := by
  go_simp
theorem built_fz3 (a c : Int) (D : List UInt8) (hD : D.length = 32) : Tryd.prog.built 44 [(0, .int .i64 a), (1, .int .i64 c), (2, sumV D)] = some (fzCs ⟨a, c, D⟩).toArray := by
  have h0 : Tryd.prog.built 44 [(0, .int .i64 a), (1, .int .i64 c), (2, sumV D)] = Instr.fill (fun i => (#[(0, 1), (1, 1), (2, 32)] : Array (Nat × Nat))[i]?) (fzCs fz0).toArray [(0, .int .i64 a), (1, .int .i64 c), (2, sumV D)] := by kernel_rfl
  refine h0.trans ?_
  rw [part_one 0 0 (.int .i64 a) _ _ _ rfl rfl (by decide)]
  rw [part_one 1 1 (.int .i64 c) _ _ _ rfl rfl (by simp [fzCs, fz0, z32])]
  unfold sumV
  rw [fill_one _ _ 2 2 (D.map u8V) _ (by rw [List.length_map, hD]; rfl) (by rw [List.length_map, hD, List.length_set, List.length_set]; decide)]
  rw [Instr.fill]
  rw [List.length_map, hD]
  have e1 : ((((fzCs fz0).set 0 (Value.int .i64 a)).set 1 (Value.int .i64 c)).take 2) = [Value.int .i64 a, Value.int .i64 c] := rfl
  have e2 : ((((fzCs fz0).set 0 (Value.int .i64 a)).set 1 (Value.int .i64 c)).drop (2 + 32)) = [] := rfl
  rw [e1, e2, List.append_nil]
  rfl
/-- The state of a shard is another one. -/
theorem ShV.setSt {S : Nat → Prop} {b : Nat} {x : ShR} {vl vr : Value} {Q : Hs} {w : World} (h : ShV S b x vl vr Q w) (z : Int) (hz : x.st ≠ 2 ∨ z = 2) : ShV S b ⟨x.win, z, x.lvs, x.rows, x.stn⟩ vl vr Q (w.setCell ⟨b, 1, none⟩ (.int .i64 z)) := by
  have hb : Blk b 68 (shPre ⟨x.win, z, x.lvs, x.rows, x.stn⟩ vl ++ (fL x.lvs.length Q ++ shPost x vr)) (w.setCell ⟨b, 1, none⟩ (.int .i64 z)) := Blk.put (a := [.int .i64 x.win]) (z := vl :: (fL x.lvs.length Q ++ shPost x vr)) h.blk (.int .i64 z)
  have k : ∀ g, g ≠ b → (w.setCell ⟨b, 1, none⟩ (.int .i64 z)).heap[g]? = w.heap[g]? := fun g hg => Below.heap_setCell _ _ _ _ hg
  exact ⟨⟨h.fr.1, h.fr.2.1, rfl, hb⟩, h.pk, h.ol.kept' fun g e => k g (h.neL g e), h.pr.kept' fun g e => k g (h.neR g e), fun e => (h.own (hz.elim id fun e2 => absurd e2 e)).kept' fun g e => k g (h.neR g e), h.inb, h.inl, h.inr, h.sk, h.stl, h.most, h.rle, fun e => h.req (hz.elim id fun e2 => absurd e2 e), h.wok⟩

set_option maxHeartbeats 3200000 in
set_option maxRecDepth 100000 in
theorem shFrz_any {S : Nat → Prop} {b : Nat} {x : ShR} {w : World} (h : Shd S b x w) (hK : KT w) : Calls Tryd.prog 45 #[.pointer (some ⟨b, 0, none⟩)] w fun e w' => e = .returned (.agg (fzCs (shFz x)).toArray) ∧ Below w.heap.size w w' := by
  obtain ⟨r, hr⟩ : ∃ r, r = w.heap.size := ⟨_, rfl⟩
  obtain ⟨W, hW⟩ : ∃ W, W = w.alloc (.cells (fzCs fz0).toArray 44) := ⟨_, rfl⟩
  have hb1 : Below w.heap.size w W := by rw [hW]; exact below_boxS _ _
  have hz0 : Blk r 44 (fzCs fz0) W := by rw [hW, hr]; exact Blk.alloc _ _ _
  have HI : Hid ((Tryd.prog.info? 44).map (·.size) = some 34) := Lib.hid (size_of info_fz)
  have HL0 : Hid ((fzCs fz0).length = 34) := Lib.hid rfl
  have HB0 : Hid (Tryd.prog.built 44 [] = some (fzCs fz0).toArray) := Lib.hid (by kernel_rfl)
  have hwr : w.heap.size ≤ r := by omega
  have HZ0 := Lib.hid hz0
  have HW := Lib.hid hW
  have HR := Lib.hid hr
  have hbr : b < r := by have := h.lt; omega
  have hs := h.old hb1
  obtain ⟨vl, vr, Q, hv⟩ := hs
  obtain ⟨va, cap, rfl, -⟩ := hv.ol.sums.slice
  obtain ⟨n, hn⟩ : ∃ n, n = x.lvs.length := ⟨_, rfl⟩
  obtain ⟨D, hD⟩ : ∃ D, D = Tree.root x.lvs := ⟨_, rfl⟩
  have HDl : Hid (D.length = 32) := Lib.hid (by rw [hD]; exact Tree.root_length _ hv.l32)
  have HRT : Hid (∀ u, Below r W u → Calls Tryd.prog 36 #[.pointer (some ⟨b, 3, none⟩)] u fun e w' => e = .returned (sumV D) ∧ Below u.heap.size u w') := Lib.hid fun u hu => by
    rw [hD]
    exact rootI_any (hv.fr.old hu hbr) hv.pk (by have := hv.most; omega) (fun i hi => (hu.cell (p := ⟨_, _, none⟩) (by have := hK.pos; simp only; omega)).trans ((hK.old hb1) i hi))
  have HBF : Hid (Tryd.prog.built 44 [(0, .int .i64 x.win), (1, .int .i64 (n : Int)), (2, sumV D)] = some (fzCs ⟨x.win, n, D⟩).toArray) := Lib.hid (built_fz3 _ _ _ HDl.out)
  have HFZ : Hid (shFz x = ⟨x.win, n, D⟩) := Lib.hid (by rw [hn, hD]; rfl)
  rw [← hn] at hv
  have HV := Lib.hid hv
  have HBR := Lib.hid hbr
  have HRW : Hid (r < W.heap.size) := Lib.hid (Blk.lt hz0)
  clear hD hn hv hbr h hK hW hr hz0
  rw [HFZ.out]
  go_enter Tryd.func45, Tryd.ntmps45
  go_upto_region 1 with fail
  change Code.wp _ _ _ _ (w.alloc (.cells (fzCs fz0).toArray 44))
  rw [← HW.out, ← HR.out]
  clear HW HR
  try simp only [Act.put]
  refine wp_region_ph (Lx := GLx 2) [RXP.is (.pointer (some ⟨b, 0, none⟩)), RXP.is (.pointer (some ⟨b, 0, none⟩)), RXP.is (.pointer (some ⟨b, 0, none⟩)), RXP.is (.int .i64 x.win), RXP.is (.pointer (some ⟨b, 0, none⟩)), RXP.is (.pointer (some ⟨b, 0, none⟩)), RXP.is (.pointer (some ⟨b, 2, none⟩)), RXP.is (.slice va n cap), RXP.is (.int .i64 (n : Int)), RXP.is (.pointer (some ⟨b, 0, none⟩)), RXP.is (.pointer (some ⟨b, 0, none⟩)), RXP.is (.pointer (some ⟨b, 3, none⟩)), RXP.is (sumV D), RXP.is (.agg (fzCs ⟨x.win, n, D⟩).toArray), RXP.any] [12, 14] (fun k w' => Below r W w' ∧ (k ≤ 1 → Blk r 44 (fzCs fz0) w') ∧ (k = 2 → Blk r 44 (fzCs ⟨x.win, n, D⟩) w')) (by kernel_rfl) (by kernel_rfl) (by kernel_rfl) (by kernel_rfl) (by kernel_rfl) (⟨below_drew (Below.refl _ _), fun _ => HZ0.out, (fun h => by cases h)⟩) ⟨?_, ?_, ?_, ?_, ?_, ?_, ?_, ?_, ?_, ?_, ?_, ?_, ?_, ?_, ?_, trivial⟩ ?_
  · intro ac w' ph hF hPh hlt hP hU K hK0
    have e0 : ac.eval (.tmp 0) = .pointer (some ⟨b, 0, none⟩) := hF.at 0 (by kernel_rfl)
    exact rop_move _ rfl e0 (wanted_none rfl) (hK0 _ _ GLx.same hPh rfl)
  · intro ac w' ph hF hPh hlt hP hU K hK0
    have e3 : ac.eval (.tmp 3) = .pointer (some ⟨b, 0, none⟩) := hP 0 (by kernel_rfl)
    exact rop_nilG _ rfl e3 (wanted_none rfl) (hK0 _ _ GLx.same hPh rfl)
  · intro ac w' ph hF hPh hlt hP hU K hK0
    have e4 : ac.eval (.tmp 4) = .pointer (some ⟨b, 0, none⟩) := hP 1 (by kernel_rfl)
    exact rop_fld _ _ _ rfl e4 ((fld_sh b _).1) (wanted_none rfl) (hK0 _ _ GLx.same hPh rfl)
  · intro ac w' ph hF hPh hlt hP hU K hK0
    have e5 : ac.eval (.tmp 5) = .pointer (some ⟨b, 0, none⟩) := hP 2 (by kernel_rfl)
    exact rop_ld _ _ rfl e5 (load_intR (((hPh.1.cell (p := ⟨b, 0, none⟩) HBR.out)).trans HV.out.cWin)) (wanted_none rfl) (hK0 _ _ GLx.same hPh rfl)
  · intro ac w' ph hF hPh hlt hP hU K hK0
    have e0 : ac.eval (.tmp 0) = .pointer (some ⟨b, 0, none⟩) := hF.at 0 (by kernel_rfl)
    exact rop_move _ rfl e0 (wanted_none rfl) (hK0 _ _ GLx.same hPh rfl)
  · intro ac w' ph hF hPh hlt hP hU K hK0
    have e7 : ac.eval (.tmp 7) = .pointer (some ⟨b, 0, none⟩) := hP 4 (by kernel_rfl)
    exact rop_nilG _ rfl e7 (wanted_none rfl) (hK0 _ _ GLx.same hPh rfl)
  · intro ac w' ph hF hPh hlt hP hU K hK0
    have e8 : ac.eval (.tmp 8) = .pointer (some ⟨b, 0, none⟩) := hP 5 (by kernel_rfl)
    exact rop_fld _ _ _ rfl e8 ((fld_sh b _).2.2.1) (wanted_none rfl) (hK0 _ _ GLx.same hPh rfl)
  · intro ac w' ph hF hPh hlt hP hU K hK0
    have e9 : ac.eval (.tmp 9) = .pointer (some ⟨b, 2, none⟩) := hP 6 (by kernel_rfl)
    exact rop_ld _ _ rfl e9 (load_slS (((hPh.1.cell (p := ⟨b, 2, none⟩) HBR.out)).trans HV.out.cLvs)) (wanted_none rfl) (hK0 _ _ GLx.same hPh rfl)
  · intro ac w' ph hF hPh hlt hP hU K hK0
    have e10 : ac.eval (.tmp 10) = .slice va n cap := hP 7 (by kernel_rfl)
    exact rop_lenG _ Tryd.underlying27 rfl e10 (wanted_none rfl) (hK0 _ _ GLx.same hPh rfl)
  · intro ac w' ph hF hPh hlt hP hU K hK0
    have e0 : ac.eval (.tmp 0) = .pointer (some ⟨b, 0, none⟩) := hF.at 0 (by kernel_rfl)
    exact rop_move _ rfl e0 (wanted_none rfl) (hK0 _ _ GLx.same hPh rfl)
  · intro ac w' ph hF hPh hlt hP hU K hK0
    have e12 : ac.eval (.tmp 12) = .pointer (some ⟨b, 0, none⟩) := hP 9 (by kernel_rfl)
    exact rop_nilG _ rfl e12 (wanted_none rfl) (hK0 _ _ GLx.same hPh rfl)
  · intro ac w' ph hF hPh hlt hP hU K hK0
    have e13 : ac.eval (.tmp 13) = .pointer (some ⟨b, 0, none⟩) := hP 10 (by kernel_rfl)
    exact rop_fld _ _ _ rfl e13 ((fld_sh b _).2.2.2.1) (wanted_none rfl) (hK0 _ _ GLx.same hPh rfl)
  · intro ac w' ph hF hPh hlt hP hU K hK0
    obtain rfl : ph = 0 := (hlt 0 12 rfl).1 rfl
    have e14 : ac.eval (.tmp 14) = .pointer (some ⟨b, 3, none⟩) := hP 11 (by kernel_rfl)
    refine rop_call 36 _ _ rfl #[.pointer (some ⟨b, 3, none⟩)] (by simp [e14]) (by kernel_rfl) (wanted_none rfl) ?_
    refine (HRT.out w' (hPh.1)).mono ?_
    rintro e w2 ⟨rfl, hb⟩
    exact ⟨_, rfl, hK0 _ _ (GLx.old (by decide) hb) ⟨below_step hPh.1 (Nat.le_of_lt HRW.out) hb, fun _ => Blk.old (hPh.2.1 (by decide)) hb (Blk.lt (hPh.2.1 (by decide))), fun h => absurd h (by decide)⟩ rfl⟩
  · intro ac w' ph hF hPh hlt hP hU K hK0
    have e6 : ac.eval (.tmp 6) = .int .i64 x.win := hP 3 (by kernel_rfl)
    have e11 : ac.eval (.tmp 11) = .int .i64 (n : Int) := hP 8 (by kernel_rfl)
    have e15 : ac.eval (.tmp 15) = sumV D := hP 12 (by kernel_rfl)
    exact rop_buildF _ _ rfl _ (by simp [e6, e11, e15]) HBF.out (wanted_none rfl) (hK0 _ _ GLx.same hPh rfl)
  · intro ac w' ph hF hPh hlt hP hU K hK0
    obtain rfl : ph = 1 := (hlt 1 14 rfl).1 rfl
    have e2 : ac.eval (.tmp 2) = .pointer (some ⟨r, 0, none⟩) := hF.at 2 (by kernel_rfl)
    have e16 : ac.eval (.tmp 16) = .agg (fzCs ⟨x.win, n, D⟩).toArray := hP 13 (by kernel_rfl)
    have hz : Blk r 44 (fzCs fz0) w' := hPh.2.1 (by decide)
    exact rop_storeG _ _ _ rfl e2 e16 (store_fzS (f := ⟨x.win, n, D⟩) (Blk.there hz (by decide)) HDl.out) (wanted_none rfl) (hK0 _ _ (GLx.last rfl) ⟨below_setCells (Nat.le_refl _) _ _ _ hPh.1, (fun h => absurd h (by decide)), fun _ => Blk.setAll hz (by rw [fzCs_length HDl.out]; rfl)⟩ trivial)
  · intro ac w' hF hPh hT
    rw [hF.setsG [3, 4, 5, 6, 7, 8, 9, 10, 11, 12, 13, 14, 15, 16] (by kernel_rfl)]
    simp only [List.foldl_cons, List.foldl_nil, List.setIfInBounds_toArray, List.set_cons_succ, List.set_cons_zero]
    generalize ac.eval (.tmp 3) = u3
    generalize ac.eval (.tmp 4) = u4
    generalize ac.eval (.tmp 5) = u5
    generalize ac.eval (.tmp 6) = u6
    generalize ac.eval (.tmp 7) = u7
    generalize ac.eval (.tmp 8) = u8
    generalize ac.eval (.tmp 9) = u9
    generalize ac.eval (.tmp 10) = u10
    generalize ac.eval (.tmp 11) = u11
    generalize ac.eval (.tmp 12) = u12
    generalize ac.eval (.tmp 13) = u13
    generalize ac.eval (.tmp 14) = u14
    generalize ac.eval (.tmp 15) = u15
    generalize ac.eval (.tmp 16) = u16
    clear  hT hF ac
    have hz := hPh.2.2 rfl
    have hbw := (hb1).trans (hPh.1.mono hwr)
    have HZ := Lib.hid hz
    clear hz hPh
    go_wp2
    exact bodyPost_ret (v := .agg (fzCs ⟨x.win, n, D⟩).toArray) (results_cell (t := 2) (ty := 44) (b := r) (cs := fzCs ⟨x.win, n, D⟩) rfl _ _ _ rfl (Blk.all HZ.out) Tryd.underlying44 rfl (by rw [fzCs_length HDl.out]; exact HI.out)) rfl ⟨rfl, hbw⟩
set_option maxHeartbeats 3200000 in
set_option maxRecDepth 100000 in
theorem shClose_nil (w : World) : Calls Tryd.prog 19 #[.pointer none] w fun e w' => e = .returned (.tuple #[.agg (fzCs fz0).toArray, .int .i64 1]) ∧ Below w.heap.size w w' := by
  obtain ⟨r, hr⟩ : ∃ r, r = w.heap.size := ⟨_, rfl⟩
  obtain ⟨W, hW⟩ : ∃ W, W = w.alloc (.cells (fzCs fz0).toArray 44) := ⟨_, rfl⟩
  have hb1 : Below w.heap.size w W := by rw [hW]; exact below_boxS _ _
  have hz0 : Blk r 44 (fzCs fz0) W := by rw [hW, hr]; exact Blk.alloc _ _ _
  have HI : Hid ((Tryd.prog.info? 44).map (·.size) = some 34) := Lib.hid (size_of info_fz)
  have HL0 : Hid ((fzCs fz0).length = 34) := Lib.hid rfl
  have HB0 : Hid (Tryd.prog.built 44 [] = some (fzCs fz0).toArray) := Lib.hid (by kernel_rfl)
  have hwr : w.heap.size ≤ r := by omega
  have HZ0 := Lib.hid hz0
  have HW := Lib.hid hW
  have HR := Lib.hid hr
  clear hW hr hz0
  go_enter Tryd.func19, Tryd.ntmps19
  go_upto_region 1 with fail
  change Code.wp _ _ _ _ (w.alloc (.cells (fzCs fz0).toArray 44))
  rw [← HW.out, ← HR.out]
  clear HW HR
  go_wp2_with (first
    | refine wpList_build_at rfl 44 #[] rfl (fzCs fz0).toArray [] (by simp) HB0.out ?_
    | refine wpList_store_mid rfl 44 (.tmp 2) (.tmp 7) rfl r 0 (fzCs fz0).toArray rfl rfl (by rw [List.size_toArray, HL0.out]; exact Blk.there HZ0.out (by rw [HL0.out]; decide)) (by rw [List.size_toArray, HL0.out]; exact HI.out) one_cells ?_)
  have hz := Blk.setAll (n := fzCs fz0) HZ0.out (HL0.out.trans HL0.out.symm)
  exact bodyPost_ret (results_ctS (t := 2) (u := 3) (ty := 44) (b := r) rfl _ _ _ rfl (Blk.all hz) Tryd.underlying44 rfl (by rw [HL0.out]; exact HI.out)) rfl ⟨rfl, below_setCells hwr _ _ _ hb1⟩
set_option maxHeartbeats 3200000 in
set_option maxRecDepth 100000 in
theorem shClose_st {S : Nat → Prop} {b : Nat} {x : ShR} {w : World} (h : Shd S b x w) (hst : x.st ≠ 0) : Calls Tryd.prog 19 #[.pointer (some ⟨b, 0, none⟩)] w fun e w' => e = .returned (.tuple #[.agg (fzCs fz0).toArray, .int .i64 13]) ∧ Below w.heap.size w w' := by
  obtain ⟨r, hr⟩ : ∃ r, r = w.heap.size := ⟨_, rfl⟩
  obtain ⟨W, hW⟩ : ∃ W, W = w.alloc (.cells (fzCs fz0).toArray 44) := ⟨_, rfl⟩
  have hb1 : Below w.heap.size w W := by rw [hW]; exact below_boxS _ _
  have hz0 : Blk r 44 (fzCs fz0) W := by rw [hW, hr]; exact Blk.alloc _ _ _
  have HI : Hid ((Tryd.prog.info? 44).map (·.size) = some 34) := Lib.hid (size_of info_fz)
  have HL0 : Hid ((fzCs fz0).length = 34) := Lib.hid rfl
  have HB0 : Hid (Tryd.prog.built 44 [] = some (fzCs fz0).toArray) := Lib.hid (by kernel_rfl)
  have hwr : w.heap.size ≤ r := by omega
  have HZ0 := Lib.hid hz0
  have HW := Lib.hid hW
  have HR := Lib.hid hr
  have hs := h.old hb1
  obtain ⟨vl, vr, Q, hv⟩ := hs
  have c1 := hv.cSt
  have c2 := hv.cLvs
  obtain ⟨va, cap, rfl, -⟩ := hv.ol.sums.slice
  obtain ⟨n, hn⟩ : ∃ n, n = x.lvs.length := ⟨_, rfl⟩
  rw [← hn] at c2
  obtain ⟨z, hz⟩ : ∃ z, z = x.st := ⟨_, rfl⟩
  rw [← hz] at c1
  have q1 : ¬ z = 0 := by omega
  have q2 : (z == 0) = false := by simpa using q1
  clear hv hn hz h hst
  clear hW hr hz0
  go_enter Tryd.func19, Tryd.ntmps19
  go_upto_region 1 with fail
  change Code.wp _ _ _ _ (w.alloc (.cells (fzCs fz0).toArray 44))
  rw [← HW.out, ← HR.out]
  clear HW HR
  go_wp2_with (first
    | refine wpList_build_at rfl 44 #[] rfl (fzCs fz0).toArray [] (by simp) HB0.out ?_
    | refine wpList_store_mid rfl 44 (.tmp 2) (.tmp 20) rfl r 0 (fzCs fz0).toArray rfl rfl (by rw [List.size_toArray, HL0.out]; exact Blk.there HZ0.out (by rw [HL0.out]; decide)) (by rw [List.size_toArray, HL0.out]; exact HI.out) one_cells ?_)
  have hz := Blk.setAll (n := fzCs fz0) HZ0.out (HL0.out.trans HL0.out.symm)
  exact bodyPost_ret (results_ctS (t := 2) (u := 3) (ty := 44) (b := r) rfl _ _ _ rfl (Blk.all hz) Tryd.underlying44 rfl (by rw [HL0.out]; exact HI.out)) rfl ⟨rfl, below_setCells hwr _ _ _ hb1⟩
set_option maxHeartbeats 3200000 in
set_option maxRecDepth 100000 in
theorem shClose_none {S : Nat → Prop} {b : Nat} {x : ShR} {w : World} (h : Shd S b x w) (hst : x.st = 0) (hl : x.lvs = []) : Calls Tryd.prog 19 #[.pointer (some ⟨b, 0, none⟩)] w fun e w' => e = .returned (.tuple #[.agg (fzCs fz0).toArray, .int .i64 13]) ∧ Below w.heap.size w w' := by
  obtain ⟨r, hr⟩ : ∃ r, r = w.heap.size := ⟨_, rfl⟩
  obtain ⟨W, hW⟩ : ∃ W, W = w.alloc (.cells (fzCs fz0).toArray 44) := ⟨_, rfl⟩
  have hb1 : Below w.heap.size w W := by rw [hW]; exact below_boxS _ _
  have hz0 : Blk r 44 (fzCs fz0) W := by rw [hW, hr]; exact Blk.alloc _ _ _
  have HI : Hid ((Tryd.prog.info? 44).map (·.size) = some 34) := Lib.hid (size_of info_fz)
  have HL0 : Hid ((fzCs fz0).length = 34) := Lib.hid rfl
  have HB0 : Hid (Tryd.prog.built 44 [] = some (fzCs fz0).toArray) := Lib.hid (by kernel_rfl)
  have hwr : w.heap.size ≤ r := by omega
  have HZ0 := Lib.hid hz0
  have HW := Lib.hid hW
  have HR := Lib.hid hr
  have hs := h.old hb1
  obtain ⟨vl, vr, Q, hv⟩ := hs
  have c1 := hv.cSt
  have c2 := hv.cLvs
  obtain ⟨va, cap, rfl, -⟩ := hv.ol.sums.slice
  obtain ⟨n, hn⟩ : ∃ n, n = x.lvs.length := ⟨_, rfl⟩
  rw [← hn] at c2
  obtain ⟨z, hz⟩ : ∃ z, z = x.st := ⟨_, rfl⟩
  rw [← hz] at c1
  obtain rfl : z = 0 := by omega
  obtain rfl : n = 0 := by rw [hn, hl]; rfl
  clear hv hn hz h hst hl
  clear hW hr hz0
  go_enter Tryd.func19, Tryd.ntmps19
  go_upto_region 1 with fail
  change Code.wp _ _ _ _ (w.alloc (.cells (fzCs fz0).toArray 44))
  rw [← HW.out, ← HR.out]
  clear HW HR
  go_wp2_with (first
    | refine wpList_build_at rfl 44 #[] rfl (fzCs fz0).toArray [] (by simp) HB0.out ?_
    | refine wpList_store_mid rfl 44 (.tmp 2) (.tmp 20) rfl r 0 (fzCs fz0).toArray rfl rfl (by rw [List.size_toArray, HL0.out]; exact Blk.there HZ0.out (by rw [HL0.out]; decide)) (by rw [List.size_toArray, HL0.out]; exact HI.out) one_cells ?_)
  have hz := Blk.setAll (n := fzCs fz0) HZ0.out (HL0.out.trans HL0.out.symm)
  exact bodyPost_ret (results_ctS (t := 2) (u := 3) (ty := 44) (b := r) rfl _ _ _ rfl (Blk.all hz) Tryd.underlying44 rfl (by rw [HL0.out]; exact HI.out)) rfl ⟨rfl, below_setCells hwr _ _ _ hb1⟩
set_option maxHeartbeats 3200000 in
set_option maxRecDepth 100000 in
theorem shClose_ok {S : Nat → Prop} {b : Nat} {x : ShR} {w : World} (h : Shd S b x w) (hst : x.st = 0) (hl : x.lvs ≠ []) (hK : KT w) : Calls Tryd.prog 19 #[.pointer (some ⟨b, 0, none⟩)] w fun e w' => e = .returned (.tuple #[.agg (fzCs (shFz x)).toArray, .int .i64 0]) ∧ Shd S b ⟨x.win, 1, x.lvs, x.rows, x.stn⟩ w' ∧ Only b w w' := by
  obtain ⟨r, hr⟩ : ∃ r, r = w.heap.size := ⟨_, rfl⟩
  obtain ⟨W, hW⟩ : ∃ W, W = w.alloc (.cells (fzCs fz0).toArray 44) := ⟨_, rfl⟩
  have hb1 : Below w.heap.size w W := by rw [hW]; exact below_boxS _ _
  have hz0 : Blk r 44 (fzCs fz0) W := by rw [hW, hr]; exact Blk.alloc _ _ _
  have HI : Hid ((Tryd.prog.info? 44).map (·.size) = some 34) := Lib.hid (size_of info_fz)
  have HL0 : Hid ((fzCs fz0).length = 34) := Lib.hid rfl
  have HB0 : Hid (Tryd.prog.built 44 [] = some (fzCs fz0).toArray) := Lib.hid (by kernel_rfl)
  have hwr : w.heap.size ≤ r := by omega
  have HZ0 := Lib.hid hz0
  have HW := Lib.hid hW
  have HR := Lib.hid hr
  have hs := h.old hb1
  obtain ⟨vl, vr, Q, hv⟩ := hs
  have c1 := hv.cSt
  have c2 := hv.cLvs
  obtain ⟨va, cap, rfl, -⟩ := hv.ol.sums.slice
  obtain ⟨n, hn⟩ : ∃ n, n = x.lvs.length := ⟨_, rfl⟩
  rw [← hn] at c2
  obtain ⟨z, hz⟩ : ∃ z, z = x.st := ⟨_, rfl⟩
  rw [← hz] at c1
  obtain rfl : z = 0 := by omega
  have q1 : ¬ (n : Int) = 0 := by
    have : x.lvs.length ≠ 0 := fun e => hl (List.eq_nil_of_length_eq_zero e)
    omega
  have q2 : ((n : Int) == 0) = false := by simpa using q1
  have hbr : b ≠ r := by have := h.lt; omega
  have f1 := hv.fr.fz 1
  have hv1 := hv.setSt 1 (.inl (by omega))
  have HSK := Lib.hid hv.sk
  have HBS := Lib.hid hv.inb
  obtain ⟨V, hV⟩ : ∃ V, V = W.setCell ⟨b, 1, none⟩ (.int .i64 1) := ⟨_, rfl⟩
  rw [← hV] at hv1
  have oV : Only b W V := by rw [hV]; exact (Only.refl b W).setCell 1 _
  have hS1 : Shd S b ⟨x.win, 1, x.lvs, x.rows, x.stn⟩ V := ⟨_, _, _, hv1⟩
  have hKV : KT V := (hK.old hb1).only oV (fun e => HSK.out (e ▸ HBS.out))
  have HFR := Lib.hid (shFrz_any hS1 hKV)
  have HFE : Hid (shFz ⟨x.win, 1, x.lvs, x.rows, x.stn⟩ = shFz x) := Lib.hid rfl
  have HDl : Hid ((shFz x).root.length = 32) := Lib.hid (shFz_root hv.l32)
  obtain ⟨G, hG⟩ : ∃ G, G = shFz x := ⟨_, rfl⟩
  rw [← hG] at HFE HDl ⊢
  have hS2 := Lib.hid hS1
  have HV := Lib.hid hV
  have OV := Lib.hid oV
  have HL1 : Hid ((fzCs G).length = 34) := Lib.hid (fzCs_length HDl.out)
  rw [HFE.out] at HFR
  have HZV : Hid (Blk r 44 (fzCs fz0) V) := Lib.hid (Blk.kept hz0 oV (Ne.symm hbr))
  have B1 := Lib.hid hb1
  clear hv hn hz h hst hl hv1 hS1 hKV hG hV oV hK hW hr hz0 hb1
  go_enter Tryd.func19, Tryd.ntmps19
  go_upto_region 1 with fail
  change Code.wp _ _ _ _ (w.alloc (.cells (fzCs fz0).toArray 44))
  rw [← HW.out, ← HR.out]
  clear HW HR
  go_upto_region 7 with (fail)
  change Code.wp _ _ _ _ (W.setCell ⟨b, 1, none⟩ (.int .i64 1))
  rw [← HV.out]
  clear c1 c2 f1 HV
  go_wp2_with (first
    | (go_at_call 45; (refine HFR.out.mono ?_; rintro e w4 ⟨rfl, b4⟩; have hz4 := Lib.hid (Blk.old HZV.out b4 (Blk.lt HZV.out))))
    | refine wpList_store_mid rfl 44 (.tmp 2) (.tmp 25) rfl r 0 (fzCs G).toArray rfl rfl (by rw [List.size_toArray, HL1.out]; exact Blk.there hz4.out (by rw [HL0.out]; decide)) (by rw [List.size_toArray, HL1.out]; exact HI.out) one_cells ?_)
  have hz := Blk.setAll (n := fzCs G) hz4.out (HL1.out.trans HL0.out.symm)
  exact bodyPost_ret (results_ctS (t := 2) (u := 3) (ty := 44) (b := r) rfl _ _ _ rfl (Blk.all hz) Tryd.underlying44 rfl (by rw [HL1.out]; exact HI.out)) rfl ⟨rfl, Shd.setOther (hS2.out.old b4) hz4.out (by decide) (by decide) (by decide) (only_setCells _ _ _ (Only.refl r w4)), only_new (((Only.of_below B1.out).trans OV.out).trans (Only.of_below b4)) (only_setCells _ _ _ (Only.refl r w4)) hwr⟩
set_option maxHeartbeats 3200000 in
set_option maxRecDepth 100000 in
theorem shFreeze_nil (w : World) : Calls Tryd.prog 29 #[.pointer none] w fun e w' => e = .returned (.tuple #[.agg (fzCs fz0).toArray, .bool false]) ∧ Below w.heap.size w w' := by
  obtain ⟨r, hr⟩ : ∃ r, r = w.heap.size := ⟨_, rfl⟩
  obtain ⟨W, hW⟩ : ∃ W, W = w.alloc (.cells (fzCs fz0).toArray 44) := ⟨_, rfl⟩
  have hb1 : Below w.heap.size w W := by rw [hW]; exact below_boxS _ _
  have hz0 : Blk r 44 (fzCs fz0) W := by rw [hW, hr]; exact Blk.alloc _ _ _
  have HI : Hid ((Tryd.prog.info? 44).map (·.size) = some 34) := Lib.hid (size_of info_fz)
  have HL0 : Hid ((fzCs fz0).length = 34) := Lib.hid rfl
  have HB0 : Hid (Tryd.prog.built 44 [] = some (fzCs fz0).toArray) := Lib.hid (by kernel_rfl)
  have hwr : w.heap.size ≤ r := by omega
  have HZ0 := Lib.hid hz0
  have HW := Lib.hid hW
  have HR := Lib.hid hr
  clear hW hr hz0
  go_enter Tryd.func29, Tryd.ntmps29
  go_upto_region 1 with fail
  change Code.wp _ _ _ _ (w.alloc (.cells (fzCs fz0).toArray 44))
  rw [← HW.out, ← HR.out]
  clear HW HR
  go_wp2_with (first
    | (go_at_call 31; (refine (shState_nil _).mono ?_; rintro e w3 ⟨rfl, rfl⟩))
    | refine wpList_build_at rfl 44 #[] rfl (fzCs fz0).toArray [] (by simp) HB0.out ?_
    | refine wpList_store_mid rfl 44 (.tmp 2) (.tmp 7) rfl r 0 (fzCs fz0).toArray rfl rfl (by rw [List.size_toArray, HL0.out]; exact Blk.there HZ0.out (by rw [HL0.out]; decide)) (by rw [List.size_toArray, HL0.out]; exact HI.out) one_cells ?_)
  have hz := Blk.setAll (n := fzCs fz0) HZ0.out (HL0.out.trans HL0.out.symm)
  exact bodyPost_ret (results_ctS (t := 2) (u := 3) (ty := 44) (b := r) rfl _ _ _ rfl (Blk.all hz) Tryd.underlying44 rfl (by rw [HL0.out]; exact HI.out)) rfl ⟨rfl, below_setCells hwr _ _ _ hb1⟩
set_option maxHeartbeats 3200000 in
set_option maxRecDepth 100000 in
theorem shFreeze_open {S : Nat → Prop} {b : Nat} {x : ShR} {w : World} (h : Shd S b x w) (hst : x.st = 0) : Calls Tryd.prog 29 #[.pointer (some ⟨b, 0, none⟩)] w fun e w' => e = .returned (.tuple #[.agg (fzCs fz0).toArray, .bool false]) ∧ Below w.heap.size w w' := by
  obtain ⟨r, hr⟩ : ∃ r, r = w.heap.size := ⟨_, rfl⟩
  obtain ⟨W, hW⟩ : ∃ W, W = w.alloc (.cells (fzCs fz0).toArray 44) := ⟨_, rfl⟩
  have hb1 : Below w.heap.size w W := by rw [hW]; exact below_boxS _ _
  have hz0 : Blk r 44 (fzCs fz0) W := by rw [hW, hr]; exact Blk.alloc _ _ _
  have HI : Hid ((Tryd.prog.info? 44).map (·.size) = some 34) := Lib.hid (size_of info_fz)
  have HL0 : Hid ((fzCs fz0).length = 34) := Lib.hid rfl
  have HB0 : Hid (Tryd.prog.built 44 [] = some (fzCs fz0).toArray) := Lib.hid (by kernel_rfl)
  have hwr : w.heap.size ≤ r := by omega
  have HZ0 := Lib.hid hz0
  have HW := Lib.hid hW
  have HR := Lib.hid hr
  have HST := Lib.hid (shState_any (h.old hb1))
  obtain ⟨z, hz⟩ : ∃ z, z = x.st := ⟨_, rfl⟩
  rw [← hz] at HST
  obtain rfl : z = 0 := by omega
  clear hz h hst
  clear hW hr hz0
  go_enter Tryd.func29, Tryd.ntmps29
  go_upto_region 1 with fail
  change Code.wp _ _ _ _ (w.alloc (.cells (fzCs fz0).toArray 44))
  rw [← HW.out, ← HR.out]
  clear HW HR
  go_wp2_with (first
    | (go_at_call 31; (refine (HST.out).mono ?_; rintro e w3 ⟨rfl, rfl⟩))
    | refine wpList_build_at rfl 44 #[] rfl (fzCs fz0).toArray [] (by simp) HB0.out ?_
    | refine wpList_store_mid rfl 44 (.tmp 2) (.tmp 7) rfl r 0 (fzCs fz0).toArray rfl rfl (by rw [List.size_toArray, HL0.out]; exact Blk.there HZ0.out (by rw [HL0.out]; decide)) (by rw [List.size_toArray, HL0.out]; exact HI.out) one_cells ?_)
  have hz := Blk.setAll (n := fzCs fz0) HZ0.out (HL0.out.trans HL0.out.symm)
  exact bodyPost_ret (results_ctS (t := 2) (u := 3) (ty := 44) (b := r) rfl _ _ _ rfl (Blk.all hz) Tryd.underlying44 rfl (by rw [HL0.out]; exact HI.out)) rfl ⟨rfl, below_setCells hwr _ _ _ hb1⟩
set_option maxHeartbeats 3200000 in
set_option maxRecDepth 100000 in
theorem shFreeze_any {S : Nat → Prop} {b : Nat} {x : ShR} {w : World} (h : Shd S b x w) (hst : x.st ≠ 0) (hK : KT w) : Calls Tryd.prog 29 #[.pointer (some ⟨b, 0, none⟩)] w fun e w' => e = .returned (.tuple #[.agg (fzCs (shFz x)).toArray, .bool true]) ∧ Below w.heap.size w w' := by
  obtain ⟨r, hr⟩ : ∃ r, r = w.heap.size := ⟨_, rfl⟩
  obtain ⟨W, hW⟩ : ∃ W, W = w.alloc (.cells (fzCs fz0).toArray 44) := ⟨_, rfl⟩
  have hb1 : Below w.heap.size w W := by rw [hW]; exact below_boxS _ _
  have hz0 : Blk r 44 (fzCs fz0) W := by rw [hW, hr]; exact Blk.alloc _ _ _
  have HI : Hid ((Tryd.prog.info? 44).map (·.size) = some 34) := Lib.hid (size_of info_fz)
  have HL0 : Hid ((fzCs fz0).length = 34) := Lib.hid rfl
  have HB0 : Hid (Tryd.prog.built 44 [] = some (fzCs fz0).toArray) := Lib.hid (by kernel_rfl)
  have hwr : w.heap.size ≤ r := by omega
  have HZ0 := Lib.hid hz0
  have HW := Lib.hid hW
  have HR := Lib.hid hr
  have HST := Lib.hid (shState_any (h.old hb1))
  obtain ⟨z, hz⟩ : ∃ z, z = x.st := ⟨_, rfl⟩
  rw [← hz] at HST
  have q1 : ¬ z = 0 := by omega
  have q2 : (z == 0) = false := by simpa using q1
  have HFR := Lib.hid (shFrz_any (h.old hb1) (hK.old hb1))
  have HDl : Hid ((shFz x).root.length = 32) := Lib.hid (by obtain ⟨vl, vr, Q, hv⟩ := h; exact shFz_root hv.l32)
  obtain ⟨G, hG⟩ : ∃ G, G = shFz x := ⟨_, rfl⟩
  rw [← hG] at HFR HDl ⊢
  have HL1 : Hid ((fzCs G).length = 34) := Lib.hid (fzCs_length HDl.out)
  clear hG hz h hst hK hW hr hz0
  go_enter Tryd.func29, Tryd.ntmps29
  go_upto_region 1 with fail
  change Code.wp _ _ _ _ (w.alloc (.cells (fzCs fz0).toArray 44))
  rw [← HW.out, ← HR.out]
  clear HW HR
  go_wp2_with (first
    | (go_at_call 31; (refine (HST.out).mono ?_; rintro e w3 ⟨rfl, rfl⟩))
    | (go_at_call 45; (refine HFR.out.mono ?_; rintro e w4 ⟨rfl, b4⟩; have hz4 := Lib.hid (Blk.old HZ0.out b4 (Blk.lt HZ0.out))))
    | refine wpList_store_mid rfl 44 (.tmp 2) (.tmp 9) rfl r 0 (fzCs G).toArray rfl rfl (by rw [List.size_toArray, HL1.out]; exact Blk.there hz4.out (by rw [HL0.out]; decide)) (by rw [List.size_toArray, HL1.out]; exact HI.out) one_cells ?_)
  have hz := Blk.setAll (n := fzCs G) hz4.out (HL1.out.trans HL0.out.symm)
  exact bodyPost_ret (results_ctS (t := 2) (u := 3) (ty := 44) (b := r) rfl _ _ _ rfl (Blk.all hz) Tryd.underlying44 rfl (by rw [HL1.out]; exact HI.out)) rfl ⟨rfl, below_setCells hwr _ _ _ (below_step hb1 (Nat.le_refl _) b4)⟩
set_option maxHeartbeats 3200000 in
set_option maxRecDepth 100000 in
theorem shStone_nil (w : World) : Calls Tryd.prog 30 #[.pointer none] w fun e w' => e = .returned (.tuple #[.agg (stCs st0).toArray, .bool false]) ∧ Below w.heap.size w w' := by
  obtain ⟨r, hr⟩ : ∃ r, r = w.heap.size := ⟨_, rfl⟩
  obtain ⟨W, hW⟩ : ∃ W, W = w.alloc (.cells (stCs st0).toArray 49) := ⟨_, rfl⟩
  have hb1 : Below w.heap.size w W := by rw [hW]; exact below_boxS _ _
  have hz0 : Blk r 49 (stCs st0) W := by rw [hW, hr]; exact Blk.alloc _ _ _
  have HI : Hid ((Tryd.prog.info? 49).map (·.size) = some 67) := Lib.hid (size_of info_st)
  have HL0 : Hid ((stCs st0).length = 67) := Lib.hid rfl
  have HB0 : Hid (Tryd.prog.built 49 [] = some (stCs st0).toArray) := Lib.hid (by kernel_rfl)
  have hwr : w.heap.size ≤ r := by omega
  have HZ0 := Lib.hid hz0
  have HW := Lib.hid hW
  have HR := Lib.hid hr
  clear hW hr hz0
  go_enter Tryd.func30, Tryd.ntmps30
  go_upto_region 1 with fail
  change Code.wp _ _ _ _ (w.alloc (.cells (stCs st0).toArray 49))
  rw [← HW.out, ← HR.out]
  clear HW HR
  go_wp2_with (first
    | (go_at_call 31; (refine (shState_nil _).mono ?_; rintro e w3 ⟨rfl, rfl⟩))
    | refine wpList_build_at rfl 49 #[] rfl (stCs st0).toArray [] (by simp) HB0.out ?_
    | refine wpList_store_mid rfl 49 (.tmp 2) (.tmp 7) rfl r 0 (stCs st0).toArray rfl rfl (by rw [List.size_toArray, HL0.out]; exact Blk.there HZ0.out (by rw [HL0.out]; decide)) (by rw [List.size_toArray, HL0.out]; exact HI.out) one_st ?_)
  have hz := Blk.setAll (n := stCs st0) HZ0.out (HL0.out.trans HL0.out.symm)
  exact bodyPost_ret (results_ctS (t := 2) (u := 3) (ty := 49) (b := r) rfl _ _ _ rfl (Blk.all hz) Tryd.underlying49 rfl (by rw [HL0.out]; exact HI.out)) rfl ⟨rfl, below_setCells hwr _ _ _ hb1⟩
set_option maxHeartbeats 3200000 in
set_option maxRecDepth 100000 in
theorem shStone_not {S : Nat → Prop} {b : Nat} {x : ShR} {w : World} (h : Shd S b x w) (hst : x.st ≠ 2) : Calls Tryd.prog 30 #[.pointer (some ⟨b, 0, none⟩)] w fun e w' => e = .returned (.tuple #[.agg (stCs st0).toArray, .bool false]) ∧ Below w.heap.size w w' := by
  obtain ⟨r, hr⟩ : ∃ r, r = w.heap.size := ⟨_, rfl⟩
  obtain ⟨W, hW⟩ : ∃ W, W = w.alloc (.cells (stCs st0).toArray 49) := ⟨_, rfl⟩
  have hb1 : Below w.heap.size w W := by rw [hW]; exact below_boxS _ _
  have hz0 : Blk r 49 (stCs st0) W := by rw [hW, hr]; exact Blk.alloc _ _ _
  have HI : Hid ((Tryd.prog.info? 49).map (·.size) = some 67) := Lib.hid (size_of info_st)
  have HL0 : Hid ((stCs st0).length = 67) := Lib.hid rfl
  have HB0 : Hid (Tryd.prog.built 49 [] = some (stCs st0).toArray) := Lib.hid (by kernel_rfl)
  have hwr : w.heap.size ≤ r := by omega
  have HZ0 := Lib.hid hz0
  have HW := Lib.hid hW
  have HR := Lib.hid hr
  have HST := Lib.hid (shState_any (h.old hb1))
  obtain ⟨z, hz⟩ : ∃ z, z = x.st := ⟨_, rfl⟩
  rw [← hz] at HST
  have q1 : ¬ z = 2 := by omega
  have q2 : (z == 2) = false := by simpa using q1
  clear hz h hst
  clear hW hr hz0
  go_enter Tryd.func30, Tryd.ntmps30
  go_upto_region 1 with fail
  change Code.wp _ _ _ _ (w.alloc (.cells (stCs st0).toArray 49))
  rw [← HW.out, ← HR.out]
  clear HW HR
  go_wp2_with (first
    | (go_at_call 31; (refine (HST.out).mono ?_; rintro e w3 ⟨rfl, rfl⟩))
    | refine wpList_build_at rfl 49 #[] rfl (stCs st0).toArray [] (by simp) HB0.out ?_
    | refine wpList_store_mid rfl 49 (.tmp 2) (.tmp 7) rfl r 0 (stCs st0).toArray rfl rfl (by rw [List.size_toArray, HL0.out]; exact Blk.there HZ0.out (by rw [HL0.out]; decide)) (by rw [List.size_toArray, HL0.out]; exact HI.out) one_st ?_)
  have hz := Blk.setAll (n := stCs st0) HZ0.out (HL0.out.trans HL0.out.symm)
  exact bodyPost_ret (results_ctS (t := 2) (u := 3) (ty := 49) (b := r) rfl _ _ _ rfl (Blk.all hz) Tryd.underlying49 rfl (by rw [HL0.out]; exact HI.out)) rfl ⟨rfl, below_setCells hwr _ _ _ hb1⟩
set_option maxHeartbeats 3200000 in
set_option maxRecDepth 100000 in
theorem shStone_any {S : Nat → Prop} {b : Nat} {x : ShR} {w : World} (h : Shd S b x w) (hst : x.st = 2) : Calls Tryd.prog 30 #[.pointer (some ⟨b, 0, none⟩)] w fun e w' => e = .returned (.tuple #[.agg (stCs x.stn).toArray, .bool true]) ∧ Below w.heap.size w w' := by
  obtain ⟨r, hr⟩ : ∃ r, r = w.heap.size := ⟨_, rfl⟩
  obtain ⟨W, hW⟩ : ∃ W, W = w.alloc (.cells (stCs st0).toArray 49) := ⟨_, rfl⟩
  have hb1 : Below w.heap.size w W := by rw [hW]; exact below_boxS _ _
  have hz0 : Blk r 49 (stCs st0) W := by rw [hW, hr]; exact Blk.alloc _ _ _
  have HI : Hid ((Tryd.prog.info? 49).map (·.size) = some 67) := Lib.hid (size_of info_st)
  have HL0 : Hid ((stCs st0).length = 67) := Lib.hid rfl
  have HB0 : Hid (Tryd.prog.built 49 [] = some (stCs st0).toArray) := Lib.hid (by kernel_rfl)
  have hwr : w.heap.size ≤ r := by omega
  have HZ0 := Lib.hid hz0
  have HW := Lib.hid hW
  have HR := Lib.hid hr
  have HST := Lib.hid (shState_any (h.old hb1))
  obtain ⟨z, hz⟩ : ∃ z, z = x.st := ⟨_, rfl⟩
  rw [← hz] at HST
  obtain rfl : z = 2 := by omega
  have hs := h.old hb1
  obtain ⟨vl, vr, Q, hv⟩ := hs
  have HRg := Lib.hid hv.rStn
  have hsl := hv.stl
  obtain ⟨G, hG⟩ : ∃ G, G = x.stn := ⟨_, rfl⟩
  rw [← hG] at HRg hsl ⊢
  have HL1 : Hid ((stCs G).length = 67) := Lib.hid (stCs_length hsl.1 hsl.2)
  clear hG hz h hst hW hr hz0 hv hsl
  go_enter Tryd.func30, Tryd.ntmps30
  go_upto_region 1 with fail
  change Code.wp _ _ _ _ (w.alloc (.cells (stCs st0).toArray 49))
  rw [← HW.out, ← HR.out]
  clear HW HR
  go_wp2_with (first
    | (go_at_call 31; (refine (HST.out).mono ?_; rintro e w3 ⟨rfl, rfl⟩))
    | refine wpList_load_mid rfl 49 (.tmp 10) rfl b 1285 rfl (stCs G) _ HRg.out Tryd.underlying49 rfl (by rw [HL1.out]; exact HI.out) ?_
    | refine wpList_store_mid rfl 49 (.tmp 2) (.tmp 11) rfl r 0 (stCs G).toArray rfl rfl (by rw [List.size_toArray, HL1.out]; exact Blk.there HZ0.out (by rw [HL0.out]; decide)) (by rw [List.size_toArray, HL1.out]; exact HI.out) one_st ?_)
  have hz := Blk.setAll (n := stCs G) HZ0.out (HL1.out.trans HL0.out.symm)
  exact bodyPost_ret (results_ctS (t := 2) (u := 3) (ty := 49) (b := r) rfl _ _ _ rfl (Blk.all hz) Tryd.underlying49 rfl (by rw [HL1.out]; exact HI.out)) rfl ⟨rfl, below_setCells hwr _ _ _ hb1⟩
set_option maxHeartbeats 3200000 in
set_option maxRecDepth 100000 in
theorem shGet_nil (i : Int) (w : World) : Calls Tryd.prog 23 #[.pointer none, .int .i64 i] w fun e w' => e = .returned (.tuple #[.agg (recCs rec0).toArray, .int .i64 1]) ∧ Below w.heap.size w w' := by
  obtain ⟨r, hr⟩ : ∃ r, r = w.heap.size := ⟨_, rfl⟩
  obtain ⟨W, hW⟩ : ∃ W, W = w.alloc (.cells (recCs rec0).toArray 55) := ⟨_, rfl⟩
  have hb1 : Below w.heap.size w W := by rw [hW]; exact below_boxS _ _
  have hz0 : Blk r 55 (recCs rec0) W := by rw [hW, hr]; exact Blk.alloc _ _ _
  have HI : Hid ((Tryd.prog.info? 55).map (·.size) = some 4) := Lib.hid (size_of info_rec4)
  have HL0 : Hid ((recCs rec0).length = 4) := Lib.hid rfl
  have HB0 : Hid (Tryd.prog.built 55 [] = some (recCs rec0).toArray) := Lib.hid (by kernel_rfl)
  have hwr : w.heap.size ≤ r := by omega
  have HZ0 := Lib.hid hz0
  have HW := Lib.hid hW
  have HR := Lib.hid hr
  clear hW hr hz0
  go_enter Tryd.func23, Tryd.ntmps23
  go_upto_region 1 with fail
  change Code.wp _ _ _ _ (w.alloc (.cells (recCs rec0).toArray 55))
  rw [← HW.out, ← HR.out]
  clear HW HR
  go_wp2_with (first
    | refine wpList_build_at rfl 55 #[] rfl (recCs rec0).toArray [] (by simp) HB0.out ?_
    | refine wpList_store_mid rfl 55 (.tmp 4) (.tmp 9) rfl r 0 (recCs rec0).toArray rfl rfl (by rw [List.size_toArray, HL0.out]; exact Blk.there HZ0.out (by rw [HL0.out]; decide)) (by rw [List.size_toArray, HL0.out]; exact HI.out) one_rec ?_)
  have hz := Blk.setAll (n := recCs rec0) HZ0.out (HL0.out.trans HL0.out.symm)
  exact bodyPost_ret (results_ctS (t := 4) (u := 5) (ty := 55) (b := r) rfl _ _ _ rfl (Blk.all hz) Tryd.underlying55 rfl (by rw [HL0.out]; exact HI.out)) rfl ⟨rfl, below_setCells hwr _ _ _ hb1⟩
set_option maxHeartbeats 3200000 in
set_option maxRecDepth 100000 in
theorem shGet_low {S : Nat → Prop} {b : Nat} {x : ShR} {w : World} (h : Shd S b x w) (i : Int) (hi : i < 0) : Calls Tryd.prog 23 #[.pointer (some ⟨b, 0, none⟩), .int .i64 i] w fun e w' => e = .returned (.tuple #[.agg (recCs rec0).toArray, .int .i64 19]) ∧ Below w.heap.size w w' := by
  obtain ⟨r, hr⟩ : ∃ r, r = w.heap.size := ⟨_, rfl⟩
  obtain ⟨W, hW⟩ : ∃ W, W = w.alloc (.cells (recCs rec0).toArray 55) := ⟨_, rfl⟩
  have hb1 : Below w.heap.size w W := by rw [hW]; exact below_boxS _ _
  have hz0 : Blk r 55 (recCs rec0) W := by rw [hW, hr]; exact Blk.alloc _ _ _
  have HI : Hid ((Tryd.prog.info? 55).map (·.size) = some 4) := Lib.hid (size_of info_rec4)
  have HL0 : Hid ((recCs rec0).length = 4) := Lib.hid rfl
  have HB0 : Hid (Tryd.prog.built 55 [] = some (recCs rec0).toArray) := Lib.hid (by kernel_rfl)
  have hwr : w.heap.size ≤ r := by omega
  have HZ0 := Lib.hid hz0
  have HW := Lib.hid hW
  have HR := Lib.hid hr
  have hs := h.old hb1
  obtain ⟨vl, vr, Q, hv⟩ := hs
  have c1 := hv.cSt
  have c2 := hv.cLvs
  obtain ⟨va, cap, rfl, -⟩ := hv.ol.sums.slice
  obtain ⟨n, hn⟩ : ∃ n, n = x.lvs.length := ⟨_, rfl⟩
  rw [← hn] at c2
  obtain ⟨z, hz⟩ : ∃ z, z = x.st := ⟨_, rfl⟩
  rw [← hz] at c1
  clear hv hn hz h
  clear hW hr hz0
  go_enter Tryd.func23, Tryd.ntmps23
  go_upto_region 1 with fail
  change Code.wp _ _ _ _ (w.alloc (.cells (recCs rec0).toArray 55))
  rw [← HW.out, ← HR.out]
  clear HW HR
  go_wp2_with (first
    | refine wpList_build_at rfl 55 #[] rfl (recCs rec0).toArray [] (by simp) HB0.out ?_
    | refine wpList_store_mid rfl 55 (.tmp 4) (.tmp 20) rfl r 0 (recCs rec0).toArray rfl rfl (by rw [List.size_toArray, HL0.out]; exact Blk.there HZ0.out (by rw [HL0.out]; decide)) (by rw [List.size_toArray, HL0.out]; exact HI.out) one_rec ?_)
  have hz := Blk.setAll (n := recCs rec0) HZ0.out (HL0.out.trans HL0.out.symm)
  exact bodyPost_ret (results_ctS (t := 4) (u := 5) (ty := 55) (b := r) rfl _ _ _ rfl (Blk.all hz) Tryd.underlying55 rfl (by rw [HL0.out]; exact HI.out)) rfl ⟨rfl, below_setCells hwr _ _ _ hb1⟩
set_option maxHeartbeats 3200000 in
set_option maxRecDepth 100000 in
theorem shGet_high {S : Nat → Prop} {b : Nat} {x : ShR} {w : World} (h : Shd S b x w) (i : Int) (hi : (x.lvs.length : Int) ≤ i) : Calls Tryd.prog 23 #[.pointer (some ⟨b, 0, none⟩), .int .i64 i] w fun e w' => e = .returned (.tuple #[.agg (recCs rec0).toArray, .int .i64 19]) ∧ Below w.heap.size w w' := by
  obtain ⟨r, hr⟩ : ∃ r, r = w.heap.size := ⟨_, rfl⟩
  obtain ⟨W, hW⟩ : ∃ W, W = w.alloc (.cells (recCs rec0).toArray 55) := ⟨_, rfl⟩
  have hb1 : Below w.heap.size w W := by rw [hW]; exact below_boxS _ _
  have hz0 : Blk r 55 (recCs rec0) W := by rw [hW, hr]; exact Blk.alloc _ _ _
  have HI : Hid ((Tryd.prog.info? 55).map (·.size) = some 4) := Lib.hid (size_of info_rec4)
  have HL0 : Hid ((recCs rec0).length = 4) := Lib.hid rfl
  have HB0 : Hid (Tryd.prog.built 55 [] = some (recCs rec0).toArray) := Lib.hid (by kernel_rfl)
  have hwr : w.heap.size ≤ r := by omega
  have HZ0 := Lib.hid hz0
  have HW := Lib.hid hW
  have HR := Lib.hid hr
  have hs := h.old hb1
  obtain ⟨vl, vr, Q, hv⟩ := hs
  have c1 := hv.cSt
  have c2 := hv.cLvs
  obtain ⟨va, cap, rfl, -⟩ := hv.ol.sums.slice
  obtain ⟨n, hn⟩ : ∃ n, n = x.lvs.length := ⟨_, rfl⟩
  rw [← hn] at c2
  obtain ⟨z, hz⟩ : ∃ z, z = x.st := ⟨_, rfl⟩
  rw [← hz] at c1
  have q0 : ¬ i < 0 := by omega
  have q1 : (n : Int) ≤ i := by omega
  clear hv hn hz h hi
  clear hW hr hz0
  go_enter Tryd.func23, Tryd.ntmps23
  go_upto_region 1 with fail
  change Code.wp _ _ _ _ (w.alloc (.cells (recCs rec0).toArray 55))
  rw [← HW.out, ← HR.out]
  clear HW HR
  go_wp2_with (first
    | refine wpList_build_at rfl 55 #[] rfl (recCs rec0).toArray [] (by simp) HB0.out ?_
    | refine wpList_store_mid rfl 55 (.tmp 4) (.tmp 20) rfl r 0 (recCs rec0).toArray rfl rfl (by rw [List.size_toArray, HL0.out]; exact Blk.there HZ0.out (by rw [HL0.out]; decide)) (by rw [List.size_toArray, HL0.out]; exact HI.out) one_rec ?_)
  have hz := Blk.setAll (n := recCs rec0) HZ0.out (HL0.out.trans HL0.out.symm)
  exact bodyPost_ret (results_ctS (t := 4) (u := 5) (ty := 55) (b := r) rfl _ _ _ rfl (Blk.all hz) Tryd.underlying55 rfl (by rw [HL0.out]; exact HI.out)) rfl ⟨rfl, below_setCells hwr _ _ _ hb1⟩
set_option maxHeartbeats 3200000 in
set_option maxRecDepth 100000 in
theorem shGet_pruned {S : Nat → Prop} {b : Nat} {x : ShR} {w : World} (h : Shd S b x w) (hst : x.st = 2) (i : Nat) (hi : i < x.lvs.length) : Calls Tryd.prog 23 #[.pointer (some ⟨b, 0, none⟩), .int .i64 (i : Int)] w fun e w' => e = .returned (.tuple #[.agg (recCs rec0).toArray, .int .i64 20]) ∧ Below w.heap.size w w' := by
  obtain ⟨r, hr⟩ : ∃ r, r = w.heap.size := ⟨_, rfl⟩
  obtain ⟨W, hW⟩ : ∃ W, W = w.alloc (.cells (recCs rec0).toArray 55) := ⟨_, rfl⟩
  have hb1 : Below w.heap.size w W := by rw [hW]; exact below_boxS _ _
  have hz0 : Blk r 55 (recCs rec0) W := by rw [hW, hr]; exact Blk.alloc _ _ _
  have HI : Hid ((Tryd.prog.info? 55).map (·.size) = some 4) := Lib.hid (size_of info_rec4)
  have HL0 : Hid ((recCs rec0).length = 4) := Lib.hid rfl
  have HB0 : Hid (Tryd.prog.built 55 [] = some (recCs rec0).toArray) := Lib.hid (by kernel_rfl)
  have hwr : w.heap.size ≤ r := by omega
  have HZ0 := Lib.hid hz0
  have HW := Lib.hid hW
  have HR := Lib.hid hr
  have hs := h.old hb1
  obtain ⟨vl, vr, Q, hv⟩ := hs
  have c1 := hv.cSt
  have c2 := hv.cLvs
  obtain ⟨va, cap, rfl, -⟩ := hv.ol.sums.slice
  obtain ⟨n, hn⟩ : ∃ n, n = x.lvs.length := ⟨_, rfl⟩
  rw [← hn] at c2
  obtain ⟨z, hz⟩ : ∃ z, z = x.st := ⟨_, rfl⟩
  rw [← hz] at c1
  obtain rfl : z = 2 := by omega
  have q0 : ¬ (i : Int) < 0 := by omega
  have q1 : ¬ (n : Int) ≤ (i : Int) := by omega
  clear hv hn hz h hi hst
  clear hW hr hz0
  go_enter Tryd.func23, Tryd.ntmps23
  go_upto_region 1 with fail
  change Code.wp _ _ _ _ (w.alloc (.cells (recCs rec0).toArray 55))
  rw [← HW.out, ← HR.out]
  clear HW HR
  go_wp2_with (first
    | refine wpList_build_at rfl 55 #[] rfl (recCs rec0).toArray [] (by simp) HB0.out ?_
    | refine wpList_store_mid rfl 55 (.tmp 4) (.tmp 27) rfl r 0 (recCs rec0).toArray rfl rfl (by rw [List.size_toArray, HL0.out]; exact Blk.there HZ0.out (by rw [HL0.out]; decide)) (by rw [List.size_toArray, HL0.out]; exact HI.out) one_rec ?_)
  have hz := Blk.setAll (n := recCs rec0) HZ0.out (HL0.out.trans HL0.out.symm)
  exact bodyPost_ret (results_ctS (t := 4) (u := 5) (ty := 55) (b := r) rfl _ _ _ rfl (Blk.all hz) Tryd.underlying55 rfl (by rw [HL0.out]; exact HI.out)) rfl ⟨rfl, below_setCells hwr _ _ _ hb1⟩
set_option maxHeartbeats 3200000 in
set_option maxRecDepth 100000 in
theorem shGet_any {S : Nat → Prop} {b : Nat} {x : ShR} {w : World} (h : Shd S b x w) (hst : x.st ≠ 2) (i : Nat) (q : RecR) (hi : x.rows[i]? = some q) : Calls Tryd.prog 23 #[.pointer (some ⟨b, 0, none⟩), .int .i64 (i : Int)] w fun e w' => e = .returned (.tuple #[.agg (recCs q).toArray, .int .i64 0]) ∧ Below w.heap.size w w' := by
  obtain ⟨r, hr⟩ : ∃ r, r = w.heap.size := ⟨_, rfl⟩
  obtain ⟨W, hW⟩ : ∃ W, W = w.alloc (.cells (recCs rec0).toArray 55) := ⟨_, rfl⟩
  have hb1 : Below w.heap.size w W := by rw [hW]; exact below_boxS _ _
  have hz0 : Blk r 55 (recCs rec0) W := by rw [hW, hr]; exact Blk.alloc _ _ _
  have HI : Hid ((Tryd.prog.info? 55).map (·.size) = some 4) := Lib.hid (size_of info_rec4)
  have HL0 : Hid ((recCs rec0).length = 4) := Lib.hid rfl
  have HB0 : Hid (Tryd.prog.built 55 [] = some (recCs rec0).toArray) := Lib.hid (by kernel_rfl)
  have hwr : w.heap.size ≤ r := by omega
  have HZ0 := Lib.hid hz0
  have HW := Lib.hid hW
  have HR := Lib.hid hr
  have hs := h.old hb1
  obtain ⟨vl, vr, Q, hv⟩ := hs
  have c1 := hv.cSt
  have c2 := hv.cLvs
  obtain ⟨va, cap, rfl, -⟩ := hv.ol.sums.slice
  obtain ⟨n, hn⟩ : ∃ n, n = x.lvs.length := ⟨_, rfl⟩
  rw [← hn] at c2
  obtain ⟨z, hz⟩ : ∃ z, z = x.st := ⟨_, rfl⟩
  rw [← hz] at c1
  have q3 : ¬ z = 2 := by omega
  have q4 : (z == 2) = false := by simpa using q3
  have hlen := hv.req hst
  have hin : i < n := by rw [hn, ← hlen]; exact (List.getElem?_eq_some_iff.1 hi).1
  have q0 : ¬ (i : Int) < 0 := by omega
  have q1 : ¬ (n : Int) ≤ (i : Int) := by omega
  have c4 := hv.cRows
  have hrw := hv.pr.row
  obtain ⟨ra, rc, rfl⟩ := hv.pr.slice
  rw [hlen, ← hn] at c4 hrw
  obtain ⟨g, off, rfl, hg, k0, k1, k2, k3⟩ := RowR.at hrw i q hi
  have HL1 : Hid ((recCs q).length = 4) := Lib.hid rfl
  have HIX := Lib.hid (fun u => index_rec g off n rc i hin u)
  have hr4 : W.rangeAt g (off + i * 4) (recCs q) := fun j v hv => by
    match j, hv with
    | 0, hv => obtain rfl := Option.some.inj hv; exact k0
    | 1, hv => obtain rfl := Option.some.inj hv; exact k1
    | 2, hv => obtain rfl := Option.some.inj hv; exact k2
    | 3, hv => obtain rfl := Option.some.inj hv; exact k3
    | j + 4, hv => simp [recCs] at hv
  have HR4 := Lib.hid hr4
  clear hW hr hz0 hv hn hz h hst hi hlen k0 k1 k2 k3 hr4 hg hrw
  go_enter Tryd.func23, Tryd.ntmps23
  go_upto_region 1 with fail
  change Code.wp _ _ _ _ (w.alloc (.cells (recCs rec0).toArray 55))
  rw [← HW.out, ← HR.out]
  clear HW HR
  go_wp2_with (first
    | refine wpList_load_mid rfl 55 (.tmp 33) rfl g (off + i * 4) rfl (recCs q) _ HR4.out Tryd.underlying55 rfl (by rw [HL1.out]; exact HI.out) ?_
    | refine wpList_store_mid rfl 55 (.tmp 4) (.tmp 34) rfl r 0 (recCs q).toArray rfl rfl (by rw [List.size_toArray, HL1.out]; exact Blk.there HZ0.out (by rw [HL0.out]; decide)) (by rw [List.size_toArray, HL1.out]; exact HI.out) one_rec ?_)
  have hz := Blk.setAll (n := recCs q) HZ0.out (HL1.out.trans HL0.out.symm)
  exact bodyPost_ret (results_ctS (t := 4) (u := 5) (ty := 55) (b := r) rfl _ _ _ rfl (Blk.all hz) Tryd.underlying55 rfl (by rw [HL1.out]; exact HI.out)) rfl ⟨rfl, below_setCells hwr _ _ _ hb1⟩
theorem neq_fz (a b : FzR) (ha : FzOk a) (hb : FzOk b) (w : World) : (binOp .neq 44 (fzV a) (fzV b)).run Tryd.prog w = .ok (.bool (!decide (a = b))) w :=
  (eql_deepG 3 (by decide) (by kernel_rfl) (formed_fz a ha.root) (formed_fz b hb.root) (kl_fz 0 a ha) (kl_fz 0 b hb) ⟨fzLit_inj, fun h => by rw [h]⟩ w).2
theorem shFz_ok {S : Nat → Prop} {b : Nat} {x : ShR} {w : World} (h : Shd S b x w) : FzOk (shFz x) := by
  obtain ⟨vl, vr, Q, hv⟩ := h
  exact ⟨hv.wok, by have := hv.most; unfold i64R shFz; simp only; omega, shFz_root hv.l32⟩
/-- The state is pruned, the stone another one. -/
theorem ShV.setStn {S : Nat → Prop} {b : Nat} {x : ShR} {vl vr : Value} {Q : Hs} {w : World} (h : ShV S b x vl vr Q w) (t : StR) (ht : StLen t) : ShV S b ⟨x.win, x.st, x.lvs, x.rows, t⟩ vl vr Q (w.setCells b 1285 (stCs t)) := by
  have hlen : (shPre x vl ++ (fL x.lvs.length Q ++ [vr])).length = 1285 := by
    rw [List.length_append, List.length_append, fL_length _ _ h.fr.1 h.fr.2.1]; rfl
  have hb0 : Blk b 68 ((shPre x vl ++ (fL x.lvs.length Q ++ [vr])) ++ (stCs x.stn ++ [])) w := by
    have := h.blk
    unfold shPost at this
    simpa using this
  have hb := Blk.sets hb0 (n := stCs t) (by rw [stCs_length ht.1 ht.2, stCs_length h.stl.1 h.stl.2])
  rw [hlen] at hb
  have hb' : Blk b 68 (shPre ⟨x.win, x.st, x.lvs, x.rows, t⟩ vl ++ (fL x.lvs.length Q ++ shPost ⟨x.win, x.st, x.lvs, x.rows, t⟩ vr)) (w.setCells b 1285 (stCs t)) := by
    unfold shPost
    simpa [shPre] using hb
  have ko : Only b w (w.setCells b 1285 (stCs t)) := only_setCells _ _ _ (Only.refl b w)
  exact ⟨⟨h.fr.1, h.fr.2.1, rfl, hb'⟩, h.pk, h.ol.kept' fun g e => ko.block g (h.ol.lt g e).2 (h.neL g e), h.pr.kept' fun g e => ko.block g (h.pr.lt g e) (h.neR g e), fun e => (h.own e).kept' fun g e => ko.block g (h.pr.lt g e) (h.neR g e), h.inb, h.inl, h.inr, h.sk, ht, h.most, h.rle, h.req, h.wok⟩
theorem Shd.setStn {S : Nat → Prop} {b : Nat} {x : ShR} {w : World} (h : Shd S b x w) (t : StR) (ht : StLen t) : Shd S b ⟨x.win, x.st, x.lvs, x.rows, t⟩ (w.setCells b 1285 (stCs t)) := by
  obtain ⟨vl, vr, Q, h⟩ := h; exact ⟨vl, vr, Q, h.setStn t ht⟩
theorem Shd.setSt {S : Nat → Prop} {b : Nat} {x : ShR} {w : World} (h : Shd S b x w) (z : Int) (hz : x.st ≠ 2 ∨ z = 2) : Shd S b ⟨x.win, z, x.lvs, x.rows, x.stn⟩ (w.setCell ⟨b, 1, none⟩ (.int .i64 z)) := by
  obtain ⟨vl, vr, Q, h⟩ := h; exact ⟨vl, vr, Q, h.setSt z hz⟩
theorem Shd.cSt {S : Nat → Prop} {b : Nat} {x : ShR} {w : World} (h : Shd S b x w) : w.cell? ⟨b, 1, none⟩ = some (.int .i64 x.st) ∧ w.frozen? ⟨b, 1, none⟩ = false := by
  obtain ⟨vl, vr, Q, h⟩ := h; exact ⟨h.cSt, h.fr.fz 1⟩
theorem Shd.there {S : Nat → Prop} {b : Nat} {x : ShR} {w : World} (h : Shd S b x w) : w.there b 1285 67 := by
  obtain ⟨vl, vr, Q, h⟩ := h
  exact Blk.there h.blk (by simp [shPre, shPost, fL_length _ _ h.fr.1 h.fr.2.1, stCs_length h.stl.1 h.stl.2])
theorem Shd.sk {S : Nat → Prop} {b : Nat} {x : ShR} {w : World} (h : Shd S b x w) : S b ∧ ¬ S 0 := by
  obtain ⟨vl, vr, Q, h⟩ := h; exact ⟨h.inb, h.sk⟩
theorem Shd.ne {S : Nat → Prop} {b : Nat} {x : ShR} {w : World} (h : Shd S b x w) : b ≠ 0 := fun e => h.sk.2 (e ▸ h.sk.1)
theorem KT.belowB {B : Nat} {w w' : World} (hK : KT w) (h : Below B w w') (hB : 0 < B) : KT w' := fun i hi => (h.cell (p := ⟨_, _, none⟩) hB).trans (hK i hi)
set_option maxHeartbeats 3200000 in
set_option maxRecDepth 100000 in
theorem shPrune_nil (t : StR) (w : World) : Calls Tryd.prog 20 #[.pointer none, .agg (stCs t).toArray] w fun e w' => e = .returned (.int .i64 1) ∧ Below w.heap.size w w' := by
  obtain ⟨p, hp⟩ : ∃ p, p = w.heap.size := ⟨_, rfl⟩
  obtain ⟨W, hW⟩ : ∃ W, W = w.alloc (.cells (stCs t).toArray 49) := ⟨_, rfl⟩
  have hb1 : Below w.heap.size w W := by rw [hW]; exact below_boxS _ _
  have hz0 : StAt p t W := by rw [hW, hp]; exact Blk.alloc _ _ _
  have HW := Lib.hid hW
  have HP := Lib.hid hp
  clear hW hp hz0
  go_enter Tryd.func20, Tryd.ntmps20
  go_upto_region 1 with fail
  rw [← HW.out, ← HP.out]
  clear HW
  go_wp2
  go_ret
  exact ⟨rfl, hb1⟩
set_option maxHeartbeats 3200000 in
set_option maxRecDepth 100000 in
theorem shPrune_st {S : Nat → Prop} {b : Nat} {x : ShR} {w : World} (h : Shd S b x w) (t : StR) (hst : x.st ≠ 1) : Calls Tryd.prog 20 #[.pointer (some ⟨b, 0, none⟩), .agg (stCs t).toArray] w fun e w' => e = .returned (.int .i64 13) ∧ Below w.heap.size w w' := by
  obtain ⟨p, hp⟩ : ∃ p, p = w.heap.size := ⟨_, rfl⟩
  obtain ⟨W, hW⟩ : ∃ W, W = w.alloc (.cells (stCs t).toArray 49) := ⟨_, rfl⟩
  have hb1 : Below w.heap.size w W := by rw [hW]; exact below_boxS _ _
  have hz0 : StAt p t W := by rw [hW, hp]; exact Blk.alloc _ _ _
  have HW := Lib.hid hW
  have HP := Lib.hid hp
  have c1 := (h.old hb1).cSt.1
  obtain ⟨z, hz⟩ : ∃ z, z = x.st := ⟨_, rfl⟩
  rw [← hz] at c1
  have q1 : ¬ z = 1 := by omega
  have q2 : (z == 1) = false := by simpa using q1
  clear hW hp hz0 h hst hz
  go_enter Tryd.func20, Tryd.ntmps20
  go_upto_region 1 with fail
  rw [← HW.out, ← HP.out]
  clear HW
  go_wp2
  go_ret
  exact ⟨rfl, hb1⟩
set_option maxHeartbeats 3200000 in
set_option maxRecDepth 100000 in
theorem shPrune_fz {S : Nat → Prop} {b : Nat} {x : ShR} {w : World} (h : Shd S b x w) (t : StR) (ht : StOk t) (hst : x.st = 1) (hne : t.fz ≠ shFz x) (hK : KT w) : Calls Tryd.prog 20 #[.pointer (some ⟨b, 0, none⟩), .agg (stCs t).toArray] w fun e w' => e = .returned (.int .i64 1) ∧ Below w.heap.size w w' := by
  obtain ⟨p, hp⟩ : ∃ p, p = w.heap.size := ⟨_, rfl⟩
  obtain ⟨W, hW⟩ : ∃ W, W = w.alloc (.cells (stCs t).toArray 49) := ⟨_, rfl⟩
  have hb1 : Below w.heap.size w W := by rw [hW]; exact below_boxS _ _
  have hz0 : StAt p t W := by rw [hW, hp]; exact Blk.alloc _ _ _
  have HW := Lib.hid hW
  have HP := Lib.hid hp
  have hSW := h.old hb1
  have c1 := hSW.cSt.1
  rw [hst] at c1
  have HFR : Hid (∀ u, Below W.heap.size W u → Calls Tryd.prog 45 #[.pointer (some ⟨b, 0, none⟩)] u fun e w' => e = .returned (fzV (shFz x)) ∧ Below u.heap.size u w') := Lib.hid fun u hu => shFrz_any (hSW.old hu) ((hK.old hb1).old hu)
  obtain ⟨d, hd⟩ : ∃ d, d = decide (t.fz = shFz x) := ⟨_, rfl⟩
  have HNE : Hid (∀ u, (binOp .neq 44 (fzV t.fz) (fzV (shFz x))).run Tryd.prog u = .ok (.bool (!d)) u) := Lib.hid fun u => by rw [hd]; exact neq_fz _ _ ht.fz (shFz_ok h) u
  obtain rfl : d = false := by rw [hd]; exact decide_eq_false hne
  clear hd hne
  obtain ⟨G, hG⟩ : ∃ G, G = shFz x := ⟨_, rfl⟩
  rw [← hG] at HFR HNE
  have HZ := Lib.hid hz0
  have HTO := Lib.hid ht
  have HSW := Lib.hid hSW
  have HKT := Lib.hid (hK.old hb1)
  have HST := Lib.hid hst
  have HBS := Lib.hid (fun u => stBytes_any t ht.fz.root ht.mac u)
  clear hG h hst hK hW hp hz0 hSW ht
  go_enter Tryd.func20, Tryd.ntmps20
  go_upto_region 1 with fail
  rw [← HW.out, ← HP.out]
  clear HW
  go_upto_region 5 with fail
  try simp only [Act.put]
  refine wp_region_tab [RT.is (.pointer (some ⟨p, 0, none⟩)), RT.is (fzV t.fz), RT.is (.pointer (some ⟨b, 0, none⟩)), RT.is (fzV G), RT.is (.bool true), RT.is (.bool true)] (by kernel_rfl) (by kernel_rfl) (by kernel_rfl) (by kernel_rfl) ⟨?_, ?_, ?_, ?_, ?_, ?_, trivial⟩ ?_
  · intro ac w' hF hL hP hU K hK
    have hB := below_undrew hL
    have e3 : ac.eval (.tmp 3) = .pointer (some ⟨p, 0, none⟩) := hF.at 3 (by kernel_rfl)
    exact rop_fld _ _ _ rfl e3 ((fld_st0 p _).1) (wanted_none rfl) (hK _ _ (le8_refl _) rfl)
  · intro ac w' hF hL hP hU K hK
    have hB := below_undrew hL
    have e17 : ac.eval (.tmp 17) = .pointer (some ⟨p, 0, none⟩) := hP 0 (by kernel_rfl)
    exact rop_ld _ _ rfl e17 (load_fzAt (StAt.fz (show StAt p t _ from Blk.old HZ.out hB (Blk.lt HZ.out))) HTO.out.fz.root) (wanted_none rfl) (hK _ _ (le8_refl _) rfl)
  · intro ac w' hF hL hP hU K hK
    have hB := below_undrew hL
    have e0 : ac.eval (.tmp 0) = .pointer (some ⟨b, 0, none⟩) := hF.at 0 (by kernel_rfl)
    exact rop_move _ rfl e0 (wanted_none rfl) (hK _ _ (le8_refl _) rfl)
  · intro ac w' hF hL hP hU K hK
    have hB := below_undrew hL
    have e19 : ac.eval (.tmp 19) = .pointer (some ⟨b, 0, none⟩) := hP 2 (by kernel_rfl)
    refine rop_call 45 _ _ rfl #[.pointer (some ⟨b, 0, none⟩)] (by simp [e19]) (by kernel_rfl) (wanted_none rfl) ?_
    refine (HFR.out w' hB).mono ?_
    rintro e w2 ⟨rfl, hb⟩
    exact ⟨_, rfl, hK _ _ hb rfl⟩
  · intro ac w' hF hL hP hU K hK
    have hB := below_undrew hL
    have e18 : ac.eval (.tmp 18) = fzV t.fz := hP 1 (by kernel_rfl)
    have e20 : ac.eval (.tmp 20) = fzV G := hP 3 (by kernel_rfl)
    exact rop_bin _ _ _ _ _ rfl e18 e20 (guard_fz _ _ _ _ _ w') (HNE.out w') (wanted_none rfl) (hK _ _ (le8_refl _) rfl)
  · intro ac w' hF hL hP hU K hK
    have hB := below_undrew hL
    have e21 : ac.eval (.tmp 21) = .bool true := hP 4 (by kernel_rfl)
    exact rop_assign _ rfl e21 (wanted_none rfl) (hK _ _ (le8_refl _) rfl)
  · intro ac w' hF hB hT
    have e16 : ac.eval (.tmp 16) = .bool true := hT 5 (by decide)
    rw [hF.setsG [17, 18, 19, 20, 21, 16] (by kernel_rfl)]
    simp only [List.foldl_cons, List.foldl_nil, List.setIfInBounds_toArray, List.set_cons_succ, List.set_cons_zero, e16]
    generalize ac.eval (.tmp 17) = u17
    generalize ac.eval (.tmp 18) = u18
    generalize ac.eval (.tmp 19) = u19
    generalize ac.eval (.tmp 20) = u20
    generalize ac.eval (.tmp 21) = u21
    clear e16 hT hF ac
    replace hb1 := below_step hb1 (Nat.le_refl _) hB
    clear hB
    go_wp2
    try rw [Exit.noGoto_ret]
    go_ret
    exact ⟨rfl, hb1⟩
set_option maxHeartbeats 3200000 in
set_option maxRecDepth 100000 in
theorem shPrune_no {S : Nat → Prop} {b : Nat} {x : ShR} {w : World} (h : Shd S b x w) (t : StR) (ht : StOk t) (hst : x.st = 1) (he : t.fz = shFz x) (hno : stB t = false) (hK : KT w) : Calls Tryd.prog 20 #[.pointer (some ⟨b, 0, none⟩), .agg (stCs t).toArray] w fun e w' => e = .returned (.int .i64 1) ∧ Below w.heap.size w w' := by
  obtain ⟨p, hp⟩ : ∃ p, p = w.heap.size := ⟨_, rfl⟩
  obtain ⟨W, hW⟩ : ∃ W, W = w.alloc (.cells (stCs t).toArray 49) := ⟨_, rfl⟩
  have hb1 : Below w.heap.size w W := by rw [hW]; exact below_boxS _ _
  have hz0 : StAt p t W := by rw [hW, hp]; exact Blk.alloc _ _ _
  have HW := Lib.hid hW
  have HP := Lib.hid hp
  have hSW := h.old hb1
  have c1 := hSW.cSt.1
  rw [hst] at c1
  have HFR : Hid (∀ u, Below W.heap.size W u → Calls Tryd.prog 45 #[.pointer (some ⟨b, 0, none⟩)] u fun e w' => e = .returned (fzV (shFz x)) ∧ Below u.heap.size u w') := Lib.hid fun u hu => shFrz_any (hSW.old hu) ((hK.old hb1).old hu)
  obtain ⟨d, hd⟩ : ∃ d, d = decide (t.fz = shFz x) := ⟨_, rfl⟩
  have HNE : Hid (∀ u, (binOp .neq 44 (fzV t.fz) (fzV (shFz x))).run Tryd.prog u = .ok (.bool (!d)) u) := Lib.hid fun u => by rw [hd]; exact neq_fz _ _ ht.fz (shFz_ok h) u
  obtain rfl : d = true := by rw [hd]; exact decide_eq_true he
  have hz1 : stZ t = 1 := if_neg (by rw [hno]; decide)
  clear hd he hno
  obtain ⟨G, hG⟩ : ∃ G, G = shFz x := ⟨_, rfl⟩
  rw [← hG] at HFR HNE
  have HZ := Lib.hid hz0
  have HTO := Lib.hid ht
  have HSW := Lib.hid hSW
  have HKT := Lib.hid (hK.old hb1)
  have HST := Lib.hid hst
  have HBS := Lib.hid (fun u => stBytes_any t ht.fz.root ht.mac u)
  clear hG h hst hK hW hp hz0 hSW ht
  go_enter Tryd.func20, Tryd.ntmps20
  go_upto_region 1 with fail
  rw [← HW.out, ← HP.out]
  clear HW
  go_upto_region 5 with fail
  try simp only [Act.put]
  refine wp_region_tab [RT.is (.pointer (some ⟨p, 0, none⟩)), RT.is (fzV t.fz), RT.is (.pointer (some ⟨b, 0, none⟩)), RT.is (fzV G), RT.is (.bool false), RT.is (.bool false)] (by kernel_rfl) (by kernel_rfl) (by kernel_rfl) (by kernel_rfl) ⟨?_, ?_, ?_, ?_, ?_, ?_, trivial⟩ ?_
  · intro ac w' hF hL hP hU K hK
    have hB := below_undrew hL
    have e3 : ac.eval (.tmp 3) = .pointer (some ⟨p, 0, none⟩) := hF.at 3 (by kernel_rfl)
    exact rop_fld _ _ _ rfl e3 ((fld_st0 p _).1) (wanted_none rfl) (hK _ _ (le8_refl _) rfl)
  · intro ac w' hF hL hP hU K hK
    have hB := below_undrew hL
    have e17 : ac.eval (.tmp 17) = .pointer (some ⟨p, 0, none⟩) := hP 0 (by kernel_rfl)
    exact rop_ld _ _ rfl e17 (load_fzAt (StAt.fz (show StAt p t _ from Blk.old HZ.out hB (Blk.lt HZ.out))) HTO.out.fz.root) (wanted_none rfl) (hK _ _ (le8_refl _) rfl)
  · intro ac w' hF hL hP hU K hK
    have hB := below_undrew hL
    have e0 : ac.eval (.tmp 0) = .pointer (some ⟨b, 0, none⟩) := hF.at 0 (by kernel_rfl)
    exact rop_move _ rfl e0 (wanted_none rfl) (hK _ _ (le8_refl _) rfl)
  · intro ac w' hF hL hP hU K hK
    have hB := below_undrew hL
    have e19 : ac.eval (.tmp 19) = .pointer (some ⟨b, 0, none⟩) := hP 2 (by kernel_rfl)
    refine rop_call 45 _ _ rfl #[.pointer (some ⟨b, 0, none⟩)] (by simp [e19]) (by kernel_rfl) (wanted_none rfl) ?_
    refine (HFR.out w' hB).mono ?_
    rintro e w2 ⟨rfl, hb⟩
    exact ⟨_, rfl, hK _ _ hb rfl⟩
  · intro ac w' hF hL hP hU K hK
    have hB := below_undrew hL
    have e18 : ac.eval (.tmp 18) = fzV t.fz := hP 1 (by kernel_rfl)
    have e20 : ac.eval (.tmp 20) = fzV G := hP 3 (by kernel_rfl)
    exact rop_bin _ _ _ _ _ rfl e18 e20 (guard_fz _ _ _ _ _ w') (HNE.out w') (wanted_none rfl) (hK _ _ (le8_refl _) rfl)
  · intro ac w' hF hL hP hU K hK
    have hB := below_undrew hL
    have e21 : ac.eval (.tmp 21) = .bool false := hP 4 (by kernel_rfl)
    exact rop_assign _ rfl e21 (wanted_none rfl) (hK _ _ (le8_refl _) rfl)
  · intro ac w' hF hB hT
    have e16 : ac.eval (.tmp 16) = .bool false := hT 5 (by decide)
    rw [hF.setsG [17, 18, 19, 20, 21, 16] (by kernel_rfl)]
    simp only [List.foldl_cons, List.foldl_nil, List.setIfInBounds_toArray, List.set_cons_succ, List.set_cons_zero, e16]
    generalize ac.eval (.tmp 17) = u17
    generalize ac.eval (.tmp 18) = u18
    generalize ac.eval (.tmp 19) = u19
    generalize ac.eval (.tmp 20) = u20
    generalize ac.eval (.tmp 21) = u21
    clear e16 hT hF ac
    have HZ2 := Lib.hid (Blk.old HZ.out hB (Blk.lt HZ.out))
    have HS2 := Lib.hid (HSW.out.old hB)
    replace hb1 := below_step hb1 (Nat.le_refl _) hB
    clear hB c1
    have HI : Hid ((Tryd.prog.info? 49).map (·.size) = some (stCs t).length) := Lib.hid (by rw [stCs_length HTO.out.fz.root HTO.out.mac]; exact size_of info_st)
    rw [hz1] at HBS
    generalize stG t = g at HBS
    clear hz1
    go_wp2_with (first
      | refine wpList_load_mid rfl 49 (.tmp 3) rfl p 0 rfl (stCs t) _ (Blk.all HZ2.out) Tryd.underlying49 rfl HI.out ?_
      | (go_at_call 46; (refine (HBS.out _).mono ?_; rintro e w4 ⟨rfl, b4⟩)))
    replace hb1 := below_step hb1 (Nat.le_refl _) b4
    clear b4
    try rw [Exit.noGoto_ret]
    go_ret
    exact ⟨rfl, hb1⟩
set_option maxHeartbeats 3200000 in
set_option maxRecDepth 100000 in
theorem shPrune_ok {S : Nat → Prop} {b : Nat} {x : ShR} {w : World} (h : Shd S b x w) (t : StR) (ht : StOk t) (hst : x.st = 1) (he : t.fz = shFz x) (hyes : stB t = true) (hK : KT w) : Calls Tryd.prog 20 #[.pointer (some ⟨b, 0, none⟩), .agg (stCs t).toArray] w fun e w' => e = .returned (.int .i64 0) ∧ Shd S b ⟨x.win, 2, x.lvs, x.rows, t⟩ w' ∧ Only b w w' := by
  obtain ⟨p, hp⟩ : ∃ p, p = w.heap.size := ⟨_, rfl⟩
  obtain ⟨W, hW⟩ : ∃ W, W = w.alloc (.cells (stCs t).toArray 49) := ⟨_, rfl⟩
  have hb1 : Below w.heap.size w W := by rw [hW]; exact below_boxS _ _
  have hz0 : StAt p t W := by rw [hW, hp]; exact Blk.alloc _ _ _
  have HW := Lib.hid hW
  have HP := Lib.hid hp
  have hSW := h.old hb1
  have c1 := hSW.cSt.1
  rw [hst] at c1
  have HFR : Hid (∀ u, Below W.heap.size W u → Calls Tryd.prog 45 #[.pointer (some ⟨b, 0, none⟩)] u fun e w' => e = .returned (fzV (shFz x)) ∧ Below u.heap.size u w') := Lib.hid fun u hu => shFrz_any (hSW.old hu) ((hK.old hb1).old hu)
  obtain ⟨d, hd⟩ : ∃ d, d = decide (t.fz = shFz x) := ⟨_, rfl⟩
  have HNE : Hid (∀ u, (binOp .neq 44 (fzV t.fz) (fzV (shFz x))).run Tryd.prog u = .ok (.bool (!d)) u) := Lib.hid fun u => by rw [hd]; exact neq_fz _ _ ht.fz (shFz_ok h) u
  obtain rfl : d = true := by rw [hd]; exact decide_eq_true he
  have hz1 : stZ t = 0 := if_pos hyes
  have hpb : p ≠ b := by have := h.lt; omega
  have HPB := Lib.hid hpb
  clear hd he hyes hpb
  obtain ⟨G, hG⟩ : ∃ G, G = shFz x := ⟨_, rfl⟩
  rw [← hG] at HFR HNE
  have HZ := Lib.hid hz0
  have HTO := Lib.hid ht
  have HSW := Lib.hid hSW
  have HKT := Lib.hid (hK.old hb1)
  have HST := Lib.hid hst
  have HBS := Lib.hid (fun u => stBytes_any t ht.fz.root ht.mac u)
  clear hG h hst hK hW hp hz0 hSW ht
  go_enter Tryd.func20, Tryd.ntmps20
  go_upto_region 1 with fail
  rw [← HW.out, ← HP.out]
  clear HW
  go_upto_region 5 with fail
  try simp only [Act.put]
  refine wp_region_tab [RT.is (.pointer (some ⟨p, 0, none⟩)), RT.is (fzV t.fz), RT.is (.pointer (some ⟨b, 0, none⟩)), RT.is (fzV G), RT.is (.bool false), RT.is (.bool false)] (by kernel_rfl) (by kernel_rfl) (by kernel_rfl) (by kernel_rfl) ⟨?_, ?_, ?_, ?_, ?_, ?_, trivial⟩ ?_
  · intro ac w' hF hL hP hU K hK
    have hB := below_undrew hL
    have e3 : ac.eval (.tmp 3) = .pointer (some ⟨p, 0, none⟩) := hF.at 3 (by kernel_rfl)
    exact rop_fld _ _ _ rfl e3 ((fld_st0 p _).1) (wanted_none rfl) (hK _ _ (le8_refl _) rfl)
  · intro ac w' hF hL hP hU K hK
    have hB := below_undrew hL
    have e17 : ac.eval (.tmp 17) = .pointer (some ⟨p, 0, none⟩) := hP 0 (by kernel_rfl)
    exact rop_ld _ _ rfl e17 (load_fzAt (StAt.fz (show StAt p t _ from Blk.old HZ.out hB (Blk.lt HZ.out))) HTO.out.fz.root) (wanted_none rfl) (hK _ _ (le8_refl _) rfl)
  · intro ac w' hF hL hP hU K hK
    have hB := below_undrew hL
    have e0 : ac.eval (.tmp 0) = .pointer (some ⟨b, 0, none⟩) := hF.at 0 (by kernel_rfl)
    exact rop_move _ rfl e0 (wanted_none rfl) (hK _ _ (le8_refl _) rfl)
  · intro ac w' hF hL hP hU K hK
    have hB := below_undrew hL
    have e19 : ac.eval (.tmp 19) = .pointer (some ⟨b, 0, none⟩) := hP 2 (by kernel_rfl)
    refine rop_call 45 _ _ rfl #[.pointer (some ⟨b, 0, none⟩)] (by simp [e19]) (by kernel_rfl) (wanted_none rfl) ?_
    refine (HFR.out w' hB).mono ?_
    rintro e w2 ⟨rfl, hb⟩
    exact ⟨_, rfl, hK _ _ hb rfl⟩
  · intro ac w' hF hL hP hU K hK
    have hB := below_undrew hL
    have e18 : ac.eval (.tmp 18) = fzV t.fz := hP 1 (by kernel_rfl)
    have e20 : ac.eval (.tmp 20) = fzV G := hP 3 (by kernel_rfl)
    exact rop_bin _ _ _ _ _ rfl e18 e20 (guard_fz _ _ _ _ _ w') (HNE.out w') (wanted_none rfl) (hK _ _ (le8_refl _) rfl)
  · intro ac w' hF hL hP hU K hK
    have hB := below_undrew hL
    have e21 : ac.eval (.tmp 21) = .bool false := hP 4 (by kernel_rfl)
    exact rop_assign _ rfl e21 (wanted_none rfl) (hK _ _ (le8_refl _) rfl)
  · intro ac w' hF hB hT
    have e16 : ac.eval (.tmp 16) = .bool false := hT 5 (by decide)
    rw [hF.setsG [17, 18, 19, 20, 21, 16] (by kernel_rfl)]
    simp only [List.foldl_cons, List.foldl_nil, List.setIfInBounds_toArray, List.set_cons_succ, List.set_cons_zero, e16]
    generalize ac.eval (.tmp 17) = u17
    generalize ac.eval (.tmp 18) = u18
    generalize ac.eval (.tmp 19) = u19
    generalize ac.eval (.tmp 20) = u20
    generalize ac.eval (.tmp 21) = u21
    clear e16 hT hF ac
    have HZ2 := Lib.hid (Blk.old HZ.out hB (Blk.lt HZ.out))
    have HS2 := Lib.hid (HSW.out.old hB)
    replace hb1 := below_step hb1 (Nat.le_refl _) hB
    clear hB c1
    have HI : Hid ((Tryd.prog.info? 49).map (·.size) = some (stCs t).length) := Lib.hid (by rw [stCs_length HTO.out.fz.root HTO.out.mac]; exact size_of info_st)
    rw [hz1] at HBS
    generalize stG t = g at HBS
    clear hz1
    go_upto_region 10 with (first
      | refine wpList_load_mid rfl 49 (.tmp 3) rfl p 0 rfl (stCs t) _ (Blk.all HZ2.out) Tryd.underlying49 rfl HI.out ?_
      | (go_at_call 46; (refine (HBS.out _).mono ?_; rintro e w4 ⟨rfl, b4⟩)))
    obtain ⟨W4, hW4⟩ : ∃ u, u = w4 := ⟨_, rfl⟩
    subst hW4
    have HZ4 := Lib.hid (Blk.old HZ2.out b4 (Blk.lt HZ2.out))
    have HS4 := Lib.hid (HS2.out.old b4)
    replace hb1 := below_step hb1 (Nat.le_refl _) b4
    clear b4 HZ2 HS2 HBS
    try simp only [Act.put]
    refine wp_region_ph (Lx := GLf 0) [RXP.is (.pointer (some ⟨b, 0, none⟩)), RXP.is (.pointer (some ⟨b, 0, none⟩)), RXP.is (.agg (stCs t).toArray), RXP.is (.pointer (some ⟨b, 0, none⟩)), RXP.is (.pointer (some ⟨b, 1, none⟩)), RXP.any, RXP.is (.pointer (some ⟨b, 0, none⟩)), RXP.is (.pointer (some ⟨b, 1285, none⟩)), RXP.any] [5, 8] (fun k w' => Only b W4 w' ∧ (k = 0 → Shd S b x w') ∧ (k = 1 → Shd S b ⟨x.win, 2, x.lvs, x.rows, x.stn⟩ w') ∧ (k = 2 → Shd S b ⟨x.win, 2, x.lvs, x.rows, t⟩ w')) (by kernel_rfl) (by kernel_rfl) (by kernel_rfl) (by kernel_rfl) (by kernel_rfl) (⟨Only.of_below (below_drew (Below.refl _ _)), fun _ => HS4.out.old (below_drew (Below.refl _ _)), (fun h => absurd h (by decide)), (fun h => absurd h (by decide))⟩) ⟨?_, ?_, ?_, ?_, ?_, ?_, ?_, ?_, ?_, trivial⟩ ?_
    · intro ac w' ph hF hPh hlt hP hU K hK0
      have e0 : ac.eval (.tmp 0) = .pointer (some ⟨b, 0, none⟩) := hF.at 0 (by kernel_rfl)
      exact rop_move _ rfl e0 (wanted_none rfl) (hK0 _ _ GLf.same hPh rfl)
    · intro ac w' ph hF hPh hlt hP hU K hK0
      have e0 : ac.eval (.tmp 0) = .pointer (some ⟨b, 0, none⟩) := hF.at 0 (by kernel_rfl)
      exact rop_move _ rfl e0 (wanted_none rfl) (hK0 _ _ GLf.same hPh rfl)
    · intro ac w' ph hF hPh hlt hP hU K hK0
      have e3 : ac.eval (.tmp 3) = .pointer (some ⟨p, 0, none⟩) := hF.at 3 (by kernel_rfl)
      exact rop_ld _ _ rfl e3 (load_stAt (Blk.all (Blk.kept HZ4.out (hPh.1) HPB.out)) HTO.out.fz.root HTO.out.mac) (wanted_none rfl) (hK0 _ _ GLf.same hPh rfl)
    · intro ac w' ph hF hPh hlt hP hU K hK0
      have e30 : ac.eval (.tmp 30) = .pointer (some ⟨b, 0, none⟩) := hP 0 (by kernel_rfl)
      exact rop_nilG _ rfl e30 (wanted_none rfl) (hK0 _ _ GLf.same hPh rfl)
    · intro ac w' ph hF hPh hlt hP hU K hK0
      have e33 : ac.eval (.tmp 33) = .pointer (some ⟨b, 0, none⟩) := hP 3 (by kernel_rfl)
      exact rop_fld _ _ _ rfl e33 ((fld_sh b _).2.1) (wanted_none rfl) (hK0 _ _ GLf.same hPh rfl)
    · intro ac w' ph hF hPh hlt hP hU K hK0
      obtain rfl : ph = 0 := (hlt 0 5 rfl).1 rfl
      have e34 : ac.eval (.tmp 34) = .pointer (some ⟨b, 1, none⟩) := hP 4 (by kernel_rfl)
      have hs := (hPh.2.1 rfl)
      exact rop_storeG _ _ _ rfl e34 rfl (store_intS hs.cSt.1 hs.cSt.2) (wanted_none rfl) (hK0 _ _ (GLf.own (by decide)) ⟨hPh.1.setCell 1 _, (fun h => absurd h (by decide)), (fun _ => hs.setSt 2 (.inr rfl)), (fun h => absurd h (by decide))⟩ trivial)
    · intro ac w' ph hF hPh hlt hP hU K hK0
      have e31 : ac.eval (.tmp 31) = .pointer (some ⟨b, 0, none⟩) := hP 1 (by kernel_rfl)
      exact rop_nilG _ rfl e31 (wanted_none rfl) (hK0 _ _ GLf.same hPh rfl)
    · intro ac w' ph hF hPh hlt hP hU K hK0
      have e35 : ac.eval (.tmp 35) = .pointer (some ⟨b, 0, none⟩) := hP 6 (by kernel_rfl)
      exact rop_fld _ _ _ rfl e35 ((fld_sh b _).2.2.2.2.2) (wanted_none rfl) (hK0 _ _ GLf.same hPh rfl)
    · intro ac w' ph hF hPh hlt hP hU K hK0
      obtain rfl : ph = 1 := (hlt 1 8 rfl).1 rfl
      have e36 : ac.eval (.tmp 36) = .pointer (some ⟨b, 1285, none⟩) := hP 7 (by kernel_rfl)
      have e32 : ac.eval (.tmp 32) = .agg (stCs t).toArray := hP 2 (by kernel_rfl)
      have hs := (hPh.2.2.1 rfl)
      exact rop_storeG _ _ _ rfl e36 e32 (store_stS hs.there HTO.out.fz.root HTO.out.mac) (wanted_none rfl) (hK0 _ _ (GLf.own (by decide)) ⟨only_setCells _ _ _ hPh.1, (fun h => absurd h (by decide)), (fun h => absurd h (by decide)), (fun _ => hs.setStn t ⟨HTO.out.fz.root, HTO.out.mac⟩)⟩ trivial)
    · intro ac w' hF hPh hT
      rw [hF.setsG [30, 31, 32, 33, 34, 35, 36] (by kernel_rfl)]
      simp only [List.foldl_cons, List.foldl_nil, List.setIfInBounds_toArray, List.set_cons_succ, List.set_cons_zero]
      generalize ac.eval (.tmp 30) = u30
      generalize ac.eval (.tmp 31) = u31
      generalize ac.eval (.tmp 32) = u32
      generalize ac.eval (.tmp 33) = u33
      generalize ac.eval (.tmp 34) = u34
      generalize ac.eval (.tmp 35) = u35
      generalize ac.eval (.tmp 36) = u36
      clear  hT hF ac
      have hs := hPh.2.2.2 rfl
      have ho := (Only.of_below (b := b) hb1).trans hPh.1
      clear hPh
      go_wp2
      try rw [Exit.noGoto_ret]
      go_ret
      exact ⟨rfl, hs, ho⟩
end Go.Proofs.YtollcdalokhjaaaDoor
/-! ## Package shard: New, Path, Copy, Strip. -/
namespace Go.Proofs.YtollcdalokhjaaaDoor
open Go.RowKit

theorem isWin_any (n : Int) (w : World) : Calls Tryd.prog 50 #[.int .i64 n] w fun e w' => e = .returned (.bool (timB n)) ∧ w = w' := by
  unfold timB mayB
  by_cases h : 0 ≤ n
  · rw [decide_eq_true h, Bool.true_and]
    go_enter Tryd.func50, Tryd.ntmps50
    go_wp2
    go_ret
    exact ⟨rfl, rfl⟩
  · rw [decide_eq_false h, Bool.false_and]
    go_enter Tryd.func50, Tryd.ntmps50
    go_wp2
    go_ret
    exact ⟨rfl, rfl⟩
/-- A shard without records. -/
def sh0 (z : Int) : ShR := ⟨z, 0, [], [], st0⟩
/-- Its cells. -/
def shZ (z : Int) : List Value := shPre (sh0 z) (.slice none 0 0) ++ (fL 0 zQ ++ shPost (sh0 z) (.slice none 0 0))
set_option maxRecDepth 1000000 in
theorem built_sh (z : Int) : Tryd.prog.built 68 [(0, .int .i64 z)] = some (shZ z).toArray := by kernel_rfl
set_option maxRecDepth 1000000 in
theorem built_sh0 : Tryd.prog.built 68 [] = some (shZ 0).toArray := by kernel_rfl
set_option maxRecDepth 1000000 in
theorem info_sh : (Tryd.prog.info? 68).map (fun i => (i.zero, i.size)) = some (some (.agg (shZ 0).toArray), 1352) := by kernel_rfl
theorem shd_new (w : World) (z : Int) (hz : i64R z) (hK : KT w) : Shd (fun k => w.heap.size ≤ k) w.heap.size (sh0 z) (w.alloc (.cells (shZ z).toArray 68)) := by
  refine ⟨.slice none 0 0, .slice none 0 0, zQ, ?_⟩
  have hb : Blk w.heap.size 68 (shZ z) (w.alloc (.cells (shZ z).toArray 68)) := Blk.alloc _ _ _
  exact ⟨⟨zQ_len, zQ_all, rfl, hb⟩, (by show List.take (Tree.ones 0) zQ = []; rw [Tree.ones_zero]; rfl), OwnS.nil _ _, PreR.nil _, fun _ => OwnR.nil _ _, Nat.le_refl _, (fun g e => by cases e), (fun g e => by cases e), (by have := hK.pos; omega), ⟨z32_length, z32_length⟩, Nat.zero_le _, Nat.zero_le _, fun _ => rfl, hz⟩
set_option maxHeartbeats 1600000 in
set_option maxRecDepth 100000 in
theorem shNew_any (z : Int) (hz : timB z = true) (w : World) (hK : KT w) : Calls Tryd.prog 32 #[.int .i64 z] w fun e w' => e = .returned (.pointer (some ⟨w.heap.size, 0, none⟩)) ∧ Shd (fun k => w.heap.size ≤ k) w.heap.size (sh0 z) w' ∧ Below w.heap.size w w' := by
  have hz' := (timB_iff z).1 hz
  have HS := Lib.hid (shd_new w z (by unfold i64R; omega) hK)
  have HB := Lib.hid (built_sh z)
  have q := isWin_any z
  rw [hz] at q
  obtain ⟨Z, hZ⟩ : ∃ Z, Z = shZ z := ⟨_, rfl⟩
  rw [← hZ] at HS HB
  clear hZ hz hz' hK
  go_enter Tryd.func32, Tryd.ntmps32
  go_wp2_with (first
    | (go_at_call 50; ((with_reducible refine (q _).mono ?_); rintro e w1 ⟨rfl, rfl⟩))
    | refine wpList_build_at rfl 68 #[(0, .tmp 6)] rfl Z.toArray [(0, .int .i64 z)] (by simp [Act.eval]) HB.out ?_)
  go_ret
  exact ⟨rfl, HS.out, below_boxS _ _⟩
theorem shNew_no (z : Int) (hz : timB z = false) (w : World) : Calls Tryd.prog 32 #[.int .i64 z] w fun e w' => e = .returned (.pointer none) ∧ w = w' := by
  have q := isWin_any z
  rw [hz] at q
  clear hz
  go_enter Tryd.func32, Tryd.ntmps32
  go_wp2_with (go_at_call 50; ((with_reducible refine (q _).mono ?_); rintro e w1 ⟨rfl, rfl⟩))
  go_ret
  exact ⟨rfl, rfl⟩
/-- The first k, with no room behind. -/
theorem Sums.headC {w : World} {a : Option Addr} {n cap : Nat} {l : Hs} (h : Sums w (.slice a n cap) l) (k : Nat) (hk : k ≤ l.length) : Sums w (.slice a k k) (l.take k) := by
  obtain ⟨a', cap', e, h1, h2, h3, h4, h5⟩ := h
  injection e with e1 e2 e3
  subst e1 e2 e3
  have hl : (l.take k).length = k := by rw [List.length_take]; omega
  refine ⟨a, k, by rw [hl], by omega, by omega, fun e => by have := h3 e; omega, h4.take k, fun hn => ?_⟩
  obtain ⟨b, off, rfl, hb, hj⟩ := h5 (by omega)
  exact ⟨b, off, rfl, hb, fun j h => by rw [List.getElem_take]; exact hj j (by omega)⟩

theorem shPath_nil (i n : Int) (w : World) : Calls Tryd.prog 12 #[.pointer none, .int .i64 i, .int .i64 n] w fun e w' => e = .returned (.tuple #[.slice none 0 0, .int .i64 1]) ∧ w = w' := by
  go_enter Tryd.func12, Tryd.ntmps12
  go_wp2
  try rw [Exit.noGoto_ret]
  go_ret2
  exact ⟨rfl, rfl⟩
set_option maxHeartbeats 1600000 in
theorem shPath_no {S : Nat → Prop} {b : Nat} {x : ShR} {w : World} (h : Shd S b x w) (i m : Int) (hm : m < 1 ∨ (x.lvs.length : Int) < m) : Calls Tryd.prog 12 #[.pointer (some ⟨b, 0, none⟩), .int .i64 i, .int .i64 m] w fun e w' => e = .returned (.tuple #[.slice none 0 0, .int .i64 19]) ∧ w = w' := by
  obtain ⟨vl, vr, Q, hv⟩ := h
  have c2 := hv.cLvs
  obtain ⟨va, cap, rfl, -⟩ := hv.ol.sums.slice
  obtain ⟨n, hn⟩ : ∃ n, n = x.lvs.length := ⟨_, rfl⟩
  rw [← hn] at c2 hm
  clear hv hn
  by_cases h1 : m < 1
  · clear hm
    go_enter Tryd.func12, Tryd.ntmps12
    go_wp2
    try rw [Exit.noGoto_ret]
    go_ret2
    exact ⟨rfl, rfl⟩
  · have h2 : (n : Int) < m := by omega
    clear hm
    go_enter Tryd.func12, Tryd.ntmps12
    go_wp2
    try rw [Exit.noGoto_ret]
    go_ret2
    exact ⟨rfl, rfl⟩
set_option maxHeartbeats 1600000 in
set_option maxRecDepth 100000 in
theorem shPath_none {S : Nat → Prop} {b : Nat} {x : ShR} {w : World} (h : Shd S b x w) (i : Int) (m : Nat) (hm1 : 1 ≤ m) (hm : m ≤ x.lvs.length) (hi : ¬ (0 ≤ i ∧ i < (m : Int))) (hK : KT w) : Calls Tryd.prog 12 #[.pointer (some ⟨b, 0, none⟩), .int .i64 i, .int .i64 (m : Int)] w fun e w' => e = .returned (.tuple #[.slice none 0 0, .int .i64 19]) ∧ Below w.heap.size w w' := by
  obtain ⟨vl, vr, Q, hv⟩ := h
  have c2 := hv.cLvs
  have hsm := hv.ol.sums
  have hmost := hv.most
  obtain ⟨va, cap, rfl, hcp, -⟩ := hv.ol.sums.slice
  have HPT := Lib.hid (path_any _ (x.lvs.take m) i w (Sums.headC hsm m hm) (by rw [List.length_take]; omega) hK)
  obtain ⟨n, hn⟩ : ∃ n, n = x.lvs.length := ⟨_, rfl⟩
  rw [← hn] at c2 hcp hm
  have HCUT := Lib.hid (fun u => scut_hm va n cap m (by omega) u)
  have q1 : ¬ (m : Int) < 1 := by omega
  have q2 : ¬ (n : Int) < (m : Int) := by omega
  have hz := pathZ_f (x.lvs.take m) i (by rw [List.length_take, Nat.min_eq_left (by omega)]; exact hi)
  rw [hz] at HPT
  simp only at HPT
  clear hz hi
  clear hv hn hsm hmost hm hm1 hcp hK
  go_enter Tryd.func12, Tryd.ntmps12
  go_wp2_with (first
    | refine wpList_slice_runS rfl 27 (.tmp 27) none (some (.tmp 28)) (some (.tmp 29)) rfl (u := .slice va n cap) (lo' := none) (hi' := some (.int .i64 (m : Int))) (mx' := some (.int .i64 (m : Int))) rfl rfl rfl rfl (HCUT.out _) ?_
    | (go_at_call 34; (refine HPT.out.mono ?_; rintro e w2 ⟨v2, rfl, ho, hb⟩)))
  try rw [Exit.noGoto_ret]
  go_ret2
  exact ⟨rfl, hb⟩
set_option maxHeartbeats 1600000 in
set_option maxRecDepth 100000 in
theorem shPath_ok {S : Nat → Prop} {b : Nat} {x : ShR} {w : World} (h : Shd S b x w) (i : Int) (m : Nat) (hm1 : 1 ≤ m) (hm : m ≤ x.lvs.length) (hi : 0 ≤ i ∧ i < (m : Int)) (hK : KT w) : Calls Tryd.prog 12 #[.pointer (some ⟨b, 0, none⟩), .int .i64 i, .int .i64 (m : Int)] w fun e w' => ∃ v', e = .returned (.tuple #[v', .int .i64 0]) ∧ OwnS w.heap.size w' v' (Tree.path (x.lvs.take m) i.toNat) ∧ Below w.heap.size w w' := by
  obtain ⟨vl, vr, Q, hv⟩ := h
  have c2 := hv.cLvs
  have hsm := hv.ol.sums
  have hmost := hv.most
  obtain ⟨va, cap, rfl, hcp, -⟩ := hv.ol.sums.slice
  have HPT := Lib.hid (path_any _ (x.lvs.take m) i w (Sums.headC hsm m hm) (by rw [List.length_take]; omega) hK)
  obtain ⟨n, hn⟩ : ∃ n, n = x.lvs.length := ⟨_, rfl⟩
  rw [← hn] at c2 hcp hm
  have HCUT := Lib.hid (fun u => scut_hm va n cap m (by omega) u)
  have q1 : ¬ (m : Int) < 1 := by omega
  have q2 : ¬ (n : Int) < (m : Int) := by omega
  have hz : pathZ (x.lvs.take m) i = (Tree.path (x.lvs.take m) i.toNat, true) := if_pos (by rw [List.length_take, Nat.min_eq_left (by omega)]; exact hi)
  rw [hz] at HPT
  simp only at HPT
  clear hz hi
  clear hv hn hsm hmost hm hm1 hcp hK
  go_enter Tryd.func12, Tryd.ntmps12
  go_wp2_with (first
    | refine wpList_slice_runS rfl 27 (.tmp 27) none (some (.tmp 28)) (some (.tmp 29)) rfl (u := .slice va n cap) (lo' := none) (hi' := some (.int .i64 (m : Int))) (mx' := some (.int .i64 (m : Int))) rfl rfl rfl rfl (HCUT.out _) ?_
    | (go_at_call 34; (refine HPT.out.mono ?_; rintro e w2 ⟨v2, rfl, ho, hb⟩)))
  try rw [Exit.noGoto_ret]
  go_ret2
  exact ⟨v2, rfl, ho, hb⟩
theorem row_onlyS {B b : Nat} {w w' : World} {v : Value} {l : Hs} (h : OwnS B w v l) (o : Only b w w') (hb : b < B) : OwnS B w' v l := h.kept' fun g e => o.block g (h.lt g e).2 (by have := (h.lt g e).1; omega)
theorem store_slS {b o : Nat} {a : Option Addr} {n c : Nat} {v : Value} {w : World} (h : w.cell? ⟨b, o, none⟩ = some v) (f : w.frozen? ⟨b, o, none⟩ = false) : (Instr.storeAt 27 (.pointer (some ⟨b, o, none⟩)) (.slice a n c)).run Tryd.prog w = .ok () (w.setCell ⟨b, o, none⟩ (.slice a n c)) := by go_simp
theorem store_slR {b o : Nat} {a : Option Addr} {n c : Nat} {v : Value} {w : World} (h : w.cell? ⟨b, o, none⟩ = some v) (f : w.frozen? ⟨b, o, none⟩ = false) : (Instr.storeAt 58 (.pointer (some ⟨b, o, none⟩)) (.slice a n c)).run Tryd.prog w = .ok () (w.setCell ⟨b, o, none⟩ (.slice a n c)) := by go_simp
theorem shCopy_nil (w : World) : Calls Tryd.prog 27 #[.pointer none] w fun e w' => e = .returned (.pointer none) ∧ w = w' := by
  go_enter Tryd.func27, Tryd.ntmps27
  go_wp2
  go_ret
  exact ⟨rfl, rfl⟩
set_option maxHeartbeats 6400000 in
set_option maxRecDepth 1000000 in
theorem shCopy_any {S : Nat → Prop} {b : Nat} {x : ShR} {w : World} (h : Shd S b x w) (hst : x.st ≠ 2) (hK : KT w) : Calls Tryd.prog 27 #[.pointer (some ⟨b, 0, none⟩)] w fun e w' => e = .returned (.pointer (some ⟨w.heap.size, 0, none⟩)) ∧ Shd (fun k => w.heap.size ≤ k) w.heap.size x w' ∧ Below w.heap.size w w' := by
  obtain ⟨vl, vr, Q, hv⟩ := h
  obtain ⟨va, cap, rfl, -⟩ := hv.ol.sums.slice
  obtain ⟨ra, rc, rfl⟩ := hv.pr.slice
  obtain ⟨X, hX⟩ : ∃ X, X = shPre x (.slice va x.lvs.length cap) ++ (fL x.lvs.length Q ++ shPost x (.slice ra x.rows.length rc)) := ⟨_, rfl⟩
  obtain ⟨Z, hZ⟩ : ∃ Z, Z = shZ 0 := ⟨_, rfl⟩
  have hz := (zero_of_info info_sh).1
  have hFL := fL_length x.lvs.length Q hv.fr.1 hv.fr.2.1
  have hXl : X.length = 1352 := by rw [hX]; simp [shPre, shPost, hFL, stCs_length hv.stl.1 hv.stl.2]
  have hZl : Z.length = 1352 := by rw [hZ]; simp [shZ, shPre, shPost, sh0, fL_length 0 zQ zQ_len zQ_all, show (stCs st0).length = 67 from rfl]
  have hrg : w.rangeAt b 0 X := by rw [hX]; exact Blk.all hv.blk
  have hone : X.toArray.all (·.oneCell') = true := by
    rw [hX]
    refine all_oneCell_toArray fun u hu => ?_
    have h1 := fL_one x.lvs.length Q
    have h2 := one_st (f := x.stn)
    rw [List.all_toArray, List.all_eq_true] at h1 h2
    simp only [shPre, shPost, List.mem_append, List.mem_cons, List.not_mem_nil, or_false] at hu
    rcases hu with (rfl | rfl | rfl) | hu | rfl | hu
    · rfl
    · rfl
    · rfl
    · exact h1 u hu
    · rfl
    · exact h2 u hu
  rw [← hZ] at hz
  obtain ⟨c, hc⟩ : ∃ c, c = w.heap.size := ⟨_, rfl⟩
  obtain ⟨V, hV⟩ : ∃ V, V = (w.alloc (.cells Z.toArray 68)).setCells c 0 X := ⟨_, rfl⟩
  have hcZ : Blk c 68 Z (w.alloc (.cells Z.toArray 68)) := by rw [hc]; exact Blk.alloc _ _ _
  have hcX : Blk c 68 X V := by rw [hV]; exact Blk.setAll hcZ (by rw [hXl, hZl])
  have b1 : Below w.heap.size w V := by rw [hV, hc]; exact below_setCells (Nat.le_refl _) _ _ _ (below_boxS _ _)
  have hvV := hv.old b1
  have hbc : b ≠ c := by have := hv.lt; omega
  have HTH : Hid ((w.alloc (.cells Z.toArray 68)).there c 0 X.toArray.size) := Lib.hid (by rw [List.size_toArray, hXl]; exact Blk.there hcZ (by rw [hZl]; decide))
  have HIX : Hid ((Tryd.prog.info? 68).map (·.size) = some X.length) := Lib.hid (by rw [hXl]; exact size_of info_sh)
  have HIA : Hid ((Tryd.prog.info? 68).map (·.size) = some X.toArray.size) := Lib.hid (by rw [List.size_toArray, hXl]; exact size_of info_sh)
  have HCL : Hid (∀ u, Below V.heap.size V u → Calls Tryd.prog 33 #[.slice va x.lvs.length cap] u fun e w' => ∃ v', e = .returned v' ∧ OwnS u.heap.size w' v' x.lvs ∧ Below u.heap.size u w') := Lib.hid fun u hu => sclone_any _ _ u (hvV.ol.sums.old hu) (by have := hv.most; omega)
  have HCR : Hid (∀ u, Below V.heap.size V u → Calls Tryd.prog 49 #[.slice ra x.rows.length rc] u fun e w' => ∃ v', e = .returned v' ∧ OwnR u.heap.size w' v' x.rows ∧ Below u.heap.size u w') := Lib.hid fun u hu => rclone_any _ _ u (hvV.pr.old hu) (by have := hv.most; have := hv.rle; omega)
  have HBL : Hid (b < V.heap.size) := Lib.hid hvV.lt
  have HBC := Lib.hid hbc
  rw [hX] at hcX
  have HC := Lib.hid hcX
  have HFL := Lib.hid hFL
  have HCW : Hid (w.heap.size = c) := Lib.hid hc.symm
  have HSK : Hid (¬ c ≤ 0) := Lib.hid (by have := hK.pos; omega)
  have HST := Lib.hid hst
  have HRG := Lib.hid hrg
  have HO := Lib.hid hone
  have HV0 := Lib.hid hV
  have HV := Lib.hid hvV
  have B1 := Lib.hid b1
  clear hv hcX hcZ hV hc hX hZ hXl hZl hrg hone b1 hvV hbc hFL hK hst
  obtain ⟨n, hn⟩ : ∃ n, n = x.lvs.length := ⟨_, rfl⟩
  obtain ⟨m, hm⟩ : ∃ m, m = x.rows.length := ⟨_, rfl⟩
  go_enter Tryd.func27, Tryd.ntmps27
  go_upto_region 4 with (first
    | refine wpList_load_mid rfl 68 (.tmp 7) rfl b 0 rfl X _ HRG.out Tryd.underlying68 rfl HIX.out ?_
    | refine wpList_store_mid (w := w.alloc (.cells Z.toArray 68)) rfl 68 (.tmp 3) (.tmp 8) rfl c 0 X.toArray (by rw [← HCW.out]; rfl) rfl HTH.out HIA.out HO.out ?_)
  change Code.wp _ _ _ _ ((w.alloc (.cells Z.toArray 68)).setCells c 0 X)
  rw [← HV0.out, HCW.out]
  clear HV0 HTH HIA HIX HO HRG hz
  try simp only [Act.put]
  refine wp_region_ph (Lx := fun _ _ u u' => Only c u u') [RXP.is (.pointer (some ⟨b, 0, none⟩)), RXP.is (.pointer (some ⟨b, 0, none⟩)), RXP.is (.pointer (some ⟨b, 2, none⟩)), RXP.is (.slice va x.lvs.length cap), ⟨fun _ v u => OwnS V.heap.size u v x.lvs, fun _ _ _ _ _ h k => row_onlyS h k HC.out.lt⟩, RXP.is (.pointer (some ⟨b, 0, none⟩)), RXP.is (.pointer (some ⟨b, 0, none⟩)), RXP.is (.pointer (some ⟨b, 1284, none⟩)), RXP.is (.slice ra x.rows.length rc), ⟨fun _ v u => OwnR V.heap.size u v x.rows, fun _ _ _ _ _ h k => OwnR.only h k HC.out.lt⟩, RXP.is (.pointer (some ⟨c, 2, none⟩)), RXP.any, RXP.is (.pointer (some ⟨c, 1284, none⟩)), RXP.any] [4, 9, 11, 13] (fun k w' => Only c V w' ∧ (k ≤ 2 → Below V.heap.size V w') ∧ (k = 3 → ∃ v1, Blk c 68 ([.int .i64 x.win, .int .i64 x.st, v1] ++ (fL x.lvs.length Q ++ shPost x (.slice ra x.rows.length rc))) w' ∧ OwnS V.heap.size w' v1 x.lvs) ∧ (k = 4 → ∃ v1 v2, Blk c 68 ([.int .i64 x.win, .int .i64 x.st, v1] ++ (fL x.lvs.length Q ++ shPost x v2)) w' ∧ OwnS V.heap.size w' v1 x.lvs ∧ OwnR V.heap.size w' v2 x.rows)) (by kernel_rfl) (by kernel_rfl) (by kernel_rfl) (by kernel_rfl) (by kernel_rfl) (⟨Only.of_below (below_drew (Below.refl _ _)), fun _ => below_drew (Below.refl _ _), (fun h => absurd h (by decide)), (fun h => absurd h (by decide))⟩) ⟨?_, ?_, ?_, ?_, ?_, ?_, ?_, ?_, ?_, ?_, ?_, ?_, ?_, ?_, trivial⟩ ?_
  · intro ac w' ph hF hPh hlt hP hU K hK0
    have e0 : ac.eval (.tmp 0) = .pointer (some ⟨b, 0, none⟩) := hF.at 0 (by kernel_rfl)
    exact rop_move _ rfl e0 (wanted_none rfl) (hK0 _ _ (Only.refl _ _) hPh rfl)
  · intro ac w' ph hF hPh hlt hP hU K hK0
    have e9 : ac.eval (.tmp 9) = .pointer (some ⟨b, 0, none⟩) := hP 0 (by kernel_rfl)
    exact rop_nilG _ rfl e9 (wanted_none rfl) (hK0 _ _ (Only.refl _ _) hPh rfl)
  · intro ac w' ph hF hPh hlt hP hU K hK0
    have e10 : ac.eval (.tmp 10) = .pointer (some ⟨b, 0, none⟩) := hP 1 (by kernel_rfl)
    exact rop_fld _ _ _ rfl e10 ((fld_sh b _).2.2.1) (wanted_none rfl) (hK0 _ _ (Only.refl _ _) hPh rfl)
  · intro ac w' ph hF hPh hlt hP hU K hK0
    have e11 : ac.eval (.tmp 11) = .pointer (some ⟨b, 2, none⟩) := hP 2 (by kernel_rfl)
    exact rop_ld _ _ rfl e11 (load_slS ((hPh.1.cell HBL.out HBC.out).trans HV.out.cLvs)) (wanted_none rfl) (hK0 _ _ (Only.refl _ _) hPh rfl)
  · intro ac w' ph hF hPh hlt hP hU K hK0
    obtain rfl : ph = 0 := (hlt 0 4 rfl).1 rfl
    have e12 : ac.eval (.tmp 12) = .slice va x.lvs.length cap := hP 3 (by kernel_rfl)
    refine rop_call 33 _ _ rfl #[.slice va x.lvs.length cap] (by simp [e12]) (by kernel_rfl) (wanted_none rfl) ?_
    refine (HCL.out w' (hPh.2.1 (by decide))).mono ?_
    rintro e w2 ⟨v2, rfl, ho, hb⟩
    exact ⟨_, rfl, hK0 _ _ (Only.of_below hb) ⟨hPh.1.trans (Only.of_below hb), fun _ => below_step (hPh.2.1 (by decide)) (Nat.le_refl _) hb, (fun h => absurd h (by decide)), (fun h => absurd h (by decide))⟩ (ho.lower hPh.1.size)⟩
  · intro ac w' ph hF hPh hlt hP hU K hK0
    have e0 : ac.eval (.tmp 0) = .pointer (some ⟨b, 0, none⟩) := hF.at 0 (by kernel_rfl)
    exact rop_move _ rfl e0 (wanted_none rfl) (hK0 _ _ (Only.refl _ _) hPh rfl)
  · intro ac w' ph hF hPh hlt hP hU K hK0
    have e14 : ac.eval (.tmp 14) = .pointer (some ⟨b, 0, none⟩) := hP 5 (by kernel_rfl)
    exact rop_nilG _ rfl e14 (wanted_none rfl) (hK0 _ _ (Only.refl _ _) hPh rfl)
  · intro ac w' ph hF hPh hlt hP hU K hK0
    have e15 : ac.eval (.tmp 15) = .pointer (some ⟨b, 0, none⟩) := hP 6 (by kernel_rfl)
    exact rop_fld _ _ _ rfl e15 ((fld_sh b _).2.2.2.2.1) (wanted_none rfl) (hK0 _ _ (Only.refl _ _) hPh rfl)
  · intro ac w' ph hF hPh hlt hP hU K hK0
    have e16 : ac.eval (.tmp 16) = .pointer (some ⟨b, 1284, none⟩) := hP 7 (by kernel_rfl)
    exact rop_ld _ _ rfl e16 (load_slR ((hPh.1.cell HBL.out HBC.out).trans HV.out.cRows)) (wanted_none rfl) (hK0 _ _ (Only.refl _ _) hPh rfl)
  · intro ac w' ph hF hPh hlt hP hU K hK0
    obtain rfl : ph = 1 := (hlt 1 9 rfl).1 rfl
    have e17 : ac.eval (.tmp 17) = .slice ra x.rows.length rc := hP 8 (by kernel_rfl)
    refine rop_call 49 _ _ rfl #[.slice ra x.rows.length rc] (by simp [e17]) (by kernel_rfl) (wanted_none rfl) ?_
    refine (HCR.out w' (hPh.2.1 (by decide))).mono ?_
    rintro e w2 ⟨v2, rfl, ho, hb⟩
    exact ⟨_, rfl, hK0 _ _ (Only.of_below hb) ⟨hPh.1.trans (Only.of_below hb), fun _ => below_step (hPh.2.1 (by decide)) (Nat.le_refl _) hb, (fun h => absurd h (by decide)), (fun h => absurd h (by decide))⟩ (ho.lower hPh.1.size)⟩
  · intro ac w' ph hF hPh hlt hP hU K hK0
    have e3 : ac.eval (.tmp 3) = .pointer (some ⟨c, 0, none⟩) := hF.at 3 (by kernel_rfl)
    exact rop_fld _ _ _ rfl e3 ((fld_sh c _).2.2.1) (wanted_none rfl) (hK0 _ _ (Only.refl _ _) hPh rfl)
  · intro ac w' ph hF hPh hlt hP hU K hK0
    obtain rfl : ph = 2 := (hlt 2 11 rfl).1 rfl
    have e19 : ac.eval (.tmp 19) = .pointer (some ⟨c, 2, none⟩) := hP 10 (by kernel_rfl)
    have e13 : OwnS V.heap.size w' (ac.eval (.tmp 13)) x.lvs := hP 4 (by kernel_rfl)
    have hB := hPh.2.1 (by decide)
    have hc := HC.out.old hB HC.out.lt
    obtain ⟨sa, sn, hsl, -⟩ := e13.sums.slice
    rw [hsl] at e13
    exact rop_storeG _ _ _ rfl e19 hsl (store_slS (hc.cell 2) (hc.fz 2)) (wanted_none rfl) (hK0 _ _ ((Only.refl _ _).setCell 2 _) ⟨hPh.1.setCell 2 _, (fun h => absurd h (by decide)), fun _ => ⟨_, Blk.put (a := [.int .i64 x.win, .int .i64 x.st]) (z := fL x.lvs.length Q ++ shPost x (.slice ra x.rows.length rc)) hc _, row_onlyS e13 ((Only.refl _ _).setCell 2 _) HC.out.lt⟩, (fun h => absurd h (by decide))⟩ trivial)
  · intro ac w' ph hF hPh hlt hP hU K hK0
    have e3 : ac.eval (.tmp 3) = .pointer (some ⟨c, 0, none⟩) := hF.at 3 (by kernel_rfl)
    exact rop_fld _ _ _ rfl e3 ((fld_sh c _).2.2.2.2.1) (wanted_none rfl) (hK0 _ _ (Only.refl _ _) hPh rfl)
  · intro ac w' ph hF hPh hlt hP hU K hK0
    obtain rfl : ph = 3 := (hlt 3 13 rfl).1 rfl
    have e20 : ac.eval (.tmp 20) = .pointer (some ⟨c, 1284, none⟩) := hP 12 (by kernel_rfl)
    have e18 : OwnR V.heap.size w' (ac.eval (.tmp 18)) x.rows := hP 9 (by kernel_rfl)
    obtain ⟨v1, hc, ho⟩ := hPh.2.2.1 (by decide)
    obtain ⟨sa, sn, hsl⟩ := e18.pre.slice
    rw [hsl] at e18
    have hlen : ([.int .i64 x.win, .int .i64 x.st, v1] ++ fL x.lvs.length Q : List Value).length = 1284 := by
      rw [List.length_append, HFL.out]; rfl
    have hc' : Blk c 68 (([.int .i64 x.win, .int .i64 x.st, v1] ++ fL x.lvs.length Q) ++ ((.slice ra x.rows.length rc : Value) :: stCs x.stn)) w' := by
      rw [List.append_assoc]; exact hc
    have k4 := hc'.cell 1284
    rw [List.getElem?_append_right (by rw [hlen]; exact Nat.le_refl _), hlen] at k4
    have hp := Blk.put hc' (.slice sa x.rows.length sn)
    rw [hlen] at hp
    exact rop_storeG _ _ _ rfl e20 hsl (store_slR k4 (hc.fz 1284)) (wanted_none rfl) (hK0 _ _ ((Only.refl _ _).setCell 1284 _) ⟨hPh.1.setCell 1284 _, (fun h => absurd h (by decide)), (fun h => absurd h (by decide)), fun _ => ⟨v1, _, by rw [List.append_assoc] at hp; exact hp, row_onlyS ho ((Only.refl _ _).setCell 1284 _) HC.out.lt, OwnR.only e18 ((Only.refl _ _).setCell 1284 _) HC.out.lt⟩⟩ trivial)
  · intro ac w' hF hPh hT
    rw [hF.setsG [9, 10, 11, 12, 13, 14, 15, 16, 17, 18, 19, 20] (by kernel_rfl)]
    simp only [List.foldl_cons, List.foldl_nil, List.setIfInBounds_toArray, List.set_cons_succ, List.set_cons_zero]
    generalize ac.eval (.tmp 9) = u9
    generalize ac.eval (.tmp 10) = u10
    generalize ac.eval (.tmp 11) = u11
    generalize ac.eval (.tmp 12) = u12
    generalize ac.eval (.tmp 13) = u13
    generalize ac.eval (.tmp 14) = u14
    generalize ac.eval (.tmp 15) = u15
    generalize ac.eval (.tmp 16) = u16
    generalize ac.eval (.tmp 17) = u17
    generalize ac.eval (.tmp 18) = u18
    generalize ac.eval (.tmp 19) = u19
    generalize ac.eval (.tmp 20) = u20
    clear  hT hF ac
    obtain ⟨v1, v2, hc, h1, h2⟩ := hPh.2.2.2 rfl
    have ho := hPh.1
    have hcB : ∀ (g : Nat), V.heap.size ≤ g → c ≤ g := fun g hg => by have := HC.out.lt; omega
    have hvF : ShV (fun k => c ≤ k) c x v1 v2 Q w' := ⟨⟨HV.out.fr.1, HV.out.fr.2.1, rfl, hc⟩, HV.out.pk, h1.lower (Nat.zero_le _), h2.pre, fun _ => h2.lower (Nat.zero_le _), Nat.le_refl _, fun g e => hcB g (h1.lt g e).1, fun g e => hcB g (World.ownsRow.lt h2 g e).1, HSK.out, HV.out.stl, HV.out.most, HV.out.rle, HV.out.req, HV.out.wok⟩
    have hbF : Below c w w' := by
      have := ho.below (B := c) (Nat.le_refl _) (by have := HC.out.lt; omega)
      exact (HCW.out ▸ B1.out).trans this
    have HF : Hid (Shd (fun k => c ≤ k) c x w') := Lib.hid ⟨_, _, _, hvF⟩
    clear hPh hc h1 h2 ho hcB hvF
    go_wp2
    go_ret
    rw [HCW.out]
    exact ⟨rfl, HF.out, hbF⟩
end Go.Proofs.YtollcdalokhjaaaDoor
