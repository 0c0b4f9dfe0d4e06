/-
  RedoRound: as often as the slots go round, each sector has what was committed last, also behind a crash. For every size, list of writes (of a longer one the first 60) and picks, no condition.
-/
import Derived.Test.YteggaeopnljgnaaGreatDoorRPuts
import Derived.Test.YteggaeopnljgnaaGreatDoorRState
import Derived.Test.YteggaeopnljgnaaGreatDoorRLawS
import Derived.Test.YteggaeopnljgnaaGreatDoorMRedD
import Derived.Test.YteggaeopnljgnaaGreatDoorMArg
import Derived.Test.YteggaeopnljgnaaGreatDoorSecLaw
namespace Go.Proofs.YteggaeopnljgnaaGreatDoor.redoRound
open Go.ChangeShapes Go.WideShapes Go.ChangeAt Go.RowKit Dsk

set_option maxRecDepth 100000 in
theorem size_put (w : World) : (Go.sizeOf 64).run Tryz.prog w = .ok 2 w := by
  obtain ⟨i0, hi, _, _, _⟩ := info_parts info_put
  rw [run_sizeOf w hi, show Tryz.prog.cellsOf 64 = 2 by kernel_rfl]
set_option maxRecDepth 100000 in
theorem sliceAt_one (g off n cap k : Nat) (hk : k < n) (hc : n ≤ cap) (w : World) : (Instr.sliceAt 58 (.slice (some ⟨g, off, none⟩) n cap) (some (.int .i64 (k : Int))) (some (.int .i64 ((k + 1 : Nat) : Int))) none).run Tryz.prog w = .ok (.slice (some ⟨g, off + k * 2, none⟩) 1 (cap - k)) w := by
  refine (run_sliceAt_slice w _ _ _ _ _ Tryz.underlying58).trans ?_
  rw [run_slice_lh (P := Tryz.prog) w _ _ n cap Tryz.underlying58 _ _ _ _ (by omega) (by omega) (by omega)]
  have e : Tryz.prog.elem 58 = 64 := by kernel_rfl
  rw [e, size_put]
  simp only [Result.andThen, sliced, Int.toNat_natCast]
  rw [if_neg (by omega)]
  simp [Addr.add]
section
variable {ops : Array Oper} {Q : Exit → Act → World → Prop} {a : Act} {w : World} {K : Act → World → Prop} {o : Oper}
theorem rop_sliceA (t : TypeId) (x : Operand) (lo hi mx : Option Operand) (hop : o.op = .slice t x lo hi mx) {u r : Value} {lo' hi' mx' : Option Value} (hx : a.eval x = u) (h1 : lo.map a.eval = lo') (h2 : hi.map a.eval = hi') (h3 : mx.map a.eval = mx') (hr : (Instr.sliceAt t u lo' hi' mx').run Tryz.prog w = .ok r w)
    (hw : Region.wanted o (yielded ops a.tmps) = true) (h : K (a.put o.dst r) w) : if Region.wanted o (yielded ops a.tmps) = true then Oper.wp Tryz.prog o a w K Q else K (a.put o.dst undef) w :=
  rop_v hw (by simp [execOp, hop, hx, h1, h2, h3, hr]) h
end
/-- n sectors, of which the first ones are the journal's. -/
theorem geo40 (n : Nat) (h4 : 4 ≤ n) (h21 : n ≤ 40) : ∃ G : Jnl.Geo, G.N = 40 ∧ (0 : Int) = (G.base : Int) ∧ (n : Int) = ((G.m + 1 : Nat) : Int) ∧ (∀ a, n ≤ a → a < 40 → G.Data a) ∧ G.m + 1 = n :=
  ⟨⟨40, 0, n - 1, by omega, by omega⟩, rfl, rfl, by show (n : Int) = ((n - 1 + 1 : Nat) : Int); omega, fun a h1 h2 => ⟨h2, by show ¬ (0 ≤ a ∧ a ≤ 0 + (n - 1)); omega⟩, by show n - 1 + 1 = n; omega⟩
set_option maxHeartbeats 6400000 in
set_option maxRecDepth 100000 in
theorem walk {w : World} (hT : TW w) (size : Int) (_l0 : -9223372036854775808 ≤ size) (_m0 : size ≤ 9223372036854775807) (v1 : Value) (l : List SpecR) (hl : Specs w v1 l) (v2 : Value) (ps : List Int) (pb : Nat) (hp : Ints w v2 ps pb) (hpb : pb < w.heap.size) (_hpz : ∀ j, i64ok (ps.getD j 0)) :
    Calls Tryz.prog 6 #[.int .i64 size, v1, v2] w fun e w' => e = .returned (.bool true) ∧ Below w.heap.size w w' := by
  have hpos := hT.pos
  obtain ⟨pa, pcap, rfl, hpc, hpx⟩ := hp
  obtain ⟨m, hm, hm16⟩ := mod_nat size 16 (by decide)
  rw [show ((16 : Nat) : Int) = 16 from rfl] at hm
  have hm2 : bits .and .i64 size 15 = (m : Int) := (and_mask size 4 15 (by decide) (by decide)).trans hm
  obtain ⟨n, hn⟩ : ∃ n, n = 6 + m := ⟨_, rfl⟩
  have hn6 : 6 ≤ n := by omega
  have hn21 : n ≤ 21 := by omega
  have hnm : (6 : Int) + (m : Int) = (n : Int) := by omega
  have HNM := Lib.hid hnm
  obtain ⟨G, hG1, hG2, hG3, hdat, hGm⟩ := geo40 n (by omega) (by omega)
  have hroom : 1 ≤ roomN G := by unfold roomN; show 1 ≤ min 60 (G.m - 3); omega
  have hGle : G.N ≤ 1000 := by omega
  have hG0 : 1 ≤ G.N := by omega
  have HG1 := Lib.hid hG1
  have HG2 := Lib.hid hG2
  have HG3 := Lib.hid hG3
  have HDAT := Lib.hid hdat
  clear hG1 hG2 hG3 hdat hGm hm hn hnm
  have HL := Lib.hid hl
  have HPX := Lib.hid hpx
  have HT := Lib.hid hT
  have ha := awake_any w hT
  clear hl hpx hT _hpz
  go_enter Tryz.func6, Tryz.ntmps6
  go_upto_region 2 with (go_at_call 7; refine ha.mono ?_; rintro e w1 ⟨rfl, b1⟩)
  clear ha
  go_upto_region 3 with fail
  rw [HNM.out]
  clear hm2 hm16 HNM
  have hnew := new_hi 40 w.heap.size w1 (by decide) (by decide) b1.size 40 rfl
  go_upto_region 4 with (go_at_call 19; refine hnew.mono ?_; rintro e w2 ⟨p, rfl, b2, h2⟩)
  have s2 := b1.trans b2
  rw [← HG1.out] at h2
  have hfm := format_hi w.heap.size p G w2 h2 s2.size hpos (HT.out.old s2) hG0 hGle 0 (n : Int) HG2.out HG3.out
  clear hnew b1 b2
  go_upto_region 6 with (go_at_call 20; refine hfm.mono ?_; rintro e w3 ⟨d3, rfl, b3, h3, f3, a3⟩)
  have s3 := s2.trans b3
  obtain ⟨S0, hS0⟩ : ∃ S0, S0 = imOf (Dsk.new G.N) := ⟨_, rfl⟩
  have hS0z : ∀ a, a < 40 → S0 a = zeroB := fun a ha => by rw [hS0, HG1.out]; exact new_lies 40 a ha
  rw [← hS0] at f3
  have hop := open_free w.heap.size p G d3 S0 1 3 w3 h3 s3.size hpos (HT.out.old s3) hGle f3 (by decide) (by decide) a3 0 (n : Int) HG2.out HG3.out
  clear hfm h2 s2 b3 hS0
  go_upto_region 7 with (go_at_call 21; refine hop.mono ?_; rintro e w4 ⟨x, d4, rfl, b4, lg4, fi4, _, ar4⟩)
  have s4 := s3.trans b4
  have hxlt := lg4.lt
  clear hop h3 f3 a3 s3 b4
  have hz := (zero_of_info info_state).1
  obtain ⟨Z, hZ⟩ : ∃ Z, Z = (List.replicate 40 (Value.string ⟨#[]⟩)).toArray := ⟨_, rfl⟩
  rw [← hZ] at hz
  obtain ⟨wa, hwa⟩ : ∃ wa, wa = w4.alloc (.cells Z 47) := ⟨_, rfl⟩
  obtain ⟨sb, hsb⟩ : ∃ sb, sb = w4.heap.size := ⟨_, rfl⟩
  have ba : Below w4.heap.size w4 wa := by rw [hwa]; exact (Below.refl _ _).alloc (Nat.le_refl _) _
  have za : wa.heap[sb]? = some (.cells ((List.replicate 40 (⟨#[]⟩ : ByteArray)).map Value.string).toArray 47 (0, 0)) := by
    rw [hwa, hsb, hZ, List.map_replicate]
    exact heap_alloc_last w4 _
  clear hZ
  go_upto_region 10 with fail
  rw [← hwa, ← hsb]
  clear hwa hz
  obtain ⟨XO, hmk, hcv⟩ := zeros_obj 256 (by decide)
  rw [show ((256 : Nat) : Int) = 256 from rfl, show zs 256 = zeroB from rfl] at *
  have HMK := Lib.hid hmk
  have HCV := Lib.hid hcv
  have HS0Z := Lib.hid hS0z
  have hsbw : w4.heap.size ≤ sb := by omega
  have hwsb : w.heap.size ≤ sb := Nat.le_trans s4.size hsbw
  clear hsb
  clear hmk hcv hS0z
  go_upto_region 11 with fail
  go_loopw [13] (fun i wr => ∃ k : Nat, k ≤ 40 ∧ i = .int .i64 k ∧ ∃ L : List ByteArray, L.length = 40 ∧ (∀ a, a < k → L.getD a .empty = zeroB) ∧ wr.heap[sb]? = some (.cells (L.map Value.string).toArray 47 (0, 0)) ∧ Below w4.heap.size w4 wr) (fun i _ => 40 - (intOf i).toNat)
  case atStart => exact ⟨0, by omega, rfl, _, List.length_replicate, fun a ha => absurd ha (by omega), za, ba⟩
  case round =>
  clear za ba
  obtain ⟨k, hk, rfl, L, hL40, hLz, hst, hb4⟩ := hrel
  by_cases hlt : k < 40
  · have hlt' : (k : Int) < 40 := by omega
    have hmk := HMK.out
    have hcv := HCV.out
    obtain ⟨wm, hwm⟩ : ∃ wm, wm = wr.alloc XO := ⟨_, rfl⟩
    have bm : Below wr.heap.size wr wm := by rw [hwm]; exact (Below.refl _ _).alloc (Nat.le_refl _) _
    have hsm := (bm.block sb (Array.getElem?_eq_some_iff.1 hst).1).trans hst
    have hmk' := hmk wr
    have hcv' := hcv wr
    rw [← hwm] at hmk' hcv'
    have hcell : wm.cell? ⟨sb, k, none⟩ = some (.string (L.getD k .empty)) := by
      rw [cell_of hsm]
      simp [List.getD_eq_getElem?_getD, List.getElem?_eq_getElem (show k < L.length by omega)]
    have hfz := fz_of hsm k
    have hs2 : (wm.setCell ⟨sb, k, none⟩ (.string zeroB)).heap[sb]? = some (.cells ((L.set k zeroB).map Value.string).toArray 47 (0, 0)) := by
      rw [heap_set hsm, List.map_set, List.setIfInBounds_toArray]
    have hb2 : Below w4.heap.size w4 (wm.setCell ⟨sb, k, none⟩ (.string zeroB)) := (below_step hb4 (Nat.le_refl _) bm).setCell hsbw _
    have hLz2 : ∀ a, a < k + 1 → (L.set k zeroB).getD a .empty = zeroB := fun a ha => by
      rw [List.getD_eq_getElem?_getD, List.getElem?_set]
      by_cases e : k = a
      · rw [if_pos e, if_pos (by omega)]; rfl
      · rw [if_neg e, ← List.getD_eq_getElem?_getD]; exact hLz a (by omega)
    obtain ⟨wn, hwn⟩ : ∃ wn, wn = wm.setCell ⟨sb, k, none⟩ (.string zeroB) := ⟨_, rfl⟩
    rw [← hwn] at hs2 hb2
    have hL2 : (L.set k zeroB).length = 40 := by rw [List.length_set]; exact hL40
    obtain ⟨L2, hL2d⟩ : ∃ L2, L2 = L.set k zeroB := ⟨_, rfl⟩
    rw [← hL2d] at hs2 hLz2 hL2
    have HWN := Lib.hid hwn
    clear hmk hcv hst hsm bm hL2d hLz hb4 hwm hwn
    generalize L.getD k .empty = Yk at hcell
    generalize zeroB = zb at *
    go_upto_region 13 with fail
    go_wp2
    rw [← HWN.out]
    clear HWN
    go_roundw
    case rel => exact ⟨k + 1, by omega, by go_num, L2, hL2, hLz2, hs2, hb2⟩
    case measure => simp [intOf]; omega
  · obtain rfl : k = 40 := by omega
    have hLS : ∀ a, a < 40 → n ≤ a → L.getD a .empty = S0 a := fun a h1 _ => (hLz a h1).trans (HS0Z.out a h1).symm
    have hsw := below_step s4 (Nat.le_refl _) hb4
    have hpu := puts_any v1 l n 60 wr ⟨HL.out.1.old hsw, HL.out.2⟩ (by omega) (by decide)
    rw [show ((60 : Nat) : Int) = 60 from rfl] at hpu
    have htl : (putsT n (l.take 60)).length ≤ 60 := by rw [putsT_len, List.length_take]; omega
    have hti := putsT_in n (by omega) (l.take 60)
    obtain ⟨T, hTd⟩ : ∃ T, T = putsT n (l.take 60) := ⟨_, rfl⟩
    rw [← hTd] at hpu htl hti
    clear hLz hTd
    go_upto_region 15 with (go_at_call 28; refine hpu.mono ?_; rintro e w5 ⟨cv, rfl, b5, c5, o5⟩)
    obtain ⟨g, hpr, hgo⟩ := cache_puts c5
    have s5 := below_step hsw (Nat.le_refl _) b5
    have hgw : wr.heap.size ≤ g := by
      by_cases h : g < w5.heap.size
      · exact o5 g (hgo h)
      · have := b5.size; omega
    have st5 := (b5.block sb (Array.getElem?_eq_some_iff.1 hst).1).trans hst
    have hsbg : sb < wr.heap.size := (Array.getElem?_eq_some_iff.1 hst).1
    obtain ⟨Sy, hSy⟩ : ∃ Sy : Nat → Prop, Sy = fun i => w.heap.size ≤ i ∧ i ≠ sb ∧ (i = g → w5.heap.size ≤ g) := ⟨_, rfl⟩
    have hSyB : ∀ k, Sy k → w.heap.size ≤ k := fun k hk => by rw [hSy] at hk; exact hk.1
    have hSys : ¬ Sy sb := fun hk => by rw [hSy] at hk; exact hk.2.1 rfl
    have hSyg : g < w5.heap.size → ¬ Sy g := fun h hk => by rw [hSy] at hk; have := hk.2.2 rfl; omega
    have hSy0 : ¬ Sy 0 := fun hk => by have := hSyB _ hk; omega
    have hup : ∀ u : World, w5.heap.size ≤ u.heap.size → Up Sy u := fun u hu k hk => by rw [hSy]; have := s5.size; have := b5.size; exact ⟨by omega, by omega, fun e => by omega⟩
    have lg5 := ((lg4.mono (Sy' := Sy) fun k hk hh => by have hh' : w.heap.size ≤ k := hh; have := hb4.size; rw [hSy]; exact ⟨hh', by omega, fun e => by omega⟩).old hb4).old b5
    obtain ⟨ga, gcap, rfl, hgc, hgx⟩ := hpr
    rw [zT_len] at hgc hgx ⊢
    have HGX := Lib.hid hgx
    have HTI := Lib.hid hti
    have HUP := Lib.hid hup
    have HHS := Lib.hid hLS
    clear hpu c5 o5 hgo hst hb4 hsw b5 hSy hgx hti lg4 hLS
    go_upto_region 16 with fail
    go_loopw [15] (fun i wr => ∃ k : Nat, k ≤ T.length ∧ i = .int .i64 k ∧ ∃ (S : Jnl.Im) (L : List ByteArray) (d : Dk) (u : Nat), LG Sy x p G d S (k + 1) u wr ∧ Fine G.N (2003 + 203 * k) d ∧ d.armed = false ∧ L.length = 40 ∧ (∀ a, a < 40 → n ≤ a → L.getD a .empty = S a) ∧ wr.heap[sb]? = some (.cells (L.map Value.string).toArray 47 (0, 0)) ∧ (g < w5.heap.size → wr.heap[g]? = w5.heap[g]?) ∧ Below w.heap.size w wr ∧ w5.heap.size ≤ wr.heap.size) (fun i _ => T.length - (intOf i).toNat)
    case atStart => exact ⟨0, Nat.zero_le _, rfl, S0, L, d4, 0, lg5, fi4, ar4, hL40, HHS.out, st5, fun _ => rfl, s5, Nat.le_refl _⟩
    case round =>
    clear lg5 fi4 ar4 hL40 st5 s5 HHS hk hlt s4
    obtain ⟨k, hk, rfl, S, L1, d, u, hlg, hfi, har, hL40, hLS, hst, hgk, hb, hsz⟩ := hrel
    by_cases hlt : k < T.length
    · have hlt' : (k : Int) < (T.length : Int) := by omega
      obtain ⟨off, rfl, hgb, hcs⟩ := HGX.out (fun e => by have := congrArg List.length e; rw [zT_len, List.length_nil] at this; omega)
      have hcc := hcs k hlt
      rw [zT_get T k hlt] at hcc
      clear hcs
      have hin := HTI.out T[k] (List.getElem_mem _)
      generalize T[k] = y at *
      obtain ⟨A, X⟩ := y
      simp only at hcc hin
      obtain ⟨hnA, hA40, hXs⟩ := hin
      have hgwr := hgk hgb
      have cell5 : ∀ u : World, u.heap[g]? = w5.heap[g]? → ∀ j, u.cell? ⟨g, j, none⟩ = w5.cell? ⟨g, j, none⟩ := fun u hu j => by unfold World.cell?; rw [hu]
      have c0 := (cell5 wr hgwr _).trans hcc.1
      have c1 := (cell5 wr hgwr _).trans hcc.2
      have hcm := commit_s Sy x p G d S (k + 1) u (2003 + 203 * k) A X wr hlg (HUP.out wr hsz) hSy0 (HT.out.old hb) hGle hfi (by omega) (by omega) hroom (HDAT.out A hnA hA40) hXs har
      go_upto_region 20 with (first
        | (go_at_call 29; refine hcm.mono ?_; rintro e w6 ⟨d6, rfl, f6, lg6, fi6, ar6⟩; obtain ⟨pl6, A6, L6⟩ := lg6; have qs := seq_any Sy x p G pl6 (k + 1 + 1) _ w6 _ L6; rw [show (((k + 1 + 1 : Nat)) : Int) = (k : Int) + 2 by omega] at qs)
        | (go_at_call 32; refine qs.mono ?_; rintro e w7 ⟨rfl, rfl⟩))
      have lg6 : LG Sy x p G d6 (fun b => Jnl.after [(A, X)] b (S b)) (k + 1 + 1) (uAfter G.m u 1) w6 := ⟨pl6, A6, L6⟩
      clear A6 L6 qs
      have b6 : Below w.heap.size w w6 := hb.trans (f6.below hb.size hSyB)
      have hs6 := (f6.fr.block sb (Array.getElem?_eq_some_iff.1 hst).1 hSys).trans hst
      have hg6 := (f6.fr.block g (by omega) (hSyg hgb)).trans hgwr
      have sz6 : w5.heap.size ≤ w6.heap.size := Nat.le_trans hsz f6.size
      have hsg : sb ≠ g := by omega
      clear hcm hlg hst hgk hgwr c0 c1 hfi har
      obtain ⟨L2, hL2⟩ : ∃ L2, L2 = aftL [(A, X)] L1 := ⟨_, rfl⟩
      have hL2l : L2.length = 40 := by rw [hL2, aftL_len]; exact hL40
      have hL2S : ∀ a, a < 40 → n ≤ a → L2.getD a .empty = Jnl.after [(A, X)] a (S a) := fun a h1 h2 => by rw [hL2, aftL_get _ _ _ (by omega), hLS a h1 h2]
      have hldS : ∀ u : World, (Fr (fun i => i = sb) w6 u ∧ u.heap[sb]? = some (.cells ((if 0 = 0 then L1 else L2).map Value.string).toArray 47 (0, 0))) → (Instr.loadAt 47 (.pointer (some ⟨sb, 0, none⟩))).run Tryz.prog u = .ok (stV L1) u := fun u hu => run_loadAt_mid u sb 0 _ _ _ (state_range hu.2) Tryz.underlying47 rfl (state_info hL40)
      have hsl := fun u => sliceAt_one g off T.length gcap k hlt hgc.1 u
      have haf : ∀ u : World, Fr (fun i => i = sb) w6 u → Calls Tryz.prog 30 #[stV L1, .slice (some ⟨g, off + k * 2, none⟩) 1 (gcap - k)] u fun e w' => e = .returned (stV L2) ∧ Below u.heap.size u w' := by
        intro u hu
        have hgu := (hu.block g (by omega) (fun e => hsg e.symm)).trans hg6
        rw [hL2]
        refine after_any L1 [(A, X)] _ g u hL40 ⟨_, _, rfl, ⟨by show 1 ≤ gcap - k; omega, by omega⟩, fun _ => ⟨off + k * 2, rfl, by have := hu.size; omega, fun j hj => ?_⟩⟩ (fun y hy => ?_) (by simp)
        · obtain rfl : j = 0 := by simpa [zT] using hj
          exact ⟨(cell5 u hgu _).trans hcc.1, (cell5 u hgu _).trans hcc.2⟩
        · rw [List.mem_singleton] at hy
          subst hy
          exact hA40
      have h1c : (L2.map Value.string).toArray.all (·.oneCell') = true := all_oneCell_toArray (fun x hx => by obtain ⟨_, _, rfl⟩ := List.mem_map.1 hx; rfl)
      have hI2 : (Tryz.prog.info? 47).map (·.size) = some (L2.map Value.string).toArray.size := by rw [List.size_toArray]; exact state_info hL2l
      have hth : ∀ u : World, u.heap[sb]? = some (.cells ((if 0 = 0 then L1 else L2).map Value.string).toArray 47 (0, 0)) → u.there sb 0 (L2.map Value.string).toArray.size := fun u hu => by
        rw [List.size_toArray, List.length_map, hL2l]
        exact there_of hu (by rw [if_pos rfl, List.length_map]; omega)
      have hst : ∀ u : World, (Fr (fun i => i = sb) w6 u ∧ u.heap[sb]? = some (.cells ((if 0 = 0 then L1 else L2).map Value.string).toArray 47 (0, 0))) → (Instr.storeAt 47 (.pointer (some ⟨sb, 0, none⟩)) (stV L2)).run Tryz.prog u = .ok () (u.setCells sb 0 (L2.map Value.string)) := fun u hu => run_storeAt_mid u sb 0 _ _ (hth u hu.2) hI2 h1c
      have hph2 : ∀ u : World, (Fr (fun i => i = sb) w6 u ∧ u.heap[sb]? = some (.cells ((if 0 = 0 then L1 else L2).map Value.string).toArray 47 (0, 0))) → Fr (fun i => i = sb) w6 (u.setCells sb 0 (L2.map Value.string)) ∧ (u.setCells sb 0 (L2.map Value.string)).heap[sb]? = some (.cells ((if 1 = 0 then L1 else L2).map Value.string).toArray 47 (0, 0)) := fun u hu => by
        refine ⟨hu.1.trans ((only_setCells _ _ _ (Only.refl sb u)).fr rfl), ?_⟩
        have := heap_setCells sb 47 (L2.map Value.string) 0 (L1.map Value.string) u (by rw [List.length_map, List.length_map]; omega) hu.2
        rw [this, if_neg (by decide)]
        congr 2
        simp [hL2l, hL40]
      clear hL2 hcc
      have HCELL := Lib.hid cell5
      clear cell5
      try simp only [Act.put]
      refine wp_region_eff (Lx := fun _ _ => True) [RX.is (stV L1), RX.is (.slice (some ⟨g, off, none⟩) T.length gcap), RX.is (.int .i64 (k : Int)), RX.is (.int .i64 (k : Int)), RX.is (.int .i64 ((k + 1 : Nat) : Int)), RX.is (.slice (some ⟨g, off + k * 2, none⟩) 1 (gcap - k)), RX.is (stV L2), RX.any] [7] (fun k u => Fr (fun i => i = sb) w6 u ∧ u.heap[sb]? = some (.cells ((if k = 0 then L1 else L2).map Value.string).toArray 47 (0, 0))) (by kernel_rfl) (by kernel_rfl) (by kernel_rfl) (by kernel_rfl) (by kernel_rfl) (⟨(Fr.refl _ w6).drew, hs6⟩) ⟨?_, ?_, ?_, ?_, ?_, ?_, ?_, ?_, trivial⟩ ?_
      · intro ac w' ph hF hPh hlt hP hU K hK0
        have hK := fun v w2 (hl : Le8 w' w2) ht => hK0 v w2 (trivial) (⟨hPh.1.trans (Fr.of_below hl), (hl.block sb (Array.getElem?_eq_some_iff.1 hPh.2).1).trans hPh.2⟩) ht
        have e12 : ac.eval (.tmp 12) = .pointer (some ⟨sb, 0, none⟩) := hF.at 12 (by kernel_rfl)
        obtain rfl : ph = 0 := Nat.le_zero.1 ((hlt 0 7 rfl).2 (by kernel_rfl))
        exact rop_ld _ _ rfl e12 (hldS _ hPh) (wanted_none rfl) (hK _ _ (le8_refl _) rfl)
      · intro ac w' ph hF hPh hlt hP hU K hK0
        have hK := fun v w2 (hl : Le8 w' w2) ht => hK0 v w2 (trivial) (⟨hPh.1.trans (Fr.of_below hl), (hl.block sb (Array.getElem?_eq_some_iff.1 hPh.2).1).trans hPh.2⟩) ht
        have e14 : ac.eval (.tmp 14) = .slice (some ⟨g, off, none⟩) T.length gcap := hF.at 14 (by kernel_rfl)
        exact rop_move _ rfl e14 (wanted_none rfl) (hK _ _ (le8_refl _) rfl)
      · intro ac w' ph hF hPh hlt hP hU K hK0
        have hK := fun v w2 (hl : Le8 w' w2) ht => hK0 v w2 (trivial) (⟨hPh.1.trans (Fr.of_below hl), (hl.block sb (Array.getElem?_eq_some_iff.1 hPh.2).1).trans hPh.2⟩) ht
        have e15 : ac.eval (.tmp 15) = .int .i64 (k : Int) := hF.at 15 (by kernel_rfl)
        exact rop_move _ rfl e15 (wanted_none rfl) (hK _ _ (le8_refl _) rfl)
      · intro ac w' ph hF hPh hlt hP hU K hK0
        have hK := fun v w2 (hl : Le8 w' w2) ht => hK0 v w2 (trivial) (⟨hPh.1.trans (Fr.of_below hl), (hl.block sb (Array.getElem?_eq_some_iff.1 hPh.2).1).trans hPh.2⟩) ht
        have e15 : ac.eval (.tmp 15) = .int .i64 (k : Int) := hF.at 15 (by kernel_rfl)
        exact rop_move _ rfl e15 (wanted_none rfl) (hK _ _ (le8_refl _) rfl)
      · intro ac w' ph hF hPh hlt hP hU K hK0
        have hK := fun v w2 (hl : Le8 w' w2) ht => hK0 v w2 (trivial) (⟨hPh.1.trans (Fr.of_below hl), (hl.block sb (Array.getElem?_eq_some_iff.1 hPh.2).1).trans hPh.2⟩) ht
        have e80 : ac.eval (.tmp 80) = .int .i64 (k : Int) := hP 3 (by kernel_rfl)
        exact rop_bin _ _ _ _ _ rfl e80 rfl (guard_int _ _ _ _ _ _ _ _) (add_int _ _ _ (by omega) (by omega) _) (wanted_none rfl) (hK _ _ (le8_refl _) rfl)
      · intro ac w' ph hF hPh hlt hP hU K hK0
        have hK := fun v w2 (hl : Le8 w' w2) ht => hK0 v w2 (trivial) (⟨hPh.1.trans (Fr.of_below hl), (hl.block sb (Array.getElem?_eq_some_iff.1 hPh.2).1).trans hPh.2⟩) ht
        have e78 : ac.eval (.tmp 78) = .slice (some ⟨g, off, none⟩) T.length gcap := hP 1 (by kernel_rfl)
        have e79 : ac.eval (.tmp 79) = .int .i64 (k : Int) := hP 2 (by kernel_rfl)
        have e81 : ac.eval (.tmp 81) = .int .i64 ((k + 1 : Nat) : Int) := hP 4 (by kernel_rfl)
        exact rop_sliceA _ _ _ _ _ rfl e78 (by simp [e79]) (by simp [e81]) rfl (hsl _) (wanted_none rfl) (hK _ _ (le8_refl _) rfl)
      · intro ac w' ph hF hPh hlt hP hU K hK0
        have hK := fun v w2 (hl : Le8 w' w2) ht => hK0 v w2 (trivial) (⟨hPh.1.trans (Fr.of_below hl), (hl.block sb (Array.getElem?_eq_some_iff.1 hPh.2).1).trans hPh.2⟩) ht
        have e77 : ac.eval (.tmp 77) = stV L1 := hP 0 (by kernel_rfl)
        have e82 : ac.eval (.tmp 82) = .slice (some ⟨g, off + k * 2, none⟩) 1 (gcap - k) := hP 5 (by kernel_rfl)
        refine rop_call 30 _ _ rfl #[stV L1, .slice (some ⟨g, off + k * 2, none⟩) 1 (gcap - k)] (by simp [e77, e82]) (by kernel_rfl) (wanted_none rfl) ?_
        refine (haf _ hPh.1).mono ?_
        rintro e w2 ⟨rfl, hb⟩
        exact ⟨_, rfl, hK _ _ hb rfl⟩
      · intro ac w' ph hF hPh hlt hP hU K hK0
        obtain rfl : ph = 0 := (hlt 0 7 rfl).1 rfl
        have e12 : ac.eval (.tmp 12) = .pointer (some ⟨sb, 0, none⟩) := hF.at 12 (by kernel_rfl)
        have e83 : ac.eval (.tmp 83) = stV L2 := hP 6 (by kernel_rfl)
        exact rop_store _ _ _ rfl e12 e83 (hst _ hPh) (wanted_none rfl) (hK0 _ _ trivial (hph2 _ hPh) trivial)
      · intro ac w' hF hPh hT
        rw [hF.lit 127 rfl]
        simp only [List.range, List.range.loop, List.map_cons, List.map_nil, hF.at 0 (by kernel_rfl), hF.at 1 (by kernel_rfl), hF.at 2 (by kernel_rfl), hF.at 3 (by kernel_rfl), hF.at 4 (by kernel_rfl), hF.at 5 (by kernel_rfl), hF.at 6 (by kernel_rfl), hF.at 7 (by kernel_rfl), hF.at 8 (by kernel_rfl), hF.at 9 (by kernel_rfl), hF.at 10 (by kernel_rfl), hF.at 11 (by kernel_rfl), hF.at 12 (by kernel_rfl), hF.at 13 (by kernel_rfl), hF.at 14 (by kernel_rfl), hF.at 15 (by kernel_rfl), hF.at 16 (by kernel_rfl), hF.at 17 (by kernel_rfl), hF.at 18 (by kernel_rfl), hF.at 19 (by kernel_rfl), hF.at 20 (by kernel_rfl), hF.at 21 (by kernel_rfl), hF.at 22 (by kernel_rfl), hF.at 23 (by kernel_rfl), hF.at 24 (by kernel_rfl), hF.at 25 (by kernel_rfl), hF.at 26 (by kernel_rfl), hF.at 27 (by kernel_rfl), hF.at 28 (by kernel_rfl), hF.at 29 (by kernel_rfl), hF.at 30 (by kernel_rfl), hF.at 31 (by kernel_rfl), hF.at 32 (by kernel_rfl), hF.at 33 (by kernel_rfl), hF.at 34 (by kernel_rfl), hF.at 35 (by kernel_rfl), hF.at 36 (by kernel_rfl), hF.at 37 (by kernel_rfl), hF.at 38 (by kernel_rfl), hF.at 39 (by kernel_rfl), hF.at 40 (by kernel_rfl), hF.at 41 (by kernel_rfl), hF.at 42 (by kernel_rfl), hF.at 43 (by kernel_rfl), hF.at 44 (by kernel_rfl), hF.at 45 (by kernel_rfl), hF.at 46 (by kernel_rfl), hF.at 47 (by kernel_rfl), hF.at 48 (by kernel_rfl), hF.at 49 (by kernel_rfl), hF.at 50 (by kernel_rfl), hF.at 51 (by kernel_rfl), hF.at 52 (by kernel_rfl), hF.at 53 (by kernel_rfl), hF.at 54 (by kernel_rfl), hF.at 55 (by kernel_rfl), hF.at 56 (by kernel_rfl), hF.at 57 (by kernel_rfl), hF.at 58 (by kernel_rfl), hF.at 59 (by kernel_rfl), hF.at 60 (by kernel_rfl), hF.at 61 (by kernel_rfl), hF.at 62 (by kernel_rfl), hF.at 63 (by kernel_rfl), hF.at 64 (by kernel_rfl), hF.at 65 (by kernel_rfl), hF.at 66 (by kernel_rfl), hF.at 67 (by kernel_rfl), hF.at 68 (by kernel_rfl), hF.at 69 (by kernel_rfl), hF.at 70 (by kernel_rfl), hF.at 71 (by kernel_rfl), hF.at 72 (by kernel_rfl), hF.at 73 (by kernel_rfl), hF.at 74 (by kernel_rfl), hF.at 75 (by kernel_rfl), hF.at 76 (by kernel_rfl), hF.at 84 (by kernel_rfl), hF.at 85 (by kernel_rfl), hF.at 86 (by kernel_rfl), hF.at 87 (by kernel_rfl), hF.at 88 (by kernel_rfl), hF.at 89 (by kernel_rfl), hF.at 90 (by kernel_rfl), hF.at 91 (by kernel_rfl), hF.at 92 (by kernel_rfl), hF.at 93 (by kernel_rfl), hF.at 94 (by kernel_rfl), hF.at 95 (by kernel_rfl), hF.at 96 (by kernel_rfl), hF.at 97 (by kernel_rfl), hF.at 98 (by kernel_rfl), hF.at 99 (by kernel_rfl), hF.at 100 (by kernel_rfl), hF.at 101 (by kernel_rfl), hF.at 102 (by kernel_rfl), hF.at 103 (by kernel_rfl), hF.at 104 (by kernel_rfl), hF.at 105 (by kernel_rfl), hF.at 106 (by kernel_rfl), hF.at 107 (by kernel_rfl), hF.at 108 (by kernel_rfl), hF.at 109 (by kernel_rfl), hF.at 110 (by kernel_rfl), hF.at 111 (by kernel_rfl), hF.at 112 (by kernel_rfl), hF.at 113 (by kernel_rfl), hF.at 114 (by kernel_rfl), hF.at 115 (by kernel_rfl), hF.at 116 (by kernel_rfl), hF.at 117 (by kernel_rfl), hF.at 118 (by kernel_rfl), hF.at 119 (by kernel_rfl), hF.at 120 (by kernel_rfl), hF.at 121 (by kernel_rfl), hF.at 122 (by kernel_rfl), hF.at 123 (by kernel_rfl), hF.at 124 (by kernel_rfl), hF.at 125 (by kernel_rfl), hF.at 126 (by kernel_rfl)]
        generalize ac.eval (.tmp 77) = u77
        generalize ac.eval (.tmp 78) = u78
        generalize ac.eval (.tmp 79) = u79
        generalize ac.eval (.tmp 80) = u80
        generalize ac.eval (.tmp 81) = u81
        generalize ac.eval (.tmp 82) = u82
        generalize ac.eval (.tmp 83) = u83
        simp only [Act.eval, Array.getD_eq_getD_getElem?, List.getElem?_toArray, List.getElem?_cons_succ, List.getElem?_cons_zero, Option.getD_some]
        clear  hT hF ac
        have P1 := hPh.1
        have P2 := hPh.2
        rw [if_neg (by decide)] at P2
        clear hPh hldS hsl haf hst hph2 hth
        have bw : Below w.heap.size w w' := b6.trans (P1.below b6.size fun k hk e => by rw [e] at hk; omega)
        have lgw := lg6.fr P1 fun k hk e => hSys (e ▸ hk)
        have hgw' := fun (_ : g < w5.heap.size) => (P1.block g (by omega) (fun e => hsg e.symm)).trans hg6
        have szw := Nat.le_trans sz6 P1.size
        go_wp2
        go_roundw
        case rel => exact ⟨k + 1, by omega, by go_num, _, L2, d6, _, lgw, fi6.mono (by omega), ar6, hL2l, hL2S, P2, hgw', bw, szw⟩
        case measure => simp [intOf]; omega
    · obtain rfl : k = T.length := by omega
      obtain ⟨L, hLd⟩ : ∃ L, L = L1 := ⟨_, rfl⟩
      rw [← hLd] at hL40 hLS hst
      clear hLd
      clear L1
      have hup := HUP.out
      have hrd := reads_any Sy x p G d S (T.length + 1) u n L wr hlg hL40 (by omega) HDAT.out
      rw [sameB_iff.2 hLS] at hrd
      unfold stV at hrd
      have hrg := state_range hst
      go_upto_region 22 with (first
        | refine wpList_load_mid rfl 47 (.tmp 12) rfl sb 0 rfl (L.map Value.string) _ hrg Tryz.underlying47 rfl (state_info hL40) ?_
        | (go_at_call 27; refine hrd.mono ?_; rintro e wq ⟨rfl, bq⟩))
      have hlgq := hlg.old bq
      have hstq := (bq.block sb (Array.getElem?_eq_some_iff.1 hst).1).trans hst
      have hbq := below_step hb (Nat.le_refl _) bq
      have hszq := Nat.le_trans hsz bq.size
      clear hrd hrg hlg hst hb hsz hgk bq
      clear wr
      obtain ⟨wr, hwr⟩ : ∃ wr, wr = wq := ⟨_, rfl⟩
      rw [← hwr] at hlgq hstq hbq hszq ⊢
      clear hwr
      obtain ⟨hlg, hst, hb, hsz⟩ : _ ∧ _ ∧ _ ∧ _ := ⟨hlgq, hstq, hbq, hszq⟩
      clear hlgq hstq hbq hszq
      have hpi : ∀ (u : World), Below w.heap.size w u → ∀ c' N, N ≤ ps.length → N ≤ c' → c' ≤ 9223372036854775807 → Ints u (.slice pa N c') (ps.take N) pb := fun u hu c' N h1 h2 h3 => by
        have hln : (ps.take N).length = N := by rw [List.length_take]; omega
        refine ⟨pa, c', by rw [hln], ⟨by omega, h3⟩, fun hne => ?_⟩
        obtain ⟨o, e1, e2, e3⟩ := HPX.out (fun e => hne (by rw [e, List.take_nil]))
        refine ⟨o, e1, by have := hu.size; omega, fun j hj => ?_⟩
        rw [hu.cell (p := ⟨pb, o + j, none⟩) e2, e3 j (by omega), List.getD_eq_getElem?_getD, List.getD_eq_getElem?_getD, List.getElem?_take_of_lt (by omega)]
      have HPI := Lib.hid hpi
      clear hpi
      by_cases hps : ps.length ≤ 20
      · have hps' : ¬ 20 < (ps.length : Int) := by omega
        obtain ⟨PN, hPN⟩ : ∃ PN, PN = ps.length := ⟨_, rfl⟩
        obtain ⟨PS, hPS⟩ : ∃ PS, PS = ps.take ps.length := ⟨_, rfl⟩
        have hpi : ∀ (u : World), Below w.heap.size w u → Ints u (.slice pa PN pcap) PS pb := fun u hu => by rw [hPS, hPN]; exact HPI.out u hu pcap _ (Nat.le_refl _) hpc.1 hpc.2
        rw [← hPN] at hps' ⊢
        clear hPN hPS HPI
        go_upto_region 24 with fail

        have hcr := crashS Sy p d wr hlg.disk (.slice pa PN pcap) PS pb (hpi wr hb) (fun _ hh => by have := hSyB _ hh; omega)
        go_upto_region 25 with (go_at_call 24; refine hcr.mono ?_; rintro e w8 ⟨rfl, h8, f8⟩)
        have b8 : Below w.heap.size w w8 := hb.trans ((f8 0).below hb.size hSyB)
        have sz8 : w5.heap.size ≤ w8.heap.size := Nat.le_trans hsz (f8 0).size
        have st8 := ((f8 0).fr.block sb (Array.getElem?_eq_some_iff.1 hst).1 hSys).trans hst
        obtain ⟨pl, hA⟩ := hlg.a
        obtain ⟨hgood, hfin8, hon8, hca8, har8⟩ := Flat.crash hA.safe hfi (odd PS) (by omega)
        have hop := open_sf Sy p G (Dsk.crash d (odd PS)) S (T.length + 1) (2003 + 203 * T.length) w8 h8 (hup w8 sz8) hSy0 (HT.out.old b8) hGle ⟨hfin8, hon8, hca8, hgood⟩ (by omega) (by omega) har8 0 (n : Int) HG2.out HG3.out
        clear hcr
        go_upto_region 26 with (go_at_call 21; refine hop.mono ?_; rintro e w9 ⟨y, d9, rfl, hy9, f9, lg9, fi9, _, _⟩)
        have b9 : Below w.heap.size w w9 := b8.trans (f9.below b8.size hSyB)
        have st9 := (f9.fr.block sb (Array.getElem?_eq_some_iff.1 st8).1 hSys).trans st8
        have hr9 := reads_any Sy y p G d9 S (T.length + 1) 0 n L w9 lg9 hL40 (by omega) HDAT.out
        rw [sameB_iff.2 hLS] at hr9
        unfold stV at hr9
        have hrg9 := state_range st9
        clear hop
        go_upto_region 29 with (first
          | refine wpList_load_mid rfl 47 (.tmp 12) rfl sb 0 rfl (L.map Value.string) _ hrg9 Tryz.underlying47 rfl (state_info hL40) ?_
          | (go_at_call 27; refine hr9.mono ?_; rintro e w10 ⟨rfl, b10⟩))
        obtain ⟨pl9, A9, L9⟩ := lg9.old b10
        have qs := seq_any Sy y p G pl9 (T.length + 1) 0 w10 _ L9
        rw [show (((T.length + 1 : Nat)) : Int) = (T.length : Int) + 1 by omega] at qs
        clear hr9
        go_wp2_with (go_at_call 32; refine qs.mono ?_; rintro e w11 ⟨rfl, rfl⟩)
        go_ret
        exact ⟨rfl, below_step b9 (Nat.le_refl _) b10⟩

      · have hps' : 20 < (ps.length : Int) := by omega
        have hpcap : 20 ≤ pcap := by omega
        obtain ⟨PN, hPN⟩ : ∃ PN, PN = 20 := ⟨_, rfl⟩
        obtain ⟨PS, hPS⟩ : ∃ PS, PS = ps.take 20 := ⟨_, rfl⟩
        have hpi : ∀ (u : World), Below w.heap.size w u → Ints u (.slice pa PN pcap) PS pb := fun u hu => by rw [hPS, hPN]; exact HPI.out u hu pcap 20 (by omega) hpcap hpc.2
        clear hPS HPI
        go_upto_region 24 with fail
        rw [← hPN]
        clear hPN

        have hcr := crashS Sy p d wr hlg.disk (.slice pa PN pcap) PS pb (hpi wr hb) (fun _ hh => by have := hSyB _ hh; omega)
        go_upto_region 25 with (go_at_call 24; refine hcr.mono ?_; rintro e w8 ⟨rfl, h8, f8⟩)
        have b8 : Below w.heap.size w w8 := hb.trans ((f8 0).below hb.size hSyB)
        have sz8 : w5.heap.size ≤ w8.heap.size := Nat.le_trans hsz (f8 0).size
        have st8 := ((f8 0).fr.block sb (Array.getElem?_eq_some_iff.1 hst).1 hSys).trans hst
        obtain ⟨pl, hA⟩ := hlg.a
        obtain ⟨hgood, hfin8, hon8, hca8, har8⟩ := Flat.crash hA.safe hfi (odd PS) (by omega)
        have hop := open_sf Sy p G (Dsk.crash d (odd PS)) S (T.length + 1) (2003 + 203 * T.length) w8 h8 (hup w8 sz8) hSy0 (HT.out.old b8) hGle ⟨hfin8, hon8, hca8, hgood⟩ (by omega) (by omega) har8 0 (n : Int) HG2.out HG3.out
        clear hcr
        go_upto_region 26 with (go_at_call 21; refine hop.mono ?_; rintro e w9 ⟨y, d9, rfl, hy9, f9, lg9, fi9, _, _⟩)
        have b9 : Below w.heap.size w w9 := b8.trans (f9.below b8.size hSyB)
        have st9 := (f9.fr.block sb (Array.getElem?_eq_some_iff.1 st8).1 hSys).trans st8
        have hr9 := reads_any Sy y p G d9 S (T.length + 1) 0 n L w9 lg9 hL40 (by omega) HDAT.out
        rw [sameB_iff.2 hLS] at hr9
        unfold stV at hr9
        have hrg9 := state_range st9
        clear hop
        go_upto_region 29 with (first
          | refine wpList_load_mid rfl 47 (.tmp 12) rfl sb 0 rfl (L.map Value.string) _ hrg9 Tryz.underlying47 rfl (state_info hL40) ?_
          | (go_at_call 27; refine hr9.mono ?_; rintro e w10 ⟨rfl, b10⟩))
        obtain ⟨pl9, A9, L9⟩ := lg9.old b10
        have qs := seq_any Sy y p G pl9 (T.length + 1) 0 w10 _ L9
        rw [show (((T.length + 1 : Nat)) : Int) = (T.length : Int) + 1 by omega] at qs
        clear hr9
        go_wp2_with (go_at_call 32; refine qs.mono ?_; rintro e w11 ⟨rfl, rfl⟩)
        go_ret
        exact ⟨rfl, below_step b9 (Nat.le_refl _) b10⟩

set_option maxRecDepth 100000 in
theorem lifted (os : Os) (started : os.Started) (H : Type) (enc : TypeId × Value → H) :
    ReturnsInHanded {} Tryz.checked os 6 .any (fun w args => (Rows.redoRoundSpec.pre enc Tryz.prog Tryz.f6 [] false w args ∧ laidMetH Tryz.prog [("scrinium/check.fourSteps", Rows.laid_scrinium_check_fourSteps)] w) ∧ sizedMet enc Tryz.prog Tryz.f6 (OpenSpec.ofChange Rows.redoRoundSpec) false w args)
      (Rows.redoRoundSpec.post enc Tryz.prog Tryz.f6 false true false false) := by
  refine returnsInHanded_of_change_and (C := Tryz.checked) (X := fun w _ => laidMetH Tryz.prog [("scrinium/check.fourSteps", Rows.laid_scrinium_check_fourSteps)] w) (fun _ _ _ hh h => h.of_heap hh) lawOwn started (by kernel_rfl) Tryz.func6
    (ChangeSpec.witness_shaped (enc := enc) (C := Tryz.checked) (os := os) (X := fun w _ => laidMetH Tryz.prog [("scrinium/check.fourSteps", Rows.laid_scrinium_check_fourSteps)] w) false (World.doorLaid Tryz.prog 400 os) #[.int .i64 0, .slice none 0 0, .slice none 0 0] 8 rfl (World.shaped_of_RefB (by kernel_rfl) (by kernel_rfl)) (by kernel_rfl) (by kernel_rfl) (by kernel_rfl) (door_met os _)) ?_
  intro W base args ds gs before hval0 hW _ _ hL _
  have hval : ∀ (j : Nat) t v, Tryz.f6.params[j]? = some t → args[j]? = some v → Value.okWide Tryz.prog W .any base t v := hval0
  have hW' := hW
  obtain ⟨p, q, hA0, hV, rfl, hfz, hnd⟩ := hW
  have hA : DataW.TrodAll enc Tryz.prog W 0 (fun _ => true) true Tryz.f6.params.toList args.toList ds p := hA0
  rw [Tryz.params6] at hA hval
  obtain ⟨v0, vs0, d0, ds0, p0, q0, hargs, rfl, rfl, h0, r0⟩ := trodAll_cons hA
  obtain ⟨v1, vs1, d1, ds1, p1, q1, rfl, rfl, rfl, h1, r1⟩ := trodAll_cons r0
  obtain ⟨v2, vs2, d2, ds2, p2, q2, rfl, rfl, rfl, h2, r2⟩ := trodAll_cons r1
  obtain ⟨rfl, rfl, rfl⟩ := trodAll_nil r2
  obtain rfl : args = #[v0, v1, v2] := by cases args; simp_all
  obtain ⟨rfl, rfl⟩ := trodVars_none hV
  have hKT := KT_of_laid hL
  obtain ⟨a0, rfl, rfl, rfl, w0⟩ := open_int Tryz.underlying3 (hval 0 3 v0 rfl rfl) h0
  obtain ⟨a1, len1, cap1, rfl⟩ := okWide_slice Tryz.underlying49 (hval 1 49 v1 rfl rfl)
  obtain ⟨l1, w1⟩ := specs_of h1
  obtain ⟨a2, len2, cap2, rfl⟩ := okWide_slice Tryz.underlying23 (hval 2 23 v2 rfl rfl)
  obtain ⟨zs2, b2, w2, u2, t2⟩ := ints_of (Nat.lt_of_le_of_lt (Nat.zero_le _) hKT.pos) h2
  clear hA0 hval0
  obtain ⟨l0, m0⟩ := i64_bounds w0
  refine (walk (w := W) hKT a0 l0 m0 _ l1 w1 _ zs2 b2 w2 u2 t2).mono fun e W' ⟨he, bel⟩ => ?_
  subst he
  exact ⟨_, rfl, law_post rfl rfl (by kernel_rfl) hW' rfl bel⟩

theorem row_holds : Rows.RedoRoundSaid :=
  OpenClaim.holds_of_wide 6 Tryz.f6 rfl rfl rfl rfl rfl rfl rfl ⟨rfl, rfl, rfl, rfl, rfl⟩ rfl rfl rfl rfl rfl (by kernel_rfl) Tryz.func6 (by kernel_rfl)
    (of_decide_eq_true (by kernel_rfl)) (by unfold Func.isWrapper; first | (rw [if_pos (by decide +kernel)]; kernel_rfl) | (rw [if_neg (by decide +kernel)]; exact ⟨rfl, rfl⟩))
    (fun os started H enc _ => lifted os started H enc)

theorem holds : Rows.RedoRoundCardSaid :=
  Claim7.holds_tied_plain_at .later [] [.data] true Rows.redoRoundCard.stood.harness false
    row_holds (fun _ h => by cases h) (by kernel_rfl) (fun _ h => by cases h) redoRound_row_tie rfl ⟨rfl, rfl⟩ (by kernel_rfl) rfl
    (fun f fn hf hfn => by
      obtain rfl : f = 6 := Option.some.inj ((show Tryz.prog.funcNamed "scrinium/scriniumlaw07.RedoRound" = some 6 by kernel_rfl).symm.trans hf) |>.symm
      obtain rfl : fn = Tryz.f6 := (Option.some.inj (Tryz.func6.symm.trans hfn)).symm
      exact ⟨by kernel_rfl, fun j t ht => by
        rw [Tryz.params6] at ht
        have hm : t ∈ [3, 49, 23] := by simpa using Array.mem_of_getElem? ht
        have hall : ([3, 49, 23].all fun u => !Tryz.prog.wantsStandIn u) = true := by kernel_rfl
        exact (show Tryz.prog.wantsStandIn t = false by simpa using List.all_eq_true.1 hall t hm)⟩)
    (by kernel_rfl)
end Go.Proofs.YteggaeopnljgnaaGreatDoor.redoRound

theorem Go.Proofs.YteggaeopnljgnaaGreatDoor.redoRound_holds : Go.Proofs.YteggaeopnljgnaaGreatDoor.Rows.RedoRoundCardSaid := Go.Proofs.YteggaeopnljgnaaGreatDoor.redoRound.holds
#print axioms Go.Proofs.YteggaeopnljgnaaGreatDoor.redoRound_holds
