/-
  RedoWhole: THE THEOREM OF THE JOURNAL. For every size and script (of a longer one the first 60 steps), no condition.
-/
import Derived.Test.YteggaeopnljgnaaGreatDoorRPuts
import Derived.Test.YteggaeopnljgnaaGreatDoorRState
import Derived.Test.YteggaeopnljgnaaGreatDoorRWhole
import Derived.Test.YteggaeopnljgnaaGreatDoorMRedD
import Derived.Test.YteggaeopnljgnaaGreatDoorMArg
import Derived.Test.YteggaeopnljgnaaGreatDoorSecLaw
namespace Go.Proofs.YteggaeopnljgnaaGreatDoor.redoWhole
open Go.ChangeShapes Go.WideShapes Go.ChangeAt Go.RowKit Dsk

theorem disk_ne {Sy : Nat → Prop} {p k : Nat} {d : Dk} {w : World} {C : Array Value} {T : TypeId} {fr : Nat × Nat} (h : DiskS Sy p d w) (hk : w.heap[k]? = some (.cells C T fr)) (hT : T ≠ 90) : k ≠ p := by
  rintro rfl
  obtain ⟨_, _, _, _, _, h4⟩ := h
  have := h4.head
  rw [hk] at this
  simp at this
  exact hT this.2.1
theorem ints_old {w u : World} {v : Value} {ps : List Int} {b : Nat} (h : Ints w v ps b) (hb : Below w.heap.size w u) (hlt : b < w.heap.size) : Ints u v ps b := by
  obtain ⟨a, cap, e, hc, hx⟩ := h
  refine ⟨a, cap, e, hc, fun hne => ?_⟩
  obtain ⟨o, e1, e2, e3⟩ := hx hne
  exact ⟨o, e1, by have := hb.size; omega, fun j hj => (hb.cell (p := ⟨b, o + j, none⟩) e2).trans (e3 j hj)⟩
/-- n sectors, of which the first ones are the journal's. -/
theorem geo40 (n : Nat) (h4 : 4 ≤ n) (h21 : n ≤ 40) : ∃ G : Jnl.Geo, G.N = 40 ∧ (0 : Int) = (G.base : Int) ∧ (n : Int) = ((G.m + 1 : Nat) : Int) ∧ (∀ a, n ≤ a → a < 40 → G.Data a) ∧ G.m + 1 = n :=
  ⟨⟨40, 0, n - 1, by omega, by omega⟩, rfl, rfl, by show (n : Int) = ((n - 1 + 1 : Nat) : Int); omega, fun a h1 h2 => ⟨h2, by show ¬ (0 ≤ a ∧ a ≤ 0 + (n - 1)); omega⟩, by show n - 1 + 1 = n; omega⟩
set_option maxHeartbeats 6400000 in
set_option maxRecDepth 100000 in
theorem walk {w : World} (hT : TW w) (size : Int) (_l0 : -9223372036854775808 ≤ size) (_m0 : size ≤ 9223372036854775807) (v1 : Value) (l : List Op7R) (hl : Ops7 w v1 l) :
    Calls Tryz.prog 5 #[.int .i64 size, v1] w fun e w' => e = .returned (.bool true) ∧ Below w.heap.size w w' := by
  have hpos := hT.pos
  obtain ⟨⟨la, lcap, rfl, hll, hrow⟩, hok⟩ := hl
  obtain ⟨m, hm, hm16⟩ := mod_nat size 16 (by decide)
  rw [show ((16 : Nat) : Int) = 16 from rfl] at hm
  have hm2 : bits .and .i64 size 15 = (m : Int) := (and_mask size 4 15 (by decide) (by decide)).trans hm
  obtain ⟨n, hn⟩ : ∃ n, n = 6 + m := ⟨_, rfl⟩
  have hn6 : 6 ≤ n := by omega
  have hn21 : n ≤ 21 := by omega
  have hnm : (6 : Int) + (m : Int) = (n : Int) := by omega
  have HNM := Lib.hid hnm
  obtain ⟨G, hG1, hG2, hG3, hdat, hGm⟩ := geo40 n (by omega) (by omega)
  have hroom : 1 ≤ roomN G := by unfold roomN; show 1 ≤ min 60 (G.m - 3); omega
  have hGle : G.N ≤ 1000 := by omega
  have hG0 : 1 ≤ G.N := by omega
  have HG1 := Lib.hid hG1
  have HG2 := Lib.hid hG2
  have HG3 := Lib.hid hG3
  have HDAT := Lib.hid hdat
  clear hG1 hG2 hG3 hdat hGm hm hn hnm
  have HROW := Lib.hid hrow
  have HOK := Lib.hid hok
  have HT := Lib.hid hT
  have ha := awake_any w hT
  clear hrow hok hT
  go_enter Tryz.func5, Tryz.ntmps5
  go_upto_region 2 with (go_at_call 7; refine ha.mono ?_; rintro e w1 ⟨rfl, b1⟩)
  clear ha
  go_upto_region 3 with fail
  rw [HNM.out]
  clear hm2 hm16 HNM
  have hnew := new_hi 40 w.heap.size w1 (by decide) (by decide) b1.size 40 rfl
  go_upto_region 4 with (go_at_call 19; refine hnew.mono ?_; rintro e w2 ⟨p, rfl, b2, h2⟩)
  have s2 := b1.trans b2
  rw [← HG1.out] at h2
  have hfm := format_hi w.heap.size p G w2 h2 s2.size hpos (HT.out.old s2) hG0 hGle 0 (n : Int) HG2.out HG3.out
  clear hnew b1 b2
  go_upto_region 6 with (go_at_call 20; refine hfm.mono ?_; rintro e w3 ⟨d3, rfl, b3, h3, f3, a3⟩)
  have s3 := s2.trans b3
  obtain ⟨S0, hS0⟩ : ∃ S0, S0 = imOf (Dsk.new G.N) := ⟨_, rfl⟩
  have hS0z : ∀ a, a < 40 → S0 a = zeroB := fun a ha => by rw [hS0, HG1.out]; exact new_lies 40 a ha
  rw [← hS0] at f3
  have hop := open_free w.heap.size p G d3 S0 1 3 w3 h3 s3.size hpos (HT.out.old s3) hGle f3 (by decide) (by decide) a3 0 (n : Int) HG2.out HG3.out
  clear hfm h2 s2 b3 hS0
  go_upto_region 7 with (go_at_call 21; refine hop.mono ?_; rintro e w4 ⟨x, d4, rfl, b4, lg4, fi4, _, ar4⟩)
  have s4 := s3.trans b4
  have hxlt := lg4.lt
  clear hop h3 f3 a3 s3 b4
  have hz := (zero_of_info info_state).1
  obtain ⟨Z, hZ⟩ : ∃ Z, Z = (List.replicate 40 (Value.string ⟨#[]⟩)).toArray := ⟨_, rfl⟩
  rw [← hZ] at hz
  obtain ⟨wa, hwa⟩ : ∃ wa, wa = w4.alloc (.cells Z 47) := ⟨_, rfl⟩
  obtain ⟨sb, hsb⟩ : ∃ sb, sb = w4.heap.size := ⟨_, rfl⟩
  have ba : Below w4.heap.size w4 wa := by rw [hwa]; exact (Below.refl _ _).alloc (Nat.le_refl _) _
  have za : wa.heap[sb]? = some (.cells ((List.replicate 40 (⟨#[]⟩ : ByteArray)).map Value.string).toArray 47 (0, 0)) := by
    rw [hwa, hsb, hZ, List.map_replicate]
    exact heap_alloc_last w4 _
  have HZ := Lib.hid hZ
  clear hZ
  go_upto_region 10 with fail
  rw [← hwa, ← hsb]
  have HZZ := Lib.hid hz
  clear hwa hz
  obtain ⟨XO, hmk, hcv⟩ := zeros_obj 256 (by decide)
  rw [show ((256 : Nat) : Int) = 256 from rfl, show zs 256 = zeroB from rfl] at *
  have HMK := Lib.hid hmk
  have HCV := Lib.hid hcv
  have HS0Z := Lib.hid hS0z
  have hsbw : w4.heap.size ≤ sb := by omega
  have hwsb : w.heap.size ≤ sb := Nat.le_trans s4.size hsbw
  clear hsb
  clear hmk hcv hS0z
  go_upto_region 11 with fail
  go_loopw [11] (fun i wr => ∃ k : Nat, k ≤ 40 ∧ i = .int .i64 k ∧ ∃ L : List ByteArray, L.length = 40 ∧ (∀ a, a < k → L.getD a .empty = zeroB) ∧ wr.heap[sb]? = some (.cells (L.map Value.string).toArray 47 (0, 0)) ∧ Below w4.heap.size w4 wr) (fun i _ => 40 - (intOf i).toNat)
  case atStart => exact ⟨0, by omega, rfl, _, List.length_replicate, fun a ha => absurd ha (by omega), za, ba⟩
  case round =>
  clear za ba
  obtain ⟨k, hk, rfl, L, hL40, hLz, hst, hb4⟩ := hrel
  by_cases hlt : k < 40
  · have hlt' : (k : Int) < 40 := by omega
    have hmk := HMK.out
    have hcv := HCV.out
    obtain ⟨wm, hwm⟩ : ∃ wm, wm = wr.alloc XO := ⟨_, rfl⟩
    have bm : Below wr.heap.size wr wm := by rw [hwm]; exact (Below.refl _ _).alloc (Nat.le_refl _) _
    have hsm := (bm.block sb (Array.getElem?_eq_some_iff.1 hst).1).trans hst
    have hmk' := hmk wr
    have hcv' := hcv wr
    rw [← hwm] at hmk' hcv'
    have hcell : wm.cell? ⟨sb, k, none⟩ = some (.string (L.getD k .empty)) := by
      rw [cell_of hsm]
      simp [List.getD_eq_getElem?_getD, List.getElem?_eq_getElem (show k < L.length by omega)]
    have hfz := fz_of hsm k
    have hs2 : (wm.setCell ⟨sb, k, none⟩ (.string zeroB)).heap[sb]? = some (.cells ((L.set k zeroB).map Value.string).toArray 47 (0, 0)) := by
      rw [heap_set hsm, List.map_set, List.setIfInBounds_toArray]
    have hb2 : Below w4.heap.size w4 (wm.setCell ⟨sb, k, none⟩ (.string zeroB)) := (below_step hb4 (Nat.le_refl _) bm).setCell hsbw _
    have hLz2 : ∀ a, a < k + 1 → (L.set k zeroB).getD a .empty = zeroB := fun a ha => by
      rw [List.getD_eq_getElem?_getD, List.getElem?_set]
      by_cases e : k = a
      · rw [if_pos e, if_pos (by omega)]; rfl
      · rw [if_neg e, ← List.getD_eq_getElem?_getD]; exact hLz a (by omega)
    obtain ⟨wn, hwn⟩ : ∃ wn, wn = wm.setCell ⟨sb, k, none⟩ (.string zeroB) := ⟨_, rfl⟩
    rw [← hwn] at hs2 hb2
    have hL2 : (L.set k zeroB).length = 40 := by rw [List.length_set]; exact hL40
    obtain ⟨L2, hL2d⟩ : ∃ L2, L2 = L.set k zeroB := ⟨_, rfl⟩
    rw [← hL2d] at hs2 hLz2 hL2
    have HWN := Lib.hid hwn
    clear hmk hcv hst hsm bm hL2d hLz hb4 hwm hwn
    generalize L.getD k .empty = Yk at hcell
    generalize zeroB = zb at *
    go_upto_region 13 with fail
    go_wp2
    rw [← HWN.out]
    clear HWN
    go_roundw
    case rel => exact ⟨k + 1, by omega, by go_num, L2, hL2, hLz2, hs2, hb2⟩
    case measure => simp [intOf]; omega
  · obtain rfl : k = 40 := by omega
    have hLS : ∀ a, a < 40 → n ≤ a → L.getD a .empty = S0 a := fun a h1 _ => (hLz a h1).trans (HS0Z.out a h1).symm
    have hsw := below_step s4 (Nat.le_refl _) hb4
    have HLS := Lib.hid hLS
    clear hLz hlt hLS
    -- maybe := sure
    obtain ⟨wb, hwb⟩ : ∃ wb, wb = wr.alloc (.cells Z 47) := ⟨_, rfl⟩
    obtain ⟨mb, hmb⟩ : ∃ mb, mb = wr.heap.size := ⟨_, rfl⟩
    have hsbm : sb < mb := by rw [hmb]; exact (Array.getElem?_eq_some_iff.1 hst).1
    have bb : Below wr.heap.size wr wb := by rw [hwb]; exact (Below.refl _ _).alloc (Nat.le_refl _) _
    have zb : wb.heap[mb]? = some (.cells ((List.replicate 40 (⟨#[]⟩ : ByteArray)).map Value.string).toArray 47 (0, 0)) := by
      rw [hwb, hmb, HZ.out, List.map_replicate]
      exact heap_alloc_last wr _
    have hstb := (bb.block sb (by omega)).trans hst
    have HMB := Lib.hid hmb
    have hI := state_info hL40
    have hI2 : (Tryz.prog.info? 47).map (·.size) = some (L.map Value.string).toArray.size := by rw [List.size_toArray]; exact hI
    have h1c : (L.map Value.string).toArray.all (·.oneCell') = true := all_oneCell_toArray (fun x hx => by obtain ⟨_, _, rfl⟩ := List.mem_map.1 hx; rfl)
    have hth : wb.there mb 0 (L.map Value.string).toArray.size := by
      rw [List.size_toArray, List.length_map, hL40]
      exact there_of zb (by simp)
    have hrg := state_range hst
    have hzz := HZZ.out
    have hmw : w.heap.size ≤ mb := by have := hsw.size; omega
    have bbw : Below w.heap.size w wb := below_step hsw (Nat.le_refl _) bb
    obtain ⟨wc, hwc⟩ : ∃ wc, wc = wb.setCells mb 0 (L.map Value.string) := ⟨_, rfl⟩
    have bc : Below w.heap.size w wc := by rw [hwc]; exact below_setCells hmw _ _ _ bbw
    have hm_c : wc.heap[mb]? = some (.cells (L.map Value.string).toArray 47 (0, 0)) := by
      have := heap_setCells mb 47 (L.map Value.string) 0 ((List.replicate 40 (⟨#[]⟩ : ByteArray)).map Value.string) wb (by simp [hL40]) zb
      rw [hwc, this]
      congr 2
      simp [hL40]
    have honly : Only mb wb wc := by rw [hwc]; exact only_setCells _ _ _ (Only.refl mb wb)
    have hs_c := (honly.block sb (by have := bb.size; omega) (by omega)).trans hstb
    obtain ⟨Sy, hSy⟩ : ∃ Sy : Nat → Prop, Sy = fun i => w.heap.size ≤ i ∧ i ≠ sb ∧ i ≠ mb := ⟨_, rfl⟩
    have hSyB : ∀ k, Sy k → w.heap.size ≤ k := fun k hk => by rw [hSy] at hk; exact hk.1
    have hSys : ¬ Sy sb := fun hk => by rw [hSy] at hk; exact hk.2.1 rfl
    have hSym : ¬ Sy mb := fun hk => by rw [hSy] at hk; exact hk.2.2 rfl
    have hSy0 : ¬ Sy 0 := fun hk => by have := hSyB _ hk; omega
    have hszc : mb < wc.heap.size := (Array.getElem?_eq_some_iff.1 hm_c).1
    have hup : ∀ u : World, wc.heap.size ≤ u.heap.size → Up Sy u := fun u hu k hk => by rw [hSy]; have := bc.size; exact ⟨by omega, by omega, by omega⟩
    have lgc : LG Sy x p G d4 S0 1 0 wc := (((lg4.mono (Sy' := Sy) fun k hk hh => by have hh' : w.heap.size ≤ k := hh; have := hb4.size; rw [hSy]; exact ⟨hh', by omega, by omega⟩).old hb4).old bb).fr (honly.fr (S := fun i => i = mb) rfl) fun k hk e => hSym (e ▸ hk)
    have HUP := Lib.hid hup
    have hwc' : wc = wb.setCells mb 0 (L.map Value.string).toArray.toList := hwc
    rw [hwb, hmb] at hwc'
    have HWC := Lib.hid hwc'
    rw [hwb] at hth
    rw [hmb] at hth
    have HTH := Lib.hid hth
    clear hwc hwc' hwb hSy hup honly hst hstb zb bb bbw hb4 lg4 hsw hth hmb
    go_upto_region 15 with (first
      | refine wpList_load_mid rfl 47 (.tmp 10) rfl sb 0 rfl (L.map Value.string) _ hrg Tryz.underlying47 rfl hI ?_
      | refine wpList_store_mid rfl 47 (.tmp 12) (.tmp 56) rfl wr.heap.size 0 (L.map Value.string).toArray rfl rfl HTH.out hI2 h1c ?_)
    rw [← HWC.out, ← HMB.out]
    have P0 : Play Sy p G n sb mb w wc 0 x L L wc := ⟨hL40, hL40, hs_c, hm_c, bc, Nat.le_refl _, .inl ⟨S0, 1, 0, d4, lgc, fi4.mono (by decide), by decide, HLS.out, rfl⟩⟩
    clear HMB HWC HTH hI hI2 h1c hrg hzz hszc lgc hs_c hm_c fi4 ar4 hL40 HLS HS0Z HMK HCV HZ HZZ
    go_upto_region 16 with fail
    go_loopw [8, 13] (fun xv i wr => ∃ k x : Nat, k ≤ l.length ∧ k ≤ 60 ∧ i = .int .i64 k ∧ xv = .pointer (some ⟨x, 0, none⟩) ∧ ∃ L L' : List ByteArray, Play Sy p G n sb mb w wc k x L L' wr) (fun _ i _ => 60 - (intOf i).toNat)
    case atStart => exact ⟨0, x, Nat.zero_le _, Nat.zero_le _, rfl, rfl, L, L, P0⟩
    case round =>
    clear P0 hk
    obtain ⟨k, x, hk, hk60, rfl, rfl, L, L', hP⟩ := hrel
    by_cases hlt : k < l.length ∧ k < 60
    · obtain ⟨hlt, hl60⟩ := hlt
      have hlt' : (k : Int) < (l.length : Int) := by omega
      have hl60' : (k : Int) < 60 := by omega
      obtain ⟨b, off, rfl, hbB, hcs⟩ := HROW.out k hlt
      obtain ⟨hkz, hnz, ⟨sl, hsl⟩, ⟨pps, ppb, hps, hppb⟩⟩ := HOK.out l[k] (List.getElem_mem _)
      have c0 : wr.cell? ⟨b, off + k * 4, none⟩ = some (.int .i64 l[k].kind) := (hP.low.cell (p := ⟨b, off + k * 4, none⟩) hbB).trans (hcs 0 _ rfl)
      have c1 : wr.cell? ⟨b, off + k * 4 + 1, none⟩ = some (.int .i64 l[k].n) := (hP.low.cell (p := ⟨b, off + k * 4 + 1, none⟩) hbB).trans (by rw [Nat.add_assoc]; exact hcs 1 _ rfl)
      have c2 : wr.cell? ⟨b, off + k * 4 + 2, none⟩ = some l[k].sv := (hP.low.cell (p := ⟨b, off + k * 4 + 2, none⟩) hbB).trans (by rw [Nat.add_assoc]; exact hcs 2 _ rfl)
      have c3 : wr.cell? ⟨b, off + k * 4 + 3, none⟩ = some l[k].pv := (hP.low.cell (p := ⟨b, off + k * 4 + 3, none⟩) hbB).trans (by rw [Nat.add_assoc]; exact hcs 3 _ rfl)
      generalize l[k].kind = kz at *
      generalize l[k].n = nz at *
      generalize l[k].sv = sv at *
      generalize l[k].pv = pv at *
      have hsl0 := hsl
      have hps0 := hps
      obtain ⟨⟨sa, scap, rfl, _, _⟩, _⟩ := hsl
      obtain ⟨pa, pcap, rfl, _, _⟩ := hps
      obtain ⟨wo, hwo⟩ : ∃ wo, wo = wr.alloc (.cells #[.int .i64 kz, .int .i64 nz, .slice sa sl.length scap, .slice pa pps.length pcap] 51) := ⟨_, rfl⟩
      obtain ⟨ob, hob⟩ : ∃ ob, ob = wr.heap.size := ⟨_, rfl⟩
      have bo : Below wr.heap.size wr wo := by rw [hwo]; exact (Below.refl _ _).alloc (Nat.le_refl _) _
      have zo : wo.heap[ob]? = some (.cells #[.int .i64 kz, .int .i64 nz, .slice sa sl.length scap, .slice pa pps.length pcap] 51 (0, 0)) := by rw [hwo, hob]; exact heap_alloc_last wr _
      have HOB := Lib.hid hob
      have HSL := Lib.hid hsl0
      have HPS := Lib.hid hps0
      have HP := Lib.hid hP
      clear hcs hsl0 hps0 hP
      go_upto_region 19 with fail
      rw [← hwo, ← hob]
      clear hwo hob c0 c1 c2 c3
      have o0 : wo.cell? ⟨ob, 0, none⟩ = some (.int .i64 kz) := cell_of zo 0
      have o1 : wo.cell? ⟨ob, 1, none⟩ = some (.int .i64 nz) := cell_of zo 1
      have o2 : wo.cell? ⟨ob, 2, none⟩ = some (.slice sa sl.length scap) := cell_of zo 2
      have o3 : wo.cell? ⟨ob, 3, none⟩ = some (.slice pa pps.length pcap) := cell_of zo 3
      have ZO := Lib.hid zo
      obtain ⟨r, hr⟩ : ∃ r, kz.tmod 10 = r := ⟨_, rfl⟩
      have hr1 : -10 < r := by rw [← hr]; have := Int.lt_tmod_of_pos kz (show (0 : Int) < 10 by decide); omega
      have hr2 : r < 10 := by rw [← hr]; exact Int.tmod_lt_of_pos kz (by decide)
      obtain ⟨K, hK⟩ : ∃ K : Nat, K = (if r < 0 then r + 10 else r).toNat := ⟨_, rfl⟩
      have hKK : (r < 0 ∧ r + 10 = (K : Int)) ∨ (¬ r < 0 ∧ r = (K : Int)) := by rw [hK]; split <;> omega
      have HKK := Lib.hid hKK
      have hK9 : K ≤ 9 := by omega
      clear zo hK hKK
      go_upto_if 75 with fail
      go_cut [15] from 57 to 176 (fun s15 wx => wo = wx ∧ s15 = .int .i64 (K : Int))
      case first =>
        rcases HKK.out with ⟨hneg, e⟩ | ⟨hneg, e⟩
        · go_wp2
          try rw [e]
          go_meet
          case rel => exact ⟨rfl, rfl⟩
        · subst e
          go_wp2
          go_meet
          case rel => exact ⟨rfl, rfl⟩
      case rest =>
      obtain ⟨rfl, rfl⟩ := hcut
      clear hr hr1 hr2 HKK
      have hKc : K = 5 ∨ K = 6 ∨ K = 7 ∨ K = 8 ∨ K = 9 ∨ K ≤ 4 := by omega
      have huo := HUP.out wo (Nat.le_trans HP.out.size bo.size)
      have hTo := HT.out.old (below_step HP.out.low (Nat.le_refl _) bo)
      rcases hKc with rfl | rfl | rfl | rfl | rfl | hK4
      · have hc := checkpoint_play Sy p G n sb mb w wc k x L L' wr wo HP.out bo hSyB hSys hSym hSy0 huo hTo hGle hk60
        go_wp2_with (go_at_call 22; refine hc.mono ?_; rintro e w7 ⟨z7, rfl, hP7⟩)
        go_roundw
        case rel => exact ⟨k + 1, x, by omega, by omega, by go_num, rfl, L, L', hP7⟩
        case measure => simp [intOf]; omega
      · have hzb : nz.tmod 40 ≤ 9223372036854775807 := by have := Int.tmod_lt_of_pos nz (show (0 : Int) < 40 by decide); omega
        have hc := arm_play Sy p G n sb mb w wc k x L L' wr wo (nz.tmod 40) HP.out bo hSyB hSys hSym hzb
        go_wp2_with (go_at_call 23; refine hc.mono ?_; rintro e w7 ⟨rfl, hP7⟩)
        go_roundw
        case rel => exact ⟨k + 1, x, by omega, by omega, by go_num, rfl, L, L', hP7⟩
        case measure => simp [intOf]; omega
      · have hbw := below_step HP.out.low (Nat.le_refl _) bo
        have hpo := HPS.out
        have hpk := picks7_any kz nz (.slice sa sl.length scap) (.slice pa pps.length pcap) pps ppb wo (ints_old hpo hbw hppb)
        have hNp : 0 < G.N := by omega
        go_upto_region 41 with (first
          | (go_at_call 25; refine hpk.mono ?_; rintro e w7 ⟨pv7, rfl, b7, hi7⟩; have hcr := crash_play Sy p G n sb mb w wc k x L L' wr w7 pv7 (pps.take 20) ppb HP.out (below_step bo (Nat.le_refl _) b7) hSyB hSys hSym (hi7 w7 b7) hppb hNp)
          | (go_at_call 24; refine hcr.mono ?_; rintro e wY ⟨rfl, hY, hF8⟩))
        clear hpk hcr hi7
        clear hF8 o0 o1 o2 o3
        go_upto_region 45 with fail
        have hop := open_play Sy p G n sb mb w wc (5000 * (k + 1)) (k + 1) L L' wY hY hSyB hSys hSym hSy0 (HUP.out wY hY.size) (HT.out.old hY.low) hGle (by omega) (by omega) 0 (n : Int) HG2.out HG3.out
        have hL40 := HP.out.len
        have hL40' := HP.out.len'
        clear hY
        go_upto_region 46 with (go_at_call 21; refine hop.mono ?_; rintro e w9 ⟨y, rfl, hs9, hm9, hl9, hz9, S9, q9, d9, lg9, fi9, hq9, hag⟩)
        clear hop
        have hus : Calls Tryz.prog 26 #[.pointer (some ⟨y, 0, none⟩)] w9 fun e w' => e = .returned (.int .i64 0) ∧ w9 = w' := by
          obtain ⟨pl9, A9, L9⟩ := lg9
          have := used_any Sy y p G pl9 q9 0 w9 _ L9
          rw [show ((0 : Nat) : Int) = 0 from rfl] at this
          exact this
        go_upto_region 49 with (go_at_call 26; refine hus.mono ?_; rintro e w9' ⟨rfl, rfl⟩)
        clear hus
        have hra := reads_any Sy y p G d9 S9 q9 0 n L w9 lg9 hL40 (by omega) HDAT.out
        have hI1 := state_info hL40
        have hI2 := state_info hL40'
        have hab : sameB n L S9 = true ∨ sameB n L' S9 = true := hag.imp (fun h => sameB_iff.2 h) fun h => sameB_iff.2 h
        obtain ⟨qa, hqa⟩ : ∃ qa, qa = sameB n L S9 := ⟨_, rfl⟩
        obtain ⟨qb, hqb⟩ : ∃ qb, qb = sameB n L' S9 := ⟨_, rfl⟩
        rw [← hqa] at hra hab
        have HQA := Lib.hid hqa
        have HQB := Lib.hid hqb
        clear hqa hqb
        unfold stV at hra
        have hrg9 := state_range hs9
        go_upto_region 50 with (first
          | refine wpList_load_mid rfl 47 (.tmp 10) rfl sb 0 rfl (L.map Value.string) _ hrg9 Tryz.underlying47 rfl hI1 ?_
          | (go_at_call 27; refine hra.mono ?_; rintro e w10 ⟨rfl, b10⟩))
        have hrb := reads_any Sy y p G d9 S9 q9 0 n L' w10 (lg9.old b10) hL40' (by omega) HDAT.out
        rw [← HQB.out] at hrb hab
        unfold stV at hrb
        have hm10 := hm9.old b10
        have hs10 := hs9.old b10
        have hrg10 := state_range hm10
        clear hra hrg9
        go_upto_region 51 with (first
          | refine wpList_load_mid rfl 47 (.tmp 12) rfl mb 0 rfl (L'.map Value.string) _ hrg10 Tryz.underlying47 rfl hI2 ?_
          | (go_at_call 27; refine hrb.mono ?_; rintro e w11 ⟨rfl, b11⟩))
        have lg11 := (lg9.old b10).old b11
        have hs11 := hs10.old b11
        have hm11 := hm10.old b11
        have hl11 := below_step (below_step hl9 (Nat.le_refl _) b10) (Nat.le_refl _) b11
        have hz11 := Nat.le_trans (Nat.le_trans hz9 b10.size) b11.size
        clear hrb hrg10 hs9 hm9 hl9 hz9 lg9 hs10 hm10 b10 b11 hag
        cases qa with
        | true =>
          have hagL : Agree n L S9 := sameB_iff.1 HQA.out.symm
          have hrg := state_range hs11
          have hth := st_there (L2 := L) hm11 hL40' hL40
          have hJ := st_info hL40
          have hO := st_one L
          obtain ⟨r1, r2⟩ := st_set (L2 := L) hm11 hL40' hL40
          have q3 := hs11.only r2 (by omega)
          have lgE := lg11.fr (r2.fr (S := fun i => i = mb) rfl) fun i hi e => hSym (e ▸ hi)
          have hlE := hl11.trans (r2.below (by omega) hl11.size)
          have hzE := Nat.le_trans hz11 r2.size
          obtain ⟨wd, hwd⟩ : ∃ wd, wd = w11.setCells mb 0 (L.map Value.string).toArray.toList := ⟨_, rfl⟩
          rw [← hwd] at r1 q3 lgE hlE hzE
          have hPl : Play Sy p G n sb mb w wc (k + 1) y L L wd := ⟨hL40, hL40, q3, r1, hlE, hzE, .inl ⟨S9, q9, 0, d9, lgE, fi9.mono (by omega), by omega, hagL, rfl⟩⟩
          have HWD := Lib.hid hwd
          clear hwd r2 HQA HQB hab
          go_upto_region 55 with fail
          go_upto_region 17 with (first
            | refine wpList_load_mid rfl 47 (.tmp 10) rfl sb 0 rfl (L.map Value.string) _ hrg Tryz.underlying47 rfl hI1 ?_
            | refine wpList_store_mid rfl 47 (.tmp 12) (.tmp 176) rfl mb 0 (L.map Value.string).toArray rfl rfl hth hJ hO ?_)
          rw [← HWD.out]
          clear HWD hth hrg
          go_wp2
          go_roundw
          case rel => exact ⟨k + 1, y, by omega, by omega, by go_num, rfl, L, L, hPl⟩
          case measure => simp [intOf]; omega
        | false =>
          have hqt : qb = true := hab.resolve_left Bool.false_ne_true
          have hagL : Agree n L' S9 := sameB_iff.1 (HQB.out.symm.trans hqt)
          subst hqt
          have hrg := state_range hm11
          have hth := st_there (L2 := L') hs11 hL40 hL40'
          have hJ := st_info hL40'
          have hO := st_one L'
          obtain ⟨r1, r2⟩ := st_set (L2 := L') hs11 hL40 hL40'
          have q3 := hm11.only r2 (by omega)
          have lgE := lg11.fr (r2.fr (S := fun i => i = sb) rfl) fun i hi e => hSys (e ▸ hi)
          have hlE := hl11.trans (r2.below (by omega) hl11.size)
          have hzE := Nat.le_trans hz11 r2.size
          obtain ⟨wd, hwd⟩ : ∃ wd, wd = w11.setCells sb 0 (L'.map Value.string).toArray.toList := ⟨_, rfl⟩
          rw [← hwd] at r1 q3 lgE hlE hzE
          have HWD := Lib.hid hwd
          clear hwd r2 HQA HQB hab
          go_upto_region 54 with fail
          go_upto_region 55 with (first
            | refine wpList_load_mid rfl 47 (.tmp 12) rfl mb 0 rfl (L'.map Value.string) _ hrg Tryz.underlying47 rfl hI2 ?_
            | refine wpList_store_mid rfl 47 (.tmp 10) (.tmp 175) rfl sb 0 (L'.map Value.string).toArray rfl rfl hth hJ hO ?_)
          rw [← HWD.out]
          clear HWD hth hrg hs11 hm11 lg11 hl11 hz11
          have hrg := state_range r1
          have hth := st_there (L2 := L') q3 hL40' hL40'
          obtain ⟨t1, t2⟩ := st_set (L2 := L') q3 hL40' hL40'
          have t3 := r1.only t2 (by omega)
          have lgF := lgE.fr (t2.fr (S := fun i => i = mb) rfl) fun i hi e => hSym (e ▸ hi)
          have hlF := hlE.trans (t2.below (by omega) hlE.size)
          have hzF := Nat.le_trans hzE t2.size
          obtain ⟨wf, hwf⟩ : ∃ wf, wf = wd.setCells mb 0 (L'.map Value.string).toArray.toList := ⟨_, rfl⟩
          rw [← hwf] at t1 t3 lgF hlF hzF
          have hPl : Play Sy p G n sb mb w wc (k + 1) y L' L' wf := ⟨hL40', hL40', t3, t1, hlF, hzF, .inl ⟨S9, q9, 0, d9, lgF, fi9.mono (by omega), by omega, hagL, rfl⟩⟩
          have HWF := Lib.hid hwf
          clear hwf t2
          go_upto_region 17 with (first
            | refine wpList_load_mid rfl 47 (.tmp 10) rfl sb 0 rfl (L'.map Value.string) _ hrg Tryz.underlying47 rfl hI2 ?_
            | refine wpList_store_mid rfl 47 (.tmp 12) (.tmp 176) rfl mb 0 (L'.map Value.string).toArray rfl rfl hth hJ hO ?_)
          rw [← HWF.out]
          clear HWF hth hrg
          go_wp2
          go_roundw
          case rel => exact ⟨k + 1, y, by omega, by omega, by go_num, rfl, L', L', hPl⟩
          case measure => simp [intOf]; omega
      · have hbw := below_step HP.out.low (Nat.le_refl _) bo
        have hpo := HPS.out
        have hpk := picks7_any kz nz (.slice sa sl.length scap) (.slice pa pps.length pcap) pps ppb wo (ints_old hpo hbw hppb)
        have hNp : 0 < G.N := by omega
        go_upto_region 41 with (first
          | (go_at_call 25; refine hpk.mono ?_; rintro e w7 ⟨pv7, rfl, b7, hi7⟩; have hcr := crash_play Sy p G n sb mb w wc k x L L' wr w7 pv7 (pps.take 20) ppb HP.out (below_step bo (Nat.le_refl _) b7) hSyB hSys hSym (hi7 w7 b7) hppb hNp)
          | (go_at_call 24; refine hcr.mono ?_; rintro e wY ⟨rfl, hY, hF8⟩))
        clear hpk hcr hi7
        clear hF8 o0 o1 o2 o3
        go_upto_region 45 with fail
        have hop := open_play Sy p G n sb mb w wc (5000 * (k + 1)) (k + 1) L L' wY hY hSyB hSys hSym hSy0 (HUP.out wY hY.size) (HT.out.old hY.low) hGle (by omega) (by omega) 0 (n : Int) HG2.out HG3.out
        have hL40 := HP.out.len
        have hL40' := HP.out.len'
        clear hY
        go_upto_region 46 with (go_at_call 21; refine hop.mono ?_; rintro e w9 ⟨y, rfl, hs9, hm9, hl9, hz9, S9, q9, d9, lg9, fi9, hq9, hag⟩)
        clear hop
        have hus : Calls Tryz.prog 26 #[.pointer (some ⟨y, 0, none⟩)] w9 fun e w' => e = .returned (.int .i64 0) ∧ w9 = w' := by
          obtain ⟨pl9, A9, L9⟩ := lg9
          have := used_any Sy y p G pl9 q9 0 w9 _ L9
          rw [show ((0 : Nat) : Int) = 0 from rfl] at this
          exact this
        go_upto_region 49 with (go_at_call 26; refine hus.mono ?_; rintro e w9' ⟨rfl, rfl⟩)
        clear hus
        have hra := reads_any Sy y p G d9 S9 q9 0 n L w9 lg9 hL40 (by omega) HDAT.out
        have hI1 := state_info hL40
        have hI2 := state_info hL40'
        have hab : sameB n L S9 = true ∨ sameB n L' S9 = true := hag.imp (fun h => sameB_iff.2 h) fun h => sameB_iff.2 h
        obtain ⟨qa, hqa⟩ : ∃ qa, qa = sameB n L S9 := ⟨_, rfl⟩
        obtain ⟨qb, hqb⟩ : ∃ qb, qb = sameB n L' S9 := ⟨_, rfl⟩
        rw [← hqa] at hra hab
        have HQA := Lib.hid hqa
        have HQB := Lib.hid hqb
        clear hqa hqb
        unfold stV at hra
        have hrg9 := state_range hs9
        go_upto_region 50 with (first
          | refine wpList_load_mid rfl 47 (.tmp 10) rfl sb 0 rfl (L.map Value.string) _ hrg9 Tryz.underlying47 rfl hI1 ?_
          | (go_at_call 27; refine hra.mono ?_; rintro e w10 ⟨rfl, b10⟩))
        have hrb := reads_any Sy y p G d9 S9 q9 0 n L' w10 (lg9.old b10) hL40' (by omega) HDAT.out
        rw [← HQB.out] at hrb hab
        unfold stV at hrb
        have hm10 := hm9.old b10
        have hs10 := hs9.old b10
        have hrg10 := state_range hm10
        clear hra hrg9
        go_upto_region 51 with (first
          | refine wpList_load_mid rfl 47 (.tmp 12) rfl mb 0 rfl (L'.map Value.string) _ hrg10 Tryz.underlying47 rfl hI2 ?_
          | (go_at_call 27; refine hrb.mono ?_; rintro e w11 ⟨rfl, b11⟩))
        have lg11 := (lg9.old b10).old b11
        have hs11 := hs10.old b11
        have hm11 := hm10.old b11
        have hl11 := below_step (below_step hl9 (Nat.le_refl _) b10) (Nat.le_refl _) b11
        have hz11 := Nat.le_trans (Nat.le_trans hz9 b10.size) b11.size
        clear hrb hrg10 hs9 hm9 hl9 hz9 lg9 hs10 hm10 b10 b11 hag
        cases qa with
        | true =>
          have hagL : Agree n L S9 := sameB_iff.1 HQA.out.symm
          have hrg := state_range hs11
          have hth := st_there (L2 := L) hm11 hL40' hL40
          have hJ := st_info hL40
          have hO := st_one L
          obtain ⟨r1, r2⟩ := st_set (L2 := L) hm11 hL40' hL40
          have q3 := hs11.only r2 (by omega)
          have lgE := lg11.fr (r2.fr (S := fun i => i = mb) rfl) fun i hi e => hSym (e ▸ hi)
          have hlE := hl11.trans (r2.below (by omega) hl11.size)
          have hzE := Nat.le_trans hz11 r2.size
          obtain ⟨wd, hwd⟩ : ∃ wd, wd = w11.setCells mb 0 (L.map Value.string).toArray.toList := ⟨_, rfl⟩
          rw [← hwd] at r1 q3 lgE hlE hzE
          have hPl : Play Sy p G n sb mb w wc (k + 1) y L L wd := ⟨hL40, hL40, q3, r1, hlE, hzE, .inl ⟨S9, q9, 0, d9, lgE, fi9.mono (by omega), by omega, hagL, rfl⟩⟩
          have HWD := Lib.hid hwd
          clear hwd r2 HQA HQB hab
          go_upto_region 55 with fail
          go_upto_region 17 with (first
            | refine wpList_load_mid rfl 47 (.tmp 10) rfl sb 0 rfl (L.map Value.string) _ hrg Tryz.underlying47 rfl hI1 ?_
            | refine wpList_store_mid rfl 47 (.tmp 12) (.tmp 176) rfl mb 0 (L.map Value.string).toArray rfl rfl hth hJ hO ?_)
          rw [← HWD.out]
          clear HWD hth hrg
          go_wp2
          go_roundw
          case rel => exact ⟨k + 1, y, by omega, by omega, by go_num, rfl, L, L, hPl⟩
          case measure => simp [intOf]; omega
        | false =>
          have hqt : qb = true := hab.resolve_left Bool.false_ne_true
          have hagL : Agree n L' S9 := sameB_iff.1 (HQB.out.symm.trans hqt)
          subst hqt
          have hrg := state_range hm11
          have hth := st_there (L2 := L') hs11 hL40 hL40'
          have hJ := st_info hL40'
          have hO := st_one L'
          obtain ⟨r1, r2⟩ := st_set (L2 := L') hs11 hL40 hL40'
          have q3 := hm11.only r2 (by omega)
          have lgE := lg11.fr (r2.fr (S := fun i => i = sb) rfl) fun i hi e => hSys (e ▸ hi)
          have hlE := hl11.trans (r2.below (by omega) hl11.size)
          have hzE := Nat.le_trans hz11 r2.size
          obtain ⟨wd, hwd⟩ : ∃ wd, wd = w11.setCells sb 0 (L'.map Value.string).toArray.toList := ⟨_, rfl⟩
          rw [← hwd] at r1 q3 lgE hlE hzE
          have HWD := Lib.hid hwd
          clear hwd r2 HQA HQB hab
          go_upto_region 54 with fail
          go_upto_region 55 with (first
            | refine wpList_load_mid rfl 47 (.tmp 12) rfl mb 0 rfl (L'.map Value.string) _ hrg Tryz.underlying47 rfl hI2 ?_
            | refine wpList_store_mid rfl 47 (.tmp 10) (.tmp 175) rfl sb 0 (L'.map Value.string).toArray rfl rfl hth hJ hO ?_)
          rw [← HWD.out]
          clear HWD hth hrg hs11 hm11 lg11 hl11 hz11
          have hrg := state_range r1
          have hth := st_there (L2 := L') q3 hL40' hL40'
          obtain ⟨t1, t2⟩ := st_set (L2 := L') q3 hL40' hL40'
          have t3 := r1.only t2 (by omega)
          have lgF := lgE.fr (t2.fr (S := fun i => i = mb) rfl) fun i hi e => hSym (e ▸ hi)
          have hlF := hlE.trans (t2.below (by omega) hlE.size)
          have hzF := Nat.le_trans hzE t2.size
          obtain ⟨wf, hwf⟩ : ∃ wf, wf = wd.setCells mb 0 (L'.map Value.string).toArray.toList := ⟨_, rfl⟩
          rw [← hwf] at t1 t3 lgF hlF hzF
          have hPl : Play Sy p G n sb mb w wc (k + 1) y L' L' wf := ⟨hL40', hL40', t3, t1, hlF, hzF, .inl ⟨S9, q9, 0, d9, lgF, fi9.mono (by omega), by omega, hagL, rfl⟩⟩
          have HWF := Lib.hid hwf
          clear hwf t2
          go_upto_region 17 with (first
            | refine wpList_load_mid rfl 47 (.tmp 10) rfl sb 0 rfl (L'.map Value.string) _ hrg Tryz.underlying47 rfl hI2 ?_
            | refine wpList_store_mid rfl 47 (.tmp 12) (.tmp 176) rfl mb 0 (L'.map Value.string).toArray rfl rfl hth hJ hO ?_)
          rw [← HWF.out]
          clear HWF hth hrg
          go_wp2
          go_roundw
          case rel => exact ⟨k + 1, y, by omega, by omega, by go_num, rfl, L', L', hPl⟩
          case measure => simp [intOf]; omega
      · have hbw := below_step HP.out.low (Nat.le_refl _) bo
        have hpo := HPS.out
        have hpk := picks7_any kz nz (.slice sa sl.length scap) (.slice pa pps.length pcap) pps ppb wo (ints_old hpo hbw hppb)
        have hNp : 0 < G.N := by omega
        go_upto_region 41 with (first
          | (go_at_call 25; refine hpk.mono ?_; rintro e w7 ⟨pv7, rfl, b7, hi7⟩; have hcr := crash_play Sy p G n sb mb w wc k x L L' wr w7 pv7 (pps.take 20) ppb HP.out (below_step bo (Nat.le_refl _) b7) hSyB hSys hSym (hi7 w7 b7) hppb hNp)
          | (go_at_call 24; refine hcr.mono ?_; rintro e wX ⟨rfl, hX, hF8⟩))
        have z7 := (b7.block ob (Array.getElem?_eq_some_iff.1 ZO.out).1).trans ZO.out
        have zX := ((hF8 (ob + 1)).other ob _ _ _ (by omega) z7 (by decide) (by decide) (by decide)).trans z7
        have oX1 : wX.cell? ⟨ob, 1, none⟩ = some (.int .i64 nz) := cell_of zX 1
        have hzb : nz.tmod 20 ≤ 9223372036854775807 := by have := Int.tmod_lt_of_pos nz (show (0 : Int) < 20 by decide); omega
        have har := arm_flat Sy p G n sb mb w wc (5000 * (k + 1)) (k + 1) L L' wX (nz.tmod 20) hX hSyB hSys hSym hzb
        have hpne : ob ≠ p := by
          obtain ⟨_, _, _, hD, _⟩ := hX.flat
          exact disk_ne hD zX (by decide)
        have HZX := Lib.hid zX
        clear hpk hcr hi7 hF8 o0 o1 o2 o3 z7 zX hX
        go_upto_region 43 with (go_at_call 23; refine har.mono ?_; rintro e wA ⟨rfl, hA7, hoA, _⟩)
        have zA := (hoA.block ob (Array.getElem?_eq_some_iff.1 HZX.out).1 hpne).trans HZX.out
        have HZA := Lib.hid zA
        have hoh := open_half Sy p G n sb mb w wc (5000 * (k + 1)) (k + 1) L L' wA hA7 hSyB hSys hSym hSy0 (HUP.out wA hA7.size) (HT.out.old hA7.low) hGle (by omega) (by omega) 0 (n : Int) HG2.out HG3.out
        clear har hoA oX1 zA hA7
        go_upto_region 44 with (go_at_call 21; refine hoh.mono ?_; rintro e wB ⟨va, vb, rfl, hB7, lB, hlB, hFB⟩)
        have zB := (hFB.other ob _ _ _ (by have := (Array.getElem?_eq_some_iff.1 HZA.out).1; omega) HZA.out (by decide) (by decide) (by decide)).trans HZA.out
        have o0 : wB.cell? ⟨ob, 0, none⟩ = some (.int .i64 kz) := cell_of zB 0
        have o1 : wB.cell? ⟨ob, 1, none⟩ = some (.int .i64 nz) := cell_of zB 1
        have o2 : wB.cell? ⟨ob, 2, none⟩ = some (.slice sa sl.length scap) := cell_of zB 2
        have o3 : wB.cell? ⟨ob, 3, none⟩ = some (.slice pa pps.length pcap) := cell_of zB 3
        have hpk := picks7_any kz nz (.slice sa sl.length scap) (.slice pa pps.length pcap) pps ppb wB (ints_old hpo hB7.low hppb)
        clear hoh zB hFB
        go_upto_region 45 with (first
          | (go_at_call 25; refine hpk.mono ?_; rintro e wC ⟨pvC, rfl, bC, hiC⟩; have hcr := crash_half Sy p G n sb mb w wc (5000 * (k + 1) + 2000) (k + 1) L L' wB wC pvC (pps.take 20) ppb hB7 bC hSyB hSys hSym (hiC wC bC) hppb hNp)
          | (go_at_call 24; refine hcr.mono ?_; rintro e wY ⟨rfl, hY⟩))
        clear hpk hcr hiC hB7 o0 o1 o2 o3
        have hop := open_play Sy p G n sb mb w wc (5000 * (k + 1) + 2000) (k + 1) L L' wY hY hSyB hSys hSym hSy0 (HUP.out wY hY.size) (HT.out.old hY.low) hGle (by omega) (by omega) 0 (n : Int) HG2.out HG3.out
        have hL40 := HP.out.len
        have hL40' := HP.out.len'
        clear hY
        go_upto_region 46 with (go_at_call 21; refine hop.mono ?_; rintro e w9 ⟨y, rfl, hs9, hm9, hl9, hz9, S9, q9, d9, lg9, fi9, hq9, hag⟩)
        clear hop
        have hus : Calls Tryz.prog 26 #[.pointer (some ⟨y, 0, none⟩)] w9 fun e w' => e = .returned (.int .i64 0) ∧ w9 = w' := by
          obtain ⟨pl9, A9, L9⟩ := lg9
          have := used_any Sy y p G pl9 q9 0 w9 _ L9
          rw [show ((0 : Nat) : Int) = 0 from rfl] at this
          exact this
        go_upto_region 49 with (go_at_call 26; refine hus.mono ?_; rintro e w9' ⟨rfl, rfl⟩)
        clear hus
        have hra := reads_any Sy y p G d9 S9 q9 0 n L w9 lg9 hL40 (by omega) HDAT.out
        have hI1 := state_info hL40
        have hI2 := state_info hL40'
        have hab : sameB n L S9 = true ∨ sameB n L' S9 = true := hag.imp (fun h => sameB_iff.2 h) fun h => sameB_iff.2 h
        obtain ⟨qa, hqa⟩ : ∃ qa, qa = sameB n L S9 := ⟨_, rfl⟩
        obtain ⟨qb, hqb⟩ : ∃ qb, qb = sameB n L' S9 := ⟨_, rfl⟩
        rw [← hqa] at hra hab
        have HQA := Lib.hid hqa
        have HQB := Lib.hid hqb
        clear hqa hqb
        unfold stV at hra
        have hrg9 := state_range hs9
        go_upto_region 50 with (first
          | refine wpList_load_mid rfl 47 (.tmp 10) rfl sb 0 rfl (L.map Value.string) _ hrg9 Tryz.underlying47 rfl hI1 ?_
          | (go_at_call 27; refine hra.mono ?_; rintro e w10 ⟨rfl, b10⟩))
        have hrb := reads_any Sy y p G d9 S9 q9 0 n L' w10 (lg9.old b10) hL40' (by omega) HDAT.out
        rw [← HQB.out] at hrb hab
        unfold stV at hrb
        have hm10 := hm9.old b10
        have hs10 := hs9.old b10
        have hrg10 := state_range hm10
        clear hra hrg9
        go_upto_region 51 with (first
          | refine wpList_load_mid rfl 47 (.tmp 12) rfl mb 0 rfl (L'.map Value.string) _ hrg10 Tryz.underlying47 rfl hI2 ?_
          | (go_at_call 27; refine hrb.mono ?_; rintro e w11 ⟨rfl, b11⟩))
        have lg11 := (lg9.old b10).old b11
        have hs11 := hs10.old b11
        have hm11 := hm10.old b11
        have hl11 := below_step (below_step hl9 (Nat.le_refl _) b10) (Nat.le_refl _) b11
        have hz11 := Nat.le_trans (Nat.le_trans hz9 b10.size) b11.size
        clear hrb hrg10 hs9 hm9 hl9 hz9 lg9 hs10 hm10 b10 b11 hag
        cases qa with
        | true =>
          have hagL : Agree n L S9 := sameB_iff.1 HQA.out.symm
          have hrg := state_range hs11
          have hth := st_there (L2 := L) hm11 hL40' hL40
          have hJ := st_info hL40
          have hO := st_one L
          obtain ⟨r1, r2⟩ := st_set (L2 := L) hm11 hL40' hL40
          have q3 := hs11.only r2 (by omega)
          have lgE := lg11.fr (r2.fr (S := fun i => i = mb) rfl) fun i hi e => hSym (e ▸ hi)
          have hlE := hl11.trans (r2.below (by omega) hl11.size)
          have hzE := Nat.le_trans hz11 r2.size
          obtain ⟨wd, hwd⟩ : ∃ wd, wd = w11.setCells mb 0 (L.map Value.string).toArray.toList := ⟨_, rfl⟩
          rw [← hwd] at r1 q3 lgE hlE hzE
          have hPl : Play Sy p G n sb mb w wc (k + 1) y L L wd := ⟨hL40, hL40, q3, r1, hlE, hzE, .inl ⟨S9, q9, 0, d9, lgE, fi9.mono (by omega), by omega, hagL, rfl⟩⟩
          have HWD := Lib.hid hwd
          clear hwd r2 HQA HQB hab
          go_upto_region 55 with fail
          go_upto_region 17 with (first
            | refine wpList_load_mid rfl 47 (.tmp 10) rfl sb 0 rfl (L.map Value.string) _ hrg Tryz.underlying47 rfl hI1 ?_
            | refine wpList_store_mid rfl 47 (.tmp 12) (.tmp 176) rfl mb 0 (L.map Value.string).toArray rfl rfl hth hJ hO ?_)
          rw [← HWD.out]
          clear HWD hth hrg
          go_wp2
          go_roundw
          case rel => exact ⟨k + 1, y, by omega, by omega, by go_num, rfl, L, L, hPl⟩
          case measure => simp [intOf]; omega
        | false =>
          have hqt : qb = true := hab.resolve_left Bool.false_ne_true
          have hagL : Agree n L' S9 := sameB_iff.1 (HQB.out.symm.trans hqt)
          subst hqt
          have hrg := state_range hm11
          have hth := st_there (L2 := L') hs11 hL40 hL40'
          have hJ := st_info hL40'
          have hO := st_one L'
          obtain ⟨r1, r2⟩ := st_set (L2 := L') hs11 hL40 hL40'
          have q3 := hm11.only r2 (by omega)
          have lgE := lg11.fr (r2.fr (S := fun i => i = sb) rfl) fun i hi e => hSys (e ▸ hi)
          have hlE := hl11.trans (r2.below (by omega) hl11.size)
          have hzE := Nat.le_trans hz11 r2.size
          obtain ⟨wd, hwd⟩ : ∃ wd, wd = w11.setCells sb 0 (L'.map Value.string).toArray.toList := ⟨_, rfl⟩
          rw [← hwd] at r1 q3 lgE hlE hzE
          have HWD := Lib.hid hwd
          clear hwd r2 HQA HQB hab
          go_upto_region 54 with fail
          go_upto_region 55 with (first
            | refine wpList_load_mid rfl 47 (.tmp 12) rfl mb 0 rfl (L'.map Value.string) _ hrg Tryz.underlying47 rfl hI2 ?_
            | refine wpList_store_mid rfl 47 (.tmp 10) (.tmp 175) rfl sb 0 (L'.map Value.string).toArray rfl rfl hth hJ hO ?_)
          rw [← HWD.out]
          clear HWD hth hrg hs11 hm11 lg11 hl11 hz11
          have hrg := state_range r1
          have hth := st_there (L2 := L') q3 hL40' hL40'
          obtain ⟨t1, t2⟩ := st_set (L2 := L') q3 hL40' hL40'
          have t3 := r1.only t2 (by omega)
          have lgF := lgE.fr (t2.fr (S := fun i => i = mb) rfl) fun i hi e => hSym (e ▸ hi)
          have hlF := hlE.trans (t2.below (by omega) hlE.size)
          have hzF := Nat.le_trans hzE t2.size
          obtain ⟨wf, hwf⟩ : ∃ wf, wf = wd.setCells mb 0 (L'.map Value.string).toArray.toList := ⟨_, rfl⟩
          rw [← hwf] at t1 t3 lgF hlF hzF
          have hPl : Play Sy p G n sb mb w wc (k + 1) y L' L' wf := ⟨hL40', hL40', t3, t1, hlF, hzF, .inl ⟨S9, q9, 0, d9, lgF, fi9.mono (by omega), by omega, hagL, rfl⟩⟩
          have HWF := Lib.hid hwf
          clear hwf t2
          go_upto_region 17 with (first
            | refine wpList_load_mid rfl 47 (.tmp 10) rfl sb 0 rfl (L'.map Value.string) _ hrg Tryz.underlying47 rfl hI2 ?_
            | refine wpList_store_mid rfl 47 (.tmp 12) (.tmp 176) rfl mb 0 (L'.map Value.string).toArray rfl rfl hth hJ hO ?_)
          rw [← HWF.out]
          clear HWF hth hrg
          go_wp2
          go_roundw
          case rel => exact ⟨k + 1, y, by omega, by omega, by go_num, rfl, L', L', hPl⟩
          case measure => simp [intOf]; omega
      · have hbw := below_step HP.out.low (Nat.le_refl _) bo
        have hpu := puts_any (.slice sa sl.length scap) sl n 6 wo ⟨HSL.out.1.old hbw, HSL.out.2⟩ (by omega) (by decide)
        rw [show ((6 : Nat) : Int) = 6 from rfl] at hpu
        have hti := putsT_in n (by omega) (sl.take 6)
        have htl : (putsT n (sl.take 6)).length ≤ 6 := by rw [putsT_len, List.length_take]; omega
        obtain ⟨T, hTd⟩ : ∃ T, T = putsT n (sl.take 6) := ⟨_, rfl⟩
        rw [← hTd] at hpu hti htl
        clear hTd o0 o1 o3
        go_upto_region 24 with (go_at_call 28; refine hpu.mono ?_; rintro e w7 ⟨cv, rfl, b7, c7, o7⟩)
        obtain ⟨g, hpr, hgo⟩ := cache_puts c7
        have hgw : wr.heap.size ≤ g := by
          have := bo.size
          by_cases h : g < w7.heap.size
          · have := o7 g (hgo h); omega
          · have := b7.size; omega
        obtain ⟨va, vc, rfl⟩ := c7.slice
        have hcm := commit_play Sy p G n sb mb w wc k x L L' wr w7 _ T g HP.out (below_step bo (Nat.le_refl _) b7) hSyB hSys hSym hSy0 (huo.mono b7.size) (hTo.old b7) hGle hk60 hpr hgw htl hti HDAT.out
        have hL40 := HP.out.len
        have hL40' := HP.out.len'
        have HTI := Lib.hid hti
        clear hpu hpr hgo hgw o7 c7 hti o2
        go_upto_region 25 with (go_at_call 29; refine hcm.mono ?_; rintro e w8 ⟨z, rfl, hpr8, hs8, hm8, hl8, hz8, hcase⟩)
        clear hcm
        have haf := after_any L T _ g w8 hL40 hpr8 (fun y hy => (HTI.out y hy).2.1) (by omega)
        unfold stV at haf
        have h2l : (aftL T L).length = 40 := by rw [aftL_len]; exact hL40
        obtain ⟨L2, hL2⟩ : ∃ L2, L2 = aftL T L := ⟨_, rfl⟩
        rw [← hL2] at haf h2l hcase
        clear hL2
        have hrg := state_range hs8
        have hI1 := state_info hL40
        have hI2 := state_info h2l
        have hJ2 := st_info h2l
        have hO2 := st_one L2
        rcases hcase with ⟨rfl, hA⟩ | ⟨rfl, hB⟩ | ⟨hz0, hz14, hC⟩
        · have hthU := fun u (hu : Below w8.heap.size w8 u) => st_there (L2 := L2) (hs8.old hu) hL40 h2l
          have HTHU := Lib.hid hthU
          clear hthU
          go_upto_region 27 with (first
            | refine wpList_load_mid rfl 47 (.tmp 10) rfl sb 0 rfl (L.map Value.string) _ hrg Tryz.underlying47 rfl hI1 ?_
            | (go_at_call 30; refine haf.mono ?_; rintro e w9 ⟨rfl, b9⟩; have hth9 := HTHU.out w9 b9)
            | refine wpList_store_mid rfl 47 (.tmp 10) (.tmp 90) rfl sb 0 (L2.map Value.string).toArray rfl rfl hth9 hJ2 hO2 ?_)
          obtain ⟨q1, q2⟩ := st_set (L2 := L2) (hs8.old b9) hL40 h2l
          have hm9 := (hm8.old b9).only q2 (by omega)
          have hA9 := (hA.old b9).only q2 hSys
          have hl9 := (below_step hl8 (Nat.le_refl _) b9).trans (q2.below (by omega) (below_step hl8 (Nat.le_refl _) b9).size)
          have hz9 := Nat.le_trans (Nat.le_trans hz8 b9.size) q2.size
          obtain ⟨wa, hwa⟩ : ∃ wa, wa = w9.setCells sb 0 (L2.map Value.string).toArray.toList := ⟨_, rfl⟩
          rw [← hwa] at q1 q2 hm9 hA9 hl9 hz9 ⊢
          clear hwa hth9 haf hrg hs8 hm8 hA hl8 hz8 HTHU q2
          have hrga := state_range q1
          have htha := st_there (L2 := L2) hm9 hL40' h2l
          obtain ⟨r1, r2⟩ := st_set (L2 := L2) hm9 hL40' h2l
          have q3 := q1.only r2 (by omega)
          have hAa := hA9.only r2 hSym
          have hla := hl9.trans (r2.below (by omega) hl9.size)
          have hza := Nat.le_trans hz9 r2.size
          obtain ⟨wd, hwd⟩ : ∃ wd, wd = wa.setCells mb 0 (L2.map Value.string).toArray.toList := ⟨_, rfl⟩
          rw [← hwd] at r1 r2 q3 hAa hla hza
          have HWD := Lib.hid hwd
          clear hwd r2
          go_upto_region 28 with (first
            | refine wpList_load_mid rfl 47 (.tmp 10) rfl sb 0 rfl (L2.map Value.string) _ hrga Tryz.underlying47 rfl hI2 ?_
            | refine wpList_store_mid rfl 47 (.tmp 12) (.tmp 91) rfl mb 0 (L2.map Value.string).toArray rfl rfl htha hJ2 hO2 ?_)
          rw [← HWD.out]
          clear HWD htha hrga q1 hm9 hA9 hl9 hz9
          have hon : ∀ u, Below wd.heap.size wd u → Calls Tryz.prog 31 #[.pointer (some ⟨p, 0, none⟩)] u fun e w' => e = .returned (.bool true) ∧ Below u.heap.size u w' := fun u hu => (on_alive Sy p G n (k + 1) x L2 L2 u (hAa.old hu)).mono fun e w' ⟨he, hw⟩ => ⟨he, hw ▸ Below.refl _ _⟩
          have hrd := fun u (hu : Below wd.heap.size wd u) => reads_alive Sy p G n (k + 1) x L2 L2 u (hAa.old hu) h2l (by omega) HDAT.out
          have hld : ∀ u, Below wd.heap.size wd u → (Instr.loadAt 47 (.pointer (some ⟨sb, 0, none⟩))).run Tryz.prog u = .ok (.agg (L2.map Value.string).toArray) u := fun u hu => run_loadAt_mid u sb 0 _ _ _ (state_range (q3.old hu)) Tryz.underlying47 rfl hI2
          have HON := Lib.hid hon
          have HRD := Lib.hid hrd
          have HLD := Lib.hid hld
          clear hon hrd hld
          try simp only [Act.put]
          refine wp_region_tab0 [RT.is (.pointer (some ⟨p, 0, none⟩)), RT.is (.bool true), RT.is (.bool false), RT.is (.bool false), RT.is (.agg (L2.map Value.string).toArray), RT.is (.pointer (some ⟨x, 0, none⟩)), RT.is (.int .i64 (n : Int)), RT.is (.bool true), RT.is (.bool true), RT.is (.bool true)] (by kernel_rfl) (by kernel_rfl) (by kernel_rfl) ⟨?_, ?_, ?_, ?_, ?_, ?_, ?_, ?_, ?_, ?_, trivial⟩ ?_
          · intro ac w' hF hL hP hU K hK
            have hB : Below _ _ _ := hL
            have e7 : ac.eval (.tmp 7) = .pointer (some ⟨p, 0, none⟩) := hF.at 7 (by kernel_rfl)
            exact rop_move _ rfl e7 (wanted_none rfl) (hK _ _ (le8_refl _) rfl)
          · intro ac w' hF hL hP hU K hK
            have hB : Below _ _ _ := hL
            have e92 : ac.eval (.tmp 92) = .pointer (some ⟨p, 0, none⟩) := hP 0 (by kernel_rfl)
            refine rop_call 31 _ _ rfl #[.pointer (some ⟨p, 0, none⟩)] (by simp [e92]) (by kernel_rfl) (wanted_none rfl) ?_
            refine (HON.out _ hB).mono ?_
            rintro e w2 ⟨rfl, hb⟩
            exact ⟨_, rfl, hK _ _ hb rfl⟩
          · intro ac w' hF hL hP hU K hK
            have hB : Below _ _ _ := hL
            have e93 : ac.eval (.tmp 93) = .bool true := hP 1 (by kernel_rfl)
            exact rop_not _ _ rfl true e93 (wanted_none rfl) (hK _ _ (le8_refl _) rfl)
          · intro ac w' hF hL hP hU K hK
            have hB : Below _ _ _ := hL
            have e94 : ac.eval (.tmp 94) = .bool false := hP 2 (by kernel_rfl)
            exact rop_move _ rfl e94 (wanted_none rfl) (hK _ _ (le8_refl _) rfl)
          · intro ac w' hF hL hP hU K hK
            have hB : Below _ _ _ := hL
            have e10 : ac.eval (.tmp 10) = .pointer (some ⟨sb, 0, none⟩) := hF.at 10 (by kernel_rfl)
            have e95 : ac.eval (.tmp 95) = .bool false := hP 3 (by kernel_rfl)
            exact rop_ld _ _ rfl e10 (HLD.out _ hB) (wanted_of (j := 3) (b := false) rfl rfl e95) (hK _ _ (le8_refl _) rfl)
          · intro ac w' hF hL hP hU K hK
            have hB : Below _ _ _ := hL
            have e8 : ac.eval (.tmp 8) = .pointer (some ⟨x, 0, none⟩) := hF.at 8 (by kernel_rfl)
            have e95 : ac.eval (.tmp 95) = .bool false := hP 3 (by kernel_rfl)
            exact rop_move _ rfl e8 (wanted_of (j := 3) (b := false) rfl rfl e95) (hK _ _ (le8_refl _) rfl)
          · intro ac w' hF hL hP hU K hK
            have hB : Below _ _ _ := hL
            have e6 : ac.eval (.tmp 6) = .int .i64 (n : Int) := hF.at 6 (by kernel_rfl)
            have e95 : ac.eval (.tmp 95) = .bool false := hP 3 (by kernel_rfl)
            exact rop_move _ rfl e6 (wanted_of (j := 3) (b := false) rfl rfl e95) (hK _ _ (le8_refl _) rfl)
          · intro ac w' hF hL hP hU K hK
            have hB : Below _ _ _ := hL
            have e96 : ac.eval (.tmp 96) = .agg (L2.map Value.string).toArray := hP 4 (by kernel_rfl)
            have e97 : ac.eval (.tmp 97) = .pointer (some ⟨x, 0, none⟩) := hP 5 (by kernel_rfl)
            have e98 : ac.eval (.tmp 98) = .int .i64 (n : Int) := hP 6 (by kernel_rfl)
            have e95 : ac.eval (.tmp 95) = .bool false := hP 3 (by kernel_rfl)
            refine rop_call 27 _ _ rfl #[.agg (L2.map Value.string).toArray, .pointer (some ⟨x, 0, none⟩), .int .i64 (n : Int)] (by simp [e96, e97, e98]) (by kernel_rfl) (wanted_of (j := 3) (b := false) rfl rfl e95) ?_
            refine (HRD.out _ hB).mono ?_
            rintro e w2 ⟨rfl, hb⟩
            exact ⟨_, rfl, hK _ _ hb rfl⟩
          · intro ac w' hF hL hP hU K hK
            have hB : Below _ _ _ := hL
            have e95 : ac.eval (.tmp 95) = .bool false := hP 3 (by kernel_rfl)
            have e99 : ac.eval (.tmp 99) = .bool true := hP 7 (by kernel_rfl)
            exact rop_pick _ _ _ rfl false e95 (by simpa using e99) (wanted_none rfl) (hK _ _ (le8_refl _) rfl)
          · intro ac w' hF hL hP hU K hK
            have hB : Below _ _ _ := hL
            have e100 : ac.eval (.tmp 100) = .bool true := hP 8 (by kernel_rfl)
            exact rop_assign _ rfl e100 (wanted_none rfl) (hK _ _ (le8_refl _) rfl)
          · intro ac w' hF hB hT
            have e22 : ac.eval (.tmp 22) = .bool true := hT 9 (by decide)
            rw [hF.sets [92, 93, 94, 95, 96, 97, 98, 99, 100, 22] (by kernel_rfl)]
            simp only [List.foldl_cons, List.foldl_nil, List.setIfInBounds_toArray, List.set_cons_succ, List.set_cons_zero, e22]
            generalize ac.eval (.tmp 92) = u92
            generalize ac.eval (.tmp 93) = u93
            generalize ac.eval (.tmp 94) = u94
            generalize ac.eval (.tmp 95) = u95
            generalize ac.eval (.tmp 96) = u96
            generalize ac.eval (.tmp 97) = u97
            generalize ac.eval (.tmp 98) = u98
            generalize ac.eval (.tmp 99) = u99
            generalize ac.eval (.tmp 100) = u100
            clear e22 hT hF ac
            have hPl : Play Sy p G n sb mb w wc (k + 1) x L2 L2 w' := ⟨h2l, h2l, q3.old hB, r1.old hB, below_step hla (Nat.le_refl _) hB, Nat.le_trans hza hB.size, .inl (hAa.old hB)⟩
            go_wp2
            go_roundw
            case rel => exact ⟨k + 1, x, by omega, by omega, by go_num, rfl, L2, L2, hPl⟩
            case measure => simp [intOf]; omega
        · have hthU := fun u (hu : Below w8.heap.size w8 u) => st_there (L2 := L2) (hm8.old hu) hL40' h2l
          have HTHU := Lib.hid hthU
          clear hthU
          go_upto_region 32 with fail
          go_upto_region 17 with (first
            | refine wpList_load_mid rfl 47 (.tmp 10) rfl sb 0 rfl (L.map Value.string) _ hrg Tryz.underlying47 rfl hI1 ?_
            | (go_at_call 30; refine haf.mono ?_; rintro e w9 ⟨rfl, b9⟩; have hth9 := HTHU.out w9 b9)
            | refine wpList_store_mid rfl 47 (.tmp 12) (.tmp 107) rfl mb 0 (L2.map Value.string).toArray rfl rfl hth9 hJ2 hO2 ?_)
          obtain ⟨q1, q2⟩ := st_set (L2 := L2) (hm8.old b9) hL40' h2l
          have hs9 := (hs8.old b9).only q2 (by omega)
          have hB9 := (hB.old b9).only q2 hSym
          have hl9 := (below_step hl8 (Nat.le_refl _) b9).trans (q2.below (by omega) (below_step hl8 (Nat.le_refl _) b9).size)
          have hz9 := Nat.le_trans (Nat.le_trans hz8 b9.size) q2.size
          obtain ⟨wa, hwa⟩ : ∃ wa, wa = w9.setCells mb 0 (L2.map Value.string).toArray.toList := ⟨_, rfl⟩
          rw [← hwa] at q1 q2 hs9 hB9 hl9 hz9 ⊢
          have hPl : Play Sy p G n sb mb w wc (k + 1) x L L2 wa := ⟨hL40, h2l, hs9, q1, hl9, hz9, .inr hB9⟩
          clear hwa haf hrg hth9 HTHU
          go_wp2
          go_roundw
          case rel => exact ⟨k + 1, x, by omega, by omega, by go_num, rfl, L, L2, hPl⟩
          case measure => simp [intOf]; omega
        · have hPl : Play Sy p G n sb mb w wc (k + 1) x L L' w8 := ⟨hL40, hL40', hs8, hm8, hl8, hz8, hC⟩
          clear haf hrg
          go_wp2
          go_roundw
          case rel => exact ⟨k + 1, x, by omega, by omega, by go_num, rfl, L, L', hPl⟩
          case measure => simp [intOf]; omega
    · have hend : k = l.length ∨ (k < l.length ∧ k = 60) := by omega
      rcases hend with h1 | ⟨h1, h2⟩
      · have h1' : ¬ (k : Int) < (l.length : Int) := by omega
        go_wp2
        go_ret
        exact ⟨rfl, hP.low⟩
      · have h1' : (k : Int) < (l.length : Int) := by omega
        have h2' : ¬ (k : Int) < 60 := by omega
        go_wp2
        go_ret
        exact ⟨rfl, hP.low⟩

set_option maxRecDepth 100000 in
theorem lifted (os : Os) (started : os.Started) (H : Type) (enc : TypeId × Value → H) :
    ReturnsInHanded {} Tryz.checked os 5 .any (fun w args => (Rows.redoWholeSpec.pre enc Tryz.prog Tryz.f5 [] false w args ∧ laidMetH Tryz.prog [("scrinium/check.fourSteps", Rows.laid_scrinium_check_fourSteps)] w) ∧ sizedMet enc Tryz.prog Tryz.f5 (OpenSpec.ofChange Rows.redoWholeSpec) false w args)
      (Rows.redoWholeSpec.post enc Tryz.prog Tryz.f5 false true false false) := by
  refine returnsInHanded_of_change_and (C := Tryz.checked) (X := fun w _ => laidMetH Tryz.prog [("scrinium/check.fourSteps", Rows.laid_scrinium_check_fourSteps)] w) (fun _ _ _ hh h => h.of_heap hh) lawOwn started (by kernel_rfl) Tryz.func5
    (ChangeSpec.witness_shaped (enc := enc) (C := Tryz.checked) (os := os) (X := fun w _ => laidMetH Tryz.prog [("scrinium/check.fourSteps", Rows.laid_scrinium_check_fourSteps)] w) false (World.doorLaid Tryz.prog 400 os) #[.int .i64 0, .slice none 0 0] 8 rfl (World.shaped_of_RefB (by kernel_rfl) (by kernel_rfl)) (by kernel_rfl) (by kernel_rfl) (by kernel_rfl) (door_met os _)) ?_
  intro W base args ds gs before hval0 hW _ _ hL _
  have hval : ∀ (j : Nat) t v, Tryz.f5.params[j]? = some t → args[j]? = some v → Value.okWide Tryz.prog W .any base t v := hval0
  have hW' := hW
  obtain ⟨p, q, hA0, hV, rfl, hfz, hnd⟩ := hW
  have hA : DataW.TrodAll enc Tryz.prog W 0 (fun _ => true) true Tryz.f5.params.toList args.toList ds p := hA0
  rw [Tryz.params5] at hA hval
  obtain ⟨v0, vs0, d0, ds0, p0, q0, hargs, rfl, rfl, h0, r0⟩ := trodAll_cons hA
  obtain ⟨v1, vs1, d1, ds1, p1, q1, rfl, rfl, rfl, h1, r1⟩ := trodAll_cons r0
  obtain ⟨rfl, rfl, rfl⟩ := trodAll_nil r1
  obtain rfl : args = #[v0, v1] := by cases args; simp_all
  obtain ⟨rfl, rfl⟩ := trodVars_none hV
  have hKT := KT_of_laid hL
  obtain ⟨a0, rfl, rfl, rfl, w0⟩ := open_int Tryz.underlying3 (hval 0 3 v0 rfl rfl) h0
  obtain ⟨a1, len1, cap1, rfl⟩ := okWide_slice Tryz.underlying38 (hval 1 38 v1 rfl rfl)
  obtain ⟨l1, w1⟩ := ops7_of h1
  clear hA0 hval0
  obtain ⟨l0, m0⟩ := i64_bounds w0
  refine (walk (w := W) hKT a0 l0 m0 _ l1 w1).mono fun e W' ⟨he, bel⟩ => ?_
  subst he
  exact ⟨_, rfl, law_post rfl rfl (by kernel_rfl) hW' rfl bel⟩

theorem row_holds : Rows.RedoWholeSaid :=
  OpenClaim.holds_of_wide 5 Tryz.f5 rfl rfl rfl rfl rfl rfl rfl ⟨rfl, rfl, rfl, rfl, rfl⟩ rfl rfl rfl rfl rfl (by kernel_rfl) Tryz.func5 (by kernel_rfl)
    (of_decide_eq_true (by kernel_rfl)) (by unfold Func.isWrapper; first | (rw [if_pos (by decide +kernel)]; kernel_rfl) | (rw [if_neg (by decide +kernel)]; exact ⟨rfl, rfl⟩))
    (fun os started H enc _ => lifted os started H enc)

theorem holds : Rows.RedoWholeCardSaid :=
  Claim7.holds_tied_plain_at .later [] [.data] true Rows.redoWholeCard.stood.harness false
    row_holds (fun _ h => by cases h) (by kernel_rfl) (fun _ h => by cases h) redoWhole_row_tie rfl ⟨rfl, rfl⟩ (by kernel_rfl) rfl
    (fun f fn hf hfn => by
      obtain rfl : f = 5 := Option.some.inj ((show Tryz.prog.funcNamed "scrinium/scriniumlaw07.RedoWhole" = some 5 by kernel_rfl).symm.trans hf) |>.symm
      obtain rfl : fn = Tryz.f5 := (Option.some.inj (Tryz.func5.symm.trans hfn)).symm
      exact ⟨by kernel_rfl, fun j t ht => by
        rw [Tryz.params5] at ht
        have hm : t ∈ [3, 38] := by simpa using Array.mem_of_getElem? ht
        have hall : ([3, 38].all fun u => !Tryz.prog.wantsStandIn u) = true := by kernel_rfl
        exact (show Tryz.prog.wantsStandIn t = false by simpa using List.all_eq_true.1 hall t hm)⟩)
    (by kernel_rfl)
end Go.Proofs.YteggaeopnljgnaaGreatDoor.redoWhole

theorem Go.Proofs.YteggaeopnljgnaaGreatDoor.redoWhole_holds : Go.Proofs.YteggaeopnljgnaaGreatDoor.Rows.RedoWholeCardSaid := Go.Proofs.YteggaeopnljgnaaGreatDoor.redoWhole.holds
#print axioms Go.Proofs.YteggaeopnljgnaaGreatDoor.redoWhole_holds
