/-
  SectorLasts: what was flushed lies there behind any crash, till another write of that sector does; a crash leaves each sector as it lay, or as one of its writes has it. For every two scripts of writes of 4 sectors (of longer ones the first 20 writes) and every picks (the first 20), no condition.
-/
import Derived.Test.YtnieebkkpmdgmaaSecAwake
import Derived.Test.YtnieebkkpmdgmaaOpArg
import Derived.Test.YtnieebkkpmdgmaaGenLaw
import Derived.Test.YtnieebkkpmdgmaaSecLaw
import Derived.Test.YtnieebkkpmdgmaaRegEff
import Derived.Deep.DeepCutAuto
namespace Go.Proofs.Ytnieebkkpmdgmaa.sectorLasts
open Go.ChangeShapes Go.WideShapes Go.ChangeAt Go.RowKit Dsk

/-- The write that a call makes. -/
def wr4 (o : OpR) : Nat × ByteArray := ((o.at_ % 4).toNat, withB o.byte)
theorem cAt_map (l : List OpR) (n j : Nat) (hj : j < n) (hl : j < l.length) : cAt ((l.take n).map wr4) j = wr4 l[j] := by
  unfold cAt
  rw [List.getD_eq_getElem?_getD, List.getElem?_map, List.getElem?_take, if_pos hj, List.getElem?_eq_getElem hl]
  rfl
theorem take_map (l : List OpR) (k : Nat) (h : k < l.length) : (l.take (k + 1)).map wr4 = (l.take k).map wr4 ++ [wr4 l[k]] := by
  rw [List.take_succ_eq_append_getElem h, List.map_append]
  rfl
theorem new_read4 (s : Nat) (_hs : s < 4) : Dsk.read (Dsk.new 4) s = [zeroB, zeroB, zeroB, zeroB].getD s .empty := rfl

set_option maxHeartbeats 12800000 in
set_option maxRecDepth 100000 in
theorem walk {w : World} (va : Value) (la : List OpR) (hla : Ops w va la) (vb : Value) (lb : List OpR) (hlb : Ops w vb lb) (pv : Value) (ps : List Int) (pb : Nat) (hps : Ints w pv ps pb) (hpb : pb < w.heap.size ∨ ps = []) :
    Calls Try.prog 5 #[va, vb, pv] w fun e w' => e = .returned (.bool true) ∧ Below w.heap.size w w' := by
  obtain ⟨ava, capa, rfl, hlla, hopsa⟩ := hla
  obtain ⟨avb, cap, rfl, hllb, hopsb⟩ := hlb
  have hps' := hps
  obtain ⟨pa, pcap, rfl, hpl, hpc⟩ := hps'
  clear hpc
  obtain ⟨O, hmk, hcv⟩ := zeros_obj 256 (by decide)
  rw [show ((256 : Nat) : Int) = 256 from rfl, show zs 256 = zeroB from rfl] at *
  go_enter Try.func5, Try.ntmps5
  go_upto_region 2 with (go_at_call 10; refine (awake_any _).mono ?_; rintro e w1 ⟨rfl, b1⟩)
  have hnew := newIn 4 w1 w.heap.size (by decide) (by decide) b1.size
  rw [show ((4 : Nat) : Int) = 4 from rfl] at hnew
  go_upto_region 5 with (go_at_call 16; refine hnew.mono ?_; rintro e w2 ⟨p, rfl, h2, b2⟩)
  have s2 := below_step b1 (Nat.le_refl _) b2
  clear hnew b1 b2
  go_upto_region 7 with fail
  obtain ⟨w3, hw3⟩ : ∃ w3, w3 = (w2.alloc O).alloc (.cells #[.string zeroB, .string zeroB, .string zeroB, .string zeroB] 54) := ⟨_, rfl⟩
  have b3 : Below w2.heap.size w2 w3 := by rw [hw3]; exact ((Below.refl _ _).alloc (Nat.le_refl _) _).alloc (by simp) _
  obtain ⟨q, hq⟩ : ∃ q, q = w2.heap.size + 1 := ⟨_, rfl⟩
  have hq3 : Want 54 q [zeroB, zeroB, zeroB, zeroB] w3 := by
    rw [hw3, hq]
    have := heap_alloc_last (w2.alloc O) (.cells #[.string zeroB, .string zeroB, .string zeroB, .string zeroB] 54)
    rw [World.size_alloc] at this
    exact this
  have h3 := h2.old b3
  have s3 := below_step s2 (Nat.le_refl _) b3
  have hqB : w.heap.size ≤ q := by rw [hq]; have := s2.size; omega
  rw [← hw3, ← hq]
  clear hw3 hq h2 s2 b3 hmk hcv
  go_upto_region 8 with fail
  go_loopw [11] (fun i wr => ∃ k : Nat, k ≤ la.length ∧ k ≤ 20 ∧ i = .int .i64 k ∧ ∃ d L, DiskIn w.heap.size p d wr ∧ Live 4 d ∧ d.steps ≤ k ∧ d.cache.length ≤ k ∧ Want 54 q L wr ∧ L.length = 4 ∧ (∀ s, s < 4 → Dsk.read d s = L.getD s .empty) ∧ Below w.heap.size w wr) (fun i _ => 20 - (intOf i).toNat)
  case atStart => exact ⟨0, by omega, by omega, rfl, Dsk.new 4, _, h3, live_new 4, by simp [Dsk.new], by simp [Dsk.new], hq3, rfl, new_read4, s3⟩
  case round =>
    clear h3 hq3 s3
    obtain ⟨k, hk, hk20, rfl, d, L, hd, hlv, hst, hca, hq, hL, hrd, hb⟩ := hrel
    by_cases hcase : k < la.length ∧ k < 20
    · obtain ⟨hlt, h20⟩ := hcase
      have h20' : (k : Int) < 20 := by omega
      obtain ⟨b, off, rfl, hbB, hok, hcs⟩ := hopsa k hlt
      obtain ⟨o, ho⟩ : ∃ o, o = la[k] := ⟨_, rfl⟩
      rw [← ho] at hok hcs
      obtain ⟨m, hm, hm4⟩ := mod_nat o.at_ 4 (by decide)
      rw [show ((4 : Nat) : Int) = 4 from rfl] at hm
      obtain ⟨X, hX⟩ : ∃ X, X = withB o.byte := ⟨_, rfl⟩
      have hXs : X.size = 256 := by rw [hX]; exact withB_size _
      have hwith := fun u => with_any o.byte u
      simp only [← hX] at hwith
      obtain ⟨y, hy⟩ : ∃ y : Int, y = (o.byte.toNat : Int) := ⟨_, rfl⟩
      obtain ⟨z, hz⟩ : ∃ z, z = o.at_ := ⟨_, rfl⟩
      have c1 : w.cell? ⟨b, off + k * 6 + 1, none⟩ = some (.int .i64 z) := by rw [Nat.add_assoc, hz]; exact hcs 1 _ rfl
      have c3 : w.cell? ⟨b, off + k * 6 + 3, none⟩ = some (.int .u8 y) := by rw [Nat.add_assoc, hy]; exact hcs 3 _ rfl
      have hm2 := (and3 o.at_).trans hm
      have hwo : wr4 o = (m, X) := by unfold wr4; rw [hm, hX]; rfl
      rw [← hy] at hwith
      rw [← hz] at hm2
      rw [ho] at hwo
      have HWO := Lib.hid hwo
      clear hX hy hz ho hcs hok hm hwo
      have d1 : wr.cell? ⟨b, off + k * 6 + 1, none⟩ = some (.int .i64 z) := (cell_below hb hbB).trans c1
      have d3 : wr.cell? ⟨b, off + k * 6 + 3, none⟩ = some (.int .u8 y) := (cell_below hb hbB).trans c3
      clear c1 c3
      go_upto_region 11 with fail
      have cq := fun w' (hb : Below wr.heap.size wr w') => (hq.old hb).cell (i := m) (by rw [hL]; exact hm4)
      have fq := fun w' (hb : Below wr.heap.size wr w') => (hq.old hb).fz m
      go_upto_region 12 with (go_at_call 26; refine (hwith _).mono ?_; rintro e w3' ⟨rfl, b3⟩; have cq3 := cq _ b3; have fq3 := fq _ b3)
      clear cq fq cq3 fq3 hwith d1 d3
      have hd3 := (hd.old b3).want (hq.old b3) (by decide) (by decide) (by decide) m (.string X)
      have hqs := (hq.old b3).set m X
      have s4 : Below w.heap.size w (w3'.setCell ⟨q, m, none⟩ (.string X)) := (below_step hb (Nat.le_refl _) b3).setCell (p := ⟨q, m, none⟩) hqB _
      obtain ⟨w4', hw4⟩ : ∃ w4', w4' = w3'.setCell ⟨q, m, none⟩ (.string X) := ⟨_, rfl⟩
      rw [← hw4] at hd3 hqs s4 ⊢
      clear hw4 b3
      have cX := hqs.cell (i := m) (by rw [List.length_set, hL]; exact hm4)
      have eX : (L.set m X).getD m .empty = X := by rw [List.getD_eq_getElem?_getD, List.getElem?_set_self (by rw [hL]; exact hm4)]; rfl
      rw [eX] at cX
      have hwr := writeIn _ _ _ (m : Int) X _ hd3 (by omega) (by omega) (by omega)
      rw [hlv.writeE hm4 hXs] at hwr
      have hlv5 := hlv.write hm4 hXs
      have hst5 : (writeD d (m : Int) X).steps ≤ k + 1 := by rw [hlv.writeD hm4 hXs]; show d.steps + 1 ≤ _; omega
      have hca5 : (writeD d (m : Int) X).cache.length ≤ k + 1 := by rw [hlv.writeD hm4 hXs]; simp; omega
      have hrd5 : ∀ s, s < 4 → Dsk.read (writeD d (m : Int) X) s = (L.set m X).getD s .empty := fun s hs => by
        rw [hlv.read_write hm4 hXs]
        by_cases e : m = s
        · rw [if_pos e, ← e, eX]
        · rw [if_neg e, hrd s hs, List.getD_eq_getElem?_getD, List.getD_eq_getElem?_getD, List.getElem?_set_ne e]
      obtain ⟨D5, hD5⟩ : ∃ D5, D5 = writeD d (m : Int) X := ⟨_, rfl⟩
      rw [← hD5] at hwr hlv5 hst5 hca5 hrd5
      have hL5 : (L.set m X).length = 4 := by rw [List.length_set]; exact hL
      clear hD5 hd hq hrd hd3 hst hca eX hlv
      go_wp2_with (go_at_call 27; refine hwr.mono ?_; rintro e w5 ⟨rfl, h5, f5⟩)
      go_roundw
      case rel => exact ⟨k + 1, by omega, by omega, by go_num, D5, L.set m X, h5, hlv5, hst5, hca5, hqs.kept f5 (by decide) (by decide) (by decide), hL5, hrd5, s4.trans f5.below⟩
      case measure => simp [intOf]; omega
    · clear hopsa hlla
      go_upto_region 8 with fail
      go_cut [37] (fun sc wx => wr = wx ∧ sc = .bool false)
      case first =>
        by_cases hx : k < la.length
        · have hx1 : (k : Int) < (la.length : Int) := by omega
          have hx2 : ¬ (k : Int) < 20 := by omega
          go_wp2
          go_meet
          case rel => exact ⟨rfl, rfl⟩
        · have hx1 : ¬ (k : Int) < (la.length : Int) := by omega
          go_wp2
          go_meet
          case rel => exact ⟨rfl, rfl⟩
      case rest =>
        obtain ⟨rfl, rfl⟩ := hcut
        clear hcase
        have hfl := flushIn _ _ _ _ hd (by omega)
        rw [hlv.err] at hfl
        have hlvF := hlv.flush
        have hF := hlv.flushD
        have hstF : (Dsk.flush d).steps ≤ 30 := by rw [hF]; show d.steps + 1 ≤ _; omega
        have hcaF : (Dsk.flush d).cache = [] := by rw [hF]
        have hliF : ∀ s, s < 4 → (Dsk.flush d).lies.getD s .empty = L.getD s .empty := fun s hs => by
          rw [hF, ← hrd s hs]
          exact stK_all d.lies d.cache s (by rw [hlv.len]; exact hs) d.cache.length
        obtain ⟨DF, hDF⟩ : ∃ DF, DF = Dsk.flush d := ⟨_, rfl⟩
        rw [← hDF] at hfl hlvF hstF hcaF hliF
        clear hF hDF hrd hd hlv hst hca
        go_upto_region 16 with (go_at_call 19; refine hfl.mono ?_; rintro e wF ⟨rfl, hdF, fF⟩)
        have hqF := hq.kept fF (by decide) (by decide) (by decide)
        have sF := hb.trans fF.below
        clear hfl hq hb fF hk hk20
        go_upto_region 17 with fail
        go_loopw [13] (fun i wr => ∃ k : Nat, k ≤ lb.length ∧ k ≤ 20 ∧ i = .int .i64 k ∧ ∃ d, DiskIn w.heap.size p d wr ∧ Live 4 d ∧ d.steps ≤ 30 + k ∧ d.lies = DF.lies ∧ d.cache = (lb.take k).map wr4 ∧ Want 54 q L wr ∧ Below w.heap.size w wr) (fun i _ => 20 - (intOf i).toNat)
        case atStart => exact ⟨0, by omega, by omega, rfl, DF, hdF, hlvF, by omega, rfl, by rw [hcaF]; rfl, hqF, sF⟩
        case round =>
          clear hdF hqF sF
          obtain ⟨k, hk, hk20, rfl, d, hd, hlv, hst, hli, hca, hq, hb⟩ := hrel
          have hcl : d.cache.length = k := by rw [hca, List.length_map, List.length_take]; omega
          by_cases hcase : k < lb.length ∧ k < 20
          · obtain ⟨hlt, h20⟩ := hcase
            have h20' : (k : Int) < 20 := by omega
            obtain ⟨b, off, rfl, hbB, hok, hcs⟩ := hopsb k hlt
            obtain ⟨o, ho⟩ : ∃ o, o = lb[k] := ⟨_, rfl⟩
            rw [← ho] at hok hcs
            obtain ⟨m, hm, hm4⟩ := mod_nat o.at_ 4 (by decide)
            rw [show ((4 : Nat) : Int) = 4 from rfl] at hm
            obtain ⟨X, hX⟩ : ∃ X, X = withB o.byte := ⟨_, rfl⟩
            have hXs : X.size = 256 := by rw [hX]; exact withB_size _
            have hwith := fun u => with_any o.byte u
            simp only [← hX] at hwith
            obtain ⟨y, hy⟩ : ∃ y : Int, y = (o.byte.toNat : Int) := ⟨_, rfl⟩
            obtain ⟨z, hz⟩ : ∃ z, z = o.at_ := ⟨_, rfl⟩
            have c1 : w.cell? ⟨b, off + k * 6 + 1, none⟩ = some (.int .i64 z) := by rw [Nat.add_assoc, hz]; exact hcs 1 _ rfl
            have c3 : w.cell? ⟨b, off + k * 6 + 3, none⟩ = some (.int .u8 y) := by rw [Nat.add_assoc, hy]; exact hcs 3 _ rfl
            have hm2 := (and3 o.at_).trans hm
            have hwo : wr4 o = (m, X) := by unfold wr4; rw [hm, hX]; rfl
            rw [← hy] at hwith
            rw [← hz] at hm2
            rw [ho] at hwo
            have HWO := Lib.hid hwo
            clear hX hy hz ho hcs hok hm hwo
            have hidx : ∀ u, (Instr.indexAt 30 (.slice (some ⟨b, off, none⟩) lb.length cap) (.int .i64 (k : Int))).run Try.prog u = .ok (.pointer (some ⟨b, off + k * 6, none⟩)) u := by intro u; go_simp
            have hf1 : ∀ u, (Instr.fieldAt 38 (.pointer (some ⟨b, off + k * 6, none⟩)) 1).run Try.prog u = .ok (.pointer (some ⟨b, off + k * 6 + 1, none⟩)) u := by intro u; go_simp
            have hf3 : ∀ u, (Instr.fieldAt 38 (.pointer (some ⟨b, off + k * 6, none⟩)) 3).run Try.prog u = .ok (.pointer (some ⟨b, off + k * 6 + 3, none⟩)) u := by intro u; go_simp
            have hld1 : ∀ u, Below w.heap.size w u → (Instr.loadAt 3 (.pointer (some ⟨b, off + k * 6 + 1, none⟩))).run Try.prog u = .ok (.int .i64 z) u := by
              intro u hu; have c := (cell_below hu hbB).trans c1; go_simp
            have hld3 : ∀ u, Below w.heap.size w u → (Instr.loadAt 5 (.pointer (some ⟨b, off + k * 6 + 3, none⟩))).run Try.prog u = .ok (.int .u8 y) u := by
              intro u hu; have c := (cell_below hu hbB).trans c3; go_simp
            have hand : ∀ u, (binOp .and 3 (.int .i64 z) (.int .i64 3)).run Try.prog u = .ok (.int .i64 (m : Int)) u := by intro u; go_simp
            have hneq : ∀ u, (binOp .neq 24 (.int .i64 0) (.int .i64 0)).run Try.prog u = .ok (.bool false) u := by intro u; go_simp
            have hwr := fun u (h : DiskIn w.heap.size p d u) => writeIn _ _ _ (m : Int) X u h (by omega) (by omega) (by omega)
            rw [hlv.writeE hm4 hXs] at hwr
            have hlv5 := hlv.write hm4 hXs
            have hwd := hlv.writeD hm4 hXs
            have hst5 : (writeD d (m : Int) X).steps ≤ 30 + (k + 1) := by rw [hwd]; show d.steps + 1 ≤ _; omega
            have hli5 : (writeD d (m : Int) X).lies = DF.lies := by rw [hwd]; exact hli
            have hca5 : (writeD d (m : Int) X).cache = (lb.take (k + 1)).map wr4 := by
              rw [hwd, take_map lb k hlt, HWO.out]
              show d.cache ++ [(m, X)] = _
              rw [hca]
            obtain ⟨D1, hD1⟩ : ∃ D1, D1 = writeD d (m : Int) X := ⟨_, rfl⟩
            rw [← hD1] at hlv5 hst5 hli5 hca5
            simp only [← hD1] at hwr
            clear hD1 hwd c1 c3 HWO hca hst hli hlv
            go_upto_region 19 with fail
            try simp only [Act.put]
            refine wp_region_eff (Lx := Below w.heap.size) [RX.is (.pointer (some ⟨p, 0, none⟩)), RX.is (.slice (some ⟨b, off, none⟩) lb.length cap), RX.is (.int .i64 (k : Int)), RX.is (.pointer (some ⟨b, off + k * 6, none⟩)), RX.is (.pointer (some ⟨b, off + k * 6 + 1, none⟩)), RX.is (.int .i64 z), RX.is (.int .i64 (m : Int)), RX.is (.slice (some ⟨b, off, none⟩) lb.length cap), RX.is (.int .i64 (k : Int)), RX.is (.pointer (some ⟨b, off + k * 6, none⟩)), RX.is (.pointer (some ⟨b, off + k * 6 + 3, none⟩)), RX.is (.int .u8 y), RX.is (.string X), RX.is (.int .i64 0), RX.is (.bool false)] [13] (fun k u => Below w.heap.size wr u ∧ Want 54 q L u ∧ DiskIn w.heap.size p (if k = 0 then d else D1) u) (by kernel_rfl) (by kernel_rfl) (by kernel_rfl) (by kernel_rfl) (by kernel_rfl) (⟨below_drew (Below.refl _ _), hq.old (below_drew (Below.refl _ _)), hd.old (below_drew (Below.refl _ _))⟩) ⟨?_, ?_, ?_, ?_, ?_, ?_, ?_, ?_, ?_, ?_, ?_, ?_, ?_, ?_, ?_, trivial⟩ ?_
            · intro ac w' ph hF hPh hlt hP hU K hK0
              have hK := fun v w2 (hl : Le8 w' w2) ht => hK0 v w2 (hl.mono hPh.2.2.size) (⟨below_step hPh.1 hb.size hl, hPh.2.1.old hl, hPh.2.2.old hl⟩) ht
              have e8 : ac.eval (.tmp 8) = .pointer (some ⟨p, 0, none⟩) := hF.at 8 (by kernel_rfl)
              exact rop_move _ rfl e8 (wanted_none rfl) (hK _ _ (le8_refl _) rfl)
            · intro ac w' ph hF hPh hlt hP hU K hK0
              have hK := fun v w2 (hl : Le8 w' w2) ht => hK0 v w2 (hl.mono hPh.2.2.size) (⟨below_step hPh.1 hb.size hl, hPh.2.1.old hl, hPh.2.2.old hl⟩) ht
              have e1 : ac.eval (.tmp 1) = .slice (some ⟨b, off, none⟩) lb.length cap := hF.at 1 (by kernel_rfl)
              exact rop_move _ rfl e1 (wanted_none rfl) (hK _ _ (le8_refl _) rfl)
            · intro ac w' ph hF hPh hlt hP hU K hK0
              have hK := fun v w2 (hl : Le8 w' w2) ht => hK0 v w2 (hl.mono hPh.2.2.size) (⟨below_step hPh.1 hb.size hl, hPh.2.1.old hl, hPh.2.2.old hl⟩) ht
              have e13 : ac.eval (.tmp 13) = .int .i64 (k : Int) := hF.at 13 (by kernel_rfl)
              exact rop_move _ rfl e13 (wanted_none rfl) (hK _ _ (le8_refl _) rfl)
            · intro ac w' ph hF hPh hlt hP hU K hK0
              have hK := fun v w2 (hl : Le8 w' w2) ht => hK0 v w2 (hl.mono hPh.2.2.size) (⟨below_step hPh.1 hb.size hl, hPh.2.1.old hl, hPh.2.2.old hl⟩) ht
              have e75 : ac.eval (.tmp 75) = .slice (some ⟨b, off, none⟩) lb.length cap := hP 1 (by kernel_rfl)
              have e76 : ac.eval (.tmp 76) = .int .i64 (k : Int) := hP 2 (by kernel_rfl)
              exact rop_idx _ _ _ rfl e75 e76 (hidx _) (wanted_none rfl) (hK _ _ (le8_refl _) rfl)
            · intro ac w' ph hF hPh hlt hP hU K hK0
              have hK := fun v w2 (hl : Le8 w' w2) ht => hK0 v w2 (hl.mono hPh.2.2.size) (⟨below_step hPh.1 hb.size hl, hPh.2.1.old hl, hPh.2.2.old hl⟩) ht
              have e77 : ac.eval (.tmp 77) = .pointer (some ⟨b, off + k * 6, none⟩) := hP 3 (by kernel_rfl)
              exact rop_fld _ _ _ rfl e77 (hf1 _) (wanted_none rfl) (hK _ _ (le8_refl _) rfl)
            · intro ac w' ph hF hPh hlt hP hU K hK0
              have hK := fun v w2 (hl : Le8 w' w2) ht => hK0 v w2 (hl.mono hPh.2.2.size) (⟨below_step hPh.1 hb.size hl, hPh.2.1.old hl, hPh.2.2.old hl⟩) ht
              have e78 : ac.eval (.tmp 78) = .pointer (some ⟨b, off + k * 6 + 1, none⟩) := hP 4 (by kernel_rfl)
              exact rop_ld _ _ rfl e78 (hld1 _ (hb.trans hPh.1)) (wanted_none rfl) (hK _ _ (le8_refl _) rfl)
            · intro ac w' ph hF hPh hlt hP hU K hK0
              have hK := fun v w2 (hl : Le8 w' w2) ht => hK0 v w2 (hl.mono hPh.2.2.size) (⟨below_step hPh.1 hb.size hl, hPh.2.1.old hl, hPh.2.2.old hl⟩) ht
              have e79 : ac.eval (.tmp 79) = .int .i64 z := hP 5 (by kernel_rfl)
              exact rop_bin _ _ _ _ _ rfl e79 rfl (guard_int _ _ _ _ _ _ _ _) (hand _) (wanted_none rfl) (hK _ _ (le8_refl _) rfl)
            · intro ac w' ph hF hPh hlt hP hU K hK0
              have hK := fun v w2 (hl : Le8 w' w2) ht => hK0 v w2 (hl.mono hPh.2.2.size) (⟨below_step hPh.1 hb.size hl, hPh.2.1.old hl, hPh.2.2.old hl⟩) ht
              have e1 : ac.eval (.tmp 1) = .slice (some ⟨b, off, none⟩) lb.length cap := hF.at 1 (by kernel_rfl)
              exact rop_move _ rfl e1 (wanted_none rfl) (hK _ _ (le8_refl _) rfl)
            · intro ac w' ph hF hPh hlt hP hU K hK0
              have hK := fun v w2 (hl : Le8 w' w2) ht => hK0 v w2 (hl.mono hPh.2.2.size) (⟨below_step hPh.1 hb.size hl, hPh.2.1.old hl, hPh.2.2.old hl⟩) ht
              have e13 : ac.eval (.tmp 13) = .int .i64 (k : Int) := hF.at 13 (by kernel_rfl)
              exact rop_move _ rfl e13 (wanted_none rfl) (hK _ _ (le8_refl _) rfl)
            · intro ac w' ph hF hPh hlt hP hU K hK0
              have hK := fun v w2 (hl : Le8 w' w2) ht => hK0 v w2 (hl.mono hPh.2.2.size) (⟨below_step hPh.1 hb.size hl, hPh.2.1.old hl, hPh.2.2.old hl⟩) ht
              have e81 : ac.eval (.tmp 81) = .slice (some ⟨b, off, none⟩) lb.length cap := hP 7 (by kernel_rfl)
              have e82 : ac.eval (.tmp 82) = .int .i64 (k : Int) := hP 8 (by kernel_rfl)
              exact rop_idx _ _ _ rfl e81 e82 (hidx _) (wanted_none rfl) (hK _ _ (le8_refl _) rfl)
            · intro ac w' ph hF hPh hlt hP hU K hK0
              have hK := fun v w2 (hl : Le8 w' w2) ht => hK0 v w2 (hl.mono hPh.2.2.size) (⟨below_step hPh.1 hb.size hl, hPh.2.1.old hl, hPh.2.2.old hl⟩) ht
              have e83 : ac.eval (.tmp 83) = .pointer (some ⟨b, off + k * 6, none⟩) := hP 9 (by kernel_rfl)
              exact rop_fld _ _ _ rfl e83 (hf3 _) (wanted_none rfl) (hK _ _ (le8_refl _) rfl)
            · intro ac w' ph hF hPh hlt hP hU K hK0
              have hK := fun v w2 (hl : Le8 w' w2) ht => hK0 v w2 (hl.mono hPh.2.2.size) (⟨below_step hPh.1 hb.size hl, hPh.2.1.old hl, hPh.2.2.old hl⟩) ht
              have e84 : ac.eval (.tmp 84) = .pointer (some ⟨b, off + k * 6 + 3, none⟩) := hP 10 (by kernel_rfl)
              exact rop_ld _ _ rfl e84 (hld3 _ (hb.trans hPh.1)) (wanted_none rfl) (hK _ _ (le8_refl _) rfl)
            · intro ac w' ph hF hPh hlt hP hU K hK0
              have hK := fun v w2 (hl : Le8 w' w2) ht => hK0 v w2 (hl.mono hPh.2.2.size) (⟨below_step hPh.1 hb.size hl, hPh.2.1.old hl, hPh.2.2.old hl⟩) ht
              have e85 : ac.eval (.tmp 85) = .int .u8 y := hP 11 (by kernel_rfl)
              refine rop_call 26 _ _ rfl #[.int .u8 y] (by simp [e85]) (by kernel_rfl) (wanted_none rfl) ?_
              refine (hwith _).mono ?_
              rintro e w2 ⟨rfl, hb⟩
              exact ⟨_, rfl, hK _ _ hb rfl⟩
            · intro ac w' ph hF hPh hlt hP hU K hK0
              obtain rfl : ph = 0 := (hlt 0 13 rfl).1 rfl
              have e74 : ac.eval (.tmp 74) = .pointer (some ⟨p, 0, none⟩) := hP 0 (by kernel_rfl)
              have e80 : ac.eval (.tmp 80) = .int .i64 (m : Int) := hP 6 (by kernel_rfl)
              have e86 : ac.eval (.tmp 86) = .string X := hP 12 (by kernel_rfl)
              have hd0 : DiskIn w.heap.size p d w' := hPh.2.2
              refine rop_call 27 _ _ rfl #[.pointer (some ⟨p, 0, none⟩), .int .i64 (m : Int), .string X] (by simp [e74, e80, e86]) (by kernel_rfl) (wanted_none rfl) ?_
              refine (hwr _ hd0).mono ?_
              rintro e w2 ⟨rfl, h5, f5⟩
              exact ⟨_, rfl, hK0 _ _ f5.below ⟨hPh.1.trans f5.below, hPh.2.1.kept f5 (by decide) (by decide) (by decide), h5⟩ rfl⟩
            · intro ac w' ph hF hPh hlt hP hU K hK0
              have hK := fun v w2 (hl : Le8 w' w2) ht => hK0 v w2 (hl.mono hPh.2.2.size) (⟨below_step hPh.1 hb.size hl, hPh.2.1.old hl, hPh.2.2.old hl⟩) ht
              have e87 : ac.eval (.tmp 87) = .int .i64 0 := hP 13 (by kernel_rfl)
              exact rop_bin _ _ _ _ _ rfl e87 rfl (guard_int _ _ _ _ _ _ _ _) (hneq _) (wanted_none rfl) (hK _ _ (le8_refl _) rfl)
            · intro ac w' hF hPh hT
              have e88 : ac.eval (.tmp 88) = .bool false := hT 14 (by decide)
              rw [hF.lit 162 rfl]
              simp only [List.range, List.range.loop, List.map_cons, List.map_nil, e88, hF.at 0 (by kernel_rfl), hF.at 1 (by kernel_rfl), hF.at 2 (by kernel_rfl), hF.at 3 (by kernel_rfl), hF.at 4 (by kernel_rfl), hF.at 5 (by kernel_rfl), hF.at 6 (by kernel_rfl), hF.at 7 (by kernel_rfl), hF.at 8 (by kernel_rfl), hF.at 9 (by kernel_rfl), hF.at 10 (by kernel_rfl), hF.at 11 (by kernel_rfl), hF.at 12 (by kernel_rfl), hF.at 13 (by kernel_rfl), hF.at 14 (by kernel_rfl), hF.at 15 (by kernel_rfl), hF.at 16 (by kernel_rfl), hF.at 17 (by kernel_rfl), hF.at 18 (by kernel_rfl), hF.at 19 (by kernel_rfl), hF.at 20 (by kernel_rfl), hF.at 21 (by kernel_rfl), hF.at 22 (by kernel_rfl), hF.at 23 (by kernel_rfl), hF.at 24 (by kernel_rfl), hF.at 25 (by kernel_rfl), hF.at 26 (by kernel_rfl), hF.at 27 (by kernel_rfl), hF.at 28 (by kernel_rfl), hF.at 29 (by kernel_rfl), hF.at 30 (by kernel_rfl), hF.at 31 (by kernel_rfl), hF.at 32 (by kernel_rfl), hF.at 33 (by kernel_rfl), hF.at 34 (by kernel_rfl), hF.at 35 (by kernel_rfl), hF.at 36 (by kernel_rfl), hF.at 37 (by kernel_rfl), hF.at 38 (by kernel_rfl), hF.at 39 (by kernel_rfl), hF.at 40 (by kernel_rfl), hF.at 41 (by kernel_rfl), hF.at 42 (by kernel_rfl), hF.at 43 (by kernel_rfl), hF.at 44 (by kernel_rfl), hF.at 45 (by kernel_rfl), hF.at 46 (by kernel_rfl), hF.at 47 (by kernel_rfl), hF.at 48 (by kernel_rfl), hF.at 49 (by kernel_rfl), hF.at 50 (by kernel_rfl), hF.at 51 (by kernel_rfl), hF.at 52 (by kernel_rfl), hF.at 53 (by kernel_rfl), hF.at 54 (by kernel_rfl), hF.at 55 (by kernel_rfl), hF.at 56 (by kernel_rfl), hF.at 57 (by kernel_rfl), hF.at 58 (by kernel_rfl), hF.at 59 (by kernel_rfl), hF.at 60 (by kernel_rfl), hF.at 61 (by kernel_rfl), hF.at 62 (by kernel_rfl), hF.at 63 (by kernel_rfl), hF.at 64 (by kernel_rfl), hF.at 65 (by kernel_rfl), hF.at 66 (by kernel_rfl), hF.at 67 (by kernel_rfl), hF.at 68 (by kernel_rfl), hF.at 69 (by kernel_rfl), hF.at 70 (by kernel_rfl), hF.at 71 (by kernel_rfl), hF.at 72 (by kernel_rfl), hF.at 73 (by kernel_rfl), hF.at 89 (by kernel_rfl), hF.at 90 (by kernel_rfl), hF.at 91 (by kernel_rfl), hF.at 92 (by kernel_rfl), hF.at 93 (by kernel_rfl), hF.at 94 (by kernel_rfl), hF.at 95 (by kernel_rfl), hF.at 96 (by kernel_rfl), hF.at 97 (by kernel_rfl), hF.at 98 (by kernel_rfl), hF.at 99 (by kernel_rfl), hF.at 100 (by kernel_rfl), hF.at 101 (by kernel_rfl), hF.at 102 (by kernel_rfl), hF.at 103 (by kernel_rfl), hF.at 104 (by kernel_rfl), hF.at 105 (by kernel_rfl), hF.at 106 (by kernel_rfl), hF.at 107 (by kernel_rfl), hF.at 108 (by kernel_rfl), hF.at 109 (by kernel_rfl), hF.at 110 (by kernel_rfl), hF.at 111 (by kernel_rfl), hF.at 112 (by kernel_rfl), hF.at 113 (by kernel_rfl), hF.at 114 (by kernel_rfl), hF.at 115 (by kernel_rfl), hF.at 116 (by kernel_rfl), hF.at 117 (by kernel_rfl), hF.at 118 (by kernel_rfl), hF.at 119 (by kernel_rfl), hF.at 120 (by kernel_rfl), hF.at 121 (by kernel_rfl), hF.at 122 (by kernel_rfl), hF.at 123 (by kernel_rfl), hF.at 124 (by kernel_rfl), hF.at 125 (by kernel_rfl), hF.at 126 (by kernel_rfl), hF.at 127 (by kernel_rfl), hF.at 128 (by kernel_rfl), hF.at 129 (by kernel_rfl), hF.at 130 (by kernel_rfl), hF.at 131 (by kernel_rfl), hF.at 132 (by kernel_rfl), hF.at 133 (by kernel_rfl), hF.at 134 (by kernel_rfl), hF.at 135 (by kernel_rfl), hF.at 136 (by kernel_rfl), hF.at 137 (by kernel_rfl), hF.at 138 (by kernel_rfl), hF.at 139 (by kernel_rfl), hF.at 140 (by kernel_rfl), hF.at 141 (by kernel_rfl), hF.at 142 (by kernel_rfl), hF.at 143 (by kernel_rfl), hF.at 144 (by kernel_rfl), hF.at 145 (by kernel_rfl), hF.at 146 (by kernel_rfl), hF.at 147 (by kernel_rfl), hF.at 148 (by kernel_rfl), hF.at 149 (by kernel_rfl), hF.at 150 (by kernel_rfl), hF.at 151 (by kernel_rfl), hF.at 152 (by kernel_rfl), hF.at 153 (by kernel_rfl), hF.at 154 (by kernel_rfl), hF.at 155 (by kernel_rfl), hF.at 156 (by kernel_rfl), hF.at 157 (by kernel_rfl), hF.at 158 (by kernel_rfl), hF.at 159 (by kernel_rfl), hF.at 160 (by kernel_rfl), hF.at 161 (by kernel_rfl)]
              generalize ac.eval (.tmp 74) = u74
              generalize ac.eval (.tmp 75) = u75
              generalize ac.eval (.tmp 76) = u76
              generalize ac.eval (.tmp 77) = u77
              generalize ac.eval (.tmp 78) = u78
              generalize ac.eval (.tmp 79) = u79
              generalize ac.eval (.tmp 80) = u80
              generalize ac.eval (.tmp 81) = u81
              generalize ac.eval (.tmp 82) = u82
              generalize ac.eval (.tmp 83) = u83
              generalize ac.eval (.tmp 84) = u84
              generalize ac.eval (.tmp 85) = u85
              generalize ac.eval (.tmp 86) = u86
              generalize ac.eval (.tmp 87) = u87
              simp only [Act.eval, Array.getD_eq_getD_getElem?, List.getElem?_toArray, List.getElem?_cons_succ, List.getElem?_cons_zero, Option.getD_some]
              clear e88 hT hF ac
              have hbN : Below w.heap.size w w' := hb.trans hPh.1
              have hdN : DiskIn w.heap.size p D1 w' := hPh.2.2
              have hqN := hPh.2.1
              clear hPh hidx hf1 hf3 hld1 hld3 hand hneq hwr hwith hm2 hd hq
              go_wp2
              go_roundw
              case rel => exact ⟨k + 1, by omega, by omega, by go_num, D1, hdN, hlv5, hst5, hli5, hca5, hqN, hbN⟩
              case measure => simp [intOf]; omega
          · clear hllb
            go_upto_region 17 with fail
            go_cut [71] (fun sc wx => wr = wx ∧ sc = .bool false)
            case first =>
              by_cases hx : k < lb.length
              · have hx1 : (k : Int) < (lb.length : Int) := by omega
                have hx2 : ¬ (k : Int) < 20 := by omega
                go_wp2
                go_meet
                case rel => exact ⟨rfl, rfl⟩
              · have hx1 : ¬ (k : Int) < (lb.length : Int) := by omega
                go_wp2
                go_meet
                case rel => exact ⟨rfl, rfl⟩
            case rest =>
              obtain ⟨rfl, rfl⟩ := hcut
              clear hcase
              go_upto_if 91 with fail
              obtain ⟨P, hP⟩ : ∃ P, P = ps.take 20 := ⟨_, rfl⟩
              have HP := Lib.hid hP
              clear hP
              go_cut [2] (fun s2 wx => wr = wx ∧ s2 = .slice pa P.length pcap)
              case first =>
                obtain ⟨pa', pcap', epa, hpcap, hpc⟩ := hps
                injection epa with ea _ ec
                subst ea
                subst ec
                by_cases hp20 : 20 < ps.length
                · have e20 : P.length = 20 := by rw [HP.out, List.length_take]; omega
                  have hp20' : (20 : Int) < (ps.length : Int) := by omega
                  have hp20c : 20 ≤ pcap := by omega
                  obtain ⟨poff, rfl, _⟩ := hpc (fun e => by rw [e] at hp20; simp at hp20)
                  have HE := Lib.hid e20
                  clear e20 hpc
                  go_wp2
                  go_meet
                  case rel => exact ⟨rfl, by rw [HE.out]⟩
                · have e20 : P.length = ps.length := by rw [HP.out, List.length_take]; omega
                  have hp20' : ¬ (20 : Int) < (ps.length : Int) := by omega
                  have HE := Lib.hid e20
                  clear e20 hpc
                  go_wp2
                  go_meet
                  case rel => exact ⟨rfl, by rw [HE.out]⟩
              case rest =>
                obtain ⟨rfl, rfl⟩ := hcut
                obtain ⟨pb', hps2, hpb2⟩ : ∃ pb', Ints wr (.slice pa P.length pcap) P pb' ∧ (pb' < w.heap.size ∨ wr.heap.size ≤ pb') := by
                  rcases hpb with hpb | hpb
                  · have ht := hps.take 20
                    rw [← HP.out] at ht
                    exact ⟨pb, ht.kept fun hlt => ⟨Nat.lt_of_lt_of_le hlt hb.size, hb.block pb hlt⟩, .inl hpb⟩
                  · obtain ⟨pa', pcap', epa, hpcap, hpc⟩ := hps
                    subst hpb
                    injection epa with ea _ ec
                    subst ea
                    subst ec
                    have eP : P = [] := HP.out
                    rw [eP]
                    exact ⟨wr.heap.size, ⟨pa, pcap, rfl, hpcap, fun h => absurd rfl h⟩, .inr (Nat.le_refl _)⟩
                have hcr := crashIn _ _ _ _ hd _ P pb' hps2 (by rcases hpb2 with h | h; exact .inl h; exact .inr (.inl h))
                have hlc := hlv.crash (by decide) (odd P)
                have hone : ∀ s, s < 4 → (Dsk.crash d (odd P)).lies.getD s .empty = L.getD s .empty ∨ ∃ j, ∃ hj : j < lb.length, j < k ∧ wr4 lb[j] = (s, (Dsk.crash d (odd P)).lies.getD s .empty) := fun s hs => by
                  have h0 := stK_one (odd P) d.lies d.cache s (by rw [hlv.len]; exact hs) d.cache.length
                  rcases h0 with h0 | ⟨j, h1, h2, h3⟩
                  · exact .inl (h0.trans (by rw [hli]; exact hliF s hs))
                  · refine .inr ⟨j, by omega, by omega, ?_⟩
                    have e := cAt_map lb k j (by omega) (by omega)
                    rw [← hca] at e
                    rw [← e]
                    exact Prod.ext h2 h3.symm
                have hcc : (Dsk.crash d (odd P)).cache = [] := rfl
                have hrdC : ∀ s, Dsk.read (Dsk.crash d (odd P)) s = (Dsk.crash d (odd P)).lies.getD s .empty := fun s => rfl
                obtain ⟨DC, hDC⟩ : ∃ DC, DC = Dsk.crash d (odd P) := ⟨_, rfl⟩
                rw [← hDC] at hcr hlc hcc
                simp only [← hDC] at hone hrdC
                clear hDC hps hpb hps2 hpb2 hd hlv hst hli hca hcl hliF hcaF hlvF hstF
                have HONE := Lib.hid hone
                clear hone
                go_upto_region 24 with (go_at_call 23; refine hcr.mono ?_; rintro e w5 ⟨rfl, h5, f5⟩)
                have hq5 := hq.kept f5 (by decide) (by decide) (by decide)
                have s5 := hb.trans f5.below
                clear hcr hq hb f5
                go_upto_region 25 with fail
                go_loopw [14] (fun i wr => ∃ s : Nat, s ≤ 4 ∧ i = .int .i64 s ∧ DiskIn w.heap.size p DC wr ∧ Want 54 q L wr ∧ Below w.heap.size w wr) (fun i _ => 4 - (intOf i).toNat)
                case atStart => exact ⟨0, by omega, rfl, h5, hq5, s5⟩
                case round =>
                  clear h5 hq5 s5
                  obtain ⟨s, hs, rfl, h5, hq5, s5⟩ := hrel
                  by_cases hs4 : s < 4
                  · have hre := readIn _ _ _ (s : Int) _ h5
                    rw [hlc.readS hs4, hlc.readE hs4, hrdC] at hre
                    have hpk := fun u (h : DiskIn w.heap.size p DC u) => peekIn _ _ _ (s : Int) u h
                    simp only [hlc.peek hs4] at hpk
                    have hone := HONE.out s hs4
                    obtain ⟨x, hx⟩ : ∃ x, x = DC.lies.getD s .empty := ⟨_, rfl⟩
                    rw [← hx] at hre hone
                    simp only [← hx] at hpk
                    obtain ⟨S, hS⟩ : ∃ S, S = L.getD s .empty := ⟨_, rfl⟩
                    have cs := hq5.cell (i := s) (by rw [hL]; exact hs4)
                    rw [← hS] at hone cs
                    have HO := Lib.hid hone
                    have hqlt := hq5.lt
                    clear hx hS hone
                    go_upto_region 28 with (go_at_call 32; refine hre.mono ?_; rintro e w8 ⟨rfl, b8⟩; have cs8 : w8.cell? ⟨q, s, none⟩ = some (.string S) := (b8.cell (p := ⟨q, s, none⟩) hqlt).trans cs)
                    have h8 := h5.old b8
                    have hq8 := hq5.old b8
                    have s8 := below_step s5 (Nat.le_refl _) b8
                    clear hre h5 hq5 s5 b8 cs
                    go_upto_region 30 with fail
                    go_loopw [18, 17] (fun i okv wr => ∃ j : Nat, j ≤ lb.length ∧ j ≤ 20 ∧ i = .int .i64 j ∧ ∃ ok : Bool, okv = .bool ok ∧ ((x = S ∨ ∃ t, ∃ ht : t < lb.length, t < j ∧ wr4 lb[t] = (s, x)) → ok = true) ∧ DiskIn w.heap.size p DC wr ∧ Want 54 q L wr ∧ Below w.heap.size w wr) (fun i _ _ => 20 - (intOf i).toNat)
                    case atStart =>
                      refine ⟨0, by omega, by omega, rfl, _, rfl, fun h => ?_, h8, hq8, s8⟩
                      rcases h with rfl | ⟨t, _, ht, _⟩
                      · simp
                      · omega
                    case round =>
                      clear h8 hq8 s8 cs8
                      obtain ⟨j, hj, hj20, rfl, ok, rfl, hok', h8, hq8, s8⟩ := hrel
                      by_cases hcase : j < lb.length ∧ j < 20
                      · obtain ⟨hlt, h20⟩ := hcase
                        have h20' : (j : Int) < 20 := by omega
                        obtain ⟨b, off, rfl, hbB, hok, hcs⟩ := hopsb j hlt
                        obtain ⟨o, ho⟩ : ∃ o, o = lb[j] := ⟨_, rfl⟩
                        rw [← ho] at hok hcs
                        obtain ⟨m, hm, hm4⟩ := mod_nat o.at_ 4 (by decide)
                        rw [show ((4 : Nat) : Int) = 4 from rfl] at hm
                        obtain ⟨X, hX⟩ : ∃ X, X = withB o.byte := ⟨_, rfl⟩
                        have hXs : X.size = 256 := by rw [hX]; exact withB_size _
                        have hwith := fun u => with_any o.byte u
                        simp only [← hX] at hwith
                        obtain ⟨y, hy⟩ : ∃ y : Int, y = (o.byte.toNat : Int) := ⟨_, rfl⟩
                        obtain ⟨z, hz⟩ : ∃ z, z = o.at_ := ⟨_, rfl⟩
                        have c1 : w.cell? ⟨b, off + j * 6 + 1, none⟩ = some (.int .i64 z) := by rw [Nat.add_assoc, hz]; exact hcs 1 _ rfl
                        have c3 : w.cell? ⟨b, off + j * 6 + 3, none⟩ = some (.int .u8 y) := by rw [Nat.add_assoc, hy]; exact hcs 3 _ rfl
                        have hm2 := (and3 o.at_).trans hm
                        have hwo : wr4 o = (m, X) := by unfold wr4; rw [hm, hX]; rfl
                        rw [← hy] at hwith
                        rw [← hz] at hm2
                        rw [ho] at hwo
                        have HWO := Lib.hid hwo
                        clear hX hy hz ho hcs hok hm hwo
                        have d1 : wr.cell? ⟨b, off + j * 6 + 1, none⟩ = some (.int .i64 z) := (cell_below s8 hbB).trans c1
                        have d3 : wr.cell? ⟨b, off + j * 6 + 3, none⟩ = some (.int .u8 y) := (cell_below s8 hbB).trans c3
                        have hnext : ¬ (m = s ∧ X = x) → ¬ (x = S ∨ ∃ t, ∃ ht : t < lb.length, t < j ∧ wr4 lb[t] = (s, x)) → ¬ (x = S ∨ ∃ t, ∃ ht : t < lb.length, t < j + 1 ∧ wr4 lb[t] = (s, x)) := by
                          intro h1 h2 h3
                          rcases h3 with h3 | ⟨t, ht, htj, e⟩
                          · exact h2 (.inl h3)
                          · by_cases htj' : t < j
                            · exact h2 (.inr ⟨t, ht, htj', e⟩)
                            · obtain rfl : t = j := by omega
                              rw [HWO.out] at e
                              injection e with e1 e2
                              exact h1 ⟨e1, e2⟩
                        have HNX := Lib.hid hnext
                        clear c1 c3 HWO hnext
                        cases ok with
                        | true =>
                          go_wp2
                          go_roundw
                          case rel => exact ⟨j + 1, by omega, by omega, by go_num, true, rfl, fun _ => rfl, h8, hq8, s8⟩
                          case measure => simp [intOf]; omega
                        | false =>
                          have hno : ¬ (x = S ∨ ∃ t, ∃ ht : t < lb.length, t < j ∧ wr4 lb[t] = (s, x)) := fun h => by have := hok' h; cases this
                          have HNO := Lib.hid hno
                          clear hno hok'
                          by_cases hms : m = s
                          · have hms' : (m : Int) = (s : Int) := by omega
                            have HMS := Lib.hid hms
                            clear hms
                            by_cases hxX : x = X
                            · have hb2 : (x.toList == X.toList) = true := by rw [hxX]; simp
                              clear hxX
                              go_wp2_with (go_at_call 26; refine (hwith _).mono ?_; rintro e w9 ⟨rfl, b9⟩)
                              go_roundw
                              case rel => exact ⟨j + 1, by omega, by omega, by go_num, true, rfl, fun _ => rfl, h8.old b9, hq8.old b9, below_step s8 (Nat.le_refl _) b9⟩
                              case measure => simp [intOf]; omega
                            · have hb2 : (x.toList == X.toList) = false := by
                                have : x.toList ≠ X.toList := fun e => hxX (by rw [Lib.toList_data, Lib.toList_data] at e; exact ByteArray.ext (Array.toList_inj.1 e))
                                simpa using this
                              have HX := Lib.hid hxX
                              clear hxX
                              go_wp2_with (go_at_call 26; refine (hwith _).mono ?_; rintro e w9 ⟨rfl, b9⟩)
                              go_roundw
                              case rel => exact ⟨j + 1, by omega, by omega, by go_num, false, rfl, fun h => absurd h (HNX.out (fun e => HX.out e.2.symm) HNO.out), h8.old b9, hq8.old b9, below_step s8 (Nat.le_refl _) b9⟩
                              case measure => simp [intOf]; omega
                          · have hms' : ¬ ((m : Int) = (s : Int)) := by omega
                            have HMS := Lib.hid hms
                            clear hms
                            go_wp2
                            go_roundw
                            case rel => exact ⟨j + 1, by omega, by omega, by go_num, false, rfl, fun h => absurd h (HNX.out (fun e => HMS.out e.1) HNO.out), h8, hq8, s8⟩
                            case measure => simp [intOf]; omega
                      · obtain rfl : ok = true := hok' (by
                          rcases HO.out with h | ⟨t, ht, htk, e⟩
                          · exact .inl h
                          · exact .inr ⟨t, ht, by omega, e⟩)
                        clear hok'
                        go_upto_region 30 with fail
                        go_cut [119] (fun sc wx => wr = wx ∧ sc = .bool false)
                        case first =>
                          by_cases hx : j < lb.length
                          · have hx1 : (j : Int) < (lb.length : Int) := by omega
                            have hx2 : ¬ (j : Int) < 20 := by omega
                            go_wp2
                            go_meet
                            case rel => exact ⟨rfl, rfl⟩
                          · have hx1 : ¬ (j : Int) < (lb.length : Int) := by omega
                            go_wp2
                            go_meet
                            case rel => exact ⟨rfl, rfl⟩
                        case rest =>
                          obtain ⟨rfl, rfl⟩ := hcut
                          clear hcase
                          go_wp2_with (go_at_call 34; refine (hpk _ h8).mono ?_; rintro e w9 ⟨rfl, rfl⟩)
                          go_roundw
                          case rel => exact ⟨s + 1, by omega, by go_num, h8, hq8, s8⟩
                          case measure => simp [intOf]; omega
                  · obtain rfl : s = 4 := by omega
                    go_wp2_with (go_at_call 31; refine (cachedIn _ _ _ _ h5).mono ?_; rintro e w9 ⟨rfl, rfl⟩; rw [hcc])
                    go_ret
                    exact ⟨rfl, s5⟩
set_option maxRecDepth 100000 in
theorem lifted (os : Os) (started : os.Started) (H : Type) (enc : TypeId × Value → H) :
    ReturnsInHanded {} Try.checked os 5 .any (Rows.sectorLastsSpec.pre6 enc Try.prog Try.f5 Rows.sectorLastsRow.domain false) (Rows.sectorLastsSpec.post enc Try.prog Try.f5 false true false false) := by
  refine returnsInHanded_of_change (C := Try.checked) lawOwn started (by kernel_rfl) Try.func5
    (ChangeSpec.witness6 (enc := enc) (C := Try.checked) false ⟨#[], #[.slice none 0 0, .slice none 0 0, .slice none 0 0], []⟩ 8 (by kernel_rfl) (by kernel_rfl) (by kernel_rfl) (by kernel_rfl)) ?_
  intro W base args ds gs before hval0 hW hcnd _
  have hval : ∀ (j : Nat) t v, Try.f5.params[j]? = some t → args[j]? = some v → Value.okWide Try.prog W .any base t v := hval0
  have hW' := hW
  obtain ⟨p, q, hA0, hV, rfl, hfz, hnd⟩ := hW
  have hA : DataW.TrodAll enc Try.prog W 0 (fun _ => true) true Try.f5.params.toList args.toList ds p := hA0
  rw [Try.params5] at hA hval
  obtain ⟨v0, vs0, d0, ds0, p0, q0, hargs, rfl, rfl, h0, r0⟩ := trodAll_cons hA
  obtain ⟨v1, vs1, d1, ds1, p1, q1, rfl, rfl, rfl, h1, r1⟩ := trodAll_cons r0
  obtain ⟨v2, vs2, d2, ds2, p2, q2, rfl, rfl, rfl, h2, r2⟩ := trodAll_cons r1
  obtain ⟨rfl, rfl, rfl⟩ := trodAll_nil r2
  obtain rfl : args = #[v0, v1, v2] := by cases args; simp_all
  obtain ⟨rfl, rfl⟩ := trodVars_none hV
  obtain ⟨a0, len0, cap0, rfl⟩ := okWide_slice Try.underlying30 (hval 0 30 v0 rfl rfl)
  obtain ⟨l0, w0⟩ := ops_of h0
  obtain ⟨a1, len1, cap1, rfl⟩ := okWide_slice Try.underlying30 (hval 1 30 v1 rfl rfl)
  obtain ⟨l1, w1⟩ := ops_of h1
  obtain ⟨a2, len2, cap2, rfl⟩ := okWide_slice Try.underlying36 (hval 2 36 v2 rfl rfl)
  obtain ⟨zs2, b2, w2, u2⟩ := ints_of h2
  clear hA0 hval0 hcnd
  refine (walk (w := W) _ l0 w0 _ l1 w1 _ zs2 b2 w2 u2).mono fun e W' ⟨he, bel⟩ => ?_
  subst he
  exact ⟨_, rfl, law_post rfl rfl (by kernel_rfl) hW' rfl bel⟩

theorem holds : Rows.SectorLastsSaid :=
  OpenClaim.holds_of_wide 5 Try.f5 rfl rfl rfl rfl rfl rfl rfl ⟨rfl, rfl, rfl, rfl, rfl⟩ rfl rfl rfl rfl rfl (by kernel_rfl) Try.func5 (by kernel_rfl)
    (of_decide_eq_true (by kernel_rfl)) (by unfold Func.isWrapper; first | (rw [if_pos (by decide +kernel)]; kernel_rfl) | (rw [if_neg (by decide +kernel)]; exact ⟨rfl, rfl⟩))
    (fun os started H enc _ => lifted os started H enc)
end Go.Proofs.Ytnieebkkpmdgmaa.sectorLasts

theorem Go.Proofs.Ytnieebkkpmdgmaa.sectorLasts_holds : Go.Proofs.Ytnieebkkpmdgmaa.Rows.SectorLastsSaid := Go.Proofs.Ytnieebkkpmdgmaa.sectorLasts.holds
#print axioms Go.Proofs.Ytnieebkkpmdgmaa.sectorLasts_holds
