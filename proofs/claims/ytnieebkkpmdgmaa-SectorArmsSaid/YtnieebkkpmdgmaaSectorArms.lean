/-
  SectorArms: power lasts for just as many steps as were armed; then nothing works, and nothing is changed, till a crash. For every number of steps and every script (of a longer one the first 60 writes), no condition.
-/
import Derived.Test.YtnieebkkpmdgmaaSecAwake
import Derived.Test.YtnieebkkpmdgmaaOpArg
import Derived.Test.YtnieebkkpmdgmaaGenLaw
import Derived.Test.YtnieebkkpmdgmaaSecLaw
import Derived.Test.YtnieebkkpmdgmaaRegEff
import Derived.Deep.DeepCutAuto
namespace Go.Proofs.Ytnieebkkpmdgmaa.sectorArms
open Go.ChangeShapes Go.WideShapes Go.ChangeAt Go.RowKit Dsk

/-- A disk of 4 sectors, armed for n steps, of which some are done. -/
structure Armed (n done : Nat) (d : Dk) : Prop where
  armed : d.armed = true
  len : d.lies.length = 4
  steps : d.steps = done
  le : done ≤ n
  left : d.left = n - done
  on : done < n → d.on = true
theorem Armed.may {n done : Nat} {d : Dk} (h : Armed n done d) : may d = decide (done < n) := by
  unfold Dsk.may
  rw [h.armed, h.left]
  by_cases e : done < n
  · rw [h.on e, decide_eq_true e, decide_eq_false (by omega)]; rfl
  · rw [decide_eq_false e, decide_eq_true (by omega)]; cases d.on <;> rfl
theorem Armed.ok {n done : Nat} {d : Dk} (h : Armed n done d) {k : Nat} {s : ByteArray} (hk : k < 4) (hs : s.size = 256) : writeOk d (k : Int) s = true := by
  unfold writeOk hasB
  rw [h.len, hs]
  simp
  omega
def nxt (n done : Nat) : Nat := if done < n then done + 1 else done
theorem Armed.step {n done : Nat} {d : Dk} (h : Armed n done d) : Armed n (nxt n done) (Dsk.step d) := by
  unfold Dsk.step nxt
  rw [h.may]
  by_cases e : done < n
  · rw [decide_eq_true e, if_pos rfl, if_pos e]
    exact ⟨h.armed, h.len, by show d.steps + 1 = _; rw [h.steps], by omega, by show (if d.armed = true then d.left - 1 else d.left) = _; rw [h.armed, if_pos rfl, h.left]; omega, fun _ => rfl⟩
  · rw [decide_eq_false e, if_neg Bool.false_ne_true, if_neg e]
    exact ⟨h.armed, h.len, h.steps, h.le, h.left, fun h => absurd h e⟩
theorem Armed.write {n done : Nat} {d : Dk} (h : Armed n done d) {k : Nat} {s : ByteArray} (hk : k < 4) (hs : s.size = 256) : Armed n (nxt n done) (writeD d (k : Int) s) := by
  unfold writeD
  rw [if_pos (h.ok hk hs), Int.toNat_natCast]
  unfold Dsk.write
  have := h.step
  split
  · exact ⟨this.armed, this.len, this.steps, this.le, this.left, this.on⟩
  · exact this
theorem Armed.flush {n done : Nat} {d : Dk} (h : Armed n done d) : Armed n (nxt n done) (Dsk.flush d) := by
  unfold Dsk.flush
  have := h.step
  split
  · exact ⟨this.armed, by simp only [Dsk.settle, stK_length]; exact this.len, this.steps, this.le, this.left, this.on⟩
  · exact this
theorem Armed.err {n done : Nat} {d : Dk} (h : Armed n done d) : err d = if done < n then 0 else 14 := by
  unfold Dsk.err
  rw [h.may]
  by_cases e : done < n <;> simp [e]
theorem Armed.writeE {n done : Nat} {d : Dk} (h : Armed n done d) {k : Nat} {s : ByteArray} (hk : k < 4) (hs : s.size = 256) : writeE d (k : Int) s = if done < n then 0 else 14 := by
  unfold Go.Proofs.Ytnieebkkpmdgmaa.writeE
  rw [if_pos (h.ok hk hs), h.err]
theorem Armed.readE {n done : Nat} {d : Dk} (h : Armed n done d) : readE d 0 = if d.on then 0 else 14 := by
  unfold Go.Proofs.Ytnieebkkpmdgmaa.readE hasB
  rw [h.len]
  simp
theorem write_cache (d : Dk) (k : Int) (s : ByteArray) : (writeD d k s).cache.length ≤ d.cache.length + 1 := by
  unfold writeD
  split
  · unfold Dsk.write
    split
    · simp only [put, step_cache, List.length_append, List.length_singleton]; omega
    · rw [step_cache]; omega
  · omega
theorem flush_cache (d : Dk) : (Dsk.flush d).cache.length ≤ d.cache.length := by
  unfold Dsk.flush
  split
  · simp [Dsk.settle]
  · rw [step_cache]; omega

set_option maxHeartbeats 6400000 in
set_option maxRecDepth 100000 in
theorem walk {w : World} (st : Int) (l1 : -9223372036854775808 ≤ st) (l2 : st ≤ 9223372036854775807) (v : Value) (l : List OpR) (hl : Ops w v l) :
    Calls Try.prog 6 #[.int .i64 st, v] w fun e w' => e = .returned (.bool true) ∧ Below w.heap.size w w' := by
  obtain ⟨av, cap, rfl, hll, hops⟩ := hl
  obtain ⟨r, hr⟩ : ∃ r, st.tmod 41 = r := ⟨_, rfl⟩
  have hr1 : -41 < r := by rw [← hr]; have := Int.lt_tmod_of_pos st (show (0 : Int) < 41 by decide); omega
  have hr2 : r < 41 := by rw [← hr]; exact Int.tmod_lt_of_pos st (by decide)
  obtain ⟨n, hn⟩ : ∃ n, n = r.natAbs := ⟨_, rfl⟩
  have HN := Lib.hid hn
  clear hn
  go_enter Try.func6, Try.ntmps6
  go_upto_region 2 with (go_at_call 10; refine (awake_any _).mono ?_; rintro e w1 ⟨rfl, b1⟩)
  have hnew := newIn 4 w1 w.heap.size (by decide) (by decide) b1.size
  rw [show ((4 : Nat) : Int) = 4 from rfl] at hnew
  go_upto_region 5 with (go_at_call 16; refine hnew.mono ?_; rintro e w2 ⟨p, rfl, h2, b2⟩)
  have s2 := below_step b1 (Nat.le_refl _) b2
  clear hnew b1 b2
  go_upto_if 21 with fail
  go_cut [7] (fun s7 wx => w2 = wx ∧ s7 = .int .i64 (n : Int))
  case first =>
    by_cases hneg : r < 0
    · have e : -r = (n : Int) := by have := HN.out; omega
      go_wp2
      go_meet
      case rel => exact ⟨rfl, rfl⟩
    · obtain rfl : r = (n : Int) := by have := HN.out; omega
      go_wp2
      go_meet
      case rel => exact ⟨rfl, rfl⟩
  case rest =>
    obtain ⟨rfl, rfl⟩ := hcut
    have hn40 : n ≤ 40 := by have := HN.out; omega
    clear hr hr1 hr2 HN l1 l2
    have har := armIn _ _ _ (n : Int) _ h2 (by omega)
    rw [Int.toNat_natCast] at har
    go_upto_region 9 with (go_at_call 21; refine har.mono ?_; rintro e w3 ⟨rfl, h3, f3⟩)
    have s3 := s2.trans f3.below
    have ha3 : Armed n 0 (Dsk.arm (Dsk.new 4) n) := ⟨rfl, by simp [Dsk.arm, Dsk.new], rfl, Nat.zero_le _, rfl, fun _ => rfl⟩
    clear har h2 s2 f3
    go_upto_region 11 with fail
    go_loopw [9, 8] (fun i dn wr => ∃ k : Nat, k ≤ l.length ∧ k ≤ 60 ∧ i = .int .i64 k ∧ ∃ done : Nat, dn = .int .i64 done ∧ ∃ d, DiskIn w.heap.size p d wr ∧ Armed n done d ∧ d.cache.length ≤ 2 * k ∧ Below w.heap.size w wr) (fun i _ _ => 60 - (intOf i).toNat)
    case atStart => exact ⟨0, by omega, by omega, rfl, 0, rfl, _, h3, ha3, by simp [Dsk.arm, Dsk.new], s3⟩
    case round =>
      clear h3 ha3 s3
      obtain ⟨k, hk, hk60, rfl, done, rfl, d, hd, ha, hca, hb⟩ := hrel
      by_cases hlt : k < l.length ∧ k < 60
      · obtain ⟨hlt, h60⟩ := hlt
        obtain ⟨b, off, rfl, hbB, hok, hcs⟩ := hops k hlt
        obtain ⟨o, ho⟩ : ∃ o, o = l[k] := ⟨_, rfl⟩
        rw [← ho] at hok hcs
        have h60' : (k : Int) < 60 := by omega
        obtain ⟨m, hm, hm4⟩ := mod_nat o.at_ 4 (by decide)
        rw [show ((4 : Nat) : Int) = 4 from rfl] at hm
        obtain ⟨X, hX⟩ : ∃ X, X = withB o.byte := ⟨_, rfl⟩
        have hXs : X.size = 256 := by rw [hX]; exact withB_size _
        have hwith := fun u => with_any o.byte u
        simp only [← hX] at hwith
        obtain ⟨y, hy⟩ : ∃ y : Int, y = (o.byte.toNat : Int) := ⟨_, rfl⟩
        obtain ⟨z, hz⟩ : ∃ z, z = o.at_ := ⟨_, rfl⟩
        have c1 : w.cell? ⟨b, off + k * 6 + 1, none⟩ = some (.int .i64 z) := by rw [Nat.add_assoc, hz]; exact hcs 1 _ rfl
        have c3 : w.cell? ⟨b, off + k * 6 + 3, none⟩ = some (.int .u8 y) := by rw [Nat.add_assoc, hy]; exact hcs 3 _ rfl
        have hm2 := (and3 o.at_).trans hm
        rw [← hy] at hwith
        rw [← hz] at hm2
        clear hX hy hz ho hcs hok hm
        have hidx : ∀ u, (Instr.indexAt 30 (.slice (some ⟨b, off, none⟩) l.length cap) (.int .i64 (k : Int))).run Try.prog u = .ok (.pointer (some ⟨b, off + k * 6, none⟩)) u := by intro u; go_simp
        have hf1 : ∀ u, (Instr.fieldAt 38 (.pointer (some ⟨b, off + k * 6, none⟩)) 1).run Try.prog u = .ok (.pointer (some ⟨b, off + k * 6 + 1, none⟩)) u := by intro u; go_simp
        have hf3 : ∀ u, (Instr.fieldAt 38 (.pointer (some ⟨b, off + k * 6, none⟩)) 3).run Try.prog u = .ok (.pointer (some ⟨b, off + k * 6 + 3, none⟩)) u := by intro u; go_simp
        have hld1 : ∀ u, Below w.heap.size w u → (Instr.loadAt 3 (.pointer (some ⟨b, off + k * 6 + 1, none⟩))).run Try.prog u = .ok (.int .i64 z) u := by
          intro u hu; have c := (cell_below hu hbB).trans c1; go_simp
        have hld3 : ∀ u, Below w.heap.size w u → (Instr.loadAt 5 (.pointer (some ⟨b, off + k * 6 + 3, none⟩))).run Try.prog u = .ok (.int .u8 y) u := by
          intro u hu; have c := (cell_below hu hbB).trans c3; go_simp
        have hand : ∀ u, (binOp .and 3 (.int .i64 z) (.int .i64 3)).run Try.prog u = .ok (.int .i64 (m : Int)) u := by intro u; go_simp
        have hsl := ha.steps
        have hle := ha.le
        clear c1 c3
        go_upto_region 13 with fail
        try simp only [Act.put]
        refine wp_region_eff (Lx := Below w.heap.size) [RX.is (.pointer (some ⟨p, 0, none⟩)), RX.is (.slice (some ⟨b, off, none⟩) l.length cap), RX.is (.int .i64 (k : Int)), RX.is (.pointer (some ⟨b, off + k * 6, none⟩)), RX.is (.pointer (some ⟨b, off + k * 6 + 1, none⟩)), RX.is (.int .i64 z), RX.is (.int .i64 (m : Int)), RX.is (.slice (some ⟨b, off, none⟩) l.length cap), RX.is (.int .i64 (k : Int)), RX.is (.pointer (some ⟨b, off + k * 6, none⟩)), RX.is (.pointer (some ⟨b, off + k * 6 + 3, none⟩)), RX.is (.int .u8 y), RX.is (.string X), RX.is (.int .i64 (writeE d (m : Int) X)), RX.is (.int .i64 (writeE d (m : Int) X))] [13] (fun k u => Below w.heap.size wr u ∧ DiskIn w.heap.size p (if k = 0 then d else writeD d (m : Int) X) u) (by kernel_rfl) (by kernel_rfl) (by kernel_rfl) (by kernel_rfl) (by kernel_rfl) (⟨below_drew (Below.refl _ _), hd.old (below_drew (Below.refl _ _))⟩) ⟨?_, ?_, ?_, ?_, ?_, ?_, ?_, ?_, ?_, ?_, ?_, ?_, ?_, ?_, ?_, trivial⟩ ?_
        · intro ac w' ph hF hPh hlt hP hU K hK0
          have hK := fun v w2 (hl : Le8 w' w2) ht => hK0 v w2 (hl.mono hPh.2.size) (⟨below_step hPh.1 hb.size hl, hPh.2.old hl⟩) ht
          have e6 : ac.eval (.tmp 6) = .pointer (some ⟨p, 0, none⟩) := hF.at 6 (by kernel_rfl)
          exact rop_move _ rfl e6 (wanted_none rfl) (hK _ _ (le8_refl _) rfl)
        · intro ac w' ph hF hPh hlt hP hU K hK0
          have hK := fun v w2 (hl : Le8 w' w2) ht => hK0 v w2 (hl.mono hPh.2.size) (⟨below_step hPh.1 hb.size hl, hPh.2.old hl⟩) ht
          have e1 : ac.eval (.tmp 1) = .slice (some ⟨b, off, none⟩) l.length cap := hF.at 1 (by kernel_rfl)
          exact rop_move _ rfl e1 (wanted_none rfl) (hK _ _ (le8_refl _) rfl)
        · intro ac w' ph hF hPh hlt hP hU K hK0
          have hK := fun v w2 (hl : Le8 w' w2) ht => hK0 v w2 (hl.mono hPh.2.size) (⟨below_step hPh.1 hb.size hl, hPh.2.old hl⟩) ht
          have e9 : ac.eval (.tmp 9) = .int .i64 (k : Int) := hF.at 9 (by kernel_rfl)
          exact rop_move _ rfl e9 (wanted_none rfl) (hK _ _ (le8_refl _) rfl)
        · intro ac w' ph hF hPh hlt hP hU K hK0
          have hK := fun v w2 (hl : Le8 w' w2) ht => hK0 v w2 (hl.mono hPh.2.size) (⟨below_step hPh.1 hb.size hl, hPh.2.old hl⟩) ht
          have e38 : ac.eval (.tmp 38) = .slice (some ⟨b, off, none⟩) l.length cap := hP 1 (by kernel_rfl)
          have e39 : ac.eval (.tmp 39) = .int .i64 (k : Int) := hP 2 (by kernel_rfl)
          exact rop_idx _ _ _ rfl e38 e39 (hidx _) (wanted_none rfl) (hK _ _ (le8_refl _) rfl)
        · intro ac w' ph hF hPh hlt hP hU K hK0
          have hK := fun v w2 (hl : Le8 w' w2) ht => hK0 v w2 (hl.mono hPh.2.size) (⟨below_step hPh.1 hb.size hl, hPh.2.old hl⟩) ht
          have e40 : ac.eval (.tmp 40) = .pointer (some ⟨b, off + k * 6, none⟩) := hP 3 (by kernel_rfl)
          exact rop_fld _ _ _ rfl e40 (hf1 _) (wanted_none rfl) (hK _ _ (le8_refl _) rfl)
        · intro ac w' ph hF hPh hlt hP hU K hK0
          have hK := fun v w2 (hl : Le8 w' w2) ht => hK0 v w2 (hl.mono hPh.2.size) (⟨below_step hPh.1 hb.size hl, hPh.2.old hl⟩) ht
          have e41 : ac.eval (.tmp 41) = .pointer (some ⟨b, off + k * 6 + 1, none⟩) := hP 4 (by kernel_rfl)
          exact rop_ld _ _ rfl e41 (hld1 _ (hb.trans hPh.1)) (wanted_none rfl) (hK _ _ (le8_refl _) rfl)
        · intro ac w' ph hF hPh hlt hP hU K hK0
          have hK := fun v w2 (hl : Le8 w' w2) ht => hK0 v w2 (hl.mono hPh.2.size) (⟨below_step hPh.1 hb.size hl, hPh.2.old hl⟩) ht
          have e42 : ac.eval (.tmp 42) = .int .i64 z := hP 5 (by kernel_rfl)
          exact rop_bin _ _ _ _ _ rfl e42 rfl (guard_int _ _ _ _ _ _ _ _) (hand _) (wanted_none rfl) (hK _ _ (le8_refl _) rfl)
        · intro ac w' ph hF hPh hlt hP hU K hK0
          have hK := fun v w2 (hl : Le8 w' w2) ht => hK0 v w2 (hl.mono hPh.2.size) (⟨below_step hPh.1 hb.size hl, hPh.2.old hl⟩) ht
          have e1 : ac.eval (.tmp 1) = .slice (some ⟨b, off, none⟩) l.length cap := hF.at 1 (by kernel_rfl)
          exact rop_move _ rfl e1 (wanted_none rfl) (hK _ _ (le8_refl _) rfl)
        · intro ac w' ph hF hPh hlt hP hU K hK0
          have hK := fun v w2 (hl : Le8 w' w2) ht => hK0 v w2 (hl.mono hPh.2.size) (⟨below_step hPh.1 hb.size hl, hPh.2.old hl⟩) ht
          have e9 : ac.eval (.tmp 9) = .int .i64 (k : Int) := hF.at 9 (by kernel_rfl)
          exact rop_move _ rfl e9 (wanted_none rfl) (hK _ _ (le8_refl _) rfl)
        · intro ac w' ph hF hPh hlt hP hU K hK0
          have hK := fun v w2 (hl : Le8 w' w2) ht => hK0 v w2 (hl.mono hPh.2.size) (⟨below_step hPh.1 hb.size hl, hPh.2.old hl⟩) ht
          have e44 : ac.eval (.tmp 44) = .slice (some ⟨b, off, none⟩) l.length cap := hP 7 (by kernel_rfl)
          have e45 : ac.eval (.tmp 45) = .int .i64 (k : Int) := hP 8 (by kernel_rfl)
          exact rop_idx _ _ _ rfl e44 e45 (hidx _) (wanted_none rfl) (hK _ _ (le8_refl _) rfl)
        · intro ac w' ph hF hPh hlt hP hU K hK0
          have hK := fun v w2 (hl : Le8 w' w2) ht => hK0 v w2 (hl.mono hPh.2.size) (⟨below_step hPh.1 hb.size hl, hPh.2.old hl⟩) ht
          have e46 : ac.eval (.tmp 46) = .pointer (some ⟨b, off + k * 6, none⟩) := hP 9 (by kernel_rfl)
          exact rop_fld _ _ _ rfl e46 (hf3 _) (wanted_none rfl) (hK _ _ (le8_refl _) rfl)
        · intro ac w' ph hF hPh hlt hP hU K hK0
          have hK := fun v w2 (hl : Le8 w' w2) ht => hK0 v w2 (hl.mono hPh.2.size) (⟨below_step hPh.1 hb.size hl, hPh.2.old hl⟩) ht
          have e47 : ac.eval (.tmp 47) = .pointer (some ⟨b, off + k * 6 + 3, none⟩) := hP 10 (by kernel_rfl)
          exact rop_ld _ _ rfl e47 (hld3 _ (hb.trans hPh.1)) (wanted_none rfl) (hK _ _ (le8_refl _) rfl)
        · intro ac w' ph hF hPh hlt hP hU K hK0
          have hK := fun v w2 (hl : Le8 w' w2) ht => hK0 v w2 (hl.mono hPh.2.size) (⟨below_step hPh.1 hb.size hl, hPh.2.old hl⟩) ht
          have e48 : ac.eval (.tmp 48) = .int .u8 y := hP 11 (by kernel_rfl)
          refine rop_call 26 _ _ rfl #[.int .u8 y] (by simp [e48]) (by kernel_rfl) (wanted_none rfl) ?_
          refine (hwith _).mono ?_
          rintro e w2 ⟨rfl, hb⟩
          exact ⟨_, rfl, hK _ _ hb rfl⟩
        · intro ac w' ph hF hPh hlt hP hU K hK0
          obtain rfl : ph = 0 := (hlt 0 13 rfl).1 rfl
          have e37 : ac.eval (.tmp 37) = .pointer (some ⟨p, 0, none⟩) := hP 0 (by kernel_rfl)
          have e43 : ac.eval (.tmp 43) = .int .i64 (m : Int) := hP 6 (by kernel_rfl)
          have e49 : ac.eval (.tmp 49) = .string X := hP 12 (by kernel_rfl)
          refine rop_call 27 _ _ rfl #[.pointer (some ⟨p, 0, none⟩), .int .i64 (m : Int), .string X] (by simp [e37, e43, e49]) (by kernel_rfl) (wanted_none rfl) ?_
          have hd0 : DiskIn w.heap.size p d w' := hPh.2
          refine (writeIn _ _ _ (m : Int) X _ hd0 (by omega) (by omega) (by omega)).mono ?_
          rintro e w2 ⟨rfl, h5, f5⟩
          exact ⟨_, rfl, hK0 _ _ f5.below ⟨hPh.1.trans f5.below, h5⟩ rfl⟩
        · intro ac w' ph hF hPh hlt hP hU K hK0
          have hK := fun v w2 (hl : Le8 w' w2) ht => hK0 v w2 (hl.mono hPh.2.size) (⟨below_step hPh.1 hb.size hl, hPh.2.old hl⟩) ht
          have e50 : ac.eval (.tmp 50) = .int .i64 (writeE d (m : Int) X) := hP 13 (by kernel_rfl)
          exact rop_assign _ rfl e50 (wanted_none rfl) (hK _ _ (le8_refl _) rfl)
        · intro ac w' hF hPh hT
          have e10 : ac.eval (.tmp 10) = .int .i64 (writeE d (m : Int) X) := hT 14 (by decide)
          rw [hF.lit 112 rfl]
          simp only [List.range, List.range.loop, List.map_cons, List.map_nil, e10, hF.at 0 (by kernel_rfl), hF.at 1 (by kernel_rfl), hF.at 2 (by kernel_rfl), hF.at 3 (by kernel_rfl), hF.at 4 (by kernel_rfl), hF.at 5 (by kernel_rfl), hF.at 6 (by kernel_rfl), hF.at 7 (by kernel_rfl), hF.at 8 (by kernel_rfl), hF.at 9 (by kernel_rfl), hF.at 11 (by kernel_rfl), hF.at 12 (by kernel_rfl), hF.at 13 (by kernel_rfl), hF.at 14 (by kernel_rfl), hF.at 15 (by kernel_rfl), hF.at 16 (by kernel_rfl), hF.at 17 (by kernel_rfl), hF.at 18 (by kernel_rfl), hF.at 19 (by kernel_rfl), hF.at 20 (by kernel_rfl), hF.at 21 (by kernel_rfl), hF.at 22 (by kernel_rfl), hF.at 23 (by kernel_rfl), hF.at 24 (by kernel_rfl), hF.at 25 (by kernel_rfl), hF.at 26 (by kernel_rfl), hF.at 27 (by kernel_rfl), hF.at 28 (by kernel_rfl), hF.at 29 (by kernel_rfl), hF.at 30 (by kernel_rfl), hF.at 31 (by kernel_rfl), hF.at 32 (by kernel_rfl), hF.at 33 (by kernel_rfl), hF.at 34 (by kernel_rfl), hF.at 35 (by kernel_rfl), hF.at 36 (by kernel_rfl), hF.at 51 (by kernel_rfl), hF.at 52 (by kernel_rfl), hF.at 53 (by kernel_rfl), hF.at 54 (by kernel_rfl), hF.at 55 (by kernel_rfl), hF.at 56 (by kernel_rfl), hF.at 57 (by kernel_rfl), hF.at 58 (by kernel_rfl), hF.at 59 (by kernel_rfl), hF.at 60 (by kernel_rfl), hF.at 61 (by kernel_rfl), hF.at 62 (by kernel_rfl), hF.at 63 (by kernel_rfl), hF.at 64 (by kernel_rfl), hF.at 65 (by kernel_rfl), hF.at 66 (by kernel_rfl), hF.at 67 (by kernel_rfl), hF.at 68 (by kernel_rfl), hF.at 69 (by kernel_rfl), hF.at 70 (by kernel_rfl), hF.at 71 (by kernel_rfl), hF.at 72 (by kernel_rfl), hF.at 73 (by kernel_rfl), hF.at 74 (by kernel_rfl), hF.at 75 (by kernel_rfl), hF.at 76 (by kernel_rfl), hF.at 77 (by kernel_rfl), hF.at 78 (by kernel_rfl), hF.at 79 (by kernel_rfl), hF.at 80 (by kernel_rfl), hF.at 81 (by kernel_rfl), hF.at 82 (by kernel_rfl), hF.at 83 (by kernel_rfl), hF.at 84 (by kernel_rfl), hF.at 85 (by kernel_rfl), hF.at 86 (by kernel_rfl), hF.at 87 (by kernel_rfl), hF.at 88 (by kernel_rfl), hF.at 89 (by kernel_rfl), hF.at 90 (by kernel_rfl), hF.at 91 (by kernel_rfl), hF.at 92 (by kernel_rfl), hF.at 93 (by kernel_rfl), hF.at 94 (by kernel_rfl), hF.at 95 (by kernel_rfl), hF.at 96 (by kernel_rfl), hF.at 97 (by kernel_rfl), hF.at 98 (by kernel_rfl), hF.at 99 (by kernel_rfl), hF.at 100 (by kernel_rfl), hF.at 101 (by kernel_rfl), hF.at 102 (by kernel_rfl), hF.at 103 (by kernel_rfl), hF.at 104 (by kernel_rfl), hF.at 105 (by kernel_rfl), hF.at 106 (by kernel_rfl), hF.at 107 (by kernel_rfl), hF.at 108 (by kernel_rfl), hF.at 109 (by kernel_rfl), hF.at 110 (by kernel_rfl), hF.at 111 (by kernel_rfl)]
          generalize ac.eval (.tmp 37) = u37
          generalize ac.eval (.tmp 38) = u38
          generalize ac.eval (.tmp 39) = u39
          generalize ac.eval (.tmp 40) = u40
          generalize ac.eval (.tmp 41) = u41
          generalize ac.eval (.tmp 42) = u42
          generalize ac.eval (.tmp 43) = u43
          generalize ac.eval (.tmp 44) = u44
          generalize ac.eval (.tmp 45) = u45
          generalize ac.eval (.tmp 46) = u46
          generalize ac.eval (.tmp 47) = u47
          generalize ac.eval (.tmp 48) = u48
          generalize ac.eval (.tmp 49) = u49
          generalize ac.eval (.tmp 50) = u50
          simp only [Act.eval, Array.getD_eq_getD_getElem?, List.getElem?_toArray, List.getElem?_cons_succ, List.getElem?_cons_zero, Option.getD_some]
          clear e10 hT hF ac
          have hbN0 : Below w.heap.size w w' := hb.trans hPh.1
          have hd1 : DiskIn w.heap.size p (writeD d (m : Int) X) w' := hPh.2
          have ha1 := ha.write hm4 hXs
          have hca1 : (writeD d (m : Int) X).cache.length ≤ 2 * k + 1 := by have := write_cache d (m : Int) X; omega
          rw [ha.writeE hm4 hXs]
          obtain ⟨D1, hD1⟩ : ∃ D1, D1 = writeD d (m : Int) X := ⟨_, rfl⟩
          rw [← hD1] at hd1 ha1 hca1
          clear hD1 hPh hd hidx hf1 hf3 hld1 hld3 hand hwith hm2
          by_cases hdn : done < n
          · have hdn' : (done : Int) < (n : Int) := by omega
            rw [if_pos hdn]
            rw [show nxt n done = done + 1 from if_pos hdn] at ha1
            by_cases h3 : k % 3 = 2
            · have h3' : ((k : Int)).tmod 3 = 2 := by rw [show ((k : Int)).tmod 3 = ((k % 3 : Nat) : Int) from rfl, h3]; rfl
              have hfl := flushIn _ _ _ _ hd1 (by have := ha1.steps; have := ha1.le; omega)
              rw [ha1.err] at hfl
              have haF := ha1.flush
              have hcaF := flush_cache D1
              by_cases hdn1 : done + 1 < n
              · have hdn1' : (done : Int) + 1 < (n : Int) := by omega
                rw [if_pos hdn1] at hfl
                rw [show nxt n (done + 1) = done + 1 + 1 from if_pos hdn1] at haF
                go_upto_region 24 with (go_at_call 19; refine hfl.mono ?_; rintro e w7 ⟨rfl, hNd, f7⟩)
                have hbN := hbN0.trans f7.below
                obtain ⟨DN, hDN⟩ : ∃ DN, DN = Dsk.flush D1 := ⟨_, rfl⟩
                rw [← hDN] at hNd haF hcaF
                have hdN := haF
                have hcaN : DN.cache.length ≤ 2 * (k + 1) := by omega
                clear hDN haF hfl hd1 f7 hcaF
                have HDN := Lib.hid hdN
                have hre := readIn _ _ _ 0 _ hNd
                rw [hdN.readE] at hre
                have hsteps := fun u (h : DiskIn w.heap.size p DN u) => stepsIn _ _ _ u h
                rw [hdN.steps] at hsteps
                cases hon : DN.on with
                | true =>
                  rw [hon, if_pos rfl] at hre
                  go_upto_region 25 with (go_at_call 32; refine hre.mono ?_; rintro e w8 ⟨rfl, b8⟩)
                  have h8 := hNd.old b8
                  have HN := Lib.hid hNd
                  clear hre hNd
                  go_wp2_with (first
                    | (go_at_call 30; refine (hsteps _ h8).mono ?_; rintro e w9 ⟨rfl, rfl⟩)
                    | (go_at_call 29; refine (onIn _ _ _ _ h8).mono ?_; rintro e w9 ⟨rfl, rfl⟩; rw [hon]))
                  go_roundw
                  case rel => exact ⟨k + 1, by omega, by omega, by go_num, _, by go_num, DN, h8, HDN.out, hcaN, below_step hbN (Nat.le_refl _) b8⟩
                  case measure => simp [intOf]; omega
                | false =>
                  rw [hon, if_neg Bool.false_ne_true] at hre
                  go_upto_region 25 with (go_at_call 32; refine hre.mono ?_; rintro e w8 ⟨rfl, b8⟩)
                  have h8 := hNd.old b8
                  have HN := Lib.hid hNd
                  clear hre hNd
                  go_wp2_with (first
                    | (go_at_call 30; refine (hsteps _ h8).mono ?_; rintro e w9 ⟨rfl, rfl⟩)
                    | (go_at_call 29; refine (onIn _ _ _ _ h8).mono ?_; rintro e w9 ⟨rfl, rfl⟩; rw [hon]))
                  go_roundw
                  case rel => exact ⟨k + 1, by omega, by omega, by go_num, _, by go_num, DN, h8, HDN.out, hcaN, below_step hbN (Nat.le_refl _) b8⟩
                  case measure => simp [intOf]; omega
              · have hdn1' : ¬ (done : Int) + 1 < (n : Int) := by omega
                rw [if_neg hdn1] at hfl
                rw [show nxt n (done + 1) = done + 1 from if_neg hdn1] at haF
                go_upto_region 24 with (go_at_call 19; refine hfl.mono ?_; rintro e w7 ⟨rfl, hNd, f7⟩)
                have hbN := hbN0.trans f7.below
                obtain ⟨DN, hDN⟩ : ∃ DN, DN = Dsk.flush D1 := ⟨_, rfl⟩
                rw [← hDN] at hNd haF hcaF
                have hdN := haF
                have hcaN : DN.cache.length ≤ 2 * (k + 1) := by omega
                clear hDN haF hfl hd1 f7 hcaF
                have HDN := Lib.hid hdN
                have hre := readIn _ _ _ 0 _ hNd
                rw [hdN.readE] at hre
                have hsteps := fun u (h : DiskIn w.heap.size p DN u) => stepsIn _ _ _ u h
                rw [hdN.steps] at hsteps
                cases hon : DN.on with
                | true =>
                  rw [hon, if_pos rfl] at hre
                  go_upto_region 25 with (go_at_call 32; refine hre.mono ?_; rintro e w8 ⟨rfl, b8⟩)
                  have h8 := hNd.old b8
                  have HN := Lib.hid hNd
                  clear hre hNd
                  go_wp2_with (first
                    | (go_at_call 30; refine (hsteps _ h8).mono ?_; rintro e w9 ⟨rfl, rfl⟩)
                    | (go_at_call 29; refine (onIn _ _ _ _ h8).mono ?_; rintro e w9 ⟨rfl, rfl⟩; rw [hon]))
                  go_roundw
                  case rel => exact ⟨k + 1, by omega, by omega, by go_num, _, by go_num, DN, h8, HDN.out, hcaN, below_step hbN (Nat.le_refl _) b8⟩
                  case measure => simp [intOf]; omega
                | false =>
                  rw [hon, if_neg Bool.false_ne_true] at hre
                  go_upto_region 25 with (go_at_call 32; refine hre.mono ?_; rintro e w8 ⟨rfl, b8⟩)
                  have h8 := hNd.old b8
                  have HN := Lib.hid hNd
                  clear hre hNd
                  go_wp2_with (first
                    | (go_at_call 30; refine (hsteps _ h8).mono ?_; rintro e w9 ⟨rfl, rfl⟩)
                    | (go_at_call 29; refine (onIn _ _ _ _ h8).mono ?_; rintro e w9 ⟨rfl, rfl⟩; rw [hon]))
                  go_roundw
                  case rel => exact ⟨k + 1, by omega, by omega, by go_num, _, by go_num, DN, h8, HDN.out, hcaN, below_step hbN (Nat.le_refl _) b8⟩
                  case measure => simp [intOf]; omega
            · have h3' : ¬ ((k : Int)).tmod 3 = 2 := by rw [show ((k : Int)).tmod 3 = ((k % 3 : Nat) : Int) from rfl]; omega
              obtain ⟨DN, hDN⟩ : ∃ DN, DN = D1 := ⟨_, rfl⟩
              have hNd := hd1
              have hdN := ha1
              have hbN := hbN0
              rw [← hDN] at hNd hdN hca1
              have hcaN : DN.cache.length ≤ 2 * (k + 1) := by omega
              clear hDN hd1 ha1 hbN0 hca1
              go_upto_region 24 with fail
              have HDN := Lib.hid hdN
              have hre := readIn _ _ _ 0 _ hNd
              rw [hdN.readE] at hre
              have hsteps := fun u (h : DiskIn w.heap.size p DN u) => stepsIn _ _ _ u h
              rw [hdN.steps] at hsteps
              cases hon : DN.on with
              | true =>
                rw [hon, if_pos rfl] at hre
                go_upto_region 25 with (go_at_call 32; refine hre.mono ?_; rintro e w8 ⟨rfl, b8⟩)
                have h8 := hNd.old b8
                have HN := Lib.hid hNd
                clear hre hNd
                go_wp2_with (first
                  | (go_at_call 30; refine (hsteps _ h8).mono ?_; rintro e w9 ⟨rfl, rfl⟩)
                  | (go_at_call 29; refine (onIn _ _ _ _ h8).mono ?_; rintro e w9 ⟨rfl, rfl⟩; rw [hon]))
                go_roundw
                case rel => exact ⟨k + 1, by omega, by omega, by go_num, _, by go_num, DN, h8, HDN.out, hcaN, below_step hbN (Nat.le_refl _) b8⟩
                case measure => simp [intOf]; omega
              | false =>
                rw [hon, if_neg Bool.false_ne_true] at hre
                go_upto_region 25 with (go_at_call 32; refine hre.mono ?_; rintro e w8 ⟨rfl, b8⟩)
                have h8 := hNd.old b8
                have HN := Lib.hid hNd
                clear hre hNd
                go_wp2_with (first
                  | (go_at_call 30; refine (hsteps _ h8).mono ?_; rintro e w9 ⟨rfl, rfl⟩)
                  | (go_at_call 29; refine (onIn _ _ _ _ h8).mono ?_; rintro e w9 ⟨rfl, rfl⟩; rw [hon]))
                go_roundw
                case rel => exact ⟨k + 1, by omega, by omega, by go_num, _, by go_num, DN, h8, HDN.out, hcaN, below_step hbN (Nat.le_refl _) b8⟩
                case measure => simp [intOf]; omega
          · have hdn' : ¬ (done : Int) < (n : Int) := by omega
            rw [if_neg hdn]
            rw [show nxt n done = done from if_neg hdn] at ha1
            by_cases h3 : k % 3 = 2
            · have h3' : ((k : Int)).tmod 3 = 2 := by rw [show ((k : Int)).tmod 3 = ((k % 3 : Nat) : Int) from rfl, h3]; rfl
              have hfl := flushIn _ _ _ _ hd1 (by have := ha1.steps; have := ha1.le; omega)
              rw [ha1.err] at hfl
              have haF := ha1.flush
              have hcaF := flush_cache D1
              by_cases hdn1 : done < n
              · have hdn1' : (done : Int) < (n : Int) := by omega
                rw [if_pos hdn1] at hfl
                rw [show nxt n (done) = done + 1 from if_pos hdn1] at haF
                go_upto_region 24 with (go_at_call 19; refine hfl.mono ?_; rintro e w7 ⟨rfl, hNd, f7⟩)
                have hbN := hbN0.trans f7.below
                obtain ⟨DN, hDN⟩ : ∃ DN, DN = Dsk.flush D1 := ⟨_, rfl⟩
                rw [← hDN] at hNd haF hcaF
                have hdN := haF
                have hcaN : DN.cache.length ≤ 2 * (k + 1) := by omega
                clear hDN haF hfl hd1 f7 hcaF
                have HDN := Lib.hid hdN
                have hre := readIn _ _ _ 0 _ hNd
                rw [hdN.readE] at hre
                have hsteps := fun u (h : DiskIn w.heap.size p DN u) => stepsIn _ _ _ u h
                rw [hdN.steps] at hsteps
                cases hon : DN.on with
                | true =>
                  rw [hon, if_pos rfl] at hre
                  go_upto_region 25 with (go_at_call 32; refine hre.mono ?_; rintro e w8 ⟨rfl, b8⟩)
                  have h8 := hNd.old b8
                  have HN := Lib.hid hNd
                  clear hre hNd
                  go_wp2_with (first
                    | (go_at_call 30; refine (hsteps _ h8).mono ?_; rintro e w9 ⟨rfl, rfl⟩)
                    | (go_at_call 29; refine (onIn _ _ _ _ h8).mono ?_; rintro e w9 ⟨rfl, rfl⟩; rw [hon]))
                  go_roundw
                  case rel => exact ⟨k + 1, by omega, by omega, by go_num, _, by go_num, DN, h8, HDN.out, hcaN, below_step hbN (Nat.le_refl _) b8⟩
                  case measure => simp [intOf]; omega
                | false =>
                  rw [hon, if_neg Bool.false_ne_true] at hre
                  go_upto_region 25 with (go_at_call 32; refine hre.mono ?_; rintro e w8 ⟨rfl, b8⟩)
                  have h8 := hNd.old b8
                  have HN := Lib.hid hNd
                  clear hre hNd
                  go_wp2_with (first
                    | (go_at_call 30; refine (hsteps _ h8).mono ?_; rintro e w9 ⟨rfl, rfl⟩)
                    | (go_at_call 29; refine (onIn _ _ _ _ h8).mono ?_; rintro e w9 ⟨rfl, rfl⟩; rw [hon]))
                  go_roundw
                  case rel => exact ⟨k + 1, by omega, by omega, by go_num, _, by go_num, DN, h8, HDN.out, hcaN, below_step hbN (Nat.le_refl _) b8⟩
                  case measure => simp [intOf]; omega
              · have hdn1' : ¬ (done : Int) < (n : Int) := by omega
                rw [if_neg hdn1] at hfl
                rw [show nxt n (done) = done from if_neg hdn1] at haF
                go_upto_region 24 with (go_at_call 19; refine hfl.mono ?_; rintro e w7 ⟨rfl, hNd, f7⟩)
                have hbN := hbN0.trans f7.below
                obtain ⟨DN, hDN⟩ : ∃ DN, DN = Dsk.flush D1 := ⟨_, rfl⟩
                rw [← hDN] at hNd haF hcaF
                have hdN := haF
                have hcaN : DN.cache.length ≤ 2 * (k + 1) := by omega
                clear hDN haF hfl hd1 f7 hcaF
                have HDN := Lib.hid hdN
                have hre := readIn _ _ _ 0 _ hNd
                rw [hdN.readE] at hre
                have hsteps := fun u (h : DiskIn w.heap.size p DN u) => stepsIn _ _ _ u h
                rw [hdN.steps] at hsteps
                cases hon : DN.on with
                | true =>
                  rw [hon, if_pos rfl] at hre
                  go_upto_region 25 with (go_at_call 32; refine hre.mono ?_; rintro e w8 ⟨rfl, b8⟩)
                  have h8 := hNd.old b8
                  have HN := Lib.hid hNd
                  clear hre hNd
                  go_wp2_with (first
                    | (go_at_call 30; refine (hsteps _ h8).mono ?_; rintro e w9 ⟨rfl, rfl⟩)
                    | (go_at_call 29; refine (onIn _ _ _ _ h8).mono ?_; rintro e w9 ⟨rfl, rfl⟩; rw [hon]))
                  go_roundw
                  case rel => exact ⟨k + 1, by omega, by omega, by go_num, _, by go_num, DN, h8, HDN.out, hcaN, below_step hbN (Nat.le_refl _) b8⟩
                  case measure => simp [intOf]; omega
                | false =>
                  rw [hon, if_neg Bool.false_ne_true] at hre
                  go_upto_region 25 with (go_at_call 32; refine hre.mono ?_; rintro e w8 ⟨rfl, b8⟩)
                  have h8 := hNd.old b8
                  have HN := Lib.hid hNd
                  clear hre hNd
                  go_wp2_with (first
                    | (go_at_call 30; refine (hsteps _ h8).mono ?_; rintro e w9 ⟨rfl, rfl⟩)
                    | (go_at_call 29; refine (onIn _ _ _ _ h8).mono ?_; rintro e w9 ⟨rfl, rfl⟩; rw [hon]))
                  go_roundw
                  case rel => exact ⟨k + 1, by omega, by omega, by go_num, _, by go_num, DN, h8, HDN.out, hcaN, below_step hbN (Nat.le_refl _) b8⟩
                  case measure => simp [intOf]; omega
            · have h3' : ¬ ((k : Int)).tmod 3 = 2 := by rw [show ((k : Int)).tmod 3 = ((k % 3 : Nat) : Int) from rfl]; omega
              obtain ⟨DN, hDN⟩ : ∃ DN, DN = D1 := ⟨_, rfl⟩
              have hNd := hd1
              have hdN := ha1
              have hbN := hbN0
              rw [← hDN] at hNd hdN hca1
              have hcaN : DN.cache.length ≤ 2 * (k + 1) := by omega
              clear hDN hd1 ha1 hbN0 hca1
              go_upto_region 24 with fail
              have HDN := Lib.hid hdN
              have hre := readIn _ _ _ 0 _ hNd
              rw [hdN.readE] at hre
              have hsteps := fun u (h : DiskIn w.heap.size p DN u) => stepsIn _ _ _ u h
              rw [hdN.steps] at hsteps
              cases hon : DN.on with
              | true =>
                rw [hon, if_pos rfl] at hre
                go_upto_region 25 with (go_at_call 32; refine hre.mono ?_; rintro e w8 ⟨rfl, b8⟩)
                have h8 := hNd.old b8
                have HN := Lib.hid hNd
                clear hre hNd
                go_wp2_with (first
                  | (go_at_call 30; refine (hsteps _ h8).mono ?_; rintro e w9 ⟨rfl, rfl⟩)
                  | (go_at_call 29; refine (onIn _ _ _ _ h8).mono ?_; rintro e w9 ⟨rfl, rfl⟩; rw [hon]))
                go_roundw
                case rel => exact ⟨k + 1, by omega, by omega, by go_num, _, by go_num, DN, h8, HDN.out, hcaN, below_step hbN (Nat.le_refl _) b8⟩
                case measure => simp [intOf]; omega
              | false =>
                rw [hon, if_neg Bool.false_ne_true] at hre
                go_upto_region 25 with (go_at_call 32; refine hre.mono ?_; rintro e w8 ⟨rfl, b8⟩)
                have h8 := hNd.old b8
                have HN := Lib.hid hNd
                clear hre hNd
                go_wp2_with (first
                  | (go_at_call 30; refine (hsteps _ h8).mono ?_; rintro e w9 ⟨rfl, rfl⟩)
                  | (go_at_call 29; refine (onIn _ _ _ _ h8).mono ?_; rintro e w9 ⟨rfl, rfl⟩; rw [hon]))
                go_roundw
                case rel => exact ⟨k + 1, by omega, by omega, by go_num, _, by go_num, DN, h8, HDN.out, hcaN, below_step hbN (Nat.le_refl _) b8⟩
                case measure => simp [intOf]; omega
      · have hend : k = l.length ∨ (k = 60 ∧ (60 : Int) < (l.length : Int)) := by omega
        have hla : Live 4 (Dsk.crash d (odd [])) := ⟨by unfold Dsk.crash; simp only; rw [ha.len]; rfl, rfl, by simp only [Dsk.crash, stK_length]; exact ha.len⟩
        have hls : (Dsk.crash d (odd [])).steps = done := ha.steps
        have hlc : (Dsk.crash d (odd [])).cache = [] := rfl
        have hcr := crashIn _ _ _ _ hd (.slice none 0 0) [] wr.heap.size (Ints.nil _ _) (.inr (.inl (Nat.le_refl _)))
        obtain ⟨DC, hDC⟩ : ∃ DC, DC = Dsk.crash d (odd []) := ⟨_, rfl⟩
        rw [← hDC] at hla hls hlc hcr
        have hle := ha.le
        obtain ⟨X, hX'⟩ : ∃ X, X = withB 120 := ⟨_, rfl⟩
        have hXs : X.size = 256 := by rw [hX']; exact withB_size _
        have hw120 := fun u => with_any 120 u
        simp only [← hX'] at hw120
        rw [show (((120 : UInt8).toNat : Nat) : Int) = 120 from rfl] at hw120
        have hwr := fun u (h : DiskIn w.heap.size p DC u) => writeIn _ _ _ ((0 : Nat) : Int) X u h (by omega) (by rw [hlc]; decide) (by omega)
        rw [hla.writeE (by decide) hXs] at hwr
        have hs2 : (writeD DC ((0 : Nat) : Int) X).steps = done + 1 := by rw [hla.writeD (by decide) hXs]; show DC.steps + 1 = _; rw [hls]
        have hon := hla.on
        obtain ⟨DW, hDW⟩ : ∃ DW, DW = writeD DC ((0 : Nat) : Int) X := ⟨_, rfl⟩
        rw [← hDW] at hs2
        simp only [← hDW] at hwr
        rw [show (((0 : Nat)) : Int) = 0 from rfl] at hwr
        clear hX' hDC hDW hd ha hla hls hlc hXs hops
        rcases hend with rfl | ⟨rfl, hgt⟩
        · go_upto_region 28 with (go_at_call 23; refine hcr.mono ?_; rintro e w5 ⟨rfl, h5, f5⟩)
          clear hcr
          go_wp2_with (first
            | (go_at_call 29; refine (onIn _ _ _ _ h5).mono ?_; rintro e w6 ⟨rfl, rfl⟩; rw [hon])
            | (go_at_call 26; refine (hw120 _).mono ?_; rintro e w7 ⟨rfl, b7⟩; have h7 := h5.old b7)
            | (go_at_call 27; refine (hwr _ h7).mono ?_; rintro e w8 ⟨rfl, h8, f8⟩)
            | (go_at_call 30; refine (stepsIn _ _ _ _ h8).mono ?_; rintro e w9 ⟨rfl, rfl⟩; rw [hs2]))
          go_ret
          exact ⟨rfl, (below_step (hb.trans f5.below) (Nat.le_refl _) b7).trans f8.below⟩
        · go_upto_region 28 with (go_at_call 23; refine hcr.mono ?_; rintro e w5 ⟨rfl, h5, f5⟩)
          clear hcr
          go_wp2_with (first
            | (go_at_call 29; refine (onIn _ _ _ _ h5).mono ?_; rintro e w6 ⟨rfl, rfl⟩; rw [hon])
            | (go_at_call 26; refine (hw120 _).mono ?_; rintro e w7 ⟨rfl, b7⟩; have h7 := h5.old b7)
            | (go_at_call 27; refine (hwr _ h7).mono ?_; rintro e w8 ⟨rfl, h8, f8⟩)
            | (go_at_call 30; refine (stepsIn _ _ _ _ h8).mono ?_; rintro e w9 ⟨rfl, rfl⟩; rw [hs2]))
          go_ret
          exact ⟨rfl, (below_step (hb.trans f5.below) (Nat.le_refl _) b7).trans f8.below⟩

set_option maxRecDepth 100000 in
theorem lifted (os : Os) (started : os.Started) (H : Type) (enc : TypeId × Value → H) :
    ReturnsInHanded {} Try.checked os 6 .any (Rows.sectorArmsSpec.pre6 enc Try.prog Try.f6 Rows.sectorArmsRow.domain false) (Rows.sectorArmsSpec.post enc Try.prog Try.f6 false true false false) := by
  refine returnsInHanded_of_change (C := Try.checked) lawOwn started (by kernel_rfl) Try.func6
    (ChangeSpec.witness6 (enc := enc) (C := Try.checked) false ⟨#[], #[.int .i64 0, .slice none 0 0], []⟩ 8 (by kernel_rfl) (by kernel_rfl) (by kernel_rfl) (by kernel_rfl)) ?_
  intro W base args ds gs before hval0 hW hcnd _
  have hval : ∀ (j : Nat) t v, Try.f6.params[j]? = some t → args[j]? = some v → Value.okWide Try.prog W .any base t v := hval0
  have hW' := hW
  obtain ⟨p, q, hA0, hV, rfl, hfz, hnd⟩ := hW
  have hA : DataW.TrodAll enc Try.prog W 0 (fun _ => true) true Try.f6.params.toList args.toList ds p := hA0
  rw [Try.params6] at hA hval
  obtain ⟨v0, vs0, d0, ds0, p0, q0, hargs, rfl, rfl, h0, r0⟩ := trodAll_cons hA
  obtain ⟨v1, vs1, d1, ds1, p1, q1, rfl, rfl, rfl, h1, r1⟩ := trodAll_cons r0
  obtain ⟨rfl, rfl, rfl⟩ := trodAll_nil r1
  obtain rfl : args = #[v0, v1] := by cases args; simp_all
  obtain ⟨rfl, rfl⟩ := trodVars_none hV
  obtain ⟨a0, rfl, rfl, rfl, w0⟩ := open_int Try.underlying3 (hval 0 3 v0 rfl rfl) h0
  obtain ⟨a1, len1, cap1, rfl⟩ := okWide_slice Try.underlying30 (hval 1 30 v1 rfl rfl)
  obtain ⟨l1, w1⟩ := ops_of h1
  clear hA0 hval0 hcnd
  obtain ⟨l0, m0⟩ := i64_bounds w0
  refine (walk (w := W) a0 l0 m0 _ l1 w1).mono fun e W' ⟨he, bel⟩ => ?_
  subst he
  exact ⟨_, rfl, law_post rfl rfl (by kernel_rfl) hW' rfl bel⟩

theorem holds : Rows.SectorArmsSaid :=
  OpenClaim.holds_of_wide 6 Try.f6 rfl rfl rfl rfl rfl rfl rfl ⟨rfl, rfl, rfl, rfl, rfl⟩ rfl rfl rfl rfl rfl (by kernel_rfl) Try.func6 (by kernel_rfl)
    (of_decide_eq_true (by kernel_rfl)) (by unfold Func.isWrapper; first | (rw [if_pos (by decide +kernel)]; kernel_rfl) | (rw [if_neg (by decide +kernel)]; exact ⟨rfl, rfl⟩))
    (fun os started H enc _ => lifted os started H enc)
end Go.Proofs.Ytnieebkkpmdgmaa.sectorArms

theorem Go.Proofs.Ytnieebkkpmdgmaa.sectorArms_holds : Go.Proofs.Ytnieebkkpmdgmaa.Rows.SectorArmsSaid := Go.Proofs.Ytnieebkkpmdgmaa.sectorArms.holds
#print axioms Go.Proofs.Ytnieebkkpmdgmaa.sectorArms_holds
