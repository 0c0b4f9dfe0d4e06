/-
  SectorPlays: sectors are read, written and flushed, power goes, and crashes leave some, call by call, as the document's own disk has it. For every number of sectors and every script (of a longer one the first 80 calls), no condition.
-/
import Derived.Test.YtkoojbbimjjndaaSecAwake
import Derived.Test.YtkoojbbimjjndaaRefPair
import Derived.Test.YtkoojbbimjjndaaGenLaw
import Derived.Test.YtkoojbbimjjndaaRegEff
import Derived.Deep.DeepCutAuto
namespace Go.Proofs.Ytkoojbbimjjndaa.sectorPlays
open Go.ChangeShapes Go.WideShapes Go.ChangeAt Go.RowKit Dsk

theorem rop_nil {ops : Array Oper} {Q : Exit → Act → World → Prop} {a : Act} {w : World} {K : Act → World → Prop} {o : Oper} (x : Operand) (hop : o.op = .nilCheck x) {b : Addr} (hx : a.eval x = .pointer (some b)) (hw : Region.wanted o (yielded ops a.tmps) = true) (h : K (a.put o.dst (.pointer (some b))) w) :
    if Region.wanted o (yielded ops a.tmps) = true then Oper.wp Try.prog o a w K Q else K (a.put o.dst undef) w :=
  rop_v hw (by simp [execOp, hop, hx]) h
theorem rop_len_sl {ops : Array Oper} {Q : Exit → Act → World → Prop} {a : Act} {w : World} {K : Act → World → Prop} {o : Oper} (x : Operand) (hop : o.op = .call { callee := .builtin .len, args := #[x], argTypes := #[47] }) {va : Option Addr} {n cap : Nat} (hx : a.eval x = .slice va n cap) (hw : Region.wanted o (yielded ops a.tmps) = true) (h : K (a.put o.dst (.int .i64 n)) w) :
    if Region.wanted o (yielded ops a.tmps) = true then Oper.wp Try.prog o a w K Q else K (a.put o.dst undef) w :=
  rop_v hw (by simp [execOp, hop, resolve, invoke, builtin, hx, Builtin.len_, run_underlying Try.underlying47, goInt]) h
theorem same_below {f : FuncId} {args : Array Value} {w : World} {x : Ending} (h : Calls Try.prog f args w fun e w' => e = x ∧ w = w') : Calls Try.prog f args w fun e w' => e = x ∧ Below w.heap.size w w' :=
  h.mono fun _ _ ⟨h1, h2⟩ => ⟨h1, h2 ▸ Below.refl _ _⟩
theorem fldR (q : Nat) (w : World) : (Instr.fieldAt 49 (.pointer (some ⟨q, 0, none⟩)) 2).run Try.prog w = .ok (.pointer (some ⟨q, 2, none⟩)) w ∧ (Instr.fieldAt 49 (.pointer (some ⟨q, 0, none⟩)) 4).run Try.prog w = .ok (.pointer (some ⟨q, 4, none⟩)) w ∧ (Instr.fieldAt 49 (.pointer (some ⟨q, 0, none⟩)) 1).run Try.prog w = .ok (.pointer (some ⟨q, 1, none⟩)) w := by
  refine ⟨?_, ?_, ?_⟩ <;> go_simp
theorem load_bool {b o : Nat} {x : Bool} {w : World} (h0 : w.cell? ⟨b, o, none⟩ = some (.bool x)) : (Instr.loadAt 4 (.pointer (some ⟨b, o, none⟩))).run Try.prog w = .ok (.bool x) w := by
  go_simp
theorem load_int {b o : Nat} {x : Int} {w : World} (h0 : w.cell? ⟨b, o, none⟩ = some (.int .i64 x)) : (Instr.loadAt 3 (.pointer (some ⟨b, o, none⟩))).run Try.prog w = .ok (.int .i64 x) w := by
  go_simp
theorem load_puts {b o n c : Nat} {a : Option Addr} {w : World} (h0 : w.cell? ⟨b, o, none⟩ = some (.slice a n c)) : (Instr.loadAt 47 (.pointer (some ⟨b, o, none⟩))).run Try.prog w = .ok (.slice a n c) w := by
  go_simp
theorem eql_not (x : Bool) (w : World) : (binOp .eql 4 (.bool x) (.bool (!x))).run Try.prog w = .ok (.bool false) w := by
  cases x <;> go_simp
theorem neq_i (a b : Int) (p : Bool) (h : decide (a ≠ b) = p) (w : World) : (binOp .neq 3 (.int .i64 a) (.int .i64 b)).run Try.prog w = .ok (.bool p) w := by
  subst h
  by_cases e : a = b
  · subst e; go_simp
  · have : (a == b) = false := by simpa using e
    go_simp
theorem eql_e (a : Int) (w : World) : (binOp .eql 24 (.int .i64 a) (.int .i64 a)).run Try.prog w = .ok (.bool true) w := by
  go_simp
theorem fldO (t : Nat) (w : World) : (Instr.fieldAt 38 (.pointer (some ⟨t, 0, none⟩)) 1).run Try.prog w = .ok (.pointer (some ⟨t, 1, none⟩)) w := by
  go_simp
theorem Agree.eqs {d : Dk} {r : Rk} (h : Agree d r) : r.L = d.lies ∧ r.cache = d.cache ∧ r.dark = !d.on ∧ r.steps = d.steps := by
  obtain ⟨lf, rfl⟩ := h
  exact ⟨rfl, rfl, rfl, rfl⟩
set_option maxHeartbeats 12800000 in
set_option maxRecDepth 100000 in
theorem walk {w : World} (st : Int) (_ : -9223372036854775808 ≤ st) (_ : st ≤ 9223372036854775807) (v : Value) (l : List OpR) (hl : Ops w v l) :
    Calls Try.prog 4 #[.int .i64 st, v] w fun e w' => e = .returned (.bool true) ∧ Below w.heap.size w w' := by
  obtain ⟨av, cap, rfl, hll, hops⟩ := hl
  obtain ⟨m, hm, hm8⟩ := mod_nat st 8 (by decide)
  rw [show ((8 : Nat) : Int) = 8 from rfl] at hm
  have hm2 := (and7 st).trans hm
  obtain ⟨n, hn⟩ : ∃ n, n = m + 1 := ⟨_, rfl⟩
  have hn1 : (1 : Int) + (m : Int) = (n : Int) := by omega
  have hn8 : n ≤ 8 := by omega
  have hnp : 1 ≤ n := by omega
  clear hn hm hm8
  go_enter Try.func4, Try.ntmps4
  go_upto_region 3 with (go_at_call 10; refine (awake_any _).mono ?_; rintro e w1 ⟨rfl, b1⟩)
  clear hm2 hn1
  have hnew := newIn n w1 w.heap.size hnp (by omega) b1.size
  go_upto_region 4 with (go_at_call 16; refine hnew.mono ?_; rintro e w2 ⟨p, rfl, h2, b2⟩)
  have s2 := below_step b1 (Nat.le_refl _) b2
  clear hnew b1 b2
  have hrn := newP n hnp (by omega) h2
  go_upto_region 5 with (go_at_call 17; refine hrn.mono ?_; rintro e w3 ⟨q, rfl, h3, b3⟩)
  have s3 := below_step s2 (Nat.le_refl _) b3
  clear hrn h2 b3 s2
  have hse := sectorsIn _ _ _ _ h3.disk
  rw [show (Dsk.new n).lies.length = n by simp [Dsk.new]] at hse
  go_upto_region 8 with (go_at_call 18; refine hse.mono ?_; rintro e w4 ⟨rfl, rfl⟩)
  clear hse
  go_loopw [9] (fun i wr => ∃ k : Nat, k ≤ l.length ∧ k ≤ 80 ∧ i = .int .i64 k ∧ ∃ d r, Pair w.heap.size p q d r wr ∧ Agree d r ∧ Few n k d ∧ Below w.heap.size w wr) (fun i _ => 80 - (intOf i).toNat)
  case atStart => exact ⟨0, by omega, by omega, rfl, _, _, h3, agree_new n, few_new n, s3⟩
  case round =>
    clear h3 s3
    obtain ⟨k, hk, hk80, rfl, d, r, hd, ha, hf, hb⟩ := hrel
    by_cases hlt : k < l.length ∧ k < 80
    · obtain ⟨hlt, h80⟩ := hlt
      have h80' : (k : Int) < 80 := by omega
      obtain ⟨b, off, rfl, hbB, hok, hcs⟩ := hops k hlt
      obtain ⟨o, ho⟩ : ∃ o, o = l[k] := ⟨_, rfl⟩
      rw [← ho] at hok hcs
      obtain ⟨ki, z, nn, by_, sh, pv, ps, pb⟩ := o
      obtain ⟨⟨ki1, ki2⟩, ⟨z1, z2⟩, ⟨nn1, nn2⟩, hps, hpb⟩ := hok
      simp only at ki1 ki2 z1 z2 nn1 nn2 hps hpb
      have hps' := hps
      obtain ⟨pa, pcap, rfl, hpl, hpc⟩ := hps'
      clear hpc ho
      obtain ⟨y, hy⟩ : ∃ y : Int, y = (by_.toNat : Int) := ⟨_, rfl⟩
      have e0 : wr.cell? ⟨b, off + k * 6, none⟩ = some (.int .i64 ki) := (cell_below hb hbB).trans (hcs 0 _ rfl)
      have e1 : wr.cell? ⟨b, off + k * 6 + 1, none⟩ = some (.int .i64 z) := (cell_below hb hbB).trans (by rw [Nat.add_assoc]; exact hcs 1 _ rfl)
      have e2 : wr.cell? ⟨b, off + k * 6 + 2, none⟩ = some (.int .i64 nn) := (cell_below hb hbB).trans (by rw [Nat.add_assoc]; exact hcs 2 _ rfl)
      have e3 : wr.cell? ⟨b, off + k * 6 + 3, none⟩ = some (.int .u8 y) := (cell_below hb hbB).trans (by rw [Nat.add_assoc, hy]; exact hcs 3 _ rfl)
      have e4 : wr.cell? ⟨b, off + k * 6 + 4, none⟩ = some (.bool sh) := (cell_below hb hbB).trans (by rw [Nat.add_assoc]; exact hcs 4 _ rfl)
      have e5 : wr.cell? ⟨b, off + k * 6 + 5, none⟩ = some (.slice pa ps.length pcap) := (cell_below hb hbB).trans (by rw [Nat.add_assoc]; exact hcs 5 _ rfl)
      have HYY := Lib.hid hy
      clear hcs hops hy
      go_upto_region 11 with fail
      obtain ⟨T10, hT10⟩ : ∃ T10, T10 = wr.heap.size := ⟨_, rfl⟩
      obtain ⟨w5, hw5⟩ : ∃ w5, w5 = wr.alloc (.cells #[.int .i64 ki, .int .i64 z, .int .i64 nn, .int .u8 y, .bool sh, .slice pa ps.length pcap] 38) := ⟨_, rfl⟩
      have b5 : Below wr.heap.size wr w5 := by rw [hw5]; exact (Below.refl _ _).alloc (Nat.le_refl _) _
      have o5 : w5.heap[T10]? = some (.cells #[.int .i64 ki, .int .i64 z, .int .i64 nn, .int .u8 y, .bool sh, .slice pa ps.length pcap] 38 (0, 0)) := by rw [hw5, hT10]; exact heap_alloc_last wr _
      change Code.wp _ _ _ _ (wr.alloc (.cells #[.int .i64 ki, .int .i64 z, .int .i64 nn, .int .u8 y, .bool sh, .slice pa ps.length pcap] 38))
      rw [← hw5, ← hT10]
      have d5 := hd.old b5
      have s5 := below_step hb (Nat.le_refl _) b5
      have hT : w.heap.size ≤ T10 := by rw [hT10]; exact hb.size
      clear hw5 hT10 b5 hd hb e0 e1 e2 e3 e4 e5
      have g0 := cell_of o5 0
      obtain ⟨kk, hkk⟩ : ∃ kk, ki.tmod 10 = kk := ⟨_, rfl⟩
      have hk1 : -10 < kk := by rw [← hkk]; have := Int.lt_tmod_of_pos ki (show (0 : Int) < 10 by decide); omega
      go_upto_if 54 with fail
      clear hkk
      go_cut [11] (fun s11 wx => w5 = wx ∧ ∃ kv : Int, s11 = .int .i64 kv)
      case first =>
        by_cases hneg : kk < 0
        · go_wp2
          go_meet
          case rel => exact ⟨rfl, _, rfl⟩
        · go_wp2
          go_meet
          case rel => exact ⟨rfl, _, rfl⟩
      case rest =>
        obtain ⟨rfl, kv, rfl⟩ := hcut
        clear hk1 g0
        have hst : d.steps < 1000000 := by have := hf.steps; omega
        have hca : d.cache.length < 1000000 := by have := hf.cache; omega
        have hrst : r.steps < 1000000 := by obtain ⟨lf, rfl⟩ := ha; exact hst
        have hrca : r.cache.length < 1000000 := by obtain ⟨lf, rfl⟩ := ha; exact hca
        have hlen : 0 < d.lies.length := by rw [hf.len]; omega
        have HA := Lib.hid ha
        have HF := Lib.hid hf
        go_upto_block 2 with fail
        go_cut [12] (fun s12 wx => s12 = .bool true ∧ ∃ d' r', Pair w.heap.size p q d' r' wx ∧ Agree d' r' ∧ Few n (k + 1) d' ∧ Below w.heap.size w wx)
        case first =>
          by_cases h56 : kv = 5 ∨ kv = 6
          · obtain ⟨E1, hE1⟩ : ∃ E1, E1 = err d := ⟨_, rfl⟩
            have hfl := flushP d5 hst
            have hrf := fun u (h : Pair w.heap.size p q (Dsk.flush d) r u) => rflushP h hrst
            rw [← hE1] at hfl
            simp only [(agree_flush ha).2, ← hE1] at hrf
            clear hE1 ha hf
            rcases h56 with rfl | rfl
            · go_wp2_with (first
                | (go_at_call 19; refine hfl.mono ?_; rintro e w6 ⟨rfl, d6, b6⟩)
                | (go_at_call 20; refine (hrf _ d6).mono ?_; rintro e w7 ⟨rfl, d7, b7⟩))
              go_meet
              case rel => exact ⟨rfl, _, _, d7, (agree_flush HA.out).1, HF.out.flush, (s5.trans b6.below).trans b7.below⟩
            · go_wp2_with (first
                | (go_at_call 19; refine hfl.mono ?_; rintro e w6 ⟨rfl, d6, b6⟩)
                | (go_at_call 20; refine (hrf _ d6).mono ?_; rintro e w7 ⟨rfl, d7, b7⟩))
              go_meet
              case rel => exact ⟨rfl, _, _, d7, (agree_flush HA.out).1, HF.out.flush, (s5.trans b6.below).trans b7.below⟩
          · have n5 : ¬ kv = 5 := fun e => h56 (.inl e)
            have n6 : ¬ kv = 6 := fun e => h56 (.inr e)
            clear h56 ha hf
            by_cases h7 : kv = 7
            · subst h7
              clear n5 n6
              have har := armP nn d5 nn2
              have hra := fun u (h : Pair w.heap.size p q (Dsk.arm d nn.toNat) r u) => rarmP nn h nn2
              have g2 := cell_of o5 2
              go_upto_region 25 with (go_at_call 21; refine har.mono ?_; rintro e w6 ⟨rfl, d6, b6⟩)
              have o6 := b6.other _ _ _ _ o5 (by decide) (by decide) (by decide) (by decide)
              have g6 := cell_of o6 2
              go_wp2_with (go_at_call 22; refine (hra _ d6).mono ?_; rintro e w7 ⟨rfl, d7, b7⟩)
              go_meet
              case rel => exact ⟨rfl, _, _, d7, agree_arm HA.out nn, HF.out.arm _, (s5.trans b6.below).trans b7.below⟩
            · by_cases h89 : kv = 8 ∨ kv = 9
              · obtain ⟨P, hP⟩ : ∃ P, P = ps.take 20 := ⟨_, rfl⟩
                have hI : ∀ u, Below w.heap.size w u → Ints u (.slice pa P.length pcap) P pb := fun u hu => by
                  have h1 := hps.take 20
                  rw [← hP] at h1
                  exact h1.kept fun hlt => ⟨Nat.lt_of_lt_of_le hlt hu.size, hu.block pb hpb⟩
                have hpk := fun u => picks_any (.int .i64 ki) (.int .i64 z) (.int .i64 nn) (.int .u8 y) (.bool sh) pa pcap ps P u hP hpl
                have hcr := fun u (h : Pair w.heap.size p q d r u) (hu : Below w.heap.size w u) => crashP h _ P pb (hI u hu) hpb
                have hrc := fun u (h : Pair w.heap.size p q (Dsk.crash d (odd P)) r u) (hu : Below w.heap.size w u) => rcrashP h _ P pb (hI u hu) hpb
                obtain ⟨PL, hPL⟩ : ∃ PL, PL = P.length := ⟨_, rfl⟩
                rw [← hPL] at hpk hcr hrc
                have g0 := cell_of o5 0
                have g1 := cell_of o5 1
                have g2 := cell_of o5 2
                have g3 := cell_of o5 3
                have g4 := cell_of o5 4
                have g5 := cell_of o5 5
                clear hP hI hPL
                rcases h89 with rfl | rfl
                · go_upto_region 29 with (first
                    | (go_at_call 24; refine (hpk _).mono ?_; rintro e w6 ⟨rfl, b6⟩)
                    | (go_at_call 23; refine (hcr _ (d5.old b6) (below_step s5 (Nat.le_refl _) b6)).mono ?_; rintro e w7 ⟨rfl, d7, b7⟩))
                  have o6 := (b6.block T10 (Array.getElem?_eq_some_iff.1 o5).1).trans o5
                  have o7 := b7.other _ _ _ _ o6 (by decide) (by decide) (by decide) (by decide)
                  have s7 := (below_step s5 (Nat.le_refl _) b6).trans b7.below
                  clear g0 g1 g2 g3 g4 g5
                  have g0 := cell_of o7 0
                  have g1 := cell_of o7 1
                  have g2 := cell_of o7 2
                  have g3 := cell_of o7 3
                  have g4 := cell_of o7 4
                  have g5 := cell_of o7 5
                  go_wp2_with (first
                    | (go_at_call 24; refine (hpk _).mono ?_; rintro e w8 ⟨rfl, b8⟩)
                    | (go_at_call 25; refine (hrc _ (d7.old b8) (below_step s7 (Nat.le_refl _) b8)).mono ?_; rintro e w9 ⟨rfl, d9, b9⟩))
                  go_meet
                  case rel => exact ⟨rfl, _, _, d9, agree_crash HA.out P hlen, HF.out.crash _, (below_step s7 (Nat.le_refl _) b8).trans b9.below⟩
                · go_upto_region 29 with (first
                    | (go_at_call 24; refine (hpk _).mono ?_; rintro e w6 ⟨rfl, b6⟩)
                    | (go_at_call 23; refine (hcr _ (d5.old b6) (below_step s5 (Nat.le_refl _) b6)).mono ?_; rintro e w7 ⟨rfl, d7, b7⟩))
                  have o6 := (b6.block T10 (Array.getElem?_eq_some_iff.1 o5).1).trans o5
                  have o7 := b7.other _ _ _ _ o6 (by decide) (by decide) (by decide) (by decide)
                  have s7 := (below_step s5 (Nat.le_refl _) b6).trans b7.below
                  clear g0 g1 g2 g3 g4 g5
                  have g0 := cell_of o7 0
                  have g1 := cell_of o7 1
                  have g2 := cell_of o7 2
                  have g3 := cell_of o7 3
                  have g4 := cell_of o7 4
                  have g5 := cell_of o7 5
                  go_wp2_with (first
                    | (go_at_call 24; refine (hpk _).mono ?_; rintro e w8 ⟨rfl, b8⟩)
                    | (go_at_call 25; refine (hrc _ (d7.old b8) (below_step s7 (Nat.le_refl _) b8)).mono ?_; rintro e w9 ⟨rfl, d9, b9⟩))
                  go_meet
                  case rel => exact ⟨rfl, _, _, d9, agree_crash HA.out P hlen, HF.out.crash _, (below_step s7 (Nat.le_refl _) b8).trans b9.below⟩
              · have n8 : ¬ kv = 8 := fun e => h89 (.inl e)
                have n9 : ¬ kv = 9 := fun e => h89 (.inr e)
                clear h89
                have g3 := cell_of o5 3
                have g4 := cell_of o5 4
                obtain ⟨X, hX⟩ : ∃ X, X = withB by_ := ⟨_, rfl⟩
                have hXs : X.size = 256 := by rw [hX]; exact withB_size _
                have hwith := fun u => with_any by_ u
                rw [← hX, ← HYY.out] at hwith
                clear hX
                go_upto_if 62 with (go_at_call 26; refine (hwith _).mono ?_; rintro e w6 ⟨rfl, b6⟩; have o6 := (b6.block T10 (Array.getElem?_eq_some_iff.1 o5).1).trans o5; have g4' := cell_of o6 4)
                have s6 := below_step s5 (Nat.le_refl _) b6
                have d6 := d5.old b6
                clear b6 g3 g4 o5 d5 s5
                go_cut [13] (fun s13 wx => w6 = wx ∧ ∃ Y : ByteArray, s13 = .string Y ∧ Y.size ≤ 9223372036854775807)
                case first =>
                  cases sh with
                  | true =>
                    have hX2 : (255 : Int) ≤ (X.size : Int) := by omega
                    go_wp2
                    go_meet
                    case rel => exact ⟨rfl, _, rfl, by rw [ByteArray.size_extract]; omega⟩
                  | false =>
                    go_wp2
                    go_meet
                    case rel => exact ⟨rfl, _, rfl, by omega⟩
                case rest =>
                  obtain ⟨rfl, Y, rfl, hYs⟩ := hcut
                  clear hXs hwith g4'
                  have hag := agree_write HA.out z Y
                  have hfw := HF.out.write z Y
                  have hwr := fun u (h : Pair w.heap.size p q d r u) => writeP z Y h hst hca hYs
                  have hrw := fun u (h : Pair w.heap.size p q (writeD d z Y) r u) => rwriteP z Y h hrst hrca hYs
                  rw [hag.2] at hrw
                  obtain ⟨E1, hE1⟩ : ∃ E1, E1 = writeE d z Y := ⟨_, rfl⟩
                  obtain ⟨D1, hD1⟩ : ∃ D1, D1 = writeD d z Y := ⟨_, rfl⟩
                  obtain ⟨R1, hR1⟩ : ∃ R1, R1 = rwriteR r z Y := ⟨_, rfl⟩
                  rw [← hE1, ← hD1] at hwr
                  rw [← hE1, ← hD1, ← hR1] at hrw
                  have hag1 := hag.1
                  rw [← hD1, ← hR1] at hag1
                  rw [← hD1] at hfw
                  clear hag hE1 hD1 hR1
                  obtain ⟨OC, hOC⟩ : ∃ OC : Array Value, OC = #[.int .i64 ki, .int .i64 z, .int .i64 nn, .int .u8 y, .bool sh, .slice pa ps.length pcap] := ⟨_, rfl⟩
                  have hOz : OC[1]? = some (.int .i64 z) := by rw [hOC]; rfl
                  rw [← hOC] at o6
                  have HOC := Lib.hid hOC
                  clear hOC
                  go_wp2
                  try simp only [Act.put]
                  refine wp_region_eff (Lx := fun _ _ => True) [RX.is (.pointer (some ⟨p, 0, none⟩)), RX.is (.pointer (some ⟨T10, 1, none⟩)), RX.is (.int .i64 z), RX.is (.string Y), RX.is (.int .i64 E1), RX.is (.pointer (some ⟨q, 0, none⟩)), RX.is (.pointer (some ⟨T10, 1, none⟩)), RX.is (.int .i64 z), RX.is (.string Y), RX.is (.int .i64 E1), RX.is (.bool true), RX.is (.bool true)] [4, 9] (fun k u => (Below w.heap.size w u ∧ u.heap[T10]? = some (.cells OC 38 (0, 0))) ∧ Pair w.heap.size p q (if k = 0 then d else D1) (if k ≤ 1 then r else R1) u) (by kernel_rfl) (by kernel_rfl) (by kernel_rfl) (by kernel_rfl) (by kernel_rfl) (⟨⟨below_drew s6, o6⟩, d6.old (below_drew (Below.refl _ _))⟩) ⟨?_, ?_, ?_, ?_, ?_, ?_, ?_, ?_, ?_, ?_, ?_, ?_, trivial⟩ ?_
                  · intro ac w' ph hF hPh hlt hP hU K hK0
                    have hK := fun v w2 (hl : Le8 w' w2) ht => hK0 v w2 (trivial) (⟨⟨below_step hPh.1.1 (Nat.le_refl _) hl, (hl.block T10 (Array.getElem?_eq_some_iff.1 hPh.1.2).1).trans hPh.1.2⟩, hPh.2.old hl⟩) ht
                    have e7 : ac.eval (.tmp 7) = .pointer (some ⟨p, 0, none⟩) := hF.at 7 (by kernel_rfl)
                    exact rop_move _ rfl e7 (wanted_none rfl) (hK _ _ (le8_refl _) rfl)
                  · intro ac w' ph hF hPh hlt hP hU K hK0
                    have hK := fun v w2 (hl : Le8 w' w2) ht => hK0 v w2 (trivial) (⟨⟨below_step hPh.1.1 (Nat.le_refl _) hl, (hl.block T10 (Array.getElem?_eq_some_iff.1 hPh.1.2).1).trans hPh.1.2⟩, hPh.2.old hl⟩) ht
                    have e10 : ac.eval (.tmp 10) = .pointer (some ⟨T10, 0, none⟩) := hF.at 10 (by kernel_rfl)
                    exact rop_fld _ _ _ rfl e10 (fldO _ _) (wanted_none rfl) (hK _ _ (le8_refl _) rfl)
                  · intro ac w' ph hF hPh hlt hP hU K hK0
                    have hK := fun v w2 (hl : Le8 w' w2) ht => hK0 v w2 (trivial) (⟨⟨below_step hPh.1.1 (Nat.le_refl _) hl, (hl.block T10 (Array.getElem?_eq_some_iff.1 hPh.1.2).1).trans hPh.1.2⟩, hPh.2.old hl⟩) ht
                    have e66 : ac.eval (.tmp 66) = .pointer (some ⟨T10, 1, none⟩) := hP 1 (by kernel_rfl)
                    exact rop_ld _ _ rfl e66 (load_int ((cell_of hPh.1.2 1).trans hOz)) (wanted_none rfl) (hK _ _ (le8_refl _) rfl)
                  · intro ac w' ph hF hPh hlt hP hU K hK0
                    have hK := fun v w2 (hl : Le8 w' w2) ht => hK0 v w2 (trivial) (⟨⟨below_step hPh.1.1 (Nat.le_refl _) hl, (hl.block T10 (Array.getElem?_eq_some_iff.1 hPh.1.2).1).trans hPh.1.2⟩, hPh.2.old hl⟩) ht
                    have e13 : ac.eval (.tmp 13) = .string Y := hF.at 13 (by kernel_rfl)
                    exact rop_move _ rfl e13 (wanted_none rfl) (hK _ _ (le8_refl _) rfl)
                  · intro ac w' ph hF hPh hlt hP hU K hK0
                    obtain rfl : ph = 0 := (hlt 0 4 rfl).1 rfl
                    have e65 : ac.eval (.tmp 65) = .pointer (some ⟨p, 0, none⟩) := hP 0 (by kernel_rfl)
                    have e67 : ac.eval (.tmp 67) = .int .i64 z := hP 2 (by kernel_rfl)
                    have e68 : ac.eval (.tmp 68) = .string Y := hP 3 (by kernel_rfl)
                    have hd0 : Pair w.heap.size p q d r w' := hPh.2
                    refine rop_call 27 _ _ rfl #[.pointer (some ⟨p, 0, none⟩), .int .i64 z, .string Y] (by simp [e65, e67, e68]) (by kernel_rfl) (wanted_none rfl) ?_
                    refine (hwr _ hd0).mono ?_
                    rintro e w2 ⟨rfl, h5, f5⟩
                    exact ⟨_, rfl, hK0 _ _ trivial ⟨⟨hPh.1.1.trans f5.below, f5.other _ _ _ _ hPh.1.2 (by decide) (by decide) (by decide) (by decide)⟩, h5⟩ rfl⟩
                  · intro ac w' ph hF hPh hlt hP hU K hK0
                    have hK := fun v w2 (hl : Le8 w' w2) ht => hK0 v w2 (trivial) (⟨⟨below_step hPh.1.1 (Nat.le_refl _) hl, (hl.block T10 (Array.getElem?_eq_some_iff.1 hPh.1.2).1).trans hPh.1.2⟩, hPh.2.old hl⟩) ht
                    have e8 : ac.eval (.tmp 8) = .pointer (some ⟨q, 0, none⟩) := hF.at 8 (by kernel_rfl)
                    exact rop_move _ rfl e8 (wanted_none rfl) (hK _ _ (le8_refl _) rfl)
                  · intro ac w' ph hF hPh hlt hP hU K hK0
                    have hK := fun v w2 (hl : Le8 w' w2) ht => hK0 v w2 (trivial) (⟨⟨below_step hPh.1.1 (Nat.le_refl _) hl, (hl.block T10 (Array.getElem?_eq_some_iff.1 hPh.1.2).1).trans hPh.1.2⟩, hPh.2.old hl⟩) ht
                    have e10 : ac.eval (.tmp 10) = .pointer (some ⟨T10, 0, none⟩) := hF.at 10 (by kernel_rfl)
                    exact rop_fld _ _ _ rfl e10 (fldO _ _) (wanted_none rfl) (hK _ _ (le8_refl _) rfl)
                  · intro ac w' ph hF hPh hlt hP hU K hK0
                    have hK := fun v w2 (hl : Le8 w' w2) ht => hK0 v w2 (trivial) (⟨⟨below_step hPh.1.1 (Nat.le_refl _) hl, (hl.block T10 (Array.getElem?_eq_some_iff.1 hPh.1.2).1).trans hPh.1.2⟩, hPh.2.old hl⟩) ht
                    have e71 : ac.eval (.tmp 71) = .pointer (some ⟨T10, 1, none⟩) := hP 6 (by kernel_rfl)
                    exact rop_ld _ _ rfl e71 (load_int ((cell_of hPh.1.2 1).trans hOz)) (wanted_none rfl) (hK _ _ (le8_refl _) rfl)
                  · intro ac w' ph hF hPh hlt hP hU K hK0
                    have hK := fun v w2 (hl : Le8 w' w2) ht => hK0 v w2 (trivial) (⟨⟨below_step hPh.1.1 (Nat.le_refl _) hl, (hl.block T10 (Array.getElem?_eq_some_iff.1 hPh.1.2).1).trans hPh.1.2⟩, hPh.2.old hl⟩) ht
                    have e13 : ac.eval (.tmp 13) = .string Y := hF.at 13 (by kernel_rfl)
                    exact rop_move _ rfl e13 (wanted_none rfl) (hK _ _ (le8_refl _) rfl)
                  · intro ac w' ph hF hPh hlt hP hU K hK0
                    obtain rfl : ph = 1 := (hlt 1 9 rfl).1 rfl
                    have e70 : ac.eval (.tmp 70) = .pointer (some ⟨q, 0, none⟩) := hP 5 (by kernel_rfl)
                    have e72 : ac.eval (.tmp 72) = .int .i64 z := hP 7 (by kernel_rfl)
                    have e73 : ac.eval (.tmp 73) = .string Y := hP 8 (by kernel_rfl)
                    have hd0 : Pair w.heap.size p q D1 r w' := hPh.2
                    refine rop_call 28 _ _ rfl #[.pointer (some ⟨q, 0, none⟩), .int .i64 z, .string Y] (by simp [e70, e72, e73]) (by kernel_rfl) (wanted_none rfl) ?_
                    refine (hrw _ hd0).mono ?_
                    rintro e w2 ⟨rfl, h5, f5⟩
                    exact ⟨_, rfl, hK0 _ _ trivial ⟨⟨hPh.1.1.trans f5.below, f5.other _ _ _ _ hPh.1.2 (by decide) (by decide) (by decide) (by decide)⟩, h5⟩ rfl⟩
                  · intro ac w' ph hF hPh hlt hP hU K hK0
                    have hK := fun v w2 (hl : Le8 w' w2) ht => hK0 v w2 (trivial) (⟨⟨below_step hPh.1.1 (Nat.le_refl _) hl, (hl.block T10 (Array.getElem?_eq_some_iff.1 hPh.1.2).1).trans hPh.1.2⟩, hPh.2.old hl⟩) ht
                    have e69 : ac.eval (.tmp 69) = .int .i64 E1 := hP 4 (by kernel_rfl)
                    have e74 : ac.eval (.tmp 74) = .int .i64 E1 := hP 9 (by kernel_rfl)
                    exact rop_bin _ _ _ _ _ rfl e69 e74 (guard_int _ _ _ _ _ _ _ _) (eql_e _ _) (wanted_none rfl) (hK _ _ (le8_refl _) rfl)
                  · intro ac w' ph hF hPh hlt hP hU K hK0
                    have hK := fun v w2 (hl : Le8 w' w2) ht => hK0 v w2 (trivial) (⟨⟨below_step hPh.1.1 (Nat.le_refl _) hl, (hl.block T10 (Array.getElem?_eq_some_iff.1 hPh.1.2).1).trans hPh.1.2⟩, hPh.2.old hl⟩) ht
                    have e75 : ac.eval (.tmp 75) = .bool true := hP 10 (by kernel_rfl)
                    exact rop_assign _ rfl e75 (wanted_none rfl) (hK _ _ (le8_refl _) rfl)
                  · intro ac w' hF hPh hT
                    have e12 : ac.eval (.tmp 12) = .bool true := hT 11 (by decide)
                    rw [hF.lit 182 rfl]
                    simp only [List.range, List.range.loop, List.map_cons, List.map_nil, e12, hF.at 0 (by kernel_rfl), hF.at 1 (by kernel_rfl), hF.at 2 (by kernel_rfl), hF.at 3 (by kernel_rfl), hF.at 4 (by kernel_rfl), hF.at 5 (by kernel_rfl), hF.at 6 (by kernel_rfl), hF.at 7 (by kernel_rfl), hF.at 8 (by kernel_rfl), hF.at 9 (by kernel_rfl), hF.at 10 (by kernel_rfl), hF.at 11 (by kernel_rfl), hF.at 13 (by kernel_rfl), hF.at 14 (by kernel_rfl), hF.at 15 (by kernel_rfl), hF.at 16 (by kernel_rfl), hF.at 17 (by kernel_rfl), hF.at 18 (by kernel_rfl), hF.at 19 (by kernel_rfl), hF.at 20 (by kernel_rfl), hF.at 21 (by kernel_rfl), hF.at 22 (by kernel_rfl), hF.at 23 (by kernel_rfl), hF.at 24 (by kernel_rfl), hF.at 25 (by kernel_rfl), hF.at 26 (by kernel_rfl), hF.at 27 (by kernel_rfl), hF.at 28 (by kernel_rfl), hF.at 29 (by kernel_rfl), hF.at 30 (by kernel_rfl), hF.at 31 (by kernel_rfl), hF.at 32 (by kernel_rfl), hF.at 33 (by kernel_rfl), hF.at 34 (by kernel_rfl), hF.at 35 (by kernel_rfl), hF.at 36 (by kernel_rfl), hF.at 37 (by kernel_rfl), hF.at 38 (by kernel_rfl), hF.at 39 (by kernel_rfl), hF.at 40 (by kernel_rfl), hF.at 41 (by kernel_rfl), hF.at 42 (by kernel_rfl), hF.at 43 (by kernel_rfl), hF.at 44 (by kernel_rfl), hF.at 45 (by kernel_rfl), hF.at 46 (by kernel_rfl), hF.at 47 (by kernel_rfl), hF.at 48 (by kernel_rfl), hF.at 49 (by kernel_rfl), hF.at 50 (by kernel_rfl), hF.at 51 (by kernel_rfl), hF.at 52 (by kernel_rfl), hF.at 53 (by kernel_rfl), hF.at 54 (by kernel_rfl), hF.at 55 (by kernel_rfl), hF.at 56 (by kernel_rfl), hF.at 57 (by kernel_rfl), hF.at 58 (by kernel_rfl), hF.at 59 (by kernel_rfl), hF.at 60 (by kernel_rfl), hF.at 61 (by kernel_rfl), hF.at 62 (by kernel_rfl), hF.at 63 (by kernel_rfl), hF.at 64 (by kernel_rfl), hF.at 76 (by kernel_rfl), hF.at 77 (by kernel_rfl), hF.at 78 (by kernel_rfl), hF.at 79 (by kernel_rfl), hF.at 80 (by kernel_rfl), hF.at 81 (by kernel_rfl), hF.at 82 (by kernel_rfl), hF.at 83 (by kernel_rfl), hF.at 84 (by kernel_rfl), hF.at 85 (by kernel_rfl), hF.at 86 (by kernel_rfl), hF.at 87 (by kernel_rfl), hF.at 88 (by kernel_rfl), hF.at 89 (by kernel_rfl), hF.at 90 (by kernel_rfl), hF.at 91 (by kernel_rfl), hF.at 92 (by kernel_rfl), hF.at 93 (by kernel_rfl), hF.at 94 (by kernel_rfl), hF.at 95 (by kernel_rfl), hF.at 96 (by kernel_rfl), hF.at 97 (by kernel_rfl), hF.at 98 (by kernel_rfl), hF.at 99 (by kernel_rfl), hF.at 100 (by kernel_rfl), hF.at 101 (by kernel_rfl), hF.at 102 (by kernel_rfl), hF.at 103 (by kernel_rfl), hF.at 104 (by kernel_rfl), hF.at 105 (by kernel_rfl), hF.at 106 (by kernel_rfl), hF.at 107 (by kernel_rfl), hF.at 108 (by kernel_rfl), hF.at 109 (by kernel_rfl), hF.at 110 (by kernel_rfl), hF.at 111 (by kernel_rfl), hF.at 112 (by kernel_rfl), hF.at 113 (by kernel_rfl), hF.at 114 (by kernel_rfl), hF.at 115 (by kernel_rfl), hF.at 116 (by kernel_rfl), hF.at 117 (by kernel_rfl), hF.at 118 (by kernel_rfl), hF.at 119 (by kernel_rfl), hF.at 120 (by kernel_rfl), hF.at 121 (by kernel_rfl), hF.at 122 (by kernel_rfl), hF.at 123 (by kernel_rfl), hF.at 124 (by kernel_rfl), hF.at 125 (by kernel_rfl), hF.at 126 (by kernel_rfl), hF.at 127 (by kernel_rfl), hF.at 128 (by kernel_rfl), hF.at 129 (by kernel_rfl), hF.at 130 (by kernel_rfl), hF.at 131 (by kernel_rfl), hF.at 132 (by kernel_rfl), hF.at 133 (by kernel_rfl), hF.at 134 (by kernel_rfl), hF.at 135 (by kernel_rfl), hF.at 136 (by kernel_rfl), hF.at 137 (by kernel_rfl), hF.at 138 (by kernel_rfl), hF.at 139 (by kernel_rfl), hF.at 140 (by kernel_rfl), hF.at 141 (by kernel_rfl), hF.at 142 (by kernel_rfl), hF.at 143 (by kernel_rfl), hF.at 144 (by kernel_rfl), hF.at 145 (by kernel_rfl), hF.at 146 (by kernel_rfl), hF.at 147 (by kernel_rfl), hF.at 148 (by kernel_rfl), hF.at 149 (by kernel_rfl), hF.at 150 (by kernel_rfl), hF.at 151 (by kernel_rfl), hF.at 152 (by kernel_rfl), hF.at 153 (by kernel_rfl), hF.at 154 (by kernel_rfl), hF.at 155 (by kernel_rfl), hF.at 156 (by kernel_rfl), hF.at 157 (by kernel_rfl), hF.at 158 (by kernel_rfl), hF.at 159 (by kernel_rfl), hF.at 160 (by kernel_rfl), hF.at 161 (by kernel_rfl), hF.at 162 (by kernel_rfl), hF.at 163 (by kernel_rfl), hF.at 164 (by kernel_rfl), hF.at 165 (by kernel_rfl), hF.at 166 (by kernel_rfl), hF.at 167 (by kernel_rfl), hF.at 168 (by kernel_rfl), hF.at 169 (by kernel_rfl), hF.at 170 (by kernel_rfl), hF.at 171 (by kernel_rfl), hF.at 172 (by kernel_rfl), hF.at 173 (by kernel_rfl), hF.at 174 (by kernel_rfl), hF.at 175 (by kernel_rfl), hF.at 176 (by kernel_rfl), hF.at 177 (by kernel_rfl), hF.at 178 (by kernel_rfl), hF.at 179 (by kernel_rfl), hF.at 180 (by kernel_rfl), hF.at 181 (by kernel_rfl)]
                    generalize ac.eval (.tmp 65) = u65
                    generalize ac.eval (.tmp 66) = u66
                    generalize ac.eval (.tmp 67) = u67
                    generalize ac.eval (.tmp 68) = u68
                    generalize ac.eval (.tmp 69) = u69
                    generalize ac.eval (.tmp 70) = u70
                    generalize ac.eval (.tmp 71) = u71
                    generalize ac.eval (.tmp 72) = u72
                    generalize ac.eval (.tmp 73) = u73
                    generalize ac.eval (.tmp 74) = u74
                    generalize ac.eval (.tmp 75) = u75
                    simp only [Act.eval, Array.getD_eq_getD_getElem?, List.getElem?_toArray, List.getElem?_cons_succ, List.getElem?_cons_zero, Option.getD_some]
                    clear e12 hT hF ac
                    go_wp2
                    go_meet
                    case rel => exact ⟨rfl, _, _, hPh.2, hag1, hfw, hPh.1.1⟩
        case rest =>
          obtain ⟨rfl, d', r', d8, ha8, hf8, s8⟩ := hcut
          replace ha8 : Agree d' r' := ha8
          obtain ⟨q1, q2, q3, q4⟩ := Agree.eqs ha8
          obtain ⟨ql, rcap, rca, rccap, r0, r1, r2, r4, rrow⟩ := d8.head
          have hqlt : q < wc.heap.size := by
            obtain ⟨_, _, _, _, _, _, hh⟩ := d8
            exact hh.hr.lt
          have hrd := fun sv => Agree.read ha8 sv
          have hlen := hf8.len
          rw [q1, hlen] at r0
          rw [q2] at r1
          rw [q3] at r2
          rw [q4] at r4
          have hrow : ∀ i, i < n → wc.cell? ⟨ql, i, none⟩ = some (.string (d'.lies.getD i .empty)) := fun i hi => by
            have := rrow i (by rw [q1, hlen]; exact hi)
            rw [q1] at this
            exact this
          have hqll : ql < wc.heap.size := by
            obtain ⟨bl, cv, ql', rv, J, cap', hh⟩ := d8
            have := hh.hr.c0
            rw [r0] at this
            injection this with this
            injection this with this
            injection this with this
            injection this with this
            rw [this]
            exact hh.hr.ltl
          obtain ⟨on, hon⟩ : ∃ on, on = d'.on := ⟨_, rfl⟩
          obtain ⟨st', hst'⟩ : ∃ st', st' = d'.steps := ⟨_, rfl⟩
          obtain ⟨cn, hcn⟩ : ∃ cn, cn = d'.cache.length := ⟨_, rfl⟩
          have hOn := fun u (hu : Pair w.heap.size p q d' r' u) => onIn _ _ _ u hu.disk
          have hSt := fun u (hu : Pair w.heap.size p q d' r' u) => stepsIn _ _ _ u hu.disk
          have hCa := fun u (hu : Pair w.heap.size p q d' r' u) => cachedIn _ _ _ u hu.disk
          rw [← hon] at r2 hOn
          rw [← hst'] at r4 hSt
          rw [← hcn] at r1 hCa
          have HRD := Lib.hid hrd
          have HROW := Lib.hid hrow
          have HLEN := Lib.hid hlen
          clear q1 q2 q3 q4 rrow hrd hrow hlen hon hst' hcn
          go_wp2
          try simp only [Act.put]
          refine wp_region_tab [RT.is (.bool true), RT.is (.bool false), RT.is (.bool false), RT.is (.pointer (some ⟨p, 0, none⟩)), RT.is (.bool on), RT.is (.pointer (some ⟨q, 0, none⟩)), RT.is (.pointer (some ⟨q, 0, none⟩)), RT.is (.pointer (some ⟨q, 2, none⟩)), RT.is (.bool (!on)), RT.is (.bool false), RT.is (.bool false), RT.is (.bool false), RT.is (.pointer (some ⟨p, 0, none⟩)), RT.is (.int .i64 (st' : Nat)), RT.is (.pointer (some ⟨q, 0, none⟩)), RT.is (.pointer (some ⟨q, 0, none⟩)), RT.is (.pointer (some ⟨q, 4, none⟩)), RT.is (.int .i64 (st' : Nat)), RT.is (.bool false), RT.is (.bool false), RT.is (.bool false), RT.is (.pointer (some ⟨p, 0, none⟩)), RT.is (.int .i64 (cn : Nat)), RT.is (.pointer (some ⟨q, 0, none⟩)), RT.is (.pointer (some ⟨q, 0, none⟩)), RT.is (.pointer (some ⟨q, 1, none⟩)), RT.is (.slice rca cn rccap), RT.is (.int .i64 (cn : Nat)), RT.is (.bool false), RT.is (.bool false)] (by kernel_rfl) (by kernel_rfl) (by kernel_rfl) (by kernel_rfl) ⟨?_, ?_, ?_, ?_, ?_, ?_, ?_, ?_, ?_, ?_, ?_, ?_, ?_, ?_, ?_, ?_, ?_, ?_, ?_, ?_, ?_, ?_, ?_, ?_, ?_, ?_, ?_, ?_, ?_, ?_, trivial⟩ ?_
          · intro ac w' hF hL hP hU K hK
            have hB := below_undrew hL
            have e12 : ac.eval (.tmp 12) = .bool true := hF.at 12 (by kernel_rfl)
            exact rop_move _ rfl e12 (wanted_none rfl) (hK _ _ (le8_refl _) rfl)
          · intro ac w' hF hL hP hU K hK
            have hB := below_undrew hL
            have e105 : ac.eval (.tmp 105) = .bool true := hP 0 (by kernel_rfl)
            exact rop_not _ _ rfl true e105 (wanted_none rfl) (hK _ _ (le8_refl _) rfl)
          · intro ac w' hF hL hP hU K hK
            have hB := below_undrew hL
            have e106 : ac.eval (.tmp 106) = .bool false := hP 1 (by kernel_rfl)
            exact rop_move _ rfl e106 (wanted_none rfl) (hK _ _ (le8_refl _) rfl)
          · intro ac w' hF hL hP hU K hK
            have hB := below_undrew hL
            have e7 : ac.eval (.tmp 7) = .pointer (some ⟨p, 0, none⟩) := hF.at 7 (by kernel_rfl)
            have e107 : ac.eval (.tmp 107) = .bool false := hP 2 (by kernel_rfl)
            exact rop_move _ rfl e7 (wanted_of (j := 2) (b := false) rfl rfl e107) (hK _ _ (le8_refl _) rfl)
          · intro ac w' hF hL hP hU K hK
            have hB := below_undrew hL
            have e108 : ac.eval (.tmp 108) = .pointer (some ⟨p, 0, none⟩) := hP 3 (by kernel_rfl)
            have e107 : ac.eval (.tmp 107) = .bool false := hP 2 (by kernel_rfl)
            refine rop_call 29 _ _ rfl #[.pointer (some ⟨p, 0, none⟩)] (by simp [e108]) (by kernel_rfl) (wanted_of (j := 2) (b := false) rfl rfl e107) ?_
            refine ((same_below (hOn w' (d8.old hB)))).mono ?_
            rintro e w2 ⟨rfl, hb⟩
            exact ⟨_, rfl, hK _ _ hb rfl⟩
          · intro ac w' hF hL hP hU K hK
            have hB := below_undrew hL
            have e8 : ac.eval (.tmp 8) = .pointer (some ⟨q, 0, none⟩) := hF.at 8 (by kernel_rfl)
            have e107 : ac.eval (.tmp 107) = .bool false := hP 2 (by kernel_rfl)
            exact rop_move _ rfl e8 (wanted_of (j := 2) (b := false) rfl rfl e107) (hK _ _ (le8_refl _) rfl)
          · intro ac w' hF hL hP hU K hK
            have hB := below_undrew hL
            have e110 : ac.eval (.tmp 110) = .pointer (some ⟨q, 0, none⟩) := hP 5 (by kernel_rfl)
            have e107 : ac.eval (.tmp 107) = .bool false := hP 2 (by kernel_rfl)
            exact rop_nil _ rfl e110 (wanted_of (j := 2) (b := false) rfl rfl e107) (hK _ _ (le8_refl _) rfl)
          · intro ac w' hF hL hP hU K hK
            have hB := below_undrew hL
            have e111 : ac.eval (.tmp 111) = .pointer (some ⟨q, 0, none⟩) := hP 6 (by kernel_rfl)
            have e107 : ac.eval (.tmp 107) = .bool false := hP 2 (by kernel_rfl)
            exact rop_fld _ _ _ rfl e111 ((fldR _ _).1) (wanted_of (j := 2) (b := false) rfl rfl e107) (hK _ _ (le8_refl _) rfl)
          · intro ac w' hF hL hP hU K hK
            have hB := below_undrew hL
            have e112 : ac.eval (.tmp 112) = .pointer (some ⟨q, 2, none⟩) := hP 7 (by kernel_rfl)
            have e107 : ac.eval (.tmp 107) = .bool false := hP 2 (by kernel_rfl)
            exact rop_ld _ _ rfl e112 (load_bool ((hB.cell (p := ⟨q, _, none⟩) hqlt).trans r2)) (wanted_of (j := 2) (b := false) rfl rfl e107) (hK _ _ (le8_refl _) rfl)
          · intro ac w' hF hL hP hU K hK
            have hB := below_undrew hL
            have e109 : ac.eval (.tmp 109) = .bool on := hP 4 (by kernel_rfl)
            have e113 : ac.eval (.tmp 113) = .bool (!on) := hP 8 (by kernel_rfl)
            have e107 : ac.eval (.tmp 107) = .bool false := hP 2 (by kernel_rfl)
            exact rop_bin _ _ _ _ _ rfl e109 e113 (guard_bool _ _ _ _ _ _ w') (eql_not on w') (wanted_of (j := 2) (b := false) rfl rfl e107) (hK _ _ (le8_refl _) rfl)
          · intro ac w' hF hL hP hU K hK
            have hB := below_undrew hL
            have e107 : ac.eval (.tmp 107) = .bool false := hP 2 (by kernel_rfl)
            have e114 : ac.eval (.tmp 114) = .bool false := hP 9 (by kernel_rfl)
            exact rop_pick _ _ _ rfl false e107 (by simpa using e114) (wanted_none rfl) (hK _ _ (le8_refl _) rfl)
          · intro ac w' hF hL hP hU K hK
            have hB := below_undrew hL
            have e115 : ac.eval (.tmp 115) = .bool false := hP 10 (by kernel_rfl)
            exact rop_move _ rfl e115 (wanted_none rfl) (hK _ _ (le8_refl _) rfl)
          · intro ac w' hF hL hP hU K hK
            have hB := below_undrew hL
            have e7 : ac.eval (.tmp 7) = .pointer (some ⟨p, 0, none⟩) := hF.at 7 (by kernel_rfl)
            have e116 : ac.eval (.tmp 116) = .bool false := hP 11 (by kernel_rfl)
            exact rop_move _ rfl e7 (wanted_of (j := 11) (b := false) rfl rfl e116) (hK _ _ (le8_refl _) rfl)
          · intro ac w' hF hL hP hU K hK
            have hB := below_undrew hL
            have e117 : ac.eval (.tmp 117) = .pointer (some ⟨p, 0, none⟩) := hP 12 (by kernel_rfl)
            have e116 : ac.eval (.tmp 116) = .bool false := hP 11 (by kernel_rfl)
            refine rop_call 30 _ _ rfl #[.pointer (some ⟨p, 0, none⟩)] (by simp [e117]) (by kernel_rfl) (wanted_of (j := 11) (b := false) rfl rfl e116) ?_
            refine ((same_below (hSt w' (d8.old hB)))).mono ?_
            rintro e w2 ⟨rfl, hb⟩
            exact ⟨_, rfl, hK _ _ hb rfl⟩
          · intro ac w' hF hL hP hU K hK
            have hB := below_undrew hL
            have e8 : ac.eval (.tmp 8) = .pointer (some ⟨q, 0, none⟩) := hF.at 8 (by kernel_rfl)
            have e116 : ac.eval (.tmp 116) = .bool false := hP 11 (by kernel_rfl)
            exact rop_move _ rfl e8 (wanted_of (j := 11) (b := false) rfl rfl e116) (hK _ _ (le8_refl _) rfl)
          · intro ac w' hF hL hP hU K hK
            have hB := below_undrew hL
            have e119 : ac.eval (.tmp 119) = .pointer (some ⟨q, 0, none⟩) := hP 14 (by kernel_rfl)
            have e116 : ac.eval (.tmp 116) = .bool false := hP 11 (by kernel_rfl)
            exact rop_nil _ rfl e119 (wanted_of (j := 11) (b := false) rfl rfl e116) (hK _ _ (le8_refl _) rfl)
          · intro ac w' hF hL hP hU K hK
            have hB := below_undrew hL
            have e120 : ac.eval (.tmp 120) = .pointer (some ⟨q, 0, none⟩) := hP 15 (by kernel_rfl)
            have e116 : ac.eval (.tmp 116) = .bool false := hP 11 (by kernel_rfl)
            exact rop_fld _ _ _ rfl e120 ((fldR _ _).2.1) (wanted_of (j := 11) (b := false) rfl rfl e116) (hK _ _ (le8_refl _) rfl)
          · intro ac w' hF hL hP hU K hK
            have hB := below_undrew hL
            have e121 : ac.eval (.tmp 121) = .pointer (some ⟨q, 4, none⟩) := hP 16 (by kernel_rfl)
            have e116 : ac.eval (.tmp 116) = .bool false := hP 11 (by kernel_rfl)
            exact rop_ld _ _ rfl e121 (load_int ((hB.cell (p := ⟨q, _, none⟩) hqlt).trans r4)) (wanted_of (j := 11) (b := false) rfl rfl e116) (hK _ _ (le8_refl _) rfl)
          · intro ac w' hF hL hP hU K hK
            have hB := below_undrew hL
            have e118 : ac.eval (.tmp 118) = .int .i64 (st' : Nat) := hP 13 (by kernel_rfl)
            have e122 : ac.eval (.tmp 122) = .int .i64 (st' : Nat) := hP 17 (by kernel_rfl)
            have e116 : ac.eval (.tmp 116) = .bool false := hP 11 (by kernel_rfl)
            exact rop_bin _ _ _ _ _ rfl e118 e122 (guard_int _ _ _ _ _ _ _ w') (neq_i _ _ _ (by simp) w') (wanted_of (j := 11) (b := false) rfl rfl e116) (hK _ _ (le8_refl _) rfl)
          · intro ac w' hF hL hP hU K hK
            have hB := below_undrew hL
            have e116 : ac.eval (.tmp 116) = .bool false := hP 11 (by kernel_rfl)
            have e123 : ac.eval (.tmp 123) = .bool false := hP 18 (by kernel_rfl)
            exact rop_pick _ _ _ rfl false e116 (by simpa using e123) (wanted_none rfl) (hK _ _ (le8_refl _) rfl)
          · intro ac w' hF hL hP hU K hK
            have hB := below_undrew hL
            have e124 : ac.eval (.tmp 124) = .bool false := hP 19 (by kernel_rfl)
            exact rop_move _ rfl e124 (wanted_none rfl) (hK _ _ (le8_refl _) rfl)
          · intro ac w' hF hL hP hU K hK
            have hB := below_undrew hL
            have e7 : ac.eval (.tmp 7) = .pointer (some ⟨p, 0, none⟩) := hF.at 7 (by kernel_rfl)
            have e125 : ac.eval (.tmp 125) = .bool false := hP 20 (by kernel_rfl)
            exact rop_move _ rfl e7 (wanted_of (j := 20) (b := false) rfl rfl e125) (hK _ _ (le8_refl _) rfl)
          · intro ac w' hF hL hP hU K hK
            have hB := below_undrew hL
            have e126 : ac.eval (.tmp 126) = .pointer (some ⟨p, 0, none⟩) := hP 21 (by kernel_rfl)
            have e125 : ac.eval (.tmp 125) = .bool false := hP 20 (by kernel_rfl)
            refine rop_call 31 _ _ rfl #[.pointer (some ⟨p, 0, none⟩)] (by simp [e126]) (by kernel_rfl) (wanted_of (j := 20) (b := false) rfl rfl e125) ?_
            refine ((same_below (hCa w' (d8.old hB)))).mono ?_
            rintro e w2 ⟨rfl, hb⟩
            exact ⟨_, rfl, hK _ _ hb rfl⟩
          · intro ac w' hF hL hP hU K hK
            have hB := below_undrew hL
            have e8 : ac.eval (.tmp 8) = .pointer (some ⟨q, 0, none⟩) := hF.at 8 (by kernel_rfl)
            have e125 : ac.eval (.tmp 125) = .bool false := hP 20 (by kernel_rfl)
            exact rop_move _ rfl e8 (wanted_of (j := 20) (b := false) rfl rfl e125) (hK _ _ (le8_refl _) rfl)
          · intro ac w' hF hL hP hU K hK
            have hB := below_undrew hL
            have e128 : ac.eval (.tmp 128) = .pointer (some ⟨q, 0, none⟩) := hP 23 (by kernel_rfl)
            have e125 : ac.eval (.tmp 125) = .bool false := hP 20 (by kernel_rfl)
            exact rop_nil _ rfl e128 (wanted_of (j := 20) (b := false) rfl rfl e125) (hK _ _ (le8_refl _) rfl)
          · intro ac w' hF hL hP hU K hK
            have hB := below_undrew hL
            have e129 : ac.eval (.tmp 129) = .pointer (some ⟨q, 0, none⟩) := hP 24 (by kernel_rfl)
            have e125 : ac.eval (.tmp 125) = .bool false := hP 20 (by kernel_rfl)
            exact rop_fld _ _ _ rfl e129 ((fldR _ _).2.2) (wanted_of (j := 20) (b := false) rfl rfl e125) (hK _ _ (le8_refl _) rfl)
          · intro ac w' hF hL hP hU K hK
            have hB := below_undrew hL
            have e130 : ac.eval (.tmp 130) = .pointer (some ⟨q, 1, none⟩) := hP 25 (by kernel_rfl)
            have e125 : ac.eval (.tmp 125) = .bool false := hP 20 (by kernel_rfl)
            exact rop_ld _ _ rfl e130 (load_puts ((hB.cell (p := ⟨q, _, none⟩) hqlt).trans r1)) (wanted_of (j := 20) (b := false) rfl rfl e125) (hK _ _ (le8_refl _) rfl)
          · intro ac w' hF hL hP hU K hK
            have hB := below_undrew hL
            have e131 : ac.eval (.tmp 131) = .slice rca cn rccap := hP 26 (by kernel_rfl)
            have e125 : ac.eval (.tmp 125) = .bool false := hP 20 (by kernel_rfl)
            exact rop_len_sl _ rfl e131 (wanted_of (j := 20) (b := false) rfl rfl e125) (hK _ _ (le8_refl _) rfl)
          · intro ac w' hF hL hP hU K hK
            have hB := below_undrew hL
            have e127 : ac.eval (.tmp 127) = .int .i64 (cn : Nat) := hP 22 (by kernel_rfl)
            have e132 : ac.eval (.tmp 132) = .int .i64 (cn : Nat) := hP 27 (by kernel_rfl)
            have e125 : ac.eval (.tmp 125) = .bool false := hP 20 (by kernel_rfl)
            exact rop_bin _ _ _ _ _ rfl e127 e132 (guard_int _ _ _ _ _ _ _ w') (neq_i _ _ _ (by simp) w') (wanted_of (j := 20) (b := false) rfl rfl e125) (hK _ _ (le8_refl _) rfl)
          · intro ac w' hF hL hP hU K hK
            have hB := below_undrew hL
            have e125 : ac.eval (.tmp 125) = .bool false := hP 20 (by kernel_rfl)
            have e133 : ac.eval (.tmp 133) = .bool false := hP 28 (by kernel_rfl)
            exact rop_pick _ _ _ rfl false e125 (by simpa using e133) (wanted_none rfl) (hK _ _ (le8_refl _) rfl)
          · intro ac w' hF hB hT
            have e134 : ac.eval (.tmp 134) = .bool false := hT 29 (by decide)
            rw [hF.lit 182 rfl]
            simp only [List.range, List.range.loop, List.map_cons, List.map_nil, e134, hF.at 0 (by kernel_rfl), hF.at 1 (by kernel_rfl), hF.at 2 (by kernel_rfl), hF.at 3 (by kernel_rfl), hF.at 4 (by kernel_rfl), hF.at 5 (by kernel_rfl), hF.at 6 (by kernel_rfl), hF.at 7 (by kernel_rfl), hF.at 8 (by kernel_rfl), hF.at 9 (by kernel_rfl), hF.at 10 (by kernel_rfl), hF.at 11 (by kernel_rfl), hF.at 12 (by kernel_rfl), hF.at 13 (by kernel_rfl), hF.at 14 (by kernel_rfl), hF.at 15 (by kernel_rfl), hF.at 16 (by kernel_rfl), hF.at 17 (by kernel_rfl), hF.at 18 (by kernel_rfl), hF.at 19 (by kernel_rfl), hF.at 20 (by kernel_rfl), hF.at 21 (by kernel_rfl), hF.at 22 (by kernel_rfl), hF.at 23 (by kernel_rfl), hF.at 24 (by kernel_rfl), hF.at 25 (by kernel_rfl), hF.at 26 (by kernel_rfl), hF.at 27 (by kernel_rfl), hF.at 28 (by kernel_rfl), hF.at 29 (by kernel_rfl), hF.at 30 (by kernel_rfl), hF.at 31 (by kernel_rfl), hF.at 32 (by kernel_rfl), hF.at 33 (by kernel_rfl), hF.at 34 (by kernel_rfl), hF.at 35 (by kernel_rfl), hF.at 36 (by kernel_rfl), hF.at 37 (by kernel_rfl), hF.at 38 (by kernel_rfl), hF.at 39 (by kernel_rfl), hF.at 40 (by kernel_rfl), hF.at 41 (by kernel_rfl), hF.at 42 (by kernel_rfl), hF.at 43 (by kernel_rfl), hF.at 44 (by kernel_rfl), hF.at 45 (by kernel_rfl), hF.at 46 (by kernel_rfl), hF.at 47 (by kernel_rfl), hF.at 48 (by kernel_rfl), hF.at 49 (by kernel_rfl), hF.at 50 (by kernel_rfl), hF.at 51 (by kernel_rfl), hF.at 52 (by kernel_rfl), hF.at 53 (by kernel_rfl), hF.at 54 (by kernel_rfl), hF.at 55 (by kernel_rfl), hF.at 56 (by kernel_rfl), hF.at 57 (by kernel_rfl), hF.at 58 (by kernel_rfl), hF.at 59 (by kernel_rfl), hF.at 60 (by kernel_rfl), hF.at 61 (by kernel_rfl), hF.at 62 (by kernel_rfl), hF.at 63 (by kernel_rfl), hF.at 64 (by kernel_rfl), hF.at 65 (by kernel_rfl), hF.at 66 (by kernel_rfl), hF.at 67 (by kernel_rfl), hF.at 68 (by kernel_rfl), hF.at 69 (by kernel_rfl), hF.at 70 (by kernel_rfl), hF.at 71 (by kernel_rfl), hF.at 72 (by kernel_rfl), hF.at 73 (by kernel_rfl), hF.at 74 (by kernel_rfl), hF.at 75 (by kernel_rfl), hF.at 76 (by kernel_rfl), hF.at 77 (by kernel_rfl), hF.at 78 (by kernel_rfl), hF.at 79 (by kernel_rfl), hF.at 80 (by kernel_rfl), hF.at 81 (by kernel_rfl), hF.at 82 (by kernel_rfl), hF.at 83 (by kernel_rfl), hF.at 84 (by kernel_rfl), hF.at 85 (by kernel_rfl), hF.at 86 (by kernel_rfl), hF.at 87 (by kernel_rfl), hF.at 88 (by kernel_rfl), hF.at 89 (by kernel_rfl), hF.at 90 (by kernel_rfl), hF.at 91 (by kernel_rfl), hF.at 92 (by kernel_rfl), hF.at 93 (by kernel_rfl), hF.at 94 (by kernel_rfl), hF.at 95 (by kernel_rfl), hF.at 96 (by kernel_rfl), hF.at 97 (by kernel_rfl), hF.at 98 (by kernel_rfl), hF.at 99 (by kernel_rfl), hF.at 100 (by kernel_rfl), hF.at 101 (by kernel_rfl), hF.at 102 (by kernel_rfl), hF.at 103 (by kernel_rfl), hF.at 104 (by kernel_rfl), hF.at 135 (by kernel_rfl), hF.at 136 (by kernel_rfl), hF.at 137 (by kernel_rfl), hF.at 138 (by kernel_rfl), hF.at 139 (by kernel_rfl), hF.at 140 (by kernel_rfl), hF.at 141 (by kernel_rfl), hF.at 142 (by kernel_rfl), hF.at 143 (by kernel_rfl), hF.at 144 (by kernel_rfl), hF.at 145 (by kernel_rfl), hF.at 146 (by kernel_rfl), hF.at 147 (by kernel_rfl), hF.at 148 (by kernel_rfl), hF.at 149 (by kernel_rfl), hF.at 150 (by kernel_rfl), hF.at 151 (by kernel_rfl), hF.at 152 (by kernel_rfl), hF.at 153 (by kernel_rfl), hF.at 154 (by kernel_rfl), hF.at 155 (by kernel_rfl), hF.at 156 (by kernel_rfl), hF.at 157 (by kernel_rfl), hF.at 158 (by kernel_rfl), hF.at 159 (by kernel_rfl), hF.at 160 (by kernel_rfl), hF.at 161 (by kernel_rfl), hF.at 162 (by kernel_rfl), hF.at 163 (by kernel_rfl), hF.at 164 (by kernel_rfl), hF.at 165 (by kernel_rfl), hF.at 166 (by kernel_rfl), hF.at 167 (by kernel_rfl), hF.at 168 (by kernel_rfl), hF.at 169 (by kernel_rfl), hF.at 170 (by kernel_rfl), hF.at 171 (by kernel_rfl), hF.at 172 (by kernel_rfl), hF.at 173 (by kernel_rfl), hF.at 174 (by kernel_rfl), hF.at 175 (by kernel_rfl), hF.at 176 (by kernel_rfl), hF.at 177 (by kernel_rfl), hF.at 178 (by kernel_rfl), hF.at 179 (by kernel_rfl), hF.at 180 (by kernel_rfl), hF.at 181 (by kernel_rfl)]
            generalize ac.eval (.tmp 105) = u105
            generalize ac.eval (.tmp 106) = u106
            generalize ac.eval (.tmp 107) = u107
            generalize ac.eval (.tmp 108) = u108
            generalize ac.eval (.tmp 109) = u109
            generalize ac.eval (.tmp 110) = u110
            generalize ac.eval (.tmp 111) = u111
            generalize ac.eval (.tmp 112) = u112
            generalize ac.eval (.tmp 113) = u113
            generalize ac.eval (.tmp 114) = u114
            generalize ac.eval (.tmp 115) = u115
            generalize ac.eval (.tmp 116) = u116
            generalize ac.eval (.tmp 117) = u117
            generalize ac.eval (.tmp 118) = u118
            generalize ac.eval (.tmp 119) = u119
            generalize ac.eval (.tmp 120) = u120
            generalize ac.eval (.tmp 121) = u121
            generalize ac.eval (.tmp 122) = u122
            generalize ac.eval (.tmp 123) = u123
            generalize ac.eval (.tmp 124) = u124
            generalize ac.eval (.tmp 125) = u125
            generalize ac.eval (.tmp 126) = u126
            generalize ac.eval (.tmp 127) = u127
            generalize ac.eval (.tmp 128) = u128
            generalize ac.eval (.tmp 129) = u129
            generalize ac.eval (.tmp 130) = u130
            generalize ac.eval (.tmp 131) = u131
            generalize ac.eval (.tmp 132) = u132
            generalize ac.eval (.tmp 133) = u133
            simp only [Act.eval, Array.getD_eq_getD_getElem?, List.getElem?_toArray, List.getElem?_cons_succ, List.getElem?_cons_zero, Option.getD_some]
            clear e134 hT hF ac
            replace d8 := d8.old hB
            replace s8 := below_step s8 (Nat.le_refl _) hB
            have z0 := (hB.cell (p := ⟨q, 0, none⟩) hqlt).trans r0
            have hqlt' := Nat.lt_of_lt_of_le hqlt hB.size
            have hqll' := Nat.lt_of_lt_of_le hqll hB.size
            have hrow' : ∀ i, i < n → w'.cell? ⟨ql, i, none⟩ = some (.string (d'.lies.getD i .empty)) := fun i hi => (hB.cell (p := ⟨ql, i, none⟩) hqll).trans (HROW.out i hi)
            have HROW' := Lib.hid hrow'
            have Z0 := Lib.hid z0
            clear r0 r1 r2 r4 hOn hSt hCa HROW hrow' z0 hB hqlt hqll
            obtain ⟨w9, hw9⟩ : ∃ w9, w9 = w' := ⟨_, rfl⟩
            subst hw9
            go_wp2
            go_loopw [14] (fun s14 wv => ∃ sv : Int, -1 ≤ sv ∧ sv ≤ n + 1 ∧ s14 = .int .i64 sv ∧ Below w9.heap.size w9 wv) (fun s14 _ => ((n : Int) + 1 - intOf s14).toNat)
            case atStart => exact ⟨-1, by omega, by omega, rfl, Below.refl _ _⟩
            case round =>
              obtain ⟨sv, v1, v2, rfl, hbv⟩ := hrel
              by_cases hle : sv ≤ n
              · have dv := d8.old hbv
                have hre := readIn _ _ _ sv _ dv.disk
                have hrr := fun u (hu : Pair w.heap.size p q d' r' u) => rreadP sv hu
                rw [(HRD.out sv).1, (HRD.out sv).2] at hrr
                have hpe := fun u (hu : Pair w.heap.size p q d' r' u) => peekIn _ _ _ sv u hu.disk
                obtain ⟨RS, hRS⟩ : ∃ RS, RS = readS d' sv := ⟨_, rfl⟩
                obtain ⟨RE, hRE⟩ : ∃ RE, RE = readE d' sv := ⟨_, rfl⟩
                rw [← hRS, ← hRE] at hre hrr
                clear hRS hRE
                by_cases hin : 0 ≤ sv ∧ sv < n
                · obtain ⟨i1, i2⟩ := hin
                  obtain ⟨j, rfl⟩ : ∃ j : Nat, sv = j := ⟨sv.toNat, by omega⟩
                  have hjn : j < n := by omega
                  obtain ⟨S, hS⟩ : ∃ S, S = d'.lies.getD j .empty := ⟨_, rfl⟩
                  have hpv : peek d' j = S := by
                    unfold peek
                    rw [HLEN.out, if_pos (by unfold hasB; rw [decide_eq_true i1, decide_eq_true (show (j : Int) < n by omega)]; rfl), hS]; rfl
                  rw [hpv] at hpe
                  have e0 := HROW'.out j hjn
                  rw [← hS] at e0
                  clear hS hpv
                  go_upto_region 39 with (first
                    | (go_at_call 32; refine hre.mono ?_; rintro e w10 ⟨rfl, b10⟩)
                    | (go_at_call 33; refine (hrr _ (dv.old b10)).mono ?_; rintro e w11 ⟨rfl, rfl⟩))
                  have hb10 := below_step hbv (Nat.le_refl _) b10
                  have y0 := (hb10.cell (p := ⟨q, 0, none⟩) hqlt').trans Z0.out
                  have y1 := (hb10.cell (p := ⟨ql, j, none⟩) hqll').trans e0
                  go_wp2_with (go_at_call 34; refine (hpe _ (dv.old b10)).mono ?_; rintro e w12 ⟨rfl, rfl⟩)
                  go_roundw
                  case rel => exact ⟨(j : Int) + 1, by omega, by omega, rfl, hb10⟩
                  case measure => simp [intOf]; omega
                · have hpv : peek d' sv = ⟨#[]⟩ := by
                    unfold peek
                    rw [HLEN.out, if_neg]
                    unfold hasB
                    rw [Bool.and_eq_true, decide_eq_true_eq, decide_eq_true_eq]
                    exact hin
                  rw [hpv] at hpe
                  clear hpv
                  by_cases i1 : 0 ≤ sv
                  · have i2 : ¬ sv < n := fun e => hin ⟨i1, e⟩
                    clear hin
                    go_wp2_with (first
                      | (go_at_call 32; refine hre.mono ?_; rintro e w10 ⟨rfl, b10⟩)
                      | (go_at_call 33; refine (hrr _ (dv.old b10)).mono ?_; rintro e w11 ⟨rfl, rfl⟩)
                      | (go_at_call 34; refine (hpe _ (dv.old b10)).mono ?_; rintro e w12 ⟨rfl, rfl⟩))
                    go_roundw
                    case rel => exact ⟨sv + 1, by omega, by omega, rfl, below_step hbv (Nat.le_refl _) b10⟩
                    case measure => simp [intOf]; omega
                  · clear hin
                    go_wp2_with (first
                      | (go_at_call 32; refine hre.mono ?_; rintro e w10 ⟨rfl, b10⟩)
                      | (go_at_call 33; refine (hrr _ (dv.old b10)).mono ?_; rintro e w11 ⟨rfl, rfl⟩)
                      | (go_at_call 34; refine (hpe _ (dv.old b10)).mono ?_; rintro e w12 ⟨rfl, rfl⟩))
                    go_roundw
                    case rel => exact ⟨sv + 1, by omega, by omega, rfl, below_step hbv (Nat.le_refl _) b10⟩
                    case measure => simp [intOf]; omega
              · have hgt : (n : Int) < sv := by omega
                go_wp2
                go_roundw
                case rel => exact ⟨k + 1, by omega, by omega, by go_num, d', r', d8.old hbv, ha8, hf8, below_step s8 (Nat.le_refl _) hbv⟩
                case measure => simp [intOf]; omega
    · go_upto_region 8 with fail
      go_cut [43] (fun sc wx => wr = wx ∧ sc = .bool false)
      case first =>
        by_cases hx : k < l.length
        · have hx1 : (k : Int) < (l.length : Int) := by omega
          have hx2 : ¬ (k : Int) < 80 := by omega
          go_wp2
          go_meet
          case rel => exact ⟨rfl, rfl⟩
        · have hx1 : ¬ (k : Int) < (l.length : Int) := by omega
          go_wp2
          go_meet
          case rel => exact ⟨rfl, rfl⟩
      case rest =>
        obtain ⟨rfl, rfl⟩ := hcut
        go_wp2
        go_ret
        exact ⟨rfl, hb⟩

set_option maxRecDepth 100000 in
theorem lifted (os : Os) (started : os.Started) (H : Type) (enc : TypeId × Value → H) :
    ReturnsInHanded {} Try.checked os 4 .any (Rows.sectorPlaysSpec.pre6 enc Try.prog Try.f4 Rows.sectorPlaysRow.domain false) (Rows.sectorPlaysSpec.post enc Try.prog Try.f4 false true false false) := by
  refine returnsInHanded_of_change (C := Try.checked) lawOwn started (by kernel_rfl) Try.func4
    (ChangeSpec.witness6 (enc := enc) (C := Try.checked) false ⟨#[], #[.int .i64 0, .slice none 0 0], []⟩ 8 (by kernel_rfl) (by kernel_rfl) (by kernel_rfl) (by kernel_rfl)) ?_
  intro W base args ds gs before hval0 hW hcnd _
  have hval : ∀ (j : Nat) t v, Try.f4.params[j]? = some t → args[j]? = some v → Value.okWide Try.prog W .any base t v := hval0
  have hW' := hW
  obtain ⟨p, q, hA0, hV, rfl, hfz, hnd⟩ := hW
  have hA : DataW.TrodAll enc Try.prog W 0 (fun _ => true) true Try.f4.params.toList args.toList ds p := hA0
  rw [Try.params4] at hA hval
  obtain ⟨v0, vs0, d0, ds0, p0, q0, hargs, rfl, rfl, h0, r0⟩ := trodAll_cons hA
  obtain ⟨v1, vs1, d1, ds1, p1, q1, rfl, rfl, rfl, h1, r1⟩ := trodAll_cons r0
  obtain ⟨rfl, rfl, rfl⟩ := trodAll_nil r1
  obtain rfl : args = #[v0, v1] := by cases args; simp_all
  obtain ⟨rfl, rfl⟩ := trodVars_none hV
  obtain ⟨a0, rfl, rfl, rfl, w0⟩ := open_int Try.underlying3 (hval 0 3 v0 rfl rfl) h0
  obtain ⟨a1, len1, cap1, rfl⟩ := okWide_slice Try.underlying30 (hval 1 30 v1 rfl rfl)
  obtain ⟨l1, w1⟩ := ops_of h1
  clear hA0 hval0 hcnd
  obtain ⟨l0, m0⟩ := i64_bounds w0
  refine (walk (w := W) a0 l0 m0 _ l1 w1).mono fun e W' ⟨he, bel⟩ => ?_
  subst he
  exact ⟨_, rfl, law_post rfl rfl (by kernel_rfl) hW' rfl bel⟩

theorem holds : Rows.SectorPlaysSaid :=
  OpenClaim.holds_of_wide 4 Try.f4 rfl rfl rfl rfl rfl rfl rfl ⟨rfl, rfl, rfl, rfl, rfl⟩ rfl rfl rfl rfl rfl (by kernel_rfl) Try.func4 (by kernel_rfl)
    (of_decide_eq_true (by kernel_rfl)) (by unfold Func.isWrapper; first | (rw [if_pos (by decide +kernel)]; kernel_rfl) | (rw [if_neg (by decide +kernel)]; exact ⟨rfl, rfl⟩))
    (fun os started H enc _ => lifted os started H enc)
end Go.Proofs.Ytkoojbbimjjndaa.sectorPlays

theorem Go.Proofs.Ytkoojbbimjjndaa.sectorPlays_holds : Go.Proofs.Ytkoojbbimjjndaa.Rows.SectorPlaysSaid := Go.Proofs.Ytkoojbbimjjndaa.sectorPlays.holds
#print axioms Go.Proofs.Ytkoojbbimjjndaa.sectorPlays_holds
