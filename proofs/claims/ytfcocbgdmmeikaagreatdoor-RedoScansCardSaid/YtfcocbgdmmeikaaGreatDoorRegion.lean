/-
  The region that RedoScans' script makes (scriniumlaw07.region): a row of so many texts, whatever they are.
-/
import Derived.Test.YtfcocbgdmmeikaaGreatDoorRefScan
import Derived.Test.YtfcocbgdmmeikaaGreatDoorMArg
import Derived.Test.YtfcocbgdmmeikaaGreatDoorMRedE
import Derived.Test.YtfcocbgdmmeikaaGreatDoorSecLaw
namespace Go.Proofs.YtfcocbgdmmeikaaGreatDoor
open Go.RowKit Dsk

/-- A row of N texts of a block of its own. -/
def Reg (g N : Nat) (w : World) : Prop := g < w.heap.size ∧ ∀ i, i < N → (∃ s, w.cell? ⟨g, i, none⟩ = some (.string s) ∧ s.size ≤ 1000000) ∧ w.frozen? ⟨g, i, none⟩ = false
theorem Reg.old {g N : Nat} {w w' : World} (h : Reg g N w) (hb : Below w.heap.size w w') : Reg g N w' :=
  ⟨Nat.lt_of_lt_of_le h.1 hb.size, fun i hi => ⟨by obtain ⟨s, h1, h2⟩ := (h.2 i hi).1; exact ⟨s, (hb.cell (p := ⟨g, i, none⟩) h.1).trans h1, h2⟩, (hb.frozen (p := ⟨g, i, none⟩) h.1).trans (h.2 i hi).2⟩⟩
theorem store_str {b o : Nat} {x : ByteArray} {v : Value} {u : World} (h1 : u.cell? ⟨b, o, none⟩ = some v) (h2 : u.frozen? ⟨b, o, none⟩ = false) : (Instr.storeAt 9 (.pointer (some ⟨b, o, none⟩)) (.string x)).run Tryz.prog u = .ok () (u.setCell ⟨b, o, none⟩ (.string x)) := by
  go_simp
theorem Reg.set {g N i : Nat} {w : World} {s : ByteArray} (h : Reg g N w) (hi : i < N) (hs : s.size ≤ 1000000) : Reg g N (w.setCell ⟨g, i, none⟩ (.string s)) := by
  refine ⟨by simpa using h.1, fun j hj => ⟨?_, by rw [World.frozen?_setCell]; exact (h.2 j hj).2⟩⟩
  by_cases e : j = i
  · subst e
    obtain ⟨s0, h1, _⟩ := (h.2 j hj).1
    exact ⟨s, World.cell?_setCell_same _ _ _ h1, hs⟩
  · obtain ⟨s0, h1, h2⟩ := (h.2 j hj).1
    exact ⟨s0, (World.cell?_setCell_other _ _ _ _ (fun e' => e (by injection e' with _ e' _; exact e'.symm))).trans h1, h2⟩
theorem Reg.put {g N i : Nat} {w : World} {s : ByteArray} (h : Reg g N w) (hi : i < N) (hs : s.size ≤ 1000000) : ∃ w2, (Instr.storeAt 9 (.pointer (some ⟨g, i, none⟩)) (.string s)).run Tryz.prog w = .ok () w2 ∧ Reg g N w2 ∧ Only g w w2 := by
  obtain ⟨s0, h1, _⟩ := (h.2 i hi).1
  exact ⟨_, store_str h1 (h.2 i hi).2, h.set hi hs, (Only.refl g w).setCell i _⟩
theorem Reg.made (w : World) (N : Nat) : Reg w.heap.size N (w.alloc (.cells (List.replicate N (Value.string ⟨#[]⟩)).toArray 9)) := by
  refine ⟨by simp, fun i hi => ⟨⟨⟨#[]⟩, ?_, by decide⟩, ?_⟩⟩
  · rw [cell_of (heap_alloc_last w _)]
    simp [hi]
  · exact fz_of (heap_alloc_last w _) i
theorem index_part (b o n cap k : Nat) (h : k < n) (w : World) : (Instr.indexAt 29 (.slice (some ⟨b, o, none⟩) n cap) (.int .i64 (k : Int))).run Tryz.prog w = .ok (.pointer (some ⟨b, o + k * 4, none⟩)) w := by
  go_simp
theorem fld_part (b o k : Nat) (h : k < 4) (w : World) : (Instr.fieldAt 74 (.pointer (some ⟨b, o, none⟩)) k).run Tryz.prog w = .ok (.pointer (some ⟨b, o + k, none⟩)) w := by
  match k, h with
  | 0, _ => go_simp
  | 1, _ => go_simp
  | 2, _ => go_simp
  | 3, _ => go_simp
theorem conv_u8 (z : Int) : ∃ c : UInt8, ∀ w : World, (convert 3 5 (.int .i64 z)).run Tryz.prog w = .ok (.int .u8 (c.toNat : Int)) w := by
  refine ⟨UInt8.ofNat (z % 256).toNat, fun w => ?_⟩
  have e : ((UInt8.ofNat (z % 256).toNat).toNat : Int) = z % 256 := by
    rw [UInt8.toNat_ofNat']
    omega
  rw [e]
  have e2 : IntKind.u8.wrap z = z % 256 := by simp [IntKind.wrap, IntKind.bits, IntKind.signed]
  go_simp
  try exact e2
section
variable {ops : Array Oper} {Q : Exit → Act → World → Prop} {a : Act} {w w' : World} {K : Act → World → Prop} {o : Oper}
theorem rop_convG (t u : TypeId) (x : Operand) (hop : o.op = .convert t u x) {v r : Value} (hx : a.eval x = v) (hr : (convert t u v).run Tryz.prog w = .ok r w) (hw : Region.wanted o (yielded ops a.tmps) = true) (h : K (a.put o.dst r) w) :
    if Region.wanted o (yielded ops a.tmps) = true then Oper.wp Tryz.prog o a w K Q else K (a.put o.dst undef) w :=
  rop_v hw (by simp [execOp, hop, hx, hr]) h
end
theorem tm_in (a : Int) (m : Nat) (hm : 0 < m) : -(m : Int) < a.tmod (m : Int) ∧ a.tmod (m : Int) < (m : Int) := ⟨Int.lt_tmod_of_pos _ (by omega), Int.tmod_lt_of_pos _ (by omega)⟩
/-- A rest, as Go's authors make it: one that is not below 0. -/
theorem rest_in (a : Int) (m : Nat) (hm : 0 < m) : ∃ r : Nat, r < m ∧ (a.tmod (m : Int) + (m : Int)).tmod (m : Int) = (r : Int) := by
  obtain ⟨h1, h2⟩ := tm_in a m hm
  have h3 := (tm_in (a.tmod (m : Int) + (m : Int)) m hm).2
  have h4 : 0 ≤ (a.tmod (m : Int) + (m : Int)).tmod (m : Int) := Int.tmod_nonneg _ (by omega)
  exact ⟨((a.tmod (m : Int) + (m : Int)).tmod (m : Int)).toNat, by omega, by omega⟩

/-- The three steps of a rest. -/
theorem rest_run (a : Int) (m : Nat) (M : Int) (hM : M = (m : Int)) (hm : 0 < m) (hm2 : m ≤ 1000) : ∃ (x y : Int) (r : Nat), r < m ∧ (∀ u : World, (binOp .rem 3 (.int .i64 a) (.int .i64 M)).run Tryz.prog u = .ok (.int .i64 x) u) ∧ (∀ u : World, (binOp .add 3 (.int .i64 x) (.int .i64 M)).run Tryz.prog u = .ok (.int .i64 y) u) ∧ (∀ u : World, (binOp .rem 3 (.int .i64 y) (.int .i64 M)).run Tryz.prog u = .ok (.int .i64 (r : Int)) u) := by
  subst hM
  obtain ⟨h1, h2⟩ := tm_in a m hm
  obtain ⟨r, hr, he⟩ := rest_in a m hm
  exact ⟨_, _, r, hr, fun u => rem_int _ _ _ rfl (by omega) (by omega) u, fun u => add_int _ _ _ rfl (by omega) u, fun u => rem_int _ _ _ he (by omega) (by omega) u⟩
theorem fillS_le (s : ByteArray) : (fillS s).size ≤ 1000000 := by
  by_cases h : (textB s).size ≤ 256
  · rw [fillS_size s h]; decide
  · unfold fillS
    rw [if_neg h]; decide
theorem and_1023 (z : Int) : ∃ y : Nat, y ≤ 1023 ∧ bits .and .i64 z 1023 = (y : Int) := by
  refine ⟨(z % 1024).toNat, by omega, ?_⟩
  have hb : bits .and .i64 z 1023 = z % 1024 := and_mask z 10 1023 (by decide) (by decide)
  have e : (((z % 1024).toNat : Nat) : Int) = z % 1024 := by omega
  rw [e, hb]
theorem add_ex (a b : Int) : ∃ z : Int, ∀ w : World, (binOp .add 3 (.int .i64 a) (.int .i64 b)).run Tryz.prog w = .ok (.int .i64 z) w := ⟨IntKind.i64.wrap (a + b), fun w => by go_simp⟩
theorem Reg.grown {g N : Nat} {w w' : World} {row : Option Nat} (h : Reg g N w) (hg : w.grownBy w' row) (hr : row ≠ some g) : Reg g N w' := by
  have e := hg.block g h.1 (fun e => hr e.symm)
  have hlt : g < w'.heap.size := by
    have h0 := Array.getElem?_eq_getElem h.1
    rw [h0] at e
    exact (Array.getElem?_eq_some_iff.1 e).1
  exact ⟨hlt, fun i hi => ⟨by obtain ⟨s, h1, h2⟩ := (h.2 i hi).1; exact ⟨s, (World.cell?_of_block (w := w) e).trans h1, h2⟩, (World.frozen?_of_block (w := w) e).trans (h.2 i hi).2⟩⟩
set_option maxHeartbeats 12800000 in
set_option maxRecDepth 100000 in
theorem region_any (slots place seq : Nat) (v : Value) (l : List PartR) (w : World) (hv : Parts w v l) (h3 : 3 ≤ slots) (h34 : slots ≤ 34) (hp : place < slots) (hs : seq ≤ 549755813888) :
    Calls Tryz.prog 13 #[.int .i64 (slots : Int), .int .i64 (place : Int), .int .i64 (seq : Int), v] w fun e w' => ∃ g, e = .returned (.slice (some ⟨g, 0, none⟩) (slots + 1) (slots + 1)) ∧ Reg g (slots + 1) w' ∧ w.heap.size ≤ g ∧ Below w.heap.size w w' := by
  obtain ⟨hrow, hok⟩ := hv
  obtain ⟨a, cap, rfl, hl, hcs⟩ := hrow
  have HCS := Lib.hid hcs
  have HOK := Lib.hid hok
  have hmk := make_strs (slots + 1) (by omega) w
  have hreg := Reg.made w (slots + 1)
  have hbel : Below w.heap.size w (w.alloc (.cells (List.replicate (slots + 1) (Value.string ⟨#[]⟩)).toArray 9)) := (Below.refl _ _).alloc (Nat.le_refl _) _
  obtain ⟨w1, hw1⟩ : ∃ w1, w1 = w.alloc (.cells (List.replicate (slots + 1) (Value.string ⟨#[]⟩)).toArray 9) := ⟨_, rfl⟩
  rw [← hw1] at hmk hreg hbel
  obtain ⟨B, hB0⟩ : ∃ B, B = w.heap.size := ⟨_, rfl⟩
  obtain ⟨g, hg0⟩ : ∃ g, g = w.heap.size := ⟨_, rfl⟩
  have HG : Hid (B ≤ g) := Lib.hid (by omega)
  have HBw := Lib.hid hB0
  rw [← hg0] at hmk hreg
  rw [← hB0] at hbel ⊢
  have hmk' : (Instr.makeSlice 30 (.int .i64 ((slots : Int) + 1)) (.int .i64 ((slots : Int) + 1))).run Tryz.prog w = .ok (.slice (some ⟨g, 0, none⟩) (slots + 1) (slots + 1)) w1 := by
    have := hmk
    rwa [Int.natCast_add] at this
  have hsw := IntWalk.i64_in ((slots : Int) + 1) (by omega)
  obtain ⟨s, hsd⟩ : ∃ s, s = hdL (keptN (place : Int) 65535) (keptN (seq : Int) 1099511627776) := ⟨_, rfl⟩
  have hss : s.size ≤ 1000000 := by rw [hsd]; exact fillS_le _
  have hh := refHead_any (place : Int) (seq : Int) w1 (by omega) (by omega) (by omega) (by omega)
  rw [← hsd] at hh
  have HH := Lib.hid hh
  have HREG := Lib.hid hreg
  have HBL := Lib.hid hbel
  clear hsd hh hcs hok hw1 hg0 hB0 hmk hreg hbel
  go_enter Tryz.func13, Tryz.ntmps13
  go_wp2_with (go_at_call 8; refine HH.out.mono ?_; rintro e w2 ⟨rfl, b2⟩; have hreg2 := HREG.out.old b2; obtain ⟨⟨s0, c0, _⟩, f0⟩ := hreg2.2 0 (by omega))
  have hreg := hreg2.set (i := 0) (by omega) hss
  have hbel := (HBL.out.trans (b2.mono (Nat.le_trans (by have := HBw.out; omega) HBL.out.size))).setCell (p := ⟨g, 0, none⟩) HG.out (.string s)
  clear c0 f0 hreg2 b2 HREG HBL HH
  go_loopw [10] (fun v10 wr => ∃ i : Nat, v10 = .int .i64 (i : Int) ∧ 1 ≤ i ∧ i ≤ slots + 1 ∧ Reg g (slots + 1) wr ∧ Below B w wr) (fun v10 _ => slots + 1 - (intOf v10).toNat)
  case atStart => exact ⟨1, rfl, by omega, by omega, hreg, hbel⟩
  case round =>
    clear hreg hbel
    obtain ⟨i, rfl, hi1, hi2, hreg, hbel⟩ := hrel
    have hw2 := IntWalk.i64_in ((i : Int) + 1) (by omega)
    by_cases hlt : i ≤ slots
    · have hlt' : (i : Int) ≤ (slots : Int) := by omega
      obtain ⟨c, hc⟩ := conv_u8 (i : Int)
      obtain ⟨t, htd⟩ : ∃ t, t = withB c := ⟨_, rfl⟩
      have hts : t.size ≤ 1000000 := by rw [htd, withB_size]; decide
      have hw := fun u => with7_any c u
      simp only [← htd] at hw
      have HW := Lib.hid hw
      have HREG := Lib.hid hreg
      have HBL := Lib.hid hbel
      clear htd hw hreg hbel
      go_wp2_with (go_at_call 14; refine (HW.out _).mono ?_; rintro e w2 ⟨rfl, b2⟩; have hreg2 := HREG.out.old b2; obtain ⟨⟨s0, c0, _⟩, f0⟩ := hreg2.2 i (by omega))
      have hreg := hreg2.set (i := i) (by omega) hts
      have hbel := (HBL.out.trans (b2.mono (Nat.le_trans (by have := HBw.out; omega) HBL.out.size))).setCell (p := ⟨g, i, none⟩) HG.out (.string t)
      go_roundw
      case rel => exact ⟨i + 1, by simp, by omega, by omega, hreg, hbel⟩
      case measure => simp [intOf]; omega
    · have hlt' : ¬ (i : Int) ≤ (slots : Int) := by omega
      clear hw2 hi1 hi2 hlt
      go_wp2
      go_loopw [11, 12, 13] (fun v11 v12 v13 wr => ∃ i p nx : Nat, v11 = .int .i64 (p : Int) ∧ v12 = .int .i64 (nx : Int) ∧ v13 = .int .i64 (i : Int) ∧ i ≤ l.length ∧ i ≤ 12 ∧ p ≤ 34 + 9 * i ∧ nx ≤ 549755813888 + i ∧ Reg g (slots + 1) wr ∧ Below B w wr) (fun _ _ v13 _ => l.length - (intOf v13).toNat)
      case atStart => exact ⟨0, place, seq, rfl, rfl, rfl, by omega, by omega, by omega, by omega, hreg, hbel⟩
      case round =>
        clear hreg hbel hlt'
        obtain ⟨i, p, nx, rfl, rfl, rfl, hil', hi12, hpb, hnb, hreg, hbel⟩ := hrel
        have hw2 := IntWalk.i64_in ((i : Int) + 1) (by omega)
        by_cases hlt : i < l.length ∧ i < 12
        · obtain ⟨hil, hl12⟩ := hlt
          have hlt1 : (i : Int) < (l.length : Int) := by omega
          have hlt2 : (i : Int) < 12 := by omega
          obtain ⟨b, off, rfl, hbw0, hcs⟩ := HCS.out i hil
          have hbw : b < B := by have := HBw.out; omega
          have hok := HOK.out l[i] (List.getElem_mem _)
          generalize hli : l[i] = o at hcs hok
          obtain ⟨a0, a1, a2, a3⟩ := o
          clear hli
          have C0 : ∀ u, Below B w u → u.cell? ⟨b, off + i * 4, none⟩ = some (.int .i64 a0) := fun u hu => (hu.cell (p := ⟨b, _, none⟩) hbw).trans (by have := hcs 0 _ rfl; simpa using this)
          have C1 : ∀ u, Below B w u → u.cell? ⟨b, off + i * 4 + 1, none⟩ = some (.int .i64 a1) := fun u hu => (hu.cell (p := ⟨b, _, none⟩) hbw).trans (by rw [Nat.add_assoc]; exact hcs 1 _ rfl)
          have C2 : ∀ u, Below B w u → u.cell? ⟨b, off + i * 4 + 2, none⟩ = some (.int .i64 a2) := fun u hu => (hu.cell (p := ⟨b, _, none⟩) hbw).trans (by rw [Nat.add_assoc]; exact hcs 2 _ rfl)
          have C3 : ∀ u, Below B w u → u.cell? ⟨b, off + i * 4 + 3, none⟩ = some (.int .i64 a3) := fun u hu => (hu.cell (p := ⟨b, _, none⟩) hbw).trans (by rw [Nat.add_assoc]; exact hcs 3 _ rfl)
          have ld0 := C0 wr hbel
          have ld1 := C1 wr hbel
          have ld2 := C2 wr hbel
          have fl0 := fun u => fld_part b (off + i * 4) 0 (by decide) u
          have fl1 := fun u => fld_part b (off + i * 4) 1 (by decide) u
          have fl2 := fun u => fld_part b (off + i * 4) 2 (by decide) u
          have fl3 := fun u => fld_part b (off + i * 4) 3 (by decide) u
          have hix := fun u => index_part b off l.length cap i hil u
          have HC3 := Lib.hid C3
          obtain ⟨r6, hr6, q6⟩ := rest_in a2 6 (by decide)
          obtain ⟨kd, hkd, q5⟩ := rest_in a0 5 (by decide)
          obtain ⟨r3, hr3, q3⟩ := rest_in a1 3 (by decide)
          obtain ⟨q6', q6''⟩ := tm_in a2 6 (by decide)
          obtain ⟨q5', q5''⟩ := tm_in a0 5 (by decide)
          obtain ⟨q3', q3''⟩ := tm_in a1 3 (by decide)
          rw [Int.cast_ofNat_Int] at q6 q5 q3 q6' q5' q3' q6'' q5'' q3''
          obtain ⟨n, hn⟩ : ∃ n, n = 1 + r6 := ⟨_, rfl⟩
          have hn1 : 1 + (r6 : Int) = (n : Int) := by omega
          have hn6 : n ≤ 6 := by omega
          have hn0 : 1 ≤ n := by omega
          clear hn hr6 C0 C1 C2 C3 hcs hok
          have h4 : (kd = 4 ∧ (kd : Int) = 4) ∨ (kd ≠ 4 ∧ ¬ (kd : Int) = 4) := by omega
          by_cases ho : a1 = 0
          · obtain ⟨sv, hsv⟩ : ∃ sv, sv = nx := ⟨_, rfl⟩
            have hsvb : sv ≤ 549755813888 + 20 := by omega
            rcases h4 with ⟨h4, h4'⟩ | ⟨h4, h4'⟩
            · subst ho
              obtain ⟨r, hr⟩ : ∃ r, r = (p) % slots := ⟨_, rfl⟩
              have hrs : r < slots := by rw [hr]; exact Nat.mod_lt _ (by omega)
              have HE : Hid (((p : Int) : Int).tmod (slots : Int) = (r : Int)) := Lib.hid (by (rw [hr, Int.ofNat_tmod]) <;> rfl)
              clear hr
              obtain ⟨c, hc⟩ := conv_u8 a3
              have HCV := Lib.hid hc
              obtain ⟨s, hsd⟩ : ∃ s, s = withB c := ⟨_, rfl⟩
              have HS : Hid (s.size ≤ 1000000) := Lib.hid (by rw [hsd, withB_size]; decide)
              have hw := fun u => with7_any c u
              simp only [← hsd] at hw
              have HW := Lib.hid hw
              clear hc hsd hw
              obtain ⟨W, hW⟩ : ∃ W, W = wr := ⟨_, rfl⟩
              subst hW
              have HR := Lib.hid hreg
              have HBel := Lib.hid hbel
              have HBW : Hid (B ≤ W.heap.size) := Lib.hid (by have := HBel.out.size; have := HBw.out; omega)
              clear hreg hbel
              go_upto_region 18 with (fail)
              try simp only [Act.put]
              refine wp_region_ph (Lx := GLx 2) [RXP.is (.slice (some ⟨g, 0, none⟩) (slots + 1) (slots + 1)), RXP.is (.int .i64 (p : Int)), RXP.is (.int .i64 (slots : Int)), RXP.is (.int .i64 (r : Int)), RXP.is (.int .i64 (1 + (r : Int))), RXP.is (.slice (some ⟨b, off, none⟩) l.length cap), RXP.is (.int .i64 (i : Int)), RXP.is (.pointer (some ⟨b, off + i * 4, none⟩)), RXP.is (.pointer (some ⟨b, off + i * 4 + 3, none⟩)), RXP.is (.int .i64 a3), RXP.is (.int .u8 (c.toNat : Int)), RXP.is (.string s), RXP.is (.pointer (some ⟨g, 0 + (1 + r), none⟩)), RXP.any] [11, 13] (fun k w' => Below B w w' ∧ (k < 2 → Below W.heap.size W w') ∧ (k = 2 → Reg g (slots + 1) w')) (by kernel_rfl) (by kernel_rfl) (by kernel_rfl) (by kernel_rfl) (by kernel_rfl) (⟨below_drew HBel.out, fun _ => below_drew (Below.refl _ _), fun h => by cases h⟩) ⟨?_, ?_, ?_, ?_, ?_, ?_, ?_, ?_, ?_, ?_, ?_, ?_, ?_, ?_, trivial⟩ ?_
              · intro ac w' ph hF hPh hlt hP hU K hK0
                have e9 : ac.eval (.tmp 9) = .slice (some ⟨g, 0, none⟩) (slots + 1) (slots + 1) := hF.at 9 (by kernel_rfl)
                exact rop_move _ rfl e9 (wanted_none rfl) (hK0 _ _ GLx.same hPh rfl)
              · intro ac w' ph hF hPh hlt hP hU K hK0
                have e11 : ac.eval (.tmp 11) = .int .i64 (p : Int) := hF.at 11 (by kernel_rfl)
                exact rop_move _ rfl e11 (wanted_none rfl) (hK0 _ _ GLx.same hPh rfl)
              · intro ac w' ph hF hPh hlt hP hU K hK0
                have e0 : ac.eval (.tmp 0) = .int .i64 (slots : Int) := hF.at 0 (by kernel_rfl)
                exact rop_move _ rfl e0 (wanted_none rfl) (hK0 _ _ GLx.same hPh rfl)
              · intro ac w' ph hF hPh hlt hP hU K hK0
                have e88 : ac.eval (.tmp 88) = .int .i64 (p : Int) := hP 1 (by kernel_rfl)
                have e89 : ac.eval (.tmp 89) = .int .i64 (slots : Int) := hP 2 (by kernel_rfl)
                exact rop_bin _ _ _ _ _ rfl e88 e89 (guard_int _ _ _ _ _ _ _ w') (rem_int _ _ _ HE.out (by omega) (by omega) w') (wanted_none rfl) (hK0 _ _ GLx.same hPh rfl)
              · intro ac w' ph hF hPh hlt hP hU K hK0
                have e90 : ac.eval (.tmp 90) = .int .i64 (r : Int) := hP 3 (by kernel_rfl)
                exact rop_bin _ _ _ _ _ rfl rfl e90 (guard_int _ _ _ _ _ _ _ w') (add_int _ _ _ (rfl) (by omega) w') (wanted_none rfl) (hK0 _ _ GLx.same hPh rfl)
              · intro ac w' ph hF hPh hlt hP hU K hK0
                have e3 : ac.eval (.tmp 3) = .slice (some ⟨b, off, none⟩) l.length cap := hF.at 3 (by kernel_rfl)
                exact rop_move _ rfl e3 (wanted_none rfl) (hK0 _ _ GLx.same hPh rfl)
              · intro ac w' ph hF hPh hlt hP hU K hK0
                have e13 : ac.eval (.tmp 13) = .int .i64 (i : Int) := hF.at 13 (by kernel_rfl)
                exact rop_move _ rfl e13 (wanted_none rfl) (hK0 _ _ GLx.same hPh rfl)
              · intro ac w' ph hF hPh hlt hP hU K hK0
                have e92 : ac.eval (.tmp 92) = .slice (some ⟨b, off, none⟩) l.length cap := hP 5 (by kernel_rfl)
                have e93 : ac.eval (.tmp 93) = .int .i64 (i : Int) := hP 6 (by kernel_rfl)
                exact rop_idx _ _ _ rfl e92 e93 (index_part b off l.length cap i hil w') (wanted_none rfl) (hK0 _ _ GLx.same hPh rfl)
              · intro ac w' ph hF hPh hlt hP hU K hK0
                have e94 : ac.eval (.tmp 94) = .pointer (some ⟨b, off + i * 4, none⟩) := hP 7 (by kernel_rfl)
                exact rop_fld _ _ _ rfl e94 (fld_part b (off + i * 4) 3 (by decide) w') (wanted_none rfl) (hK0 _ _ GLx.same hPh rfl)
              · intro ac w' ph hF hPh hlt hP hU K hK0
                have e95 : ac.eval (.tmp 95) = .pointer (some ⟨b, off + i * 4 + 3, none⟩) := hP 8 (by kernel_rfl)
                exact rop_ld _ _ rfl e95 (load_int (HC3.out w' hPh.1)) (wanted_none rfl) (hK0 _ _ GLx.same hPh rfl)
              · intro ac w' ph hF hPh hlt hP hU K hK0
                have e96 : ac.eval (.tmp 96) = .int .i64 a3 := hP 9 (by kernel_rfl)
                exact rop_convG _ _ _ rfl e96 (HCV.out w') (wanted_none rfl) (hK0 _ _ GLx.same hPh rfl)
              · intro ac w' ph hF hPh hlt hP hU K hK0
                obtain rfl : ph = 0 := (hlt 0 11 rfl).1 rfl
                have e97 : ac.eval (.tmp 97) = .int .u8 (c.toNat : Int) := hP 10 (by kernel_rfl)
                have hB : Below W.heap.size W w' := hPh.2.1 (by omega)
                refine rop_call 14 _ _ rfl #[.int .u8 (c.toNat : Int)] (by simp [e97]) (by kernel_rfl) (wanted_none rfl) ?_
                refine (HW.out w').mono ?_
                rintro e w2 ⟨rfl, hb⟩
                have hb2 := below_step hB (Nat.le_refl _) hb
                exact ⟨_, rfl, hK0 _ _ (GLx.old (by decide) hb) ⟨HBel.out.trans (hb2.mono HBW.out), fun _ => hb2, fun h => absurd h (by decide)⟩ rfl⟩
              · intro ac w' ph hF hPh hlt hP hU K hK0
                have e87 : ac.eval (.tmp 87) = .slice (some ⟨g, 0, none⟩) (slots + 1) (slots + 1) := hP 0 (by kernel_rfl)
                have e91 : ac.eval (.tmp 91) = .int .i64 (1 + (r : Int)) := hP 4 (by kernel_rfl)
                exact rop_idx _ _ _ rfl e87 e91 (index_strs g 0 (slots + 1) (slots + 1) (1 + r) _ (by simp) (by omega) w') (wanted_none rfl) (hK0 _ _ GLx.same hPh rfl)
              · intro ac w' ph hF hPh hlt hP hU K hK0
                obtain rfl : ph = 1 := (hlt 1 13 rfl).1 rfl
                have e99 : ac.eval (.tmp 99) = .pointer (some ⟨g, 0 + (1 + r), none⟩) := hP 12 (by kernel_rfl)
                have e98 : ac.eval (.tmp 98) = .string s := hP 11 (by kernel_rfl)
                have hB : Below W.heap.size W w' := hPh.2.1 (by omega)
                obtain ⟨w2, hr, hreg, hb2⟩ := Reg.put (HR.out.old hB) (i := 1 + r) (by omega) HS.out
                exact rop_storeG _ _ _ rfl e99 e98 (by first | exact hr | simpa using hr) (wanted_none rfl) (hK0 _ _ (GLx.last rfl) ⟨(HBel.out.trans (hB.mono HBW.out)).trans (hb2.below HG.out (Nat.le_trans HBW.out hB.size)), fun h => absurd h (by decide), fun _ => hreg⟩ trivial)
              · intro ac w' hF hPh hT
                rw [hF.setsG [87, 88, 89, 90, 91, 92, 93, 94, 95, 96, 97, 98, 99] (by kernel_rfl)]
                simp only [List.foldl_cons, List.foldl_nil, List.setIfInBounds_toArray, List.set_cons_succ, List.set_cons_zero]
                generalize ac.eval (.tmp 87) = u87
                generalize ac.eval (.tmp 88) = u88
                generalize ac.eval (.tmp 89) = u89
                generalize ac.eval (.tmp 90) = u90
                generalize ac.eval (.tmp 91) = u91
                generalize ac.eval (.tmp 92) = u92
                generalize ac.eval (.tmp 93) = u93
                generalize ac.eval (.tmp 94) = u94
                generalize ac.eval (.tmp 95) = u95
                generalize ac.eval (.tmp 96) = u96
                generalize ac.eval (.tmp 97) = u97
                generalize ac.eval (.tmp 98) = u98
                generalize ac.eval (.tmp 99) = u99
                clear  hT hF ac
                obtain ⟨hbel, -, hreg'⟩ := hPh
                have hreg := hreg' rfl
                clear hreg' HR HBel HBW
                go_wp2
                go_roundw
                case rel => exact ⟨i + 1, p + 1, nx, by simp, by simp, by simp, by omega, by omega, by omega, by omega, hreg, hbel⟩
                case measure => simp [intOf]; omega
            · subst ho
              subst hsv
              go_upto_region 20 with (fail)
              have e4 : ((kd : Int) == 4) = false := beq_eq_false_iff_ne.2 h4'
              simp only [e4]
              clear e4
              clear h4 h4' q6 q6' q6'' q5 q5' q5'' q3 q3' q3'' ld0 ld1 ld2 hn1
              go_wp2
              go_loopw [17, 18] (fun v17 v18 wr => ∃ (j : Nat) (ats : List Int), v18 = .int .i64 (j : Int) ∧ j ≤ n ∧ ats.length = j ∧ (∀ z ∈ ats, 0 ≤ z ∧ z ≤ 1023) ∧ (OwnI v17 ats wr ∧ ∀ k, v17.ownBlock = some k → B ≤ k ∧ k ≠ g) ∧ Reg g (slots + 1) wr ∧ Below B w wr) (fun _ v18 _ => n - (intOf v18).toNat)
              case atStart => exact ⟨0, [], rfl, by omega, rfl, (by intro z hz; cases hz), ⟨OwnI.nil _, fun k e => by simp [Value.ownBlock] at e⟩, hreg, hbel⟩
              case round =>
                clear hreg hbel
                obtain ⟨j, ats, rfl, hj, hal, hats, ⟨hO, hOb⟩, hreg, hbel⟩ := hrel
                have hw2 := IntWalk.i64_in ((j : Int) + 1) (by omega)
                by_cases hjn : j < n
                · have hjn' : (j : Int) < (n : Int) := by omega
                  obtain ⟨zj, hzj⟩ : ∃ zj, zj = wrap64 (a3 + (j : Int)) := ⟨_, rfl⟩
                  obtain ⟨y, hy, hya⟩ := and_1023 zj
                  rw [hzj] at hya
                  clear hzj
                  have c3 := HC3.out wr hbel
                  obtain ⟨va, vc, rfl⟩ := hO.slice
                  have hO' := hO
                  unfold OwnI at hO'
                  rw [hal] at hO' hOb ⊢
                  have HO := Lib.hid hO'
                  have HOB := Lib.hid hOb
                  have HREG := Lib.hid hreg
                  have HBL := Lib.hid hbel
                  have HAT := Lib.hid hats
                  have hBr : B ≤ wr.heap.size := by have := HBw.out; have := hbel.size; omega
                  clear hO hO' hOb hreg hbel hats
                  go_wp2_with (at_builtin; refine wpList_append_one Tryz.underlying23 info_int rfl (by decide) (by decide) rfl (.tmp 107) (.tmp 116) rfl (.slice va j vc) j (ats.map fun z => Value.int .i64 z) rfl (World.ownsRow.alloc HO.out _) wr.heap.size rfl [.int .i64 (y : Int)] rfl (by intro u hu; simp at hu; subst hu; rfl) (int_one wr _) (by omega) ?_; intro v6 w6 hO6 hg6 hgo6)
                  have hba : Below wr.heap.size wr (wr.alloc (.cells #[.int .i64 (y : Int)] 3)) := (Below.refl _ _).alloc (Nat.le_refl _) _
                  have hreg6 : Reg g (slots + 1) w6 := (HREG.out.old hba).grown hg6 (fun e => (HOB.out _ e).2 rfl)
                  have hbel6 : Below B w w6 := below_grown (HBL.out.trans (hba.mono (by omega))) hg6 (by simp; omega) (fun k e => (HOB.out k e).1)
                  go_roundw
                  case rel =>
                    refine ⟨j + 1, ats ++ [(y : Int)], by simp, by omega, by simp [hal], fun z hz => ?_, ⟨?_, fun k e => ?_⟩, hreg6, hbel6⟩
                    · rcases List.mem_append.1 hz with hz | hz
                      · exact HAT.out z hz
                      · rw [List.mem_singleton] at hz; omega
                    · unfold OwnI
                      rw [show (ats ++ [(y : Int)]).length = j + 1 by simp [hal]]
                      simpa using hO6
                    · rcases hgo6 k e with e' | e'
                      · exact HOB.out k e'
                      · simp at e'
                        have := HREG.out.1
                        omega
                  case measure => simp [intOf]; omega
                · have hjn' : ¬ (j : Int) < (n : Int) := by omega
                  obtain ⟨ib, hints, -⟩ := hO.ints
                  obtain ⟨va, vc, rfl⟩ := hO.slice
                  clear hOb
                  have hbd : ∀ k, -9223372036854775808 ≤ ats.getD k 0 ∧ ats.getD k 0 ≤ 9223372036854775807 := fun k => by
                    rw [List.getD_eq_getElem?_getD]
                    cases hx : ats[k]? with
                    | none => simp
                    | some z =>
                      have := hats z (List.mem_of_getElem? hx)
                      simp
                      omega
                  obtain ⟨s, hsd⟩ : ∃ s, s = fsL (keptN (sv : Int) 1099511627776) (atsK ats) := ⟨_, rfl⟩
                  have HS : Hid (s.size ≤ 1000000) := Lib.hid (by rw [hsd]; exact fillS_le _)
                  have hw := fun u (hu : Below wr.heap.size wr u) => refFirst_any (sv : Int) (.slice va ats.length vc) ats ib u (hints.kept fun h => ⟨Nat.lt_of_lt_of_le h hu.size, hu.block _ h⟩) hbd (by omega) (by omega)
                  simp only [← hsd] at hw
                  have HW := Lib.hid hw
                  clear hsd hw hbd hints hats hO hal
                  obtain ⟨r, hr⟩ : ∃ r, r = (p) % slots := ⟨_, rfl⟩
                  have hrs : r < slots := by rw [hr]; exact Nat.mod_lt _ (by omega)
                  have HE : Hid (((p : Int) : Int).tmod (slots : Int) = (r : Int)) := Lib.hid (by (rw [hr, Int.ofNat_tmod]) <;> rfl)
                  clear hr
                  obtain ⟨W, hW⟩ : ∃ W, W = wr := ⟨_, rfl⟩
                  subst hW
                  have HR := Lib.hid hreg
                  have HBel := Lib.hid hbel
                  have HBW : Hid (B ≤ W.heap.size) := Lib.hid (by have := HBel.out.size; have := HBw.out; omega)
                  clear hreg hbel
                  go_upto_region 25 with (fail)
                  try simp only [Act.put]
                  refine wp_region_ph (Lx := GLx 2) [RXP.is (.slice (some ⟨g, 0, none⟩) (slots + 1) (slots + 1)), RXP.is (.int .i64 (p : Int)), RXP.is (.int .i64 (slots : Int)), RXP.is (.int .i64 (r : Int)), RXP.is (.int .i64 (1 + (r : Int))), RXP.is (.int .i64 (sv : Int)), RXP.is (.slice va ats.length vc), RXP.is (.string s), RXP.is (.pointer (some ⟨g, 0 + (1 + r), none⟩)), RXP.any] [7, 9] (fun k w' => Below B w w' ∧ (k < 2 → Below W.heap.size W w') ∧ (k = 2 → Reg g (slots + 1) w')) (by kernel_rfl) (by kernel_rfl) (by kernel_rfl) (by kernel_rfl) (by kernel_rfl) (⟨below_drew HBel.out, fun _ => below_drew (Below.refl _ _), fun h => by cases h⟩) ⟨?_, ?_, ?_, ?_, ?_, ?_, ?_, ?_, ?_, ?_, trivial⟩ ?_
                  · intro ac w' ph hF hPh hlt hP hU K hK0
                    have e9 : ac.eval (.tmp 9) = .slice (some ⟨g, 0, none⟩) (slots + 1) (slots + 1) := hF.at 9 (by kernel_rfl)
                    exact rop_move _ rfl e9 (wanted_none rfl) (hK0 _ _ GLx.same hPh rfl)
                  · intro ac w' ph hF hPh hlt hP hU K hK0
                    have e11 : ac.eval (.tmp 11) = .int .i64 (p : Int) := hF.at 11 (by kernel_rfl)
                    exact rop_move _ rfl e11 (wanted_none rfl) (hK0 _ _ GLx.same hPh rfl)
                  · intro ac w' ph hF hPh hlt hP hU K hK0
                    have e0 : ac.eval (.tmp 0) = .int .i64 (slots : Int) := hF.at 0 (by kernel_rfl)
                    exact rop_move _ rfl e0 (wanted_none rfl) (hK0 _ _ GLx.same hPh rfl)
                  · intro ac w' ph hF hPh hlt hP hU K hK0
                    have e119 : ac.eval (.tmp 119) = .int .i64 (p : Int) := hP 1 (by kernel_rfl)
                    have e120 : ac.eval (.tmp 120) = .int .i64 (slots : Int) := hP 2 (by kernel_rfl)
                    exact rop_bin _ _ _ _ _ rfl e119 e120 (guard_int _ _ _ _ _ _ _ w') (rem_int _ _ _ HE.out (by omega) (by omega) w') (wanted_none rfl) (hK0 _ _ GLx.same hPh rfl)
                  · intro ac w' ph hF hPh hlt hP hU K hK0
                    have e121 : ac.eval (.tmp 121) = .int .i64 (r : Int) := hP 3 (by kernel_rfl)
                    exact rop_bin _ _ _ _ _ rfl rfl e121 (guard_int _ _ _ _ _ _ _ w') (add_int _ _ _ (rfl) (by omega) w') (wanted_none rfl) (hK0 _ _ GLx.same hPh rfl)
                  · intro ac w' ph hF hPh hlt hP hU K hK0
                    have e15 : ac.eval (.tmp 15) = .int .i64 (sv : Int) := hF.at 15 (by kernel_rfl)
                    exact rop_move _ rfl e15 (wanted_none rfl) (hK0 _ _ GLx.same hPh rfl)
                  · intro ac w' ph hF hPh hlt hP hU K hK0
                    have e17 : ac.eval (.tmp 17) = .slice va ats.length vc := hF.at 17 (by kernel_rfl)
                    exact rop_move _ rfl e17 (wanted_none rfl) (hK0 _ _ GLx.same hPh rfl)
                  · intro ac w' ph hF hPh hlt hP hU K hK0
                    obtain rfl : ph = 0 := (hlt 0 7 rfl).1 rfl
                    have e123 : ac.eval (.tmp 123) = .int .i64 (sv : Int) := hP 5 (by kernel_rfl)
                    have e124 : ac.eval (.tmp 124) = .slice va ats.length vc := hP 6 (by kernel_rfl)
                    have hB : Below W.heap.size W w' := hPh.2.1 (by omega)
                    refine rop_call 10 _ _ rfl #[.int .i64 (sv : Int), .slice va ats.length vc] (by simp [e123, e124]) (by kernel_rfl) (wanted_none rfl) ?_
                    refine (HW.out w' hB).mono ?_
                    rintro e w2 ⟨rfl, hb⟩
                    have hb2 := below_step hB (Nat.le_refl _) hb
                    exact ⟨_, rfl, hK0 _ _ (GLx.old (by decide) hb) ⟨HBel.out.trans (hb2.mono HBW.out), fun _ => hb2, fun h => absurd h (by decide)⟩ rfl⟩
                  · intro ac w' ph hF hPh hlt hP hU K hK0
                    have e118 : ac.eval (.tmp 118) = .slice (some ⟨g, 0, none⟩) (slots + 1) (slots + 1) := hP 0 (by kernel_rfl)
                    have e122 : ac.eval (.tmp 122) = .int .i64 (1 + (r : Int)) := hP 4 (by kernel_rfl)
                    exact rop_idx _ _ _ rfl e118 e122 (index_strs g 0 (slots + 1) (slots + 1) (1 + r) _ (by simp) (by omega) w') (wanted_none rfl) (hK0 _ _ GLx.same hPh rfl)
                  · intro ac w' ph hF hPh hlt hP hU K hK0
                    obtain rfl : ph = 1 := (hlt 1 9 rfl).1 rfl
                    have e126 : ac.eval (.tmp 126) = .pointer (some ⟨g, 0 + (1 + r), none⟩) := hP 8 (by kernel_rfl)
                    have e125 : ac.eval (.tmp 125) = .string s := hP 7 (by kernel_rfl)
                    have hB : Below W.heap.size W w' := hPh.2.1 (by omega)
                    obtain ⟨w2, hr, hreg, hb2⟩ := Reg.put (HR.out.old hB) (i := 1 + r) (by omega) HS.out
                    exact rop_storeG _ _ _ rfl e126 e125 (by first | exact hr | simpa using hr) (wanted_none rfl) (hK0 _ _ (GLx.last rfl) ⟨(HBel.out.trans (hB.mono HBW.out)).trans (hb2.below HG.out (Nat.le_trans HBW.out hB.size)), fun h => absurd h (by decide), fun _ => hreg⟩ trivial)
                  · intro ac w' hF hPh hT
                    rw [hF.setsG [118, 119, 120, 121, 122, 123, 124, 125, 126] (by kernel_rfl)]
                    simp only [List.foldl_cons, List.foldl_nil, List.setIfInBounds_toArray, List.set_cons_succ, List.set_cons_zero]
                    generalize ac.eval (.tmp 118) = u118
                    generalize ac.eval (.tmp 119) = u119
                    generalize ac.eval (.tmp 120) = u120
                    generalize ac.eval (.tmp 121) = u121
                    generalize ac.eval (.tmp 122) = u122
                    generalize ac.eval (.tmp 123) = u123
                    generalize ac.eval (.tmp 124) = u124
                    generalize ac.eval (.tmp 125) = u125
                    generalize ac.eval (.tmp 126) = u126
                    clear  hT hF ac
                    obtain ⟨hbel, -, hreg'⟩ := hPh
                    have hreg := hreg' rfl
                    clear hreg' HR HBel HBW HW HS HE
                    by_cases k3 : kd = 3
                    · have k3' : (kd : Int) = 3 := by omega
                      go_wp2
                      go_roundw
                      case rel => exact ⟨i + 1, p + 1, sv, by simp, by simp, by simp, by omega, by omega, by omega, by omega, hreg, hbel⟩
                      case measure => simp [intOf]; omega
                    · have k3' : ¬ (kd : Int) = 3 := by omega
                      go_wp2
                      go_loopw [19] (fun v19 wr => ∃ j : Nat, v19 = .int .i64 (j : Int) ∧ j ≤ n ∧ Reg g (slots + 1) wr ∧ Below B w wr) (fun v19 _ => n - (intOf v19).toNat)
                      case atStart => exact ⟨0, rfl, by omega, hreg, hbel⟩
                      case round =>
                        clear hreg hbel
                        obtain ⟨j, rfl, hj, hreg, hbel⟩ := hrel
                        have hw2 := IntWalk.i64_in ((j : Int) + 1) (by omega)
                        by_cases hjn : j < n
                        · have hjn' : (j : Int) < (n : Int) := by omega
                          obtain ⟨a3j, hzj⟩ := add_ex a3 (j : Int)
                          have HAD := Lib.hid hzj
                          clear hzj
                          obtain ⟨r, hr⟩ : ∃ r, r = (p + 1 + j) % slots := ⟨_, rfl⟩
                          have hrs : r < slots := by rw [hr]; exact Nat.mod_lt _ (by omega)
                          have HE : Hid ((((p : Int) + 1 + (j : Int)) : Int).tmod (slots : Int) = (r : Int)) := Lib.hid (by (rw [hr, Int.ofNat_tmod]) <;> rfl)
                          clear hr
                          obtain ⟨c, hc⟩ := conv_u8 a3j
                          have HCV := Lib.hid hc
                          obtain ⟨s, hsd⟩ : ∃ s, s = withB c := ⟨_, rfl⟩
                          have HS : Hid (s.size ≤ 1000000) := Lib.hid (by rw [hsd, withB_size]; decide)
                          have hw := fun u => with7_any c u
                          simp only [← hsd] at hw
                          have HW := Lib.hid hw
                          clear hc hsd hw
                          obtain ⟨W, hW⟩ : ∃ W, W = wr := ⟨_, rfl⟩
                          subst hW
                          have HR := Lib.hid hreg
                          have HBel := Lib.hid hbel
                          have HBW : Hid (B ≤ W.heap.size) := Lib.hid (by have := HBel.out.size; have := HBw.out; omega)
                          clear hreg hbel
                          go_upto_region 31 with (fail)
                          try simp only [Act.put]
                          refine wp_region_ph (Lx := GLx 2) [RXP.is (.slice (some ⟨g, 0, none⟩) (slots + 1) (slots + 1)), RXP.is (.int .i64 (p : Int)), RXP.is (.int .i64 ((p : Int) + 1)), RXP.is (.int .i64 (j : Int)), RXP.is (.int .i64 ((p : Int) + 1 + (j : Int))), RXP.is (.int .i64 (slots : Int)), RXP.is (.int .i64 (r : Int)), RXP.is (.int .i64 (1 + (r : Int))), RXP.is (.slice (some ⟨b, off, none⟩) l.length cap), RXP.is (.int .i64 (i : Int)), RXP.is (.pointer (some ⟨b, off + i * 4, none⟩)), RXP.is (.pointer (some ⟨b, off + i * 4 + 3, none⟩)), RXP.is (.int .i64 a3), RXP.is (.int .i64 (j : Int)), RXP.is (.int .i64 a3j), RXP.is (.int .u8 (c.toNat : Int)), RXP.is (.string s), RXP.is (.pointer (some ⟨g, 0 + (1 + r), none⟩)), RXP.any] [16, 18] (fun k w' => Below B w w' ∧ (k < 2 → Below W.heap.size W w') ∧ (k = 2 → Reg g (slots + 1) w')) (by kernel_rfl) (by kernel_rfl) (by kernel_rfl) (by kernel_rfl) (by kernel_rfl) (⟨below_drew HBel.out, fun _ => below_drew (Below.refl _ _), fun h => by cases h⟩) ⟨?_, ?_, ?_, ?_, ?_, ?_, ?_, ?_, ?_, ?_, ?_, ?_, ?_, ?_, ?_, ?_, ?_, ?_, ?_, trivial⟩ ?_
                          · intro ac w' ph hF hPh hlt hP hU K hK0
                            have e9 : ac.eval (.tmp 9) = .slice (some ⟨g, 0, none⟩) (slots + 1) (slots + 1) := hF.at 9 (by kernel_rfl)
                            exact rop_move _ rfl e9 (wanted_none rfl) (hK0 _ _ GLx.same hPh rfl)
                          · intro ac w' ph hF hPh hlt hP hU K hK0
                            have e11 : ac.eval (.tmp 11) = .int .i64 (p : Int) := hF.at 11 (by kernel_rfl)
                            exact rop_move _ rfl e11 (wanted_none rfl) (hK0 _ _ GLx.same hPh rfl)
                          · intro ac w' ph hF hPh hlt hP hU K hK0
                            have e137 : ac.eval (.tmp 137) = .int .i64 (p : Int) := hP 1 (by kernel_rfl)
                            exact rop_bin _ _ _ _ _ rfl e137 rfl (guard_int _ _ _ _ _ _ _ w') (add_int _ _ _ (rfl) (by omega) w') (wanted_none rfl) (hK0 _ _ GLx.same hPh rfl)
                          · intro ac w' ph hF hPh hlt hP hU K hK0
                            have e19 : ac.eval (.tmp 19) = .int .i64 (j : Int) := hF.at 19 (by kernel_rfl)
                            exact rop_move _ rfl e19 (wanted_none rfl) (hK0 _ _ GLx.same hPh rfl)
                          · intro ac w' ph hF hPh hlt hP hU K hK0
                            have e138 : ac.eval (.tmp 138) = .int .i64 ((p : Int) + 1) := hP 2 (by kernel_rfl)
                            have e139 : ac.eval (.tmp 139) = .int .i64 (j : Int) := hP 3 (by kernel_rfl)
                            exact rop_bin _ _ _ _ _ rfl e138 e139 (guard_int _ _ _ _ _ _ _ w') (add_int _ _ _ (rfl) (by omega) w') (wanted_none rfl) (hK0 _ _ GLx.same hPh rfl)
                          · intro ac w' ph hF hPh hlt hP hU K hK0
                            have e0 : ac.eval (.tmp 0) = .int .i64 (slots : Int) := hF.at 0 (by kernel_rfl)
                            exact rop_move _ rfl e0 (wanted_none rfl) (hK0 _ _ GLx.same hPh rfl)
                          · intro ac w' ph hF hPh hlt hP hU K hK0
                            have e140 : ac.eval (.tmp 140) = .int .i64 ((p : Int) + 1 + (j : Int)) := hP 4 (by kernel_rfl)
                            have e141 : ac.eval (.tmp 141) = .int .i64 (slots : Int) := hP 5 (by kernel_rfl)
                            exact rop_bin _ _ _ _ _ rfl e140 e141 (guard_int _ _ _ _ _ _ _ w') (rem_int _ _ _ HE.out (by omega) (by omega) w') (wanted_none rfl) (hK0 _ _ GLx.same hPh rfl)
                          · intro ac w' ph hF hPh hlt hP hU K hK0
                            have e142 : ac.eval (.tmp 142) = .int .i64 (r : Int) := hP 6 (by kernel_rfl)
                            exact rop_bin _ _ _ _ _ rfl rfl e142 (guard_int _ _ _ _ _ _ _ w') (add_int _ _ _ (rfl) (by omega) w') (wanted_none rfl) (hK0 _ _ GLx.same hPh rfl)
                          · intro ac w' ph hF hPh hlt hP hU K hK0
                            have e3 : ac.eval (.tmp 3) = .slice (some ⟨b, off, none⟩) l.length cap := hF.at 3 (by kernel_rfl)
                            exact rop_move _ rfl e3 (wanted_none rfl) (hK0 _ _ GLx.same hPh rfl)
                          · intro ac w' ph hF hPh hlt hP hU K hK0
                            have e13 : ac.eval (.tmp 13) = .int .i64 (i : Int) := hF.at 13 (by kernel_rfl)
                            exact rop_move _ rfl e13 (wanted_none rfl) (hK0 _ _ GLx.same hPh rfl)
                          · intro ac w' ph hF hPh hlt hP hU K hK0
                            have e144 : ac.eval (.tmp 144) = .slice (some ⟨b, off, none⟩) l.length cap := hP 8 (by kernel_rfl)
                            have e145 : ac.eval (.tmp 145) = .int .i64 (i : Int) := hP 9 (by kernel_rfl)
                            exact rop_idx _ _ _ rfl e144 e145 (index_part b off l.length cap i hil w') (wanted_none rfl) (hK0 _ _ GLx.same hPh rfl)
                          · intro ac w' ph hF hPh hlt hP hU K hK0
                            have e146 : ac.eval (.tmp 146) = .pointer (some ⟨b, off + i * 4, none⟩) := hP 10 (by kernel_rfl)
                            exact rop_fld _ _ _ rfl e146 (fld_part b (off + i * 4) 3 (by decide) w') (wanted_none rfl) (hK0 _ _ GLx.same hPh rfl)
                          · intro ac w' ph hF hPh hlt hP hU K hK0
                            have e147 : ac.eval (.tmp 147) = .pointer (some ⟨b, off + i * 4 + 3, none⟩) := hP 11 (by kernel_rfl)
                            exact rop_ld _ _ rfl e147 (load_int (HC3.out w' hPh.1)) (wanted_none rfl) (hK0 _ _ GLx.same hPh rfl)
                          · intro ac w' ph hF hPh hlt hP hU K hK0
                            have e19 : ac.eval (.tmp 19) = .int .i64 (j : Int) := hF.at 19 (by kernel_rfl)
                            exact rop_move _ rfl e19 (wanted_none rfl) (hK0 _ _ GLx.same hPh rfl)
                          · intro ac w' ph hF hPh hlt hP hU K hK0
                            have e148 : ac.eval (.tmp 148) = .int .i64 a3 := hP 12 (by kernel_rfl)
                            have e149 : ac.eval (.tmp 149) = .int .i64 (j : Int) := hP 13 (by kernel_rfl)
                            exact rop_bin _ _ _ _ _ rfl e148 e149 (guard_int _ _ _ _ _ _ _ w') (HAD.out w') (wanted_none rfl) (hK0 _ _ GLx.same hPh rfl)
                          · intro ac w' ph hF hPh hlt hP hU K hK0
                            have e150 : ac.eval (.tmp 150) = .int .i64 a3j := hP 14 (by kernel_rfl)
                            exact rop_convG _ _ _ rfl e150 (HCV.out w') (wanted_none rfl) (hK0 _ _ GLx.same hPh rfl)
                          · intro ac w' ph hF hPh hlt hP hU K hK0
                            obtain rfl : ph = 0 := (hlt 0 16 rfl).1 rfl
                            have e151 : ac.eval (.tmp 151) = .int .u8 (c.toNat : Int) := hP 15 (by kernel_rfl)
                            have hB : Below W.heap.size W w' := hPh.2.1 (by omega)
                            refine rop_call 14 _ _ rfl #[.int .u8 (c.toNat : Int)] (by simp [e151]) (by kernel_rfl) (wanted_none rfl) ?_
                            refine (HW.out w').mono ?_
                            rintro e w2 ⟨rfl, hb⟩
                            have hb2 := below_step hB (Nat.le_refl _) hb
                            exact ⟨_, rfl, hK0 _ _ (GLx.old (by decide) hb) ⟨HBel.out.trans (hb2.mono HBW.out), fun _ => hb2, fun h => absurd h (by decide)⟩ rfl⟩
                          · intro ac w' ph hF hPh hlt hP hU K hK0
                            have e136 : ac.eval (.tmp 136) = .slice (some ⟨g, 0, none⟩) (slots + 1) (slots + 1) := hP 0 (by kernel_rfl)
                            have e143 : ac.eval (.tmp 143) = .int .i64 (1 + (r : Int)) := hP 7 (by kernel_rfl)
                            exact rop_idx _ _ _ rfl e136 e143 (index_strs g 0 (slots + 1) (slots + 1) (1 + r) _ (by simp) (by omega) w') (wanted_none rfl) (hK0 _ _ GLx.same hPh rfl)
                          · intro ac w' ph hF hPh hlt hP hU K hK0
                            obtain rfl : ph = 1 := (hlt 1 18 rfl).1 rfl
                            have e153 : ac.eval (.tmp 153) = .pointer (some ⟨g, 0 + (1 + r), none⟩) := hP 17 (by kernel_rfl)
                            have e152 : ac.eval (.tmp 152) = .string s := hP 16 (by kernel_rfl)
                            have hB : Below W.heap.size W w' := hPh.2.1 (by omega)
                            obtain ⟨w2, hr, hreg, hb2⟩ := Reg.put (HR.out.old hB) (i := 1 + r) (by omega) HS.out
                            exact rop_storeG _ _ _ rfl e153 e152 (by first | exact hr | simpa using hr) (wanted_none rfl) (hK0 _ _ (GLx.last rfl) ⟨(HBel.out.trans (hB.mono HBW.out)).trans (hb2.below HG.out (Nat.le_trans HBW.out hB.size)), fun h => absurd h (by decide), fun _ => hreg⟩ trivial)
                          · intro ac w' hF hPh hT
                            rw [hF.setsG [136, 137, 138, 139, 140, 141, 142, 143, 144, 145, 146, 147, 148, 149, 150, 151, 152, 153] (by kernel_rfl)]
                            simp only [List.foldl_cons, List.foldl_nil, List.setIfInBounds_toArray, List.set_cons_succ, List.set_cons_zero]
                            generalize ac.eval (.tmp 136) = u136
                            generalize ac.eval (.tmp 137) = u137
                            generalize ac.eval (.tmp 138) = u138
                            generalize ac.eval (.tmp 139) = u139
                            generalize ac.eval (.tmp 140) = u140
                            generalize ac.eval (.tmp 141) = u141
                            generalize ac.eval (.tmp 142) = u142
                            generalize ac.eval (.tmp 143) = u143
                            generalize ac.eval (.tmp 144) = u144
                            generalize ac.eval (.tmp 145) = u145
                            generalize ac.eval (.tmp 146) = u146
                            generalize ac.eval (.tmp 147) = u147
                            generalize ac.eval (.tmp 148) = u148
                            generalize ac.eval (.tmp 149) = u149
                            generalize ac.eval (.tmp 150) = u150
                            generalize ac.eval (.tmp 151) = u151
                            generalize ac.eval (.tmp 152) = u152
                            generalize ac.eval (.tmp 153) = u153
                            clear  hT hF ac
                            obtain ⟨hbel, -, hreg'⟩ := hPh
                            have hreg := hreg' rfl
                            clear hreg' HR HBel HBW
                            go_wp2
                            go_roundw
                            case rel => exact ⟨j + 1, by simp, by omega, hreg, hbel⟩
                            case measure => simp [intOf]; omega
                        · have hjn' : ¬ (j : Int) < (n : Int) := by omega
                          by_cases k2 : kd < 2
                          · have k2' : (kd : Int) < 2 := by omega
                            obtain ⟨s, hsd⟩ : ∃ s, s = lsL (keptN (sv : Int) 1099511627776) (keptN (n : Int) 1099511627776) := ⟨_, rfl⟩
                            have HS : Hid (s.size ≤ 1000000) := Lib.hid (by rw [hsd]; exact fillS_le _)
                            have hw := fun u => refLast_any (sv : Int) (n : Int) u (by omega) (by omega) (by omega) (by omega)
                            simp only [← hsd] at hw
                            have HW := Lib.hid hw
                            clear hsd hw
                            obtain ⟨r, hr⟩ : ∃ r, r = (p + n + 1) % slots := ⟨_, rfl⟩
                            have hrs : r < slots := by rw [hr]; exact Nat.mod_lt _ (by omega)
                            have HE : Hid ((((p : Int) + (n : Int) + 1) : Int).tmod (slots : Int) = (r : Int)) := Lib.hid (by (rw [hr, Int.ofNat_tmod]) <;> rfl)
                            clear hr
                            obtain ⟨W, hW⟩ : ∃ W, W = wr := ⟨_, rfl⟩
                            subst hW
                            have HR := Lib.hid hreg
                            have HBel := Lib.hid hbel
                            have HBW : Hid (B ≤ W.heap.size) := Lib.hid (by have := HBel.out.size; have := HBw.out; omega)
                            clear hreg hbel
                            go_upto_region 33 with (fail)
                            try simp only [Act.put]
                            refine wp_region_ph (Lx := GLx 2) [RXP.is (.slice (some ⟨g, 0, none⟩) (slots + 1) (slots + 1)), RXP.is (.int .i64 (p : Int)), RXP.is (.int .i64 (n : Int)), RXP.is (.int .i64 ((p : Int) + (n : Int))), RXP.is (.int .i64 ((p : Int) + (n : Int) + 1)), RXP.is (.int .i64 (slots : Int)), RXP.is (.int .i64 (r : Int)), RXP.is (.int .i64 (1 + (r : Int))), RXP.is (.int .i64 (sv : Int)), RXP.is (.int .i64 (n : Int)), RXP.is (.string s), RXP.is (.pointer (some ⟨g, 0 + (1 + r), none⟩)), RXP.any] [10, 12] (fun k w' => Below B w w' ∧ (k < 2 → Below W.heap.size W w') ∧ (k = 2 → Reg g (slots + 1) w')) (by kernel_rfl) (by kernel_rfl) (by kernel_rfl) (by kernel_rfl) (by kernel_rfl) (⟨below_drew HBel.out, fun _ => below_drew (Below.refl _ _), fun h => by cases h⟩) ⟨?_, ?_, ?_, ?_, ?_, ?_, ?_, ?_, ?_, ?_, ?_, ?_, ?_, trivial⟩ ?_
                            · intro ac w' ph hF hPh hlt hP hU K hK0
                              have e9 : ac.eval (.tmp 9) = .slice (some ⟨g, 0, none⟩) (slots + 1) (slots + 1) := hF.at 9 (by kernel_rfl)
                              exact rop_move _ rfl e9 (wanted_none rfl) (hK0 _ _ GLx.same hPh rfl)
                            · intro ac w' ph hF hPh hlt hP hU K hK0
                              have e11 : ac.eval (.tmp 11) = .int .i64 (p : Int) := hF.at 11 (by kernel_rfl)
                              exact rop_move _ rfl e11 (wanted_none rfl) (hK0 _ _ GLx.same hPh rfl)
                            · intro ac w' ph hF hPh hlt hP hU K hK0
                              have e14 : ac.eval (.tmp 14) = .int .i64 (n : Int) := hF.at 14 (by kernel_rfl)
                              exact rop_move _ rfl e14 (wanted_none rfl) (hK0 _ _ GLx.same hPh rfl)
                            · intro ac w' ph hF hPh hlt hP hU K hK0
                              have e157 : ac.eval (.tmp 157) = .int .i64 (p : Int) := hP 1 (by kernel_rfl)
                              have e158 : ac.eval (.tmp 158) = .int .i64 (n : Int) := hP 2 (by kernel_rfl)
                              exact rop_bin _ _ _ _ _ rfl e157 e158 (guard_int _ _ _ _ _ _ _ w') (add_int _ _ _ (rfl) (by omega) w') (wanted_none rfl) (hK0 _ _ GLx.same hPh rfl)
                            · intro ac w' ph hF hPh hlt hP hU K hK0
                              have e159 : ac.eval (.tmp 159) = .int .i64 ((p : Int) + (n : Int)) := hP 3 (by kernel_rfl)
                              exact rop_bin _ _ _ _ _ rfl e159 rfl (guard_int _ _ _ _ _ _ _ w') (add_int _ _ _ (rfl) (by omega) w') (wanted_none rfl) (hK0 _ _ GLx.same hPh rfl)
                            · intro ac w' ph hF hPh hlt hP hU K hK0
                              have e0 : ac.eval (.tmp 0) = .int .i64 (slots : Int) := hF.at 0 (by kernel_rfl)
                              exact rop_move _ rfl e0 (wanted_none rfl) (hK0 _ _ GLx.same hPh rfl)
                            · intro ac w' ph hF hPh hlt hP hU K hK0
                              have e160 : ac.eval (.tmp 160) = .int .i64 ((p : Int) + (n : Int) + 1) := hP 4 (by kernel_rfl)
                              have e161 : ac.eval (.tmp 161) = .int .i64 (slots : Int) := hP 5 (by kernel_rfl)
                              exact rop_bin _ _ _ _ _ rfl e160 e161 (guard_int _ _ _ _ _ _ _ w') (rem_int _ _ _ HE.out (by omega) (by omega) w') (wanted_none rfl) (hK0 _ _ GLx.same hPh rfl)
                            · intro ac w' ph hF hPh hlt hP hU K hK0
                              have e162 : ac.eval (.tmp 162) = .int .i64 (r : Int) := hP 6 (by kernel_rfl)
                              exact rop_bin _ _ _ _ _ rfl rfl e162 (guard_int _ _ _ _ _ _ _ w') (add_int _ _ _ (rfl) (by omega) w') (wanted_none rfl) (hK0 _ _ GLx.same hPh rfl)
                            · intro ac w' ph hF hPh hlt hP hU K hK0
                              have e15 : ac.eval (.tmp 15) = .int .i64 (sv : Int) := hF.at 15 (by kernel_rfl)
                              exact rop_move _ rfl e15 (wanted_none rfl) (hK0 _ _ GLx.same hPh rfl)
                            · intro ac w' ph hF hPh hlt hP hU K hK0
                              have e14 : ac.eval (.tmp 14) = .int .i64 (n : Int) := hF.at 14 (by kernel_rfl)
                              exact rop_move _ rfl e14 (wanted_none rfl) (hK0 _ _ GLx.same hPh rfl)
                            · intro ac w' ph hF hPh hlt hP hU K hK0
                              obtain rfl : ph = 0 := (hlt 0 10 rfl).1 rfl
                              have e164 : ac.eval (.tmp 164) = .int .i64 (sv : Int) := hP 8 (by kernel_rfl)
                              have e165 : ac.eval (.tmp 165) = .int .i64 (n : Int) := hP 9 (by kernel_rfl)
                              have hB : Below W.heap.size W w' := hPh.2.1 (by omega)
                              refine rop_call 12 _ _ rfl #[.int .i64 (sv : Int), .int .i64 (n : Int)] (by simp [e164, e165]) (by kernel_rfl) (wanted_none rfl) ?_
                              refine (HW.out w').mono ?_
                              rintro e w2 ⟨rfl, hb⟩
                              have hb2 := below_step hB (Nat.le_refl _) hb
                              exact ⟨_, rfl, hK0 _ _ (GLx.old (by decide) hb) ⟨HBel.out.trans (hb2.mono HBW.out), fun _ => hb2, fun h => absurd h (by decide)⟩ rfl⟩
                            · intro ac w' ph hF hPh hlt hP hU K hK0
                              have e156 : ac.eval (.tmp 156) = .slice (some ⟨g, 0, none⟩) (slots + 1) (slots + 1) := hP 0 (by kernel_rfl)
                              have e163 : ac.eval (.tmp 163) = .int .i64 (1 + (r : Int)) := hP 7 (by kernel_rfl)
                              exact rop_idx _ _ _ rfl e156 e163 (index_strs g 0 (slots + 1) (slots + 1) (1 + r) _ (by simp) (by omega) w') (wanted_none rfl) (hK0 _ _ GLx.same hPh rfl)
                            · intro ac w' ph hF hPh hlt hP hU K hK0
                              obtain rfl : ph = 1 := (hlt 1 12 rfl).1 rfl
                              have e167 : ac.eval (.tmp 167) = .pointer (some ⟨g, 0 + (1 + r), none⟩) := hP 11 (by kernel_rfl)
                              have e166 : ac.eval (.tmp 166) = .string s := hP 10 (by kernel_rfl)
                              have hB : Below W.heap.size W w' := hPh.2.1 (by omega)
                              obtain ⟨w2, hr, hreg, hb2⟩ := Reg.put (HR.out.old hB) (i := 1 + r) (by omega) HS.out
                              exact rop_storeG _ _ _ rfl e167 e166 (by first | exact hr | simpa using hr) (wanted_none rfl) (hK0 _ _ (GLx.last rfl) ⟨(HBel.out.trans (hB.mono HBW.out)).trans (hb2.below HG.out (Nat.le_trans HBW.out hB.size)), fun h => absurd h (by decide), fun _ => hreg⟩ trivial)
                            · intro ac w' hF hPh hT
                              rw [hF.setsG [156, 157, 158, 159, 160, 161, 162, 163, 164, 165, 166, 167] (by kernel_rfl)]
                              simp only [List.foldl_cons, List.foldl_nil, List.setIfInBounds_toArray, List.set_cons_succ, List.set_cons_zero]
                              generalize ac.eval (.tmp 156) = u156
                              generalize ac.eval (.tmp 157) = u157
                              generalize ac.eval (.tmp 158) = u158
                              generalize ac.eval (.tmp 159) = u159
                              generalize ac.eval (.tmp 160) = u160
                              generalize ac.eval (.tmp 161) = u161
                              generalize ac.eval (.tmp 162) = u162
                              generalize ac.eval (.tmp 163) = u163
                              generalize ac.eval (.tmp 164) = u164
                              generalize ac.eval (.tmp 165) = u165
                              generalize ac.eval (.tmp 166) = u166
                              generalize ac.eval (.tmp 167) = u167
                              clear  hT hF ac
                              obtain ⟨hbel, -, hreg'⟩ := hPh
                              have hreg := hreg' rfl
                              clear hreg' HR HBel HBW
                              go_wp2
                              go_roundw
                              case rel => exact ⟨i + 1, p + n + 2, sv + 1, by simp, by simp, by simp, by omega, by omega, by omega, by omega, hreg, hbel⟩
                              case measure => simp [intOf]; omega
                          · have k2' : ¬ (kd : Int) < 2 := by omega
                            go_wp2
                            go_roundw
                            case rel => exact ⟨i + 1, p + n + 2, sv + 1, by simp, by simp, by simp, by omega, by omega, by omega, by omega, hreg, hbel⟩
                            case measure => simp [intOf]; omega
          · obtain ⟨sv, hsv⟩ : ∃ sv, sv = nx + r3 := ⟨_, rfl⟩
            have hsvb : sv ≤ 549755813888 + 20 := by omega
            have hadd : (nx : Int) + (r3 : Int) = (sv : Int) := by omega
            rcases h4 with ⟨h4, h4'⟩ | ⟨h4, h4'⟩
            · clear hsv
              obtain ⟨r, hr⟩ : ∃ r, r = (p) % slots := ⟨_, rfl⟩
              have hrs : r < slots := by rw [hr]; exact Nat.mod_lt _ (by omega)
              have HE : Hid (((p : Int) : Int).tmod (slots : Int) = (r : Int)) := Lib.hid (by (rw [hr, Int.ofNat_tmod]) <;> rfl)
              clear hr
              obtain ⟨c, hc⟩ := conv_u8 a3
              have HCV := Lib.hid hc
              obtain ⟨s, hsd⟩ : ∃ s, s = withB c := ⟨_, rfl⟩
              have HS : Hid (s.size ≤ 1000000) := Lib.hid (by rw [hsd, withB_size]; decide)
              have hw := fun u => with7_any c u
              simp only [← hsd] at hw
              have HW := Lib.hid hw
              clear hc hsd hw
              obtain ⟨W, hW⟩ : ∃ W, W = wr := ⟨_, rfl⟩
              subst hW
              have HR := Lib.hid hreg
              have HBel := Lib.hid hbel
              have HBW : Hid (B ≤ W.heap.size) := Lib.hid (by have := HBel.out.size; have := HBw.out; omega)
              clear hreg hbel
              go_upto_region 18 with (fail)
              try simp only [Act.put]
              refine wp_region_ph (Lx := GLx 2) [RXP.is (.slice (some ⟨g, 0, none⟩) (slots + 1) (slots + 1)), RXP.is (.int .i64 (p : Int)), RXP.is (.int .i64 (slots : Int)), RXP.is (.int .i64 (r : Int)), RXP.is (.int .i64 (1 + (r : Int))), RXP.is (.slice (some ⟨b, off, none⟩) l.length cap), RXP.is (.int .i64 (i : Int)), RXP.is (.pointer (some ⟨b, off + i * 4, none⟩)), RXP.is (.pointer (some ⟨b, off + i * 4 + 3, none⟩)), RXP.is (.int .i64 a3), RXP.is (.int .u8 (c.toNat : Int)), RXP.is (.string s), RXP.is (.pointer (some ⟨g, 0 + (1 + r), none⟩)), RXP.any] [11, 13] (fun k w' => Below B w w' ∧ (k < 2 → Below W.heap.size W w') ∧ (k = 2 → Reg g (slots + 1) w')) (by kernel_rfl) (by kernel_rfl) (by kernel_rfl) (by kernel_rfl) (by kernel_rfl) (⟨below_drew HBel.out, fun _ => below_drew (Below.refl _ _), fun h => by cases h⟩) ⟨?_, ?_, ?_, ?_, ?_, ?_, ?_, ?_, ?_, ?_, ?_, ?_, ?_, ?_, trivial⟩ ?_
              · intro ac w' ph hF hPh hlt hP hU K hK0
                have e9 : ac.eval (.tmp 9) = .slice (some ⟨g, 0, none⟩) (slots + 1) (slots + 1) := hF.at 9 (by kernel_rfl)
                exact rop_move _ rfl e9 (wanted_none rfl) (hK0 _ _ GLx.same hPh rfl)
              · intro ac w' ph hF hPh hlt hP hU K hK0
                have e11 : ac.eval (.tmp 11) = .int .i64 (p : Int) := hF.at 11 (by kernel_rfl)
                exact rop_move _ rfl e11 (wanted_none rfl) (hK0 _ _ GLx.same hPh rfl)
              · intro ac w' ph hF hPh hlt hP hU K hK0
                have e0 : ac.eval (.tmp 0) = .int .i64 (slots : Int) := hF.at 0 (by kernel_rfl)
                exact rop_move _ rfl e0 (wanted_none rfl) (hK0 _ _ GLx.same hPh rfl)
              · intro ac w' ph hF hPh hlt hP hU K hK0
                have e88 : ac.eval (.tmp 88) = .int .i64 (p : Int) := hP 1 (by kernel_rfl)
                have e89 : ac.eval (.tmp 89) = .int .i64 (slots : Int) := hP 2 (by kernel_rfl)
                exact rop_bin _ _ _ _ _ rfl e88 e89 (guard_int _ _ _ _ _ _ _ w') (rem_int _ _ _ HE.out (by omega) (by omega) w') (wanted_none rfl) (hK0 _ _ GLx.same hPh rfl)
              · intro ac w' ph hF hPh hlt hP hU K hK0
                have e90 : ac.eval (.tmp 90) = .int .i64 (r : Int) := hP 3 (by kernel_rfl)
                exact rop_bin _ _ _ _ _ rfl rfl e90 (guard_int _ _ _ _ _ _ _ w') (add_int _ _ _ (rfl) (by omega) w') (wanted_none rfl) (hK0 _ _ GLx.same hPh rfl)
              · intro ac w' ph hF hPh hlt hP hU K hK0
                have e3 : ac.eval (.tmp 3) = .slice (some ⟨b, off, none⟩) l.length cap := hF.at 3 (by kernel_rfl)
                exact rop_move _ rfl e3 (wanted_none rfl) (hK0 _ _ GLx.same hPh rfl)
              · intro ac w' ph hF hPh hlt hP hU K hK0
                have e13 : ac.eval (.tmp 13) = .int .i64 (i : Int) := hF.at 13 (by kernel_rfl)
                exact rop_move _ rfl e13 (wanted_none rfl) (hK0 _ _ GLx.same hPh rfl)
              · intro ac w' ph hF hPh hlt hP hU K hK0
                have e92 : ac.eval (.tmp 92) = .slice (some ⟨b, off, none⟩) l.length cap := hP 5 (by kernel_rfl)
                have e93 : ac.eval (.tmp 93) = .int .i64 (i : Int) := hP 6 (by kernel_rfl)
                exact rop_idx _ _ _ rfl e92 e93 (index_part b off l.length cap i hil w') (wanted_none rfl) (hK0 _ _ GLx.same hPh rfl)
              · intro ac w' ph hF hPh hlt hP hU K hK0
                have e94 : ac.eval (.tmp 94) = .pointer (some ⟨b, off + i * 4, none⟩) := hP 7 (by kernel_rfl)
                exact rop_fld _ _ _ rfl e94 (fld_part b (off + i * 4) 3 (by decide) w') (wanted_none rfl) (hK0 _ _ GLx.same hPh rfl)
              · intro ac w' ph hF hPh hlt hP hU K hK0
                have e95 : ac.eval (.tmp 95) = .pointer (some ⟨b, off + i * 4 + 3, none⟩) := hP 8 (by kernel_rfl)
                exact rop_ld _ _ rfl e95 (load_int (HC3.out w' hPh.1)) (wanted_none rfl) (hK0 _ _ GLx.same hPh rfl)
              · intro ac w' ph hF hPh hlt hP hU K hK0
                have e96 : ac.eval (.tmp 96) = .int .i64 a3 := hP 9 (by kernel_rfl)
                exact rop_convG _ _ _ rfl e96 (HCV.out w') (wanted_none rfl) (hK0 _ _ GLx.same hPh rfl)
              · intro ac w' ph hF hPh hlt hP hU K hK0
                obtain rfl : ph = 0 := (hlt 0 11 rfl).1 rfl
                have e97 : ac.eval (.tmp 97) = .int .u8 (c.toNat : Int) := hP 10 (by kernel_rfl)
                have hB : Below W.heap.size W w' := hPh.2.1 (by omega)
                refine rop_call 14 _ _ rfl #[.int .u8 (c.toNat : Int)] (by simp [e97]) (by kernel_rfl) (wanted_none rfl) ?_
                refine (HW.out w').mono ?_
                rintro e w2 ⟨rfl, hb⟩
                have hb2 := below_step hB (Nat.le_refl _) hb
                exact ⟨_, rfl, hK0 _ _ (GLx.old (by decide) hb) ⟨HBel.out.trans (hb2.mono HBW.out), fun _ => hb2, fun h => absurd h (by decide)⟩ rfl⟩
              · intro ac w' ph hF hPh hlt hP hU K hK0
                have e87 : ac.eval (.tmp 87) = .slice (some ⟨g, 0, none⟩) (slots + 1) (slots + 1) := hP 0 (by kernel_rfl)
                have e91 : ac.eval (.tmp 91) = .int .i64 (1 + (r : Int)) := hP 4 (by kernel_rfl)
                exact rop_idx _ _ _ rfl e87 e91 (index_strs g 0 (slots + 1) (slots + 1) (1 + r) _ (by simp) (by omega) w') (wanted_none rfl) (hK0 _ _ GLx.same hPh rfl)
              · intro ac w' ph hF hPh hlt hP hU K hK0
                obtain rfl : ph = 1 := (hlt 1 13 rfl).1 rfl
                have e99 : ac.eval (.tmp 99) = .pointer (some ⟨g, 0 + (1 + r), none⟩) := hP 12 (by kernel_rfl)
                have e98 : ac.eval (.tmp 98) = .string s := hP 11 (by kernel_rfl)
                have hB : Below W.heap.size W w' := hPh.2.1 (by omega)
                obtain ⟨w2, hr, hreg, hb2⟩ := Reg.put (HR.out.old hB) (i := 1 + r) (by omega) HS.out
                exact rop_storeG _ _ _ rfl e99 e98 (by first | exact hr | simpa using hr) (wanted_none rfl) (hK0 _ _ (GLx.last rfl) ⟨(HBel.out.trans (hB.mono HBW.out)).trans (hb2.below HG.out (Nat.le_trans HBW.out hB.size)), fun h => absurd h (by decide), fun _ => hreg⟩ trivial)
              · intro ac w' hF hPh hT
                rw [hF.setsG [87, 88, 89, 90, 91, 92, 93, 94, 95, 96, 97, 98, 99] (by kernel_rfl)]
                simp only [List.foldl_cons, List.foldl_nil, List.setIfInBounds_toArray, List.set_cons_succ, List.set_cons_zero]
                generalize ac.eval (.tmp 87) = u87
                generalize ac.eval (.tmp 88) = u88
                generalize ac.eval (.tmp 89) = u89
                generalize ac.eval (.tmp 90) = u90
                generalize ac.eval (.tmp 91) = u91
                generalize ac.eval (.tmp 92) = u92
                generalize ac.eval (.tmp 93) = u93
                generalize ac.eval (.tmp 94) = u94
                generalize ac.eval (.tmp 95) = u95
                generalize ac.eval (.tmp 96) = u96
                generalize ac.eval (.tmp 97) = u97
                generalize ac.eval (.tmp 98) = u98
                generalize ac.eval (.tmp 99) = u99
                clear  hT hF ac
                obtain ⟨hbel, -, hreg'⟩ := hPh
                have hreg := hreg' rfl
                clear hreg' HR HBel HBW
                go_wp2
                go_roundw
                case rel => exact ⟨i + 1, p + 1, nx, by simp, by simp, by simp, by omega, by omega, by omega, by omega, hreg, hbel⟩
                case measure => simp [intOf]; omega
            · clear hsv
              go_upto_region 20 with (fail)
              have e4 : ((kd : Int) == 4) = false := beq_eq_false_iff_ne.2 h4'
              have e0 : (a1 != 0) = true := bne_iff_ne.2 ho
              simp only [e4, e0]
              clear e4 e0
              clear ho h4 h4' q6 q6' q6'' q5 q5' q5'' q3 q3' q3'' ld0 ld1 ld2 hn1
              go_wp2
              go_loopw [17, 18] (fun v17 v18 wr => ∃ (j : Nat) (ats : List Int), v18 = .int .i64 (j : Int) ∧ j ≤ n ∧ ats.length = j ∧ (∀ z ∈ ats, 0 ≤ z ∧ z ≤ 1023) ∧ (OwnI v17 ats wr ∧ ∀ k, v17.ownBlock = some k → B ≤ k ∧ k ≠ g) ∧ Reg g (slots + 1) wr ∧ Below B w wr) (fun _ v18 _ => n - (intOf v18).toNat)
              case atStart => exact ⟨0, [], rfl, by omega, rfl, (by intro z hz; cases hz), ⟨OwnI.nil _, fun k e => by simp [Value.ownBlock] at e⟩, hreg, hbel⟩
              case round =>
                clear hreg hbel
                obtain ⟨j, ats, rfl, hj, hal, hats, ⟨hO, hOb⟩, hreg, hbel⟩ := hrel
                have hw2 := IntWalk.i64_in ((j : Int) + 1) (by omega)
                by_cases hjn : j < n
                · have hjn' : (j : Int) < (n : Int) := by omega
                  obtain ⟨zj, hzj⟩ : ∃ zj, zj = wrap64 (a3 + (j : Int)) := ⟨_, rfl⟩
                  obtain ⟨y, hy, hya⟩ := and_1023 zj
                  rw [hzj] at hya
                  clear hzj
                  have c3 := HC3.out wr hbel
                  obtain ⟨va, vc, rfl⟩ := hO.slice
                  have hO' := hO
                  unfold OwnI at hO'
                  rw [hal] at hO' hOb ⊢
                  have HO := Lib.hid hO'
                  have HOB := Lib.hid hOb
                  have HREG := Lib.hid hreg
                  have HBL := Lib.hid hbel
                  have HAT := Lib.hid hats
                  have hBr : B ≤ wr.heap.size := by have := HBw.out; have := hbel.size; omega
                  clear hO hO' hOb hreg hbel hats
                  go_wp2_with (at_builtin; refine wpList_append_one Tryz.underlying23 info_int rfl (by decide) (by decide) rfl (.tmp 107) (.tmp 116) rfl (.slice va j vc) j (ats.map fun z => Value.int .i64 z) rfl (World.ownsRow.alloc HO.out _) wr.heap.size rfl [.int .i64 (y : Int)] rfl (by intro u hu; simp at hu; subst hu; rfl) (int_one wr _) (by omega) ?_; intro v6 w6 hO6 hg6 hgo6)
                  have hba : Below wr.heap.size wr (wr.alloc (.cells #[.int .i64 (y : Int)] 3)) := (Below.refl _ _).alloc (Nat.le_refl _) _
                  have hreg6 : Reg g (slots + 1) w6 := (HREG.out.old hba).grown hg6 (fun e => (HOB.out _ e).2 rfl)
                  have hbel6 : Below B w w6 := below_grown (HBL.out.trans (hba.mono (by omega))) hg6 (by simp; omega) (fun k e => (HOB.out k e).1)
                  go_roundw
                  case rel =>
                    refine ⟨j + 1, ats ++ [(y : Int)], by simp, by omega, by simp [hal], fun z hz => ?_, ⟨?_, fun k e => ?_⟩, hreg6, hbel6⟩
                    · rcases List.mem_append.1 hz with hz | hz
                      · exact HAT.out z hz
                      · rw [List.mem_singleton] at hz; omega
                    · unfold OwnI
                      rw [show (ats ++ [(y : Int)]).length = j + 1 by simp [hal]]
                      simpa using hO6
                    · rcases hgo6 k e with e' | e'
                      · exact HOB.out k e'
                      · simp at e'
                        have := HREG.out.1
                        omega
                  case measure => simp [intOf]; omega
                · have hjn' : ¬ (j : Int) < (n : Int) := by omega
                  obtain ⟨ib, hints, -⟩ := hO.ints
                  obtain ⟨va, vc, rfl⟩ := hO.slice
                  clear hOb
                  have hbd : ∀ k, -9223372036854775808 ≤ ats.getD k 0 ∧ ats.getD k 0 ≤ 9223372036854775807 := fun k => by
                    rw [List.getD_eq_getElem?_getD]
                    cases hx : ats[k]? with
                    | none => simp
                    | some z =>
                      have := hats z (List.mem_of_getElem? hx)
                      simp
                      omega
                  obtain ⟨s, hsd⟩ : ∃ s, s = fsL (keptN (sv : Int) 1099511627776) (atsK ats) := ⟨_, rfl⟩
                  have HS : Hid (s.size ≤ 1000000) := Lib.hid (by rw [hsd]; exact fillS_le _)
                  have hw := fun u (hu : Below wr.heap.size wr u) => refFirst_any (sv : Int) (.slice va ats.length vc) ats ib u (hints.kept fun h => ⟨Nat.lt_of_lt_of_le h hu.size, hu.block _ h⟩) hbd (by omega) (by omega)
                  simp only [← hsd] at hw
                  have HW := Lib.hid hw
                  clear hsd hw hbd hints hats hO hal
                  obtain ⟨r, hr⟩ : ∃ r, r = (p) % slots := ⟨_, rfl⟩
                  have hrs : r < slots := by rw [hr]; exact Nat.mod_lt _ (by omega)
                  have HE : Hid (((p : Int) : Int).tmod (slots : Int) = (r : Int)) := Lib.hid (by (rw [hr, Int.ofNat_tmod]) <;> rfl)
                  clear hr
                  obtain ⟨W, hW⟩ : ∃ W, W = wr := ⟨_, rfl⟩
                  subst hW
                  have HR := Lib.hid hreg
                  have HBel := Lib.hid hbel
                  have HBW : Hid (B ≤ W.heap.size) := Lib.hid (by have := HBel.out.size; have := HBw.out; omega)
                  clear hreg hbel
                  go_upto_region 25 with (fail)
                  try simp only [Act.put]
                  refine wp_region_ph (Lx := GLx 2) [RXP.is (.slice (some ⟨g, 0, none⟩) (slots + 1) (slots + 1)), RXP.is (.int .i64 (p : Int)), RXP.is (.int .i64 (slots : Int)), RXP.is (.int .i64 (r : Int)), RXP.is (.int .i64 (1 + (r : Int))), RXP.is (.int .i64 (sv : Int)), RXP.is (.slice va ats.length vc), RXP.is (.string s), RXP.is (.pointer (some ⟨g, 0 + (1 + r), none⟩)), RXP.any] [7, 9] (fun k w' => Below B w w' ∧ (k < 2 → Below W.heap.size W w') ∧ (k = 2 → Reg g (slots + 1) w')) (by kernel_rfl) (by kernel_rfl) (by kernel_rfl) (by kernel_rfl) (by kernel_rfl) (⟨below_drew HBel.out, fun _ => below_drew (Below.refl _ _), fun h => by cases h⟩) ⟨?_, ?_, ?_, ?_, ?_, ?_, ?_, ?_, ?_, ?_, trivial⟩ ?_
                  · intro ac w' ph hF hPh hlt hP hU K hK0
                    have e9 : ac.eval (.tmp 9) = .slice (some ⟨g, 0, none⟩) (slots + 1) (slots + 1) := hF.at 9 (by kernel_rfl)
                    exact rop_move _ rfl e9 (wanted_none rfl) (hK0 _ _ GLx.same hPh rfl)
                  · intro ac w' ph hF hPh hlt hP hU K hK0
                    have e11 : ac.eval (.tmp 11) = .int .i64 (p : Int) := hF.at 11 (by kernel_rfl)
                    exact rop_move _ rfl e11 (wanted_none rfl) (hK0 _ _ GLx.same hPh rfl)
                  · intro ac w' ph hF hPh hlt hP hU K hK0
                    have e0 : ac.eval (.tmp 0) = .int .i64 (slots : Int) := hF.at 0 (by kernel_rfl)
                    exact rop_move _ rfl e0 (wanted_none rfl) (hK0 _ _ GLx.same hPh rfl)
                  · intro ac w' ph hF hPh hlt hP hU K hK0
                    have e119 : ac.eval (.tmp 119) = .int .i64 (p : Int) := hP 1 (by kernel_rfl)
                    have e120 : ac.eval (.tmp 120) = .int .i64 (slots : Int) := hP 2 (by kernel_rfl)
                    exact rop_bin _ _ _ _ _ rfl e119 e120 (guard_int _ _ _ _ _ _ _ w') (rem_int _ _ _ HE.out (by omega) (by omega) w') (wanted_none rfl) (hK0 _ _ GLx.same hPh rfl)
                  · intro ac w' ph hF hPh hlt hP hU K hK0
                    have e121 : ac.eval (.tmp 121) = .int .i64 (r : Int) := hP 3 (by kernel_rfl)
                    exact rop_bin _ _ _ _ _ rfl rfl e121 (guard_int _ _ _ _ _ _ _ w') (add_int _ _ _ (rfl) (by omega) w') (wanted_none rfl) (hK0 _ _ GLx.same hPh rfl)
                  · intro ac w' ph hF hPh hlt hP hU K hK0
                    have e15 : ac.eval (.tmp 15) = .int .i64 (sv : Int) := hF.at 15 (by kernel_rfl)
                    exact rop_move _ rfl e15 (wanted_none rfl) (hK0 _ _ GLx.same hPh rfl)
                  · intro ac w' ph hF hPh hlt hP hU K hK0
                    have e17 : ac.eval (.tmp 17) = .slice va ats.length vc := hF.at 17 (by kernel_rfl)
                    exact rop_move _ rfl e17 (wanted_none rfl) (hK0 _ _ GLx.same hPh rfl)
                  · intro ac w' ph hF hPh hlt hP hU K hK0
                    obtain rfl : ph = 0 := (hlt 0 7 rfl).1 rfl
                    have e123 : ac.eval (.tmp 123) = .int .i64 (sv : Int) := hP 5 (by kernel_rfl)
                    have e124 : ac.eval (.tmp 124) = .slice va ats.length vc := hP 6 (by kernel_rfl)
                    have hB : Below W.heap.size W w' := hPh.2.1 (by omega)
                    refine rop_call 10 _ _ rfl #[.int .i64 (sv : Int), .slice va ats.length vc] (by simp [e123, e124]) (by kernel_rfl) (wanted_none rfl) ?_
                    refine (HW.out w' hB).mono ?_
                    rintro e w2 ⟨rfl, hb⟩
                    have hb2 := below_step hB (Nat.le_refl _) hb
                    exact ⟨_, rfl, hK0 _ _ (GLx.old (by decide) hb) ⟨HBel.out.trans (hb2.mono HBW.out), fun _ => hb2, fun h => absurd h (by decide)⟩ rfl⟩
                  · intro ac w' ph hF hPh hlt hP hU K hK0
                    have e118 : ac.eval (.tmp 118) = .slice (some ⟨g, 0, none⟩) (slots + 1) (slots + 1) := hP 0 (by kernel_rfl)
                    have e122 : ac.eval (.tmp 122) = .int .i64 (1 + (r : Int)) := hP 4 (by kernel_rfl)
                    exact rop_idx _ _ _ rfl e118 e122 (index_strs g 0 (slots + 1) (slots + 1) (1 + r) _ (by simp) (by omega) w') (wanted_none rfl) (hK0 _ _ GLx.same hPh rfl)
                  · intro ac w' ph hF hPh hlt hP hU K hK0
                    obtain rfl : ph = 1 := (hlt 1 9 rfl).1 rfl
                    have e126 : ac.eval (.tmp 126) = .pointer (some ⟨g, 0 + (1 + r), none⟩) := hP 8 (by kernel_rfl)
                    have e125 : ac.eval (.tmp 125) = .string s := hP 7 (by kernel_rfl)
                    have hB : Below W.heap.size W w' := hPh.2.1 (by omega)
                    obtain ⟨w2, hr, hreg, hb2⟩ := Reg.put (HR.out.old hB) (i := 1 + r) (by omega) HS.out
                    exact rop_storeG _ _ _ rfl e126 e125 (by first | exact hr | simpa using hr) (wanted_none rfl) (hK0 _ _ (GLx.last rfl) ⟨(HBel.out.trans (hB.mono HBW.out)).trans (hb2.below HG.out (Nat.le_trans HBW.out hB.size)), fun h => absurd h (by decide), fun _ => hreg⟩ trivial)
                  · intro ac w' hF hPh hT
                    rw [hF.setsG [118, 119, 120, 121, 122, 123, 124, 125, 126] (by kernel_rfl)]
                    simp only [List.foldl_cons, List.foldl_nil, List.setIfInBounds_toArray, List.set_cons_succ, List.set_cons_zero]
                    generalize ac.eval (.tmp 118) = u118
                    generalize ac.eval (.tmp 119) = u119
                    generalize ac.eval (.tmp 120) = u120
                    generalize ac.eval (.tmp 121) = u121
                    generalize ac.eval (.tmp 122) = u122
                    generalize ac.eval (.tmp 123) = u123
                    generalize ac.eval (.tmp 124) = u124
                    generalize ac.eval (.tmp 125) = u125
                    generalize ac.eval (.tmp 126) = u126
                    clear  hT hF ac
                    obtain ⟨hbel, -, hreg'⟩ := hPh
                    have hreg := hreg' rfl
                    clear hreg' HR HBel HBW HW HS HE
                    by_cases k3 : kd = 3
                    · have k3' : (kd : Int) = 3 := by omega
                      go_wp2
                      go_roundw
                      case rel => exact ⟨i + 1, p + 1, nx, by simp, by simp, by simp, by omega, by omega, by omega, by omega, hreg, hbel⟩
                      case measure => simp [intOf]; omega
                    · have k3' : ¬ (kd : Int) = 3 := by omega
                      go_wp2
                      go_loopw [19] (fun v19 wr => ∃ j : Nat, v19 = .int .i64 (j : Int) ∧ j ≤ n ∧ Reg g (slots + 1) wr ∧ Below B w wr) (fun v19 _ => n - (intOf v19).toNat)
                      case atStart => exact ⟨0, rfl, by omega, hreg, hbel⟩
                      case round =>
                        clear hreg hbel
                        obtain ⟨j, rfl, hj, hreg, hbel⟩ := hrel
                        have hw2 := IntWalk.i64_in ((j : Int) + 1) (by omega)
                        by_cases hjn : j < n
                        · have hjn' : (j : Int) < (n : Int) := by omega
                          obtain ⟨a3j, hzj⟩ := add_ex a3 (j : Int)
                          have HAD := Lib.hid hzj
                          clear hzj
                          obtain ⟨r, hr⟩ : ∃ r, r = (p + 1 + j) % slots := ⟨_, rfl⟩
                          have hrs : r < slots := by rw [hr]; exact Nat.mod_lt _ (by omega)
                          have HE : Hid ((((p : Int) + 1 + (j : Int)) : Int).tmod (slots : Int) = (r : Int)) := Lib.hid (by (rw [hr, Int.ofNat_tmod]) <;> rfl)
                          clear hr
                          obtain ⟨c, hc⟩ := conv_u8 a3j
                          have HCV := Lib.hid hc
                          obtain ⟨s, hsd⟩ : ∃ s, s = withB c := ⟨_, rfl⟩
                          have HS : Hid (s.size ≤ 1000000) := Lib.hid (by rw [hsd, withB_size]; decide)
                          have hw := fun u => with7_any c u
                          simp only [← hsd] at hw
                          have HW := Lib.hid hw
                          clear hc hsd hw
                          obtain ⟨W, hW⟩ : ∃ W, W = wr := ⟨_, rfl⟩
                          subst hW
                          have HR := Lib.hid hreg
                          have HBel := Lib.hid hbel
                          have HBW : Hid (B ≤ W.heap.size) := Lib.hid (by have := HBel.out.size; have := HBw.out; omega)
                          clear hreg hbel
                          go_upto_region 31 with (fail)
                          try simp only [Act.put]
                          refine wp_region_ph (Lx := GLx 2) [RXP.is (.slice (some ⟨g, 0, none⟩) (slots + 1) (slots + 1)), RXP.is (.int .i64 (p : Int)), RXP.is (.int .i64 ((p : Int) + 1)), RXP.is (.int .i64 (j : Int)), RXP.is (.int .i64 ((p : Int) + 1 + (j : Int))), RXP.is (.int .i64 (slots : Int)), RXP.is (.int .i64 (r : Int)), RXP.is (.int .i64 (1 + (r : Int))), RXP.is (.slice (some ⟨b, off, none⟩) l.length cap), RXP.is (.int .i64 (i : Int)), RXP.is (.pointer (some ⟨b, off + i * 4, none⟩)), RXP.is (.pointer (some ⟨b, off + i * 4 + 3, none⟩)), RXP.is (.int .i64 a3), RXP.is (.int .i64 (j : Int)), RXP.is (.int .i64 a3j), RXP.is (.int .u8 (c.toNat : Int)), RXP.is (.string s), RXP.is (.pointer (some ⟨g, 0 + (1 + r), none⟩)), RXP.any] [16, 18] (fun k w' => Below B w w' ∧ (k < 2 → Below W.heap.size W w') ∧ (k = 2 → Reg g (slots + 1) w')) (by kernel_rfl) (by kernel_rfl) (by kernel_rfl) (by kernel_rfl) (by kernel_rfl) (⟨below_drew HBel.out, fun _ => below_drew (Below.refl _ _), fun h => by cases h⟩) ⟨?_, ?_, ?_, ?_, ?_, ?_, ?_, ?_, ?_, ?_, ?_, ?_, ?_, ?_, ?_, ?_, ?_, ?_, ?_, trivial⟩ ?_
                          · intro ac w' ph hF hPh hlt hP hU K hK0
                            have e9 : ac.eval (.tmp 9) = .slice (some ⟨g, 0, none⟩) (slots + 1) (slots + 1) := hF.at 9 (by kernel_rfl)
                            exact rop_move _ rfl e9 (wanted_none rfl) (hK0 _ _ GLx.same hPh rfl)
                          · intro ac w' ph hF hPh hlt hP hU K hK0
                            have e11 : ac.eval (.tmp 11) = .int .i64 (p : Int) := hF.at 11 (by kernel_rfl)
                            exact rop_move _ rfl e11 (wanted_none rfl) (hK0 _ _ GLx.same hPh rfl)
                          · intro ac w' ph hF hPh hlt hP hU K hK0
                            have e137 : ac.eval (.tmp 137) = .int .i64 (p : Int) := hP 1 (by kernel_rfl)
                            exact rop_bin _ _ _ _ _ rfl e137 rfl (guard_int _ _ _ _ _ _ _ w') (add_int _ _ _ (rfl) (by omega) w') (wanted_none rfl) (hK0 _ _ GLx.same hPh rfl)
                          · intro ac w' ph hF hPh hlt hP hU K hK0
                            have e19 : ac.eval (.tmp 19) = .int .i64 (j : Int) := hF.at 19 (by kernel_rfl)
                            exact rop_move _ rfl e19 (wanted_none rfl) (hK0 _ _ GLx.same hPh rfl)
                          · intro ac w' ph hF hPh hlt hP hU K hK0
                            have e138 : ac.eval (.tmp 138) = .int .i64 ((p : Int) + 1) := hP 2 (by kernel_rfl)
                            have e139 : ac.eval (.tmp 139) = .int .i64 (j : Int) := hP 3 (by kernel_rfl)
                            exact rop_bin _ _ _ _ _ rfl e138 e139 (guard_int _ _ _ _ _ _ _ w') (add_int _ _ _ (rfl) (by omega) w') (wanted_none rfl) (hK0 _ _ GLx.same hPh rfl)
                          · intro ac w' ph hF hPh hlt hP hU K hK0
                            have e0 : ac.eval (.tmp 0) = .int .i64 (slots : Int) := hF.at 0 (by kernel_rfl)
                            exact rop_move _ rfl e0 (wanted_none rfl) (hK0 _ _ GLx.same hPh rfl)
                          · intro ac w' ph hF hPh hlt hP hU K hK0
                            have e140 : ac.eval (.tmp 140) = .int .i64 ((p : Int) + 1 + (j : Int)) := hP 4 (by kernel_rfl)
                            have e141 : ac.eval (.tmp 141) = .int .i64 (slots : Int) := hP 5 (by kernel_rfl)
                            exact rop_bin _ _ _ _ _ rfl e140 e141 (guard_int _ _ _ _ _ _ _ w') (rem_int _ _ _ HE.out (by omega) (by omega) w') (wanted_none rfl) (hK0 _ _ GLx.same hPh rfl)
                          · intro ac w' ph hF hPh hlt hP hU K hK0
                            have e142 : ac.eval (.tmp 142) = .int .i64 (r : Int) := hP 6 (by kernel_rfl)
                            exact rop_bin _ _ _ _ _ rfl rfl e142 (guard_int _ _ _ _ _ _ _ w') (add_int _ _ _ (rfl) (by omega) w') (wanted_none rfl) (hK0 _ _ GLx.same hPh rfl)
                          · intro ac w' ph hF hPh hlt hP hU K hK0
                            have e3 : ac.eval (.tmp 3) = .slice (some ⟨b, off, none⟩) l.length cap := hF.at 3 (by kernel_rfl)
                            exact rop_move _ rfl e3 (wanted_none rfl) (hK0 _ _ GLx.same hPh rfl)
                          · intro ac w' ph hF hPh hlt hP hU K hK0
                            have e13 : ac.eval (.tmp 13) = .int .i64 (i : Int) := hF.at 13 (by kernel_rfl)
                            exact rop_move _ rfl e13 (wanted_none rfl) (hK0 _ _ GLx.same hPh rfl)
                          · intro ac w' ph hF hPh hlt hP hU K hK0
                            have e144 : ac.eval (.tmp 144) = .slice (some ⟨b, off, none⟩) l.length cap := hP 8 (by kernel_rfl)
                            have e145 : ac.eval (.tmp 145) = .int .i64 (i : Int) := hP 9 (by kernel_rfl)
                            exact rop_idx _ _ _ rfl e144 e145 (index_part b off l.length cap i hil w') (wanted_none rfl) (hK0 _ _ GLx.same hPh rfl)
                          · intro ac w' ph hF hPh hlt hP hU K hK0
                            have e146 : ac.eval (.tmp 146) = .pointer (some ⟨b, off + i * 4, none⟩) := hP 10 (by kernel_rfl)
                            exact rop_fld _ _ _ rfl e146 (fld_part b (off + i * 4) 3 (by decide) w') (wanted_none rfl) (hK0 _ _ GLx.same hPh rfl)
                          · intro ac w' ph hF hPh hlt hP hU K hK0
                            have e147 : ac.eval (.tmp 147) = .pointer (some ⟨b, off + i * 4 + 3, none⟩) := hP 11 (by kernel_rfl)
                            exact rop_ld _ _ rfl e147 (load_int (HC3.out w' hPh.1)) (wanted_none rfl) (hK0 _ _ GLx.same hPh rfl)
                          · intro ac w' ph hF hPh hlt hP hU K hK0
                            have e19 : ac.eval (.tmp 19) = .int .i64 (j : Int) := hF.at 19 (by kernel_rfl)
                            exact rop_move _ rfl e19 (wanted_none rfl) (hK0 _ _ GLx.same hPh rfl)
                          · intro ac w' ph hF hPh hlt hP hU K hK0
                            have e148 : ac.eval (.tmp 148) = .int .i64 a3 := hP 12 (by kernel_rfl)
                            have e149 : ac.eval (.tmp 149) = .int .i64 (j : Int) := hP 13 (by kernel_rfl)
                            exact rop_bin _ _ _ _ _ rfl e148 e149 (guard_int _ _ _ _ _ _ _ w') (HAD.out w') (wanted_none rfl) (hK0 _ _ GLx.same hPh rfl)
                          · intro ac w' ph hF hPh hlt hP hU K hK0
                            have e150 : ac.eval (.tmp 150) = .int .i64 a3j := hP 14 (by kernel_rfl)
                            exact rop_convG _ _ _ rfl e150 (HCV.out w') (wanted_none rfl) (hK0 _ _ GLx.same hPh rfl)
                          · intro ac w' ph hF hPh hlt hP hU K hK0
                            obtain rfl : ph = 0 := (hlt 0 16 rfl).1 rfl
                            have e151 : ac.eval (.tmp 151) = .int .u8 (c.toNat : Int) := hP 15 (by kernel_rfl)
                            have hB : Below W.heap.size W w' := hPh.2.1 (by omega)
                            refine rop_call 14 _ _ rfl #[.int .u8 (c.toNat : Int)] (by simp [e151]) (by kernel_rfl) (wanted_none rfl) ?_
                            refine (HW.out w').mono ?_
                            rintro e w2 ⟨rfl, hb⟩
                            have hb2 := below_step hB (Nat.le_refl _) hb
                            exact ⟨_, rfl, hK0 _ _ (GLx.old (by decide) hb) ⟨HBel.out.trans (hb2.mono HBW.out), fun _ => hb2, fun h => absurd h (by decide)⟩ rfl⟩
                          · intro ac w' ph hF hPh hlt hP hU K hK0
                            have e136 : ac.eval (.tmp 136) = .slice (some ⟨g, 0, none⟩) (slots + 1) (slots + 1) := hP 0 (by kernel_rfl)
                            have e143 : ac.eval (.tmp 143) = .int .i64 (1 + (r : Int)) := hP 7 (by kernel_rfl)
                            exact rop_idx _ _ _ rfl e136 e143 (index_strs g 0 (slots + 1) (slots + 1) (1 + r) _ (by simp) (by omega) w') (wanted_none rfl) (hK0 _ _ GLx.same hPh rfl)
                          · intro ac w' ph hF hPh hlt hP hU K hK0
                            obtain rfl : ph = 1 := (hlt 1 18 rfl).1 rfl
                            have e153 : ac.eval (.tmp 153) = .pointer (some ⟨g, 0 + (1 + r), none⟩) := hP 17 (by kernel_rfl)
                            have e152 : ac.eval (.tmp 152) = .string s := hP 16 (by kernel_rfl)
                            have hB : Below W.heap.size W w' := hPh.2.1 (by omega)
                            obtain ⟨w2, hr, hreg, hb2⟩ := Reg.put (HR.out.old hB) (i := 1 + r) (by omega) HS.out
                            exact rop_storeG _ _ _ rfl e153 e152 (by first | exact hr | simpa using hr) (wanted_none rfl) (hK0 _ _ (GLx.last rfl) ⟨(HBel.out.trans (hB.mono HBW.out)).trans (hb2.below HG.out (Nat.le_trans HBW.out hB.size)), fun h => absurd h (by decide), fun _ => hreg⟩ trivial)
                          · intro ac w' hF hPh hT
                            rw [hF.setsG [136, 137, 138, 139, 140, 141, 142, 143, 144, 145, 146, 147, 148, 149, 150, 151, 152, 153] (by kernel_rfl)]
                            simp only [List.foldl_cons, List.foldl_nil, List.setIfInBounds_toArray, List.set_cons_succ, List.set_cons_zero]
                            generalize ac.eval (.tmp 136) = u136
                            generalize ac.eval (.tmp 137) = u137
                            generalize ac.eval (.tmp 138) = u138
                            generalize ac.eval (.tmp 139) = u139
                            generalize ac.eval (.tmp 140) = u140
                            generalize ac.eval (.tmp 141) = u141
                            generalize ac.eval (.tmp 142) = u142
                            generalize ac.eval (.tmp 143) = u143
                            generalize ac.eval (.tmp 144) = u144
                            generalize ac.eval (.tmp 145) = u145
                            generalize ac.eval (.tmp 146) = u146
                            generalize ac.eval (.tmp 147) = u147
                            generalize ac.eval (.tmp 148) = u148
                            generalize ac.eval (.tmp 149) = u149
                            generalize ac.eval (.tmp 150) = u150
                            generalize ac.eval (.tmp 151) = u151
                            generalize ac.eval (.tmp 152) = u152
                            generalize ac.eval (.tmp 153) = u153
                            clear  hT hF ac
                            obtain ⟨hbel, -, hreg'⟩ := hPh
                            have hreg := hreg' rfl
                            clear hreg' HR HBel HBW
                            go_wp2
                            go_roundw
                            case rel => exact ⟨j + 1, by simp, by omega, hreg, hbel⟩
                            case measure => simp [intOf]; omega
                        · have hjn' : ¬ (j : Int) < (n : Int) := by omega
                          by_cases k2 : kd < 2
                          · have k2' : (kd : Int) < 2 := by omega
                            obtain ⟨s, hsd⟩ : ∃ s, s = lsL (keptN (sv : Int) 1099511627776) (keptN (n : Int) 1099511627776) := ⟨_, rfl⟩
                            have HS : Hid (s.size ≤ 1000000) := Lib.hid (by rw [hsd]; exact fillS_le _)
                            have hw := fun u => refLast_any (sv : Int) (n : Int) u (by omega) (by omega) (by omega) (by omega)
                            simp only [← hsd] at hw
                            have HW := Lib.hid hw
                            clear hsd hw
                            obtain ⟨r, hr⟩ : ∃ r, r = (p + n + 1) % slots := ⟨_, rfl⟩
                            have hrs : r < slots := by rw [hr]; exact Nat.mod_lt _ (by omega)
                            have HE : Hid ((((p : Int) + (n : Int) + 1) : Int).tmod (slots : Int) = (r : Int)) := Lib.hid (by (rw [hr, Int.ofNat_tmod]) <;> rfl)
                            clear hr
                            obtain ⟨W, hW⟩ : ∃ W, W = wr := ⟨_, rfl⟩
                            subst hW
                            have HR := Lib.hid hreg
                            have HBel := Lib.hid hbel
                            have HBW : Hid (B ≤ W.heap.size) := Lib.hid (by have := HBel.out.size; have := HBw.out; omega)
                            clear hreg hbel
                            go_upto_region 33 with (fail)
                            try simp only [Act.put]
                            refine wp_region_ph (Lx := GLx 2) [RXP.is (.slice (some ⟨g, 0, none⟩) (slots + 1) (slots + 1)), RXP.is (.int .i64 (p : Int)), RXP.is (.int .i64 (n : Int)), RXP.is (.int .i64 ((p : Int) + (n : Int))), RXP.is (.int .i64 ((p : Int) + (n : Int) + 1)), RXP.is (.int .i64 (slots : Int)), RXP.is (.int .i64 (r : Int)), RXP.is (.int .i64 (1 + (r : Int))), RXP.is (.int .i64 (sv : Int)), RXP.is (.int .i64 (n : Int)), RXP.is (.string s), RXP.is (.pointer (some ⟨g, 0 + (1 + r), none⟩)), RXP.any] [10, 12] (fun k w' => Below B w w' ∧ (k < 2 → Below W.heap.size W w') ∧ (k = 2 → Reg g (slots + 1) w')) (by kernel_rfl) (by kernel_rfl) (by kernel_rfl) (by kernel_rfl) (by kernel_rfl) (⟨below_drew HBel.out, fun _ => below_drew (Below.refl _ _), fun h => by cases h⟩) ⟨?_, ?_, ?_, ?_, ?_, ?_, ?_, ?_, ?_, ?_, ?_, ?_, ?_, trivial⟩ ?_
                            · intro ac w' ph hF hPh hlt hP hU K hK0
                              have e9 : ac.eval (.tmp 9) = .slice (some ⟨g, 0, none⟩) (slots + 1) (slots + 1) := hF.at 9 (by kernel_rfl)
                              exact rop_move _ rfl e9 (wanted_none rfl) (hK0 _ _ GLx.same hPh rfl)
                            · intro ac w' ph hF hPh hlt hP hU K hK0
                              have e11 : ac.eval (.tmp 11) = .int .i64 (p : Int) := hF.at 11 (by kernel_rfl)
                              exact rop_move _ rfl e11 (wanted_none rfl) (hK0 _ _ GLx.same hPh rfl)
                            · intro ac w' ph hF hPh hlt hP hU K hK0
                              have e14 : ac.eval (.tmp 14) = .int .i64 (n : Int) := hF.at 14 (by kernel_rfl)
                              exact rop_move _ rfl e14 (wanted_none rfl) (hK0 _ _ GLx.same hPh rfl)
                            · intro ac w' ph hF hPh hlt hP hU K hK0
                              have e157 : ac.eval (.tmp 157) = .int .i64 (p : Int) := hP 1 (by kernel_rfl)
                              have e158 : ac.eval (.tmp 158) = .int .i64 (n : Int) := hP 2 (by kernel_rfl)
                              exact rop_bin _ _ _ _ _ rfl e157 e158 (guard_int _ _ _ _ _ _ _ w') (add_int _ _ _ (rfl) (by omega) w') (wanted_none rfl) (hK0 _ _ GLx.same hPh rfl)
                            · intro ac w' ph hF hPh hlt hP hU K hK0
                              have e159 : ac.eval (.tmp 159) = .int .i64 ((p : Int) + (n : Int)) := hP 3 (by kernel_rfl)
                              exact rop_bin _ _ _ _ _ rfl e159 rfl (guard_int _ _ _ _ _ _ _ w') (add_int _ _ _ (rfl) (by omega) w') (wanted_none rfl) (hK0 _ _ GLx.same hPh rfl)
                            · intro ac w' ph hF hPh hlt hP hU K hK0
                              have e0 : ac.eval (.tmp 0) = .int .i64 (slots : Int) := hF.at 0 (by kernel_rfl)
                              exact rop_move _ rfl e0 (wanted_none rfl) (hK0 _ _ GLx.same hPh rfl)
                            · intro ac w' ph hF hPh hlt hP hU K hK0
                              have e160 : ac.eval (.tmp 160) = .int .i64 ((p : Int) + (n : Int) + 1) := hP 4 (by kernel_rfl)
                              have e161 : ac.eval (.tmp 161) = .int .i64 (slots : Int) := hP 5 (by kernel_rfl)
                              exact rop_bin _ _ _ _ _ rfl e160 e161 (guard_int _ _ _ _ _ _ _ w') (rem_int _ _ _ HE.out (by omega) (by omega) w') (wanted_none rfl) (hK0 _ _ GLx.same hPh rfl)
                            · intro ac w' ph hF hPh hlt hP hU K hK0
                              have e162 : ac.eval (.tmp 162) = .int .i64 (r : Int) := hP 6 (by kernel_rfl)
                              exact rop_bin _ _ _ _ _ rfl rfl e162 (guard_int _ _ _ _ _ _ _ w') (add_int _ _ _ (rfl) (by omega) w') (wanted_none rfl) (hK0 _ _ GLx.same hPh rfl)
                            · intro ac w' ph hF hPh hlt hP hU K hK0
                              have e15 : ac.eval (.tmp 15) = .int .i64 (sv : Int) := hF.at 15 (by kernel_rfl)
                              exact rop_move _ rfl e15 (wanted_none rfl) (hK0 _ _ GLx.same hPh rfl)
                            · intro ac w' ph hF hPh hlt hP hU K hK0
                              have e14 : ac.eval (.tmp 14) = .int .i64 (n : Int) := hF.at 14 (by kernel_rfl)
                              exact rop_move _ rfl e14 (wanted_none rfl) (hK0 _ _ GLx.same hPh rfl)
                            · intro ac w' ph hF hPh hlt hP hU K hK0
                              obtain rfl : ph = 0 := (hlt 0 10 rfl).1 rfl
                              have e164 : ac.eval (.tmp 164) = .int .i64 (sv : Int) := hP 8 (by kernel_rfl)
                              have e165 : ac.eval (.tmp 165) = .int .i64 (n : Int) := hP 9 (by kernel_rfl)
                              have hB : Below W.heap.size W w' := hPh.2.1 (by omega)
                              refine rop_call 12 _ _ rfl #[.int .i64 (sv : Int), .int .i64 (n : Int)] (by simp [e164, e165]) (by kernel_rfl) (wanted_none rfl) ?_
                              refine (HW.out w').mono ?_
                              rintro e w2 ⟨rfl, hb⟩
                              have hb2 := below_step hB (Nat.le_refl _) hb
                              exact ⟨_, rfl, hK0 _ _ (GLx.old (by decide) hb) ⟨HBel.out.trans (hb2.mono HBW.out), fun _ => hb2, fun h => absurd h (by decide)⟩ rfl⟩
                            · intro ac w' ph hF hPh hlt hP hU K hK0
                              have e156 : ac.eval (.tmp 156) = .slice (some ⟨g, 0, none⟩) (slots + 1) (slots + 1) := hP 0 (by kernel_rfl)
                              have e163 : ac.eval (.tmp 163) = .int .i64 (1 + (r : Int)) := hP 7 (by kernel_rfl)
                              exact rop_idx _ _ _ rfl e156 e163 (index_strs g 0 (slots + 1) (slots + 1) (1 + r) _ (by simp) (by omega) w') (wanted_none rfl) (hK0 _ _ GLx.same hPh rfl)
                            · intro ac w' ph hF hPh hlt hP hU K hK0
                              obtain rfl : ph = 1 := (hlt 1 12 rfl).1 rfl
                              have e167 : ac.eval (.tmp 167) = .pointer (some ⟨g, 0 + (1 + r), none⟩) := hP 11 (by kernel_rfl)
                              have e166 : ac.eval (.tmp 166) = .string s := hP 10 (by kernel_rfl)
                              have hB : Below W.heap.size W w' := hPh.2.1 (by omega)
                              obtain ⟨w2, hr, hreg, hb2⟩ := Reg.put (HR.out.old hB) (i := 1 + r) (by omega) HS.out
                              exact rop_storeG _ _ _ rfl e167 e166 (by first | exact hr | simpa using hr) (wanted_none rfl) (hK0 _ _ (GLx.last rfl) ⟨(HBel.out.trans (hB.mono HBW.out)).trans (hb2.below HG.out (Nat.le_trans HBW.out hB.size)), fun h => absurd h (by decide), fun _ => hreg⟩ trivial)
                            · intro ac w' hF hPh hT
                              rw [hF.setsG [156, 157, 158, 159, 160, 161, 162, 163, 164, 165, 166, 167] (by kernel_rfl)]
                              simp only [List.foldl_cons, List.foldl_nil, List.setIfInBounds_toArray, List.set_cons_succ, List.set_cons_zero]
                              generalize ac.eval (.tmp 156) = u156
                              generalize ac.eval (.tmp 157) = u157
                              generalize ac.eval (.tmp 158) = u158
                              generalize ac.eval (.tmp 159) = u159
                              generalize ac.eval (.tmp 160) = u160
                              generalize ac.eval (.tmp 161) = u161
                              generalize ac.eval (.tmp 162) = u162
                              generalize ac.eval (.tmp 163) = u163
                              generalize ac.eval (.tmp 164) = u164
                              generalize ac.eval (.tmp 165) = u165
                              generalize ac.eval (.tmp 166) = u166
                              generalize ac.eval (.tmp 167) = u167
                              clear  hT hF ac
                              obtain ⟨hbel, -, hreg'⟩ := hPh
                              have hreg := hreg' rfl
                              clear hreg' HR HBel HBW
                              go_wp2
                              go_roundw
                              case rel => exact ⟨i + 1, p + n + 2, nx + 1, by simp, by simp, by simp, by omega, by omega, by omega, by omega, hreg, hbel⟩
                              case measure => simp [intOf]; omega
                          · have k2' : ¬ (kd : Int) < 2 := by omega
                            go_wp2
                            go_roundw
                            case rel => exact ⟨i + 1, p + n + 2, nx + 1, by simp, by simp, by simp, by omega, by omega, by omega, by omega, hreg, hbel⟩
                            case measure => simp [intOf]; omega
        · have hx : (¬ (i : Int) < (l.length : Int)) ∨ ((i : Int) < (l.length : Int) ∧ ¬ (i : Int) < 12) := by omega
          rcases hx with hx | ⟨hx, hx2⟩
          · go_wp2
            go_ret
            exact ⟨g, rfl, hreg, by have := HG.out; have := HBw.out; omega, hbel⟩
          · go_wp2
            go_ret
            exact ⟨g, rfl, hreg, by have := HG.out; have := HBw.out; omega, hbel⟩
end Go.Proofs.YtfcocbgdmmeikaaGreatDoor
