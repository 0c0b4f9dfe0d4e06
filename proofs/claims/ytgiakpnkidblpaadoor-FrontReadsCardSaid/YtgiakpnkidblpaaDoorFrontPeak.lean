/-
  Package front: the closure by which Read takes a peak.
-/
import Derived.Test.YtgiakpnkidblpaaDoorFrontBytes
import Derived.Test.YtgiakpnkidblpaaDoorMOctL
namespace Go.Proofs.YtgiakpnkidblpaaDoor
open Go.RowKit

theorem load_frontP {b o : Nat} {a : Option Addr} {w : World} (h : w.cell? ⟨b, o, none⟩ = some (.pointer a)) : (Instr.loadAt 25 (.pointer (some ⟨b, o, none⟩))).run Tryd.prog w = .ok (.pointer a) w := by
  go_simp
theorem load_strsl {b o : Nat} {x : Option Addr} {n c : Nat} {w : World} (h : w.cell? ⟨b, o, none⟩ = some (.slice x n c)) : (Instr.loadAt 56 (.pointer (some ⟨b, o, none⟩))).run Tryd.prog w = .ok (.slice x n c) w := by
  go_simp
theorem load_strX {b o : Nat} {X : ByteArray} {w : World} (h : w.cell? ⟨b, o, none⟩ = some (.string X)) : (Instr.loadAt 9 (.pointer (some ⟨b, o, none⟩))).run Tryd.prog w = .ok (.string X) w := by
  go_simp
theorem index_strs (b o n cap k : Nat) (h : k < n) (w : World) : (Instr.indexAt 56 (.slice (some ⟨b, o, none⟩) n cap) (.int .i64 (k : Int))).run Tryd.prog w = .ok (.pointer (some ⟨b, o + k, none⟩)) w := by
  go_simp
set_option maxRecDepth 1000000 in
theorem alen32 : Tryd.prog.arrayLen 31 = 32 := by kernel_rfl
set_option maxRecDepth 1000000 in
theorem aelem32 : Tryd.prog.elem 31 = 5 := by kernel_rfl
set_option maxRecDepth 1000000 in
theorem sslice32 (b o : Nat) (w : World) : (Instr.sliceAt 31 (.pointer (some ⟨b, o, none⟩)) none none none).run Tryd.prog w = .ok (.slice (some ⟨b, o, none⟩) 32 32) w := by
  have hl := alen32
  rw [run_sliceAt_array_all (P := Tryd.prog) w _ _ Tryd.underlying31, aelem32, size_u8, hl]
  simp [Result.andThen, slicedAt, Addr.add]
theorem keep_cell {q o b : Nat} {v : Value} {w : World} (h : w.cell? ⟨q, o, none⟩ = some v) (hne : q ≠ b) (off : Nat) (vs : List Value) : (w.setCells b off vs).cell? ⟨q, o, none⟩ = some v := by
  have hlt : q < w.heap.size := by
    unfold World.cell? at h
    split at h
    · rename_i heq; exact (Array.getElem?_eq_some_iff.1 heq).1
    · cases h
  exact ((only_setCells (b := b) vs off w (Only.refl _ _)).cellA (p := ⟨q, o, none⟩) hlt hne).trans h
section
variable {ops : Array Oper} {Q : Exit → Act → World → Prop} {a : Act} {w w' : World} {K : Act → World → Prop} {o : Oper}
theorem rop_copyF (s x : Operand) (t1 t2 : TypeId) (hop : o.op = .call { callee := .builtin .copy, args := #[s, x], argTypes := #[t1, t2] }) {v u v' : Value} (hs : a.eval s = v) (hx : a.eval x = u) (hr : (Builtin.copy_ #[t1, t2] o.type #[v, u]).run Tryd.prog w = .ok v' w') (hw : Region.wanted o (yielded ops a.tmps) = true) (h : K (a.put o.dst v') w') :
    if Region.wanted o (yielded ops a.tmps) = true then Oper.wp Tryd.prog o a w K Q else K (a.put o.dst undef) w := by
  rw [if_pos hw]
  unfold Oper.wp execOp
  simp only [hop, resolve, invoke, builtin, Sem.run_bind, Sem.run_pure, Result.andThen_ok, List.map_toArray, List.map_cons, List.map_nil, hs, hx, hr]
  exact h
end
set_option maxHeartbeats 3200000 in
set_option maxRecDepth 100000 in
/-- What the closure does: it tells whether the text has 32 bytes; if so, it is the hash at that place. -/
theorem fpeak_any (fb fv pv tb to m c i n : Nat) (Q : Hs) (X : ByteArray) (w : World) (hf : Front fb n Q w) (cf : w.cell? ⟨fv, 0, none⟩ = some (.pointer (some ⟨fb, 0, none⟩))) (cp : w.cell? ⟨pv, 0, none⟩ = some (.slice (some ⟨tb, to, none⟩) m c)) (ct : w.cell? ⟨tb, to + i, none⟩ = some (.string X))
    (hfv : fv < w.heap.size) (hpv : pv < w.heap.size) (htb : tb < w.heap.size) (nfv : fv ≠ fb) (npv : pv ≠ fb) (ntb : tb ≠ fb) (hi40 : i < 40) (him : i < m) :
    Calls Tryd.prog 44 #[.int .i64 (i : Int), .pointer (some ⟨fv, 0, none⟩), .pointer (some ⟨pv, 0, none⟩)] w fun e w' => e = .returned (.bool (decide (X.size = 32))) ∧ Only fb w w' ∧ (X.size = 32 → Front fb n (Q.set i X.data.toList) w') := by
  obtain ⟨W, hW⟩ : ∃ W, W = w := ⟨_, rfl⟩
  subst hW
  obtain ⟨M, hM⟩ : ∃ M, Nat.min X.size 32 = M := ⟨_, rfl⟩
  have HM := Lib.hid hM
  have HM32 : Hid (i * 32 + M ≤ 1280) := Lib.hid (by have : Nat.min X.size 32 ≤ 32 := Nat.min_le_right _ _; omega)
  have HF := Lib.hid hf
  have CF := Lib.hid cf
  have CP := Lib.hid cp
  have CT := Lib.hid ct
  have HfvW := Lib.hid hfv
  have HpvW := Lib.hid hpv
  have HtbW := Lib.hid htb
  have Hn1 := Lib.hid npv
  have HfvB := Lib.hid nfv
  have Hn2 := Lib.hid ntb
  clear hM hf cf cp ct hfv hpv htb npv ntb nfv
  go_enter Tryd.func44, Tryd.ntmps44
  go_upto_region 1 with (fail)
  try simp only [Act.put]
  refine wp_region_ph (Lx := GLx 1) [RXP.is (.pointer (some ⟨fb, 0, none⟩)), RXP.is (.int .i64 (i : Int)), RXP.is (.pointer (some ⟨fb, 0, none⟩)), RXP.is (.pointer (some ⟨fb, 1, none⟩)), RXP.is (.pointer (some ⟨fb, 1 + i * 32, none⟩)), RXP.is (.slice (some ⟨fb, 1 + i * 32, none⟩) 32 32), RXP.is (.slice (some ⟨tb, to, none⟩) m c), RXP.is (.int .i64 (i : Int)), RXP.is (.pointer (some ⟨tb, to + i, none⟩)), RXP.is (.string X), RXP.is (goInt M)] [10] (fun k w' => (k < 1 → Below W.heap.size W w') ∧ (k = 1 → ∃ u, Below W.heap.size W u ∧ w' = u.setCells fb (1 + i * 32) ((X.data.toList.take M).map u8V)) ∧ w'.cell? ⟨fv, 0, none⟩ = some (.pointer (some ⟨fb, 0, none⟩)) ∧ w'.cell? ⟨pv, 0, none⟩ = some (.slice (some ⟨tb, to, none⟩) m c)) (by kernel_rfl) (by kernel_rfl) (by kernel_rfl) (by kernel_rfl) (by kernel_rfl) (⟨fun _ => below_drew (Below.refl _ _), fun h => absurd h (by decide), CF.out, CP.out⟩) ⟨?_, ?_, ?_, ?_, ?_, ?_, ?_, ?_, ?_, ?_, ?_, trivial⟩ ?_
  · intro ac w' ph hF hPh hlt hP hU K hK0
    have e1 : ac.eval (.tmp 1) = .pointer (some ⟨fv, 0, none⟩) := hF.at 1 (by kernel_rfl)
    exact rop_ld _ _ rfl e1 (load_frontP hPh.2.2.1) (wanted_none rfl) (hK0 _ _ GLx.same hPh rfl)
  · intro ac w' ph hF hPh hlt hP hU K hK0
    have e0 : ac.eval (.tmp 0) = .int .i64 (i : Int) := hF.at 0 (by kernel_rfl)
    exact rop_move _ rfl e0 (wanted_none rfl) (hK0 _ _ GLx.same hPh rfl)
  · intro ac w' ph hF hPh hlt hP hU K hK0
    have e5 : ac.eval (.tmp 5) = .pointer (some ⟨fb, 0, none⟩) := hP 0 (by kernel_rfl)
    exact rop_nilG _ rfl e5 (wanted_none rfl) (hK0 _ _ GLx.same hPh rfl)
  · intro ac w' ph hF hPh hlt hP hU K hK0
    have e7 : ac.eval (.tmp 7) = .pointer (some ⟨fb, 0, none⟩) := hP 2 (by kernel_rfl)
    exact rop_fld _ _ _ rfl e7 (fld_peaks fb w') (wanted_none rfl) (hK0 _ _ GLx.same hPh rfl)
  · intro ac w' ph hF hPh hlt hP hU K hK0
    have e8 : ac.eval (.tmp 8) = .pointer (some ⟨fb, 1, none⟩) := hP 3 (by kernel_rfl)
    have e6 : ac.eval (.tmp 6) = .int .i64 (i : Int) := hP 1 (by kernel_rfl)
    exact rop_idx _ _ _ rfl e8 e6 (idx40 fb i hi40 w') (wanted_none rfl) (hK0 _ _ GLx.same hPh rfl)
  · intro ac w' ph hF hPh hlt hP hU K hK0
    have e9 : ac.eval (.tmp 9) = .pointer (some ⟨fb, 1 + i * 32, none⟩) := hP 4 (by kernel_rfl)
    exact rop_sliceG _ _ _ _ _ rfl e9 rfl rfl rfl (sslice32 fb (1 + i * 32) w') (wanted_none rfl) (hK0 _ _ GLx.same hPh rfl)
  · intro ac w' ph hF hPh hlt hP hU K hK0
    have e2 : ac.eval (.tmp 2) = .pointer (some ⟨pv, 0, none⟩) := hF.at 2 (by kernel_rfl)
    exact rop_ld _ _ rfl e2 (load_strsl hPh.2.2.2) (wanted_none rfl) (hK0 _ _ GLx.same hPh rfl)
  · intro ac w' ph hF hPh hlt hP hU K hK0
    have e0 : ac.eval (.tmp 0) = .int .i64 (i : Int) := hF.at 0 (by kernel_rfl)
    exact rop_move _ rfl e0 (wanted_none rfl) (hK0 _ _ GLx.same hPh rfl)
  · intro ac w' ph hF hPh hlt hP hU K hK0
    have e11 : ac.eval (.tmp 11) = .slice (some ⟨tb, to, none⟩) m c := hP 6 (by kernel_rfl)
    have e12 : ac.eval (.tmp 12) = .int .i64 (i : Int) := hP 7 (by kernel_rfl)
    exact rop_idx _ _ _ rfl e11 e12 (index_strs tb to m c i him w') (wanted_none rfl) (hK0 _ _ GLx.same hPh rfl)
  · intro ac w' ph hF hPh hlt hP hU K hK0
    have hph : ph ≤ 0 := (hlt 0 10 rfl).2 (by kernel_rfl)
    have e13 : ac.eval (.tmp 13) = .pointer (some ⟨tb, to + i, none⟩) := hP 8 (by kernel_rfl)
    exact rop_ld _ _ rfl e13 (load_strX (((hPh.1 (by omega)).cell (p := ⟨tb, to + i, none⟩) HtbW.out).trans CT.out)) (wanted_none rfl) (hK0 _ _ GLx.same hPh rfl)
  · intro ac w' ph hF hPh hlt hP hU K hK0
    obtain rfl : ph = 0 := (hlt 0 10 rfl).1 rfl
    have e10 : ac.eval (.tmp 10) = .slice (some ⟨fb, 1 + i * 32, none⟩) 32 32 := hP 5 (by kernel_rfl)
    have e14 : ac.eval (.tmp 14) = .string X := hP 9 (by kernel_rfl)
    have hB : Below W.heap.size W w' := hPh.1 (by decide)
    have hf := HF.out.old' hB
    exact rop_copyF _ _ _ _ rfl e10 e14 (run_copy_str w' _ fb (1 + i * 32) 32 32 X M HM.out (fL n Q) 49 hf.2.2 (by rw [fL_length n Q hf.1 hf.2.1]; have := HM32.out; omega)) (wanted_none rfl) (hK0 _ _ (GLx.last rfl) ⟨fun h => absurd h (by decide), fun _ => ⟨w', hB, rfl⟩, keep_cell hPh.2.2.1 HfvB.out _ _, keep_cell hPh.2.2.2 Hn1.out _ _⟩ rfl)
  · intro ac w' hF hPh hT
    rw [hF.setsG [5, 6, 7, 8, 9, 10, 11, 12, 13, 14, 15] (by kernel_rfl)]
    simp only [List.foldl_cons, List.foldl_nil, List.setIfInBounds_toArray, List.set_cons_succ, List.set_cons_zero]
    generalize ac.eval (.tmp 5) = u5
    generalize ac.eval (.tmp 6) = u6
    generalize ac.eval (.tmp 7) = u7
    generalize ac.eval (.tmp 8) = u8
    generalize ac.eval (.tmp 9) = u9
    generalize ac.eval (.tmp 10) = u10
    generalize ac.eval (.tmp 11) = u11
    generalize ac.eval (.tmp 12) = u12
    generalize ac.eval (.tmp 13) = u13
    generalize ac.eval (.tmp 14) = u14
    generalize ac.eval (.tmp 15) = u15
    clear  hT hF ac
    obtain ⟨u, bu, hwu⟩ := hPh.2.1 rfl
    have ho : Only fb W (u.setCells fb (1 + i * 32) ((X.data.toList.take M).map u8V)) := (Only.of_below bu).trans (only_setCells (b := fb) _ _ _ (Only.refl _ _))
    have hfin : X.size = 32 → Front fb n (Q.set i X.data.toList) (u.setCells fb (1 + i * 32) ((X.data.toList.take M).map u8V)) := fun h32 => by
      have hl : X.data.toList.length = 32 := by rw [← Lib.size_eq]; exact h32
      have e : M = 32 := by rw [← HM.out, h32]; rfl
      rw [e, List.take_of_length_le (by omega)]
      exact (HF.out.old' bu).setQ i hi40 hl
    rw [← hwu] at ho hfin
    have cp2 := (ho.cellA (p := ⟨pv, 0, none⟩) HpvW.out Hn1.out).trans CP.out
    have ct2 := (ho.cellA (p := ⟨tb, to + i, none⟩) HtbW.out Hn2.out).trans CT.out
    have hidx := fun u => index_strs tb to m c i him u
    have HO := Lib.hid ho
    have HFN := Lib.hid hfin
    clear hPh hwu ho hfin bu
    by_cases h32 : X.size = 32
    · have hd : decide (X.size = 32) = true := decide_eq_true h32
      have h' : (X.size : Int) = 32 := by omega
      have H32 := Lib.hid h32
      clear h32
      go_wp2
      go_ret
      exact ⟨by rw [decide_eq_true H32.out]; rfl, HO.out, HFN.out⟩
    · have hd : decide (X.size = 32) = false := decide_eq_false h32
      have h' : ((X.size : Int) == 32) = false := beq_eq_false_iff_ne.2 (by omega)
      have H32 := Lib.hid h32
      clear h32
      go_wp2
      go_ret
      exact ⟨by rw [decide_eq_false H32.out]; rfl, HO.out, HFN.out⟩
end Go.Proofs.YtgiakpnkidblpaaDoor
