/-
  RecordMany: a row has at most 4000 records. For every number (by its rest 3990 to 4010), no condition.
-/
import Derived.Test.YtbhalioajekfcaaRecArg
import Derived.Test.YtbhalioajekfcaaRecRows
namespace Go.Proofs.Ytbhalioajekfcaa.recordMany
open Go.ChangeShapes Go.WideShapes Go.ChangeAt Go.RowKit

theorem make_big (n c : Nat) (h : n ≤ c) (hc : c ≤ 100000) (w : World) : (Instr.makeSlice 42 (.int .i64 (n : Int)) (.int .i64 (c : Int))).run Try.prog w = .ok (.slice (some ⟨w.heap.size, 0, none⟩) n c) (w.alloc (.cells ((List.replicate c (0 : UInt8)).map u8V).toArray 5)) := by
  obtain ⟨i0, hi, hz0, hz1, hz2⟩ := info_parts info_u8
  have hr := run_make (P := Try.prog) w 42 5 i0 (.int .u8 0) Try.underlying42 hi hz0 .i64 .i64 n c (by omega) (by omega) (by rw [hz2]; omega) (by omega)
  rw [hz1] at hr
  simp only [Int.toNat_natCast] at hr
  rw [made_u8] at hr
  exact hr
theorem zeros_big (k : Nat) (hk : k ≤ 100000) : ∃ X : Obj, (∀ u : World, (Instr.makeSlice 42 (.int .i64 (k : Int)) (.int .i64 (k : Int))).run Try.prog u = .ok (.slice (some ⟨u.heap.size, 0, none⟩) k k) (u.alloc X)) ∧ ∀ u : World, (convert 42 9 (.slice (some ⟨u.heap.size, 0, none⟩) k k)).run Try.prog (u.alloc X) = .ok (.string ⟨(List.replicate k 0).toArray⟩) (u.alloc X) :=
  ⟨_, fun u => make_big k k (Nat.le_refl _) hk u, fun u => convert_bytes _ u.heap.size k k (List.replicate k 0) (by simp) (cell_u8 (heap_alloc_last u _))⟩
/-- Records that have nothing, from place i on. -/
def zeroR (i m : Nat) : List RecR := (List.range m).map fun j => ⟨5, ((i + j : Nat) : Int), 0, ⟨#[]⟩⟩
theorem zero_bytes (x : RecR) (h : x.tim = 0) (h2 : x.pay = ⟨#[]⟩) : rowL x = [0, 0] := by
  unfold rowL; rw [h, h2]; decide +kernel
theorem rowsL_zero (i : Nat) : ∀ l : List RecR, (∀ x ∈ l, x.tim = 0 ∧ x.pay = ⟨#[]⟩) → rowsL l = List.replicate (2 * l.length) 0
  | [], _ => rfl
  | x :: t, h => by
    obtain ⟨h1, h2⟩ := h x (by simp)
    rw [rowsL_cons, zero_bytes x h1 h2, rowsL_zero i t fun y hy => h y (by simp [hy]), List.length_cons, show 2 * (t.length + 1) = 2 * t.length + 1 + 1 by omega]
    rfl
theorem many_some (m : Nat) (hm : m ≤ 4000) : rowsR 5 (List.replicate (2 * m) 0) = some (zeroR 0 m) := by
  have e : rowsL (zeroR 0 m) = List.replicate (2 * m) 0 := by
    rw [rowsL_zero 0 _ (fun x hx => by obtain ⟨j, _, rfl⟩ := List.mem_map.1 hx; exact ⟨rfl, rfl⟩)]
    simp [zeroR]
  unfold rowsR
  rw [← e]
  refine rows_read 5 (zeroR 0 m) 0 _ (Nat.le_refl _) fun j r hr => ?_
  obtain ⟨hj, e⟩ := List.getElem?_eq_some_iff.1 hr
  have hj' : j < m := by simpa [zeroR] using hj
  simp only [zeroR, List.getElem_map, List.getElem_range] at e
  subst e
  refine ⟨rfl, rfl, chk_of ⟨(show (0 : Int) ≤ 5 ∧ (5 : Int) ≤ 1125899906842624 by decide), ⟨?_, ?_⟩, (show (0 : Int) ≤ 0 ∧ (0 : Int) ≤ 1125899906842624 by decide), (show (0 : Nat) ≤ 2000 by decide)⟩⟩
  · show (0 : Int) ≤ ((0 + j : Nat) : Int); omega
  · show ((0 + j : Nat) : Int) ≤ 3999; omega
theorem many_none : ∀ (d i m f : Nat), 4000 = i + d → 4000 < i + m → rowsG 5 f i (List.replicate (2 * m) 0) = none
  | d, i, 0, f, h1, h2 => by omega
  | d, i, m + 1, 0, _, _ => by rw [show 2 * (m + 1) = 2 * m + 1 + 1 by omega]; rfl
  | d, i, m + 1, f + 1, h1, h2 => by
    obtain ⟨q1, q2, q3⟩ := row_read ⟨5, i, 0, ⟨#[]⟩⟩ (List.replicate (2 * m) 0) (show (0 : Int) ≤ 0 by decide) (show (0 : Int) ≤ 1125899906842624 by decide) (show (0 : Nat) ≤ 2000 by decide)
    have e : rowL ⟨5, i, 0, ⟨#[]⟩⟩ ++ List.replicate (2 * m) 0 = List.replicate (2 * (m + 1)) 0 := by
      rw [zero_bytes _ rfl rfl, show 2 * (m + 1) = 2 * m + 1 + 1 by omega]; rfl
    rw [e] at q1 q2 q3
    rw [rowsG_step _ _ _ _ (by rw [show 2 * (m + 1) = 2 * m + 1 + 1 by omega]; simp [List.replicate_succ]), q3]
    simp only
    cases d with
    | zero =>
      rw [if_neg (fun h => by have := (chk_ok h).2.1.2; omega)]
    | succ d =>
      rw [many_none d (i + 1) m f (by omega) (by omega)]
      split <;> rfl
theorem zeroR_get (m : Nat) (j : Nat) (h : j < m) : (zeroR 0 m)[j]? = some ⟨5, ((0 + j : Nat) : Int), 0, ⟨#[]⟩⟩ := by simp [zeroR, h]
theorem pick_none {R : Option (List RecR)} (hR : R = none) {l : List RecR} {v : Value} {z : Int} (k : (R = some l ∧ z = 0) ∨ (R = none ∧ l = [] ∧ v = .slice none 0 0 ∧ z = 10)) : l = [] ∧ v = .slice none 0 0 ∧ z = 10 := by
  rcases k with ⟨e, _⟩ | ⟨_, h1, h2, h3⟩
  · rw [hR] at e; cases e
  · exact ⟨h1, h2, h3⟩
theorem pick_some {R : Option (List RecR)} {l0 : List RecR} (hR : R = some l0) {l : List RecR} {v : Value} {z : Int} (k : (R = some l ∧ z = 0) ∨ (R = none ∧ l = [] ∧ v = .slice none 0 0 ∧ z = 10)) : l = l0 ∧ z = 0 := by
  rcases k with ⟨e, h⟩ | ⟨e, _, _, _⟩
  · rw [hR] at e; exact ⟨(Option.some.inj e).symm, h⟩
  · rw [hR] at e; cases e
theorem eql_err0 (a : Int) (w : World) : (binOp .eql 26 (.int .i64 a) (.int .i64 a)).run Try.prog w = .ok (.bool true) w := by
  go_simp
set_option maxHeartbeats 6400000 in
set_option maxRecDepth 100000 in
theorem walk {w : World} (n : Int) (_n1 : -9223372036854775808 ≤ n) (_n2 : n ≤ 9223372036854775807) :
    Calls Try.prog 6 #[.int .i64 n] w fun e w' => e = .returned (.bool true) ∧ Below w.heap.size w w' := by
  obtain ⟨t, ht⟩ : ∃ t, t = n.tmod 21 := ⟨_, rfl⟩
  have t1 : t < 21 := by rw [ht]; exact Int.tmod_lt_of_pos n (by decide)
  have t2 : -21 < t := by rw [ht]; exact Int.lt_tmod_of_pos n (by decide)
  have q0 : n.tmod 21 = t := ht.symm
  clear ht
  go_enter Try.func6, Try.ntmps6
  go_upto_region 3 with (go_at_call 8; ((with_reducible refine (awake15_any _).mono ?_); rintro e w1 ⟨rfl, hb⟩))
  clear q0
  go_upto_if 11 with fail
  go_cut [4] (fun s4 wx => w1 = wx ∧ ∃ Km : Nat, s4 = .int .i64 Km ∧ Km ≤ 20)
  case first =>
    by_cases hneg : t < 0
    · go_wp2
      go_meet
      case rel => exact ⟨rfl, (-t).toNat, by rw [show (((-t).toNat : Nat) : Int) = -t by omega], by omega⟩
    · go_wp2
      go_meet
      case rel => exact ⟨rfl, t.toNat, by rw [show ((t.toNat : Nat) : Int) = t by omega], by omega⟩
  case rest =>
    obtain ⟨rfl, K0, rfl, hK0⟩ := hcut
    clear t1 t2
    obtain ⟨Km, hK⟩ : ∃ Km, Km = K0 + 3990 := ⟨_, rfl⟩
    have e1 : (K0 : Int) + 3990 = (Km : Int) := by omega
    have hKl : 3990 ≤ Km := by omega
    have hKu : Km ≤ 4010 := by omega
    have hk1 : IntKind.i64.wrap ((K0 : Int) + 3990) = (Km : Int) := by rw [IntWalk.i64_in _ (by omega)]; exact e1
    clear hK
    go_upto_region 6 with fail
    obtain ⟨M, hM⟩ : ∃ M, M = 2 * Km := ⟨_, rfl⟩
    have e2 : 2 * (Km : Int) = (M : Int) := by omega
    have hMu : M ≤ 8020 := by omega
    obtain ⟨X, hmk, hcv⟩ := zeros_big M (by omega)
    obtain ⟨Z, hZ⟩ : ∃ Z : ByteArray, Z = ⟨(List.replicate M 0).toArray⟩ := ⟨_, rfl⟩
    rw [← hZ] at hcv
    have hZs : Z.size = M := by rw [hZ, ByteArray.size, List.size_toArray, List.length_replicate]
    have q1 := fun u => rows_any 5 Z u (by omega)
    rw [show Z.data.toList = List.replicate (2 * Km) 0 by rw [hZ, hM]] at q1
    have HM := Lib.hid hM
    clear hM hZ hZs
    by_cases hbig : 4000 < Km
    · have hn : rowsR 5 (List.replicate (2 * Km) 0) = none := many_none 4000 0 Km _ (by decide) (by omega)
      have hbig' : (4000 : Int) < (Km : Int) := by omega
      have HN := Lib.hid hn
      clear hn
      go_wp2_with (go_at_call 12; ((with_reducible refine (q1 _).mono ?_); rintro e w5 ⟨⟨v5, z5, l5, rfl, o5, k5⟩, b5⟩; obtain ⟨rfl, rfl, rfl⟩ : l5 = [] ∧ v5 = .slice none 0 0 ∧ z5 = 10 := pick_none HN.out k5))
      go_ret
      exact ⟨by simp, below_step (below_step hb (Nat.le_refl _) (below_box' _ _)) (Nat.le_refl _) b5⟩
    · have hs : rowsR 5 (List.replicate (2 * Km) 0) = some (zeroR 0 Km) := many_some Km (by omega)
      have hbig' : ¬ (4000 : Int) < (Km : Int) := by omega
      have HN := Lib.hid hs
      clear hs
      go_upto_region 7 with (go_at_call 12; ((with_reducible refine (q1 _).mono ?_); rintro e w5 ⟨⟨v5, z5, l5, rfl, o5, k5⟩, b5⟩; obtain ⟨rfl, rfl⟩ : l5 = zeroR 0 Km ∧ z5 = 0 := pick_some HN.out k5))
      have hbw := below_step (below_step hb (Nat.le_refl _) (below_box' _ _)) (Nat.le_refl _) b5
      have hrow := o5.row
      obtain ⟨va, cap, rfl⟩ := hrow.slice
      rw [show (zeroR 0 Km).length = Km by simp [zeroR]] at hrow ⊢
      obtain ⟨b, off, rfl, hbl, _, c1, _, _⟩ := hrow.at (Km - 1) _ (zeroR_get Km (Km - 1) (by omega))
      obtain ⟨b', off', e', _, d0, _, _, _⟩ := hrow.at 0 _ (zeroR_get Km 0 (by omega))
      injection e' with e'
      injection e' with e1' e2' _
      subst e1' e2'
      simp only [Nat.zero_add] at c1 d0
      clear o5 k5 b5 hrow q1 HN hb
      go_upto_region 9 with fail
      try simp only [Act.put]
      refine wp_region_tab0 [RT.is (.bool true), RT.is (.bool true), RT.is (.int .i64 0), RT.is (.bool true), RT.is (.bool true), RT.is (.bool true), RT.is (.slice (some ⟨b, off, none⟩) Km cap), RT.is (.int .i64 (Km : Int)), RT.is (.int .i64 (Km : Int)), RT.is (.bool true), RT.is (.bool true), RT.is (.bool true), RT.is (.slice (some ⟨b, off, none⟩) Km cap), RT.is (.int .i64 (Km : Int)), RT.is (.int .i64 (((Km - 1 : Nat) : Int))), RT.is (.pointer (some ⟨b, off + (Km - 1) * 4, none⟩)), RT.is (.pointer (some ⟨b, off + (Km - 1) * 4 + 1, none⟩)), RT.is (.int .i64 ((Km - 1 : Nat) : Int)), RT.is (.int .i64 (Km : Int)), RT.is (.int .i64 (((Km - 1 : Nat) : Int))), RT.is (.bool true), RT.is (.bool true), RT.is (.bool true), RT.is (.slice (some ⟨b, off, none⟩) Km cap), RT.is (.pointer (some ⟨b, off + 0 * 4, none⟩)), RT.is (.pointer (some ⟨b, off + 0 * 4, none⟩)), RT.is (.int .i64 5), RT.is (.bool true), RT.is (.bool true), RT.is (.bool true)] (by kernel_rfl) (by kernel_rfl) (by kernel_rfl) ⟨?_, ?_, ?_, ?_, ?_, ?_, ?_, ?_, ?_, ?_, ?_, ?_, ?_, ?_, ?_, ?_, ?_, ?_, ?_, ?_, ?_, ?_, ?_, ?_, ?_, ?_, ?_, ?_, ?_, ?_, trivial⟩ ?_
      · intro ac w' hF hL hP hU K hK
        have hB : Below _ _ _ := hL
        have e3 : ac.eval (.tmp 3) = .bool true := hF.at 3 (by kernel_rfl)
        exact rop_move _ rfl e3 (wanted_none rfl) (hK _ _ (le8_refl _) rfl)
      · intro ac w' hF hL hP hU K hK
        have hB : Below _ _ _ := hL
        have e36 : ac.eval (.tmp 36) = .bool true := hP 0 (by kernel_rfl)
        exact rop_move _ rfl e36 (wanted_none rfl) (hK _ _ (le8_refl _) rfl)
      · intro ac w' hF hL hP hU K hK
        have hB : Below _ _ _ := hL
        have e6 : ac.eval (.tmp 6) = .int .i64 0 := hF.at 6 (by kernel_rfl)
        have e37 : ac.eval (.tmp 37) = .bool true := hP 1 (by kernel_rfl)
        exact rop_move _ rfl e6 (wanted_of (j := 1) (b := true) rfl rfl e37) (hK _ _ (le8_refl _) rfl)
      · intro ac w' hF hL hP hU K hK
        have hB : Below _ _ _ := hL
        have e38 : ac.eval (.tmp 38) = .int .i64 0 := hP 2 (by kernel_rfl)
        have e37 : ac.eval (.tmp 37) = .bool true := hP 1 (by kernel_rfl)
        exact rop_bin _ _ _ _ _ rfl e38 rfl (guard_int _ _ _ _ _ _ _ w') (eql_err0 _ w') (wanted_of (j := 1) (b := true) rfl rfl e37) (hK _ _ (le8_refl _) rfl)
      · intro ac w' hF hL hP hU K hK
        have hB : Below _ _ _ := hL
        have e37 : ac.eval (.tmp 37) = .bool true := hP 1 (by kernel_rfl)
        have e39 : ac.eval (.tmp 39) = .bool true := hP 3 (by kernel_rfl)
        exact rop_pick _ _ _ rfl true e37 (by simpa using e39) (wanted_none rfl) (hK _ _ (le8_refl _) rfl)
      · intro ac w' hF hL hP hU K hK
        have hB : Below _ _ _ := hL
        have e40 : ac.eval (.tmp 40) = .bool true := hP 4 (by kernel_rfl)
        exact rop_move _ rfl e40 (wanted_none rfl) (hK _ _ (le8_refl _) rfl)
      · intro ac w' hF hL hP hU K hK
        have hB : Below _ _ _ := hL
        have e5 : ac.eval (.tmp 5) = .slice (some ⟨b, off, none⟩) Km cap := hF.at 5 (by kernel_rfl)
        have e41 : ac.eval (.tmp 41) = .bool true := hP 5 (by kernel_rfl)
        exact rop_move _ rfl e5 (wanted_of (j := 5) (b := true) rfl rfl e41) (hK _ _ (le8_refl _) rfl)
      · intro ac w' hF hL hP hU K hK
        have hB : Below _ _ _ := hL
        have e42 : ac.eval (.tmp 42) = .slice (some ⟨b, off, none⟩) Km cap := hP 6 (by kernel_rfl)
        have e41 : ac.eval (.tmp 41) = .bool true := hP 5 (by kernel_rfl)
        exact rop_lenG _ Try.underlying29 rfl e42 (wanted_of (j := 5) (b := true) rfl rfl e41) (hK _ _ (le8_refl _) rfl)
      · intro ac w' hF hL hP hU K hK
        have hB : Below _ _ _ := hL
        have e4 : ac.eval (.tmp 4) = .int .i64 (Km : Int) := hF.at 4 (by kernel_rfl)
        have e41 : ac.eval (.tmp 41) = .bool true := hP 5 (by kernel_rfl)
        exact rop_move _ rfl e4 (wanted_of (j := 5) (b := true) rfl rfl e41) (hK _ _ (le8_refl _) rfl)
      · intro ac w' hF hL hP hU K hK
        have hB : Below _ _ _ := hL
        have e43 : ac.eval (.tmp 43) = .int .i64 (Km : Int) := hP 7 (by kernel_rfl)
        have e44 : ac.eval (.tmp 44) = .int .i64 (Km : Int) := hP 8 (by kernel_rfl)
        have e41 : ac.eval (.tmp 41) = .bool true := hP 5 (by kernel_rfl)
        exact rop_bin _ _ _ _ _ rfl e43 e44 (guard_int _ _ _ _ _ _ _ w') (eql_iG _ _ _ (by simp) w') (wanted_of (j := 5) (b := true) rfl rfl e41) (hK _ _ (le8_refl _) rfl)
      · intro ac w' hF hL hP hU K hK
        have hB : Below _ _ _ := hL
        have e41 : ac.eval (.tmp 41) = .bool true := hP 5 (by kernel_rfl)
        have e45 : ac.eval (.tmp 45) = .bool true := hP 9 (by kernel_rfl)
        exact rop_pick _ _ _ rfl true e41 (by simpa using e45) (wanted_none rfl) (hK _ _ (le8_refl _) rfl)
      · intro ac w' hF hL hP hU K hK
        have hB : Below _ _ _ := hL
        have e46 : ac.eval (.tmp 46) = .bool true := hP 10 (by kernel_rfl)
        exact rop_move _ rfl e46 (wanted_none rfl) (hK _ _ (le8_refl _) rfl)
      · intro ac w' hF hL hP hU K hK
        have hB : Below _ _ _ := hL
        have e5 : ac.eval (.tmp 5) = .slice (some ⟨b, off, none⟩) Km cap := hF.at 5 (by kernel_rfl)
        have e47 : ac.eval (.tmp 47) = .bool true := hP 11 (by kernel_rfl)
        exact rop_move _ rfl e5 (wanted_of (j := 11) (b := true) rfl rfl e47) (hK _ _ (le8_refl _) rfl)
      · intro ac w' hF hL hP hU K hK
        have hB : Below _ _ _ := hL
        have e4 : ac.eval (.tmp 4) = .int .i64 (Km : Int) := hF.at 4 (by kernel_rfl)
        have e47 : ac.eval (.tmp 47) = .bool true := hP 11 (by kernel_rfl)
        exact rop_move _ rfl e4 (wanted_of (j := 11) (b := true) rfl rfl e47) (hK _ _ (le8_refl _) rfl)
      · intro ac w' hF hL hP hU K hK
        have hB : Below _ _ _ := hL
        have e49 : ac.eval (.tmp 49) = .int .i64 (Km : Int) := hP 13 (by kernel_rfl)
        have e47 : ac.eval (.tmp 47) = .bool true := hP 11 (by kernel_rfl)
        exact rop_bin _ _ _ _ _ rfl e49 rfl (guard_int _ _ _ _ _ _ _ w') (sub_int _ _ _ (by omega) (by omega) w') (wanted_of (j := 11) (b := true) rfl rfl e47) (hK _ _ (le8_refl _) rfl)
      · intro ac w' hF hL hP hU K hK
        have hB : Below _ _ _ := hL
        have e48 : ac.eval (.tmp 48) = .slice (some ⟨b, off, none⟩) Km cap := hP 12 (by kernel_rfl)
        have e50 : ac.eval (.tmp 50) = .int .i64 (((Km - 1 : Nat) : Int)) := hP 14 (by kernel_rfl)
        have e47 : ac.eval (.tmp 47) = .bool true := hP 11 (by kernel_rfl)
        exact rop_idx _ _ _ rfl e48 e50 (index_rec b off Km cap (Km - 1) (by omega) w') (wanted_of (j := 11) (b := true) rfl rfl e47) (hK _ _ (le8_refl _) rfl)
      · intro ac w' hF hL hP hU K hK
        have hB : Below _ _ _ := hL
        have e51 : ac.eval (.tmp 51) = .pointer (some ⟨b, off + (Km - 1) * 4, none⟩) := hP 15 (by kernel_rfl)
        have e47 : ac.eval (.tmp 47) = .bool true := hP 11 (by kernel_rfl)
        exact rop_fld _ _ _ rfl e51 ((recFld b (off + (Km - 1) * 4) _).2.1) (wanted_of (j := 11) (b := true) rfl rfl e47) (hK _ _ (le8_refl _) rfl)
      · intro ac w' hF hL hP hU K hK
        have hB : Below _ _ _ := hL
        have e52 : ac.eval (.tmp 52) = .pointer (some ⟨b, off + (Km - 1) * 4 + 1, none⟩) := hP 16 (by kernel_rfl)
        have e47 : ac.eval (.tmp 47) = .bool true := hP 11 (by kernel_rfl)
        exact rop_ld _ _ rfl e52 (load_intR ((hB.cell (p := ⟨b, _, none⟩) hbl).trans c1)) (wanted_of (j := 11) (b := true) rfl rfl e47) (hK _ _ (le8_refl _) rfl)
      · intro ac w' hF hL hP hU K hK
        have hB : Below _ _ _ := hL
        have e4 : ac.eval (.tmp 4) = .int .i64 (Km : Int) := hF.at 4 (by kernel_rfl)
        have e47 : ac.eval (.tmp 47) = .bool true := hP 11 (by kernel_rfl)
        exact rop_move _ rfl e4 (wanted_of (j := 11) (b := true) rfl rfl e47) (hK _ _ (le8_refl _) rfl)
      · intro ac w' hF hL hP hU K hK
        have hB : Below _ _ _ := hL
        have e54 : ac.eval (.tmp 54) = .int .i64 (Km : Int) := hP 18 (by kernel_rfl)
        have e47 : ac.eval (.tmp 47) = .bool true := hP 11 (by kernel_rfl)
        exact rop_bin _ _ _ _ _ rfl e54 rfl (guard_int _ _ _ _ _ _ _ w') (sub_int _ _ _ (by omega) (by omega) w') (wanted_of (j := 11) (b := true) rfl rfl e47) (hK _ _ (le8_refl _) rfl)
      · intro ac w' hF hL hP hU K hK
        have hB : Below _ _ _ := hL
        have e53 : ac.eval (.tmp 53) = .int .i64 ((Km - 1 : Nat) : Int) := hP 17 (by kernel_rfl)
        have e55 : ac.eval (.tmp 55) = .int .i64 (((Km - 1 : Nat) : Int)) := hP 19 (by kernel_rfl)
        have e47 : ac.eval (.tmp 47) = .bool true := hP 11 (by kernel_rfl)
        exact rop_bin _ _ _ _ _ rfl e53 e55 (guard_int _ _ _ _ _ _ _ w') (eql_iG _ _ _ (by simp) w') (wanted_of (j := 11) (b := true) rfl rfl e47) (hK _ _ (le8_refl _) rfl)
      · intro ac w' hF hL hP hU K hK
        have hB : Below _ _ _ := hL
        have e47 : ac.eval (.tmp 47) = .bool true := hP 11 (by kernel_rfl)
        have e56 : ac.eval (.tmp 56) = .bool true := hP 20 (by kernel_rfl)
        exact rop_pick _ _ _ rfl true e47 (by simpa using e56) (wanted_none rfl) (hK _ _ (le8_refl _) rfl)
      · intro ac w' hF hL hP hU K hK
        have hB : Below _ _ _ := hL
        have e57 : ac.eval (.tmp 57) = .bool true := hP 21 (by kernel_rfl)
        exact rop_move _ rfl e57 (wanted_none rfl) (hK _ _ (le8_refl _) rfl)
      · intro ac w' hF hL hP hU K hK
        have hB : Below _ _ _ := hL
        have e5 : ac.eval (.tmp 5) = .slice (some ⟨b, off, none⟩) Km cap := hF.at 5 (by kernel_rfl)
        have e58 : ac.eval (.tmp 58) = .bool true := hP 22 (by kernel_rfl)
        exact rop_move _ rfl e5 (wanted_of (j := 22) (b := true) rfl rfl e58) (hK _ _ (le8_refl _) rfl)
      · intro ac w' hF hL hP hU K hK
        have hB : Below _ _ _ := hL
        have e59 : ac.eval (.tmp 59) = .slice (some ⟨b, off, none⟩) Km cap := hP 23 (by kernel_rfl)
        have e58 : ac.eval (.tmp 58) = .bool true := hP 22 (by kernel_rfl)
        exact rop_idx _ _ _ rfl e59 rfl (index_rec b off Km cap 0 (by omega) w') (wanted_of (j := 22) (b := true) rfl rfl e58) (hK _ _ (le8_refl _) rfl)
      · intro ac w' hF hL hP hU K hK
        have hB : Below _ _ _ := hL
        have e60 : ac.eval (.tmp 60) = .pointer (some ⟨b, off + 0 * 4, none⟩) := hP 24 (by kernel_rfl)
        have e58 : ac.eval (.tmp 58) = .bool true := hP 22 (by kernel_rfl)
        exact rop_fld _ _ _ rfl e60 ((recFld b (off + 0 * 4) _).1) (wanted_of (j := 22) (b := true) rfl rfl e58) (hK _ _ (le8_refl _) rfl)
      · intro ac w' hF hL hP hU K hK
        have hB : Below _ _ _ := hL
        have e61 : ac.eval (.tmp 61) = .pointer (some ⟨b, off + 0 * 4, none⟩) := hP 25 (by kernel_rfl)
        have e58 : ac.eval (.tmp 58) = .bool true := hP 22 (by kernel_rfl)
        exact rop_ld _ _ rfl e61 (load_intR ((hB.cell (p := ⟨b, _, none⟩) hbl).trans d0)) (wanted_of (j := 22) (b := true) rfl rfl e58) (hK _ _ (le8_refl _) rfl)
      · intro ac w' hF hL hP hU K hK
        have hB : Below _ _ _ := hL
        have e62 : ac.eval (.tmp 62) = .int .i64 5 := hP 26 (by kernel_rfl)
        have e58 : ac.eval (.tmp 58) = .bool true := hP 22 (by kernel_rfl)
        exact rop_bin _ _ _ _ _ rfl e62 rfl (guard_int _ _ _ _ _ _ _ w') (eql_iG _ _ _ (by simp) w') (wanted_of (j := 22) (b := true) rfl rfl e58) (hK _ _ (le8_refl _) rfl)
      · intro ac w' hF hL hP hU K hK
        have hB : Below _ _ _ := hL
        have e58 : ac.eval (.tmp 58) = .bool true := hP 22 (by kernel_rfl)
        have e63 : ac.eval (.tmp 63) = .bool true := hP 27 (by kernel_rfl)
        exact rop_pick _ _ _ rfl true e58 (by simpa using e63) (wanted_none rfl) (hK _ _ (le8_refl _) rfl)
      · intro ac w' hF hL hP hU K hK
        have hB : Below _ _ _ := hL
        have e64 : ac.eval (.tmp 64) = .bool true := hP 28 (by kernel_rfl)
        exact rop_assign _ rfl e64 (wanted_none rfl) (hK _ _ (le8_refl _) rfl)
      · intro ac w' hF hB hT
        have e2 : ac.eval (.tmp 2) = .bool true := hT 29 (by decide)
        rw [hF.setsG [36, 37, 38, 39, 40, 41, 42, 43, 44, 45, 46, 47, 48, 49, 50, 51, 52, 53, 54, 55, 56, 57, 58, 59, 60, 61, 62, 63, 64, 2] (by kernel_rfl)]
        simp only [List.foldl_cons, List.foldl_nil, List.setIfInBounds_toArray, List.set_cons_succ, List.set_cons_zero, e2]
        generalize ac.eval (.tmp 36) = u36
        generalize ac.eval (.tmp 37) = u37
        generalize ac.eval (.tmp 38) = u38
        generalize ac.eval (.tmp 39) = u39
        generalize ac.eval (.tmp 40) = u40
        generalize ac.eval (.tmp 41) = u41
        generalize ac.eval (.tmp 42) = u42
        generalize ac.eval (.tmp 43) = u43
        generalize ac.eval (.tmp 44) = u44
        generalize ac.eval (.tmp 45) = u45
        generalize ac.eval (.tmp 46) = u46
        generalize ac.eval (.tmp 47) = u47
        generalize ac.eval (.tmp 48) = u48
        generalize ac.eval (.tmp 49) = u49
        generalize ac.eval (.tmp 50) = u50
        generalize ac.eval (.tmp 51) = u51
        generalize ac.eval (.tmp 52) = u52
        generalize ac.eval (.tmp 53) = u53
        generalize ac.eval (.tmp 54) = u54
        generalize ac.eval (.tmp 55) = u55
        generalize ac.eval (.tmp 56) = u56
        generalize ac.eval (.tmp 57) = u57
        generalize ac.eval (.tmp 58) = u58
        generalize ac.eval (.tmp 59) = u59
        generalize ac.eval (.tmp 60) = u60
        generalize ac.eval (.tmp 61) = u61
        generalize ac.eval (.tmp 62) = u62
        generalize ac.eval (.tmp 63) = u63
        generalize ac.eval (.tmp 64) = u64
        clear e2 hT hF ac
        have hbz := below_step hbw (Nat.le_refl _) hB
        clear hB c1 d0
        go_wp2
        go_ret
        exact ⟨rfl, hbz⟩

set_option maxRecDepth 100000 in
theorem lifted (os : Os) (started : os.Started) (H : Type) (enc : TypeId × Value → H) :
    ReturnsInHanded {} Try.checked os 6 .any (Rows.recordManySpec.pre6 enc Try.prog Try.f6 Rows.recordManyRow.domain false) (Rows.recordManySpec.post enc Try.prog Try.f6 false true false false) := by
  refine returnsInHanded_of_change (C := Try.checked) lawOwn started (by kernel_rfl) Try.func6
    (ChangeSpec.witness6 (enc := enc) (C := Try.checked) false ⟨#[], #[.int .i64 0], []⟩ 8 (by kernel_rfl) (by kernel_rfl) (by kernel_rfl) (by kernel_rfl)) ?_
  intro W base args ds gs before hval0 hW hcnd _
  have hval : ∀ (j : Nat) t v, Try.f6.params[j]? = some t → args[j]? = some v → Value.okWide Try.prog W .any base t v := hval0
  have hW' := hW
  obtain ⟨p, q, hA0, hV, rfl, hfz, hnd⟩ := hW
  have hA : DataW.TrodAll enc Try.prog W 0 (fun _ => true) true Try.f6.params.toList args.toList ds p := hA0
  rw [Try.params6] at hA hval
  obtain ⟨v0, vs0, d0, ds0, p0, q0, hargs, rfl, rfl, h0, r0⟩ := trodAll_cons hA
  obtain ⟨rfl, rfl, rfl⟩ := trodAll_nil r0
  obtain rfl : args = #[v0] := by cases args; simp_all
  obtain ⟨rfl, rfl⟩ := trodVars_none hV
  obtain ⟨a0, rfl, rfl, rfl, w0⟩ := open_int Try.underlying3 (hval 0 3 v0 rfl rfl) h0
  clear hA0 hval0 hcnd
  obtain ⟨l0, m0⟩ := i64_bounds w0
  refine (walk (w := W) a0 l0 m0).mono fun e W' ⟨he, bel⟩ => ?_
  subst he
  exact ⟨_, rfl, law_post rfl rfl (by kernel_rfl) hW' rfl bel⟩

theorem holds : Rows.RecordManySaid :=
  OpenClaim.holds_of_wide 6 Try.f6 rfl rfl rfl rfl rfl rfl rfl ⟨rfl, rfl, rfl, rfl, rfl⟩ rfl rfl rfl rfl rfl (by kernel_rfl) Try.func6 (by kernel_rfl)
    (of_decide_eq_true (by kernel_rfl)) (by unfold Func.isWrapper; first | (rw [if_pos (by decide +kernel)]; kernel_rfl) | (rw [if_neg (by decide +kernel)]; exact ⟨rfl, rfl⟩))
    (fun os started H enc _ => lifted os started H enc)
end Go.Proofs.Ytbhalioajekfcaa.recordMany

theorem Go.Proofs.Ytbhalioajekfcaa.recordMany_holds : Go.Proofs.Ytbhalioajekfcaa.Rows.RecordManySaid := Go.Proofs.Ytbhalioajekfcaa.recordMany.holds
#print axioms Go.Proofs.Ytbhalioajekfcaa.recordMany_holds
