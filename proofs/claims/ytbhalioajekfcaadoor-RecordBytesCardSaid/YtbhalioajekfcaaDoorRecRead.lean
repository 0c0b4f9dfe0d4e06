/-
  Package record: Read; the document's own.
-/
import Derived.Test.YtbhalioajekfcaaDoorRecFn
import Derived.Test.YtbhalioajekfcaaDoorMOct
namespace Go.Proofs.YtbhalioajekfcaaDoor
open Go.RowKit

/-- A result in memory, and another one beside it. -/
theorem results_ctR {fn : Func} {t u : Tmp} {ty : TypeId} (h : fn.results = #[.cell t ty, .tmp u]) (tmps : Array Value) (P : Program) (w : World) {b : Nat} {cs : List Value} {d : TypeDesc} (ht : tmps.getD t undef = .pointer (some ⟨b, 0, none⟩)) (hc : w.rangeAt b 0 cs)
    (hu : P.underlying ty = some d) (hd : d.isRow = true) (hi : (P.info? ty).map (·.size) = some cs.length) : (results fn tmps).run P w = .ok (.tuple #[.agg cs.toArray, tmps.getD u undef]) w := by
  have := run_loadVar_mid w b 0 ty cs d hc hu hd hi
  rw [Array.getD_eq_getD_getElem?] at ht
  simp [results, h, ht, asAddr, this, Result.andThen]
theorem RecAt.range {p : Nat} {win idx tim : Int} {pay : ByteArray} {w : World} (h : RecAt p win idx tim pay w) : w.rangeAt p 0 [.int .i64 win, .int .i64 idx, .int .i64 tim, .string pay] := fun j v hv => by
  rw [Nat.zero_add, cell_of h, ← hv]; simp
/-- What is left behind a record. -/
def recS1 (l : List UInt8) : Option (List UInt8) := numS (some l) 1125899906842624
def recS2 (l : List UInt8) : Option (List UInt8) := numS (recS1 l) 3999
def recS3 (l : List UInt8) : Option (List UInt8) := numS (recS2 l) 1125899906842624
def recS4 (l : List UInt8) : Option (List UInt8) := textS (recS3 l) 2000
/-- What Read tells. -/
def readZ (l : List UInt8) : Int := endV (recS4 l)
def readR (l : List UInt8) : RecR := if readZ l = 0 then ⟨numV (some l) 1125899906842624, numV (recS1 l) 3999, numV (recS2 l) 1125899906842624, ⟨(textV (recS3 l) 2000).toArray⟩⟩ else ⟨0, 0, 0, ⟨#[]⟩⟩
def recV (r : RecR) : Value := .agg #[.int .i64 r.win, .int .i64 r.idx, .int .i64 r.tim, .string r.pay]
theorem recV_cs (r : RecR) : recV r = .agg (recCs r).toArray := rfl
theorem below_alloc' (w : World) (o : Obj) : Below w.heap.size w (w.alloc o) := (Below.refl _ _).alloc (Nat.le_refl _) _
theorem endV_01 (st : Option (List UInt8)) : endV st = 0 ∨ endV st = 10 := by
  unfold endV; split
  · exact .inl rfl
  · exact .inr rfl

set_option maxHeartbeats 6400000 in
set_option maxRecDepth 100000 in
theorem recRead_any (s : ByteArray) (w : World) (hs : s.size ≤ 1000000000) :
    Calls Tryd.prog 12 #[.string s] w fun e w' => e = .returned (.tuple #[recV (readR s.data.toList), .int .i64 (readZ s.data.toList)]) ∧ Below w.heap.size w w' := by
  obtain ⟨l, hl⟩ : ∃ l, l = s.data.toList := ⟨_, rfl⟩
  have hsl : s = ⟨l.toArray⟩ := by rw [hl]
  have hll : l.length ≤ maxLen := by rw [hl, ← Lib.size_eq]; unfold maxLen; omega
  rw [← hl]
  obtain ⟨RV, hRV⟩ : ∃ v, v = recV (readR l) := ⟨_, rfl⟩
  obtain ⟨RZ, hRZ⟩ : ∃ v, v = readZ l := ⟨_, rfl⟩
  rw [← hRV, ← hRZ]
  have HRV := Lib.hid hRV
  have HRZ := Lib.hid hRZ
  clear hRV hRZ
  obtain ⟨p, hp⟩ : ∃ p, p = w.heap.size := ⟨_, rfl⟩
  obtain ⟨W0, hW0⟩ : ∃ u, u = w.alloc (.cells #[.int .i64 0, .int .i64 0, .int .i64 0, .string ⟨#[]⟩] 23) := ⟨_, rfl⟩
  have hb0 : Below w.heap.size w W0 := by rw [hW0]; exact (Below.refl _ _).alloc (Nat.le_refl _) _
  have hp0 : RecAt p 0 0 0 ⟨#[]⟩ W0 := by rw [hW0, hp]; exact RecAt.alloc _ _ _ _ _
  have HW0 := Lib.hid hW0
  have HP := Lib.hid hp
  have hpw : w.heap.size ≤ p := by omega
  clear hW0 hp
  have hrd := fun u => read_any l u hll
  rw [← hsl] at hrd
  have HL := Lib.hid hl
  have HSL := Lib.hid hsl
  clear hl hsl hll
  go_enter Tryd.func12, Tryd.ntmps12
  go_upto_region 1 with fail
  rw [← HW0.out, ← HP.out]
  clear HW0 HP
  go_upto_region 2 with (go_at_call 23; ((with_reducible refine (hrd _).mono ?_); rintro e w1 ⟨rfl, hs1, b1⟩))
  obtain ⟨q, hq⟩ : ∃ q, q = W0.heap.size := ⟨_, rfl⟩
  rw [← hq] at hs1 ⊢
  have hpq : p < q := by rw [hq]; exact hp0.lt
  have hp1 := hp0.old b1 hp0.lt
  have hb := below_step hb0 (Nat.le_refl _) b1
  clear hp0 hb0 b1 hrd
  obtain ⟨r, hr⟩ : ∃ r, r = w1.heap.size := ⟨_, rfl⟩
  obtain ⟨W2, hW2⟩ : ∃ u, u = w1.alloc (.cells #[.int .i64 0, .int .i64 0, .int .i64 0, .string ⟨#[]⟩] 23) := ⟨_, rfl⟩
  have hqr : q < r := by rw [hr]; exact hs1.lt
  have b2 : Below w1.heap.size w1 W2 := by rw [hW2]; exact (Below.refl _ _).alloc (Nat.le_refl _) _
  have hr2 : RecAt r 0 0 0 ⟨#[]⟩ W2 := by rw [hW2, hr]; exact RecAt.alloc _ _ _ _ _
  have HS := hs1.old b2 hs1.lt
  have HP := hp1.old b2 hp1.lt
  replace hb := below_step hb (Nat.le_refl _) b2
  clear hs1 hp1 b2
  have HW2 := Lib.hid hW2
  have HR := Lib.hid hr
  have hqw : w.heap.size ≤ q := by omega
  have hrw : w.heap.size ≤ r := by omega
  clear hW2 hr hq
  go_upto_region 3 with fail
  rw [← HW2.out, ← HR.out]
  clear HW2 HR
  have HA := hr2
  clear hr2
  -- field 0
  go_upto_region 4 with (go_at_call 24; ((with_reducible refine (num_any q (some l) 1125899906842624 _ HS (by decide) (by decide)).mono ?_); rintro e wx ⟨rfl, sx, ox⟩; have hx := HA.kept ox (by omega); have kx := hx.c0; have fx := fz_of hx 0; have Bx := ox.below (B := w.heap.size) hqw (by have := hb.size; omega)))
  obtain ⟨WN, hWN⟩ : ∃ u, u = wx.setCell ⟨r, 0, none⟩ (.int .i64 (numV (some l) 1125899906842624 : Int)) := ⟨_, rfl⟩
  rw [← hWN]
  have HPn := (HP.kept ox (by omega)).kept ((Only.refl r wx).setCell 0 (.int .i64 (numV (some l) 1125899906842624 : Int))) (by omega)
  have HAn := hx.set0 (numV (some l) 1125899906842624 : Int)
  have HSn := sx.kept ((Only.refl r wx).setCell 0 (.int .i64 (numV (some l) 1125899906842624 : Int))) (by omega)
  have hbn := (hb.trans Bx).setCell (p := ⟨r, 0, none⟩) hrw (.int .i64 (numV (some l) 1125899906842624 : Int))
  rw [← hWN] at HPn HAn HSn hbn
  clear HP HS HA hb hx kx fx sx ox Bx hWN
  have HP := HPn
  have HA := HAn
  have hb := hbn
  have HS : Scn q (recS1 l) WN := HSn
  clear HPn HAn HSn hbn
  -- field 1
  go_upto_region 5 with (go_at_call 24; ((with_reducible refine (num_any q (recS1 l) 3999 _ HS (by decide) (by decide)).mono ?_); rintro e wx ⟨rfl, sx, ox⟩; have hx := HA.kept ox (by omega); have kx := hx.c1; have fx := fz_of hx 1; have Bx := ox.below (B := w.heap.size) hqw (by have := hb.size; omega)))
  obtain ⟨WN, hWN⟩ : ∃ u, u = wx.setCell ⟨r, 1, none⟩ (.int .i64 (numV (recS1 l) 3999 : Int)) := ⟨_, rfl⟩
  rw [← hWN]
  have HPn := (HP.kept ox (by omega)).kept ((Only.refl r wx).setCell 1 (.int .i64 (numV (recS1 l) 3999 : Int))) (by omega)
  have HAn := hx.set1 (numV (recS1 l) 3999 : Int)
  have HSn := sx.kept ((Only.refl r wx).setCell 1 (.int .i64 (numV (recS1 l) 3999 : Int))) (by omega)
  have hbn := (hb.trans Bx).setCell (p := ⟨r, 1, none⟩) hrw (.int .i64 (numV (recS1 l) 3999 : Int))
  rw [← hWN] at HPn HAn HSn hbn
  clear HP HS HA hb hx kx fx sx ox Bx hWN
  have HP := HPn
  have HA := HAn
  have hb := hbn
  have HS : Scn q (recS2 l) WN := HSn
  clear HPn HAn HSn hbn
  -- field 2
  go_upto_region 6 with (go_at_call 24; ((with_reducible refine (num_any q (recS2 l) 1125899906842624 _ HS (by decide) (by decide)).mono ?_); rintro e wx ⟨rfl, sx, ox⟩; have hx := HA.kept ox (by omega); have kx := hx.c2; have fx := fz_of hx 2; have Bx := ox.below (B := w.heap.size) hqw (by have := hb.size; omega)))
  obtain ⟨WN, hWN⟩ : ∃ u, u = wx.setCell ⟨r, 2, none⟩ (.int .i64 (numV (recS2 l) 1125899906842624 : Int)) := ⟨_, rfl⟩
  rw [← hWN]
  have HPn := (HP.kept ox (by omega)).kept ((Only.refl r wx).setCell 2 (.int .i64 (numV (recS2 l) 1125899906842624 : Int))) (by omega)
  have HAn := hx.set2 (numV (recS2 l) 1125899906842624 : Int)
  have HSn := sx.kept ((Only.refl r wx).setCell 2 (.int .i64 (numV (recS2 l) 1125899906842624 : Int))) (by omega)
  have hbn := (hb.trans Bx).setCell (p := ⟨r, 2, none⟩) hrw (.int .i64 (numV (recS2 l) 1125899906842624 : Int))
  rw [← hWN] at HPn HAn HSn hbn
  clear HP HS HA hb hx kx fx sx ox Bx hWN
  have HP := HPn
  have HA := HAn
  have hb := hbn
  have HS : Scn q (recS3 l) WN := HSn
  clear HPn HAn HSn hbn
  -- field 3
  go_upto_region 7 with (go_at_call 25; ((with_reducible refine (text_any q (recS3 l) 2000 _ HS (by decide) (by decide)).mono ?_); rintro e wx ⟨rfl, sx, ox⟩; have hx := HA.kept ox (by omega); have kx := hx.c3; have fx := fz_of hx 3; have Bx := ox.below (B := w.heap.size) hqw (by have := hb.size; omega)))
  obtain ⟨WN, hWN⟩ : ∃ u, u = wx.setCell ⟨r, 3, none⟩ (.string ⟨(textV (recS3 l) 2000).toArray⟩) := ⟨_, rfl⟩
  rw [← hWN]
  have HPn := (HP.kept ox (by omega)).kept ((Only.refl r wx).setCell 3 (.string ⟨(textV (recS3 l) 2000).toArray⟩)) (by omega)
  have HAn := hx.set3 ⟨(textV (recS3 l) 2000).toArray⟩
  have HSn := sx.kept ((Only.refl r wx).setCell 3 (.string ⟨(textV (recS3 l) 2000).toArray⟩)) (by omega)
  have hbn := (hb.trans Bx).setCell (p := ⟨r, 3, none⟩) hrw (.string ⟨(textV (recS3 l) 2000).toArray⟩)
  rw [← hWN] at HPn HAn HSn hbn
  clear HP HS HA hb hx kx fx sx ox Bx hWN
  have HP := HPn
  have HA := HAn
  have hb := hbn
  have HS : Scn q (recS4 l) WN := HSn
  clear HPn HAn HSn hbn
  have hend := end_any q _ _ HS
  rcases endV_01 (recS4 l) with e | e
  · have ez : RZ = 0 := HRZ.out.trans e
    have ev : RV = .agg #[.int .i64 (numV (some l) 1125899906842624 : Int), .int .i64 (numV (recS1 l) 3999 : Int), .int .i64 (numV (recS2 l) 1125899906842624 : Int), .string ⟨(textV (recS3 l) 2000).toArray⟩] := by rw [HRV.out, show readR l = ⟨(numV (some l) 1125899906842624 : Int), (numV (recS1 l) 3999 : Int), (numV (recS2 l) 1125899906842624 : Int), ⟨(textV (recS3 l) 2000).toArray⟩⟩ from if_pos e]; rfl
    have HEZ := Lib.hid ez
    have HEV := Lib.hid ev
    rw [e] at hend
    have c0 := HA.c0
    have c1 := HA.c1
    have c2 := HA.c2
    have c3 := HA.c3
    have d0 := HP.c0
    have d1 := HP.c1
    have d2 := HP.c2
    have d3 := HP.c3
    have g0 := fz_of HP 0
    have g1 := fz_of HP 1
    have g2 := fz_of HP 2
    have g3 := fz_of HP 3
    clear e ez ev HRV HRZ
    go_wp2_with (go_at_call 26; ((with_reducible refine hend.mono ?_); rintro e w7 ⟨rfl, rfl⟩))
    have hz := (RecAt.set3 (RecAt.set2 (RecAt.set1 (RecAt.set0 HP (numV (some l) 1125899906842624 : Int)) (numV (recS1 l) 3999 : Int)) (numV (recS2 l) 1125899906842624 : Int)) ⟨(textV (recS3 l) 2000).toArray⟩)
    have hbz := ((((hb).setCell (p := ⟨p, 0, none⟩) hpw (.int .i64 (numV (some l) 1125899906842624 : Int))).setCell (p := ⟨p, 1, none⟩) hpw (.int .i64 (numV (recS1 l) 3999 : Int))).setCell (p := ⟨p, 2, none⟩) hpw (.int .i64 (numV (recS2 l) 1125899906842624 : Int))).setCell (p := ⟨p, 3, none⟩) hpw (.string ⟨(textV (recS3 l) 2000).toArray⟩)
    refine bodyPost_ret (results_ctR (t := 2) (u := 3) (ty := 23) (b := p) rfl _ _ _ rfl (RecAt.range hz) Tryd.underlying23 rfl (by kernel_rfl)) rfl ⟨?_, hbz⟩
    rw [HEV.out, HEZ.out]
    rfl
  · have ez : RZ = 10 := HRZ.out.trans e
    have ev : RV = .agg #[.int .i64 0, .int .i64 0, .int .i64 0, .string ⟨#[]⟩] := by rw [HRV.out, show readR l = ⟨0, 0, 0, ⟨#[]⟩⟩ from if_neg (by rw [show readZ l = 10 from e]; decide)]; rfl
    have HEZ := Lib.hid ez
    have HEV := Lib.hid ev
    rw [e] at hend
    have d0 := HP.c0
    have d1 := HP.c1
    have d2 := HP.c2
    have d3 := HP.c3
    have g0 := fz_of HP 0
    have g1 := fz_of HP 1
    have g2 := fz_of HP 2
    have g3 := fz_of HP 3
    clear e ez ev HRV HRZ
    go_wp2_with (go_at_call 26; ((with_reducible refine hend.mono ?_); rintro e w7 ⟨rfl, rfl⟩))
    have hz := (RecAt.set3 (RecAt.set2 (RecAt.set1 (RecAt.set0 HP 0) 0) 0) ⟨#[]⟩)
    have hbz := ((((hb).setCell (p := ⟨p, 0, none⟩) hpw (.int .i64 0)).setCell (p := ⟨p, 1, none⟩) hpw (.int .i64 0)).setCell (p := ⟨p, 2, none⟩) hpw (.int .i64 0)).setCell (p := ⟨p, 3, none⟩) hpw (.string ⟨#[]⟩)
    refine bodyPost_ret (results_ctR (t := 2) (u := 3) (ty := 23) (b := p) rfl _ _ _ rfl (RecAt.range hz) Tryd.underlying23 rfl (by kernel_rfl)) rfl ⟨?_, hbz⟩
    rw [HEV.out, HEZ.out]
    rfl
end Go.Proofs.YtbhalioajekfcaaDoor
