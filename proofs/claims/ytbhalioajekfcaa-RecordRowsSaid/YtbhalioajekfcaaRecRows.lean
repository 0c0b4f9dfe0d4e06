/-
  Package record: Rows.
-/
import Derived.Test.YtbhalioajekfcaaRecPure
import Derived.Deep.LoopGhost
namespace Go.Proofs.Ytbhalioajekfcaa
open Go.RowKit

theorem OwnR.slice {B : Nat} {w : World} {v : Value} {l : List RecR} (h : OwnR B w v l) : ∃ a cap, v = .slice a l.length cap := h.row.slice
theorem Only.newer {b : Nat} {u w w' : World} (h : Only b u w) (k : Below u.heap.size w w') : Only b u w' := h.below_right k (Nat.le_refl _)
/-- append whose run is known, in a region that goes in its own order. -/
theorem wpList_append_run {ops : Array Oper} {rest : List Oper} {o : Oper} {a : Act} {w w' : World} {Q : Exit → Act → World → Prop} (hg : o.guard = none) (s x : Operand) (t : TypeId)
    (hop : o.op = Op.call { callee := Callee.builtin Builtin.append, args := #[s, x], argTypes := #[t, t] }) {v u v' : Value} (hs : a.eval s = v) (hx : a.eval x = u) (hr : (Builtin.append_ #[t, t] o.type #[v, u]).run Try.prog w = .ok v' w')
    (hK : wpList Try.prog ops Q rest (a.put o.dst v') w') : wpList Try.prog ops Q (o :: rest) a w := by
  refine wpList_plain hg fun K hK' => ?_
  unfold Oper.wp execOp
  simp only [hop, resolve, invoke, builtin, Sem.run_bind, Sem.run_pure, Result.andThen_ok, List.map_toArray, List.map_cons, List.map_nil, hs, hx, hr]
  exact hK' _ _ hK
/-- What Rows tells. -/
def RowsPost (B : Nat) (win : Int) (L : List UInt8) (w : World) (e : Ending) (w' : World) : Prop :=
  (∃ (v : Value) (z : Int) (l : List RecR), e = .returned (.tuple #[v, .int .i64 z]) ∧ OwnR B w' v l ∧ ((rowsR win L = some l ∧ z = 0) ∨ (rowsR win L = none ∧ l = [] ∧ v = .slice none 0 0 ∧ z = 10))) ∧ Below B w w'

set_option maxHeartbeats 12800000 in
set_option maxRecDepth 100000 in
theorem rows_any (win : Int) (s : ByteArray) (w : World) (hs : s.size ≤ 1000000000) :
    Calls Try.prog 12 #[.int .i64 win, .string s] w (RowsPost w.heap.size win s.data.toList w) := by
  obtain ⟨L, hL⟩ : ∃ L, L = s.data.toList := ⟨_, rfl⟩
  have hsl : s = ⟨L.toArray⟩ := by rw [hL]
  have hll : L.length ≤ maxLen := by rw [hL, ← Lib.size_eq]; unfold maxLen; omega
  rw [← hL]
  have hrd := read_any L w hll
  rw [← hsl] at hrd
  clear hL hsl hs
  go_enter Try.func12, Try.ntmps12
  go_wp2
  go_step3
  go_wp2_with (go_at_call 21; ((with_reducible refine hrd.mono ?_); rintro e w1 ⟨rfl, hs1, b1⟩))
  obtain ⟨q, hq⟩ : ∃ q, q = w.heap.size := ⟨_, rfl⟩
  rw [← hq] at hs1 ⊢
  have hqw : w.heap.size ≤ q := by omega
  have HQ := Lib.hid hq
  clear hq hrd
  go_step3
  go_wp2
  go_loopg [7, 8, 9] L.length (fun k v s8 _ wr => ∃ (acc : List RecR) (rest : List UInt8), k = rest.length ∧ OwnR (q + 1) wr v acc ∧ s8 = .int .i64 0 ∧ Scn q (some rest) wr ∧ RowInv win L acc rest ∧ Below w.heap.size w wr ∧ acc.length ≤ 4001)
  case atStart => exact ⟨[], L, rfl, OwnR.nil _ _, rfl, hs1, RowInv.start win L, b1, by simp⟩
  case round =>
    obtain ⟨acc, rest, hk, hown, rfl, hsc, hinv, hb, hal⟩ := hrel
    have HQ2 := HQ
    clear hs1 b1
    have HI := Lib.hid hinv
    clear hinv
    by_cases hre : rest = []
    · subst hre
      have HE := HI.out.done
      have hend := end_any q (some []) wr hsc
      rw [show endV (some []) = 0 from rfl] at hend
      have HEE := Lib.hid HE
      clear HE
      go_wp2_with (go_at_call 24; ((with_reducible refine hend.mono ?_); rintro e w4 ⟨rfl, rfl⟩))
      try rw [Exit.noGoto_ret]
      go_ret2
      exact ⟨⟨_, 0, acc, rfl, by rw [← HQ2.out]; exact hown.lower (Nat.le_succ q), .inl ⟨HEE.out, rfl⟩⟩, hb⟩
    · have hend := end_any q (some rest) wr hsc
      rw [show endV (some rest) = 10 from if_neg (by simpa using hre)] at hend
      have HRE := Lib.hid hre
      clear hre
      -- the new record
      obtain ⟨va, vc, rfl⟩ := hown.slice
      obtain ⟨r, hr⟩ : ∃ r, r = wr.heap.size := ⟨_, rfl⟩
      obtain ⟨W5, hW5⟩ : ∃ u, u = wr.alloc (.cells #[.int .i64 win, .int .i64 acc.length, .int .i64 0, .string ⟨#[]⟩] 25) := ⟨_, rfl⟩
      have hr5 : RecAt r win acc.length 0 ⟨#[]⟩ W5 := by rw [hW5, hr]; exact RecAt.alloc _ _ _ _ _
      have b5 : Below wr.heap.size wr W5 := by rw [hW5]; exact below_box' _ _
      have hqr : q < r := by rw [hr]; exact hsc.lt
      have ho5 : Only q wr W5 := Only.of_below b5
      have HS := hsc.old b5 hsc.lt
      have HW5 := Lib.hid hW5
      have HR := Lib.hid hr
      have hwr : wr.heap.size ≤ r := by omega
      have hacl : acc.length ≤ 4001 := hal
      clear hW5 hr b5
      go_upto_region 6 with (go_at_call 24; ((with_reducible refine hend.mono ?_); rintro e w4 ⟨rfl, rfl⟩))
      rw [← HW5.out, ← HR.out]
      clear HW5 hend
      go_upto_region 7 with (go_at_call 22; ((with_reducible refine (num_any q (some rest) 1125899906842624 _ HS (by decide) (by decide)).mono ?_); rintro e wx ⟨rfl, sx, ox⟩; have hx := hr5.kept ox (by omega); have kx := hx.c2; have fx := fz_of hx 2))
      obtain ⟨W6, hW6⟩ : ∃ u, u = wx.setCell ⟨r, 2, none⟩ (.int .i64 (rTim rest)) := ⟨_, rfl⟩
      change Code.wp _ _ _ _ (wx.setCell ⟨r, 2, none⟩ (.int .i64 (rTim rest)))
      rw [← hW6]
      have hr6 : RecAt r win acc.length (rTim rest) ⟨#[]⟩ W6 := by rw [hW6]; exact hx.set2 _
      have HS6 : Scn q (rMid rest) W6 := by rw [hW6]; exact sx.kept ((Only.refl r wx).setCell 2 _) (by omega)
      have ho6 : Only q wr W6 := by rw [hW6]; exact (ho5.trans ox).newer ((Below.refl _ _).setCell (p := ⟨r, 2, none⟩) hwr _)
      clear HS hr5 ho5 sx ox hx kx fx hW6
      go_upto_region 8 with (go_at_call 23; ((with_reducible refine (text_any q (rMid rest) 2000 _ HS6 (by decide) (by decide)).mono ?_); rintro e wx ⟨rfl, sx, ox⟩; have hx := hr6.kept ox (by omega); have kx := hx.c3; have fx := fz_of hx 3))
      obtain ⟨W7, hW7⟩ : ∃ u, u = wx.setCell ⟨r, 3, none⟩ (.string (rPay rest)) := ⟨_, rfl⟩
      change Code.wp _ _ _ _ (wx.setCell ⟨r, 3, none⟩ (.string (rPay rest)))
      rw [← hW7]
      have hr7 : RecAt r win acc.length (rTim rest) (rPay rest) W7 := by rw [hW7]; exact hx.set3 _
      have HS : Scn q (rRest rest) W7 := by rw [hW7]; exact sx.kept ((Only.refl r wx).setCell 3 _) (by omega)
      have ho7 : Only q wr W7 := by rw [hW7]; exact (ho6.trans ox).newer ((Below.refl _ _).setCell (p := ⟨r, 3, none⟩) hwr _)
      clear HS6 hr6 ho6 sx ox hx kx fx hW7
      have hown7 := hown.only ho7 (Nat.lt_succ_self q)
      have hb7 : Below w.heap.size w W7 := hb.trans (ho7.below hqw hb.size)
      have c0 := hr7.c0
      have c1 := hr7.c1
      have c2 := hr7.c2
      have c3 := hr7.c3
      have htl := rTim_le rest
      have hpl := rPay_le rest
      have hck := fun u => check_any win acc.length (rTim rest) (rPay rest) u (by omega)
      cases hr : rRest rest with
      | none =>
        have HE := Lib.hid (HI.out.bad HRE.out hr)
        rw [hr] at HS
        clear hr
        go_wp2_with (first
            | (go_at_call 28; ((with_reducible refine (sound_any q _ _ HS).mono ?_); rintro e w8 ⟨rfl, rfl⟩))
            | (go_at_call 29; ((with_reducible refine (hck _).mono ?_); rintro e w9 ⟨rfl, b9⟩)))
        try rw [Exit.noGoto_ret]
        go_ret2
        exact ⟨⟨_, 10, [], rfl, OwnR.nil _ _, .inr ⟨HE.out, rfl, rfl, rfl⟩⟩, hb7⟩
      | some l' =>
        rw [hr] at HS
        by_cases hz : chkZ win acc.length (rTim rest) (rPay rest) = 0
        · have HE := Lib.hid (HI.out.step hr hz)
          have hlt := rRest_lt hr
          have hidx : acc.length ≤ 3999 := by have := (chk_ok hz).2.1.2; omega
          rw [hz] at hck
          have HR2 := Lib.hid hr7
          have HHS := Lib.hid HS
          clear hr hz
          go_upto_region 10 with (first
              | (go_at_call 28; ((with_reducible refine (sound_any q _ _ HS).mono ?_); rintro e w8 ⟨rfl, rfl⟩))
              | (go_at_call 29; ((with_reducible refine (hck _).mono ?_); rintro e w9 ⟨rfl, b9⟩)))
          have hown9 := hown7.kept b9
          have hb9 := below_step hb7 (Nat.le_refl _) b9
          have hr9 := HR2.out.old b9 HR2.out.lt
          have hs9 := HHS.out.old b9 HHS.out.lt
          have d0 := hr9.c0
          have d1 := hr9.c1
          have d2 := hr9.c2
          have d3 := hr9.c3
          have hq9 : q + 1 ≤ w9.heap.size := hs9.lt
          obtain ⟨v', w', hap, ho', hb', hg'⟩ := rappend_own 29 ⟨win, acc.length, rTim rest, rPay rest⟩ hown9 hq9 (by omega)
          have hb10 := hb9.trans (hb'.mono (by omega))
          have hs10 := hs9.old hb' (Nat.lt_succ_self q)
          simp only at hap
          have HAP := Lib.hid hap
          clear c0 c1 c2 c3 HS HR2 HHS hown9 hown7 hr9 hck hap
          go_wp2_with (at_builtin; refine wpList_append_run rfl _ _ _ rfl rfl rfl HAP.out ?_)
          go_roundg l'.length
          case measure => omega
          case rel => exact ⟨_, l', rfl, ho', rfl, hs10, HE.out, hb10, by simp; omega⟩
        · have HE := Lib.hid (HI.out.not HRE.out hz)
          generalize chkZ win acc.length (rTim rest) (rPay rest) = z at *
          clear hr
          go_wp2_with (first
              | (go_at_call 28; ((with_reducible refine (sound_any q _ _ HS).mono ?_); rintro e w8 ⟨rfl, rfl⟩))
              | (go_at_call 29; ((with_reducible refine (hck _).mono ?_); rintro e w9 ⟨rfl, b9⟩)))
          try rw [Exit.noGoto_ret]
          go_ret2
          exact ⟨⟨_, 10, [], rfl, OwnR.nil _ _, .inr ⟨HE.out, rfl, rfl, rfl⟩⟩, below_step hb7 (Nat.le_refl _) b9⟩
end Go.Proofs.Ytbhalioajekfcaa
