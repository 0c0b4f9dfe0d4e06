/-
  The document's own Rows (scriniumref15).
-/
import Derived.Test.YtbhalioajekfcaaRecRows
namespace Go.Proofs.Ytbhalioajekfcaa
open Go.RowKit

theorem rleft_r (b : Nat) (S : ByteArray) (st : Option (List UInt8)) (w : World) (hS : S.size ≤ 1099511627776) (h : RScn b S st w) :
    Calls Try.prog 30 #[.pointer (some ⟨b, 0, none⟩)] w fun e w' => e = .returned (.int .i64 (st.getD []).length) ∧ ∃ n, w' = w.drewN n := by
  cases st with
  | none =>
    obtain ⟨p, hp, hR⟩ := h.isNone
    have c2 := hR.c2
    clear hR h
    go_enter Try.func30, Try.ntmps30
    go_wp2
    go_ret
    exact ⟨rfl, 0, rfl⟩
  | some l =>
    obtain ⟨p, hp, hl, hR⟩ := h.isSome
    have c0 := hR.c0
    have c1 := hR.c1
    have c2 := hR.c2
    have k1 := IntWalk.i64_in ((S.size : Int) - (p : Int)) (by omega)
    have HL : Hid (l.length = S.size - p) := by rw [hl]; exact drop_len S p
    clear hR h hl
    go_enter Try.func30, Try.ntmps30
    go_wp2
    go_quiet (fail)
    go_wp2
    go_ret
    exact ⟨ret_int (by rw [Option.getD_some, HL.out]; omega), _, rfl⟩

/-- What the document's loop keeps: what is left, or that it is spoilt. -/
def RecInv (win : Int) (L : List UInt8) (acc : List RecR) : Option (List UInt8) → Prop
  | some rest => RowInv win L acc rest ∧ (rest ≠ [] → 0 ≤ win ∧ win ≤ 1125899906842624) ∧ acc.length ≤ 4000
  | none => rowsR win L = none ∧ acc.length ≤ 4001
def rLeft : Option (List UInt8) → Nat
  | some rest => rest.length + 1
  | none => 0
theorem rows_bad (win : Int) (L : List UInt8) (hL : L ≠ []) (hw : ¬ (0 ≤ win ∧ win ≤ 1125899906842624)) : rowsR win L = none :=
  (RowInv.start win L).not hL fun h => hw (chk_ok h).1

set_option maxHeartbeats 12800000 in
set_option maxRecDepth 100000 in
theorem rrows_any (win : Int) (s : ByteArray) (w : World) (hs : s.size ≤ 1099511627776) (hw1 : -9223372036854775808 ≤ win) (hw2 : win ≤ 9223372036854775807) :
    Calls Try.prog 13 #[.int .i64 win, .string s] w (RowsPost w.heap.size win s.data.toList w) := by
  obtain ⟨L, hL⟩ : ∃ L, L = s.data.toList := ⟨_, rfl⟩
  rw [← hL]
  obtain ⟨q, hq⟩ : ∃ q, q = w.heap.size := ⟨_, rfl⟩
  obtain ⟨W1, hW1⟩ : ∃ u, u = w.alloc (.cells #[.string s, .int .i64 0, .bool false] 51) := ⟨_, rfl⟩
  have b1 : Below w.heap.size w W1 := by rw [hW1]; exact below_box' _ _
  have hR : RAt q s 0 false W1 := by rw [hW1, hq]; exact heap_alloc_last w _
  have hs1 : RScn q s (some L) W1 := by rw [hL]; exact hR.sound (Nat.zero_le _)
  have hqw : w.heap.size ≤ q := by omega
  have HW1 := Lib.hid hW1
  have HQ := Lib.hid hq
  clear hW1 hq
  by_cases hwin : 0 ≤ win ∧ win ≤ 1125899906842624
  rotate_left
  · -- a window that may not be: the loop has no round
    have c2 := hR.c2
    have f2 := hR.fz 2
    by_cases hLe : L = []
    · have hsz : s.size = 0 := by rw [hL] at hLe; rw [Lib.size_eq, hLe]; rfl
      have ht : s.toList = [] := toList_nil hsz
      have hE : rowsR win L = some [] := by rw [hLe]; rfl
      have HE := Lib.hid hE
      obtain ⟨W4, hW4⟩ : ∃ u, u = W1.setCell ⟨q, 2, none⟩ (.bool false) := ⟨_, rfl⟩
      have hs4 : RScn q s (some []) W4 := ⟨0, false, Nat.zero_le _, by rw [hW4]; unfold RAt at *; simp [World.setCell, Array.getElem?_modify, hR], by rw [hL] at hLe; simp [hLe]⟩
      have b4 : Below w.heap.size w W4 := by rw [hW4]; exact b1.setCell (p := ⟨q, 2, none⟩) hqw _
      have HW4 := Lib.hid hW4
      have HL := Lib.hid hL
      have HHR := Lib.hid hR
      clear hsz hE hW4 hLe hL hR hs1
      by_cases hneg : win < 0
      · go_enter Try.func13, Try.ntmps13
        go_upto_region 3 with fail
        rw [← HW1.out, ← HQ.out]
        clear HW1
        go_upto_region 4 with fail
        go_wp2
        rw [← HW4.out]
        clear HW4 c2 f2
        have hl0 := rleft_r q s (some []) W4 hs hs4
        rw [show (((((some []) : Option (List UInt8)).getD []).length : Nat) : Int) = 0 from rfl] at hl0
        refine wp_loop_rounds 1 ?_
        rw [rounds_succ]
        go_wp2_with (first
          | (go_at_call 30; ((with_reducible refine hl0.mono ?_); rintro e w5 ⟨rfl, nd, hw5⟩; have hs5 : RScn q s (some []) w5 := (by rw [hw5]; exact hs4); have b5 : Below w.heap.size w w5 := (by rw [hw5]; exact below_drewN b4 nd); clear hw5))
          | (go_at_call 27; ((with_reducible refine (rend_any q s (some []) _ hs hs5).mono ?_); rw [show endV (some []) = 0 from rfl]; rintro e w6 ⟨rfl, nd, hw6⟩; have b6 : Below w.heap.size w w6 := (by rw [hw6]; exact below_drewN b5 nd); clear hw6)))
        go_ret2
        exact ⟨⟨_, 0, [], rfl, OwnR.nil _ _, .inl ⟨HE.out, rfl⟩⟩, b6⟩
      · have hbig : 1125899906842624 < win := by omega
        go_enter Try.func13, Try.ntmps13
        go_upto_region 3 with fail
        rw [← HW1.out, ← HQ.out]
        clear HW1
        go_upto_region 4 with fail
        go_wp2
        rw [← HW4.out]
        clear HW4 c2 f2
        have hl0 := rleft_r q s (some []) W4 hs hs4
        rw [show (((((some []) : Option (List UInt8)).getD []).length : Nat) : Int) = 0 from rfl] at hl0
        refine wp_loop_rounds 1 ?_
        rw [rounds_succ]
        go_wp2_with (first
          | (go_at_call 30; ((with_reducible refine hl0.mono ?_); rintro e w5 ⟨rfl, nd, hw5⟩; have hs5 : RScn q s (some []) w5 := (by rw [hw5]; exact hs4); have b5 : Below w.heap.size w w5 := (by rw [hw5]; exact below_drewN b4 nd); clear hw5))
          | (go_at_call 27; ((with_reducible refine (rend_any q s (some []) _ hs hs5).mono ?_); rw [show endV (some []) = 0 from rfl]; rintro e w6 ⟨rfl, nd, hw6⟩; have b6 : Below w.heap.size w w6 := (by rw [hw6]; exact below_drewN b5 nd); clear hw6)))
        go_ret2
        exact ⟨⟨_, 0, [], rfl, OwnR.nil _ _, .inl ⟨HE.out, rfl⟩⟩, b6⟩
    · have hsz : 0 < s.size := by
        rcases Nat.eq_zero_or_pos s.size with e | e
        · exact absurd (by rw [hL]; exact List.eq_nil_of_length_eq_zero (by rw [← Lib.size_eq]; exact e)) hLe
        · exact e
      obtain ⟨ht1, ht2⟩ := toList_ne hsz
      have hE := rows_bad win L hLe hwin
      have HE := Lib.hid hE
      obtain ⟨W4, hW4⟩ : ∃ u, u = W1.setCell ⟨q, 2, none⟩ (.bool true) := ⟨_, rfl⟩
      have hs4 : RScn q s none W4 := by rw [hW4]; exact hR.set2.spoilt (Nat.zero_le _)
      have b4 : Below w.heap.size w W4 := by rw [hW4]; exact b1.setCell (p := ⟨q, 2, none⟩) hqw _
      have HW4 := Lib.hid hW4
      have HL := Lib.hid hL
      have HHR := Lib.hid hR
      clear hsz hE hW4 hLe hL hR hs1
      by_cases hneg : win < 0
      · go_enter Try.func13, Try.ntmps13
        go_upto_region 3 with fail
        rw [← HW1.out, ← HQ.out]
        clear HW1
        go_upto_region 4 with fail
        go_wp2
        rw [← HW4.out]
        clear HW4 c2 f2
        have hl0 := rleft_r q s none W4 hs hs4
        rw [show ((((none : Option (List UInt8)).getD []).length : Nat) : Int) = 0 from rfl] at hl0
        refine wp_loop_rounds 1 ?_
        rw [rounds_succ]
        go_wp2_with (first
          | (go_at_call 30; ((with_reducible refine hl0.mono ?_); rintro e w5 ⟨rfl, nd, hw5⟩; have hs5 : RScn q s none w5 := (by rw [hw5]; exact hs4); have b5 : Below w.heap.size w w5 := (by rw [hw5]; exact below_drewN b4 nd); clear hw5))
          | (go_at_call 27; ((with_reducible refine (rend_any q s none _ hs hs5).mono ?_); rw [show endV none = 10 from rfl]; rintro e w6 ⟨rfl, nd, hw6⟩; have b6 : Below w.heap.size w w6 := (by rw [hw6]; exact below_drewN b5 nd); clear hw6)))
        go_ret2
        exact ⟨⟨_, 10, [], rfl, OwnR.nil _ _, .inr ⟨HE.out, rfl, rfl, rfl⟩⟩, b6⟩
      · have hbig : 1125899906842624 < win := by omega
        go_enter Try.func13, Try.ntmps13
        go_upto_region 3 with fail
        rw [← HW1.out, ← HQ.out]
        clear HW1
        go_upto_region 4 with fail
        go_wp2
        rw [← HW4.out]
        clear HW4 c2 f2
        have hl0 := rleft_r q s none W4 hs hs4
        rw [show ((((none : Option (List UInt8)).getD []).length : Nat) : Int) = 0 from rfl] at hl0
        refine wp_loop_rounds 1 ?_
        rw [rounds_succ]
        go_wp2_with (first
          | (go_at_call 30; ((with_reducible refine hl0.mono ?_); rintro e w5 ⟨rfl, nd, hw5⟩; have hs5 : RScn q s none w5 := (by rw [hw5]; exact hs4); have b5 : Below w.heap.size w w5 := (by rw [hw5]; exact below_drewN b4 nd); clear hw5))
          | (go_at_call 27; ((with_reducible refine (rend_any q s none _ hs hs5).mono ?_); rw [show endV none = 10 from rfl]; rintro e w6 ⟨rfl, nd, hw6⟩; have b6 : Below w.heap.size w w6 := (by rw [hw6]; exact below_drewN b5 nd); clear hw6)))
        go_ret2
        exact ⟨⟨_, 10, [], rfl, OwnR.nil _ _, .inr ⟨HE.out, rfl, rfl, rfl⟩⟩, b6⟩
  · obtain ⟨hw0, hwM⟩ := hwin
    have HHR := Lib.hid hR
    have hi0 : RecInv win L [] (some L) := ⟨RowInv.start win L, fun _ => ⟨hw0, hwM⟩, by simp⟩
    have HL := Lib.hid hL
    clear hR hL
    go_enter Try.func13, Try.ntmps13
    go_upto_region 3 with fail
    rw [← HW1.out, ← HQ.out]
    clear HW1
    go_wp2
    go_loopg [7, 8] (L.length + 1) (fun k v _ wr => ∃ (acc : List RecR) (st : Option (List UInt8)), k = rLeft st ∧ OwnR (q + 1) wr v acc ∧ RScn q s st wr ∧ RecInv win L acc st ∧ Below w.heap.size w wr)
    case atStart => exact ⟨[], some L, rfl, OwnR.nil _ _, hs1, hi0, b1⟩
    case round =>
      obtain ⟨acc, st, hk, hown, hsc, hinv, hb⟩ := hrel
      have HQ2 := HQ
      have HK := Lib.hid hk
      clear hs1 b1 hi0 hk
      cases st with
      | none =>
        have hl0 := rleft_r q s none wr hs hsc
        rw [show ((((none : Option (List UInt8)).getD []).length : Nat) : Int) = 0 from rfl] at hl0
        have hE := Lib.hid hinv.1
        clear hinv
        go_wp2_with (first
          | (go_at_call 30; ((with_reducible refine hl0.mono ?_); rintro e w4 ⟨rfl, nd, hw4⟩; have hs4 : RScn q s none w4 := (by rw [hw4]; exact hsc); have b4 : Below w.heap.size w w4 := (by rw [hw4]; exact below_drewN hb nd); clear hw4))
          | (go_at_call 27; ((with_reducible refine (rend_any q s none _ hs hs4).mono ?_); rw [show endV none = 10 from rfl]; rintro e w6 ⟨rfl, nd, hw6⟩; have b6 : Below w.heap.size w w6 := (by rw [hw6]; exact below_drewN b4 nd); clear hw6)))
        go_ret2
        exact ⟨⟨_, 10, [], rfl, OwnR.nil _ _, .inr ⟨hE.out, rfl, rfl, rfl⟩⟩, b6⟩
      | some rest =>
        have hl0 := rleft_r q s (some rest) wr hs hsc
        rw [Option.getD_some] at hl0
        obtain ⟨hinv, hwk, hal⟩ := hinv
        have HI := Lib.hid hinv
        clear hinv hwk
        by_cases hre : rest = []
        · subst hre
          have HE := Lib.hid HI.out.done
          rw [show ((([] : List UInt8).length : Nat) : Int) = 0 from rfl] at hl0
          go_wp2_with (first
            | (go_at_call 30; ((with_reducible refine hl0.mono ?_); rintro e w4 ⟨rfl, nd, hw4⟩; have hs4 : RScn q s (some []) w4 := (by rw [hw4]; exact hsc); have b4 : Below w.heap.size w w4 := (by rw [hw4]; exact below_drewN hb nd); have ho4 : OwnR (q + 1) w4 _ acc := (by rw [hw4]; exact hown); clear hw4))
            | (go_at_call 27; ((with_reducible refine (rend_any q s (some []) _ hs hs4).mono ?_); rw [show endV (some []) = 0 from rfl]; rintro e w6 ⟨rfl, nd, hw6⟩; have b6 : Below w.heap.size w w6 := (by rw [hw6]; exact below_drewN b4 nd); have ho6 : OwnR (q + 1) w6 _ acc := (by rw [hw6]; exact ho4); clear hw6)))
          go_ret2
          exact ⟨⟨_, 0, acc, rfl, by rw [← HQ2.out]; exact ho6.lower (Nat.le_succ q), .inl ⟨HE.out, rfl⟩⟩, b6⟩
        · have hpos : (0 : Int) < (rest.length : Int) := by have := List.length_pos_iff.2 hre; omega
          have HRE := Lib.hid hre
          clear hre
          go_upto_region 6 with (go_at_call 30; ((with_reducible refine hl0.mono ?_); rintro e w4 ⟨rfl, nd, hw4⟩; replace hsc : RScn q s (some rest) w4 := (by rw [hw4]; exact hsc); replace hb : Below w.heap.size w w4 := (by rw [hw4]; exact below_drewN hb nd); replace hown : OwnR (q + 1) w4 _ acc := (by rw [hw4]; exact hown); clear hw4))
          clear hl0
          -- the new record
          obtain ⟨va, vc, rfl⟩ := hown.slice
          obtain ⟨r, hr⟩ : ∃ r, r = w4.heap.size := ⟨_, rfl⟩
          obtain ⟨W5, hW5⟩ : ∃ u, u = w4.alloc (.cells #[.int .i64 win, .int .i64 acc.length, .int .i64 0, .string ⟨#[]⟩] 25) := ⟨_, rfl⟩
          have hr5 : RecAt r win acc.length 0 ⟨#[]⟩ W5 := by rw [hW5, hr]; exact RecAt.alloc _ _ _ _ _
          have b5 : Below w4.heap.size w4 W5 := by rw [hW5]; exact below_box' _ _
          have hqr : q < r := by rw [hr]; exact hsc.lt
          have ho5 : Only q w4 W5 := Only.of_below b5
          have HS := hsc.old b5 hsc.lt
          have HW5 := Lib.hid hW5
          have HR := Lib.hid hr
          have hwr : w4.heap.size ≤ r := by omega
          clear hW5 hr b5
          go_upto_region 7 with fail
          rw [← HW5.out, ← HR.out]
          clear HW5
          go_upto_region 8 with (go_at_call 25; ((with_reducible refine (rnum_any q s (some rest) 1125899906842624 _ hs HS (by decide) (by decide)).mono ?_); rintro e wx ⟨rfl, sx, ox⟩; have hx := hr5.kept ox (by omega); have kx := hx.c2; have fx := fz_of hx 2))
          obtain ⟨W6, hW6⟩ : ∃ u, u = wx.setCell ⟨r, 2, none⟩ (.int .i64 (rTim rest)) := ⟨_, rfl⟩
          change Code.wp _ _ _ _ (wx.setCell ⟨r, 2, none⟩ (.int .i64 (rTim rest)))
          rw [← hW6]
          have hr6 : RecAt r win acc.length (rTim rest) ⟨#[]⟩ W6 := by rw [hW6]; exact hx.set2 _
          have HS6 : RScn q s (rMid rest) W6 := by rw [hW6]; exact sx.kept ((Only.refl r wx).setCell 2 _) (by omega)
          have ho6 : Only q w4 W6 := by rw [hW6]; exact (ho5.trans ox).newer ((Below.refl _ _).setCell (p := ⟨r, 2, none⟩) hwr _)
          clear HS hr5 ho5 sx ox hx kx fx hW6
          go_upto_region 9 with (go_at_call 26; ((with_reducible refine (rtext_any q s (rMid rest) 2000 _ hs HS6 (by decide) (by decide)).mono ?_); rintro e wx ⟨rfl, sx, ox⟩; have hx := hr6.kept ox (by omega); have kx := hx.c3; have fx := fz_of hx 3))
          obtain ⟨W7, hW7⟩ : ∃ u, u = wx.setCell ⟨r, 3, none⟩ (.string (rPay rest)) := ⟨_, rfl⟩
          change Code.wp _ _ _ _ (wx.setCell ⟨r, 3, none⟩ (.string (rPay rest)))
          rw [← hW7]
          have hr7 : RecAt r win acc.length (rTim rest) (rPay rest) W7 := by rw [hW7]; exact hx.set3 _
          have HS : RScn q s (rRest rest) W7 := by rw [hW7]; exact sx.kept ((Only.refl r wx).setCell 3 _) (by omega)
          have ho7 : Only q w4 W7 := by rw [hW7]; exact (ho6.trans ox).newer ((Below.refl _ _).setCell (p := ⟨r, 3, none⟩) hwr _)
          clear HS6 hr6 ho6 sx ox hx kx fx hW7
          have hown7 := hown.only ho7 (Nat.lt_succ_self q)
          have hb7 : Below w.heap.size w W7 := hb.trans (ho7.below hqw hb.size)
          have c0 := hr7.c0
          have c1 := hr7.c1
          have c2 := hr7.c2
          have c3 := hr7.c3
          have htl := rTim_le rest
          have hpl := rPay_le rest
          by_cases hidx : 3999 < acc.length
          · -- too many
            have hidx' : (3999 : Int) < (acc.length : Int) := by omega
            have HE := Lib.hid (HI.out.not HRE.out (fun h => by have := (chk_ok h).2.1.2; omega))
            obtain ⟨p0, bad0, hp0, hR0⟩ := HS.at
            have g2 := hR0.c2
            have f2 := hR0.fz 2
            obtain ⟨W8, hW8⟩ : ∃ u, u = W7.setCell ⟨q, 2, none⟩ (.bool true) := ⟨_, rfl⟩
            have hs8 : RScn q s none W8 := by rw [hW8]; exact hR0.set2.spoilt hp0
            have o8 : Only q W7 W8 := by rw [hW8]; exact (Only.refl q W7).setCell 2 _
            have hr8 := hr7.kept o8 (by omega)
            have hown8 := hown7.only o8 (Nat.lt_succ_self q)
            have hb8 : Below w.heap.size w W8 := hb7.trans (o8.below hqw (by have := hb7.size; omega))
            have HW8 := Lib.hid hW8
            have hq8 : q + 1 ≤ W8.heap.size := hs8.lt
            obtain ⟨v', w', hap, ho', hb', hg'⟩ := rappend_own 29 ⟨win, acc.length, rTim rest, rPay rest⟩ hown8 hq8 (by omega)
            simp only at hap
            have HAP := Lib.hid hap
            clear hap
            have hb10 := hb8.trans (hb'.mono (by omega))
            have hs10 := hs8.old hb' (Nat.lt_succ_self q)
            clear hW8 hR0 HS hs8 hr7 hown7 o8
            go_upto_region 11 with fail
            rw [← HW8.out]
            have d0 := hr8.c0
            have d1 := hr8.c1
            have d2 := hr8.c2
            have d3 := hr8.c3
            clear c0 c1 c2 c3 g2 f2 hown8 hr8
            go_wp2_with (at_builtin; refine wpList_append_run rfl _ _ _ rfl rfl rfl HAP.out ?_)
            go_roundg 0
            case measure => have hk := HK.out; simp only [rLeft] at hk; omega
            case rel => exact ⟨_, none, rfl, ho', hs10, ⟨HE.out, by simp; omega⟩, hb10⟩
          · have hidx' : ¬ (3999 : Int) < (acc.length : Int) := by omega
            have hq7 : q + 1 ≤ W7.heap.size := HS.lt
            obtain ⟨v', w', hap, ho', hb', hg'⟩ := rappend_own 29 ⟨win, acc.length, rTim rest, rPay rest⟩ hown7 hq7 (by omega)
            simp only at hap
            have HAP := Lib.hid hap
            clear hap
            have hb10 := hb7.trans (hb'.mono (by omega))
            have hs10 := HS.old hb' (Nat.lt_succ_self q)
            cases hr : rRest rest with
            | none =>
              have HE := Lib.hid (HI.out.bad HRE.out hr)
              rw [hr] at hs10
              clear hr HS hr7 hown7
              go_wp2_with (at_builtin; refine wpList_append_run rfl _ _ _ rfl rfl rfl HAP.out ?_)
              go_roundg 0
              case measure => have hk := HK.out; simp only [rLeft] at hk; omega
              case rel => exact ⟨_, none, rfl, ho', hs10, ⟨HE.out, by simp; omega⟩, hb10⟩
            | some l' =>
              have hz : chkZ win acc.length (rTim rest) (rPay rest) = 0 := chk_of ⟨⟨hw0, hwM⟩, ⟨by omega, by omega⟩, ⟨by omega, htl⟩, hpl⟩
              have HE := Lib.hid (HI.out.step hr hz)
              have hlt := rRest_lt hr
              rw [hr] at hs10
              clear hr hz HS hr7 hown7
              go_wp2_with (at_builtin; refine wpList_append_run rfl _ _ _ rfl rfl rfl HAP.out ?_)
              go_roundg (rLeft (some l'))
              case measure => have hk := HK.out; simp only [rLeft] at hk ⊢; omega
              case rel => exact ⟨_, some l', rfl, ho', hs10, ⟨HE.out, fun _ => ⟨hw0, hwM⟩, by simp; omega⟩, hb10⟩
end Go.Proofs.Ytbhalioajekfcaa
