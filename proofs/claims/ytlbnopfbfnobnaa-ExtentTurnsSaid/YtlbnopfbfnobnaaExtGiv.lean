/-
  Package extent: Give.
-/
import Derived.Test.YtlbnopfbfnobnaaExtPut
import Derived.Test.YtlbnopfbfnobnaaExtBeside
namespace Go.Proofs.Ytlbnopfbfnobnaa
open Go.RowKit Ext

/-- What Give tells. -/
def givO (l : List Rn) (r : Rn) : Option (List Rn) := if chk 0 l = true ∧ sndB r = true then gv l r else none
def givV (l : List Rn) (r : Rn) : List Rn := (givO l r).getD l
def givB (l : List Rn) (r : Rn) : Bool := (givO l r).isSome
theorem chk_len {l : List Rn} {n : Int} (h : chk n l = true) : fileB l = true := chk_file h
theorem slice_lh (va : Option Addr) (n cap k m : Nat) (h : k ≤ m) (h2 : m ≤ cap) (w : World) : (Instr.slice 22 (.slice va n cap) (some (.int .i64 (k : Int))) (some (.int .i64 (m : Int))) none).run Try.prog w = .ok (.slice (cutA va k cap) (m - k) (cap - k)) w := by
  rw [run_slice_lh (P := Try.prog) w _ va n cap Try.underlying22 _ _ _ _ (by omega) (by omega) (by omega)]
  have e : Try.prog.elem 22 = 24 := by kernel_rfl
  rw [e, size_run]
  simp only [Result.andThen, sliced, Int.toNat_natCast, cutA]
theorem wpList_slice_run {ops : Array Oper} {rest : List Oper} {o : Oper} {a : Act} {w : World} {Q : Exit → Act → World → Prop} (hg : o.guard = none) (t : TypeId) (x : Operand) (lo hi mx : Option Operand) (hop : o.op = .slice t x lo hi mx) {u r : Value} {lo' hi' mx' : Option Value} (hx : a.eval x = u) (h1 : lo.map a.eval = lo') (h2 : hi.map a.eval = hi') (h3 : mx.map a.eval = mx')
    (hr : (Instr.sliceAt t u lo' hi' mx').run Try.prog w = .ok r w) (h : wpList Try.prog ops Q rest (a.put o.dst r) w) : wpList Try.prog ops Q (o :: rest) a w := by
  refine wpList_plain hg fun K hK => ?_
  unfold Oper.wp
  simp [execOp, hop, hx, h1, h2, h3, hr]
  exact hK _ _ h
theorem fold_jo : ∀ (q : List Rn) (r : Rn) (k : Nat), fileB q = true → 0 ≤ r.1 → 1 ≤ r.2 → r.2 ≤ 65536 * (k + 1) → 0 ≤ (q.foldl jo r).1 ∧ 1 ≤ (q.foldl jo r).2 ∧ (q.foldl jo r).2 ≤ 65536 * (k + 1 + q.length) ∧ (q.foldl jo r).1 ≤ r.1
  | [], r, k, _, h1, h2, h3 => by simp; omega
  | x :: t, r, k, h, h1, h2, h3 => by
    rw [fileB_cons, Bool.and_eq_true, sndB_iff] at h
    have := fold_jo t (jo r x) (k + 1) h.2 (by simp only [jo]; omega) (by simp only [jo]; omega) (by simp only [jo]; omega)
    simp only [List.foldl_cons, List.length_cons]
    simp only [jo] at this ⊢
    omega
set_option maxHeartbeats 6400000 in
set_option maxRecDepth 100000 in
theorem give_any (v : Value) (l : List Rn) (a n : Int) (w : World) (hl : Runs w v l) (hr : okR (a, n)) (hn : l.length ≤ 1000) :
    Calls Try.prog 14 #[v, .agg #[.int .i64 a, .int .i64 n]] w fun e w' => ∃ v', e = .returned (.tuple #[v', .bool (givB l (a, n))]) ∧ Runs w' v' (givV l (a, n)) ∧ Below w.heap.size w w' := by
  obtain ⟨va, cap, rfl, hlc, hcap⟩ := hl.slice
  obtain ⟨B3, hB3⟩ : ∃ B3, B3 = w.heap.size := ⟨_, rfl⟩
  obtain ⟨w1, hw1⟩ : ∃ w1, w1 = w.alloc (.cells #[.int .i64 a, .int .i64 n] 24) := ⟨_, rfl⟩
  have x3 : BoxAt w1 B3 a n := by rw [hw1, hB3]; exact BoxAt.new _ _ _
  have b1 : Below w.heap.size w w1 := by rw [hw1]; exact below_box _ _
  have hl1 := hl.old b1
  have HB := Lib.hid hB3
  have hck := check_any _ l w1 hl1
  go_enter Try.func14, Try.ntmps14
  go_upto_region 1 with fail
  rw [← hw1, ← hB3]
  clear hw1 hB3
  cases hc : chk 0 l with
  | false =>
    have hg : givO l (a, n) = none := by unfold givO; rw [hc]; rfl
    have HGB := Lib.hid (show givB l (a, n) = false by unfold givB; rw [hg]; rfl)
    have HGV := Lib.hid (show givV l (a, n) = l by unfold givV; rw [hg]; rfl)
    clear hg
    rw [show chkE l = 1 by unfold chkE; rw [hc]; rfl] at hck
    go_wp2_with (first
      | (go_at_call 27; refine hck.mono ?_; rintro e w2 ⟨rfl, b2⟩; replace hl1 := hl1.old b2)
      | (go_at_call 29; refine (clone_any _ l _ hl1 (by omega)).mono ?_; rintro e w3 ⟨v3, rfl, h3, b3⟩))
    go_ret2
    exact ⟨v3, by rw [HGB.out]; rfl, by rw [HGV.out]; exact h3, below_step (below_step b1 (Nat.le_refl _) b2) (Nat.le_refl _) b3⟩
  | true =>
    rw [show chkE l = 0 by unfold chkE; rw [hc]; rfl] at hck
    cases hs : sndB (a, n) with
    | false =>
      have hg : givO l (a, n) = none := by unfold givO; rw [hs]; simp
      have HGB := Lib.hid (show givB l (a, n) = false by unfold givB; rw [hg]; rfl)
      have HGV := Lib.hid (show givV l (a, n) = l by unfold givV; rw [hg]; rfl)
      clear hg
      have c0 := x3.c0
      have c1 := x3.c1
      go_wp2_with (first
        | (go_at_call 27; refine hck.mono ?_; rintro e w2 ⟨rfl, b2⟩; replace hl1 := hl1.old b2; replace x3 := x3.old b2; have d0 := x3.c0; have d1 := x3.c1)
        | (go_at_call 33; refine (sound_any a n _ hr).mono ?_; rintro e w3 ⟨rfl, b3⟩; replace hl1 := hl1.old b3; rw [hs])
        | (go_at_call 29; refine (clone_any _ l _ hl1 (by omega)).mono ?_; rintro e w4 ⟨v3, rfl, h3, b4⟩))
      go_ret2
      exact ⟨v3, by rw [HGB.out]; rfl, by rw [HGV.out]; exact h3, below_step (below_step (below_step b1 (Nat.le_refl _) b2) (Nat.le_refl _) b3) (Nat.le_refl _) b4⟩
    | true =>
      have hs' := (sndB_iff _).1 hs
      simp only at hs'
      obtain ⟨s1, s2, s3⟩ := hs'
      have hf := chk_file hc
      have hge : givO l (a, n) = gvAt l (a, n) (bs l (a, n) 0 0 0) := by
        unfold givO
        rw [if_pos ⟨hc, hs⟩, ← gvE_eq hc s1 s2 s3]; rfl
      have HGE := Lib.hid hge
      clear hge
      cases hbs : bs l (a, n) 0 0 0 with
      | none =>
        have hg : givO l (a, n) = none := by rw [HGE.out, hbs]; rfl
        have HGB := Lib.hid (show givB l (a, n) = false by unfold givB; rw [hg]; rfl)
        have HGV := Lib.hid (show givV l (a, n) = l by unfold givV; rw [hg]; rfl)
        clear hg
        have HBS := Lib.hid hbs
        clear hbs
        go_wp2_with (first
          | (go_at_call 27; refine hck.mono ?_; rintro e w2 ⟨rfl, b2⟩; replace hl1 := hl1.old b2; replace x3 := x3.old b2; have d0 := x3.c0; have d1 := x3.c1)
          | (go_at_call 33; refine (sound_any a n _ hr).mono ?_; rintro e w3 ⟨rfl, b3⟩; replace hl1 := hl1.old b3; replace x3 := x3.old b3; have g0 := x3.c0; have g1 := x3.c1; rw [hs])
          | (go_at_call 34; refine (beside_any _ l a n _ hl1 hf s1 s2 s3).mono ?_; rintro e w4 ⟨rfl, b4⟩; replace hl1 := hl1.old b4; rw [HBS.out, bsV])
          | (go_at_call 29; refine (clone_any _ l _ hl1 (by omega)).mono ?_; rintro e w5 ⟨v3, rfl, h3, b5⟩))
        go_ret2
        exact ⟨v3, by rw [HGB.out]; rfl, by rw [HGV.out]; exact h3, below_step (below_step (below_step (below_step b1 (Nat.le_refl _) b2) (Nat.le_refl _) b3) (Nat.le_refl _) b4) (Nat.le_refl _) b5⟩
      | some ft =>
        obtain ⟨f, t⟩ := ft
        obtain ⟨hft, htl⟩ := bs_lt l (a, n) 0 0 0 (Nat.le_refl _) (Nat.le_refl _) f t hbs
        rw [Nat.zero_add] at htl
        obtain ⟨M, hM⟩ : ∃ M, M = l.take f ++ ((l.take t).drop f).foldl jo (a, n) :: l.drop t := ⟨_, rfl⟩
        have hg : givO l (a, n) = some M := by rw [HGE.out, hbs, hM]; rfl
        have HGB := Lib.hid (show givB l (a, n) = true by unfold givB; rw [hg]; rfl)
        have HGV := Lib.hid (show givV l (a, n) = M by unfold givV; rw [hg]; rfl)
        clear hg
        have HBS := Lib.hid hbs
        have HM := Lib.hid hM
        clear hbs hM
        obtain ⟨q, hq⟩ : ∃ q, q = (l.take t).drop f := ⟨_, rfl⟩
        have hql : q.length = t - f := by rw [hq, List.length_drop, List.length_take]; omega
        have hqf : fileB q = true := by rw [hq]; exact file_drop (file_take hf t) f
        obtain ⟨vb, hvb⟩ : ∃ vb, vb = cutA va f cap := ⟨_, rfl⟩
        have q3 := slice_lh va l.length cap f t hft (by omega)
        rw [← hvb] at q3
        have hcut : ∀ u, Runs u (.slice va l.length cap) l → Runs u (.slice vb (t - f) (cap - f)) q := fun u hu => by
          have h1 := (hu.head' t htl).tail f (by rw [List.length_take]; omega)
          rw [List.length_take, Nat.min_eq_left htl, ← hq, ← hvb] at h1
          exact h1
        have HQ := Lib.hid hq
        have HV := Lib.hid hvb
        have HQL := Lib.hid hql
        have HCUT := Lib.hid hcut
        clear hq hvb hcut hql
        go_upto_region 6 with (first
          | (go_at_call 27; refine hck.mono ?_; rintro e w2 ⟨rfl, b2⟩; replace hl1 := hl1.old b2; replace x3 := x3.old b2; have d0 := x3.c0; have d1 := x3.c1)
          | (go_at_call 33; refine (sound_any a n _ hr).mono ?_; rintro e w3 ⟨rfl, b3⟩; replace hl1 := hl1.old b3; replace x3 := x3.old b3; have g0 := x3.c0; have g1 := x3.c1; rw [hs])
          | (go_at_call 34; refine (beside_any _ l a n _ hl1 hf s1 s2 s3).mono ?_; rintro e w4 ⟨rfl, b4⟩; replace hl1 := hl1.old b4; replace x3 := x3.old b4; rw [HBS.out, bsV]))
        have hb4 := below_step (below_step (below_step b1 (Nat.le_refl _) b2) (Nat.le_refl _) b3) (Nat.le_refl _) b4
        clear b1 b2 b3 b4 d0 d1 g0 g1 hck HBS HGE
        try simp only [Act.put]
        refine wp_region_tab0 [RT.is (.slice va l.length cap), RT.is (.int .i64 f), RT.is (.int .i64 t), RT.is (.slice vb (t - f) (cap - f)), RT.is (.int .i64 ((t - f : Nat) : Int)), RT.is (.int .i64 0)] (by kernel_rfl) (by kernel_rfl) (by kernel_rfl) ⟨?_, ?_, ?_, ?_, ?_, ?_, trivial⟩ ?_
        · intro ac w' hF hL hP hU K hK
          have hB : Below _ _ _ := hL
          have e0 : ac.eval (.tmp 0) = .slice va l.length cap := hF.at 0 (by kernel_rfl)
          exact rop_move _ rfl e0 (wanted_none rfl) (hK _ _ (le8_refl _) rfl)
        · intro ac w' hF hL hP hU K hK
          have hB : Below _ _ _ := hL
          have e6 : ac.eval (.tmp 6) = .int .i64 f := hF.at 6 (by kernel_rfl)
          exact rop_move _ rfl e6 (wanted_none rfl) (hK _ _ (le8_refl _) rfl)
        · intro ac w' hF hL hP hU K hK
          have hB : Below _ _ _ := hL
          have e7 : ac.eval (.tmp 7) = .int .i64 t := hF.at 7 (by kernel_rfl)
          exact rop_move _ rfl e7 (wanted_none rfl) (hK _ _ (le8_refl _) rfl)
        · intro ac w' hF hL hP hU K hK
          have hB : Below _ _ _ := hL
          have e32 : ac.eval (.tmp 32) = .slice va l.length cap := hP 0 (by kernel_rfl)
          have e33 : ac.eval (.tmp 33) = .int .i64 f := hP 1 (by kernel_rfl)
          have e34 : ac.eval (.tmp 34) = .int .i64 t := hP 2 (by kernel_rfl)
          exact rop_slice _ _ _ _ _ rfl e32 (by simp [e33]) (by simp [e34]) rfl ((sliceAt_run _ _ _ _ _).trans (q3 _)) (wanted_none rfl) (hK _ _ (le8_refl _) rfl)
        · intro ac w' hF hL hP hU K hK
          have hB : Below _ _ _ := hL
          have e35 : ac.eval (.tmp 35) = .slice vb (t - f) (cap - f) := hP 3 (by kernel_rfl)
          exact rop_len_sl _ rfl e35 (wanted_none rfl) (hK _ _ (le8_refl _) rfl)
        · intro ac w' hF hL hP hU K hK
          have hB : Below _ _ _ := hL
          exact rop_move _ rfl rfl (wanted_none rfl) (hK _ _ (le8_refl _) rfl)
        · intro ac w' hF hB hT
          have e35 : ac.eval (.tmp 35) = .slice vb (t - f) (cap - f) := hT 3 (by decide)
          have e36 : ac.eval (.tmp 36) = .int .i64 ((t - f : Nat) : Int) := hT 4 (by decide)
          have e37 : ac.eval (.tmp 37) = .int .i64 0 := hT 5 (by decide)
          rw [hF.lit 50 rfl]
          simp only [List.range, List.range.loop, List.map_cons, List.map_nil, e35, e36, e37, hF.at 0 (by kernel_rfl), hF.at 1 (by kernel_rfl), hF.at 2 (by kernel_rfl), hF.at 3 (by kernel_rfl), hF.at 4 (by kernel_rfl), hF.at 5 (by kernel_rfl), hF.at 6 (by kernel_rfl), hF.at 7 (by kernel_rfl), hF.at 8 (by kernel_rfl), hF.at 9 (by kernel_rfl), hF.at 10 (by kernel_rfl), hF.at 11 (by kernel_rfl), hF.at 12 (by kernel_rfl), hF.at 13 (by kernel_rfl), hF.at 14 (by kernel_rfl), hF.at 15 (by kernel_rfl), hF.at 16 (by kernel_rfl), hF.at 17 (by kernel_rfl), hF.at 18 (by kernel_rfl), hF.at 19 (by kernel_rfl), hF.at 20 (by kernel_rfl), hF.at 21 (by kernel_rfl), hF.at 22 (by kernel_rfl), hF.at 23 (by kernel_rfl), hF.at 24 (by kernel_rfl), hF.at 25 (by kernel_rfl), hF.at 26 (by kernel_rfl), hF.at 27 (by kernel_rfl), hF.at 28 (by kernel_rfl), hF.at 29 (by kernel_rfl), hF.at 30 (by kernel_rfl), hF.at 31 (by kernel_rfl), hF.at 38 (by kernel_rfl), hF.at 39 (by kernel_rfl), hF.at 40 (by kernel_rfl), hF.at 41 (by kernel_rfl), hF.at 42 (by kernel_rfl), hF.at 43 (by kernel_rfl), hF.at 44 (by kernel_rfl), hF.at 45 (by kernel_rfl), hF.at 46 (by kernel_rfl), hF.at 47 (by kernel_rfl), hF.at 48 (by kernel_rfl), hF.at 49 (by kernel_rfl)]
          generalize ac.eval (.tmp 32) = u32
          generalize ac.eval (.tmp 33) = u33
          generalize ac.eval (.tmp 34) = u34
          simp only [Act.eval, Array.getD_eq_getD_getElem?, List.getElem?_toArray, List.getElem?_cons_succ, List.getElem?_cons_zero, Option.getD_some]
          clear e35 e36 e37 hT hF ac
          replace x3 := x3.old hB
          replace hb4 := below_step hb4 (Nat.le_refl _) hB
          clear hB hl1
          have htf : t - f ≤ 1000 := by omega
          go_wp2
          go_loopw [37] (fun s37 wr => ∃ (k : Nat) (y m : Int), k ≤ t - f ∧ s37 = .int .i64 k ∧ BoxAt wr B3 y m ∧ (y, m) = (q.take k).foldl jo (a, n) ∧ Below w.heap.size w wr) (fun s37 _ => (t - f) - (intOf s37).toNat)
          case atStart => exact ⟨0, a, n, by omega, rfl, x3, rfl, hb4⟩
          case round =>
            clear x3 hb4
            obtain ⟨k, y, m, hk, rfl, x3, hym, hb⟩ := hrel
            have hfo := fold_jo (q.take k) (a, n) 0 (file_take hqf k) s1 s2 (by simp only; omega)
            rw [← hym] at hfo
            simp only [List.length_take] at hfo
            obtain ⟨y1, m1, m2, y2⟩ := hfo
            have m3 : m ≤ 1000000000000 := by omega
            have HYM := Lib.hid hym
            clear hym m2
            by_cases hlt : k < t - f
            · have hlq : k < q.length := by rw [HQL.out]; exact hlt
              obtain ⟨b, off, hvb, hbB, -, e0, e1⟩ := (HCUT.out wr (hl.old hb)).at k hlq
              have hsx := fileB_get hqf k hlq
              have htk := List.take_succ_eq_append_getElem hlq
              obtain ⟨xx, hx⟩ : ∃ xx, xx = q[k] := ⟨_, rfl⟩
              rw [← hx] at e0 e1 hsx htk
              obtain ⟨x, z⟩ := xx
              simp only at e0 e1 hsx
              obtain ⟨z1, z2, z3⟩ := hsx
              have z4 : z ≤ 1000000 := by omega
              have HTK := Lib.hid htk
              subst hvb
              obtain ⟨w5, hw5⟩ : ∃ w5, w5 = wr.alloc (.cells #[.int .i64 x, .int .i64 z] 24) := ⟨_, rfl⟩
              have b5 : Below wr.heap.size wr w5 := by rw [hw5]; exact below_box _ _
              obtain ⟨B8, hB8⟩ : ∃ B8, B8 = wr.heap.size := ⟨_, rfl⟩
              have x8 : BoxAt w5 B8 x z := by rw [hw5, hB8]; exact BoxAt.new _ _ _
              replace x3 := x3.old b5
              replace hb := below_step hb (Nat.le_refl _) b5
              have HB8 := Lib.hid hB8
              clear htk hx
              go_upto_region 9 with fail
              rw [← hw5, ← hB8]
              clear hw5 hB8 b5 e0 e1 hlq
              have c0 := x3.c0
              have c1 := x3.c1
              have d0 := x8.c0
              have d1 := x8.c1
              go_wp2_with (go_at_call 35; refine (joined_any y m x z w5 y1 m1 m3 z1 z2 z4).mono ?_; rintro e w6 ⟨rfl, b6⟩; replace x3 := x3.old b6; have g0 := x3.c0; have g1 := x3.c1; have f0 := x3.f 0; have f1 := x3.f 1)
              go_roundw
              case rel =>
                refine ⟨k + 1, min y x, m + z, by omega, by go_num, ?_, ?_, ?_⟩
                · have h1 := heap_set (i := 1) (heap_set (i := 0) x3 (.int .i64 (min y x))) (.int .i64 (m + z))
                  exact h1
                · rw [HTK.out, List.foldl_append, ← HYM.out]; rfl
                · exact ((below_step hb (Nat.le_refl _) b6).setCell (by rw [HB.out]; exact Nat.le_refl _) _).setCell (by rw [HB.out]; exact Nat.le_refl _) _
              case measure => simp [intOf]; omega
            · obtain rfl : k = t - f := by omega
              have hq1 : q.take (t - f) = q := List.take_of_length_le (by rw [HQL.out]; exact Nat.le_refl _)
              rw [hq1] at HYM
              have hko : okR (y, m) := by unfold okR; simp only; omega
              have c0 := x3.c0
              have c1 := x3.c1
              have hpa := put_any _ l f t y m wr (hl.old hb) hft htl (by omega) hko
              go_wp2_with (go_at_call 36; refine hpa.mono ?_; rintro e w6 ⟨v6, rfl, h6, b6⟩)
              go_ret2
              refine ⟨v6, by rw [HGB.out]; rfl, ?_, below_step hb (Nat.le_refl _) b6⟩
              rw [HGV.out, HM.out, ← HQ.out, ← HYM.out]
              exact h6.runs
end Go.Proofs.Ytlbnopfbfnobnaa
