/-
  Package front: Read.
-/
import Derived.Test.YtgiakpnkidblpaaDoorFrontParse
namespace Go.Proofs.YtgiakpnkidblpaaDoor
open Go.RowKit

theorem neq_errF (a b : Int) (h : ¬ a = b) (w : World) : (binOp .neq 38 (.int .i64 a) (.int .i64 b)).run Tryd.prog w = .ok (.bool true) w := by
  have h' : (a == b) = false := by simpa using h
  go_simp
theorem neq_errT (a : Int) (w : World) : (binOp .neq 38 (.int .i64 a) (.int .i64 a)).run Tryd.prog w = .ok (.bool false) w := by
  have h' : (a == a) = true := by simp
  go_simp
theorem neq_iF (a b : Int) (h : ¬ a = b) (w : World) : (binOp .neq 3 (.int .i64 a) (.int .i64 b)).run Tryd.prog w = .ok (.bool true) w := by
  have h' : (a == b) = false := by simpa using h
  go_simp
theorem neq_iT (a b : Int) (h : a = b) (w : World) : (binOp .neq 3 (.int .i64 a) (.int .i64 b)).run Tryd.prog w = .ok (.bool false) w := by
  subst h
  have h' : (a == a) = true := by simp
  go_simp
theorem read_strF (s : ByteArray) (w : World) (hs : s.size ≤ maxLen) :
    Calls Tryd.prog 40 #[.string s] w fun e w' => e = .returned (.pointer (some ⟨w.heap.size, 0, none⟩)) ∧ Scn w.heap.size (some s.data.toList) w' ∧ Below w.heap.size w w' := by
  have := read_any s.data.toList w (by rw [← Lib.size_eq]; exact hs)
  rw [Lib.mk_data] at this
  exact this
set_option maxRecDepth 1000000 in
theorem zc_front : Tryd.zeroCells49 = (fL 0 zQ).toArray := by kernel_rfl
theorem zset_front (n : Nat) : Tryd.zeroCells49.setIfInBounds 0 (.int .i64 (n : Int)) = (fL n zQ).toArray := by
  rw [zc_front]
  simp [fL]
set_option maxHeartbeats 8000000 in
set_option maxRecDepth 100000 in
theorem fread_any (s : ByteArray) (w : World) (hs : s.size ≤ 100000) :
    Calls Tryd.prog 21 #[.string s] w fun e w' => Below w.heap.size w w' ∧ ((okF s.data.toList ∧ ∃ b Q, w.heap.size ≤ b ∧ e = .returned (.tuple #[.pointer (some ⟨b, 0, none⟩), .int .i64 0]) ∧ Front b (numF s.data.toList) Q w' ∧ Q.take (Tree.ones (numF s.data.toList)) = (lstF s.data.toList (Tree.ones (numF s.data.toList))).1) ∨
      (¬ okF s.data.toList ∧ e = .returned (.tuple #[.pointer none, .int .i64 10]))) := by
  obtain ⟨l, hl⟩ : ∃ l, l = s.data.toList := ⟨_, rfl⟩
  have hll : l.length ≤ 100000 := by rw [hl, ← Lib.size_eq]; exact hs
  have hk40 := numF_ones l
  have hn40 := numF_le l
  obtain ⟨st1, hst1⟩ : ∃ st1, st1 = numS (some l) 1099511627776 := ⟨_, rfl⟩
  have hst1l : (st1.getD []).length ≤ 100000 := by rw [hst1]; exact Nat.le_trans (numS_len _ _) hll
  obtain ⟨n, hn⟩ : ∃ n, n = numF l := ⟨_, rfl⟩
  have hnv : numV (some l) 1099511627776 = n := by rw [hn]; rfl
  obtain ⟨k, hk⟩ : ∃ k, k = Tree.ones n := ⟨_, rfl⟩
  have hok : okF l ↔ ((lstF l (k : Int)).2 = some [] ∧ (lstF l (k : Int)).1.length = k ∧ all32 (lstF l (k : Int)).1) := by unfold okF; rw [← hn, ← hk]
  have hlst : lstF l (k : Int) = listR st1 (k : Int) := by rw [hst1]; rfl
  rw [← hl, ← hn, ← hk] 
  rw [← hn] at hk40 hn40
  rw [← hk] at hk40
  obtain ⟨T, hT⟩ : ∃ T, T = (lstF l (k : Int)).1 := ⟨_, rfl⟩
  obtain ⟨st2, hst2⟩ : ∃ st2, st2 = (lstF l (k : Int)).2 := ⟨_, rfl⟩
  have hR : listR st1 (k : Int) = (T, st2) := by rw [← hlst, hT, hst2]
  rw [← hT, ← hst2] at hok
  rw [← hT]
  have HOK := Lib.hid hok
  have HWK : Hid (∀ u, Calls Tryd.prog 28 #[.int .i64 (n : Int)] u fun e w' => e = .returned (.int .i64 (k : Int)) ∧ u = w') := Lib.hid fun u => by rw [hk]; exact whole_any n (by omega) u
  have HNUM : Hid (∀ b u, Scn b (some l) u → Calls Tryd.prog 41 #[.pointer (some ⟨b, 0, none⟩), .int .i64 1099511627776] u fun e w' => e = .returned (.int .i64 (n : Int)) ∧ Scn b st1 w' ∧ Only b u w') := Lib.hid fun b u hu => by
    have := num_any b (some l) 1099511627776 u hu (by decide) (by decide)
    rw [hnv, ← hst1] at this
    exact this
  have HLS : Hid (∀ b u, Scn b st1 u → Calls Tryd.prog 42 #[.pointer (some ⟨b, 0, none⟩), .int .i64 (k : Int)] u fun e w' => ∃ a c, e = .returned (.slice a T.length c) ∧ StrRow w' (.slice a T.length c) (strs T) ∧ Scn b st2 w' ∧ Only b u w') := Lib.hid fun b u hu => by
    have := list_any b st1 (k : Int) u hu (by omega) (by omega) (by omega)
    rw [hR] at this
    refine this.mono fun e w' ⟨v, he, h1, h2, h3⟩ => ?_
    have hr := h1.row
    obtain ⟨a, c, rfl, -, -⟩ := hr
    have hr := h1.row
    have e1 : (strs T).length = T.length := by simp [strs]
    simp only [e1] at he hr
    exact ⟨a, c, he, hr, h2, h3⟩
  have HRD : Hid (∀ u, Calls Tryd.prog 40 #[.string s] u fun e w' => e = .returned (.pointer (some ⟨u.heap.size, 0, none⟩)) ∧ Scn u.heap.size (some l) w' ∧ Below u.heap.size u w') := Lib.hid fun u => by rw [hl]; exact read_strF s u (by unfold maxLen; omega)
  have Htk : Hid (T.length = k → T.take k = T) := Lib.hid fun h => by rw [← h, List.take_length]
  have hmf : ∀ (fn : Fn) (first cap : Array Value) (w : World), (Instr.makeFunc fn first cap).run Tryd.prog w = .ok (.func fn first cap) w := fun _ _ _ _ => rfl
  clear hl hll hst1 hst1l hn hnv hk hok hlst hT hst2 hR
  go_enter Tryd.func21, Tryd.ntmps21
  go_upto_region 3 with (first
    | (go_at_call 40; refine (HRD.out _).mono ?_; rintro e w1 ⟨rfl, s1, b1⟩)
    | (go_at_call 41; refine (HNUM.out _ _ s1).mono ?_; rintro e w2 ⟨rfl, s2, o2⟩))
  change Code.wp _ _ _ _ ((w2.alloc (.cells (Tryd.zeroCells49.setIfInBounds 0 (.int .i64 (n : Int))) 49)).alloc (.cells #[.pointer (some ⟨w2.heap.size, 0, none⟩)] 25))
  rw [zset_front]
  obtain ⟨sx, hsx⟩ : ∃ sx, sx = w.heap.size := ⟨_, rfl⟩
  obtain ⟨fb, hfb⟩ : ∃ fb, fb = w2.heap.size := ⟨_, rfl⟩
  obtain ⟨W4, hW4⟩ : ∃ W4, W4 = (w2.alloc (.cells (fL n zQ).toArray 49)).alloc (.cells #[.pointer (some ⟨w2.heap.size, 0, none⟩)] 25) := ⟨_, rfl⟩
  have b4 : Below w2.heap.size w2 W4 := by rw [hW4]; exact ((Below.refl _ _).alloc (Nat.le_refl _) _).alloc (by simp) _
  have hsz4 : W4.heap.size = fb + 2 := by rw [hW4, hfb]; simp
  have hf4 : Front fb n zQ W4 := by
    have := Front.new w2 n zQ zQ_len zQ_all
    rw [hW4, hfb]
    exact this.old ((Below.refl _ _).alloc (Nat.le_refl _) _) (by simp)
  have cf4 : W4.cell? ⟨fb + 1, 0, none⟩ = some (.pointer (some ⟨fb, 0, none⟩)) := by
    have := cell_of (heap_alloc_last (w2.alloc (.cells (fL n zQ).toArray 49)) (.cells #[.pointer (some ⟨w2.heap.size, 0, none⟩)] 25)) 0
    rw [World.size_alloc] at this
    rw [hW4, hfb]
    exact this
  have hs2l := s2.lt
  have hs2' : sx < fb := by rw [hsx, hfb]; exact hs2l
  have s4 : Scn sx st1 W4 := by rw [hsx]; exact s2.old b4 hs2l
  have hsz1 := s1.lt
  have B4 : Below w.heap.size w W4 := (b1.trans (o2.below (Nat.le_refl _) (Nat.le_of_lt hsz1))).trans (b4.mono (Nat.le_of_lt hs2l))
  rw [← hW4, ← hfb, ← hsx]
  have Hsx := Lib.hid hsx
  have Hfb : Hid (w.heap.size ≤ fb) := Lib.hid (by rw [← hsx]; exact Nat.le_of_lt hs2')
  clear hW4 hfb hsx s1 s2 o2 b4 hs2l hsz1 b1
  have c4 := hf4.at0
  go_upto_region 5 with (first
    | (go_at_call 28; ((with_reducible refine (HWK.out _).mono ?_); rintro e w5 ⟨rfl, rfl⟩))
    | (go_at_call 42; refine (HLS.out _ _ s4).mono ?_; rintro e w5 ⟨ta, tc, rfl, r5, s5, o5⟩))
  obtain ⟨pv, hpv⟩ : ∃ pv, pv = w5.heap.size := ⟨_, rfl⟩
  obtain ⟨W, hW⟩ : ∃ W, W = w5.alloc (.cells #[.slice ta T.length tc] 56) := ⟨_, rfl⟩
  have b6 : Below w5.heap.size w5 W := by rw [hW]; exact (Below.refl _ _).alloc (Nat.le_refl _) _
  have cp : W.cell? ⟨pv, 0, none⟩ = some (.slice ta T.length tc) := by rw [hW, hpv]; exact cell_of (heap_alloc_last _ _) 0
  have hpvl : pv < W.heap.size := by rw [hW, hpv]; simp
  have h45 := o5.size
  have hf5 := (hf4.kept o5 (by omega)).old' b6
  have cf5 := (b6.cell (p := ⟨fb + 1, 0, none⟩) (by show fb + 1 < w5.heap.size; omega)).trans ((o5.cellA (p := ⟨fb + 1, 0, none⟩) (by show fb + 1 < W4.heap.size; omega) (by show fb + 1 ≠ sx; omega)).trans cf4)
  have s6 := s5.old b6 s5.lt
  have r6 := r5.old b6
  have B6 : Below w.heap.size w W := by
    have h1 : Below w.heap.size W4 w5 := o5.below (by rw [← Hsx.out]; exact Nat.le_refl _) (by have := B4.size; exact this)
    exact (B4.trans h1).trans (b6.mono (Nat.le_trans B4.size h45))
  have npv : pv ≠ fb := by rw [hpv]; omega
  have htbne : ∀ a, ta = some ⟨a, 0, none⟩ → True := fun _ _ => trivial
  change Code.wp _ _ _ _ (w5.alloc (.cells #[.slice ta T.length tc] 56))
  rw [← hW, ← hpv]
  have HF6 := Lib.hid hf5
  have CF := Lib.hid cf5
  have CP := Lib.hid cp
  have HS6 := Lib.hid s6
  have HR6 := Lib.hid r6
  have HB6 := Lib.hid B6
  have HpvW := Lib.hid hpvl
  have Hnpv := Lib.hid npv
  have HfvW : Hid (fb + 1 < W.heap.size) := Lib.hid (by have := b6.size; omega)
  clear hW hpv b6 cp hpvl h45 hf5 hf4 cf5 cf4 s5 s6 r5 r6 B6 npv htbne s4 B4 hsz4 hs2' o5 c4
  by_cases hst : st2 = some []
  · have HE : Hid (∀ u : World, Below W.heap.size W u → Calls Tryd.prog 43 #[.pointer (some ⟨sx, 0, none⟩)] u fun e w' => e = .returned (.int .i64 0) ∧ Below u.heap.size u w') := Lib.hid fun u hu => by
      have := end_any sx st2 u (HS6.out.old hu HS6.out.lt)
      rw [hst] at this
      exact this.mono fun e w' ⟨h1, h2⟩ => ⟨h1, h2 ▸ Below.refl _ _⟩
    have Hst := Lib.hid hst
    clear hst
    by_cases hTl : T.length = k
    · have hlk : ((T.length : Nat) : Int) = (k : Int) := by rw [hTl]
      have HTl := Lib.hid hTl
      obtain ⟨tl, htl⟩ : ∃ tl, tl = T.length := ⟨_, rfl⟩
      rw [← htl] at hlk CP HR6 ⊢
      have Htl := Lib.hid htl
      clear hTl htl
      try simp only [Act.put]
      refine wp_region_tab0 [RT.is (.pointer (some ⟨sx, 0, none⟩)), RT.is (.int .i64 0), RT.is (.bool false), RT.is (.bool false), RT.is (.slice ta tl tc), RT.is (.int .i64 tl), RT.is (.int .i64 (k : Int)), RT.is (.bool false), RT.is (.bool false)] (by kernel_rfl) (by kernel_rfl) (by kernel_rfl) ⟨?_, ?_, ?_, ?_, ?_, ?_, ?_, ?_, ?_, trivial⟩ ?_
      · intro ac w' hF hL hP hU K hK
        have hB : Below _ _ _ := hL
        have e4 : ac.eval (.tmp 4) = .pointer (some ⟨sx, 0, none⟩) := hF.at 4 (by kernel_rfl)
        exact rop_move _ rfl e4 (wanted_none rfl) (hK _ _ (le8_refl _) rfl)
      · intro ac w' hF hL hP hU K hK
        have hB : Below _ _ _ := hL
        have e24 : ac.eval (.tmp 24) = .pointer (some ⟨sx, 0, none⟩) := hP 0 (by kernel_rfl)
        refine rop_call 43 _ _ rfl #[.pointer (some ⟨sx, 0, none⟩)] (by simp [e24]) (by kernel_rfl) (wanted_none rfl) ?_
        refine (HE.out w' hB).mono ?_
        rintro e w2 ⟨rfl, hb⟩
        exact ⟨_, rfl, hK _ _ hb rfl⟩
      · intro ac w' hF hL hP hU K hK
        have hB : Below _ _ _ := hL
        have e25 : ac.eval (.tmp 25) = .int .i64 0 := hP 1 (by kernel_rfl)
        exact rop_bin _ _ _ _ _ rfl e25 rfl (guard_int _ _ _ _ _ _ _ w') (neq_errT _ w') (wanted_none rfl) (hK _ _ (le8_refl _) rfl)
      · intro ac w' hF hL hP hU K hK
        have hB : Below _ _ _ := hL
        have e26 : ac.eval (.tmp 26) = .bool false := hP 2 (by kernel_rfl)
        exact rop_move _ rfl e26 (wanted_none rfl) (hK _ _ (le8_refl _) rfl)
      · intro ac w' hF hL hP hU K hK
        have hB : Below _ _ _ := hL
        have e7 : ac.eval (.tmp 7) = .pointer (some ⟨pv, 0, none⟩) := hF.at 7 (by kernel_rfl)
        have e27 : ac.eval (.tmp 27) = .bool false := hP 3 (by kernel_rfl)
        exact rop_ld _ _ rfl e7 (load_strsl ((hB.cell (p := ⟨pv, 0, none⟩) HpvW.out).trans CP.out)) (wanted_of (j := 3) (b := false) rfl rfl e27) (hK _ _ (le8_refl _) rfl)
      · intro ac w' hF hL hP hU K hK
        have hB : Below _ _ _ := hL
        have e28 : ac.eval (.tmp 28) = .slice ta tl tc := hP 4 (by kernel_rfl)
        have e27 : ac.eval (.tmp 27) = .bool false := hP 3 (by kernel_rfl)
        exact rop_lenG _ Tryd.underlying56 rfl e28 (wanted_of (j := 3) (b := false) rfl rfl e27) (hK _ _ (le8_refl _) rfl)
      · intro ac w' hF hL hP hU K hK
        have hB : Below _ _ _ := hL
        have e6 : ac.eval (.tmp 6) = .int .i64 (k : Int) := hF.at 6 (by kernel_rfl)
        have e27 : ac.eval (.tmp 27) = .bool false := hP 3 (by kernel_rfl)
        exact rop_move _ rfl e6 (wanted_of (j := 3) (b := false) rfl rfl e27) (hK _ _ (le8_refl _) rfl)
      · intro ac w' hF hL hP hU K hK
        have hB : Below _ _ _ := hL
        have e29 : ac.eval (.tmp 29) = .int .i64 tl := hP 5 (by kernel_rfl)
        have e30 : ac.eval (.tmp 30) = .int .i64 (k : Int) := hP 6 (by kernel_rfl)
        have e27 : ac.eval (.tmp 27) = .bool false := hP 3 (by kernel_rfl)
        exact rop_bin _ _ _ _ _ rfl e29 e30 (guard_int _ _ _ _ _ _ _ w') (neq_iT _ _ hlk w') (wanted_of (j := 3) (b := false) rfl rfl e27) (hK _ _ (le8_refl _) rfl)
      · intro ac w' hF hL hP hU K hK
        have hB : Below _ _ _ := hL
        have e27 : ac.eval (.tmp 27) = .bool false := hP 3 (by kernel_rfl)
        have e31 : ac.eval (.tmp 31) = .bool false := hP 7 (by kernel_rfl)
        exact rop_pick _ _ _ rfl false e27 (by simpa using e31) (wanted_none rfl) (hK _ _ (le8_refl _) rfl)
      · intro ac w' hF hB hT
        have e32 : ac.eval (.tmp 32) = .bool false := hT 8 (by decide)
        rw [hF.setsG [24, 25, 26, 27, 28, 29, 30, 31, 32] (by kernel_rfl)]
        simp only [List.foldl_cons, List.foldl_nil, List.setIfInBounds_toArray, List.set_cons_succ, List.set_cons_zero, e32]
        generalize ac.eval (.tmp 24) = u24
        generalize ac.eval (.tmp 25) = u25
        generalize ac.eval (.tmp 26) = u26
        generalize ac.eval (.tmp 27) = u27
        generalize ac.eval (.tmp 28) = u28
        generalize ac.eval (.tmp 29) = u29
        generalize ac.eval (.tmp 30) = u30
        generalize ac.eval (.tmp 31) = u31
        clear e32 hT hF ac
        obtain ⟨V, hV⟩ : ∃ V, V = w' := ⟨_, rfl⟩
        subst hV
        have cp2 := (hB.cell (p := ⟨pv, 0, none⟩) HpvW.out).trans CP.out
        have cf2 := (hB.cell (p := ⟨fb + 1, 0, none⟩) HfvW.out).trans CF.out
        have hf2 := HF6.out.old' hB
        have hr2 := HR6.out.old hB
        have hB2 := below_step HB6.out (Nat.le_refl _) hB
        have hpv2 := Nat.lt_of_lt_of_le HpvW.out hB.size
        have hfv2 := Nat.lt_of_lt_of_le HfvW.out hB.size
        have CP2 := Lib.hid cp2
        have CF2 := Lib.hid cf2
        have HF2 := Lib.hid hf2
        have HR2 := Lib.hid hr2
        have HB2 := Lib.hid hB2
        have HPV2 := Lib.hid hpv2
        have HFV2 := Lib.hid hfv2
        clear cp2 cf2 hf2 hr2 hB2 hpv2 hfv2 hB hlk
        go_wp2
        go_loopw [9, 35] (fun _ s35 wr => ∃ (i : Nat) (Qi : Hs), s35 = .int .i64 (i : Int) ∧ i ≤ k ∧ Front fb n Qi wr ∧ Qi.take i = T.take i ∧ all32 (T.take i) ∧ Only fb V wr) (fun _ s35 _ => k - (intOf s35).toNat)
        case atStart => exact ⟨0, zQ, rfl, Nat.zero_le _, HF2.out, by simp, all32.nil, Only.refl _ _⟩
        case round =>
          obtain ⟨i, Qi, rfl, hik, hf, hq, ha, ho⟩ := hrel
          have HF := Lib.hid hf
          have HQ := Lib.hid hq
          have HA := Lib.hid ha
          have HO := Lib.hid ho
          have HBw : Hid (Below w.heap.size w wr) := Lib.hid (HB2.out.trans (ho.below Hfb.out HB2.out.size))
          clear hf hq ha ho
          by_cases hlt : i < k
          · have hlt' : (i : Int) < (k : Int) := by omega
            have hw1 := IntWalk.i64_in ((i : Int) + 1) (by omega)
            have hiT : i < T.length := by rw [HTl.out]; exact hlt
            obtain ⟨x, hx⟩ : ∃ x, x = T[i] := ⟨_, rfl⟩
            obtain ⟨X, hX⟩ : ∃ X : ByteArray, X = ⟨x.toArray⟩ := ⟨_, rfl⟩
            obtain ⟨a', c', e, -, hc⟩ := HR2.out
            injection e with e1 e2 e3
            subst e1 e3
            clear e2
            obtain ⟨tb, to, hta, htb, hcx⟩ := hc (by intro e; have := congrArg List.length e; simp [strs] at this; rw [this] at hiT; simp at hiT)
            have hct := hcx i (by simp [strs]; exact hiT)
            have hg : (strs T).getD i ByteArray.empty = X := by
              rw [hX, hx]
              simp [strs, hiT]
            rw [hg] at hct
            have ntb : tb ≠ fb := by
              intro e
              subst e
              have h1 := hct
              have h2 := HF2.out.range i
              have h3 := cell_of HF2.out.2.2 (to + i)
              rw [h3] at h1
              have h4 : (Value.string X) ∈ fL n zQ := by
                have := h1
                simp at this
                exact List.mem_of_getElem? this
              unfold fL at h4
              rcases List.mem_cons.1 h4 with h4 | h4
              · cases h4
              · obtain ⟨y, _, hy⟩ := List.mem_flatMap.1 h4
                obtain ⟨z, _, hz⟩ := List.mem_map.1 hy
                cases hz
            have cpx := (HO.out.cellA (p := ⟨pv, 0, none⟩) HPV2.out Hnpv.out).trans CP2.out
            rw [hta] at cpx
            have hXs : X.size = x.length := by rw [hX, ByteArray.size, List.size_toArray]
            have hPK : Hid (Calls Tryd.prog 44 #[.int .i64 (i : Int), .pointer (some ⟨fb + 1, 0, none⟩), .pointer (some ⟨pv, 0, none⟩)] wr fun e w' => e = .returned (.bool (decide (X.size = 32))) ∧ Only fb wr w' ∧ (X.size = 32 → Front fb n (Qi.set i X.data.toList) w')) := Lib.hid (fpeak_any fb (fb + 1) pv tb to tl tc i n Qi X wr HF.out ((HO.out.cellA (p := ⟨fb + 1, 0, none⟩) HFV2.out (by show fb + 1 ≠ fb; omega)).trans CF2.out) cpx ((HO.out.cellA (p := ⟨tb, to + i, none⟩) htb ntb).trans hct) (Nat.lt_of_lt_of_le HFV2.out HO.out.size) (Nat.lt_of_lt_of_le HPV2.out HO.out.size) (Nat.lt_of_lt_of_le htb HO.out.size) (by omega) Hnpv.out ntb (by omega) (by rw [Htl.out]; exact hiT))
            have hxe : X.data.toList = x := by rw [hX]
            have HXS := Lib.hid hXs
            have HXE := Lib.hid hxe
            have HIT := Lib.hid hiT
            have HX := Lib.hid hx
            clear hcx hct hg ntb hX hXs hxe hx hc cpx hta
            by_cases h32 : X.size = 32
            · rw [decide_eq_true h32] at hPK
              have H32 := Lib.hid h32
              clear h32
              go_wp2_with (go_at_call 44; ((with_reducible refine hPK.out.mono ?_); rintro e w9 ⟨rfl, o9, f9⟩))
              have hx32 : x.length = 32 := by rw [← HXS.out]; exact H32.out
              have hf9 := f9 H32.out
              rw [HXE.out] at hf9
              have htk : T.take (i + 1) = T.take i ++ [x] := by rw [List.take_succ_eq_append_getElem HIT.out, HX.out]
              go_roundw
              case rel =>
                refine ⟨i + 1, Qi.set i x, by go_num, by omega, hf9, ?_, ?_, HO.out.trans o9⟩
                · rw [htk, ← HQ.out, List.take_succ_eq_append_getElem (by rw [List.length_set, HF.out.1]; omega), List.take_set_of_le (Nat.le_refl _), List.getElem_set_self]
                · rw [htk]
                  exact HA.out.append (all32.one hx32)
              case measure => simp [intOf]; omega
            · rw [decide_eq_false h32] at hPK
              have H32 := Lib.hid h32
              clear h32
              go_wp2_with (go_at_call 44; ((with_reducible refine hPK.out.mono ?_); rintro e w9 ⟨rfl, o9, f9⟩))
              go_ret2
              refine ⟨HBw.out.trans (o9.below Hfb.out HBw.out.size), .inr ⟨?_, rfl⟩⟩
              rw [HOK.out]
              rintro ⟨-, -, hall⟩
              apply H32.out
              rw [HXS.out, HX.out]
              exact hall _ (List.getElem_mem _)
          · have hi' : i = k := by omega
            subst hi'
            have cfw := (HO.out.cellA (p := ⟨fb + 1, 0, none⟩) HFV2.out (by show fb + 1 ≠ fb; omega)).trans CF2.out
            have hfin : okF l := by
              rw [HOK.out]
              refine ⟨Hst.out, HTl.out, ?_⟩
              have := HA.out
              rwa [Htk.out HTl.out] at this
            have hq2 : Qi.take i = T := by rw [HQ.out, Htk.out HTl.out]
            have HFIN := Lib.hid hfin
            have HQ2 := Lib.hid hq2
            have hlt' : ¬ (i : Int) < (i : Int) := by omega
            clear hfin hq2
            go_wp2
            go_ret2
            first | exact ⟨HBw.out, .inl ⟨HFIN.out, fb, Hfb.out, rfl, Qi, HF.out, HQ2.out⟩⟩ | exact ⟨HBw.out, .inl ⟨HFIN.out, fb, Qi, Hfb.out, rfl, HF.out, HQ2.out⟩⟩
    · have hlk : ¬ ((T.length : Nat) : Int) = (k : Int) := by omega
      have HTl := Lib.hid hTl
      obtain ⟨tl, htl⟩ : ∃ tl, tl = T.length := ⟨_, rfl⟩
      rw [← htl] at hlk CP HR6 ⊢
      have Htl := Lib.hid htl
      clear hTl htl
      try simp only [Act.put]
      refine wp_region_tab0 [RT.is (.pointer (some ⟨sx, 0, none⟩)), RT.is (.int .i64 0), RT.is (.bool false), RT.is (.bool false), RT.is (.slice ta tl tc), RT.is (.int .i64 tl), RT.is (.int .i64 (k : Int)), RT.is (.bool true), RT.is (.bool true)] (by kernel_rfl) (by kernel_rfl) (by kernel_rfl) ⟨?_, ?_, ?_, ?_, ?_, ?_, ?_, ?_, ?_, trivial⟩ ?_
      · intro ac w' hF hL hP hU K hK
        have hB : Below _ _ _ := hL
        have e4 : ac.eval (.tmp 4) = .pointer (some ⟨sx, 0, none⟩) := hF.at 4 (by kernel_rfl)
        exact rop_move _ rfl e4 (wanted_none rfl) (hK _ _ (le8_refl _) rfl)
      · intro ac w' hF hL hP hU K hK
        have hB : Below _ _ _ := hL
        have e24 : ac.eval (.tmp 24) = .pointer (some ⟨sx, 0, none⟩) := hP 0 (by kernel_rfl)
        refine rop_call 43 _ _ rfl #[.pointer (some ⟨sx, 0, none⟩)] (by simp [e24]) (by kernel_rfl) (wanted_none rfl) ?_
        refine (HE.out w' hB).mono ?_
        rintro e w2 ⟨rfl, hb⟩
        exact ⟨_, rfl, hK _ _ hb rfl⟩
      · intro ac w' hF hL hP hU K hK
        have hB : Below _ _ _ := hL
        have e25 : ac.eval (.tmp 25) = .int .i64 0 := hP 1 (by kernel_rfl)
        exact rop_bin _ _ _ _ _ rfl e25 rfl (guard_int _ _ _ _ _ _ _ w') (neq_errT _ w') (wanted_none rfl) (hK _ _ (le8_refl _) rfl)
      · intro ac w' hF hL hP hU K hK
        have hB : Below _ _ _ := hL
        have e26 : ac.eval (.tmp 26) = .bool false := hP 2 (by kernel_rfl)
        exact rop_move _ rfl e26 (wanted_none rfl) (hK _ _ (le8_refl _) rfl)
      · intro ac w' hF hL hP hU K hK
        have hB : Below _ _ _ := hL
        have e7 : ac.eval (.tmp 7) = .pointer (some ⟨pv, 0, none⟩) := hF.at 7 (by kernel_rfl)
        have e27 : ac.eval (.tmp 27) = .bool false := hP 3 (by kernel_rfl)
        exact rop_ld _ _ rfl e7 (load_strsl ((hB.cell (p := ⟨pv, 0, none⟩) HpvW.out).trans CP.out)) (wanted_of (j := 3) (b := false) rfl rfl e27) (hK _ _ (le8_refl _) rfl)
      · intro ac w' hF hL hP hU K hK
        have hB : Below _ _ _ := hL
        have e28 : ac.eval (.tmp 28) = .slice ta tl tc := hP 4 (by kernel_rfl)
        have e27 : ac.eval (.tmp 27) = .bool false := hP 3 (by kernel_rfl)
        exact rop_lenG _ Tryd.underlying56 rfl e28 (wanted_of (j := 3) (b := false) rfl rfl e27) (hK _ _ (le8_refl _) rfl)
      · intro ac w' hF hL hP hU K hK
        have hB : Below _ _ _ := hL
        have e6 : ac.eval (.tmp 6) = .int .i64 (k : Int) := hF.at 6 (by kernel_rfl)
        have e27 : ac.eval (.tmp 27) = .bool false := hP 3 (by kernel_rfl)
        exact rop_move _ rfl e6 (wanted_of (j := 3) (b := false) rfl rfl e27) (hK _ _ (le8_refl _) rfl)
      · intro ac w' hF hL hP hU K hK
        have hB : Below _ _ _ := hL
        have e29 : ac.eval (.tmp 29) = .int .i64 tl := hP 5 (by kernel_rfl)
        have e30 : ac.eval (.tmp 30) = .int .i64 (k : Int) := hP 6 (by kernel_rfl)
        have e27 : ac.eval (.tmp 27) = .bool false := hP 3 (by kernel_rfl)
        exact rop_bin _ _ _ _ _ rfl e29 e30 (guard_int _ _ _ _ _ _ _ w') (neq_iF _ _ hlk w') (wanted_of (j := 3) (b := false) rfl rfl e27) (hK _ _ (le8_refl _) rfl)
      · intro ac w' hF hL hP hU K hK
        have hB : Below _ _ _ := hL
        have e27 : ac.eval (.tmp 27) = .bool false := hP 3 (by kernel_rfl)
        have e31 : ac.eval (.tmp 31) = .bool true := hP 7 (by kernel_rfl)
        exact rop_pick _ _ _ rfl false e27 (by simpa using e31) (wanted_none rfl) (hK _ _ (le8_refl _) rfl)
      · intro ac w' hF hB hT
        have e32 : ac.eval (.tmp 32) = .bool true := hT 8 (by decide)
        rw [hF.setsG [24, 25, 26, 27, 28, 29, 30, 31, 32] (by kernel_rfl)]
        simp only [List.foldl_cons, List.foldl_nil, List.setIfInBounds_toArray, List.set_cons_succ, List.set_cons_zero, e32]
        generalize ac.eval (.tmp 24) = u24
        generalize ac.eval (.tmp 25) = u25
        generalize ac.eval (.tmp 26) = u26
        generalize ac.eval (.tmp 27) = u27
        generalize ac.eval (.tmp 28) = u28
        generalize ac.eval (.tmp 29) = u29
        generalize ac.eval (.tmp 30) = u30
        generalize ac.eval (.tmp 31) = u31
        clear e32 hT hF ac
        have hok2 : ¬ okF l := by rw [HOK.out]; rintro ⟨-, h, -⟩; exact HTl.out h
        have HNO := Lib.hid hok2
        clear hok2
        go_wp2
        go_ret2
        exact ⟨below_step HB6.out (Nat.le_refl _) hB, .inr ⟨HNO.out, rfl⟩⟩
  · have HE : Hid (∀ u : World, Below W.heap.size W u → Calls Tryd.prog 43 #[.pointer (some ⟨sx, 0, none⟩)] u fun e w' => e = .returned (.int .i64 10) ∧ Below u.heap.size u w') := Lib.hid fun u hu => by
      have := end_any sx st2 u (HS6.out.old hu HS6.out.lt)
      unfold endV at this
      rw [if_neg hst] at this
      exact this.mono fun e w' ⟨h1, h2⟩ => ⟨h1, h2 ▸ Below.refl _ _⟩
    have Hst := Lib.hid hst
    clear hst
    try simp only [Act.put]
    refine wp_region_tab0 [RT.is (.pointer (some ⟨sx, 0, none⟩)), RT.is (.int .i64 10), RT.is (.bool true), RT.is (.bool true), RT.any, RT.any, RT.any, RT.any, RT.is (.bool true)] (by kernel_rfl) (by kernel_rfl) (by kernel_rfl) ⟨?_, ?_, ?_, ?_, ?_, ?_, ?_, ?_, ?_, trivial⟩ ?_
    · intro ac w' hF hL hP hU K hK
      have hB : Below _ _ _ := hL
      have e4 : ac.eval (.tmp 4) = .pointer (some ⟨sx, 0, none⟩) := hF.at 4 (by kernel_rfl)
      exact rop_move _ rfl e4 (wanted_none rfl) (hK _ _ (le8_refl _) rfl)
    · intro ac w' hF hL hP hU K hK
      have hB : Below _ _ _ := hL
      have e24 : ac.eval (.tmp 24) = .pointer (some ⟨sx, 0, none⟩) := hP 0 (by kernel_rfl)
      refine rop_call 43 _ _ rfl #[.pointer (some ⟨sx, 0, none⟩)] (by simp [e24]) (by kernel_rfl) (wanted_none rfl) ?_
      refine (HE.out w' hB).mono ?_
      rintro e w2 ⟨rfl, hb⟩
      exact ⟨_, rfl, hK _ _ hb rfl⟩
    · intro ac w' hF hL hP hU K hK
      have hB : Below _ _ _ := hL
      have e25 : ac.eval (.tmp 25) = .int .i64 10 := hP 1 (by kernel_rfl)
      exact rop_bin _ _ _ _ _ rfl e25 rfl (guard_int _ _ _ _ _ _ _ w') (neq_errF _ _ (by decide) w') (wanted_none rfl) (hK _ _ (le8_refl _) rfl)
    · intro ac w' hF hL hP hU K hK
      have hB : Below _ _ _ := hL
      have e26 : ac.eval (.tmp 26) = .bool true := hP 2 (by kernel_rfl)
      exact rop_move _ rfl e26 (wanted_none rfl) (hK _ _ (le8_refl _) rfl)
    · intro ac w' hF hL hP hU K hK
      have hB : Below _ _ _ := hL
      have e27 : ac.eval (.tmp 27) = .bool true := hP 3 (by kernel_rfl)
      exact rop_offG (j := 3) (b := false) rfl rfl e27 (by decide) (hK _ _ (le8_refl _) trivial)
    · intro ac w' hF hL hP hU K hK
      have hB : Below _ _ _ := hL
      have e27 : ac.eval (.tmp 27) = .bool true := hP 3 (by kernel_rfl)
      exact rop_offG (j := 3) (b := false) rfl rfl e27 (by decide) (hK _ _ (le8_refl _) trivial)
    · intro ac w' hF hL hP hU K hK
      have hB : Below _ _ _ := hL
      have e27 : ac.eval (.tmp 27) = .bool true := hP 3 (by kernel_rfl)
      exact rop_offG (j := 3) (b := false) rfl rfl e27 (by decide) (hK _ _ (le8_refl _) trivial)
    · intro ac w' hF hL hP hU K hK
      have hB : Below _ _ _ := hL
      have e27 : ac.eval (.tmp 27) = .bool true := hP 3 (by kernel_rfl)
      exact rop_offG (j := 3) (b := false) rfl rfl e27 (by decide) (hK _ _ (le8_refl _) trivial)
    · intro ac w' hF hL hP hU K hK
      have hB : Below _ _ _ := hL
      have e27 : ac.eval (.tmp 27) = .bool true := hP 3 (by kernel_rfl)
      exact rop_pick _ _ _ rfl true e27 (by rfl) (wanted_none rfl) (hK _ _ (le8_refl _) rfl)
    · intro ac w' hF hB hT
      have e32 : ac.eval (.tmp 32) = .bool true := hT 8 (by decide)
      rw [hF.setsG [24, 25, 26, 27, 28, 29, 30, 31, 32] (by kernel_rfl)]
      simp only [List.foldl_cons, List.foldl_nil, List.setIfInBounds_toArray, List.set_cons_succ, List.set_cons_zero, e32]
      generalize ac.eval (.tmp 24) = u24
      generalize ac.eval (.tmp 25) = u25
      generalize ac.eval (.tmp 26) = u26
      generalize ac.eval (.tmp 27) = u27
      generalize ac.eval (.tmp 28) = u28
      generalize ac.eval (.tmp 29) = u29
      generalize ac.eval (.tmp 30) = u30
      generalize ac.eval (.tmp 31) = u31
      clear e32 hT hF ac
      have hok2 : ¬ okF l := by rw [HOK.out]; rintro ⟨h, -, -⟩; exact Hst.out h
      have HNO := Lib.hid hok2
      clear hok2
      go_wp2
      go_ret2
      exact ⟨below_step HB6.out (Nat.le_refl _) hB, .inr ⟨HNO.out, rfl⟩⟩
end Go.Proofs.YtgiakpnkidblpaaDoor
