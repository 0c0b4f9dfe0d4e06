/-
  PathFolds: a leaf, put together with its path's hashes one by one, on the sides that are told, comes to the root. For all hashes (the first 20 of them), and every place among them; the numbers K of the package sha are as the program's own start lays them.
-/
import Derived.Test.YtagocdcclghdaaaDoorPathLaw
namespace Go.Proofs.YtagocdcclghdaaaDoor.pathFolds
open Go.ChangeShapes Go.WideShapes Go.ChangeAt Go.RowKit

theorem sum_thereG {w : World} {q : Nat} {x y : List UInt8} (h : w.heap[q]? = some (.cells (x.map u8V).toArray 35 (0, 0))) (hx : x.length = 32) (hy : y.length = 32) : w.there q 0 (y.map u8V).toArray.size := by
  rw [show (y.map u8V).toArray.size = 32 from (List.size_toArray).trans (by rw [List.length_map, hy])]; exact there_of h (by simp [hx])
/-- Ahead of hash i: what was come to, and what is left of the path, come to D. -/
def FRel (P : Hs) (T : List Bool) (D : List UInt8) (q : Nat) (w0 : World) (s12 : Value) (wr : World) : Prop :=
  ∃ (i : Nat) (X : List UInt8), s12 = .int .i64 (i : Int) ∧ i ≤ P.length ∧ X.length = 32 ∧ Tree.fold X (P.drop i) (T.drop i) = D ∧ Below q w0 wr ∧ wr.heap[q]? = some (.cells (X.map u8V).toArray 35 (0, 0))
theorem fold_cons (X p : List UInt8) (P : Hs) (b : Bool) (T : List Bool) : Tree.fold X (p :: P) (b :: T) = Tree.fold (Tree.step X p b) P T := rfl
theorem heap_setCells_allG (w : World) (q : Nat) (x y : List UInt8) (hx : x.length = 32) (hy : y.length = 32) (h : w.heap[q]? = some (.cells (x.map u8V).toArray 35 (0, 0))) : (w.setCells q 0 (y.map u8V)).heap[q]? = some (.cells (y.map u8V).toArray 35 (0, 0)) := by
  have := heap_setCells q 35 (y.map u8V) 0 (x.map u8V) w (by simp [hx, hy]) h
  rw [this, List.take_zero, List.nil_append, List.drop_eq_nil_of_le (by simp [hx, hy]), List.append_nil]
theorem fold_nil (X : List UInt8) (T : List Bool) : Tree.fold X [] T = X := by cases T <;> rfl
set_option maxHeartbeats 8000000 in
set_option maxRecDepth 100000 in
theorem walk {w : World} (hK : KT w) (v : Value) (l : Hs) (hv : Sums w v l) (a : Int) (_ : -9223372036854775808 ≤ a) (_ : a ≤ 9223372036854775807) :
    Calls Tryd.prog 6 #[v, .int .i64 a] w fun e w' => e = .returned (.bool true) ∧ Below w.heap.size w w' := by
  have HAW := Lib.hid (awake10_any w hK)
  have HV := Lib.hid hv
  obtain ⟨r, hr⟩ : ∃ r, r = l.take 20 := ⟨_, rfl⟩
  have hrl : r.length ≤ 20 := by rw [hr, List.length_take]; omega
  have hro : all32 r := by rw [hr]; exact hv.ok.take 20
  obtain ⟨n, hn⟩ : ∃ n, n = r.length := ⟨_, rfl⟩
  have hn20 : n ≤ 20 := by omega
  have Hr := Lib.hid hr
  have Hro := Lib.hid hro
  have Hn := Lib.hid hn
  have HKW := Lib.hid hK
  clear hrl hr hn hv hK hro
  go_enter Tryd.func6, Tryd.ntmps6
  go_upto_region 3 with (first
    | (go_at_call 9; ((with_reducible refine HAW.out.mono ?_); rintro e w1 ⟨rfl, b1⟩))
    | (go_at_call 10; refine (few10_any _ l _ (HV.out.old b1)).mono ?_; rintro e w2 ⟨v6, rfl, h6, rfl⟩; rw [← Hr.out] at h6; have H6 := Lib.hid h6.1; obtain ⟨a6, c6, rfl, _, _⟩ := h6.1.slice; rw [← Hn.out] at H6 ⊢; clear h6))
  rcases Nat.eq_zero_or_pos n with h0 | h0
  · have h0' : (n : Int) = 0 := by omega
    go_wp2
    go_ret
    exact ⟨rfl, b1⟩
  · have h0' : ¬ (n : Int) = 0 := by omega
    obtain ⟨z, hz, m, hm, hzm⟩ := place_of a n h0
    obtain ⟨k, hk⟩ : ∃ k, k = Tree.long m n := ⟨_, rfl⟩
    have hk5 : k ≤ 5 := by rw [hk]; exact long_lt m n hn20
    have okp : okP (m : Int) (n : Int) = true := by simp [okP]; omega
    obtain ⟨P, hP⟩ : ∃ P, P = Tree.path r m := ⟨_, rfl⟩
    obtain ⟨T, hT⟩ : ∃ T, T = Tree.turns m n := ⟨_, rfl⟩
    obtain ⟨D, hD⟩ : ∃ D, D = Tree.root r := ⟨_, rfl⟩
    have HDl : Hid (D.length = 32) := Lib.hid (by rw [hD]; exact Tree.root_length _ Hro.out)
    have hPl : P.length = k := by rw [hP, Tree.path_length _ _ _ (Nat.le_refl _), ← Hn.out, ← hk]
    have hTl : T.length = k := by rw [hT, hk]; rfl
    have hP32 : ∀ x ∈ P, x.length = 32 := by rw [hP]; exact Tree.path_all _ r m (Nat.le_refl _) Hro.out
    obtain ⟨x0, hx0⟩ : ∃ x0, r[m]? = some x0 := ⟨_, List.getElem?_eq_getElem (by rw [← Hn.out]; exact hm)⟩
    have hx32 : x0.length = 32 := Hro.out x0 (List.mem_of_getElem? hx0)
    have hfold : Tree.fold x0 P T = D := by rw [hP, hT, hD, Hn.out]; exact Tree.path_folds _ r m x0 hx0 (Nat.le_refl _)
    have HPA : Hid (∀ v u, KT u → Sums u v r → Calls Tryd.prog 11 #[v, .int .i64 (m : Int)] u fun e w' => ∃ b c, e = .returned (.tuple #[.slice b k c, .bool true]) ∧ Sums w' (.slice b k c) P ∧ Below u.heap.size u w') := Lib.hid fun v u hk0 hv => by
      have := path_any v r (m : Int) u hv (by have := Hn.out; omega) hk0
      rw [pathZ_t r m (by have := Hn.out; omega), ← hP] at this
      refine this.mono fun e w' ⟨v', he, ho, hb⟩ => ?_
      obtain ⟨b, c, rfl, -, -⟩ := ho.sums.slice
      have hs := ho.sums
      simp only at hs he
      rw [hPl] at he hs
      exact ⟨b, c, he, hs, hb⟩
    have HTU : Hid (∀ u, Calls Tryd.prog 16 #[.int .i64 (m : Int), .int .i64 (n : Int)] u fun e w' => ∃ b c, e = .returned (.slice b k c) ∧ Bools w' (.slice b k c) T ∧ Below u.heap.size u w') := Lib.hid fun u => by
      have := turns_any (m : Int) (n : Int) u (by omega) (by omega)
      have e2 : turnsZ (m : Int) (n : Int) = T := by unfold turnsZ; rw [if_pos okp, hT]; rfl
      rw [e2] at this
      refine this.mono fun e w' ⟨v', he, ho, hb⟩ => ?_
      obtain ⟨b, c, rfl, -, -⟩ := ho.bools.slice
      have hs := ho.bools
      rw [hTl] at he hs
      exact ⟨b, c, he, hs, hb⟩
    have HRT : Hid (∀ v u, Sums u v r → Calls Tryd.prog 23 #[v] u fun e w' => e = .returned (sumV D) ∧ Below u.heap.size u w') := Lib.hid fun v u hv => by
      rw [hD]
      exact rleafRoot_any _ r v u rfl (by have := Hn.out; omega) hv
    obtain ⟨b6, o6, rfl, hb6, -, hr6⟩ : ∃ b o, a6 = some ⟨b, o, none⟩ ∧ b < w1.heap.size ∧ n = r.length ∧ w1.rangeAt b (o + m * 32) (x0.map u8V) := by
      obtain ⟨b, o, e1, e2, e3, e4⟩ := H6.out.at m (by rw [← Hn.out]; exact hm)
      rw [(List.getElem?_eq_some_iff.1 hx0).2] at e4
      exact ⟨b, o, e1, e2, e3, e4⟩
    have hw3 := IntWalk.i64_in (m : Int) (by omega)
    have hidx := fun u => index_sums b6 o6 n c6 m hm u
    have HX0l := Lib.hid hx32
    have HF := Lib.hid hfold
    have HP32 := Lib.hid hP32
    have HPK := Lib.hid hPl
    have HTl := Lib.hid hTl
    have Hr6 := Lib.hid hr6
    clear hk okp hP hT hD hPl hTl hP32 hx0 hx32 hfold hr6
    rcases hzm with ⟨hq0, rfl⟩ | ⟨hq0, rfl⟩ <;>
    (go_upto_region 10 with (first
      | (go_at_call 11; ((with_reducible refine (HPA.out _ _ (HKW.out.old b1) H6.out).mono ?_); rintro e w3 ⟨ap, cp, rfl, hsp, b3⟩; have HSP := Lib.hid hsp; clear hsp))
      | (go_at_call 16; ((with_reducible refine (HTU.out _).mono ?_); rintro e w4 ⟨aT, ct, rfl, hst, b4⟩; have HST := Lib.hid hst; clear hst)))
     try simp only [Act.put]
     refine wp_region_tab0 [RT.is (.bool true), RT.is (.bool false), RT.is (.bool false), RT.is (.slice aT k ct), RT.is (.int .i64 (k : Int)), RT.is (.slice ap k cp), RT.is (.int .i64 (k : Int)), RT.is (.bool false), RT.is (.bool false)] (by kernel_rfl) (by kernel_rfl) (by kernel_rfl) ⟨?_, ?_, ?_, ?_, ?_, ?_, ?_, ?_, ?_, trivial⟩ ?_
     · intro ac w' hF hL hP hU K hK
       have hB : Below _ _ _ := hL
       have e9 : ac.eval (.tmp 9) = .bool true := hF.at 9 (by kernel_rfl)
       exact rop_move _ rfl e9 (wanted_none rfl) (hK _ _ (le8_refl _) rfl)
     · intro ac w' hF hL hP hU K hK
       have hB : Below _ _ _ := hL
       have e38 : ac.eval (.tmp 38) = .bool true := hP 0 (by kernel_rfl)
       exact rop_not _ _ rfl true e38 (wanted_none rfl) (hK _ _ (le8_refl _) rfl)
     · intro ac w' hF hL hP hU K hK
       have hB : Below _ _ _ := hL
       have e39 : ac.eval (.tmp 39) = .bool false := hP 1 (by kernel_rfl)
       exact rop_move _ rfl e39 (wanted_none rfl) (hK _ _ (le8_refl _) rfl)
     · intro ac w' hF hL hP hU K hK
       have hB : Below _ _ _ := hL
       have e10 : ac.eval (.tmp 10) = .slice aT k ct := hF.at 10 (by kernel_rfl)
       have e40 : ac.eval (.tmp 40) = .bool false := hP 2 (by kernel_rfl)
       exact rop_move _ rfl e10 (wanted_of (j := 2) (b := false) rfl rfl e40) (hK _ _ (le8_refl _) rfl)
     · intro ac w' hF hL hP hU K hK
       have hB : Below _ _ _ := hL
       have e41 : ac.eval (.tmp 41) = .slice aT k ct := hP 3 (by kernel_rfl)
       have e40 : ac.eval (.tmp 40) = .bool false := hP 2 (by kernel_rfl)
       exact rop_lenG _ Tryd.underlying29 rfl e41 (wanted_of (j := 2) (b := false) rfl rfl e40) (hK _ _ (le8_refl _) rfl)
     · intro ac w' hF hL hP hU K hK
       have hB : Below _ _ _ := hL
       have e8 : ac.eval (.tmp 8) = .slice ap k cp := hF.at 8 (by kernel_rfl)
       have e40 : ac.eval (.tmp 40) = .bool false := hP 2 (by kernel_rfl)
       exact rop_move _ rfl e8 (wanted_of (j := 2) (b := false) rfl rfl e40) (hK _ _ (le8_refl _) rfl)
     · intro ac w' hF hL hP hU K hK
       have hB : Below _ _ _ := hL
       have e43 : ac.eval (.tmp 43) = .slice ap k cp := hP 5 (by kernel_rfl)
       have e40 : ac.eval (.tmp 40) = .bool false := hP 2 (by kernel_rfl)
       exact rop_lenG _ Tryd.underlying22 rfl e43 (wanted_of (j := 2) (b := false) rfl rfl e40) (hK _ _ (le8_refl _) rfl)
     · intro ac w' hF hL hP hU K hK
       have hB : Below _ _ _ := hL
       have e42 : ac.eval (.tmp 42) = .int .i64 (k : Int) := hP 4 (by kernel_rfl)
       have e44 : ac.eval (.tmp 44) = .int .i64 (k : Int) := hP 6 (by kernel_rfl)
       have e40 : ac.eval (.tmp 40) = .bool false := hP 2 (by kernel_rfl)
       exact rop_bin _ _ _ _ _ rfl e42 e44 (guard_int _ _ _ _ _ _ _ w') (neq_iG _ _ _ (by simp) w') (wanted_of (j := 2) (b := false) rfl rfl e40) (hK _ _ (le8_refl _) rfl)
     · intro ac w' hF hL hP hU K hK
       have hB : Below _ _ _ := hL
       have e40 : ac.eval (.tmp 40) = .bool false := hP 2 (by kernel_rfl)
       have e45 : ac.eval (.tmp 45) = .bool false := hP 7 (by kernel_rfl)
       exact rop_pick _ _ _ rfl false e40 (by simpa using e45) (wanted_none rfl) (hK _ _ (le8_refl _) rfl)
     · intro ac w' hF hB hT
       have e46 : ac.eval (.tmp 46) = .bool false := hT 8 (by decide)
       rw [hF.setsG [38, 39, 40, 41, 42, 43, 44, 45, 46] (by kernel_rfl)]
       simp only [List.foldl_cons, List.foldl_nil, List.setIfInBounds_toArray, List.set_cons_succ, List.set_cons_zero, e46]
       generalize ac.eval (.tmp 38) = u38
       generalize ac.eval (.tmp 39) = u39
       generalize ac.eval (.tmp 40) = u40
       generalize ac.eval (.tmp 41) = u41
       generalize ac.eval (.tmp 42) = u42
       generalize ac.eval (.tmp 43) = u43
       generalize ac.eval (.tmp 44) = u44
       generalize ac.eval (.tmp 45) = u45
       clear e46 hT hF ac
       obtain ⟨W, hW⟩ : ∃ W, W = w' := ⟨_, rfl⟩
       subst hW
       have b14 := b4
       have b5 := below_step (below_step (below_step b1 (Nat.le_refl _) b3) (Nat.le_refl _) b4) (Nat.le_refl _) hB
       have bW1 := below_step (below_step b3 (Nat.le_refl _) b4) (Nat.le_refl _) hB
       have bW3 := below_step b4 (Nat.le_refl _) hB
       have bW4 := hB
       have hrx := below_range bW1 hb6 Hr6.out
       have hz0 := heap_alloc_last W zSum
       obtain ⟨z6, k6⟩ := var_sum W x0 HX0l.out
       go_upto_region 13 with (first
         | refine wpList_load_mid rfl 35 (.tmp 49) rfl b6 (o6 + m * 32) rfl (x0.map u8V) _ hrx Tryd.underlying35 rfl (sum_info' HX0l.out) ?_
         | refine wpList_store_mid rfl 35 (.tmp 11) (.tmp 50) rfl W.heap.size 0 (x0.map u8V).toArray rfl rfl (sum_there hz0 HX0l.out) (sum_info HX0l.out) (sum_one x0) ?_)
       change Code.wp _ _ _ _ ((W.alloc zSum).setCells W.heap.size 0 (x0.map u8V))
       obtain ⟨w6, hw6⟩ : ∃ u, u = (W.alloc zSum).setCells W.heap.size 0 (x0.map u8V) := ⟨_, rfl⟩
       rw [← hw6] at z6 k6 ⊢
       obtain ⟨V, hV⟩ : ∃ V, V = W := ⟨_, rfl⟩
       obtain ⟨q, hq⟩ : ∃ q, q = V.heap.size := ⟨_, rfl⟩
       rw [← hV, ← hq] at z6 k6 ⊢
       rw [← hV] at b5 bW1 bW3 bW4
       have Hq := Lib.hid hq
       have hbq : Below q V w6 := k6
       have hqs : V.heap.size = q := Hq.out.symm
       clear hq hw6 hrx hz0 k6 hB hV
       go_wp2
       go_loopw [12] (FRel P T D q w6) (fun s12 _ => k - (intOf s12).toNat)
       case atStart => exact ⟨0, x0, rfl, by omega, HX0l.out, by simpa using HF.out, Below.refl _ _, z6⟩
       case round =>
        obtain ⟨i, X, rfl, hi, hXl, hfo, hbel, hqc⟩ := hrel
        have hbV : Below V.heap.size V wr := by rw [hqs]; exact hbq.trans hbel
        have HXl := Lib.hid hXl
        have HFo := Lib.hid hfo
        have hqW : q < wr.heap.size := (Array.getElem?_eq_some_iff.1 hqc).1
        by_cases hik : i < k
        · have hik' : (i : Int) < (k : Int) := by omega
          obtain ⟨p, hp⟩ : ∃ p, P[i]? = some p := ⟨_, List.getElem?_eq_getElem (by rw [HPK.out]; exact hik)⟩
          obtain ⟨tb, htb⟩ : ∃ tb, T[i]? = some tb := ⟨_, List.getElem?_eq_getElem (by rw [HTl.out]; exact hik)⟩
          obtain ⟨bp, op, rfl, hbp3, -, hrp3⟩ := HSP.out.at i (by rw [HPK.out]; exact hik)
          rw [(List.getElem?_eq_some_iff.1 hp).2] at hrp3
          obtain ⟨bt, ot, rfl, hbt4, -, hct4⟩ := HST.out.at htb
          have hPl32 := HP32.out p (List.mem_of_getElem? hp)
          have HPl := Lib.hid hPl32
          have hbpV := Nat.lt_of_lt_of_le hbp3 bW3.size
          have hbtV := Nat.lt_of_lt_of_le hbt4 bW4.size
          have hrp0 := below_range hbV hbpV (below_range bW3 hbp3 hrp3)
          have hct := (hbV.cell (p := ⟨bt, ot + i, none⟩) hbtV).trans ((bW4.cell (p := ⟨bt, ot + i, none⟩) hbt4).trans hct4)
          have hbp0 := Nat.lt_of_lt_of_le hbpV hbV.size
          have hbt := Nat.lt_of_lt_of_le hbtV hbV.size
          have hdP : P.drop i = p :: P.drop (i + 1) := by
            rw [List.drop_eq_getElem_cons (List.getElem?_eq_some_iff.1 hp).1, (List.getElem?_eq_some_iff.1 hp).2]
          have hdT : T.drop i = tb :: T.drop (i + 1) := by
            rw [List.drop_eq_getElem_cons (List.getElem?_eq_some_iff.1 htb).1, (List.getElem?_eq_some_iff.1 htb).2]
          have hst : Tree.fold (Tree.step X p tb) (P.drop (i + 1)) (T.drop (i + 1)) = D := by
            rw [hdP, hdT, fold_cons] at hfo
            exact hfo
          have HStep := Lib.hid hst
          obtain ⟨D2, hD2⟩ : ∃ D2, D2 = Tree.step X p tb := ⟨_, rfl⟩
          have HD2l : Hid (D2.length = 32) := Lib.hid (by rw [hD2]; unfold Tree.step; split <;> exact Tree.node_length _ _)
          rw [← hD2] at hst
          have HSt := Lib.hid hst
          have HBel := Lib.hid hbel
          have HD2 := Lib.hid hD2
          clear hrp3 hct4 hbp3 hbt4 hdP hdT hst hfo hp htb hPl32 hbel HStep hD2 HFo hXl
          go_upto_region 16 with (fail)
          try simp only [Act.put]
          refine wp_region_tab0 [RT.is (.slice (some ⟨bt, ot, none⟩) k ct), RT.is (.int .i64 (i : Int)), RT.is (.pointer (some ⟨bt, ot + i, none⟩)), RT.is (.bool tb)] (by kernel_rfl) (by kernel_rfl) (by kernel_rfl) ⟨?_, ?_, ?_, ?_, trivial⟩ ?_
          · intro ac w' hF hL hP hU K hK
            have hB : Below _ _ _ := hL
            have e10 : ac.eval (.tmp 10) = .slice (some ⟨bt, ot, none⟩) k ct := hF.at 10 (by kernel_rfl)
            exact rop_move _ rfl e10 (wanted_none rfl) (hK _ _ (le8_refl _) rfl)
          · intro ac w' hF hL hP hU K hK
            have hB : Below _ _ _ := hL
            have e12 : ac.eval (.tmp 12) = .int .i64 (i : Int) := hF.at 12 (by kernel_rfl)
            exact rop_move _ rfl e12 (wanted_none rfl) (hK _ _ (le8_refl _) rfl)
          · intro ac w' hF hL hP hU K hK
            have hB : Below _ _ _ := hL
            have e57 : ac.eval (.tmp 57) = .slice (some ⟨bt, ot, none⟩) k ct := hP 0 (by kernel_rfl)
            have e58 : ac.eval (.tmp 58) = .int .i64 (i : Int) := hP 1 (by kernel_rfl)
            exact rop_idx _ _ _ rfl e57 e58 (index_bools bt ot k ct i _ rfl hik w') (wanted_none rfl) (hK _ _ (le8_refl _) rfl)
          · intro ac w' hF hL hP hU K hK
            have hB : Below _ _ _ := hL
            have e59 : ac.eval (.tmp 59) = .pointer (some ⟨bt, ot + i, none⟩) := hP 2 (by kernel_rfl)
            exact rop_ld _ _ rfl e59 (load_boolP ((hB.cell (p := ⟨bt, ot + i, none⟩) hbt).trans hct)) (wanted_none rfl) (hK _ _ (le8_refl _) rfl)
          · intro ac w' hF hB hT
            have e60 : ac.eval (.tmp 60) = .bool tb := hT 3 (by decide)
            rw [hF.setsG [57, 58, 59, 60] (by kernel_rfl)]
            simp only [List.foldl_cons, List.foldl_nil, List.setIfInBounds_toArray, List.set_cons_succ, List.set_cons_zero, e60]
            generalize ac.eval (.tmp 57) = u57
            generalize ac.eval (.tmp 58) = u58
            generalize ac.eval (.tmp 59) = u59
            clear e60 hT hF ac
            obtain ⟨W, hW⟩ : ∃ W, W = w' := ⟨_, rfl⟩
            subst hW
            have hqc := (hB.block q hqW).trans hqc
            have hqW := Nat.lt_of_lt_of_le hqW hB.size
            have hbp := Nat.lt_of_lt_of_le hbp0 hB.size
            have hrp := below_range hB hbp0 hrp0
            have B0 := Lib.hid hB
            clear hB hct hrp0 hbp0 hbV hbt
            cases tb with
            | true =>
              have HN : Hid (∀ u, Calls Tryd.prog 22 #[sumV p, sumV X] u fun e w' => e = .returned (sumV D2) ∧ Below u.heap.size u w') := Lib.hid fun u => by rw [HD2.out]; exact rleafNode_any p X HPl.out HXl.out u
              go_upto_region 17 with (fail)
              try simp only [Act.put]
              refine wp_region_ph (Lx := GLx 2) [RXP.is (.slice (some ⟨bp, op, none⟩) k cp), RXP.is (.int .i64 (i : Int)), RXP.is (.pointer (some ⟨bp, op + i * 32, none⟩)), RXP.is (sumV p), RXP.is (sumV X), RXP.is (sumV D2), RXP.any] [5, 6] (fun k w' => (k < 2 → Below W.heap.size W w') ∧ (k = 2 → ∃ u, Below W.heap.size W u ∧ w' = u.setCells q 0 (D2.map u8V))) (by kernel_rfl) (by kernel_rfl) (by kernel_rfl) (by kernel_rfl) (by kernel_rfl) (⟨fun _ => below_drew (Below.refl _ _), fun h => by cases h⟩) ⟨?_, ?_, ?_, ?_, ?_, ?_, ?_, trivial⟩ ?_
              · intro ac w' ph hF hPh hlt hP hU K hK0
                have e8 : ac.eval (.tmp 8) = .slice (some ⟨bp, op, none⟩) k cp := hF.at 8 (by kernel_rfl)
                exact rop_move _ rfl e8 (wanted_none rfl) (hK0 _ _ GLx.same hPh rfl)
              · intro ac w' ph hF hPh hlt hP hU K hK0
                have e12 : ac.eval (.tmp 12) = .int .i64 (i : Int) := hF.at 12 (by kernel_rfl)
                exact rop_move _ rfl e12 (wanted_none rfl) (hK0 _ _ GLx.same hPh rfl)
              · intro ac w' ph hF hPh hlt hP hU K hK0
                have e61 : ac.eval (.tmp 61) = .slice (some ⟨bp, op, none⟩) k cp := hP 0 (by kernel_rfl)
                have e62 : ac.eval (.tmp 62) = .int .i64 (i : Int) := hP 1 (by kernel_rfl)
                exact rop_idx _ _ _ rfl e61 e62 (index_sums bp op k cp i hik w') (wanted_none rfl) (hK0 _ _ GLx.same hPh rfl)
              · intro ac w' ph hF hPh hlt hP hU K hK0
                have hph : ph ≤ 0 := (hlt 0 5 rfl).2 (by kernel_rfl)
                have e63 : ac.eval (.tmp 63) = .pointer (some ⟨bp, op + i * 32, none⟩) := hP 2 (by kernel_rfl)
                exact rop_ld _ _ rfl e63 (run_loadAt_mid _ _ _ _ _ _ (below_range (hPh.1 (by omega)) hbp hrp) Tryd.underlying35 rfl (sum_info' HPl.out)) (wanted_none rfl) (hK0 _ _ GLx.same hPh rfl)
              · intro ac w' ph hF hPh hlt hP hU K hK0
                have hph : ph ≤ 0 := (hlt 0 5 rfl).2 (by kernel_rfl)
                have e11 : ac.eval (.tmp 11) = .pointer (some ⟨q, 0, none⟩) := hF.at 11 (by kernel_rfl)
                exact rop_ld _ _ rfl e11 (run_loadAt_mid _ _ _ _ _ _ (range_var (((hPh.1 (by omega)).block q hqW).trans hqc)) Tryd.underlying35 rfl (sum_info' HXl.out)) (wanted_none rfl) (hK0 _ _ GLx.same hPh rfl)
              · intro ac w' ph hF hPh hlt hP hU K hK0
                obtain rfl : ph = 0 := (hlt 0 5 rfl).1 rfl
                have e64 : ac.eval (.tmp 64) = sumV p := hP 3 (by kernel_rfl)
                have e65 : ac.eval (.tmp 65) = sumV X := hP 4 (by kernel_rfl)
                have hB : Below W.heap.size W w' := hPh.1 (by decide)
                refine rop_call 22 _ _ rfl #[sumV p, sumV X] (by simp [e64, e65]) (by kernel_rfl) (wanted_none rfl) ?_
                refine (HN.out w').mono ?_
                rintro e w2 ⟨rfl, hb⟩
                exact ⟨_, rfl, hK0 _ _ (GLx.old (by decide) hb) ⟨fun _ => below_step hB (Nat.le_refl _) hb, fun h => by cases h⟩ rfl⟩
              · intro ac w' ph hF hPh hlt hP hU K hK0
                obtain rfl : ph = 1 := (hlt 1 6 rfl).1 rfl
                have e11 : ac.eval (.tmp 11) = .pointer (some ⟨q, 0, none⟩) := hF.at 11 (by kernel_rfl)
                have e66 : ac.eval (.tmp 66) = sumV D2 := hP 5 (by kernel_rfl)
                have hB : Below W.heap.size W w' := hPh.1 (by decide)
                have hz := (hB.block q hqW).trans hqc
                exact rop_storeG _ _ _ rfl e11 e66 (run_storeAt_mid w' q 0 _ _ (sum_thereG hz HXl.out HD2l.out) (sum_info HD2l.out) (sum_one D2)) (wanted_none rfl) (hK0 _ _ (GLx.last rfl) ⟨fun h => absurd h (by decide), fun _ => ⟨w', hB, rfl⟩⟩ trivial)
              · intro ac w' hF hPh hT
                rw [hF.setsG [61, 62, 63, 64, 65, 66] (by kernel_rfl)]
                simp only [List.foldl_cons, List.foldl_nil, List.setIfInBounds_toArray, List.set_cons_succ, List.set_cons_zero]
                generalize ac.eval (.tmp 61) = u61
                generalize ac.eval (.tmp 62) = u62
                generalize ac.eval (.tmp 63) = u63
                generalize ac.eval (.tmp 64) = u64
                generalize ac.eval (.tmp 65) = u65
                generalize ac.eval (.tmp 66) = u66
                clear  hT hF ac
                obtain ⟨u2, hu2, rfl⟩ := hPh.2 rfl
                have hqu : u2.heap[q]? = some (.cells (X.map u8V).toArray 35 (0, 0)) := (hu2.block q hqW).trans hqc
                have bfin := HBel.out.trans ((B0.out.mono (by omega)).trans (hu2.mono (by omega)))
                have hz9 := heap_setCells_allG u2 q X D2 HXl.out HD2l.out hqu
                have bz9 := below_setCells (Nat.le_refl q) (D2.map u8V) 0 u2 bfin
                have Hz9 := Lib.hid hz9
                have Hb9 := Lib.hid bz9
                clear hqu bfin hz9 bz9 hPh
                go_wp2
                exact ⟨⟨i + 1, D2, by simp, by rw [HPK.out]; omega, HD2l.out, HSt.out, Hb9.out, Hz9.out⟩, by simp [intOf]; omega⟩
            | false =>
              have HN : Hid (∀ u, Calls Tryd.prog 22 #[sumV X, sumV p] u fun e w' => e = .returned (sumV D2) ∧ Below u.heap.size u w') := Lib.hid fun u => by rw [HD2.out]; exact rleafNode_any X p HXl.out HPl.out u
              go_upto_region 18 with (fail)
              try simp only [Act.put]
              refine wp_region_ph (Lx := GLx 2) [RXP.is (sumV X), RXP.is (.slice (some ⟨bp, op, none⟩) k cp), RXP.is (.int .i64 (i : Int)), RXP.is (.pointer (some ⟨bp, op + i * 32, none⟩)), RXP.is (sumV p), RXP.is (sumV D2), RXP.any] [5, 6] (fun k w' => (k < 2 → Below W.heap.size W w') ∧ (k = 2 → ∃ u, Below W.heap.size W u ∧ w' = u.setCells q 0 (D2.map u8V))) (by kernel_rfl) (by kernel_rfl) (by kernel_rfl) (by kernel_rfl) (by kernel_rfl) (⟨fun _ => below_drew (Below.refl _ _), fun h => by cases h⟩) ⟨?_, ?_, ?_, ?_, ?_, ?_, ?_, trivial⟩ ?_
              · intro ac w' ph hF hPh hlt hP hU K hK0
                have hph : ph ≤ 0 := (hlt 0 5 rfl).2 (by kernel_rfl)
                have e11 : ac.eval (.tmp 11) = .pointer (some ⟨q, 0, none⟩) := hF.at 11 (by kernel_rfl)
                exact rop_ld _ _ rfl e11 (run_loadAt_mid _ _ _ _ _ _ (range_var (((hPh.1 (by omega)).block q hqW).trans hqc)) Tryd.underlying35 rfl (sum_info' HXl.out)) (wanted_none rfl) (hK0 _ _ GLx.same hPh rfl)
              · intro ac w' ph hF hPh hlt hP hU K hK0
                have e8 : ac.eval (.tmp 8) = .slice (some ⟨bp, op, none⟩) k cp := hF.at 8 (by kernel_rfl)
                exact rop_move _ rfl e8 (wanted_none rfl) (hK0 _ _ GLx.same hPh rfl)
              · intro ac w' ph hF hPh hlt hP hU K hK0
                have e12 : ac.eval (.tmp 12) = .int .i64 (i : Int) := hF.at 12 (by kernel_rfl)
                exact rop_move _ rfl e12 (wanted_none rfl) (hK0 _ _ GLx.same hPh rfl)
              · intro ac w' ph hF hPh hlt hP hU K hK0
                have e68 : ac.eval (.tmp 68) = .slice (some ⟨bp, op, none⟩) k cp := hP 1 (by kernel_rfl)
                have e69 : ac.eval (.tmp 69) = .int .i64 (i : Int) := hP 2 (by kernel_rfl)
                exact rop_idx _ _ _ rfl e68 e69 (index_sums bp op k cp i hik w') (wanted_none rfl) (hK0 _ _ GLx.same hPh rfl)
              · intro ac w' ph hF hPh hlt hP hU K hK0
                have hph : ph ≤ 0 := (hlt 0 5 rfl).2 (by kernel_rfl)
                have e70 : ac.eval (.tmp 70) = .pointer (some ⟨bp, op + i * 32, none⟩) := hP 3 (by kernel_rfl)
                exact rop_ld _ _ rfl e70 (run_loadAt_mid _ _ _ _ _ _ (below_range (hPh.1 (by omega)) hbp hrp) Tryd.underlying35 rfl (sum_info' HPl.out)) (wanted_none rfl) (hK0 _ _ GLx.same hPh rfl)
              · intro ac w' ph hF hPh hlt hP hU K hK0
                obtain rfl : ph = 0 := (hlt 0 5 rfl).1 rfl
                have e67 : ac.eval (.tmp 67) = sumV X := hP 0 (by kernel_rfl)
                have e71 : ac.eval (.tmp 71) = sumV p := hP 4 (by kernel_rfl)
                have hB : Below W.heap.size W w' := hPh.1 (by decide)
                refine rop_call 22 _ _ rfl #[sumV X, sumV p] (by simp [e67, e71]) (by kernel_rfl) (wanted_none rfl) ?_
                refine (HN.out w').mono ?_
                rintro e w2 ⟨rfl, hb⟩
                exact ⟨_, rfl, hK0 _ _ (GLx.old (by decide) hb) ⟨fun _ => below_step hB (Nat.le_refl _) hb, fun h => by cases h⟩ rfl⟩
              · intro ac w' ph hF hPh hlt hP hU K hK0
                obtain rfl : ph = 1 := (hlt 1 6 rfl).1 rfl
                have e11 : ac.eval (.tmp 11) = .pointer (some ⟨q, 0, none⟩) := hF.at 11 (by kernel_rfl)
                have e72 : ac.eval (.tmp 72) = sumV D2 := hP 5 (by kernel_rfl)
                have hB : Below W.heap.size W w' := hPh.1 (by decide)
                have hz := (hB.block q hqW).trans hqc
                exact rop_storeG _ _ _ rfl e11 e72 (run_storeAt_mid w' q 0 _ _ (sum_thereG hz HXl.out HD2l.out) (sum_info HD2l.out) (sum_one D2)) (wanted_none rfl) (hK0 _ _ (GLx.last rfl) ⟨fun h => absurd h (by decide), fun _ => ⟨w', hB, rfl⟩⟩ trivial)
              · intro ac w' hF hPh hT
                rw [hF.setsG [67, 68, 69, 70, 71, 72] (by kernel_rfl)]
                simp only [List.foldl_cons, List.foldl_nil, List.setIfInBounds_toArray, List.set_cons_succ, List.set_cons_zero]
                generalize ac.eval (.tmp 67) = u67
                generalize ac.eval (.tmp 68) = u68
                generalize ac.eval (.tmp 69) = u69
                generalize ac.eval (.tmp 70) = u70
                generalize ac.eval (.tmp 71) = u71
                generalize ac.eval (.tmp 72) = u72
                clear  hT hF ac
                obtain ⟨u2, hu2, rfl⟩ := hPh.2 rfl
                have hqu : u2.heap[q]? = some (.cells (X.map u8V).toArray 35 (0, 0)) := (hu2.block q hqW).trans hqc
                have bfin := HBel.out.trans ((B0.out.mono (by omega)).trans (hu2.mono (by omega)))
                have hz9 := heap_setCells_allG u2 q X D2 HXl.out HD2l.out hqu
                have bz9 := below_setCells (Nat.le_refl q) (D2.map u8V) 0 u2 bfin
                have Hz9 := Lib.hid hz9
                have Hb9 := Lib.hid bz9
                clear hqu bfin hz9 bz9 hPh
                go_wp2
                exact ⟨⟨i + 1, D2, by simp, by rw [HPK.out]; omega, HD2l.out, HSt.out, Hb9.out, Hz9.out⟩, by simp [intOf]; omega⟩
        · have hik' : ¬ (i : Int) < (k : Int) := by omega
          have hXD : X = D := by
            have := HFo.out
            rwa [List.drop_eq_nil_of_le (by rw [HPK.out]; omega), fold_nil] at this
          have HRX : Hid (∀ u : World, Below wr.heap.size wr u → Calls Tryd.prog 23 #[.slice (some ⟨b6, o6, none⟩) n c6] u fun e w' => e = .returned (sumV X) ∧ Below u.heap.size u w') := Lib.hid fun u hu => by
            rw [hXD]
            exact HRT.out _ u (((H6.out.old bW1).old hbV).old hu)
          have bz := below_step b5 (Nat.le_refl _) hbV
          clear hfo hXD
          go_upto_region 19 with (fail)
          try simp only [Act.put]
          refine wp_region_tab [RT.is (.bool true), RT.is (.bool true), RT.is (sumV X), RT.is (.slice (some ⟨b6, o6, none⟩) n c6), RT.is (sumV X), RT.is (.bool true), RT.is (.bool true), RT.is (.bool true)] (by kernel_rfl) (by kernel_rfl) (by kernel_rfl) (by kernel_rfl) ⟨?_, ?_, ?_, ?_, ?_, ?_, ?_, ?_, trivial⟩ ?_
          · intro ac w' hF hL hP hU K hK
            have hB := below_undrew hL
            have e5 : ac.eval (.tmp 5) = .bool true := hF.at 5 (by kernel_rfl)
            exact rop_move _ rfl e5 (wanted_none rfl) (hK _ _ (le8_refl _) rfl)
          · intro ac w' hF hL hP hU K hK
            have hB := below_undrew hL
            have e73 : ac.eval (.tmp 73) = .bool true := hP 0 (by kernel_rfl)
            exact rop_move _ rfl e73 (wanted_none rfl) (hK _ _ (le8_refl _) rfl)
          · intro ac w' hF hL hP hU K hK
            have hB := below_undrew hL
            have e11 : ac.eval (.tmp 11) = .pointer (some ⟨q, 0, none⟩) := hF.at 11 (by kernel_rfl)
            have e74 : ac.eval (.tmp 74) = .bool true := hP 1 (by kernel_rfl)
            exact rop_ld _ _ rfl e11 (run_loadAt_mid _ _ _ _ _ _ (range_var ((hB.block q hqW).trans hqc)) Tryd.underlying35 rfl (sum_info' HXl.out)) (wanted_of (j := 1) (b := true) rfl rfl e74) (hK _ _ (le8_refl _) rfl)
          · intro ac w' hF hL hP hU K hK
            have hB := below_undrew hL
            have e6 : ac.eval (.tmp 6) = .slice (some ⟨b6, o6, none⟩) n c6 := hF.at 6 (by kernel_rfl)
            have e74 : ac.eval (.tmp 74) = .bool true := hP 1 (by kernel_rfl)
            exact rop_move _ rfl e6 (wanted_of (j := 1) (b := true) rfl rfl e74) (hK _ _ (le8_refl _) rfl)
          · intro ac w' hF hL hP hU K hK
            have hB := below_undrew hL
            have e76 : ac.eval (.tmp 76) = .slice (some ⟨b6, o6, none⟩) n c6 := hP 3 (by kernel_rfl)
            have e74 : ac.eval (.tmp 74) = .bool true := hP 1 (by kernel_rfl)
            refine rop_call 23 _ _ rfl #[.slice (some ⟨b6, o6, none⟩) n c6] (by simp [e76]) (by kernel_rfl) (wanted_of (j := 1) (b := true) rfl rfl e74) ?_
            refine (HRX.out w' hB).mono ?_
            rintro e w2 ⟨rfl, hb⟩
            exact ⟨_, rfl, hK _ _ hb rfl⟩
          · intro ac w' hF hL hP hU K hK
            have hB := below_undrew hL
            have e75 : ac.eval (.tmp 75) = sumV X := hP 2 (by kernel_rfl)
            have e77 : ac.eval (.tmp 77) = sumV X := hP 4 (by kernel_rfl)
            have e74 : ac.eval (.tmp 74) = .bool true := hP 1 (by kernel_rfl)
            exact rop_bin _ _ _ _ _ rfl e75 e77 (guard_run .eql _ _ _ _ w') (eql_sum_tt X X HXl.out HXl.out rfl w') (wanted_of (j := 1) (b := true) rfl rfl e74) (hK _ _ (le8_refl _) rfl)
          · intro ac w' hF hL hP hU K hK
            have hB := below_undrew hL
            have e74 : ac.eval (.tmp 74) = .bool true := hP 1 (by kernel_rfl)
            have e78 : ac.eval (.tmp 78) = .bool true := hP 5 (by kernel_rfl)
            exact rop_pick _ _ _ rfl true e74 (by simpa using e78) (wanted_none rfl) (hK _ _ (le8_refl _) rfl)
          · intro ac w' hF hL hP hU K hK
            have hB := below_undrew hL
            have e79 : ac.eval (.tmp 79) = .bool true := hP 6 (by kernel_rfl)
            exact rop_assign _ rfl e79 (wanted_none rfl) (hK _ _ (le8_refl _) rfl)
          · intro ac w' hF hB hT
            have e4 : ac.eval (.tmp 4) = .bool true := hT 7 (by decide)
            rw [hF.setsG [73, 74, 75, 76, 77, 78, 79, 4] (by kernel_rfl)]
            simp only [List.foldl_cons, List.foldl_nil, List.setIfInBounds_toArray, List.set_cons_succ, List.set_cons_zero, e4]
            generalize ac.eval (.tmp 73) = u73
            generalize ac.eval (.tmp 74) = u74
            generalize ac.eval (.tmp 75) = u75
            generalize ac.eval (.tmp 76) = u76
            generalize ac.eval (.tmp 77) = u77
            generalize ac.eval (.tmp 78) = u78
            generalize ac.eval (.tmp 79) = u79
            clear e4 hT hF ac
            go_wp2
            go_ret
            exact ⟨rfl, below_step bz (Nat.le_refl _) hB⟩)

set_option maxRecDepth 100000 in
theorem lifted (os : Os) (started : os.Started) (H : Type) (enc : TypeId × Value → H) :
    ReturnsInHanded {} Tryd.checked os 6 .any (fun w args => (Rows.pathFoldsSpec.pre enc Tryd.prog Tryd.f6 [] false w args ∧ laidMetH Tryd.prog [("scrinium/sha.k", Rows.laid_scrinium_sha_k)] w) ∧ sizedMet enc Tryd.prog Tryd.f6 (OpenSpec.ofChange Rows.pathFoldsSpec) false w args)
      (Rows.pathFoldsSpec.post enc Tryd.prog Tryd.f6 false true false false) := by
  refine returnsInHanded_of_change_and (C := Tryd.checked) (X := fun w _ => laidMetH Tryd.prog [("scrinium/sha.k", Rows.laid_scrinium_sha_k)] w) (fun _ _ _ hh h => h.of_heap hh) lawOwn started (by kernel_rfl) Tryd.func6
    (ChangeSpec.witness_shaped (enc := enc) (C := Tryd.checked) (os := os) (X := fun w _ => laidMetH Tryd.prog [("scrinium/sha.k", Rows.laid_scrinium_sha_k)] w) false (World.doorLaid Tryd.prog 400 os) #[.slice none 0 0, .int .i64 0] 8 rfl (World.shaped_of_RefB (by kernel_rfl) (by kernel_rfl)) (by kernel_rfl) (by kernel_rfl) (by kernel_rfl) (door_met os _)) ?_
  intro W base args ds gs before hval0 hW _ _ hL _
  have hval : ∀ (j : Nat) t v, Tryd.f6.params[j]? = some t → args[j]? = some v → Value.okWide Tryd.prog W .any base t v := hval0
  have hW' := hW
  obtain ⟨p, q, hA0, hV, rfl, hfz, hnd⟩ := hW
  have hA : DataW.TrodAll enc Tryd.prog W 0 (fun _ => true) true Tryd.f6.params.toList args.toList ds p := hA0
  rw [Tryd.params6] at hA hval
  obtain ⟨v0, vs0, d0, ds0, p0, q0, hargs, rfl, rfl, h0, r0⟩ := trodAll_cons hA
  obtain ⟨v1, vs1, d1, ds1, p1, q1, rfl, rfl, rfl, h1, r1⟩ := trodAll_cons r0
  obtain ⟨rfl, rfl, rfl⟩ := trodAll_nil r1
  obtain rfl : args = #[v0, v1] := by cases args; simp_all
  obtain ⟨rfl, rfl⟩ := trodVars_none hV
  have hKT := KT_of_laid hL
  obtain ⟨a0, len0, cap0, rfl⟩ := okWide_slice Tryd.underlying22 (hval 0 22 v0 rfl rfl)
  obtain ⟨l0, w0⟩ := sums_of h0
  obtain ⟨a1, rfl, rfl, rfl, w1⟩ := open_int Tryd.underlying3 (hval 1 3 v1 rfl rfl) h1
  clear hA0 hval0
  obtain ⟨l1, m1⟩ := i64_bounds w1
  refine (walk (w := W) hKT _ l0 w0 a1 l1 m1).mono fun e W' ⟨he, bel⟩ => ?_
  subst he
  exact ⟨_, rfl, law_post rfl rfl (by kernel_rfl) hW' rfl bel⟩

theorem row_holds : Rows.PathFoldsSaid :=
  OpenClaim.holds_of_wide 6 Tryd.f6 rfl rfl rfl rfl rfl rfl rfl ⟨rfl, rfl, rfl, rfl, rfl⟩ rfl rfl rfl rfl rfl (by kernel_rfl) Tryd.func6 (by kernel_rfl)
    (of_decide_eq_true (by kernel_rfl)) (by unfold Func.isWrapper; first | (rw [if_pos (by decide +kernel)]; kernel_rfl) | (rw [if_neg (by decide +kernel)]; exact ⟨rfl, rfl⟩))
    (fun os started H enc _ => lifted os started H enc)

theorem holds : Rows.PathFoldsCardSaid :=
  Claim7.holds_tied_plain_at .later [] [.data] true Rows.pathFoldsCard.stood.harness false
    row_holds (fun _ h => by cases h) (by kernel_rfl) (fun _ h => by cases h) pathFolds_row_tie rfl ⟨rfl, rfl⟩ (by kernel_rfl) rfl
    (fun f fn hf hfn => by
      obtain rfl : f = 6 := Option.some.inj ((show Tryd.prog.funcNamed "scrinium/scriniumlaw10.PathFolds" = some 6 by kernel_rfl).symm.trans hf) |>.symm
      obtain rfl : fn = Tryd.f6 := (Option.some.inj (Tryd.func6.symm.trans hfn)).symm
      exact ⟨by kernel_rfl, fun j t ht => by
        rw [Tryd.params6] at ht
        have hm : t ∈ [22, 3] := by simpa using Array.mem_of_getElem? ht
        have hall : ([22, 3].all fun u => !Tryd.prog.wantsStandIn u) = true := by kernel_rfl
        exact (show Tryd.prog.wantsStandIn t = false by simpa using List.all_eq_true.1 hall t hm)⟩)
    (by kernel_rfl)
end Go.Proofs.YtagocdcclghdaaaDoor.pathFolds

theorem Go.Proofs.YtagocdcclghdaaaDoor.pathFolds_holds : Go.Proofs.YtagocdcclghdaaaDoor.Rows.PathFoldsCardSaid := Go.Proofs.YtagocdcclghdaaaDoor.pathFolds.holds
#print axioms Go.Proofs.YtagocdcclghdaaaDoor.pathFolds_holds
