/-
  ShardGives: each record is told as it was added, till the shard is pruned; then none is, however few payloads are stripped, and those that are left are the first ones. For all calls (the first 12 of them, of longer texts the first 60 bytes) and all numbers of strips (the first 5); the numbers K of the package sha are as the program's own start lays them.
-/
import Derived.Test.YtollcdalokhjaaaDoorMShdD
namespace Go.Proofs.YtollcdalokhjaaaDoor.shardGives
open Go.ChangeShapes Go.WideShapes Go.ChangeAt Go.RowKit

def RT.rowsR (l : List RecR) : RT := ⟨fun v w => RowR w v l, fun _ _ _ h k => h.old k⟩
/-- A shard that was pruned, of whose rows k are left. -/
def cutX (X : ShR) (t : StR) (k : Nat) : ShR := ⟨X.win, 2, X.lvs, X.rows.take k, t⟩
theorem strip_cut {S : Nat → Prop} {b : Nat} {X : ShR} {t : StR} {k : Nat} {u : World} (h : Shd S b (cutX X t k) u) (hk : k ≤ X.rows.length) (z : Int) (L : Nat) (hL : L = k - z.toNat) :
    Calls Tryd.prog 22 #[.pointer (some ⟨b, 0, none⟩), .int .i64 z] u fun e w' => e = .returned (.int .i64 (L : Int)) ∧ Shd S b (cutX X t L) w' ∧ OnlyS S u w' := by
  have hl : (cutX X t k).rows.length = k := by show (X.rows.take k).length = k; rw [List.length_take]; omega
  have := shStrip_any h rfl z
  rw [hl] at this
  have e : stripK k z = L := by rw [hL]; rfl
  rw [e] at this
  have e2 : (cutX X t k).rows.take L = X.rows.take L := by show (X.rows.take k).take L = X.rows.take L; rw [List.take_take, Nat.min_eq_left (by omega)]
  rw [e2] at this
  exact this
set_option maxHeartbeats 25600000 in
set_option maxRecDepth 100000 in
theorem walk {w : World} (hK : KT w) (v : Value) (l : List RecR) (hv : RowR w v l) (_hl : ∀ r ∈ l, RecOk r) (sv : Value) (zs : List Int) (zb : Nat) (hz : Ints w sv zs zb) (hzb : zb < w.heap.size ∨ zs = []) :
    Calls Tryd.prog 4 #[v, sv] w fun e w' => e = .returned (.bool true) ∧ Below w.heap.size w w' := by
  have HAW := Lib.hid (awake17_any w hK)
  have HGR : Hid (∀ u, Below w.heap.size w u → Calls Tryd.prog 9 #[.int .i64 9, v] u fun e w' => e = .returned (.pointer (some ⟨u.heap.size, 0, none⟩)) ∧ Shd (fun j => u.heap.size ≤ j) u.heap.size (grX 9 l (min 12 l.length)) w' ∧ Below u.heap.size u w') := Lib.hid fun u hu => grown_any 9 v l u (hv.old hu) (hK.old hu)
  obtain ⟨m, hm⟩ : ∃ m, m = min 12 l.length := ⟨_, rfl⟩
  have hm12 : m ≤ 12 := by omega
  obtain ⟨X, hX⟩ : ∃ X, X = grX 9 l m := ⟨_, rfl⟩
  rw [← hm, ← hX] at HGR
  have hlv : X.lvs.length = m := by rw [hX]; exact gr_lvs 9 l m
  have hrl : X.rows.length = m := by rw [hX]; exact gr_length 9 l m
  have hst : X.st = 0 := by rw [hX]; rfl
  have hwn : X.win = 9 := by rw [hX]; rfl
  have h32 : all32 X.lvs := by rw [hX]; exact gr_all32 9 l m
  have hrow : ∀ j, j < m → X.rows[j]? = some (grR 9 j (l.getD j rec0)) := fun j hj => by rw [hX]; exact gr_get 9 l m j hj
  obtain ⟨a, cap, rfl⟩ := hv.slice
  obtain ⟨n, hn⟩ : ∃ n, n = l.length := ⟨_, rfl⟩
  have hmn : m ≤ n := by omega
  rw [← hn] at hv HGR ⊢
  obtain ⟨za, zc, rfl, hzc, hzs⟩ := hz
  obtain ⟨zn, hzn⟩ : ∃ n, n = zs.length := ⟨_, rfl⟩
  rw [← hzn]
  have HZS := Lib.hid hzs
  have HZB := Lib.hid hzb
  have HZN := Lib.hid hzn
  have HV := Lib.hid hv
  have HN := Lib.hid hn
  have HLV := Lib.hid hlv
  have HRL := Lib.hid hrl
  have HST := Lib.hid hst
  have HWN := Lib.hid hwn
  have H32 := Lib.hid h32
  have HROW := Lib.hid hrow
  have HKW := Lib.hid hK
  have HIR : Hid ((Tryd.prog.info? 55).map (·.size) = some 4) := Lib.hid (size_of info_rec4)
  have HIF : Hid ((Tryd.prog.info? 44).map (·.size) = some 34) := Lib.hid (size_of info_fz)
  clear hm hX hlv hrl hst hwn h32 hrow hn hzn hzc hzs hzb hK hv _hl
  go_enter Tryd.func4, Tryd.ntmps4
  go_upto_region 5 with (first
    | (go_at_call 8; (refine HAW.out.mono ?_; rintro e w1 ⟨rfl, b1⟩))
    | (go_at_call 9; (refine (HGR.out _ b1).mono ?_; rintro e w2 ⟨rfl, hs2, b2⟩)))
  obtain ⟨B, hB⟩ : ∃ B, B = w1.heap.size := ⟨_, rfl⟩
  rw [← hB] at hs2
  obtain ⟨W2, hW2⟩ : ∃ u, u = w2 := ⟨_, rfl⟩
  rw [← hW2, ← hB]
  rw [← hW2] at hs2 b2
  have hb2 : Below w.heap.size w W2 := below_step b1 (Nat.le_refl _) b2
  have hwB : w.heap.size ≤ B := by rw [hB]; exact b1.size
  have hst2 := hs2.tight
  obtain ⟨S, hS⟩ : ∃ S : Nat → Prop, S = fun k => B ≤ k ∧ k < W2.heap.size := ⟨_, rfl⟩
  have HSW : Hid (∀ k, S k → w.heap.size ≤ k) := Lib.hid fun k hk => by rw [hS] at hk; have h1 := b1.size; have h2 := hk.1; omega
  have HSL : Hid (∀ k, S k → k < W2.heap.size) := Lib.hid fun k hk => by rw [hS] at hk; exact hk.2
  have HS2 : Hid (Shd S B X W2) := Lib.hid (by rw [hS]; exact hst2)
  have HB2 := Lib.hid hb2
  have HWB := Lib.hid hwB
  clear hs2 b1 b2 hB hW2 hb2 hwB hst2 hS HAW HGR
  have HCN : Hid (Calls Tryd.prog 10 #[.pointer (some ⟨B, 0, none⟩)] W2 fun e w' => e = .returned (.int .i64 (m : Int)) ∧ W2 = w') := Lib.hid (by have := shCount_any HS2.out; rwa [HLV.out] at this)
  go_upto_region 7 with (go_at_call 10; (refine HCN.out.mono ?_; rintro e w3 ⟨rfl, rfl⟩))
  clear HCN
  go_loopw [8, 9, 10, 11] (fun s8 _ _ _ wr => ∃ j : Nat, j ≤ m ∧ s8 = .int .i64 j ∧ Below W2.heap.size W2 wr) (fun s8 _ _ _ _ => 12 - (intOf s8).toNat)
  case atStart => exact ⟨0, by omega, rfl, Below.refl _ _⟩
  case round =>
    obtain ⟨j, hjm, rfl, hb⟩ := hrel
    by_cases hc : j < m
    · have hc1 : (j : Int) < (m : Int) := by omega
      have hw1 := IntWalk.i64_in ((j : Int) + 1) (by omega)
      have hjn : j < n := by omega
      obtain ⟨r, hr⟩ : ∃ r, l[j]? = some r := ⟨l[j]'(by rw [← HN.out]; exact hjn), List.getElem?_eq_getElem _⟩
      have hrd : l.getD j rec0 = r := by rw [List.getD_eq_getElem?_getD, hr]; rfl
      obtain ⟨b0, off, rfl, hbl0, _, c1, _, c3⟩ := HV.out.at j r hr
      have hbw : Below w.heap.size w wr := below_step HB2.out (Nat.le_refl _) hb
      replace c1 := (hbw.cell (p := ⟨b0, _, none⟩) hbl0).trans c1
      replace c3 := (hbw.cell (p := ⟨b0, _, none⟩) hbl0).trans c3
      have hgt := HROW.out j hc
      rw [hrd] at hgt
      obtain ⟨knd, idx, mor, pay⟩ := r
      simp only at c1 c3
      unfold grR at hgt
      simp only at hgt
      obtain ⟨P, hP⟩ : ∃ P, P = shortB pay 60 := ⟨_, rfl⟩
      obtain ⟨tm, htm⟩ : ∃ tm, tm = idx % 1024 := ⟨_, rfl⟩
      rw [← hP, ← htm] at hgt
      have HSH : Hid (∀ u, Calls Tryd.prog 16 #[.string pay, .int .i64 60] u fun e w' => e = .returned (.string P) ∧ u = w') := Lib.hid fun u => by rw [hP]; exact short17_any pay 60 60 rfl u
      have HAND : Hid (∀ u, (binOp .and 3 (.int .i64 idx) (.int .i64 1023)).run Tryd.prog u = .ok (.int .i64 tm) u) := Lib.hid fun u => by
        have hq : bits .and .i64 idx 1023 = tm := by rw [htm]; exact and_maskL idx 10 1023 (by decide) (by decide)
        clear hgt hP htm c1 c3
        go_simp
      have HGE := Lib.hid (shGet_any (HS2.out.old hb) (by rw [HST.out]; decide) j _ hgt)
      have HBW := Lib.hid hb
      have hbl1 : b0 < wr.heap.size := Nat.lt_of_lt_of_le hbl0 hbw.size
      obtain ⟨G, hG⟩ : ∃ G : RecR, G = ⟨9, j, tm, P⟩ := ⟨_, rfl⟩
      rw [← hG] at HGE
      have HG := Lib.hid hG
      have C1 := Lib.hid c1
      have C3 := Lib.hid c3
      clear hr hrd hP htm hbw hgt hb hG c1 c3 hbl0
      go_upto_region 10 with (first
        | (go_at_call 23; (refine HGE.out.mono ?_; rintro e w4 ⟨rfl, b4⟩))
        | refine wpList_store_mid (w := w4.alloc (.cells (recCs rec0).toArray 55)) rfl 55 (.tmp 9) (.tmp 37) rfl w4.heap.size 0 (recCs G).toArray rfl rfl (Blk.there (Blk.alloc w4 55 (recCs rec0)) (Nat.le_refl 4)) HIR.out one_rec ?_)
      obtain ⟨y, hy0⟩ : ∃ x, x = w4.heap.size := ⟨_, rfl⟩
      obtain ⟨V, hV⟩ : ∃ u, u = (w4.alloc (.cells (recCs rec0).toArray 55)).setCells w4.heap.size 0 (recCs G) := ⟨_, rfl⟩
      change Code.wp _ _ _ _ ((w4.alloc (.cells (recCs rec0).toArray 55)).setCells w4.heap.size 0 (recCs G))
      rw [← hV, ← hy0]
      have c4 : Below w4.heap.size w4 V := by rw [hV]; exact below_setCells (Nat.le_refl _) _ _ _ (below_boxS _ _)
      have hy1 : Blk y 55 (recCs G) V := by rw [hV, hy0]; exact Blk.setAll (Blk.alloc w4 55 (recCs rec0)) rfl
      rw [HG.out] at hy1
      have hy : RecAt y 9 j tm P V := hy1
      have dV := below_step b4 (Nat.le_refl _) c4
      have hbl : b0 < V.heap.size := Nat.lt_of_lt_of_le hbl1 dV.size
      have c1 := (dV.cell (p := ⟨b0, _, none⟩) hbl1).trans C1.out
      have c3 := (dV.cell (p := ⟨b0, _, none⟩) hbl1).trans C3.out
      have HBV := Lib.hid (below_step HBW.out (Nat.le_refl _) dV)
      obtain ⟨q, hq0⟩ : ∃ q, q = V.heap.size := ⟨_, rfl⟩
      have HQ := Lib.hid hq0
      clear hV hy0 b4 c4 hy1 dV hq0 hbl1 HGE HBW
      try simp only [Act.put]
      refine wp_region_ph (Lx := GLx 2) [RXP.is (.int .i64 (j : Int)), RXP.is (.slice (some ⟨b0, off, none⟩) n cap), RXP.is (.int .i64 (j : Int)), RXP.is (.pointer (some ⟨b0, off + j * 4, none⟩)), RXP.is (.pointer (some ⟨b0, off + j * 4 + 1, none⟩)), RXP.is (.int .i64 idx), RXP.is (.int .i64 tm), RXP.is (.slice (some ⟨b0, off, none⟩) n cap), RXP.is (.int .i64 (j : Int)), RXP.is (.pointer (some ⟨b0, off + j * 4, none⟩)), RXP.is (.pointer (some ⟨b0, off + j * 4 + 3, none⟩)), RXP.is (.string pay), RXP.is (.string P), RXP.is (.agg #[.int .i64 9, .int .i64 (j : Int), .int .i64 tm, .string P]), RXP.is (.pointer (some ⟨q, 0, none⟩)), RXP.any] [14, 15] (fun k w' => Below V.heap.size V w' ∧ (k = 0 → w'.heap.size = q) ∧ (k = 1 → RecAt q 0 0 0 ⟨#[]⟩ w') ∧ (k = 2 → RecAt q 9 j tm P w')) (by kernel_rfl) (by kernel_rfl) (by kernel_rfl) (by kernel_rfl) (by kernel_rfl) (⟨below_drew (Below.refl _ _), fun _ => HQ.out.symm, (fun h => absurd h (by decide)), (fun h => absurd h (by decide))⟩) ⟨?_, ?_, ?_, ?_, ?_, ?_, ?_, ?_, ?_, ?_, ?_, ?_, ?_, ?_, ?_, ?_, trivial⟩ ?_
      · intro ac w' ph hF hPh hlt hP hU K hK0
        have e8 : ac.eval (.tmp 8) = .int .i64 (j : Int) := hF.at 8 (by kernel_rfl)
        exact rop_move _ rfl e8 (wanted_none rfl) (hK0 _ _ GLx.same hPh rfl)
      · intro ac w' ph hF hPh hlt hP hU K hK0
        have e0 : ac.eval (.tmp 0) = .slice (some ⟨b0, off, none⟩) n cap := hF.at 0 (by kernel_rfl)
        exact rop_move _ rfl e0 (wanted_none rfl) (hK0 _ _ GLx.same hPh rfl)
      · intro ac w' ph hF hPh hlt hP hU K hK0
        have e8 : ac.eval (.tmp 8) = .int .i64 (j : Int) := hF.at 8 (by kernel_rfl)
        exact rop_move _ rfl e8 (wanted_none rfl) (hK0 _ _ GLx.same hPh rfl)
      · intro ac w' ph hF hPh hlt hP hU K hK0
        have e40 : ac.eval (.tmp 40) = .slice (some ⟨b0, off, none⟩) n cap := hP 1 (by kernel_rfl)
        have e41 : ac.eval (.tmp 41) = .int .i64 (j : Int) := hP 2 (by kernel_rfl)
        exact rop_idx _ _ _ rfl e40 e41 (index_op b0 off n cap j hjn w') (wanted_none rfl) (hK0 _ _ GLx.same hPh rfl)
      · intro ac w' ph hF hPh hlt hP hU K hK0
        have e42 : ac.eval (.tmp 42) = .pointer (some ⟨b0, off + j * 4, none⟩) := hP 3 (by kernel_rfl)
        exact rop_fld _ _ _ rfl e42 ((opFld b0 (off + j * 4) _).2.1) (wanted_none rfl) (hK0 _ _ GLx.same hPh rfl)
      · intro ac w' ph hF hPh hlt hP hU K hK0
        have e43 : ac.eval (.tmp 43) = .pointer (some ⟨b0, off + j * 4 + 1, none⟩) := hP 4 (by kernel_rfl)
        exact rop_ld _ _ rfl e43 (load_intR ((hPh.1.cell (p := ⟨b0, _, none⟩) hbl).trans c1)) (wanted_none rfl) (hK0 _ _ GLx.same hPh rfl)
      · intro ac w' ph hF hPh hlt hP hU K hK0
        have e44 : ac.eval (.tmp 44) = .int .i64 idx := hP 5 (by kernel_rfl)
        exact rop_bin _ _ _ _ _ rfl e44 rfl (guard_int _ _ _ _ _ _ _ w') (HAND.out w') (wanted_none rfl) (hK0 _ _ GLx.same hPh rfl)
      · intro ac w' ph hF hPh hlt hP hU K hK0
        have e0 : ac.eval (.tmp 0) = .slice (some ⟨b0, off, none⟩) n cap := hF.at 0 (by kernel_rfl)
        exact rop_move _ rfl e0 (wanted_none rfl) (hK0 _ _ GLx.same hPh rfl)
      · intro ac w' ph hF hPh hlt hP hU K hK0
        have e8 : ac.eval (.tmp 8) = .int .i64 (j : Int) := hF.at 8 (by kernel_rfl)
        exact rop_move _ rfl e8 (wanted_none rfl) (hK0 _ _ GLx.same hPh rfl)
      · intro ac w' ph hF hPh hlt hP hU K hK0
        have e46 : ac.eval (.tmp 46) = .slice (some ⟨b0, off, none⟩) n cap := hP 7 (by kernel_rfl)
        have e47 : ac.eval (.tmp 47) = .int .i64 (j : Int) := hP 8 (by kernel_rfl)
        exact rop_idx _ _ _ rfl e46 e47 (index_op b0 off n cap j hjn w') (wanted_none rfl) (hK0 _ _ GLx.same hPh rfl)
      · intro ac w' ph hF hPh hlt hP hU K hK0
        have e48 : ac.eval (.tmp 48) = .pointer (some ⟨b0, off + j * 4, none⟩) := hP 9 (by kernel_rfl)
        exact rop_fld _ _ _ rfl e48 ((opFld b0 (off + j * 4) _).2.2.2) (wanted_none rfl) (hK0 _ _ GLx.same hPh rfl)
      · intro ac w' ph hF hPh hlt hP hU K hK0
        have e49 : ac.eval (.tmp 49) = .pointer (some ⟨b0, off + j * 4 + 3, none⟩) := hP 10 (by kernel_rfl)
        exact rop_ld _ _ rfl e49 (load_strR ((hPh.1.cell (p := ⟨b0, _, none⟩) hbl).trans c3)) (wanted_none rfl) (hK0 _ _ GLx.same hPh rfl)
      · intro ac w' ph hF hPh hlt hP hU K hK0
        have e50 : ac.eval (.tmp 50) = .string pay := hP 11 (by kernel_rfl)
        refine rop_call 16 _ _ rfl #[.string pay, .int .i64 60] (by simp [e50, eval_const]) (by kernel_rfl) (wanted_none rfl) ?_
        refine (HSH.out w').mono ?_
        rintro e w2 ⟨rfl, rfl⟩
        exact ⟨_, rfl, hK0 _ _ GLx.same hPh rfl⟩
      · intro ac w' ph hF hPh hlt hP hU K hK0
        have e39 : ac.eval (.tmp 39) = .int .i64 (j : Int) := hP 0 (by kernel_rfl)
        have e45 : ac.eval (.tmp 45) = .int .i64 tm := hP 6 (by kernel_rfl)
        have e51 : ac.eval (.tmp 51) = .string P := hP 12 (by kernel_rfl)
        exact rop_buildR _ _ rfl _ (by simp [e39, e45, e51, eval_const]) (built_rec4 9 j tm P) (wanted_none rfl) (hK0 _ _ GLx.same hPh rfl)
      · intro ac w' ph hF hPh hlt hP hU K hK0
        obtain rfl : ph = 0 := (hlt 0 14 rfl).1 rfl
        have hsz : w'.heap.size = q := (hPh.2.1 rfl)
        have hve : Value.pointer (some ⟨w'.heap.size, 0, none⟩) = .pointer (some ⟨q, 0, none⟩) := by rw [hsz]
        refine rop_allocA _ rfl (alloc_recA w') (wanted_none rfl) ?_
        exact hK0 _ _ (GLx.old (by decide) (below_box' _ _)) ⟨hPh.1.alloc (by rw [hsz]; exact Nat.le_of_eq HQ.out.symm) _, (fun h => absurd h (by decide)), fun _ => by rw [← hsz]; exact RecAt.alloc w' 0 0 0 ⟨#[]⟩, fun h => absurd h (by decide)⟩ hve
      · intro ac w' ph hF hPh hlt hP hU K hK0
        obtain rfl : ph = 1 := (hlt 1 15 rfl).1 rfl
        have e11 : ac.eval (.tmp 11) = .pointer (some ⟨q, 0, none⟩) := hP 14 (by kernel_rfl)
        have e52 : ac.eval (.tmp 52) = .agg #[.int .i64 9, .int .i64 (j : Int), .int .i64 tm, .string P] := hP 13 (by kernel_rfl)
        have hz : RecAt q 0 0 0 ⟨#[]⟩ w' := hPh.2.2.1 rfl
        exact rop_storeG _ _ _ rfl e11 e52 (store_recA hz 9 j tm P) (wanted_none rfl) (hK0 _ _ (GLx.last rfl) ⟨below_setCells (Nat.le_of_eq HQ.out.symm) _ _ _ hPh.1, (fun h => absurd h (by decide)), (fun h => absurd h (by decide)), fun _ => set_recA hz 9 j tm P⟩ trivial)
      · intro ac w' hF hPh hT
        have e11 : ac.eval (.tmp 11) = .pointer (some ⟨q, 0, none⟩) := hT 14 (by decide)
        rw [hF.setsG [39, 40, 41, 42, 43, 44, 45, 46, 47, 48, 49, 50, 51, 52, 11] (by kernel_rfl)]
        simp only [List.foldl_cons, List.foldl_nil, List.setIfInBounds_toArray, List.set_cons_succ, List.set_cons_zero, e11]
        generalize ac.eval (.tmp 39) = u39
        generalize ac.eval (.tmp 40) = u40
        generalize ac.eval (.tmp 41) = u41
        generalize ac.eval (.tmp 42) = u42
        generalize ac.eval (.tmp 43) = u43
        generalize ac.eval (.tmp 44) = u44
        generalize ac.eval (.tmp 45) = u45
        generalize ac.eval (.tmp 46) = u46
        generalize ac.eval (.tmp 47) = u47
        generalize ac.eval (.tmp 48) = u48
        generalize ac.eval (.tmp 49) = u49
        generalize ac.eval (.tmp 50) = u50
        generalize ac.eval (.tmp 51) = u51
        generalize ac.eval (.tmp 52) = u52
        clear e11 hT hF ac
        have hq := hPh.2.2.2 rfl
        have hbn := hPh.1
        obtain ⟨V2, hV2⟩ : ∃ u, u = w' := ⟨_, rfl⟩
        subst hV2
        replace hy := hy.old hbn hy.lt
        replace HBV := Lib.hid (below_step HBV.out (Nat.le_refl _) hbn)
        clear hPh hbn c1 c3 HSH HAND C1 C3 HQ
        go_upto_region 11 with fail
        try simp only [Act.put]
        refine wp_region_tab0 [RT.is (.int .i64 0), RT.is (.bool false), RT.is (.bool false), RT.is (.agg #[.int .i64 9, .int .i64 (j : Int), .int .i64 tm, .string P]), RT.is (.agg #[.int .i64 9, .int .i64 (j : Int), .int .i64 tm, .string P]), RT.is (.bool false), RT.is (.bool false)] (by kernel_rfl) (by kernel_rfl) (by kernel_rfl) ⟨?_, ?_, ?_, ?_, ?_, ?_, ?_, trivial⟩ ?_
        · intro ac w' hF hL hP hU K hK
          have hB : Below _ _ _ := hL
          have e10 : ac.eval (.tmp 10) = .int .i64 0 := hF.at 10 (by kernel_rfl)
          exact rop_move _ rfl e10 (wanted_none rfl) (hK _ _ (le8_refl _) rfl)
        · intro ac w' hF hL hP hU K hK
          have hB : Below _ _ _ := hL
          have e53 : ac.eval (.tmp 53) = .int .i64 0 := hP 0 (by kernel_rfl)
          exact rop_bin _ _ _ _ _ rfl e53 rfl (guard_int _ _ _ _ _ _ _ w') (neq_errS 0 w') (wanted_none rfl) (hK _ _ (le8_refl _) rfl)
        · intro ac w' hF hL hP hU K hK
          have hB : Below _ _ _ := hL
          have e54 : ac.eval (.tmp 54) = .bool false := hP 1 (by kernel_rfl)
          exact rop_move _ rfl e54 (wanted_none rfl) (hK _ _ (le8_refl _) rfl)
        · intro ac w' hF hL hP hU K hK
          have hB : Below _ _ _ := hL
          have e9 : ac.eval (.tmp 9) = .pointer (some ⟨y, 0, none⟩) := hF.at 9 (by kernel_rfl)
          have e55 : ac.eval (.tmp 55) = .bool false := hP 2 (by kernel_rfl)
          exact rop_ld _ _ rfl e9 ((hy.old hB hy.lt).load) (wanted_of (j := 2) (b := false) rfl rfl e55) (hK _ _ (le8_refl _) rfl)
        · intro ac w' hF hL hP hU K hK
          have hB : Below _ _ _ := hL
          have e11 : ac.eval (.tmp 11) = .pointer (some ⟨q, 0, none⟩) := hF.at 11 (by kernel_rfl)
          have e55 : ac.eval (.tmp 55) = .bool false := hP 2 (by kernel_rfl)
          exact rop_ld _ _ rfl e11 ((hq.old hB hq.lt).load) (wanted_of (j := 2) (b := false) rfl rfl e55) (hK _ _ (le8_refl _) rfl)
        · intro ac w' hF hL hP hU K hK
          have hB : Below _ _ _ := hL
          have e56 : ac.eval (.tmp 56) = .agg #[.int .i64 9, .int .i64 (j : Int), .int .i64 tm, .string P] := hP 3 (by kernel_rfl)
          have e57 : ac.eval (.tmp 57) = .agg #[.int .i64 9, .int .i64 (j : Int), .int .i64 tm, .string P] := hP 4 (by kernel_rfl)
          have e55 : ac.eval (.tmp 55) = .bool false := hP 2 (by kernel_rfl)
          exact rop_bin _ _ _ _ _ rfl e56 e57 (guard_rec _ _ _ _ _ w') (neq_rec_f 9 j tm P w') (wanted_of (j := 2) (b := false) rfl rfl e55) (hK _ _ (le8_refl _) rfl)
        · intro ac w' hF hL hP hU K hK
          have hB : Below _ _ _ := hL
          have e55 : ac.eval (.tmp 55) = .bool false := hP 2 (by kernel_rfl)
          have e58 : ac.eval (.tmp 58) = .bool false := hP 5 (by kernel_rfl)
          exact rop_pick _ _ _ rfl false e55 (by simpa using e58) (wanted_none rfl) (hK _ _ (le8_refl _) rfl)
        · intro ac w' hF hB hT
          have e59 : ac.eval (.tmp 59) = .bool false := hT 6 (by decide)
          rw [hF.setsG [53, 54, 55, 56, 57, 58, 59] (by kernel_rfl)]
          simp only [List.foldl_cons, List.foldl_nil, List.setIfInBounds_toArray, List.set_cons_succ, List.set_cons_zero, e59]
          generalize ac.eval (.tmp 53) = u53
          generalize ac.eval (.tmp 54) = u54
          generalize ac.eval (.tmp 55) = u55
          generalize ac.eval (.tmp 56) = u56
          generalize ac.eval (.tmp 57) = u57
          generalize ac.eval (.tmp 58) = u58
          clear e59 hT hF ac
          have hbr := below_step HBV.out (Nat.le_refl _) hB
          clear hB hy hq
          go_wp2
          go_roundw
          case rel => exact ⟨j + 1, by omega, by go_num, hbr⟩
          case measure => simp [intOf]; omega
    · have hc1 : ¬ (j : Int) < (m : Int) := by omega
      have HBR := Lib.hid (below_step HB2.out (Nat.le_refl _) hb)
      have HSR := Lib.hid (HS2.out.old hb)
      have HLR : Hid (W2.heap.size ≤ wr.heap.size) := Lib.hid hb.size
      rcases Nat.eq_zero_or_pos m with h0 | h0
      · subst h0
        clear hb HS2
        go_wp2
        go_ret
        exact ⟨rfl, HBR.out⟩
      · have hm0 : ¬ (m : Int) = 0 := by omega
        have hm0b : ((m : Int) == 0) = false := by simpa using hm0
        obtain ⟨W4, hW4⟩ : ∃ u, u = wr := ⟨_, rfl⟩
        rw [← hW4] at HBR HSR HLR
        have HNT : Hid (Calls Tryd.prog 22 #[.pointer (some ⟨B, 0, none⟩), .int .i64 3] W4 fun e w' => e = .returned (.int .i64 (m : Int)) ∧ W4 = w') := Lib.hid (by have := shStrip_not HSR.out (by rw [HST.out]; decide) 3; rwa [HRL.out] at this)
        have HRO := Lib.hid (shRows_any HSR.out)
        have h4s : W4.heap.size = wr.heap.size := by rw [hW4]
        clear hb HS2 hc
        go_upto_region 13 with fail
        rw [← hW4]
        clear hW4 h4s
        go_upto_region 16 with (first
          | (go_at_call 22; (refine HNT.out.mono ?_; rintro e w5 ⟨rfl, rfl⟩))
          | (go_at_call 24; (refine HRO.out.mono ?_; rintro e w5 ⟨v12, rfl, ho5, b5⟩)))
        obtain ⟨W5, hW5⟩ : ∃ u, u = w5 := ⟨_, rfl⟩
        subst hW5
        obtain ⟨G, hG⟩ : ∃ G, G = shFz X := ⟨_, rfl⟩
        have hGw : G.win = 9 := by rw [hG]; exact HWN.out
        have hGc : G.cnt = (m : Int) := by rw [hG]; show (X.lvs.length : Int) = m; rw [HLV.out]
        have hGr : G.root.length = 32 := by rw [hG]; exact shFz_root H32.out
        have hokG : FzOk G := ⟨by rw [hGw]; unfold i64R; decide, by rw [hGc]; unfold i64R; omega, hGr⟩
        have hs5 := HSR.out.old b5
        have hb5 := below_step HBR.out (Nat.le_refl _) b5
        have HCL := Lib.hid (shClose_ok hs5 HST.out (fun e => by have := HLV.out; rw [e] at this; simp at this; omega) (HKW.out.old hb5))
        rw [← hG] at HCL
        obtain ⟨X2, hX2⟩ : ∃ Y : ShR, Y = ⟨X.win, 1, X.lvs, X.rows, X.stn⟩ := ⟨_, rfl⟩
        rw [← hX2] at HCL
        obtain ⟨T, hT⟩ : ∃ T, T = stMk [] G 0 := ⟨_, rfl⟩
        have hTo : StOk T := by rw [hT]; exact stMk_okA _ _ _ hokG (by unfold i64R; decide)
        have HSN : Hid (∀ u, Calls Tryd.prog 21 #[.string ⟨#[]⟩, .agg (fzCs G).toArray, .int .i64 0] u fun e w' => e = .returned (.agg (stCs T).toArray) ∧ Below u.heap.size u w') := Lib.hid fun u => by rw [hT]; exact rstMake_any ⟨#[]⟩ (by decide) G hGr 0 u
        have HPR : Hid (∀ u, Shd S B X2 u → KT u → Calls Tryd.prog 20 #[.pointer (some ⟨B, 0, none⟩), .agg (stCs T).toArray] u fun e w' => e = .returned (.int .i64 0) ∧ Shd S B (cutX X T m) w' ∧ Only B u w') := Lib.hid fun u hs hk => by
          have := shPrune_ok hs T hTo (by rw [hX2]) (by rw [hT, hG, hX2]; rfl) (by
            rw [hT]
            refine (stB_iff _).2 ⟨(fzB_iff _).2 ?_, (by show (0 : Int) ≤ 0 ∧ (0 : Int) ≤ 1125899906842624; decide)⟩
            show (0 ≤ G.win ∧ G.win ≤ _) ∧ 1 ≤ G.cnt ∧ G.cnt ≤ 4000
            rw [hGw, hGc]; omega) hk
          refine this.mono fun e w' ⟨h1, h2, h3⟩ => ⟨h1, ?_, h3⟩
          unfold cutX
          rw [show X.rows.take m = X.rows from List.take_of_length_le (by rw [HRL.out]; exact Nat.le_refl _)]
          rw [hX2] at h2
          exact h2
        have HNT2 : Hid (∀ u, Shd S B X2 u → Calls Tryd.prog 22 #[.pointer (some ⟨B, 0, none⟩), .int .i64 3] u fun e w' => e = .returned (.int .i64 (m : Int)) ∧ u = w') := Lib.hid fun u hs => by
          have := shStrip_not hs (by rw [hX2]; show (1 : Int) ≠ 2; decide) 3
          rwa [show X2.rows.length = m by rw [hX2]; exact HRL.out] at this
        have HGL : Hid ((fzCs G).toArray.size = 34) := Lib.hid (by rw [List.size_toArray]; exact fzCs_length hGr)
        have HGR : Hid (G.root.length = 32) := Lib.hid hGr
        have HGL2 : Hid ((fzCs G).length = 34) := Lib.hid (fzCs_length hGr)
        have HO5 := Lib.hid ho5
        have HL5 : Hid (W4.heap.size ≤ W5.heap.size) := Lib.hid b5.size
        have HB5 := Lib.hid hb5
        clear hG hGw hGc hGr hokG hs5 hb5 hX2 hT hTo ho5 b5 HNT HRO HSR HBR
        go_upto_region 17 with (first
          | (go_at_call 19; (refine HCL.out.mono ?_; rintro e w6 ⟨rfl, hs6, o6⟩))
          | refine wpList_store_mid (w := w6.alloc (.cells (fzCs fz0).toArray 44)) rfl 44 (.tmp 13) (.tmp 78) rfl w6.heap.size 0 (fzCs G).toArray rfl rfl (by rw [HGL.out]; exact Blk.there (Blk.alloc w6 44 (fzCs fz0)) (by rw [show (fzCs fz0).length = 34 from rfl]; decide)) (by rw [HGL.out]; exact HIF.out) one_cells ?_)
        obtain ⟨f, hf⟩ : ∃ x, x = w6.heap.size := ⟨_, rfl⟩
        obtain ⟨V6, hV6⟩ : ∃ u, u = (w6.alloc (.cells (fzCs fz0).toArray 44)).setCells w6.heap.size 0 (fzCs G) := ⟨_, rfl⟩
        change Code.wp _ _ _ _ ((w6.alloc (.cells (fzCs fz0).toArray 44)).setCells w6.heap.size 0 (fzCs G))
        rw [← hV6, ← hf]
        have c6 : Below w6.heap.size w6 V6 := by rw [hV6]; exact below_setCells (Nat.le_refl _) _ _ _ (below_boxS _ _)
        have hF : FzAt f G V6 := by rw [hV6, hf]; exact Blk.setAll (Blk.alloc w6 44 (fzCs fz0)) (by rw [HGL2.out]; rfl)
        have hBl : B < W2.heap.size := HSL.out B hs6.sk.1
        have ho6 : OwnR W4.heap.size V6 v12 X.rows := (OwnR.only HO5.out o6 (by have := HLR.out; omega)).kept c6
        have hb6 : Below w.heap.size w V6 := (HB5.out.trans (o6.below (B := w.heap.size) (HSW.out B hs6.sk.1) HB5.out.size)).trans (c6.mono (Nat.le_trans HB5.out.size o6.size))
        have hs6' := hs6.old c6
        have HF := Lib.hid hF
        have HFR : Hid (∀ u, Below V6.heap.size V6 u → u.rangeAt f 0 (fzCs G)) := Lib.hid fun u hu => below_range' hu (Blk.lt hF) (Blk.all hF)
        have HS6 := Lib.hid hs6'
        have HB6 := Lib.hid hb6
        have HK6 := Lib.hid (HKW.out.old hb6)
        have HO6 := Lib.hid ho6
        have HBL := Lib.hid hBl
        have HL6 : Hid (W4.heap.size ≤ V6.heap.size) := Lib.hid (by have := HL5.out; have := o6.size; have := c6.size; omega)
        clear hV6 hf c6 hF hBl ho6 hb6 hs6' hs6 o6 HCL HO5 HB5
        go_upto_region 17 with fail

        try simp only [Act.put]
        refine wp_region_ph0 (Lx := GLf 0) [RXP.is (.pointer (some ⟨B, 0, none⟩)), RXP.is (.int .i64 (m : Int)), RXP.is (.int .i64 (m : Int)), RXP.is (.bool false), RXP.is (.bool false), RXP.is (.pointer (some ⟨B, 0, none⟩)), RXP.is (.agg (fzCs G).toArray), RXP.is (.agg (stCs T).toArray), RXP.is (.int .i64 0), RXP.is (.bool false), RXP.is (.bool false)] [1, 7, 8] (fun k w' => (k ≤ 2 → Below V6.heap.size V6 w') ∧ True ∧ (k = 3 → Shd S B (cutX X T m) w' ∧ ∃ u, Below V6.heap.size V6 u ∧ Only B u w')) (by kernel_rfl) (by kernel_rfl) (by kernel_rfl) (by kernel_rfl) (by kernel_rfl) (⟨fun _ => Below.refl _ _, trivial, (fun h => absurd h (by decide))⟩) ⟨?_, ?_, ?_, ?_, ?_, ?_, ?_, ?_, ?_, ?_, ?_, trivial⟩ ?_
        · intro ac w' ph hF hPh hlt hP hU K hK0
          have e6 : ac.eval (.tmp 6) = .pointer (some ⟨B, 0, none⟩) := hF.at 6 (by kernel_rfl)
          exact rop_move _ rfl e6 (wanted_none rfl) (hK0 _ _ GLf.same hPh rfl)
        · intro ac w' ph hF hPh hlt hP hU K hK0
          obtain rfl : ph = 0 := (hlt 0 1 rfl).1 rfl
          have e80 : ac.eval (.tmp 80) = .pointer (some ⟨B, 0, none⟩) := hP 0 (by kernel_rfl)
          have hB := hPh.1 (by decide)
          refine rop_call 22 _ _ rfl #[.pointer (some ⟨B, 0, none⟩), .int .i64 3] (by simp [e80, eval_const]) (by kernel_rfl) (wanted_none rfl) ?_
          refine (HNT2.out w' (HS6.out.old hB)).mono ?_
          rintro e w2 ⟨rfl, rfl⟩
          exact ⟨_, rfl, hK0 _ _ (GLf.own (by decide)) ⟨fun _ => hB, trivial, (fun h => absurd h (by decide))⟩ rfl⟩
        · intro ac w' ph hF hPh hlt hP hU K hK0
          have e7 : ac.eval (.tmp 7) = .int .i64 (m : Int) := hF.at 7 (by kernel_rfl)
          exact rop_move _ rfl e7 (wanted_none rfl) (hK0 _ _ GLf.same hPh rfl)
        · intro ac w' ph hF hPh hlt hP hU K hK0
          have e81 : ac.eval (.tmp 81) = .int .i64 (m : Int) := hP 1 (by kernel_rfl)
          have e82 : ac.eval (.tmp 82) = .int .i64 (m : Int) := hP 2 (by kernel_rfl)
          exact rop_bin _ _ _ _ _ rfl e81 e82 (guard_int _ _ _ _ _ _ _ w') (neq_iG _ _ false (by simp) w') (wanted_none rfl) (hK0 _ _ GLf.same hPh rfl)
        · intro ac w' ph hF hPh hlt hP hU K hK0
          have e83 : ac.eval (.tmp 83) = .bool false := hP 3 (by kernel_rfl)
          exact rop_move _ rfl e83 (wanted_none rfl) (hK0 _ _ GLf.same hPh rfl)
        · intro ac w' ph hF hPh hlt hP hU K hK0
          have e6 : ac.eval (.tmp 6) = .pointer (some ⟨B, 0, none⟩) := hF.at 6 (by kernel_rfl)
          have e84 : ac.eval (.tmp 84) = .bool false := hP 4 (by kernel_rfl)
          exact rop_move _ rfl e6 (wanted_of (j := 4) (b := false) rfl rfl e84) (hK0 _ _ GLf.same hPh rfl)
        · intro ac w' ph hF hPh hlt hP hU K hK0
          have hph : ph ≤ 1 := (hlt 1 7 rfl).2 (by kernel_rfl)
          have e13 : ac.eval (.tmp 13) = .pointer (some ⟨f, 0, none⟩) := hF.at 13 (by kernel_rfl)
          have e84 : ac.eval (.tmp 84) = .bool false := hP 4 (by kernel_rfl)
          exact rop_ld _ _ rfl e13 (load_fzAt (HFR.out w' (hPh.1 (by omega))) HGR.out) (wanted_of (j := 4) (b := false) rfl rfl e84) (hK0 _ _ GLf.same hPh rfl)
        · intro ac w' ph hF hPh hlt hP hU K hK0
          obtain rfl : ph = 1 := (hlt 1 7 rfl).1 rfl
          have e86 : ac.eval (.tmp 86) = .agg (fzCs G).toArray := hP 6 (by kernel_rfl)
          have e84 : ac.eval (.tmp 84) = .bool false := hP 4 (by kernel_rfl)
          have hB := hPh.1 (by decide)
          refine rop_call 21 _ _ rfl #[.string ⟨#[]⟩, .agg (fzCs G).toArray, .int .i64 0] (by simp [e86, eval_const]) (by kernel_rfl) (wanted_of (j := 4) (b := false) rfl rfl e84) ?_
          refine (HSN.out w').mono ?_
          rintro e w2 ⟨rfl, hb⟩
          exact ⟨_, rfl, hK0 _ _ (GLf.own (by decide)) ⟨fun _ => below_step hB (Nat.le_refl _) hb, trivial, (fun h => absurd h (by decide))⟩ rfl⟩
        · intro ac w' ph hF hPh hlt hP hU K hK0
          obtain rfl : ph = 2 := (hlt 2 8 rfl).1 rfl
          have e85 : ac.eval (.tmp 85) = .pointer (some ⟨B, 0, none⟩) := hP 5 (by kernel_rfl)
          have e87 : ac.eval (.tmp 87) = .agg (stCs T).toArray := hP 7 (by kernel_rfl)
          have e84 : ac.eval (.tmp 84) = .bool false := hP 4 (by kernel_rfl)
          have hB := hPh.1 (by decide)
          refine rop_call 20 _ _ rfl #[.pointer (some ⟨B, 0, none⟩), .agg (stCs T).toArray] (by simp [e85, e87]) (by kernel_rfl) (wanted_of (j := 4) (b := false) rfl rfl e84) ?_
          refine (HPR.out w' (HS6.out.old hB) (HK6.out.old hB)).mono ?_
          rintro e w2 ⟨rfl, hs, ho⟩
          exact ⟨_, rfl, hK0 _ _ (GLf.own (by decide)) ⟨(fun h => absurd h (by decide)), trivial, fun _ => ⟨hs, w', hB, ho⟩⟩ rfl⟩
        · intro ac w' ph hF hPh hlt hP hU K hK0
          have e88 : ac.eval (.tmp 88) = .int .i64 0 := hP 8 (by kernel_rfl)
          have e84 : ac.eval (.tmp 84) = .bool false := hP 4 (by kernel_rfl)
          exact rop_bin _ _ _ _ _ rfl e88 rfl (guard_int _ _ _ _ _ _ _ w') (neq_errS 0 w') (wanted_of (j := 4) (b := false) rfl rfl e84) (hK0 _ _ GLf.same hPh rfl)
        · intro ac w' ph hF hPh hlt hP hU K hK0
          have e84 : ac.eval (.tmp 84) = .bool false := hP 4 (by kernel_rfl)
          have e89 : ac.eval (.tmp 89) = .bool false := hP 9 (by kernel_rfl)
          exact rop_pick _ _ _ rfl false e84 (by simpa using e89) (wanted_none rfl) (hK0 _ _ GLf.same hPh rfl)
        · intro ac w' hF hPh hT
          have e90 : ac.eval (.tmp 90) = .bool false := hT 10 (by decide)
          rw [hF.setsG [80, 81, 82, 83, 84, 85, 86, 87, 88, 89, 90] (by kernel_rfl)]
          simp only [List.foldl_cons, List.foldl_nil, List.setIfInBounds_toArray, List.set_cons_succ, List.set_cons_zero, e90]
          generalize ac.eval (.tmp 80) = u80
          generalize ac.eval (.tmp 81) = u81
          generalize ac.eval (.tmp 82) = u82
          generalize ac.eval (.tmp 83) = u83
          generalize ac.eval (.tmp 84) = u84
          generalize ac.eval (.tmp 85) = u85
          generalize ac.eval (.tmp 86) = u86
          generalize ac.eval (.tmp 87) = u87
          generalize ac.eval (.tmp 88) = u88
          generalize ac.eval (.tmp 89) = u89
          clear e90 hT hF ac
          obtain ⟨hs9, u8, b8, o9⟩ := hPh.2.2 rfl
          clear hPh
          obtain ⟨W9, hW9⟩ : ∃ u, u = w' := ⟨_, rfl⟩
          subst hW9
          have hb9 := (below_step HB6.out (Nat.le_refl _) b8).trans (o9.below (B := w.heap.size) (HSW.out B hs9.sk.1) (Nat.le_trans HB6.out.size b8.size))
          have ho9 : OwnR W4.heap.size W9 v12 X.rows := OwnR.only (HO6.out.kept b8) o9 (by have := HLR.out; have := HBL.out; omega)
          have hs9' := hs9
          have HB9 := Lib.hid hb9
          have HO9 := Lib.hid ho9
          have HS9 := Lib.hid hs9'
          have HL9 : Hid (W4.heap.size ≤ W9.heap.size) := Lib.hid (by have := HL6.out; have := b8.size; have := o9.size; omega)
          clear hb9 ho9 hs9' hs9 b8 o9 HF HFR HS6 HB6 HK6 HO6 HL6 HNT2 HSN HPR hm0 hm0b hc1
          go_upto_region 21 with fail
          go_loopw [15, 16, 17, 18, 19, 20] (fun s15 s16 _ _ _ _ wr2 => ∃ (i left : Nat), i ≤ 5 ∧ left ≤ m ∧ s16 = .int .i64 i ∧ s15 = .int .i64 left ∧ Shd S B (cutX X T left) wr2 ∧ Below w.heap.size w wr2 ∧ OwnR W4.heap.size wr2 v12 X.rows ∧ W4.heap.size ≤ wr2.heap.size) (fun _ s16 _ _ _ _ _ => 5 - (intOf s16).toNat)
          case atStart => exact ⟨0, m, by omega, by omega, rfl, rfl, HS9.out, HB9.out, HO9.out, HL9.out⟩
          case round =>
            obtain ⟨i, left, hi5, hlm, rfl, rfl, hs, hb, ho, hl4⟩ := hrel
            have HS := Lib.hid hs
            have HB := Lib.hid hb
            have HO := Lib.hid ho
            have HL4 := Lib.hid hl4
            clear hs hb ho hl4 HS9 HB9 HO9 HL9
            go_upto_region 21 with fail
            go_cut [99] (fun sc wx => wr = wx ∧ sc = .bool (decide (i < zn ∧ i < 5)))
            case first =>
              by_cases hlt : i < zn
              · have hlt' : (i : Int) < (zn : Int) := by omega
                by_cases h12 : i < 5
                · have h12' : (i : Int) < 5 := by omega
                  go_wp2
                  go_meet
                  case rel => exact ⟨rfl, by simp [hlt, h12]⟩
                · have h12' : ¬ (i : Int) < 5 := by omega
                  go_wp2
                  go_meet
                  case rel => exact ⟨rfl, by simp [h12]⟩
              · have hlt' : ¬ (i : Int) < (zn : Int) := by omega
                go_wp2
                go_meet
                case rel => exact ⟨rfl, by simp [hlt]⟩
            case rest =>
            obtain ⟨rfl, rfl⟩ := hcut
            by_cases hc : i < zn ∧ i < 5
            · rw [decide_eq_true hc]
              obtain ⟨hin, hi5'⟩ := hc
              have hw1 := IntWalk.i64_in ((i : Int) + 1) (by omega)
              have hne : zs ≠ [] := fun e => by have := HZN.out; rw [e] at this; simp at this; omega
              obtain ⟨zo, rfl, hzbl, hzj⟩ := HZS.out hne
              have cz := (HB.out.cell (p := ⟨zb, _, none⟩) hzbl).trans (hzj i (by rw [← HZN.out]; exact hin))
              obtain ⟨z, hzv⟩ : ∃ z, z = zs.getD i 0 := ⟨_, rfl⟩
              rw [← hzv] at cz
              obtain ⟨L, hL⟩ : ∃ L, L = left - z.toNat := ⟨_, rfl⟩
              have hLl : L ≤ left := by omega
              have HST2 := Lib.hid (strip_cut HS.out (by rw [HRL.out]; exact hlm) z L hL)
              have HLF : Hid (∀ u, Shd S B (cutX X T L) u → Calls Tryd.prog 25 #[.pointer (some ⟨B, 0, none⟩)] u fun e w' => e = .returned (.int .i64 (L : Int)) ∧ u = w') := Lib.hid fun u hs => by
                have := shLeft_any hs
                rwa [show (cutX X T L).rows.length = L by show (X.rows.take L).length = L; rw [List.length_take, HRL.out]; omega] at this
              have HCO : Hid (∀ u, Shd S B (cutX X T L) u → Calls Tryd.prog 10 #[.pointer (some ⟨B, 0, none⟩)] u fun e w' => e = .returned (.int .i64 (m : Int)) ∧ u = w') := Lib.hid fun u hs => by
                have := shCount_any hs
                rwa [show (cutX X T L).lvs.length = m from HLV.out] at this
              have HGP : Hid (∀ u, Shd S B (cutX X T L) u → Calls Tryd.prog 23 #[.pointer (some ⟨B, 0, none⟩), .int .i64 0] u fun e w' => e = .returned (.tuple #[.agg (recCs rec0).toArray, .int .i64 20]) ∧ Below u.heap.size u w') := Lib.hid fun u hs => shGet_pruned hs rfl 0 (by show 0 < X.lvs.length; rw [HLV.out]; exact h0)
              have HLL := Lib.hid hL
              clear hne hzj hzv
              have hw0 := IntWalk.i64_in (L : Int) (by omega)
              rcases (show z < 0 ∨ (0 ≤ z ∧ (left : Int) < z) ∨ (0 ≤ z ∧ ¬ (left : Int) < z) by omega) with hz | ⟨hz1, hz2⟩ | ⟨hz1, hz2⟩
              · obtain rfl : L = left := by omega
                have hq1 : ¬ (L : Int) < 0 := by omega
                clear hL
                go_upto_region 29 with fail
                clear hq1 hz
                have HOL := Lib.hid HLL.out
                go_upto_region 31 with (first
                  | (go_at_call 22; (refine HST2.out.mono ?_; rintro e w20 ⟨rfl, hs20, o20⟩; have HS20 := Lib.hid hs20; have HO20 := Lib.hid o20; clear hs20 o20))
                  | (go_at_call 25; (refine (HLF.out _ HS20.out).mono ?_; rintro e w21 ⟨rfl, rfl⟩))
                  | (go_at_call 10; (refine (HCO.out _ HS20.out).mono ?_; rintro e w21 ⟨rfl, rfl⟩)))
                clear cz
                go_upto_region 32 with (first
                  | (go_at_call 23; (refine (HGP.out _ HS20.out).mono ?_; rintro e w22 ⟨rfl, b22⟩))
                  | refine wpList_store_mid (w := w22.alloc (.cells (recCs rec0).toArray 55)) rfl 55 (.tmp 18) (.tmp 138) rfl w22.heap.size 0 (recCs rec0).toArray rfl rfl (Blk.there (Blk.alloc w22 55 (recCs rec0)) (Nat.le_refl 4)) HIR.out one_rec ?_)
                obtain ⟨V, hV⟩ : ∃ u, u = (w22.alloc (.cells (recCs rec0).toArray 55)).setCells w22.heap.size 0 (recCs rec0) := ⟨_, rfl⟩
                change Code.wp _ _ _ _ ((w22.alloc (.cells (recCs rec0).toArray 55)).setCells w22.heap.size 0 (recCs rec0))
                rw [← hV]
                have cV : Below w22.heap.size w22 V := by rw [hV]; exact below_setCells (Nat.le_refl _) _ _ _ (below_boxS _ _)
                generalize w22.heap.size = x22
                have dV := below_step b22 (Nat.le_refl _) cV
                have hsV := HS20.out.old dV
                have hbV : Below w.heap.size w V := below_step (HB.out.trans (HO20.out.below HSW.out HB.out.size)) (Nat.le_refl _) dV
                have hoV : OwnR W4.heap.size V v12 X.rows := (OwnR.kept' HO.out (fun g e => HO20.out.block g (World.ownsRow.lt HO.out g e).2 (fun hg => by have := HSL.out g hg; have := (World.ownsRow.lt HO.out g e).1; have := HLR.out; omega))).kept dV
                have hlV : W4.heap.size ≤ V.heap.size := by have := HL4.out; have := HO20.out.size; have := dV.size; omega
                have HRW : Hid (∀ u, Below V.heap.size V u → Calls Tryd.prog 24 #[.pointer (some ⟨B, 0, none⟩)] u fun e w' => ∃ v', e = .returned v' ∧ RowR w' v' (X.rows.take L) ∧ Below u.heap.size u w') := Lib.hid fun u hu => (shRows_any (hsV.old hu)).mono fun e w' ⟨v', h1, h2, h3⟩ => ⟨v', h1, h2.row, h3⟩
                obtain ⟨g, rc, hv12⟩ : ∃ g rc, v12 = .slice (some ⟨g, 0, none⟩) m rc ∧ m ≤ rc := by
                  rcases hoV.2 with ⟨_, e⟩ | ⟨g, rc, cur, e, _, _, hc, _⟩
                  · have := HRL.out; omega
                  · rw [HRL.out] at e hc; exact ⟨g, rc, e, hc⟩
                obtain ⟨hv12, hmc⟩ := hv12
                have hpre := hoV.pre
                rw [hv12] at hpre
                have HSM : Hid (∀ v u, RowR u v (X.rows.take L) → Below V.heap.size V u → Calls Tryd.prog 26 #[v, .slice (some ⟨g, 0, none⟩) L rc] u fun e w' => e = .returned (.bool true) ∧ Below u.heap.size u w') := Lib.hid fun v u hr hu => by
                  have hcp : m ≤ rc := hmc
                  exact same15_any v _ _ u hr (PreR.row (PreR.head (hpre.old hu) L (by rw [HRL.out]; omega) rc (by omega) (Nat.le_refl _))) (by rw [List.length_take, HRL.out]; omega)
                have hLc : L ≤ rc := by omega
                have HSV := Lib.hid hsV
                have HBV := Lib.hid hbV
                have HOV := Lib.hid hoV
                have HLV4 := Lib.hid hlV
                have HV12 := Lib.hid hv12
                clear hV cV b22 dV hsV hbV hoV hlV hpre hmc HS20 HO20 hv12
                rw [HV12.out]
                try simp only [Act.put]
                refine wp_region_tab [RT.is (.pointer (some ⟨B, 0, none⟩)), (RT.rowsR (X.rows.take L)), RT.is (.slice (some ⟨g, 0, none⟩) m rc), RT.is (.int .i64 (L : Int)), RT.is (.slice (some ⟨g, 0, none⟩) L rc), RT.is (.bool true), RT.is (.bool true)] (by kernel_rfl) (by kernel_rfl) (by kernel_rfl) (by kernel_rfl) ⟨?_, ?_, ?_, ?_, ?_, ?_, ?_, trivial⟩ ?_
                · intro ac w' hF hL hP hU K hK
                  have hB := below_undrew hL
                  have e6 : ac.eval (.tmp 6) = .pointer (some ⟨B, 0, none⟩) := hF.at 6 (by kernel_rfl)
                  exact rop_move _ rfl e6 (wanted_none rfl) (hK _ _ (le8_refl _) rfl)
                · intro ac w' hF hL hP hU K hK
                  have hB := below_undrew hL
                  have e140 : ac.eval (.tmp 140) = .pointer (some ⟨B, 0, none⟩) := hP 0 (by kernel_rfl)
                  refine rop_call 24 _ _ rfl #[.pointer (some ⟨B, 0, none⟩)] (by simp [e140]) (by kernel_rfl) (wanted_none rfl) ?_
                  refine (HRW.out w' hB).mono ?_
                  rintro e w2 ⟨v2, rfl, hr2, hb⟩
                  exact ⟨_, rfl, hK _ _ hb hr2⟩
                · intro ac w' hF hL hP hU K hK
                  have hB := below_undrew hL
                  have e12 : ac.eval (.tmp 12) = .slice (some ⟨g, 0, none⟩) m rc := hF.at 12 (by kernel_rfl)
                  exact rop_move _ rfl e12 (wanted_none rfl) (hK _ _ (le8_refl _) rfl)
                · intro ac w' hF hL hP hU K hK
                  have hB := below_undrew hL
                  have e15 : ac.eval (.tmp 15) = .int .i64 (L : Int) := hF.at 15 (by kernel_rfl)
                  exact rop_move _ rfl e15 (wanted_none rfl) (hK _ _ (le8_refl _) rfl)
                · intro ac w' hF hL hP hU K hK
                  have hB := below_undrew hL
                  have e142 : ac.eval (.tmp 142) = .slice (some ⟨g, 0, none⟩) m rc := hP 2 (by kernel_rfl)
                  have e143 : ac.eval (.tmp 143) = .int .i64 (L : Int) := hP 3 (by kernel_rfl)
                  exact rop_sliceG _ _ _ _ _ rfl e142 rfl (by simp [e143]) rfl (rcut_h (some ⟨g, 0, none⟩) m rc L hLc w') (wanted_none rfl) (hK _ _ (le8_refl _) rfl)
                · intro ac w' hF hL hP hU K hK
                  have hB := below_undrew hL
                  have e141 : RowR w' (ac.eval (.tmp 141)) (X.rows.take L) := hP 1 (by kernel_rfl)
                  have e144 : ac.eval (.tmp 144) = .slice (some ⟨g, 0, none⟩) L rc := hP 4 (by kernel_rfl)
                  refine rop_call 26 _ _ rfl #[ac.eval (.tmp 141), .slice (some ⟨g, 0, none⟩) L rc] (by simp [e144]) (by kernel_rfl) (wanted_none rfl) ?_
                  refine (HSM.out _ w' e141 hB).mono ?_
                  rintro e w2 ⟨rfl, hb⟩
                  exact ⟨_, rfl, hK _ _ hb rfl⟩
                · intro ac w' hF hL hP hU K hK
                  have hB := below_undrew hL
                  have e145 : ac.eval (.tmp 145) = .bool true := hP 5 (by kernel_rfl)
                  exact rop_assign _ rfl e145 (wanted_none rfl) (hK _ _ (le8_refl _) rfl)
                · intro ac w' hF hB hT
                  have e20 : ac.eval (.tmp 20) = .bool true := hT 6 (by decide)
                  rw [hF.setsG [140, 141, 142, 143, 144, 145, 20] (by kernel_rfl)]
                  simp only [List.foldl_cons, List.foldl_nil, List.setIfInBounds_toArray, List.set_cons_succ, List.set_cons_zero, e20]
                  generalize ac.eval (.tmp 140) = u140
                  generalize ac.eval (.tmp 141) = u141
                  generalize ac.eval (.tmp 142) = u142
                  generalize ac.eval (.tmp 143) = u143
                  generalize ac.eval (.tmp 144) = u144
                  generalize ac.eval (.tmp 145) = u145
                  clear e20 hT hF ac
                  have hsF := HSV.out.old hB
                  have hbF := below_step HBV.out (Nat.le_refl _) hB
                  have hoF := HOV.out.kept hB
                  have hlF := Nat.le_trans HLV4.out hB.size
                  rw [← HV12.out]
                  clear hB
                  go_wp2
                  go_roundw
                  case rel => exact ⟨i + 1, L, by omega, by omega, by go_num, rfl, hsF, hbF, hoF, hlF⟩
                  case measure => simp [intOf]; omega
              · obtain rfl : L = 0 := by omega
                have hq1 : ¬ z < 0 := by omega
                clear hL
                go_upto_region 29 with fail
                clear hq1 hz1 hz2
                have HOL := Lib.hid HLL.out
                go_upto_region 31 with (first
                  | (go_at_call 22; (refine HST2.out.mono ?_; rintro e w20 ⟨rfl, hs20, o20⟩; have HS20 := Lib.hid hs20; have HO20 := Lib.hid o20; clear hs20 o20))
                  | (go_at_call 25; (refine (HLF.out _ HS20.out).mono ?_; rintro e w21 ⟨rfl, rfl⟩))
                  | (go_at_call 10; (refine (HCO.out _ HS20.out).mono ?_; rintro e w21 ⟨rfl, rfl⟩)))
                clear cz
                go_upto_region 32 with (first
                  | (go_at_call 23; (refine (HGP.out _ HS20.out).mono ?_; rintro e w22 ⟨rfl, b22⟩))
                  | refine wpList_store_mid (w := w22.alloc (.cells (recCs rec0).toArray 55)) rfl 55 (.tmp 18) (.tmp 138) rfl w22.heap.size 0 (recCs rec0).toArray rfl rfl (Blk.there (Blk.alloc w22 55 (recCs rec0)) (Nat.le_refl 4)) HIR.out one_rec ?_)
                obtain ⟨V, hV⟩ : ∃ u, u = (w22.alloc (.cells (recCs rec0).toArray 55)).setCells w22.heap.size 0 (recCs rec0) := ⟨_, rfl⟩
                change Code.wp _ _ _ _ ((w22.alloc (.cells (recCs rec0).toArray 55)).setCells w22.heap.size 0 (recCs rec0))
                rw [← hV]
                have cV : Below w22.heap.size w22 V := by rw [hV]; exact below_setCells (Nat.le_refl _) _ _ _ (below_boxS _ _)
                generalize w22.heap.size = x22
                have dV := below_step b22 (Nat.le_refl _) cV
                have hsV := HS20.out.old dV
                have hbV : Below w.heap.size w V := below_step (HB.out.trans (HO20.out.below HSW.out HB.out.size)) (Nat.le_refl _) dV
                have hoV : OwnR W4.heap.size V v12 X.rows := (OwnR.kept' HO.out (fun g e => HO20.out.block g (World.ownsRow.lt HO.out g e).2 (fun hg => by have := HSL.out g hg; have := (World.ownsRow.lt HO.out g e).1; have := HLR.out; omega))).kept dV
                have hlV : W4.heap.size ≤ V.heap.size := by have := HL4.out; have := HO20.out.size; have := dV.size; omega
                have HRW : Hid (∀ u, Below V.heap.size V u → Calls Tryd.prog 24 #[.pointer (some ⟨B, 0, none⟩)] u fun e w' => ∃ v', e = .returned v' ∧ RowR w' v' (X.rows.take (0 : Nat)) ∧ Below u.heap.size u w') := Lib.hid fun u hu => (shRows_any (hsV.old hu)).mono fun e w' ⟨v', h1, h2, h3⟩ => ⟨v', h1, h2.row, h3⟩
                obtain ⟨g, rc, hv12⟩ : ∃ g rc, v12 = .slice (some ⟨g, 0, none⟩) m rc ∧ m ≤ rc := by
                  rcases hoV.2 with ⟨_, e⟩ | ⟨g, rc, cur, e, _, _, hc, _⟩
                  · have := HRL.out; omega
                  · rw [HRL.out] at e hc; exact ⟨g, rc, e, hc⟩
                obtain ⟨hv12, hmc⟩ := hv12
                have hpre := hoV.pre
                rw [hv12] at hpre
                have HSM : Hid (∀ v u, RowR u v (X.rows.take (0 : Nat)) → Below V.heap.size V u → Calls Tryd.prog 26 #[v, .slice (some ⟨g, 0, none⟩) (0 : Nat) rc] u fun e w' => e = .returned (.bool true) ∧ Below u.heap.size u w') := Lib.hid fun v u hr hu => by
                  have hcp : m ≤ rc := hmc
                  exact same15_any v _ _ u hr (PreR.row (PreR.head (hpre.old hu) (0 : Nat) (by rw [HRL.out]; omega) rc (by omega) (Nat.le_refl _))) (by rw [List.length_take, HRL.out]; omega)
                have hLc : (0 : Nat) ≤ rc := by omega
                have HSV := Lib.hid hsV
                have HBV := Lib.hid hbV
                have HOV := Lib.hid hoV
                have HLV4 := Lib.hid hlV
                have HV12 := Lib.hid hv12
                clear hV cV b22 dV hsV hbV hoV hlV hpre hmc HS20 HO20 hv12
                rw [HV12.out]
                try simp only [Act.put]
                refine wp_region_tab [RT.is (.pointer (some ⟨B, 0, none⟩)), (RT.rowsR (X.rows.take (0 : Nat))), RT.is (.slice (some ⟨g, 0, none⟩) m rc), RT.is (.int .i64 ((0 : Nat) : Int)), RT.is (.slice (some ⟨g, 0, none⟩) (0 : Nat) rc), RT.is (.bool true), RT.is (.bool true)] (by kernel_rfl) (by kernel_rfl) (by kernel_rfl) (by kernel_rfl) ⟨?_, ?_, ?_, ?_, ?_, ?_, ?_, trivial⟩ ?_
                · intro ac w' hF hL hP hU K hK
                  have hB := below_undrew hL
                  have e6 : ac.eval (.tmp 6) = .pointer (some ⟨B, 0, none⟩) := hF.at 6 (by kernel_rfl)
                  exact rop_move _ rfl e6 (wanted_none rfl) (hK _ _ (le8_refl _) rfl)
                · intro ac w' hF hL hP hU K hK
                  have hB := below_undrew hL
                  have e140 : ac.eval (.tmp 140) = .pointer (some ⟨B, 0, none⟩) := hP 0 (by kernel_rfl)
                  refine rop_call 24 _ _ rfl #[.pointer (some ⟨B, 0, none⟩)] (by simp [e140]) (by kernel_rfl) (wanted_none rfl) ?_
                  refine (HRW.out w' hB).mono ?_
                  rintro e w2 ⟨v2, rfl, hr2, hb⟩
                  exact ⟨_, rfl, hK _ _ hb hr2⟩
                · intro ac w' hF hL hP hU K hK
                  have hB := below_undrew hL
                  have e12 : ac.eval (.tmp 12) = .slice (some ⟨g, 0, none⟩) m rc := hF.at 12 (by kernel_rfl)
                  exact rop_move _ rfl e12 (wanted_none rfl) (hK _ _ (le8_refl _) rfl)
                · intro ac w' hF hL hP hU K hK
                  have hB := below_undrew hL
                  have e15 : ac.eval (.tmp 15) = .int .i64 ((0 : Nat) : Int) := hF.at 15 (by kernel_rfl)
                  exact rop_move _ rfl e15 (wanted_none rfl) (hK _ _ (le8_refl _) rfl)
                · intro ac w' hF hL hP hU K hK
                  have hB := below_undrew hL
                  have e142 : ac.eval (.tmp 142) = .slice (some ⟨g, 0, none⟩) m rc := hP 2 (by kernel_rfl)
                  have e143 : ac.eval (.tmp 143) = .int .i64 ((0 : Nat) : Int) := hP 3 (by kernel_rfl)
                  exact rop_sliceG _ _ _ _ _ rfl e142 rfl (by simp [e143]) rfl (rcut_h (some ⟨g, 0, none⟩) m rc (0 : Nat) hLc w') (wanted_none rfl) (hK _ _ (le8_refl _) rfl)
                · intro ac w' hF hL hP hU K hK
                  have hB := below_undrew hL
                  have e141 : RowR w' (ac.eval (.tmp 141)) (X.rows.take (0 : Nat)) := hP 1 (by kernel_rfl)
                  have e144 : ac.eval (.tmp 144) = .slice (some ⟨g, 0, none⟩) (0 : Nat) rc := hP 4 (by kernel_rfl)
                  refine rop_call 26 _ _ rfl #[ac.eval (.tmp 141), .slice (some ⟨g, 0, none⟩) (0 : Nat) rc] (by simp [e144]) (by kernel_rfl) (wanted_none rfl) ?_
                  refine (HSM.out _ w' e141 hB).mono ?_
                  rintro e w2 ⟨rfl, hb⟩
                  exact ⟨_, rfl, hK _ _ hb rfl⟩
                · intro ac w' hF hL hP hU K hK
                  have hB := below_undrew hL
                  have e145 : ac.eval (.tmp 145) = .bool true := hP 5 (by kernel_rfl)
                  exact rop_assign _ rfl e145 (wanted_none rfl) (hK _ _ (le8_refl _) rfl)
                · intro ac w' hF hB hT
                  have e20 : ac.eval (.tmp 20) = .bool true := hT 6 (by decide)
                  rw [hF.setsG [140, 141, 142, 143, 144, 145, 20] (by kernel_rfl)]
                  simp only [List.foldl_cons, List.foldl_nil, List.setIfInBounds_toArray, List.set_cons_succ, List.set_cons_zero, e20]
                  generalize ac.eval (.tmp 140) = u140
                  generalize ac.eval (.tmp 141) = u141
                  generalize ac.eval (.tmp 142) = u142
                  generalize ac.eval (.tmp 143) = u143
                  generalize ac.eval (.tmp 144) = u144
                  generalize ac.eval (.tmp 145) = u145
                  clear e20 hT hF ac
                  have hsF := HSV.out.old hB
                  have hbF := below_step HBV.out (Nat.le_refl _) hB
                  have hoF := HOV.out.kept hB
                  have hlF := Nat.le_trans HLV4.out hB.size
                  rw [← HV12.out]
                  clear hB
                  go_wp2
                  go_roundw
                  case rel => exact ⟨i + 1, (0 : Nat), by omega, by omega, by go_num, rfl, hsF, hbF, hoF, hlF⟩
                  case measure => simp [intOf]; omega
              · have hq1 : ¬ z < 0 := by omega
                have hsub : (left : Int) - z = (L : Int) := by omega
                clear hL
                go_upto_region 29 with fail
                clear hq1 hz1 hz2 hsub
                have HOL := Lib.hid HLL.out
                go_upto_region 31 with (first
                  | (go_at_call 22; (refine HST2.out.mono ?_; rintro e w20 ⟨rfl, hs20, o20⟩; have HS20 := Lib.hid hs20; have HO20 := Lib.hid o20; clear hs20 o20))
                  | (go_at_call 25; (refine (HLF.out _ HS20.out).mono ?_; rintro e w21 ⟨rfl, rfl⟩))
                  | (go_at_call 10; (refine (HCO.out _ HS20.out).mono ?_; rintro e w21 ⟨rfl, rfl⟩)))
                clear cz
                go_upto_region 32 with (first
                  | (go_at_call 23; (refine (HGP.out _ HS20.out).mono ?_; rintro e w22 ⟨rfl, b22⟩))
                  | refine wpList_store_mid (w := w22.alloc (.cells (recCs rec0).toArray 55)) rfl 55 (.tmp 18) (.tmp 138) rfl w22.heap.size 0 (recCs rec0).toArray rfl rfl (Blk.there (Blk.alloc w22 55 (recCs rec0)) (Nat.le_refl 4)) HIR.out one_rec ?_)
                obtain ⟨V, hV⟩ : ∃ u, u = (w22.alloc (.cells (recCs rec0).toArray 55)).setCells w22.heap.size 0 (recCs rec0) := ⟨_, rfl⟩
                change Code.wp _ _ _ _ ((w22.alloc (.cells (recCs rec0).toArray 55)).setCells w22.heap.size 0 (recCs rec0))
                rw [← hV]
                have cV : Below w22.heap.size w22 V := by rw [hV]; exact below_setCells (Nat.le_refl _) _ _ _ (below_boxS _ _)
                generalize w22.heap.size = x22
                have dV := below_step b22 (Nat.le_refl _) cV
                have hsV := HS20.out.old dV
                have hbV : Below w.heap.size w V := below_step (HB.out.trans (HO20.out.below HSW.out HB.out.size)) (Nat.le_refl _) dV
                have hoV : OwnR W4.heap.size V v12 X.rows := (OwnR.kept' HO.out (fun g e => HO20.out.block g (World.ownsRow.lt HO.out g e).2 (fun hg => by have := HSL.out g hg; have := (World.ownsRow.lt HO.out g e).1; have := HLR.out; omega))).kept dV
                have hlV : W4.heap.size ≤ V.heap.size := by have := HL4.out; have := HO20.out.size; have := dV.size; omega
                have HRW : Hid (∀ u, Below V.heap.size V u → Calls Tryd.prog 24 #[.pointer (some ⟨B, 0, none⟩)] u fun e w' => ∃ v', e = .returned v' ∧ RowR w' v' (X.rows.take L) ∧ Below u.heap.size u w') := Lib.hid fun u hu => (shRows_any (hsV.old hu)).mono fun e w' ⟨v', h1, h2, h3⟩ => ⟨v', h1, h2.row, h3⟩
                obtain ⟨g, rc, hv12⟩ : ∃ g rc, v12 = .slice (some ⟨g, 0, none⟩) m rc ∧ m ≤ rc := by
                  rcases hoV.2 with ⟨_, e⟩ | ⟨g, rc, cur, e, _, _, hc, _⟩
                  · have := HRL.out; omega
                  · rw [HRL.out] at e hc; exact ⟨g, rc, e, hc⟩
                obtain ⟨hv12, hmc⟩ := hv12
                have hpre := hoV.pre
                rw [hv12] at hpre
                have HSM : Hid (∀ v u, RowR u v (X.rows.take L) → Below V.heap.size V u → Calls Tryd.prog 26 #[v, .slice (some ⟨g, 0, none⟩) L rc] u fun e w' => e = .returned (.bool true) ∧ Below u.heap.size u w') := Lib.hid fun v u hr hu => by
                  have hcp : m ≤ rc := hmc
                  exact same15_any v _ _ u hr (PreR.row (PreR.head (hpre.old hu) L (by rw [HRL.out]; omega) rc (by omega) (Nat.le_refl _))) (by rw [List.length_take, HRL.out]; omega)
                have hLc : L ≤ rc := by omega
                have HSV := Lib.hid hsV
                have HBV := Lib.hid hbV
                have HOV := Lib.hid hoV
                have HLV4 := Lib.hid hlV
                have HV12 := Lib.hid hv12
                clear hV cV b22 dV hsV hbV hoV hlV hpre hmc HS20 HO20 hv12
                rw [HV12.out]
                try simp only [Act.put]
                refine wp_region_tab [RT.is (.pointer (some ⟨B, 0, none⟩)), (RT.rowsR (X.rows.take L)), RT.is (.slice (some ⟨g, 0, none⟩) m rc), RT.is (.int .i64 (L : Int)), RT.is (.slice (some ⟨g, 0, none⟩) L rc), RT.is (.bool true), RT.is (.bool true)] (by kernel_rfl) (by kernel_rfl) (by kernel_rfl) (by kernel_rfl) ⟨?_, ?_, ?_, ?_, ?_, ?_, ?_, trivial⟩ ?_
                · intro ac w' hF hL hP hU K hK
                  have hB := below_undrew hL
                  have e6 : ac.eval (.tmp 6) = .pointer (some ⟨B, 0, none⟩) := hF.at 6 (by kernel_rfl)
                  exact rop_move _ rfl e6 (wanted_none rfl) (hK _ _ (le8_refl _) rfl)
                · intro ac w' hF hL hP hU K hK
                  have hB := below_undrew hL
                  have e140 : ac.eval (.tmp 140) = .pointer (some ⟨B, 0, none⟩) := hP 0 (by kernel_rfl)
                  refine rop_call 24 _ _ rfl #[.pointer (some ⟨B, 0, none⟩)] (by simp [e140]) (by kernel_rfl) (wanted_none rfl) ?_
                  refine (HRW.out w' hB).mono ?_
                  rintro e w2 ⟨v2, rfl, hr2, hb⟩
                  exact ⟨_, rfl, hK _ _ hb hr2⟩
                · intro ac w' hF hL hP hU K hK
                  have hB := below_undrew hL
                  have e12 : ac.eval (.tmp 12) = .slice (some ⟨g, 0, none⟩) m rc := hF.at 12 (by kernel_rfl)
                  exact rop_move _ rfl e12 (wanted_none rfl) (hK _ _ (le8_refl _) rfl)
                · intro ac w' hF hL hP hU K hK
                  have hB := below_undrew hL
                  have e15 : ac.eval (.tmp 15) = .int .i64 (L : Int) := hF.at 15 (by kernel_rfl)
                  exact rop_move _ rfl e15 (wanted_none rfl) (hK _ _ (le8_refl _) rfl)
                · intro ac w' hF hL hP hU K hK
                  have hB := below_undrew hL
                  have e142 : ac.eval (.tmp 142) = .slice (some ⟨g, 0, none⟩) m rc := hP 2 (by kernel_rfl)
                  have e143 : ac.eval (.tmp 143) = .int .i64 (L : Int) := hP 3 (by kernel_rfl)
                  exact rop_sliceG _ _ _ _ _ rfl e142 rfl (by simp [e143]) rfl (rcut_h (some ⟨g, 0, none⟩) m rc L hLc w') (wanted_none rfl) (hK _ _ (le8_refl _) rfl)
                · intro ac w' hF hL hP hU K hK
                  have hB := below_undrew hL
                  have e141 : RowR w' (ac.eval (.tmp 141)) (X.rows.take L) := hP 1 (by kernel_rfl)
                  have e144 : ac.eval (.tmp 144) = .slice (some ⟨g, 0, none⟩) L rc := hP 4 (by kernel_rfl)
                  refine rop_call 26 _ _ rfl #[ac.eval (.tmp 141), .slice (some ⟨g, 0, none⟩) L rc] (by simp [e144]) (by kernel_rfl) (wanted_none rfl) ?_
                  refine (HSM.out _ w' e141 hB).mono ?_
                  rintro e w2 ⟨rfl, hb⟩
                  exact ⟨_, rfl, hK _ _ hb rfl⟩
                · intro ac w' hF hL hP hU K hK
                  have hB := below_undrew hL
                  have e145 : ac.eval (.tmp 145) = .bool true := hP 5 (by kernel_rfl)
                  exact rop_assign _ rfl e145 (wanted_none rfl) (hK _ _ (le8_refl _) rfl)
                · intro ac w' hF hB hT
                  have e20 : ac.eval (.tmp 20) = .bool true := hT 6 (by decide)
                  rw [hF.setsG [140, 141, 142, 143, 144, 145, 20] (by kernel_rfl)]
                  simp only [List.foldl_cons, List.foldl_nil, List.setIfInBounds_toArray, List.set_cons_succ, List.set_cons_zero, e20]
                  generalize ac.eval (.tmp 140) = u140
                  generalize ac.eval (.tmp 141) = u141
                  generalize ac.eval (.tmp 142) = u142
                  generalize ac.eval (.tmp 143) = u143
                  generalize ac.eval (.tmp 144) = u144
                  generalize ac.eval (.tmp 145) = u145
                  clear e20 hT hF ac
                  have hsF := HSV.out.old hB
                  have hbF := below_step HBV.out (Nat.le_refl _) hB
                  have hoF := HOV.out.kept hB
                  have hlF := Nat.le_trans HLV4.out hB.size
                  rw [← HV12.out]
                  clear hB
                  go_wp2
                  go_roundw
                  case rel => exact ⟨i + 1, L, by omega, by omega, by go_num, rfl, hsF, hbF, hoF, hlF⟩
                  case measure => simp [intOf]; omega
            · rw [decide_eq_false hc]
              go_wp2
              go_ret
              exact ⟨rfl, HB.out⟩
set_option maxRecDepth 100000 in
theorem lifted (os : Os) (started : os.Started) (H : Type) (enc : TypeId × Value → H) :
    ReturnsInHanded {} Tryd.checked os 4 .any (fun w args => (Rows.shardGivesSpec.pre enc Tryd.prog Tryd.f4 [] false w args ∧ laidMetH Tryd.prog [("scrinium/sha.k", Rows.laid_scrinium_sha_k)] w) ∧ sizedMet enc Tryd.prog Tryd.f4 (OpenSpec.ofChange Rows.shardGivesSpec) false w args)
      (Rows.shardGivesSpec.post enc Tryd.prog Tryd.f4 false true false false) := by
  refine returnsInHanded_of_change_and (C := Tryd.checked) (X := fun w _ => laidMetH Tryd.prog [("scrinium/sha.k", Rows.laid_scrinium_sha_k)] w) (fun _ _ _ hh h => h.of_heap hh) lawOwn started (by kernel_rfl) Tryd.func4
    (ChangeSpec.witness_shaped (enc := enc) (C := Tryd.checked) (os := os) (X := fun w _ => laidMetH Tryd.prog [("scrinium/sha.k", Rows.laid_scrinium_sha_k)] w) false (World.doorLaid Tryd.prog 400 os) #[.slice none 0 0, .slice none 0 0] 8 rfl (World.shaped_of_RefB (by kernel_rfl) (by kernel_rfl)) (by kernel_rfl) (by kernel_rfl) (by kernel_rfl) (door_met os _)) ?_
  intro W base args ds gs before hval0 hW _ _ hL _
  have hval : ∀ (j : Nat) t v, Tryd.f4.params[j]? = some t → args[j]? = some v → Value.okWide Tryd.prog W .any base t v := hval0
  have hW' := hW
  obtain ⟨p, q, hA0, hV, rfl, hfz, hnd⟩ := hW
  have hA : DataW.TrodAll enc Tryd.prog W 0 (fun _ => true) true Tryd.f4.params.toList args.toList ds p := hA0
  rw [Tryd.params4] at hA hval
  obtain ⟨v0, vs0, d0, ds0, p0, q0, hargs, rfl, rfl, h0, r0⟩ := trodAll_cons hA
  obtain ⟨v1, vs1, d1, ds1, p1, q1, rfl, rfl, rfl, h1, r1⟩ := trodAll_cons r0
  obtain ⟨rfl, rfl, rfl⟩ := trodAll_nil r1
  obtain rfl : args = #[v0, v1] := by cases args; simp_all
  obtain ⟨rfl, rfl⟩ := trodVars_none hV
  have hKT := KT_of_laid hL
  obtain ⟨a0, len0, cap0, rfl⟩ := okWide_slice Tryd.underlying22 (hval 0 22 v0 rfl rfl)
  obtain ⟨l0, w0, k0⟩ := ops17_of h0
  obtain ⟨a1, len1, cap1, rfl⟩ := okWide_slice Tryd.underlying53 (hval 1 53 v1 rfl rfl)
  obtain ⟨zs1, b1, w1, u1⟩ := ints17_of h1
  clear hA0 hval0
  refine (walk (w := W) hKT _ l0 w0 k0 _ zs1 b1 w1 u1).mono fun e W' ⟨he, bel⟩ => ?_
  subst he
  exact ⟨_, rfl, law_post rfl rfl (by kernel_rfl) hW' rfl bel⟩

theorem row_holds : Rows.ShardGivesSaid :=
  OpenClaim.holds_of_wide 4 Tryd.f4 rfl rfl rfl rfl rfl rfl rfl ⟨rfl, rfl, rfl, rfl, rfl⟩ rfl rfl rfl rfl rfl (by kernel_rfl) Tryd.func4 (by kernel_rfl)
    (of_decide_eq_true (by kernel_rfl)) (by unfold Func.isWrapper; first | (rw [if_pos (by decide +kernel)]; kernel_rfl) | (rw [if_neg (by decide +kernel)]; exact ⟨rfl, rfl⟩))
    (fun os started H enc _ => lifted os started H enc)

theorem holds : Rows.ShardGivesCardSaid :=
  Claim7.holds_tied_plain_at .later [] [.data] true Rows.shardGivesCard.stood.harness false
    row_holds (fun _ h => by cases h) (by kernel_rfl) (fun _ h => by cases h) shardGives_row_tie rfl ⟨rfl, rfl⟩ (by kernel_rfl) rfl
    (fun f fn hf hfn => by
      obtain rfl : f = 4 := Option.some.inj ((show Tryd.prog.funcNamed "scrinium/scriniumlaw17.ShardGives" = some 4 by kernel_rfl).symm.trans hf) |>.symm
      obtain rfl : fn = Tryd.f4 := (Option.some.inj (Tryd.func4.symm.trans hfn)).symm
      exact ⟨by kernel_rfl, fun j t ht => by
        rw [Tryd.params4] at ht
        have hm : t ∈ [22, 53] := by simpa using Array.mem_of_getElem? ht
        have hall : ([22, 53].all fun u => !Tryd.prog.wantsStandIn u) = true := by kernel_rfl
        exact (show Tryd.prog.wantsStandIn t = false by simpa using List.all_eq_true.1 hall t hm)⟩)
    (by kernel_rfl)
end Go.Proofs.YtollcdalokhjaaaDoor.shardGives

theorem Go.Proofs.YtollcdalokhjaaaDoor.shardGives_holds : Go.Proofs.YtollcdalokhjaaaDoor.Rows.ShardGivesCardSaid := Go.Proofs.YtollcdalokhjaaaDoor.shardGives.holds
#print axioms Go.Proofs.YtollcdalokhjaaaDoor.shardGives_holds
