/-
  Several texts in one (RedOpen, RedLaw, RedAwake).
-/
import Derived.Test.YtfcocbgdmmeikaaGreatDoorMRedD
import Derived.Test.YtfcocbgdmmeikaaGreatDoorMRedC
import Derived.Test.YtfcocbgdmmeikaaGreatDoorMDisk
/-! ## Package redo: Open. -/
namespace Go.Proofs.YtfcocbgdmmeikaaGreatDoor
open Go.RowKit Dsk

theorem txF_congr {R R' : Nat → ByteArray} {m : Nat} (h : ∀ i, R' (i % m) = R (i % m)) (p s left : Nat) : txF R' m p s left = txF R m p s left := by
  unfold txF
  simp only [h]
theorem Path.congr {R R' : Nat → ByteArray} {m : Nat} (h : ∀ i, R' (i % m) = R (i % m)) : ∀ {l : List Jnl.Txn} {p s left : Nat}, Path R m p s left l → Path R' m p s left l
  | [], _, _, _, _ => trivial
  | _ :: _, _, _, _, k => ⟨(txF_congr h _ _ _).trans k.1, Path.congr h k.2⟩
theorem Found.congr {R R' : Nat → ByteArray} {m p s : Nat} {l : List Jnl.Txn} (h : ∀ i, R' (i % m) = R (i % m)) (k : Found R m p s l) : Found R' m p s l := ⟨k.1.congr h, (txF_congr h _ _ _).trans k.2⟩
theorem readL_R (d : Dk) (G : Jnl.Geo) (i : Nat) : rowR ((readL d G.base (G.m + 1)).drop 1) (i % G.m) = G.R (Dsk.read d) (i % G.m) := by
  have hi := Nat.mod_lt i (show 0 < G.m by have := G.m3; omega)
  unfold rowR Jnl.Geo.R readL
  generalize i % G.m = j at *
  rw [List.getD_eq_getElem?_getD, List.getElem?_drop, List.getElem?_map, List.getElem?_range (by omega)]
  simp [Nat.add_assoc]
theorem readL_0 (d : Dk) (G : Jnl.Geo) : (readL d G.base (G.m + 1)).getD 0 .empty = Dsk.read d G.base := by
  unfold readL
  simp [List.getD_eq_getElem?_getD, List.range_succ_eq_map]
theorem Open_arg (S : Nat → Prop) (p : Nat) (d : Dk) (base size : Int) (w : World) (h : DiskS S p d w) (hb1 : -9223372036854775808 ≤ base) (hb2 : base ≤ 9223372036854775807) (hr : regB d.lies.length base size = false) :
    Calls Tryz.prog 20 #[.pointer (some ⟨p, 0, none⟩), .int .i64 base, .int .i64 size] w fun e w' => e = .returned (.tuple #[.pointer none, .int .i64 1]) ∧ w = w' := by
  have hi := isRegion_any S p d base size w h hb1 hb2
  rw [hr] at hi
  go_enter Tryz.func20, Tryz.ntmps20
  go_wp2_with (go_at_call 47; refine hi.mono ?_; rintro e w1 ⟨rfl, rfl⟩)
  go_ret2
  exact ⟨rfl, rfl⟩
theorem Open_form (S : Nat → Prop) (p : Nat) (G : Jnl.Geo) (d : Dk) (w : World) (h : DiskS S p d w) (hT : TW w) (hN : d.lies.length = G.N) (hN2 : G.N ≤ 65536) (hon : d.on = true) (hsz : (Dsk.read d G.base).size ≤ 1000000) (hbad : hOk (Dsk.read d G.base) G.m = false) :
    Calls Tryz.prog 20 #[.pointer (some ⟨p, 0, none⟩), .int .i64 (G.base : Int), .int .i64 ((G.m + 1 : Nat) : Int)] w fun e w' => e = .returned (.tuple #[.pointer none, .int .i64 10]) ∧ Below w.heap.size w w' := by
  have hi := isRegion_any S p d (G.base : Int) ((G.m + 1 : Nat) : Int) w h (by omega) (by have := G.h; omega)
  rw [hN, geo_reg] at hi
  have hG := G.h
  have h3 := G.m3
  have hrr := readRegion_any S p d G.base (G.m + 1) w h hon (by omega)
  have hln := readL_len d G.base (G.m + 1)
  have hsc := fun u rv (hv : StrRow u rv (readL d G.base (G.m + 1))) (hT' : TW u) => scan_bad (readL d G.base (G.m + 1)) G.m (Dsk.read d G.base) rv u hv hT' hln (readL_0 d G).symm (by omega) hsz h3 hbad
  have hrow := fun q u (h : TxtRow q (readL d G.base (G.m + 1)) u) => h.row (by rw [hln]; omega)
  rw [hln] at hrow
  generalize readL d G.base (G.m + 1) = ts at *
  clear hln h
  go_enter Tryz.func20, Tryz.ntmps20
  go_wp2_with (first
    | (go_at_call 47; refine hi.mono ?_; rintro e w1 ⟨rfl, rfl⟩)
    | (go_at_call 51; refine hrr.mono ?_; rintro e w2 ⟨q, rfl, hq, b2⟩; have t2 := hT.old b2)
    | (go_at_call 15; refine (hsc _ _ (hrow _ _ hq) t2).mono ?_; rintro e w3 ⟨rfl, b3⟩))
  go_ret2
  exact ⟨rfl, below_step b2 (Nat.le_refl _) b3⟩
set_option maxHeartbeats 6400000 in
set_option maxRecDepth 100000 in
theorem Open_ok (S : Nat → Prop) (p : Nat) (G : Jnl.Geo) (d : Dk) (txs : List Jnl.Txn) (place seq : Nat) (w : World) (h : DiskS S p d w) (hu : Up S w) (hS0 : ¬ S 0) (hT : TW w) (hN : d.lies.length = G.N) (hN2 : G.N ≤ 65536) (hon : d.on = true)
    (hsz : ∀ a, a < G.N → (Dsk.read d a).size ≤ 1000000) (hok : hOk (Dsk.read d G.base) G.m = true) (hf : Found (G.R (Dsk.read d)) G.m (hP (Dsk.read d G.base) G.m) (hS (Dsk.read d G.base) G.m) txs)
    (hpl : place = (hP (Dsk.read d G.base) G.m + Jnl.slots txs) % G.m) (hsq : seq = hS (Dsk.read d G.base) G.m + txs.length) (hown : ∀ t ∈ txs, ∀ y ∈ t, y.1 < G.N ∧ y.2.size = 256) (hb : Bd (d, true) (txs.flatten.length + 10)) :
    Calls Tryz.prog 20 #[.pointer (some ⟨p, 0, none⟩), .int .i64 (G.base : Int), .int .i64 ((G.m + 1 : Nat) : Int)] w fun e w' => ∃ l, w.heap.size ≤ l ∧ FrL l S w w' ∧ e = .returned (.tuple #[if (gos (d, true) (Jnl.opOps RL G place seq txs)).2 then .pointer (some ⟨l, 0, none⟩) else .pointer none, .int .i64 (eOf (gos (d, true) (Jnl.opOps RL G place seq txs)).2)]) ∧ LogS S l p G place seq 0 (gos (d, true) (Jnl.opOps RL G place seq txs)) w' := by
  have hi := isRegion_any S p d (G.base : Int) ((G.m + 1 : Nat) : Int) w h (by omega) (by have := G.h; omega)
  rw [hN, geo_reg] at hi
  have hG := G.h
  have h3 := G.m3
  have hrr := readRegion_any S p d G.base (G.m + 1) w h hon (by omega)
  have hln := readL_len d G.base (G.m + 1)
  have hsl1 : Jnl.slots txs ≤ G.m := hf.1.room
  have hge := slots_ge txs
  have hs0 := hS_le (Dsk.read d G.base) G.m
  have hplm : place < G.m := by rw [hpl]; exact Nat.mod_lt _ (by omega)
  have hseq : seq ≤ 549755813888 + 70000 := by rw [hsq]; omega
  have hsc : ∀ u rv, StrRow u rv (readL d G.base (G.m + 1)) → (∀ a n c, rv = .slice a n c → n ≤ c) → TW u → Calls Tryz.prog 15 #[rv] u fun e w' => ∃ v', e = .returned (.tuple #[.int .i64 (place : Int), .int .i64 (seq : Int), v', .bool true]) ∧ Rows u.heap.size v' txs w' ∧ Below u.heap.size u w' := by
    intro u rv hv hc hT'
    refine (scan_any (readL d G.base (G.m + 1)) G.m (Dsk.read d G.base) rv u hv hc hT' hln (readL_0 d G).symm (by omega) (fun t ht => ?_) h3 hok).mono fun e w' ⟨l, v', he, hF, hR, hB⟩ => ?_
    · unfold readL at ht
      obtain ⟨i, hi', rfl⟩ := List.mem_map.1 ht
      rw [List.mem_range] at hi'
      exact hsz _ (by omega)
    · have := Found.one (hF.congr (fun i => (readL_R d G i).symm)) hf
      subst this
      rw [← hpl, ← hsq] at he
      exact ⟨v', he, hR, hB⟩
  have hrow := fun q u (h : TxtRow q (readL d G.base (G.m + 1)) u) => h.row (by rw [hln]; omega)
  rw [hln] at hrow
  generalize readL d G.base (G.m + 1) = ts at *
  have e0 : Jnl.opOps RL G place seq txs = rdOps G place seq txs ++ ([.w (G.sl place) zeroB] ++ [.f]) := rfl
  have hrl : (rdOps G place seq txs).length ≤ txs.flatten.length + 2 := by
    unfold rdOps
    split
    · simp
    · rw [List.length_append, Jnl.wOps, List.length_map]; exact Nat.le_refl _
  rw [e0, gos_append, gos_append]
  have B1 : Bd (gos (d, true) (rdOps G place seq txs)) 8 := Bd.gos (hb.mono (by omega))
  have N1 : (gos (d, true) (rdOps G place seq txs)).1.lies.length = G.N := (gos_len _ _).trans hN
  have HB := Lib.hid hb
  have HOWN := Lib.hid hown
  clear hln e0 hok hf hpl hsq hsz hge hrl hb hown
  obtain ⟨x1, hx1⟩ : ∃ x1, x1 = gos (d, true) (rdOps G place seq txs) := ⟨_, rfl⟩
  rw [← hx1] at B1 N1 ⊢
  have B2 : Bd (gos x1 [.w (G.sl place) zeroB]) 7 := Bd.gos (show Bd x1 (1 + 7) from B1)
  obtain ⟨x2, hx2⟩ : ∃ x2, x2 = gos x1 [.w (G.sl place) zeroB] := ⟨_, rfl⟩
  rw [← hx2] at B2 ⊢
  obtain ⟨x3, hx3⟩ : ∃ x3, x3 = gos x2 [.f] := ⟨_, rfl⟩
  rw [← hx3]
  have HX1 := Lib.hid hx1
  have HX2 := Lib.hid hx2
  have HX3 := Lib.hid hx3
  obtain ⟨RV, hRV⟩ : ∃ RV : Nat → Value, RV = fun l => if x3.2 = true then Value.pointer (some ⟨l, 0, none⟩) else .pointer none := ⟨_, rfl⟩
  have hRVl : ∀ l, (if x3.2 = true then Value.pointer (some ⟨l, 0, none⟩) else .pointer none) = RV l := fun l => by rw [hRV]
  simp only [hRVl]
  have HRV := Lib.hid hRV
  clear hx1 hx2 hx3 hRV hRVl
  go_enter Tryz.func20, Tryz.ntmps20
  go_upto_region 9 with (first
    | (go_at_call 47; refine hi.mono ?_; rintro e w1 ⟨rfl, rfl⟩)
    | (go_at_call 51; refine hrr.mono ?_; rintro e w2 ⟨q, rfl, hq, b2⟩; have t2 := hT.old b2)
    | (go_at_call 15; refine (hsc _ _ (hrow _ _ hq) (fun a n c e => by injection e with _ e1 e2; omega) t2).mono ?_; rintro e w3 ⟨v', rfl, hR, b3⟩))
  have bb3 := below_step b2 (Nat.le_refl _) b3
  obtain ⟨va, vc, rfl⟩ := hR.slice
  clear hsc hrow hrr hi hq t2
  go_upto_region 10 with fail
  obtain ⟨l, hl⟩ : ∃ l, l = w3.heap.size := ⟨_, rfl⟩
  obtain ⟨w4, hw4⟩ : ∃ w4, w4 = w3.alloc (.cells #[.pointer (some ⟨p, 0, none⟩), .int .i64 0, .int .i64 (G.base : Int), .int .i64 (G.m : Int), .int .i64 (place : Int), .int .i64 (seq : Int), .int .i64 0] 98) := ⟨_, rfl⟩
  have b4 : Below w3.heap.size w3 w4 := by rw [hw4]; exact (Below.refl _ _).alloc (Nat.le_refl _) _
  have hsz2 := b2.size
  have hsz3 := b3.size
  have hsz4 := b4.size
  have hpos := hT.pos
  have hS1 : ∀ k, (S k ∧ k < w.heap.size) ∨ w3.heap.size ≤ k → S k := fun k hk => by
    rcases hk with hk | hk
    · exact hk.1
    · exact hu k (by omega)
  obtain ⟨S1, hS1d⟩ : ∃ S1 : Nat → Prop, S1 = fun k => (S k ∧ k < w.heap.size) ∨ w3.heap.size ≤ k := ⟨_, rfl⟩
  have hS1S : ∀ k, S1 k → S k := fun k hk => by rw [hS1d] at hk; exact hS1 k hk
  have s4 : LogS S1 l p G place seq 0 (d, true) w4 := by
    refine ⟨by rw [hS1d, hl]; exact .inr (Nat.le_refl _), ((h.mono (S' := S1) fun k hk hs => by rw [hS1d]; exact .inl ⟨hs, hk⟩).old bb3).old b4, ?_, by decide, by decide, by decide⟩
    rw [hw4, hl]
    exact heap_alloc_last w3 _
  have u4 : Up S1 w4 := fun k hk => by rw [hS1d]; exact .inr (by omega)
  have n4 : ¬ S1 0 := by
    rw [hS1d]
    rintro (hk | hk)
    · exact hS0 hk.1
    · omega
  have t4 : TW w4 := (hT.old bb3).old b4
  have hB : ∀ k, w2.heap.size ≤ k → k < w3.heap.size → ¬ S1 k := by
    intro k hk1 hk2
    rw [hS1d]
    rintro (hk | hk)
    · omega
    · omega
  have hlw : w.heap.size ≤ l := by omega
  have bb4 : Below w.heap.size w w4 := below_step bb3 (Nat.le_refl _) b4
  have q5 := redo_any S1 l p G place seq 0 w2.heap.size (d, true) _ txs w4 w3 s4 u4 n4 t4 hR b4 hB hN (by omega) (by omega) HOWN.out (by have := slots_ge txs; omega) (HB.out.mono (by omega))
  rw [← HX1.out] at q5
  rw [← hw4, ← hl]
  clear hw4 hl hS1d hS1 hB s4 hR b2 b3 b4 bb3 HB HOWN HX1 h hT
  go_upto_region 11 with (go_at_call 52; refine q5.mono ?_; rintro e w5 ⟨rfl, s5, f5⟩)
  have u5 := u4.mono f5.size
  have hsl := fun u x' (h' : LogS S1 l p G place seq 0 x' u) => slot_any S1 l p G place seq 0 x' 0 u h' hN2 hplm (by omega)
  rw [Nat.add_zero, show ((0 : Nat) : Int) = 0 from rfl] at hsl
  have q6 := fun u (h' : LogS S1 l p G place seq 0 x1 u) (hu' : Up S1 u) => pwrite_any S1 l p _ _ x1 (G.sl place) zeroB u h' hu' (by rw [N1]; exact G.sl_lt _) zeroB_size (B1.mono (by omega))
  rw [← HX2.out] at q6
  have q7 := fun u (h' : LogS S1 l p G place seq 0 x2 u) (hu' : Up S1 u) => pflush_any S1 l p _ _ x2 u h' hu' (B2.mono (by omega))
  rw [← HX3.out] at q7
  clear q5 HX2 HX3
  generalize G.sl place = A at *
  try simp only [Act.put]
  refine wp_region_eff (Lx := fun _ _ => True) [RX.is (.pointer (some ⟨l, 0, none⟩)), RX.is (.pointer (some ⟨l, 0, none⟩)), RX.is (.pointer (some ⟨l, 0, none⟩)), RX.is (.pointer (some ⟨l, 0, none⟩)), RX.is (.int .i64 (A : Int)), RX.is (.string zeroB), RX.any] [6] (fun k u => LogS S1 l p G place seq 0 (if k = 0 then x1 else x2) u ∧ FrL l S1 w5 u) (by kernel_rfl) (by kernel_rfl) (by kernel_rfl) (by kernel_rfl) (by kernel_rfl) (⟨s5.old (below_drewN' 1), FrL.of_below (below_drewN' 1)⟩) ⟨?_, ?_, ?_, ?_, ?_, ?_, ?_, trivial⟩ ?_
  · intro ac w' ph hF hPh hlt hP hU K hK0
    have hK := fun v w2 (hl : Le8 w' w2) ht => hK0 v w2 (trivial) (⟨hPh.1.old hl, hPh.2.trans (FrL.of_below hl)⟩) ht
    have e14 : ac.eval (.tmp 14) = .pointer (some ⟨l, 0, none⟩) := hF.at 14 (by kernel_rfl)
    exact rop_move _ rfl e14 (wanted_none rfl) (hK _ _ (le8_refl _) rfl)
  · intro ac w' ph hF hPh hlt hP hU K hK0
    have hK := fun v w2 (hl : Le8 w' w2) ht => hK0 v w2 (trivial) (⟨hPh.1.old hl, hPh.2.trans (FrL.of_below hl)⟩) ht
    have e51 : ac.eval (.tmp 51) = .pointer (some ⟨l, 0, none⟩) := hP 0 (by kernel_rfl)
    exact rop_nil _ rfl e51 (wanted_none rfl) (hK _ _ (le8_refl _) rfl)
  · intro ac w' ph hF hPh hlt hP hU K hK0
    have hK := fun v w2 (hl : Le8 w' w2) ht => hK0 v w2 (trivial) (⟨hPh.1.old hl, hPh.2.trans (FrL.of_below hl)⟩) ht
    have e52 : ac.eval (.tmp 52) = .pointer (some ⟨l, 0, none⟩) := hP 1 (by kernel_rfl)
    exact rop_fld _ _ _ rfl e52 ((logFld l _).1) (wanted_none rfl) (hK _ _ (le8_refl _) rfl)
  · intro ac w' ph hF hPh hlt hP hU K hK0
    have hK := fun v w2 (hl : Le8 w' w2) ht => hK0 v w2 (trivial) (⟨hPh.1.old hl, hPh.2.trans (FrL.of_below hl)⟩) ht
    have e14 : ac.eval (.tmp 14) = .pointer (some ⟨l, 0, none⟩) := hF.at 14 (by kernel_rfl)
    exact rop_move _ rfl e14 (wanted_none rfl) (hK _ _ (le8_refl _) rfl)
  · intro ac w' ph hF hPh hlt hP hU K hK0
    have hK := fun v w2 (hl : Le8 w' w2) ht => hK0 v w2 (trivial) (⟨hPh.1.old hl, hPh.2.trans (FrL.of_below hl)⟩) ht
    have e54 : ac.eval (.tmp 54) = .pointer (some ⟨l, 0, none⟩) := hP 3 (by kernel_rfl)
    refine rop_call 53 _ _ rfl #[.pointer (some ⟨l, 0, none⟩), .int .i64 0] (by simp [e54, eval_const]) (by kernel_rfl) (wanted_none rfl) ?_
    refine (hsl _ _ hPh.1).mono ?_
    rintro e w2 ⟨rfl, hb⟩
    exact ⟨_, rfl, hK _ _ hb rfl⟩
  · intro ac w' ph hF hPh hlt hP hU K hK0
    have hK := fun v w2 (hl : Le8 w' w2) ht => hK0 v w2 (trivial) (⟨hPh.1.old hl, hPh.2.trans (FrL.of_below hl)⟩) ht
    refine rop_call 49 _ _ rfl #[] (by simp) (by kernel_rfl) (wanted_none rfl) ?_
    refine (zerosR_any _).mono ?_
    rintro e w2 ⟨rfl, hb⟩
    exact ⟨_, rfl, hK _ _ hb rfl⟩
  · intro ac w' ph hF hPh hlt hP hU K hK0
    obtain rfl : ph = 0 := (hlt 0 6 rfl).1 rfl
    have e53 : ac.eval (.tmp 53) = .pointer (some ⟨l, 0, none⟩) := hP 2 (by kernel_rfl)
    have e55 : ac.eval (.tmp 55) = .int .i64 (A : Int) := hP 4 (by kernel_rfl)
    have e56 : ac.eval (.tmp 56) = .string zeroB := hP 5 (by kernel_rfl)
    refine rop_call 48 _ _ rfl #[.pointer (some ⟨l, 0, none⟩), .int .i64 (A : Int), .string zeroB] (by simp [e53, e55, e56]) (by kernel_rfl) (wanted_none rfl) ?_
    refine (q6 _ hPh.1 (u5.mono hPh.2.size)).mono ?_
    rintro e w3 ⟨rfl, h3, f3⟩
    exact ⟨_, rfl, hK0 _ _ trivial ⟨h3, hPh.2.trans f3⟩ trivial⟩
  · intro ac w' hF hPh hT
    rw [hF.sets [51, 52, 53, 54, 55, 56, 57] (by kernel_rfl)]
    simp only [List.foldl_cons, List.foldl_nil, List.setIfInBounds_toArray, List.set_cons_succ, List.set_cons_zero]
    generalize ac.eval (.tmp 51) = u51
    generalize ac.eval (.tmp 52) = u52
    generalize ac.eval (.tmp 53) = u53
    generalize ac.eval (.tmp 54) = u54
    generalize ac.eval (.tmp 55) = u55
    generalize ac.eval (.tmp 56) = u56
    generalize ac.eval (.tmp 57) = u57
    clear  hT hF ac
    have s6 : LogS S1 l p G place seq 0 x2 w' := hPh.1
    have f6 := hPh.2
    have u6 := u5.mono f6.size
    clear hPh q6 hsl
    go_upto_region 13 with (go_at_call 50; refine (q7 _ s6 u6).mono ?_; rintro e w7 ⟨rfl, s7, f7⟩)
    have ff : FrL l S w w7 := (FrL.of_below bb4).trans (((f5.trans f6).trans f7).mono fun k _ hk => hS1S k hk)
    have c1 := s7.c1
    have S7 := Lib.hid s7
    clear q7 s6 s7 f5 f6 f7
    cases hx : x3.2 with
    | true =>
      have hRVt : RV l = .pointer (some ⟨l, 0, none⟩) := by rw [HRV.out]; show (if x3.2 = true then _ else _) = _; rw [if_pos hx]
      rw [hx, show eOf true = 0 from rfl] at c1
      have HRT := Lib.hid hRVt
      have HX := Lib.hid hx
      clear hRVt hx
      go_wp2
      go_ret2
      exact ⟨l, hlw, ff, by rw [HRT.out, HX.out]; rfl, S7.out.mono fun k _ hk => hS1S k hk⟩
    | false =>
      have hRVt : RV l = .pointer none := by rw [HRV.out]; show (if x3.2 = true then _ else _) = _; rw [if_neg (by rw [hx]; decide)]
      rw [hx, show eOf false = 14 from rfl] at c1
      have HRT := Lib.hid hRVt
      have HX := Lib.hid hx
      clear hRVt hx
      go_upto_region 14 with fail
      go_quiet (fail)
      go_wp2
      go_ret2
      exact ⟨l, hlw, ff.trans (FrL.of_below (below_drewN' _)), by rw [HRT.out, HX.out]; rfl, (S7.out.old (below_drewN' _)).mono fun k _ hk => hS1S k hk⟩
end Go.Proofs.YtfcocbgdmmeikaaGreatDoor
/-! ## A log, as a law sees it: Format, Open, Commit by contracts that speak of what the journal comes to. -/
namespace Go.Proofs.YtfcocbgdmmeikaaGreatDoor
open Go.RowKit Dsk

/-! ### All sectors are of some size -/
def Sz (d : Dk) : Prop := (∀ a, a < d.lies.length → (d.lies.getD a .empty).size ≤ 1000000) ∧ ∀ x ∈ d.cache, x.2.size ≤ 1000000
theorem Sz.poss {d : Dk} (h : Sz d) {a : Nat} {v : ByteArray} (ha : a < d.lies.length) (hp : Jnl.Poss d a v) : v.size ≤ 1000000 := by
  rcases hp with rfl | hp
  · exact h.1 a ha
  · exact h.2 _ hp
theorem Sz.read {d : Dk} (h : Sz d) {a : Nat} (ha : a < d.lies.length) : (Dsk.read d a).size ≤ 1000000 := h.poss ha (Jnl.read_poss d a)
theorem Sz.step {d : Dk} (h : Sz d) : Sz (Dsk.step d) := by
  unfold Sz
  rw [step_lies, step_cache]
  exact h
theorem Sz.write {d : Dk} (h : Sz d) {a : Nat} {v : ByteArray} (hv : v.size ≤ 1000000) : Sz (Dsk.write d a v) := by
  unfold Dsk.write
  split
  · refine ⟨by show ∀ b, b < (Dsk.step d).lies.length → _; rw [step_lies]; exact fun b hb => by show ((Dsk.step d).lies.getD b .empty).size ≤ _; rw [step_lies]; exact h.1 b hb, fun x hx => ?_⟩
    have hx' : x ∈ (Dsk.step d).cache ++ [(a, v)] := hx
    rw [step_cache] at hx'
    rcases List.mem_append.1 hx' with hx' | hx'
    · exact h.2 x hx'
    · rw [List.mem_singleton] at hx'; subst hx'; exact hv
  · exact h.step
theorem Sz.flush {d : Dk} (h : Sz d) : Sz (Dsk.flush d) := by
  have hl := flush_len d
  refine ⟨fun a ha => ?_, fun x hx => ?_⟩
  · rw [hl] at ha
    exact h.poss ha (Jnl.flush_poss ha (.inl rfl))
  · unfold Dsk.flush at hx
    split at hx
    · exact (List.not_mem_nil hx).elim
    · rw [step_cache] at hx; exact h.2 x hx
theorem Sz.crash {d : Dk} (h : Sz d) (pick : Nat → Bool) : Sz (Dsk.crash d pick) := by
  refine ⟨fun a ha => ?_, fun x hx => (List.not_mem_nil hx).elim⟩
  rw [Jnl.crash_len] at ha
  exact h.poss ha (Jnl.crash_poss d pick a ha)
theorem Sz.arm {d : Dk} (h : Sz d) (n : Nat) : Sz (Dsk.arm d n) := by
  unfold Dsk.arm
  split
  · exact h
  · exact h
theorem Sz.new (n : Nat) : Sz (Dsk.new n) := by
  refine ⟨fun a ha => ?_, fun x hx => (List.not_mem_nil hx).elim⟩
  have ha' : a < n := by
    have hh : (Dsk.new n).lies.length = n := List.length_replicate
    omega
  show ((List.replicate n zeroB).getD a .empty).size ≤ _
  rw [List.getD_eq_getElem?_getD, List.getElem?_replicate, if_pos ha']
  show zeroB.size ≤ _
  rw [zeroB_size]; decide
/-- Steps that write sectors of some size. -/
def SzO (l : List Jnl.O) : Prop := ∀ a v, Jnl.O.w a v ∈ l → v.size ≤ 1000000
theorem Sz.go : ∀ {l : List Jnl.O} {d : Dk}, Sz d → SzO l → Sz (Jnl.go d l).1
  | [], _, h, _ => h
  | o :: l, d, h, hl => by
    unfold Jnl.go
    split
    · refine Sz.go ?_ fun a v hm => hl a v (List.mem_cons_of_mem _ hm)
      cases o with
      | w a v => exact h.write (hl a v (by simp))
      | f => exact h.flush
    · exact h.step
theorem SzO.append {a b : List Jnl.O} (ha : SzO a) (hb : SzO b) : SzO (a ++ b) := fun x v h => by
  rcases List.mem_append.1 h with h | h
  · exact ha x v h
  · exact hb x v h
theorem SzO.one {a : Nat} {v : ByteArray} (h : v.size ≤ 1000000) : SzO [.w a v] := fun x u hm => by
  simp at hm
  rw [hm.2]; exact h
theorem SzO.f : SzO [.f] := fun x u hm => by simp at hm
theorem SzO.ws {t : Jnl.Txn} (h : ∀ y ∈ t, y.2.size ≤ 1000000) : SzO (Jnl.wOps t) := fun x u hm => by
  unfold Jnl.wOps at hm
  obtain ⟨y, hy, e⟩ := List.mem_map.1 hm
  injection e with _ e
  rw [← e]; exact h y hy
theorem SzO.mid {G : Jnl.Geo} : ∀ {t : Jnl.Txn} {c : Nat}, (∀ y ∈ t, y.2.size ≤ 1000000) → SzO (Jnl.midOps G c t)
  | [], _, _ => fun x u hm => by simp [Jnl.midOps] at hm
  | y :: t, c, h => fun x u hm => by
    unfold Jnl.midOps at hm
    rcases List.mem_cons.1 hm with e | hm
    · injection e with _ e; rw [e]; exact h y (by simp)
    · exact SzO.mid (fun z hz => h z (List.mem_cons_of_mem _ hz)) x u hm
theorem line_le (mark : List UInt8) (l : List Nat) : (lineB mark l).size ≤ 1000000 := by
  unfold lineB fillS
  split
  · rename_i h
    rw [ByteArray.size_append, zs_size]
    omega
  · exact Nat.zero_le _
theorem zeroB_le : zeroB.size ≤ 1000000 := by rw [zeroB_size]; decide
theorem szo_ck {G : Jnl.Geo} (place seq : Nat) : SzO (Jnl.ckOps RL G place seq) := SzO.f.append ((SzO.one (line_le _ _)).append SzO.f)
theorem szo_cm {G : Jnl.Geo} (place seq : Nat) {t : Jnl.Txn} (h : ∀ y ∈ t, y.2.size ≤ 1000000) : SzO (Jnl.cmOps RL G place seq t) := by
  have e : Jnl.cmOps RL G place seq t = [.w (G.sl (place + (t.length + 1))) zeroB] ++ ([.w (G.sl (place + (t.length + 2))) zeroB] ++ ([.f] ++ ([.w (G.sl place) (fsL seq (t.map Prod.fst))] ++ (Jnl.midOps G (place + 1) t ++ ([.f] ++ ([.w (G.sl (place + (t.length + 1))) (lsL seq t.length)] ++ ([.f] ++ Jnl.wOps t))))))) := by
    unfold Jnl.cmOps
    simp [RL]
  rw [e]
  exact (SzO.one zeroB_le).append ((SzO.one zeroB_le).append (SzO.f.append ((SzO.one (line_le _ _)).append ((SzO.mid h).append (SzO.f.append ((SzO.one (line_le _ _)).append (SzO.f.append (SzO.ws h))))))))
theorem szo_all {G : Jnl.Geo} (place seq used : Nat) {t : Jnl.Txn} (h : ∀ y ∈ t, y.2.size ≤ 1000000) : SzO (cAll G place seq used t) := by
  unfold cAll
  refine SzO.append ?_ (szo_cm place seq h)
  split
  · exact szo_ck place seq
  · exact fun x u hm => by simp at hm
theorem szo_op {G : Jnl.Geo} (place seq : Nat) {l : List Jnl.Txn} (h : ∀ t ∈ l, ∀ y ∈ t, y.2.size ≤ 1000000) : SzO (Jnl.opOps RL G place seq l) := by
  unfold Jnl.opOps
  refine SzO.append ?_ ((SzO.one zeroB_le).append SzO.f)
  split
  · exact fun x u hm => by simp at hm
  · refine (SzO.ws fun y hy => ?_).append (SzO.f.append (SzO.one (line_le _ _)))
    obtain ⟨t, ht, hy⟩ := List.mem_flatten.1 hy
    exact h t ht y hy
theorem szo_fm {G : Jnl.Geo} : SzO (Jnl.fmOps RL G) := show SzO ([.w G.base (hdL 0 1)] ++ ([.w (G.sl 0) zeroB] ++ [.f])) from (SzO.one (line_le _ _)).append ((SzO.one zeroB_le).append SzO.f)
theorem Sz.gos {d : Dk} {l : List Jnl.O} (h : Sz d) (hl : SzO l) : Sz (Go.Proofs.YtfcocbgdmmeikaaGreatDoor.gos (d, true) l).1 := Sz.go h hl

/-! ### The law's log -/
/-- Block l is a log that is open on disk p: S is what it comes to, q the next number, u slots are used. -/
def LG (Sy : Nat → Prop) (l p : Nat) (G : Jnl.Geo) (d : Dk) (S : Jnl.Im) (q u : Nat) (w : World) : Prop := ∃ place, LogA G d S q u place ∧ LogS Sy l p G place q u (d, true) w
/-- What lies is a journal that comes to S, with few transactions. -/
theorem flat_slots (l : List Jnl.Txn) : l.flatten.length ≤ Jnl.slots l := by
  induction l with
  | nil => exact Nat.le_refl _
  | cons t l ih => unfold Jnl.slots; rw [List.flatten_cons, List.length_append]; omega
theorem Open_lawc (Sy : Nat → Prop) (p : Nat) (G : Jnl.Geo) (d : Dk) (S : Jnl.Im) (q : Nat) (w : World) (h : DiskS Sy p d w) (hu : Up Sy w) (hS0 : ¬ Sy 0) (hT : TW w) (hN : d.lies.length = G.N) (hN2 : G.N ≤ 1000) (hon : d.on = true) (hc : d.cache = []) (hz : Sz d)
    (hg : Jnl.IsGood RL G (imOf d) S q) (hq : q ≤ 549755813888) (hb : Bd (d, true) 2000) :
    Calls Tryz.prog 20 #[.pointer (some ⟨p, 0, none⟩), .int .i64 (G.base : Int), .int .i64 ((G.m + 1 : Nat) : Int)] w fun e w' => ∃ l x, w.heap.size ≤ l ∧ FrL l Sy w w' ∧ e = .returned (.tuple #[if x.2 then .pointer (some ⟨l, 0, none⟩) else .pointer none, .int .i64 (eOf x.2)]) ∧ DiskS Sy p x.1 w' ∧ Sz x.1 ∧ x.1.lies.length = G.N ∧ x.1.steps ≤ d.steps + 2000 ∧ x.1.cache.length ≤ d.cache.length + 2000 ∧ Left (fun L => Jnl.IsGood RL G L S q) (fun d' => LG Sy l p G d' S q 0 w' ∧ d'.cache = []) x ∧ (d.armed = false → x.2 = true ∧ x.1.armed = false) := by
  obtain ⟨pp, s, txs, hg⟩ := hg
  have hG := G.h
  have h3 := G.m3
  have hrd : Dsk.read d = imOf d := funext fun a => by unfold Dsk.read; rw [hc]; rfl
  have hlp := hg.lp
  have hls := hg.ls
  have hlq := hg.lq
  have hro := hg.room
  have hhd : Dsk.read d G.base = hdL pp s := by rw [hrd]; exact hg.head
  obtain ⟨k1, k2, k3⟩ := hOk_line (m := G.m) (by omega) hlp hls (show s ≤ 549755813888 by omega)
  have hf := good_found hg (by omega)
  rw [← hrd] at hf
  have hfl := flat_slots txs
  obtain ⟨place, hpl⟩ : ∃ place, place = (pp + Jnl.slots txs) % G.m := ⟨_, rfl⟩
  have hown : ∀ t ∈ txs, ∀ y ∈ t, y.1 < G.N ∧ y.2.size = 256 := fun t ht y hy => ⟨(hg.own t ht y hy).1.1, (hg.own t ht y hy).2⟩
  have hlo : (Jnl.opOps RL G place q txs).length ≤ 1900 := by
    unfold Jnl.opOps
    rw [List.length_append]
    split
    · simp
    · rw [List.length_append, Jnl.wOps, List.length_map]
      simp only [List.length_cons, List.length_nil]
      omega
  have hab := open_abs hon hN hc hg hpl
  have hop := Open_ok Sy p G d txs place q w h hu hS0 hT hN (by omega) hon (fun a ha => hz.read (by omega)) (by rw [hhd]; exact k1) (by rw [hhd, k2, k3]; exact hf) (by rw [hhd, k2]; exact hpl) (by rw [hhd, k3]; exact hlq.symm) hown (hb.mono (by omega))
  refine hop.mono fun e w' ⟨l, hl, hfr, he, hL⟩ => ⟨l, _, hl, hfr, he, hL.disk, hz.gos (szo_op _ _ fun t ht y hy => by have := (hown t ht y hy).2; omega), (gos_len _ _).trans hN, ?_, ?_, ⟨hab.on, hab.safe, fun e => ⟨⟨place, (hab.all e).1, ?_⟩, (hab.all e).2⟩⟩, fun ha => gos_free _ d hon ha⟩
  · have := (Jnl.go_bound (Jnl.opOps RL G place q txs) d).1
    rw [gos_on]
    omega
  · have := (Jnl.go_bound (Jnl.opOps RL G place q txs) d).2
    rw [gos_on]
    omega
  · have hx : gos (d, true) (Jnl.opOps RL G place q txs) = ((gos (d, true) (Jnl.opOps RL G place q txs)).1, true) := Prod.ext rfl e
    rw [hx] at hL
    exact hL
theorem Open_law (Sy : Nat → Prop) (p : Nat) (G : Jnl.Geo) (d : Dk) (S : Jnl.Im) (q : Nat) (w : World) (h : DiskS Sy p d w) (hu : Up Sy w) (hS0 : ¬ Sy 0) (hT : TW w) (hN : d.lies.length = G.N) (hN2 : G.N ≤ 1000) (hon : d.on = true) (hc : d.cache = []) (hz : Sz d)
    (hg : Jnl.IsGood RL G (imOf d) S q) (hq : q ≤ 549755813888) (hb : Bd (d, true) 2000) :
    Calls Tryz.prog 20 #[.pointer (some ⟨p, 0, none⟩), .int .i64 (G.base : Int), .int .i64 ((G.m + 1 : Nat) : Int)] w fun e w' => ∃ l x, w.heap.size ≤ l ∧ FrL l Sy w w' ∧ e = .returned (.tuple #[if x.2 then .pointer (some ⟨l, 0, none⟩) else .pointer none, .int .i64 (eOf x.2)]) ∧ DiskS Sy p x.1 w' ∧ Sz x.1 ∧ x.1.lies.length = G.N ∧ x.1.steps ≤ d.steps + 2000 ∧ Left (fun L => Jnl.IsGood RL G L S q) (fun d' => LG Sy l p G d' S q 0 w' ∧ d'.cache = []) x ∧ (d.armed = false → x.2 = true ∧ x.1.armed = false) :=
  (Open_lawc Sy p G d S q w h hu hS0 hT hN hN2 hon hc hz hg hq hb).mono fun _e _w' ⟨l, x, hl, hF, he, hD, z', l', s', _, hL, ha⟩ => ⟨l, x, hl, hF, he, hD, z', l', s', hL, ha⟩
theorem Format_law (Sy : Nat → Prop) (p : Nat) (G : Jnl.Geo) (d : Dk) (w : World) (h : DiskS Sy p d w) (hu : Up Sy w) (hS0 : ¬ Sy 0) (hT : TW w) (hN : d.lies.length = G.N) (hN2 : G.N ≤ 1000) (hon : d.on = true) (ha : d.armed = false) (hc : d.cache = []) (hz : Sz d) (hb : Bd (d, true) 3) :
    Calls Tryz.prog 19 #[.pointer (some ⟨p, 0, none⟩), .int .i64 (G.base : Int), .int .i64 ((G.m + 1 : Nat) : Int)] w fun e w' => ∃ d', e = .returned (.int .i64 0) ∧ DiskS Sy p d' w' ∧ FrL w.heap.size Sy w w' ∧ Sz d' ∧ d'.lies.length = G.N ∧ d'.steps ≤ d.steps + 3 ∧ d'.on = true ∧ d'.armed = false ∧ d'.cache = [] ∧ Jnl.IsGood RL G (imOf d') (imOf d) 1 := by
  obtain ⟨f1, f2, f3, f4, f5, f6⟩ := format_abs hon ha hN hc
  refine (Format_ok Sy p G d w h hu hS0 hT hN (by omega) hb).mono fun e w' ⟨he, hD, hF⟩ => ⟨_, by rw [he, f1]; rfl, hD, hF, hz.gos szo_fm, f5, ?_, f2, f3, f4, ⟨_, _, _, f6⟩⟩
  have := (Jnl.go_bound (Jnl.fmOps RL G) d).1
  rw [gos_on]
  exact this
/-- A commit that is done, or during which power goes. -/
theorem Commit_law (Sy : Nat → Prop) (l p : Nat) (G : Jnl.Geo) (d : Dk) (S : Jnl.Im) (q u : Nat) (v : Value) (t : Jnl.Txn) (g : Nat) (w : World) (h : LG Sy l p G d S q u w) (hu : Up Sy w) (hS0 : ¬ Sy 0) (hT : TW w) (hv : PutsR w v (zT t) g) (hg : g < w.heap.size → ¬ Sy g)
    (hN2 : G.N ≤ 1000) (hz : Sz d) (hq : q ≤ 549755813888) (h1 : 1 ≤ t.length) (hr : t.length ≤ roomN G) (ht : ∀ y ∈ t, G.Data y.1 ∧ y.2.size = 256) (hb : Bd (d, true) 203) :
    Calls Tryz.prog 28 #[.pointer (some ⟨l, 0, none⟩), v] w fun e w' => ∃ x : Dk × Bool, e = .returned (.int .i64 (eOf x.2)) ∧ FrL l Sy w w' ∧ DiskS Sy p x.1 w' ∧ Sz x.1 ∧ x.1.lies.length = G.N ∧ x.1.steps ≤ d.steps + 203 ∧ x.1.cache.length ≤ d.cache.length + 203 ∧
      Left (fun L => Jnl.IsGood RL G L S q ∨ Jnl.IsGood RL G L (fun a => Jnl.after t a (S a)) (q + 1)) (fun d' => LG Sy l p G d' (fun a => Jnl.after t a (S a)) (q + 1) (uAfter G.m u t.length) w') x ∧ (x.2 = false → ∃ pl sq us, LogS Sy l p G pl sq us x w') ∧ (d.armed = false → x.2 = true ∧ x.1.armed = false) := by
  obtain ⟨place, hA, hL⟩ := h
  have hG := G.h
  have hN := hA.len
  have hr60 : t.length ≤ 60 := Nat.le_trans hr (Nat.min_le_left _ _)
  have hrm : t.length + 3 ≤ G.m := by have := Nat.le_trans hr (Nat.min_le_right 60 (G.m - 3)); have := G.m3; omega
  have hab := commit_abs hA (by omega) h1 hr60 (fun y hy => by have := (ht y hy).1.1; omega) ht hrm
  have hlo : (cAll G place q u t).length ≤ 203 := by
    unfold cAll Jnl.cmOps
    have := mid_len G t (place + 1)
    split <;> simp [Jnl.ckOps, Jnl.wOps, this] <;> omega
  have hbd := Jnl.go_bound (cAll G place q u t) d
  refine (Commit_ok Sy l p G place q u d v g w t hL hu hS0 hT hv hg hN (by omega) hA.place hq hA.room h1 hr ht hb).mono fun e w' ⟨r, he, hre, hf, hy, hn⟩ => ⟨gos (d, true) (cAll G place q u t), by rw [he, hre], hf, ?_, hz.gos (szo_all _ _ _ fun y hy' => by have := (ht y hy').2; omega), (gos_len _ _).trans hN, ?_, ?_, ⟨hab.on, hab.safe, fun e => ⟨_, hab.all e, ?_⟩⟩, hn, fun ha => gos_free _ d hA.on ha⟩
  · cases hx : (gos (d, true) (cAll G place q u t)).2 with
    | true => exact (hy hx).disk
    | false => obtain ⟨_, _, _, hh⟩ := hn hx; exact hh.disk
  · rw [gos_on]; omega
  · rw [gos_on]; omega
  · have hx : gos (d, true) (cAll G place q u t) = ((gos (d, true) (cAll G place q u t)).1, true) := Prod.ext rfl e
    have := hy e
    rw [hx] at this
    exact this
end Go.Proofs.YtfcocbgdmmeikaaGreatDoor
/-! ## The statements' awake: the chapter's examples of a journal. -/
namespace Go.Proofs.YtfcocbgdmmeikaaGreatDoor
open Go.RowKit Dsk

theorem with7_any (c : UInt8) (w : World) :
    Calls Tryz.prog 14 #[.int .u8 (c.toNat : Int)] w fun e w' => e = .returned (.string (withB c)) ∧ Below w.heap.size w w' := by
  have hc : (c.toNat : Int) ≤ 255 := by have := c.toNat_lt; omega
  have hcv := fun u => convert_one u (c.toNat : Int) c rfl
  unfold withB
  obtain ⟨S, hS⟩ : ∃ S : ByteArray, S = ⟨#[c]⟩ := ⟨_, rfl⟩
  have hs1 : S.size ≤ 1000000 := by rw [hS, one_len]; decide
  rw [← hS] at hcv ⊢
  clear hS
  go_enter Tryz.func14, Tryz.ntmps14
  go_wp2_with (go_at_call 38; refine (refFill_any S _ hs1).mono ?_; rintro e w1 ⟨rfl, hb1⟩)
  go_ret
  exact ⟨rfl, below_step ((Below.refl _ _).alloc (Nat.le_refl _) _) (Nat.le_refl _) hb1⟩
theorem crashS (Sy : Nat → Prop) (p : Nat) (d : Dk) (w : World) (h : DiskS Sy p d w) (v : Value) (ps : List Int) (b : Nat) (hps : Ints w v ps b) (hb : b < w.heap.size → ¬ Sy b) :
    Calls Tryz.prog 23 #[.pointer (some ⟨p, 0, none⟩), v] w fun e w' => e = .returned (.tuple #[]) ∧ DiskS Sy p (Dsk.crash d (odd ps)) w' ∧ ∀ b, FrL b Sy w w' := by
  obtain ⟨h1, bl, cv, h2, h3, h4⟩ := h
  refine (crash_disk p bl cv d w h4 v ps b hps fun hlt e => hb hlt (e ▸ h2)).mono fun e w' ⟨he, hd, hf⟩ => ⟨he, ⟨h1, bl, _, h2, (fun k e => by simp [Value.ownBlock] at e), hd⟩, fun b => frl_of b h4 h1 h2 h3 hf⟩
theorem LG.mono {Sy Sy' : Nat → Prop} {l p : Nat} {G : Jnl.Geo} {d : Dk} {S : Jnl.Im} {q u : Nat} {w : World} (h : LG Sy l p G d S q u w) (hs : ∀ k, k < w.heap.size → Sy k → Sy' k) : LG Sy' l p G d S q u w := by
  obtain ⟨place, h1, h2⟩ := h
  exact ⟨place, h1, h2.mono hs⟩
theorem LG.old {Sy : Nat → Prop} {l p : Nat} {G : Jnl.Geo} {d : Dk} {S : Jnl.Im} {q u : Nat} {w w' : World} (h : LG Sy l p G d S q u w) (hb : Below w.heap.size w w') : LG Sy l p G d S q u w' := by
  obtain ⟨place, h1, h2⟩ := h
  exact ⟨place, h1, h2.old hb⟩
theorem LG.disk {Sy : Nat → Prop} {l p : Nat} {G : Jnl.Geo} {d : Dk} {S : Jnl.Im} {q u : Nat} {w : World} (h : LG Sy l p G d S q u w) : DiskS Sy p d w := by
  obtain ⟨place, h1, h2⟩ := h
  exact h2.disk
theorem LG.a {Sy : Nat → Prop} {l p : Nat} {G : Jnl.Geo} {d : Dk} {S : Jnl.Im} {q u : Nat} {w : World} (h : LG Sy l p G d S q u w) : ∃ place, LogA G d S q u place := by
  obtain ⟨place, h1, h2⟩ := h
  exact ⟨place, h1⟩
/-- What a log reads beside its region. -/
theorem LG.read {Sy : Nat → Prop} {l p : Nat} {G : Jnl.Geo} {d : Dk} {S : Jnl.Im} {q u : Nat} {w : World} (h : LG Sy l p G d S q u w) {a : Nat} (ha : G.Data a) : Calls Tryz.prog 32 #[.pointer (some ⟨l, 0, none⟩), .int .i64 (a : Int)] w fun e w' => e = .returned (.tuple #[.string (S a), .int .i64 0]) ∧ Below w.heap.size w w' := by
  obtain ⟨place, h1, h2⟩ := h
  have hr := readL_any Sy l p G place q u w d (a : Int) h2
  have hh : hasB d.lies.length (a : Int) = true := by
    unfold hasB
    rw [h1.len]
    simp only [Bool.and_eq_true, decide_eq_true_eq]
    have := ha.1
    omega
  have e1 : readS d (a : Int) = S a := by
    unfold readS
    rw [hh, h1.on, if_pos (show (true && true) = true from rfl), Int.toNat_natCast]
    exact h1.read ha
  have e2 : readE d (a : Int) = 0 := by
    unfold readE
    rw [hh, h1.on, if_pos rfl, if_pos rfl]
  rw [e1, e2] at hr
  exact hr
theorem FrL.below {b B : Nat} {Sy : Nat → Prop} {w w' : World} (h : FrL b Sy w w') (hB : B ≤ w.heap.size) (hs : ∀ k, Sy k → B ≤ k) : Below B w w' := h.fr.below hB fun k hk e => by have := hs k e; omega
theorem puts_one (w : World) (a : Nat) (X : ByteArray) : PutsR (w.alloc (.cells #[.int .i64 (a : Int), .string X] 64)) (.slice (some ⟨w.heap.size, 0, none⟩) 1 1) (zT [(a, X)]) w.heap.size := by
  refine ⟨_, 1, rfl, ⟨Nat.le_refl 1, by decide⟩, fun _ => ⟨0, rfl, by simp, fun j hj => ?_⟩⟩
  obtain rfl : j = 0 := by simpa [zT] using hj
  rw [cell_of (heap_alloc_last w _), cell_of (heap_alloc_last w _)]
  exact ⟨rfl, rfl⟩
/-- The examples' journal. -/
def G8 : Jnl.Geo := ⟨12, 0, 7, by decide, by decide⟩
/-- The examples' commit. -/
theorem commit_one (Sy : Nat → Prop) (l p : Nat) (d : Dk) (S0 : Jnl.Im) (X : ByteArray) (w : World) (hup : ∀ u : World, w.heap.size ≤ u.heap.size → Up Sy u) (hge : ∀ k, Sy k → w.heap.size ≤ k) (hS0 : ¬ Sy 0) (hTb : ∀ u, Below w.heap.size w u → TW u) (hX : X.size = 256) (u : World) (h : LG Sy l p G8 d S0 1 0 u) (hb : Below w.heap.size w u) (hz : Sz d) (h7 : d.steps ≤ 10000) (h8 : d.cache.length ≤ 1000) (ha : d.armed = false) :
    Calls Tryz.prog 28 #[.pointer (some ⟨l, 0, none⟩), .slice (some ⟨u.heap.size, 0, none⟩) 1 1] (u.alloc (.cells #[.int .i64 9, .string X] 64)) fun e w' => ∃ d', e = .returned (.int .i64 0) ∧ Below w.heap.size u w' ∧ LG Sy l p G8 d' (fun a => Jnl.after [(9, X)] a (S0 a)) 2 3 w' ∧ Sz d' ∧ d'.lies.length = 12 ∧ d'.steps ≤ d.steps + 203 := by
  have hb1 : Below u.heap.size u (u.alloc (.cells #[.int .i64 9, .string X] 64)) := (Below.refl _ _).alloc (Nat.le_refl _) _
  have hsz : (u.alloc (.cells #[.int .i64 9, .string X] 64)).heap.size = u.heap.size + 1 := World.size_alloc _ _
  have hbw := below_step hb (Nat.le_refl _) hb1
  have hl := (h.mono (Sy' := fun k => Sy k ∧ k ≠ u.heap.size) fun k hk hs => ⟨hs, by omega⟩).old hb1
  refine (Commit_law (fun k => Sy k ∧ k ≠ u.heap.size) l p G8 d S0 1 0 _ [(9, X)] u.heap.size _ hl (fun k hk => ⟨hup _ hbw.size k hk, by omega⟩) (fun hh => hS0 hh.1) (hTb _ hbw) (puts_one u 9 X) (fun _ hh => hh.2 rfl) (by decide) hz (by decide) (show 1 ≤ 1 by decide) (show 1 ≤ roomN G8 by decide) (fun y hy => ?_) ⟨by show d.steps + 203 ≤ _; omega, by show d.cache.length + 203 ≤ _; omega⟩).mono fun e w' ⟨x, he, hf, hD, hz', hn, hs, _, hL, _, hr⟩ => ?_
  · simp at hy
    subst hy
    exact ⟨show (9 : Nat) < 12 ∧ ¬ ((0 : Nat) ≤ 9 ∧ 9 ≤ 0 + 7) by decide, hX⟩
  · obtain ⟨r1, r2⟩ := hr ha
    rw [r1] at he
    have hge2 : ∀ k, (Sy k ∧ k ≠ u.heap.size) → w.heap.size ≤ k := fun k hk => hge k hk.1
    exact ⟨x.1, he, (hb1.mono hb.size).trans (hf.below (by rw [hsz]; have := hb.size; omega) hge2), (hL.all r1).mono fun k _ hk => hk.1, hz', hn, hs⟩
set_option maxHeartbeats 6400000 in
set_option maxRecDepth 100000 in
theorem awake_any (w : World) (hT : TW w) : Calls Tryz.prog 6 #[] w fun e w' => e = .returned (.bool true) ∧ Below w.heap.size w w' := by
  have hpos := hT.pos
  obtain ⟨X, hX⟩ : ∃ X, X = withB 120 := ⟨_, rfl⟩
  have hXs : X.size = 256 := by rw [hX]; exact withB_size _
  have hw := fun u => with7_any 120 u
  rw [← hX, show (((120 : UInt8).toNat : Nat) : Int) = 120 from rfl] at hw
  clear hX
  obtain ⟨Sy, hSy⟩ : ∃ Sy : Nat → Prop, Sy = fun k => w.heap.size ≤ k := ⟨_, rfl⟩
  have hS0 : ¬ Sy 0 := by rw [hSy]; show ¬ w.heap.size ≤ 0; omega
  have hge : ∀ k, Sy k → w.heap.size ≤ k := fun k hk => by rw [hSy] at hk; exact hk
  have hup : ∀ u, w.heap.size ≤ u.heap.size → Up Sy u := fun u hu k hk => by rw [hSy]; show w.heap.size ≤ k; omega
  have hdn : Sy = fun k => w.heap.size ≤ k := hSy
  have hTb : ∀ u, Below w.heap.size w u → TW u := fun u hb => hT.old hb
  have hnew := newIn 12 w w.heap.size (by decide) (by decide) (Nat.le_refl _)
  rw [show ((12 : Nat) : Int) = 12 from rfl] at hnew
  have hD0 : ∀ p u, DiskIn w.heap.size p (Dsk.new 12) u → DiskS Sy p (Dsk.new 12) u := fun p u h => by rw [hdn]; exact h
  have fm := fun p u (h : DiskS Sy p (Dsk.new 12) u) (hb : Below w.heap.size w u) => Format_law Sy p G8 (Dsk.new 12) u h (hup u hb.size) hS0 (hTb u hb) rfl (by decide) rfl rfl rfl (Sz.new 12) (by unfold Bd; decide)
  have hst0 : (Dsk.new 12).steps = 0 := rfl
  rw [hst0] at fm
  obtain ⟨S0, hS0d⟩ : ∃ S0, S0 = imOf (Dsk.new 12) := ⟨_, rfl⟩
  rw [← hS0d] at fm
  have op := fun (d : Dk) S q p u (h : DiskS Sy p d u) (hb : Below w.heap.size w u) (h1 : d.lies.length = 12) (h2 : d.on = true) (h3 : d.cache = []) (h4 : Sz d) (h5 : Jnl.IsGood RL G8 (imOf d) S q) (h6 : q ≤ 1000) (h7 : d.steps ≤ 10000) => Open_law Sy p G8 d S q u h (hup u hb.size) hS0 (hTb u hb) h1 (by decide) h2 h3 h4 h5 (by omega) ⟨by show d.steps + 2000 ≤ _; omega, by show d.cache.length + 2000 ≤ _; rw [h3]; decide⟩
  rw [show ((G8.base : Nat) : Int) = 0 from rfl, show ((G8.m + 1 : Nat) : Int) = 8 from rfl] at *
  have HW := Lib.hid hw
  have HOP := Lib.hid op
  have HFM := Lib.hid fm
  have HUP := Lib.hid hup
  have HD0 := Lib.hid hD0
  have HTB := Lib.hid hTb
  have HGE := Lib.hid hge
  have HSY := Lib.hid hSy
  clear hw op fm hup hD0 hTb hge hdn hSy hS0d hT
  go_enter Tryz.func6, Tryz.ntmps6
  go_upto_region 2 with (go_at_call 18; refine hnew.mono ?_; rintro e w0 ⟨p, rfl, h0, b0⟩)
  have q1 := HFM.out p w0 (HD0.out p w0 h0) b0
  clear hnew h0
  go_upto_region 4 with (go_at_call 19; refine q1.mono ?_; rintro e w1 ⟨d1, rfl, h1, f1, z1, l1, s1, o1, a1, c1, g1⟩)
  have b1 : Below w.heap.size w w1 := b0.trans (f1.below b0.size HGE.out)
  have q2 := HOP.out d1 S0 1 p w1 h1 b1 l1 o1 c1 z1 g1 (by decide) (by omega)
  clear q1 f1 b0
  go_upto_region 5 with (go_at_call 20; refine q2.mono ?_; rintro e w2 ⟨l, x2, hl, f2, rfl, h2, z2, l2, s2, L2, r2⟩; rw [(r2 a1).1, if_pos rfl, show eOf true = 0 from rfl])
  have b2 : Below w.heap.size w w2 := b1.trans (f2.below b1.size HGE.out)
  obtain ⟨lg2, c2⟩ := L2.all (r2 a1).1
  have a2 := (r2 a1).2
  clear q2 f2 L2 r2
  have cm := commit_one Sy l p x2.1 S0 X w HUP.out HGE.out hS0 HTB.out hXs
  have CM := Lib.hid cm
  have hw := HW.out
  clear cm
  go_upto_region 8 with (first
    | (go_at_call 14; refine (hw _).mono ?_; rintro e w3 ⟨rfl, b3⟩; have q4 := CM.out w3 (lg2.old b3) (below_step b2 (Nat.le_refl _) b3) z2 (by omega) (by rw [c2]; exact Nat.zero_le _) a2)
    | (go_at_call 28; refine q4.mono ?_; rintro e w4 ⟨x4, rfl, b4, lg4, z4, l4, s4⟩))
  clear q4 CM lg2
  have bb4 : Below w.heap.size w w4 := (below_step b2 (Nat.le_refl _) b3).trans b4
  obtain ⟨pl4, A4, L4⟩ := lg4
  have qu := used_any Sy l p G8 pl4 2 3 w4 _ L4
  have qs := seq_any Sy l p G8 pl4 2 3 w4 _ L4
  go_upto_region 9 with (go_at_call 25; refine qu.mono ?_; rintro e w4' ⟨rfl, rfl⟩)
  go_upto_region 10 with (go_at_call 31; refine qs.mono ?_; rintro e w4' ⟨rfl, rfl⟩)
  have qc := crashS Sy p x4 w4 L4.disk (.slice none 0 0) [] w4.heap.size (Ints.nil _ _) (fun hh => absurd hh (Nat.lt_irrefl _))
  go_upto_region 11 with (go_at_call 23; refine qc.mono ?_; rintro e w5 ⟨rfl, h5, f5⟩)
  have b5 : Below w.heap.size w w5 := bb4.trans ((f5 l).below bb4.size HGE.out)
  have g5 := A4.safe.crash (odd [])
  have q6 := HOP.out (Dsk.crash x4 (odd [])) _ 2 p w5 h5 b5 (by rw [Jnl.crash_len]; exact l4) (by show decide (0 < x4.lies.length) = true; rw [l4]; rfl) rfl (z4.crash _) g5 (by decide) (by show x4.steps ≤ _; omega)
  clear qu qs qc g5 A4 L4 f5
  go_upto_region 12 with (go_at_call 20; refine q6.mono ?_; rintro e w6 ⟨l6, x6, hl6, f6, rfl, h6, z6, l6', s6, L6, r6⟩; rw [(r6 rfl).1, if_pos rfl, show eOf true = 0 from rfl])
  have b6 : Below w.heap.size w w6 := b5.trans (f6.below b5.size HGE.out)
  obtain ⟨lg6, c6⟩ := L6.all (r6 rfl).1
  clear q6 f6 L6 r6
  have qr := lg6.read (a := 9) (by unfold Jnl.Geo.Data G8; decide)
  rw [show Jnl.after [(9, X)] 9 (S0 9) = X from rfl, show ((9 : Nat) : Int) = 9 from rfl] at qr
  go_upto_region 15 with (go_at_call 32; refine qr.mono ?_; rintro e w7 ⟨rfl, b7⟩)
  have lg7 := lg6.old b7
  have bb7 := below_step b6 (Nat.le_refl _) b7
  clear qr lg6
  have qq : ∀ u, Below w7.heap.size w7 u → Calls Tryz.prog 25 #[.pointer (some ⟨l6, 0, none⟩)] u (fun e w' => e = .returned (.int .i64 0) ∧ u = w') ∧ Calls Tryz.prog 31 #[.pointer (some ⟨l6, 0, none⟩)] u (fun e w' => e = .returned (.int .i64 2) ∧ u = w') := by
    intro u hb
    obtain ⟨pl, _, L⟩ := lg7.old hb
    exact ⟨used_any Sy l6 p G8 pl 2 0 u _ L, seq_any Sy l6 p G8 pl 2 0 u _ L⟩
  go_wp2_with (first
    | (go_at_call 14; refine (hw _).mono ?_; rintro e w8 ⟨rfl, b8⟩; obtain ⟨y1, y2⟩ := qq _ b8)
    | (go_at_call 25; refine y1.mono ?_; rintro e w9 ⟨rfl, rfl⟩)
    | (go_at_call 31; refine y2.mono ?_; rintro e w9 ⟨rfl, rfl⟩))
  go_ret
  exact ⟨rfl, below_step bb7 (Nat.le_refl _) b8⟩
end Go.Proofs.YtfcocbgdmmeikaaGreatDoor
