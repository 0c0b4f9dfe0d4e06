/-
  ShardCopies: a copy has what the shard has, and each goes its own way. For all calls (the first 12 of them, of longer texts the first 60 bytes) and every two texts; the numbers K of the package sha are as the program's own start lays them.
-/
import Derived.Test.YtollcdalokhjaaaDoorMShdD
namespace Go.Proofs.YtollcdalokhjaaaDoor.shardCopies
open Go.ChangeShapes Go.WideShapes Go.ChangeAt Go.RowKit

theorem eql_ptS (b : Nat) (w : World) : (binOp .eql 24 (.pointer (some ⟨b, 0, none⟩)) (.pointer none)).run Tryd.prog w = .ok (.bool false) w := by go_simp
/-- What is known of a shard X: its answers. -/
theorem tells {S : Nat → Prop} {b : Nat} {X : ShR} {W : World} (hs : Shd S b X W) (hk : KT W) (D : List UInt8) (hD : D = Tree.root X.lvs) : ∀ u, Below W.heap.size W u → Calls Tryd.prog 13 #[.pointer (some ⟨b, 0, none⟩)] u fun e w' => e = .returned (sumV D) ∧ Below u.heap.size u w' := fun u hu => by
  rw [hD]; exact shRoot_any (hs.old hu) (hk.old hu)
theorem tellc {S : Nat → Prop} {b : Nat} {X : ShR} {W : World} (hs : Shd S b X W) (n : Nat) (hn : X.lvs.length = n) : ∀ u, Below W.heap.size W u → Calls Tryd.prog 10 #[.pointer (some ⟨b, 0, none⟩)] u fun e w' => e = .returned (.int .i64 (n : Int)) ∧ Below u.heap.size u w' := fun u hu => by
  have := calls_b (shCount_any (hs.old hu))
  rwa [hn] at this
theorem telll {S : Nat → Prop} {b : Nat} {X : ShR} {W : World} (hs : Shd S b X W) (L : Hs) (hL : L = X.lvs) : ∀ u, Below W.heap.size W u → Calls Tryd.prog 11 #[.pointer (some ⟨b, 0, none⟩)] u fun e w' => ∃ v', e = .returned v' ∧ Sums w' v' L ∧ Below u.heap.size u w' := fun u hu => by
  rw [hL]; exact (shLeaves_any (hs.old hu)).mono fun e w' ⟨v', h1, h2, h3⟩ => ⟨v', h1, h2.sums, h3⟩
set_option maxHeartbeats 12800000 in
set_option maxRecDepth 100000 in
theorem walk {w : World} (hK : KT w) (v : Value) (l : List RecR) (hv : RowR w v l) (_hl : ∀ r ∈ l, RecOk r) (sa : ByteArray) (_ha : sa.size ≤ maxLen) (sb : ByteArray) (_hb : sb.size ≤ maxLen) :
    Calls Tryd.prog 5 #[v, .string sa, .string sb] w fun e w' => e = .returned (.bool true) ∧ Below w.heap.size w w' := by
  have HAW := Lib.hid (awake17_any w hK)
  have HGR : Hid (∀ u, Below w.heap.size w u → Calls Tryd.prog 9 #[.int .i64 5, v] u fun e w' => e = .returned (.pointer (some ⟨u.heap.size, 0, none⟩)) ∧ Shd (fun j => u.heap.size ≤ j) u.heap.size (grX 5 l (min 12 l.length)) w' ∧ Below u.heap.size u w') := Lib.hid fun u hu => grown_any 5 v l u (hv.old hu) (hK.old hu)
  obtain ⟨m, hm⟩ : ∃ m, m = min 12 l.length := ⟨_, rfl⟩
  have hm12 : m ≤ 12 := by omega
  obtain ⟨X, hX⟩ : ∃ X, X = grX 5 l m := ⟨_, rfl⟩
  rw [← hm, ← hX] at HGR
  have hlv : X.lvs.length = m := by rw [hX]; exact gr_lvs 5 l m
  have hrl : X.rows.length = m := by rw [hX]; exact gr_length 5 l m
  have hst : X.st = 0 := by rw [hX]; rfl
  have hwn : X.win = 5 := by rw [hX]; rfl
  have h32 : all32 X.lvs := by rw [hX]; exact gr_all32 5 l m
  obtain ⟨D, hD⟩ : ∃ D, D = Tree.root X.lvs := ⟨_, rfl⟩
  have HDl : Hid (D.length = 32) := Lib.hid (by rw [hD]; exact Tree.root_length _ h32)
  obtain ⟨PA, hPA⟩ : ∃ P, P = shortB sa 60 := ⟨_, rfl⟩
  obtain ⟨PB, hPB⟩ : ∃ P, P = shortB sb 60 := ⟨_, rfl⟩
  have HSHsa : Hid (∀ u, Calls Tryd.prog 16 #[.string sa, .int .i64 60] u fun e w' => e = .returned (.string PA) ∧ u = w') := Lib.hid fun u => by rw [hPA]; exact short17_any sa 60 60 rfl u
  have HSHsb : Hid (∀ u, Calls Tryd.prog 16 #[.string sb, .int .i64 60] u fun e w' => e = .returned (.string PB) ∧ u = w') := Lib.hid fun u => by rw [hPB]; exact short17_any sb 60 60 rfl u
  have hE : ∀ (t : Int) (P : ByteArray), (0 ≤ t ∧ t ≤ 2) → P.size ≤ 60 → addE X t P = 0 := fun t P ht hP => by
    rw [hX]; exact gr_addE 5 l m (by decide) (by omega) t P (by omega) (by omega)
  have hEA := hE 1 PA (by decide) (by rw [hPA]; exact shortB_size sa 60)
  have hEB := hE 2 PB (by decide) (by rw [hPB]; exact shortB_size sb 60)
  obtain ⟨XA, hXA⟩ : ∃ Y, Y = shAdd X 1 PA := ⟨_, rfl⟩
  obtain ⟨XB, hXB⟩ : ∃ Y, Y = shAdd X 2 PB := ⟨_, rfl⟩
  have hlA : XA.lvs.length = m + 1 := by rw [hXA]; show (X.lvs ++ [_]).length = m + 1; rw [List.length_append, hlv]; rfl
  have hlB : XB.lvs.length = m + 1 := by rw [hXB]; show (X.lvs ++ [_]).length = m + 1; rw [List.length_append, hlv]; rfl
  have hgA : XA.rows[m]? = some ⟨5, (m : Int), 1, PA⟩ := by
    rw [hXA]; show (X.rows ++ [addR X 1 PA])[m]? = _
    rw [List.getElem?_append_right (by omega), hrl, Nat.sub_self]; unfold addR; rw [hlv, hwn]; rfl
  have hgB : XB.rows[m]? = some ⟨5, (m : Int), 2, PB⟩ := by
    rw [hXB]; show (X.rows ++ [addR X 2 PB])[m]? = _
    rw [List.getElem?_append_right (by omega), hrl, Nat.sub_self]; unfold addR; rw [hlv, hwn]; rfl
  have hsA : XA.st ≠ 2 := by rw [hXA]; show X.st ≠ 2; rw [hst]; decide
  have hsB : XB.st ≠ 2 := by rw [hXB]; show X.st ≠ 2; rw [hst]; decide
  have HLV := Lib.hid hlv
  have HST := Lib.hid hst
  have HWN := Lib.hid hwn
  have HD := Lib.hid hD
  have HEA := Lib.hid hEA
  have HEB := Lib.hid hEB
  have HXA := Lib.hid hXA
  have HXB := Lib.hid hXB
  have HlA := Lib.hid hlA
  have HlB := Lib.hid hlB
  have HgA := Lib.hid hgA
  have HgB := Lib.hid hgB
  have HsA := Lib.hid hsA
  have HsB := Lib.hid hsB
  have HKW := Lib.hid hK
  have HIR : Hid ((Tryd.prog.info? 55).map (·.size) = some 4) := Lib.hid (size_of info_rec4)
  clear hm hX hlv hrl hst hwn h32 hD hPA hPB hE hEA hEB hXA hXB hlA hlB hgA hgB hsA hsB hK hv _hl _ha _hb
  go_enter Tryd.func5, Tryd.ntmps5
  go_upto_region 5 with (first
    | (go_at_call 8; (refine HAW.out.mono ?_; rintro e w1 ⟨rfl, b1⟩))
    | (go_at_call 9; (refine (HGR.out _ b1).mono ?_; rintro e w2 ⟨rfl, hs2, b2⟩)))
  obtain ⟨B, hB⟩ : ∃ B, B = w1.heap.size := ⟨_, rfl⟩
  rw [← hB] at hs2
  obtain ⟨W2, hW2⟩ : ∃ u, u = w2 := ⟨_, rfl⟩
  rw [← hW2, ← hB]
  rw [← hW2] at hs2 b2
  have hb2 : Below w.heap.size w W2 := below_step b1 (Nat.le_refl _) b2
  have hwB : w.heap.size ≤ B := by rw [hB]; exact b1.size
  obtain ⟨C, hC⟩ : ∃ C, C = W2.heap.size := ⟨_, rfl⟩
  have hcp := shCopy_any hs2 (by rw [HST.out]; decide) (HKW.out.old hb2)
  rw [← hC] at hcp
  have hBC : B < C := by rw [hC]; exact hs2.lt
  have hst2 := hs2.tight
  rw [← hC] at hst2
  have HCP := Lib.hid hcp
  have HS2 := Lib.hid hst2
  have HB2 := Lib.hid hb2
  have HWB := Lib.hid hwB
  have HBC := Lib.hid hBC
  have HCW := Lib.hid hC
  clear hs2 b1 b2 hB hW2 hb2 hwB hC hcp hst2 hBC HAW HGR
  go_upto_region 6 with (go_at_call 27; (refine HCP.out.mono ?_; rintro e w3 ⟨rfl, hs3, b3⟩))
  obtain ⟨W3, hW3⟩ : ∃ u, u = w3 := ⟨_, rfl⟩
  subst hW3
  have hB3 : Below w.heap.size w W3 := HB2.out.trans (b3.mono (by rw [HCW.out]; exact HB2.out.size))
  have hk3 := HKW.out.old hB3
  have hsb := HS2.out.old (HCW.out ▸ b3)
  have HRC := Lib.hid (tells hs3 hk3 D HD.out)
  have HRB := Lib.hid (tells hsb hk3 D HD.out)
  have HCC := Lib.hid (tellc hs3 m HLV.out)
  have HCB := Lib.hid (tellc hsb m HLV.out)
  have HWC : Hid (∀ u, Below W3.heap.size W3 u → Calls Tryd.prog 28 #[.pointer (some ⟨C, 0, none⟩)] u fun e w' => e = .returned (.int .i64 5) ∧ Below u.heap.size u w') := Lib.hid fun u hu => by
    have := calls_b (shWindow_any (hs3.old hu))
    rwa [HWN.out] at this
  have HSC := Lib.hid hs3.tight
  have HSB := Lib.hid hsb
  have HB3 := Lib.hid hB3
  have HC3 : Hid (C < W3.heap.size) := Lib.hid hs3.lt
  clear hs3 b3 hB3 hk3 hsb HCP HS2 HB2
  try simp only [Act.put]
  refine wp_region_tab0 [RT.is (.pointer (some ⟨C, 0, none⟩)), RT.is (.bool false), RT.is (.bool false), RT.is (.pointer (some ⟨C, 0, none⟩)), RT.is (sumV D), RT.is (.pointer (some ⟨B, 0, none⟩)), RT.is (sumV D), RT.is (.bool false), RT.is (.bool false), RT.is (.bool false), RT.is (.pointer (some ⟨C, 0, none⟩)), RT.is (.int .i64 (m : Int)), RT.is (.pointer (some ⟨B, 0, none⟩)), RT.is (.int .i64 (m : Int)), RT.is (.bool false), RT.is (.bool false), RT.is (.bool false), RT.is (.pointer (some ⟨C, 0, none⟩)), RT.is (.int .i64 5), RT.is (.bool false), RT.is (.bool false)] (by kernel_rfl) (by kernel_rfl) (by kernel_rfl) ⟨?_, ?_, ?_, ?_, ?_, ?_, ?_, ?_, ?_, ?_, ?_, ?_, ?_, ?_, ?_, ?_, ?_, ?_, ?_, ?_, ?_, trivial⟩ ?_
  · intro ac w' hF hL hP hU K hK
    have hB : Below _ _ _ := hL
    have e9 : ac.eval (.tmp 9) = .pointer (some ⟨C, 0, none⟩) := hF.at 9 (by kernel_rfl)
    exact rop_move _ rfl e9 (wanted_none rfl) (hK _ _ (le8_refl _) rfl)
  · intro ac w' hF hL hP hU K hK
    have hB : Below _ _ _ := hL
    have e22 : ac.eval (.tmp 22) = .pointer (some ⟨C, 0, none⟩) := hP 0 (by kernel_rfl)
    exact rop_bin _ _ _ _ _ rfl e22 rfl (guard_ptr _ _ _ _ _ _ w') (eql_ptS C w') (wanted_none rfl) (hK _ _ (le8_refl _) rfl)
  · intro ac w' hF hL hP hU K hK
    have hB : Below _ _ _ := hL
    have e23 : ac.eval (.tmp 23) = .bool false := hP 1 (by kernel_rfl)
    exact rop_move _ rfl e23 (wanted_none rfl) (hK _ _ (le8_refl _) rfl)
  · intro ac w' hF hL hP hU K hK
    have hB : Below _ _ _ := hL
    have e9 : ac.eval (.tmp 9) = .pointer (some ⟨C, 0, none⟩) := hF.at 9 (by kernel_rfl)
    have e24 : ac.eval (.tmp 24) = .bool false := hP 2 (by kernel_rfl)
    exact rop_move _ rfl e9 (wanted_of (j := 2) (b := false) rfl rfl e24) (hK _ _ (le8_refl _) rfl)
  · intro ac w' hF hL hP hU K hK
    have hB : Below _ _ _ := hL
    have e25 : ac.eval (.tmp 25) = .pointer (some ⟨C, 0, none⟩) := hP 3 (by kernel_rfl)
    have e24 : ac.eval (.tmp 24) = .bool false := hP 2 (by kernel_rfl)
    refine rop_call 13 _ _ rfl #[.pointer (some ⟨C, 0, none⟩)] (by simp [e25]) (by kernel_rfl) (wanted_of (j := 2) (b := false) rfl rfl e24) ?_
    refine (HRC.out w' hB).mono ?_
    rintro e w2 ⟨rfl, hb⟩
    exact ⟨_, rfl, hK _ _ hb rfl⟩
  · intro ac w' hF hL hP hU K hK
    have hB : Below _ _ _ := hL
    have e8 : ac.eval (.tmp 8) = .pointer (some ⟨B, 0, none⟩) := hF.at 8 (by kernel_rfl)
    have e24 : ac.eval (.tmp 24) = .bool false := hP 2 (by kernel_rfl)
    exact rop_move _ rfl e8 (wanted_of (j := 2) (b := false) rfl rfl e24) (hK _ _ (le8_refl _) rfl)
  · intro ac w' hF hL hP hU K hK
    have hB : Below _ _ _ := hL
    have e27 : ac.eval (.tmp 27) = .pointer (some ⟨B, 0, none⟩) := hP 5 (by kernel_rfl)
    have e24 : ac.eval (.tmp 24) = .bool false := hP 2 (by kernel_rfl)
    refine rop_call 13 _ _ rfl #[.pointer (some ⟨B, 0, none⟩)] (by simp [e27]) (by kernel_rfl) (wanted_of (j := 2) (b := false) rfl rfl e24) ?_
    refine (HRB.out w' hB).mono ?_
    rintro e w2 ⟨rfl, hb⟩
    exact ⟨_, rfl, hK _ _ hb rfl⟩
  · intro ac w' hF hL hP hU K hK
    have hB : Below _ _ _ := hL
    have e26 : ac.eval (.tmp 26) = sumV D := hP 4 (by kernel_rfl)
    have e28 : ac.eval (.tmp 28) = sumV D := hP 6 (by kernel_rfl)
    have e24 : ac.eval (.tmp 24) = .bool false := hP 2 (by kernel_rfl)
    exact rop_bin _ _ _ _ _ rfl e26 e28 (guard_run _ _ _ _ _ w') (neq_sum_ff D D HDl.out HDl.out rfl w') (wanted_of (j := 2) (b := false) rfl rfl e24) (hK _ _ (le8_refl _) rfl)
  · intro ac w' hF hL hP hU K hK
    have hB : Below _ _ _ := hL
    have e24 : ac.eval (.tmp 24) = .bool false := hP 2 (by kernel_rfl)
    have e29 : ac.eval (.tmp 29) = .bool false := hP 7 (by kernel_rfl)
    exact rop_pick _ _ _ rfl false e24 (by simpa using e29) (wanted_none rfl) (hK _ _ (le8_refl _) rfl)
  · intro ac w' hF hL hP hU K hK
    have hB : Below _ _ _ := hL
    have e30 : ac.eval (.tmp 30) = .bool false := hP 8 (by kernel_rfl)
    exact rop_move _ rfl e30 (wanted_none rfl) (hK _ _ (le8_refl _) rfl)
  · intro ac w' hF hL hP hU K hK
    have hB : Below _ _ _ := hL
    have e9 : ac.eval (.tmp 9) = .pointer (some ⟨C, 0, none⟩) := hF.at 9 (by kernel_rfl)
    have e31 : ac.eval (.tmp 31) = .bool false := hP 9 (by kernel_rfl)
    exact rop_move _ rfl e9 (wanted_of (j := 9) (b := false) rfl rfl e31) (hK _ _ (le8_refl _) rfl)
  · intro ac w' hF hL hP hU K hK
    have hB : Below _ _ _ := hL
    have e32 : ac.eval (.tmp 32) = .pointer (some ⟨C, 0, none⟩) := hP 10 (by kernel_rfl)
    have e31 : ac.eval (.tmp 31) = .bool false := hP 9 (by kernel_rfl)
    refine rop_call 10 _ _ rfl #[.pointer (some ⟨C, 0, none⟩)] (by simp [e32]) (by kernel_rfl) (wanted_of (j := 9) (b := false) rfl rfl e31) ?_
    refine (HCC.out w' hB).mono ?_
    rintro e w2 ⟨rfl, hb⟩
    exact ⟨_, rfl, hK _ _ hb rfl⟩
  · intro ac w' hF hL hP hU K hK
    have hB : Below _ _ _ := hL
    have e8 : ac.eval (.tmp 8) = .pointer (some ⟨B, 0, none⟩) := hF.at 8 (by kernel_rfl)
    have e31 : ac.eval (.tmp 31) = .bool false := hP 9 (by kernel_rfl)
    exact rop_move _ rfl e8 (wanted_of (j := 9) (b := false) rfl rfl e31) (hK _ _ (le8_refl _) rfl)
  · intro ac w' hF hL hP hU K hK
    have hB : Below _ _ _ := hL
    have e34 : ac.eval (.tmp 34) = .pointer (some ⟨B, 0, none⟩) := hP 12 (by kernel_rfl)
    have e31 : ac.eval (.tmp 31) = .bool false := hP 9 (by kernel_rfl)
    refine rop_call 10 _ _ rfl #[.pointer (some ⟨B, 0, none⟩)] (by simp [e34]) (by kernel_rfl) (wanted_of (j := 9) (b := false) rfl rfl e31) ?_
    refine (HCB.out w' hB).mono ?_
    rintro e w2 ⟨rfl, hb⟩
    exact ⟨_, rfl, hK _ _ hb rfl⟩
  · intro ac w' hF hL hP hU K hK
    have hB : Below _ _ _ := hL
    have e33 : ac.eval (.tmp 33) = .int .i64 (m : Int) := hP 11 (by kernel_rfl)
    have e35 : ac.eval (.tmp 35) = .int .i64 (m : Int) := hP 13 (by kernel_rfl)
    have e31 : ac.eval (.tmp 31) = .bool false := hP 9 (by kernel_rfl)
    exact rop_bin _ _ _ _ _ rfl e33 e35 (guard_int _ _ _ _ _ _ _ w') (neq_iG _ _ false (by simp) w') (wanted_of (j := 9) (b := false) rfl rfl e31) (hK _ _ (le8_refl _) rfl)
  · intro ac w' hF hL hP hU K hK
    have hB : Below _ _ _ := hL
    have e31 : ac.eval (.tmp 31) = .bool false := hP 9 (by kernel_rfl)
    have e36 : ac.eval (.tmp 36) = .bool false := hP 14 (by kernel_rfl)
    exact rop_pick _ _ _ rfl false e31 (by simpa using e36) (wanted_none rfl) (hK _ _ (le8_refl _) rfl)
  · intro ac w' hF hL hP hU K hK
    have hB : Below _ _ _ := hL
    have e37 : ac.eval (.tmp 37) = .bool false := hP 15 (by kernel_rfl)
    exact rop_move _ rfl e37 (wanted_none rfl) (hK _ _ (le8_refl _) rfl)
  · intro ac w' hF hL hP hU K hK
    have hB : Below _ _ _ := hL
    have e9 : ac.eval (.tmp 9) = .pointer (some ⟨C, 0, none⟩) := hF.at 9 (by kernel_rfl)
    have e38 : ac.eval (.tmp 38) = .bool false := hP 16 (by kernel_rfl)
    exact rop_move _ rfl e9 (wanted_of (j := 16) (b := false) rfl rfl e38) (hK _ _ (le8_refl _) rfl)
  · intro ac w' hF hL hP hU K hK
    have hB : Below _ _ _ := hL
    have e39 : ac.eval (.tmp 39) = .pointer (some ⟨C, 0, none⟩) := hP 17 (by kernel_rfl)
    have e38 : ac.eval (.tmp 38) = .bool false := hP 16 (by kernel_rfl)
    refine rop_call 28 _ _ rfl #[.pointer (some ⟨C, 0, none⟩)] (by simp [e39]) (by kernel_rfl) (wanted_of (j := 16) (b := false) rfl rfl e38) ?_
    refine (HWC.out w' hB).mono ?_
    rintro e w2 ⟨rfl, hb⟩
    exact ⟨_, rfl, hK _ _ hb rfl⟩
  · intro ac w' hF hL hP hU K hK
    have hB : Below _ _ _ := hL
    have e40 : ac.eval (.tmp 40) = .int .i64 5 := hP 18 (by kernel_rfl)
    have e38 : ac.eval (.tmp 38) = .bool false := hP 16 (by kernel_rfl)
    exact rop_bin _ _ _ _ _ rfl e40 rfl (guard_int _ _ _ _ _ _ _ w') (neq_iG _ _ false (by simp) w') (wanted_of (j := 16) (b := false) rfl rfl e38) (hK _ _ (le8_refl _) rfl)
  · intro ac w' hF hL hP hU K hK
    have hB : Below _ _ _ := hL
    have e38 : ac.eval (.tmp 38) = .bool false := hP 16 (by kernel_rfl)
    have e41 : ac.eval (.tmp 41) = .bool false := hP 19 (by kernel_rfl)
    exact rop_pick _ _ _ rfl false e38 (by simpa using e41) (wanted_none rfl) (hK _ _ (le8_refl _) rfl)
  · intro ac w' hF hB hT
    have e42 : ac.eval (.tmp 42) = .bool false := hT 20 (by decide)
    rw [hF.setsG [22, 23, 24, 25, 26, 27, 28, 29, 30, 31, 32, 33, 34, 35, 36, 37, 38, 39, 40, 41, 42] (by kernel_rfl)]
    simp only [List.foldl_cons, List.foldl_nil, List.setIfInBounds_toArray, List.set_cons_succ, List.set_cons_zero, e42]
    generalize ac.eval (.tmp 22) = u22
    generalize ac.eval (.tmp 23) = u23
    generalize ac.eval (.tmp 24) = u24
    generalize ac.eval (.tmp 25) = u25
    generalize ac.eval (.tmp 26) = u26
    generalize ac.eval (.tmp 27) = u27
    generalize ac.eval (.tmp 28) = u28
    generalize ac.eval (.tmp 29) = u29
    generalize ac.eval (.tmp 30) = u30
    generalize ac.eval (.tmp 31) = u31
    generalize ac.eval (.tmp 32) = u32
    generalize ac.eval (.tmp 33) = u33
    generalize ac.eval (.tmp 34) = u34
    generalize ac.eval (.tmp 35) = u35
    generalize ac.eval (.tmp 36) = u36
    generalize ac.eval (.tmp 37) = u37
    generalize ac.eval (.tmp 38) = u38
    generalize ac.eval (.tmp 39) = u39
    generalize ac.eval (.tmp 40) = u40
    generalize ac.eval (.tmp 41) = u41
    clear e42 hT hF ac
    obtain ⟨W6, hW6⟩ : ∃ u, u = w' := ⟨_, rfl⟩
    subst hW6
    have hsb := HSB.out.old hB
    have hsc := HSC.out.old hB
    have h36 := hB.size
    obtain ⟨n3, hn3⟩ : ∃ n, n = W3.heap.size := ⟨_, rfl⟩
    have hc3 : C < n3 := by rw [hn3]; exact HC3.out
    rw [← hn3] at hsc h36
    have hb6 := below_step HB3.out (Nat.le_refl _) hB
    have HCN := Lib.hid (shCount_any hsb)
    rw [HLV.out] at HCN
    -- the one grows
    have hA : ∀ u, u = W6 → Calls Tryd.prog 15 #[.pointer (some ⟨B, 0, none⟩), .int .i64 1, .string PA] u fun e w' => e = .returned (.tuple #[.int .i64 (m : Int), .int .i64 0]) ∧ Shd (fun k => (B ≤ k ∧ k < C) ∨ u.heap.size ≤ k) B XA w' ∧ OnlyS (fun k => (B ≤ k ∧ k < C) ∨ u.heap.size ≤ k) u w' := fun u hu => by
      subst hu
      have h0 := hsb.lt
      have := shAdd_ok (S := fun k => (B ≤ k ∧ k < C) ∨ u.heap.size ≤ k) (hsb.mono (fun k hk h => .inl h) (fun h => by
        rcases h with h | h
        · exact hsb.sk.2 h
        · have := HKW.out.pos; have := hb6.size; omega)) 1 PA HEA.out (fun k hk => .inr hk) (HKW.out.old hb6)
      rw [HLV.out, ← HXA.out] at this
      exact this
    have HA := Lib.hid (hA W6 rfl)
    have HSB6 := Lib.hid hsb
    have HSC6 := Lib.hid hsc
    have HB6 := Lib.hid hb6
    have H36 := Lib.hid h36
    have HC3' := Lib.hid hc3
    clear hA hsb hsc hB hb6 h36 hn3 hc3 HRC HRB HCC HCB HWC HSC HSB HB3 HC3
    go_upto_region 10 with (first
      | (go_at_call 10; (refine HCN.out.mono ?_; rintro e w7 ⟨rfl, rfl⟩))
      | (go_at_call 16; (refine (HSHsa.out _).mono ?_; rintro e w7 ⟨rfl, rfl⟩))
      | (go_at_call 15; (refine HA.out.mono ?_; rintro e w8 ⟨rfl, hs8, o8⟩)))
    obtain ⟨W8, hW8⟩ : ∃ u, u = w8 := ⟨_, rfl⟩
    subst hW8
    have hsc8 := Shd.other HSC6.out o8 (fun g hg h1 h2 => by
      have := H36.out
      rcases h2 with h2 | h2
      · have := h1.1; omega
      · have := h1.2; omega)
    have hb8 : Below w.heap.size w W8 := HB6.out.trans (o8.below (fun k hk => by
      have := HWB.out; have := HB6.out.size
      rcases hk with hk | hk
      · omega
      · omega) HB6.out.size)
    -- the other grows
    have hAC : Calls Tryd.prog 15 #[.pointer (some ⟨C, 0, none⟩), .int .i64 2, .string PB] W8 fun e w' => e = .returned (.tuple #[.int .i64 (m : Int), .int .i64 0]) ∧ Shd (fun k => (C ≤ k ∧ k < n3) ∨ W8.heap.size ≤ k) C XB w' ∧ OnlyS (fun k => (C ≤ k ∧ k < n3) ∨ W8.heap.size ≤ k) W8 w' := by
      have h0 := hsc8.lt
      have := shAdd_ok (S := fun k => (C ≤ k ∧ k < n3) ∨ W8.heap.size ≤ k) (hsc8.mono (fun k hk h => .inl h) (fun h => by
        rcases h with h | h
        · exact hsc8.sk.2 h
        · have := HKW.out.pos; have := hb8.size; omega)) 2 PB HEB.out (fun k hk => .inr hk) (HKW.out.old hb8)
      rw [HLV.out, ← HXB.out] at this
      exact this
    have HAC := Lib.hid hAC
    have HS8 := Lib.hid hs8
    have HO8 : Hid (W6.heap.size ≤ W8.heap.size) := Lib.hid o8.size
    have HB8 := Lib.hid hb8
    clear hAC hs8 o8 hsc8 hb8 HA HCN
    go_upto_region 11 with (first
      | (go_at_call 16; (refine (HSHsb.out _).mono ?_; rintro e w9 ⟨rfl, rfl⟩))
      | (go_at_call 15; (refine HAC.out.mono ?_; rintro e w9 ⟨rfl, hs9, o9⟩)))
    obtain ⟨W9, hW9⟩ : ∃ u, u = w9 := ⟨_, rfl⟩
    subst hW9
    have hsb9 := Shd.other HS8.out.tight o9 (fun g hg h1 h2 => by
      have := H36.out; have := HO8.out
      obtain ⟨h1, h3⟩ := h1
      rcases h1 with h1 | h1 <;> rcases h2 with h2 | h2 <;> omega)
    have hb9 : Below w.heap.size w W9 := HB8.out.trans (o9.below (fun k hk => by
      have := HWB.out; have := HBC.out; have := HB8.out.size
      rcases hk with hk | hk <;> omega) HB8.out.size)
    have hk9 := HKW.out.old hb9
    have HGA : Hid (∀ u, Below W9.heap.size W9 u → Calls Tryd.prog 23 #[.pointer (some ⟨B, 0, none⟩), .int .i64 (m : Int)] u fun e w' => e = .returned (.tuple #[.agg (recCs ⟨5, m, 1, PA⟩).toArray, .int .i64 0]) ∧ Below u.heap.size u w') := Lib.hid fun u hu => shGet_any (hsb9.old hu) HsA.out m _ HgA.out
    have HGB : Hid (∀ u, Below W9.heap.size W9 u → Calls Tryd.prog 23 #[.pointer (some ⟨C, 0, none⟩), .int .i64 (m : Int)] u fun e w' => e = .returned (.tuple #[.agg (recCs ⟨5, m, 2, PB⟩).toArray, .int .i64 0]) ∧ Below u.heap.size u w') := Lib.hid fun u hu => shGet_any (hs9.old hu) HsB.out m _ HgB.out
    have HSB9 := Lib.hid hsb9
    have HSC9 := Lib.hid hs9
    have HB9 := Lib.hid hb9
    obtain ⟨G1, hG1⟩ : ∃ G : RecR, G = ⟨5, m, 1, PA⟩ := ⟨_, rfl⟩
    obtain ⟨G2, hG2⟩ : ∃ G : RecR, G = ⟨5, m, 2, PB⟩ := ⟨_, rfl⟩
    rw [← hG1] at HGA
    rw [← hG2] at HGB
    have HG1 := Lib.hid hG1
    have HG2 := Lib.hid hG2
    clear hsb9 hs9 o9 hb9 hk9 HAC HS8 hG1 hG2
    go_upto_region 12 with (first
        | (go_at_call 23; (refine (HGA.out _ (Below.refl _ _)).mono ?_; rintro e w10 ⟨rfl, b10⟩))
        | refine wpList_store_mid (w := w10.alloc (.cells (recCs rec0).toArray 55)) rfl 55 (.tmp 11) (.tmp 57) rfl w10.heap.size 0 (recCs G1).toArray rfl rfl (Blk.there (Blk.alloc w10 55 (recCs rec0)) (Nat.le_refl 4)) HIR.out one_rec ?_)
    obtain ⟨r1, hr1⟩ : ∃ x, x = w10.heap.size := ⟨_, rfl⟩
    obtain ⟨V10, hV10⟩ : ∃ u, u = (w10.alloc (.cells (recCs rec0).toArray 55)).setCells w10.heap.size 0 (recCs G1) := ⟨_, rfl⟩
    change Code.wp _ _ _ _ ((w10.alloc (.cells (recCs rec0).toArray 55)).setCells w10.heap.size 0 (recCs G1))
    rw [← hV10, ← hr1]
    have c10 : Below w10.heap.size w10 V10 := by rw [hV10]; exact below_setCells (Nat.le_refl _) _ _ _ (below_boxS _ _)
    have hG1 : Blk r1 55 (recCs G1) V10 := by rw [hV10, hr1]; exact Blk.setAll (Blk.alloc w10 55 (recCs rec0)) rfl
    have d10 := below_step b10 (Nat.le_refl _) c10
    have D1 := Lib.hid d10
    have HR1 := Lib.hid hG1
    clear hV10 hr1 b10 c10 d10 hG1
    go_upto_region 13 with (first
        | (go_at_call 23; (refine (HGB.out _ D1.out).mono ?_; rintro e w11 ⟨rfl, b11⟩))
        | refine wpList_store_mid (w := w11.alloc (.cells (recCs rec0).toArray 55)) rfl 55 (.tmp 13) (.tmp 63) rfl w11.heap.size 0 (recCs G2).toArray rfl rfl (Blk.there (Blk.alloc w11 55 (recCs rec0)) (Nat.le_refl 4)) HIR.out one_rec ?_)
    obtain ⟨r2, hr2⟩ : ∃ x, x = w11.heap.size := ⟨_, rfl⟩
    obtain ⟨V11, hV11⟩ : ∃ u, u = (w11.alloc (.cells (recCs rec0).toArray 55)).setCells w11.heap.size 0 (recCs G2) := ⟨_, rfl⟩
    change Code.wp _ _ _ _ ((w11.alloc (.cells (recCs rec0).toArray 55)).setCells w11.heap.size 0 (recCs G2))
    rw [← hV11, ← hr2]
    have c11 : Below w11.heap.size w11 V11 := by rw [hV11]; exact below_setCells (Nat.le_refl _) _ _ _ (below_boxS _ _)
    have hG2 : Blk r2 55 (recCs G2) V11 := by rw [hV11, hr2]; exact Blk.setAll (Blk.alloc w11 55 (recCs rec0)) rfl
    have d11 := below_step b11 (Nat.le_refl _) c11
    have dd := below_step D1.out (Nat.le_refl _) d11
    have hX1 := Blk.old HR1.out d11 (Blk.lt HR1.out)
    have hX2 := hG2
    rw [HG1.out] at hX1
    rw [HG2.out] at hX2
    have hsb := HSB9.out.old dd
    have hsc := HSC9.out.old dd
    have hbv := below_step HB9.out (Nat.le_refl _) dd
    have hkv := HKW.out.old hbv
    obtain ⟨DB, hDB⟩ : ∃ D, D = Tree.root XA.lvs := ⟨_, rfl⟩
    obtain ⟨DC, hDC⟩ : ∃ D, D = Tree.root XB.lvs := ⟨_, rfl⟩
    obtain ⟨LB, hLB⟩ : ∃ L, L = XA.lvs := ⟨_, rfl⟩
    obtain ⟨LC, hLC⟩ : ∃ L, L = XB.lvs := ⟨_, rfl⟩
    have hbb : ∀ (L : Hs) (D : List UInt8), D = Tree.root L → L.length ≤ 100 → ∀ (v : Value) (u : World), Sums u v L → Calls Tryd.prog 18 #[v] u fun e w' => e = .returned (sumV D) ∧ Below u.heap.size u w' := fun L D hD hL v u hu => by
      rw [hD]; exact rleafRoot_any _ L v u rfl (by omega) hu
    have HNB := Lib.hid (tellc hsb (m + 1) HlA.out)
    have HNC := Lib.hid (tellc hsc (m + 1) HlB.out)
    have HRB2 := Lib.hid (tells hsb hkv DB hDB)
    have HRC2 := Lib.hid (tells hsc hkv DC hDC)
    have HLB := Lib.hid (telll hsb LB hLB)
    have HLC := Lib.hid (telll hsc LC hLC)
    have HRRB := Lib.hid (hbb LB DB (by rw [hDB, hLB]) (by rw [hLB, HlA.out]; omega))
    have HRRC := Lib.hid (hbb LC DC (by rw [hDC, hLC]) (by rw [hLC, HlB.out]; omega))
    have HDBl : Hid (DB.length = 32) := Lib.hid (by rw [hDB]; obtain ⟨_, _, _, hv⟩ := hsb; exact Tree.root_length _ hv.l32)
    have HDCl : Hid (DC.length = 32) := Lib.hid (by rw [hDC]; obtain ⟨_, _, _, hv⟩ := hsc; exact Tree.root_length _ hv.l32)
    have HX1 := Lib.hid hX1
    have HX2 := Lib.hid hX2
    have HBV := Lib.hid hbv
    clear hV11 hr2 b11 c11 d11 hG2 dd hX1 hX2 hsb hsc hbv hkv hDB hDC hLB hLC hbb HSB9 HSC9 HGA HGB HR1 D1
    try simp only [Act.put]
    refine wp_region_tab [RT.is (.bool true), RT.is (.bool true), RT.is (.int .i64 0), RT.is (.bool true), RT.is (.bool true), RT.is (.bool true), RT.is (.int .i64 0), RT.is (.bool true), RT.is (.bool true), RT.is (.bool true), RT.is (.pointer (some ⟨r1, 2, none⟩)), RT.is (.int .i64 1), RT.is (.bool true), RT.is (.bool true), RT.is (.bool true), RT.is (.pointer (some ⟨r2, 2, none⟩)), RT.is (.int .i64 2), RT.is (.bool true), RT.is (.bool true), RT.is (.bool true), RT.is (.pointer (some ⟨r1, 3, none⟩)), RT.is (.string PA), RT.is (.string sa), RT.is (.string PA), RT.is (.bool true), RT.is (.bool true), RT.is (.bool true), RT.is (.pointer (some ⟨r2, 3, none⟩)), RT.is (.string PB), RT.is (.string sb), RT.is (.string PB), RT.is (.bool true), RT.is (.bool true), RT.is (.bool true), RT.is (.pointer (some ⟨B, 0, none⟩)), RT.is (.int .i64 ((m + 1 : Nat) : Int)), RT.is (.int .i64 (m : Int)), RT.is (.int .i64 ((m + 1 : Nat) : Int)), RT.is (.bool true), RT.is (.bool true), RT.is (.bool true), RT.is (.pointer (some ⟨C, 0, none⟩)), RT.is (.int .i64 ((m + 1 : Nat) : Int)), RT.is (.int .i64 (m : Int)), RT.is (.int .i64 ((m + 1 : Nat) : Int)), RT.is (.bool true), RT.is (.bool true), RT.is (.bool true), RT.is (.pointer (some ⟨B, 0, none⟩)), RT.is (sumV DB), RT.is (.pointer (some ⟨B, 0, none⟩)), (RT.sums LB), RT.is (sumV DB), RT.is (.bool true), RT.is (.bool true), RT.is (.bool true), RT.is (.pointer (some ⟨C, 0, none⟩)), RT.is (sumV DC), RT.is (.pointer (some ⟨C, 0, none⟩)), (RT.sums LC), RT.is (sumV DC), RT.is (.bool true), RT.is (.bool true), RT.is (.bool true)] (by kernel_rfl) (by kernel_rfl) (by kernel_rfl) (by kernel_rfl) ⟨?_, ?_, ?_, ?_, ?_, ?_, ?_, ?_, ?_, ?_, ?_, ?_, ?_, ?_, ?_, ?_, ?_, ?_, ?_, ?_, ?_, ?_, ?_, ?_, ?_, ?_, ?_, ?_, ?_, ?_, ?_, ?_, ?_, ?_, ?_, ?_, ?_, ?_, ?_, ?_, ?_, ?_, ?_, ?_, ?_, ?_, ?_, ?_, ?_, ?_, ?_, ?_, ?_, ?_, ?_, ?_, ?_, ?_, ?_, ?_, ?_, ?_, ?_, ?_, trivial⟩ ?_
    · intro ac w' hF hL hP hU K hK
      have hB := below_undrew hL
      have e7 : ac.eval (.tmp 7) = .bool true := hF.at 7 (by kernel_rfl)
      exact rop_move _ rfl e7 (wanted_none rfl) (hK _ _ (le8_refl _) rfl)
    · intro ac w' hF hL hP hU K hK
      have hB := below_undrew hL
      have e65 : ac.eval (.tmp 65) = .bool true := hP 0 (by kernel_rfl)
      exact rop_move _ rfl e65 (wanted_none rfl) (hK _ _ (le8_refl _) rfl)
    · intro ac w' hF hL hP hU K hK
      have hB := below_undrew hL
      have e12 : ac.eval (.tmp 12) = .int .i64 0 := hF.at 12 (by kernel_rfl)
      have e66 : ac.eval (.tmp 66) = .bool true := hP 1 (by kernel_rfl)
      exact rop_move _ rfl e12 (wanted_of (j := 1) (b := true) rfl rfl e66) (hK _ _ (le8_refl _) rfl)
    · intro ac w' hF hL hP hU K hK
      have hB := below_undrew hL
      have e67 : ac.eval (.tmp 67) = .int .i64 0 := hP 2 (by kernel_rfl)
      have e66 : ac.eval (.tmp 66) = .bool true := hP 1 (by kernel_rfl)
      exact rop_bin _ _ _ _ _ rfl e67 rfl (guard_int _ _ _ _ _ _ _ w') (eql_errS 0 w') (wanted_of (j := 1) (b := true) rfl rfl e66) (hK _ _ (le8_refl _) rfl)
    · intro ac w' hF hL hP hU K hK
      have hB := below_undrew hL
      have e66 : ac.eval (.tmp 66) = .bool true := hP 1 (by kernel_rfl)
      have e68 : ac.eval (.tmp 68) = .bool true := hP 3 (by kernel_rfl)
      exact rop_pick _ _ _ rfl true e66 (by simpa using e68) (wanted_none rfl) (hK _ _ (le8_refl _) rfl)
    · intro ac w' hF hL hP hU K hK
      have hB := below_undrew hL
      have e69 : ac.eval (.tmp 69) = .bool true := hP 4 (by kernel_rfl)
      exact rop_move _ rfl e69 (wanted_none rfl) (hK _ _ (le8_refl _) rfl)
    · intro ac w' hF hL hP hU K hK
      have hB := below_undrew hL
      have e14 : ac.eval (.tmp 14) = .int .i64 0 := hF.at 14 (by kernel_rfl)
      have e70 : ac.eval (.tmp 70) = .bool true := hP 5 (by kernel_rfl)
      exact rop_move _ rfl e14 (wanted_of (j := 5) (b := true) rfl rfl e70) (hK _ _ (le8_refl _) rfl)
    · intro ac w' hF hL hP hU K hK
      have hB := below_undrew hL
      have e71 : ac.eval (.tmp 71) = .int .i64 0 := hP 6 (by kernel_rfl)
      have e70 : ac.eval (.tmp 70) = .bool true := hP 5 (by kernel_rfl)
      exact rop_bin _ _ _ _ _ rfl e71 rfl (guard_int _ _ _ _ _ _ _ w') (eql_errS 0 w') (wanted_of (j := 5) (b := true) rfl rfl e70) (hK _ _ (le8_refl _) rfl)
    · intro ac w' hF hL hP hU K hK
      have hB := below_undrew hL
      have e70 : ac.eval (.tmp 70) = .bool true := hP 5 (by kernel_rfl)
      have e72 : ac.eval (.tmp 72) = .bool true := hP 7 (by kernel_rfl)
      exact rop_pick _ _ _ rfl true e70 (by simpa using e72) (wanted_none rfl) (hK _ _ (le8_refl _) rfl)
    · intro ac w' hF hL hP hU K hK
      have hB := below_undrew hL
      have e73 : ac.eval (.tmp 73) = .bool true := hP 8 (by kernel_rfl)
      exact rop_move _ rfl e73 (wanted_none rfl) (hK _ _ (le8_refl _) rfl)
    · intro ac w' hF hL hP hU K hK
      have hB := below_undrew hL
      have e11 : ac.eval (.tmp 11) = .pointer (some ⟨r1, 0, none⟩) := hF.at 11 (by kernel_rfl)
      have e74 : ac.eval (.tmp 74) = .bool true := hP 9 (by kernel_rfl)
      exact rop_fld _ _ _ rfl e11 ((recFld0 r1 _).2.2.1) (wanted_of (j := 9) (b := true) rfl rfl e74) (hK _ _ (le8_refl _) rfl)
    · intro ac w' hF hL hP hU K hK
      have hB := below_undrew hL
      have e75 : ac.eval (.tmp 75) = .pointer (some ⟨r1, 2, none⟩) := hP 10 (by kernel_rfl)
      have e74 : ac.eval (.tmp 74) = .bool true := hP 9 (by kernel_rfl)
      exact rop_ld _ _ rfl e75 (load_intR (((Blk.old HX1.out hB (Blk.lt HX1.out)).cell 2).trans rfl)) (wanted_of (j := 9) (b := true) rfl rfl e74) (hK _ _ (le8_refl _) rfl)
    · intro ac w' hF hL hP hU K hK
      have hB := below_undrew hL
      have e76 : ac.eval (.tmp 76) = .int .i64 1 := hP 11 (by kernel_rfl)
      have e74 : ac.eval (.tmp 74) = .bool true := hP 9 (by kernel_rfl)
      exact rop_bin _ _ _ _ _ rfl e76 rfl (guard_int _ _ _ _ _ _ _ w') (eql_iG _ _ true (by simp) w') (wanted_of (j := 9) (b := true) rfl rfl e74) (hK _ _ (le8_refl _) rfl)
    · intro ac w' hF hL hP hU K hK
      have hB := below_undrew hL
      have e74 : ac.eval (.tmp 74) = .bool true := hP 9 (by kernel_rfl)
      have e77 : ac.eval (.tmp 77) = .bool true := hP 12 (by kernel_rfl)
      exact rop_pick _ _ _ rfl true e74 (by simpa using e77) (wanted_none rfl) (hK _ _ (le8_refl _) rfl)
    · intro ac w' hF hL hP hU K hK
      have hB := below_undrew hL
      have e78 : ac.eval (.tmp 78) = .bool true := hP 13 (by kernel_rfl)
      exact rop_move _ rfl e78 (wanted_none rfl) (hK _ _ (le8_refl _) rfl)
    · intro ac w' hF hL hP hU K hK
      have hB := below_undrew hL
      have e13 : ac.eval (.tmp 13) = .pointer (some ⟨r2, 0, none⟩) := hF.at 13 (by kernel_rfl)
      have e79 : ac.eval (.tmp 79) = .bool true := hP 14 (by kernel_rfl)
      exact rop_fld _ _ _ rfl e13 ((recFld0 r2 _).2.2.1) (wanted_of (j := 14) (b := true) rfl rfl e79) (hK _ _ (le8_refl _) rfl)
    · intro ac w' hF hL hP hU K hK
      have hB := below_undrew hL
      have e80 : ac.eval (.tmp 80) = .pointer (some ⟨r2, 2, none⟩) := hP 15 (by kernel_rfl)
      have e79 : ac.eval (.tmp 79) = .bool true := hP 14 (by kernel_rfl)
      exact rop_ld _ _ rfl e80 (load_intR (((Blk.old HX2.out hB (Blk.lt HX2.out)).cell 2).trans rfl)) (wanted_of (j := 14) (b := true) rfl rfl e79) (hK _ _ (le8_refl _) rfl)
    · intro ac w' hF hL hP hU K hK
      have hB := below_undrew hL
      have e81 : ac.eval (.tmp 81) = .int .i64 2 := hP 16 (by kernel_rfl)
      have e79 : ac.eval (.tmp 79) = .bool true := hP 14 (by kernel_rfl)
      exact rop_bin _ _ _ _ _ rfl e81 rfl (guard_int _ _ _ _ _ _ _ w') (eql_iG _ _ true (by simp) w') (wanted_of (j := 14) (b := true) rfl rfl e79) (hK _ _ (le8_refl _) rfl)
    · intro ac w' hF hL hP hU K hK
      have hB := below_undrew hL
      have e79 : ac.eval (.tmp 79) = .bool true := hP 14 (by kernel_rfl)
      have e82 : ac.eval (.tmp 82) = .bool true := hP 17 (by kernel_rfl)
      exact rop_pick _ _ _ rfl true e79 (by simpa using e82) (wanted_none rfl) (hK _ _ (le8_refl _) rfl)
    · intro ac w' hF hL hP hU K hK
      have hB := below_undrew hL
      have e83 : ac.eval (.tmp 83) = .bool true := hP 18 (by kernel_rfl)
      exact rop_move _ rfl e83 (wanted_none rfl) (hK _ _ (le8_refl _) rfl)
    · intro ac w' hF hL hP hU K hK
      have hB := below_undrew hL
      have e11 : ac.eval (.tmp 11) = .pointer (some ⟨r1, 0, none⟩) := hF.at 11 (by kernel_rfl)
      have e84 : ac.eval (.tmp 84) = .bool true := hP 19 (by kernel_rfl)
      exact rop_fld _ _ _ rfl e11 ((recFld0 r1 _).2.2.2) (wanted_of (j := 19) (b := true) rfl rfl e84) (hK _ _ (le8_refl _) rfl)
    · intro ac w' hF hL hP hU K hK
      have hB := below_undrew hL
      have e85 : ac.eval (.tmp 85) = .pointer (some ⟨r1, 3, none⟩) := hP 20 (by kernel_rfl)
      have e84 : ac.eval (.tmp 84) = .bool true := hP 19 (by kernel_rfl)
      exact rop_ld _ _ rfl e85 (load_strR (((Blk.old HX1.out hB (Blk.lt HX1.out)).cell 3).trans rfl)) (wanted_of (j := 19) (b := true) rfl rfl e84) (hK _ _ (le8_refl _) rfl)
    · intro ac w' hF hL hP hU K hK
      have hB := below_undrew hL
      have e1 : ac.eval (.tmp 1) = .string sa := hF.at 1 (by kernel_rfl)
      have e84 : ac.eval (.tmp 84) = .bool true := hP 19 (by kernel_rfl)
      exact rop_move _ rfl e1 (wanted_of (j := 19) (b := true) rfl rfl e84) (hK _ _ (le8_refl _) rfl)
    · intro ac w' hF hL hP hU K hK
      have hB := below_undrew hL
      have e87 : ac.eval (.tmp 87) = .string sa := hP 22 (by kernel_rfl)
      have e84 : ac.eval (.tmp 84) = .bool true := hP 19 (by kernel_rfl)
      refine rop_call 16 _ _ rfl #[.string sa, .int .i64 60] (by simp [e87, eval_const]) (by kernel_rfl) (wanted_of (j := 19) (b := true) rfl rfl e84) ?_
      refine (calls_b (HSHsa.out w')).mono ?_
      rintro e w2 ⟨rfl, hb⟩
      exact ⟨_, rfl, hK _ _ hb rfl⟩
    · intro ac w' hF hL hP hU K hK
      have hB := below_undrew hL
      have e86 : ac.eval (.tmp 86) = .string PA := hP 21 (by kernel_rfl)
      have e88 : ac.eval (.tmp 88) = .string PA := hP 23 (by kernel_rfl)
      have e84 : ac.eval (.tmp 84) = .bool true := hP 19 (by kernel_rfl)
      exact rop_bin _ _ _ _ _ rfl e86 e88 (guard_str _ _ _ _ _ _ w') (eql_str_t _ _ rfl w') (wanted_of (j := 19) (b := true) rfl rfl e84) (hK _ _ (le8_refl _) rfl)
    · intro ac w' hF hL hP hU K hK
      have hB := below_undrew hL
      have e84 : ac.eval (.tmp 84) = .bool true := hP 19 (by kernel_rfl)
      have e89 : ac.eval (.tmp 89) = .bool true := hP 24 (by kernel_rfl)
      exact rop_pick _ _ _ rfl true e84 (by simpa using e89) (wanted_none rfl) (hK _ _ (le8_refl _) rfl)
    · intro ac w' hF hL hP hU K hK
      have hB := below_undrew hL
      have e90 : ac.eval (.tmp 90) = .bool true := hP 25 (by kernel_rfl)
      exact rop_move _ rfl e90 (wanted_none rfl) (hK _ _ (le8_refl _) rfl)
    · intro ac w' hF hL hP hU K hK
      have hB := below_undrew hL
      have e13 : ac.eval (.tmp 13) = .pointer (some ⟨r2, 0, none⟩) := hF.at 13 (by kernel_rfl)
      have e91 : ac.eval (.tmp 91) = .bool true := hP 26 (by kernel_rfl)
      exact rop_fld _ _ _ rfl e13 ((recFld0 r2 _).2.2.2) (wanted_of (j := 26) (b := true) rfl rfl e91) (hK _ _ (le8_refl _) rfl)
    · intro ac w' hF hL hP hU K hK
      have hB := below_undrew hL
      have e92 : ac.eval (.tmp 92) = .pointer (some ⟨r2, 3, none⟩) := hP 27 (by kernel_rfl)
      have e91 : ac.eval (.tmp 91) = .bool true := hP 26 (by kernel_rfl)
      exact rop_ld _ _ rfl e92 (load_strR (((Blk.old HX2.out hB (Blk.lt HX2.out)).cell 3).trans rfl)) (wanted_of (j := 26) (b := true) rfl rfl e91) (hK _ _ (le8_refl _) rfl)
    · intro ac w' hF hL hP hU K hK
      have hB := below_undrew hL
      have e2 : ac.eval (.tmp 2) = .string sb := hF.at 2 (by kernel_rfl)
      have e91 : ac.eval (.tmp 91) = .bool true := hP 26 (by kernel_rfl)
      exact rop_move _ rfl e2 (wanted_of (j := 26) (b := true) rfl rfl e91) (hK _ _ (le8_refl _) rfl)
    · intro ac w' hF hL hP hU K hK
      have hB := below_undrew hL
      have e94 : ac.eval (.tmp 94) = .string sb := hP 29 (by kernel_rfl)
      have e91 : ac.eval (.tmp 91) = .bool true := hP 26 (by kernel_rfl)
      refine rop_call 16 _ _ rfl #[.string sb, .int .i64 60] (by simp [e94, eval_const]) (by kernel_rfl) (wanted_of (j := 26) (b := true) rfl rfl e91) ?_
      refine (calls_b (HSHsb.out w')).mono ?_
      rintro e w2 ⟨rfl, hb⟩
      exact ⟨_, rfl, hK _ _ hb rfl⟩
    · intro ac w' hF hL hP hU K hK
      have hB := below_undrew hL
      have e93 : ac.eval (.tmp 93) = .string PB := hP 28 (by kernel_rfl)
      have e95 : ac.eval (.tmp 95) = .string PB := hP 30 (by kernel_rfl)
      have e91 : ac.eval (.tmp 91) = .bool true := hP 26 (by kernel_rfl)
      exact rop_bin _ _ _ _ _ rfl e93 e95 (guard_str _ _ _ _ _ _ w') (eql_str_t _ _ rfl w') (wanted_of (j := 26) (b := true) rfl rfl e91) (hK _ _ (le8_refl _) rfl)
    · intro ac w' hF hL hP hU K hK
      have hB := below_undrew hL
      have e91 : ac.eval (.tmp 91) = .bool true := hP 26 (by kernel_rfl)
      have e96 : ac.eval (.tmp 96) = .bool true := hP 31 (by kernel_rfl)
      exact rop_pick _ _ _ rfl true e91 (by simpa using e96) (wanted_none rfl) (hK _ _ (le8_refl _) rfl)
    · intro ac w' hF hL hP hU K hK
      have hB := below_undrew hL
      have e97 : ac.eval (.tmp 97) = .bool true := hP 32 (by kernel_rfl)
      exact rop_move _ rfl e97 (wanted_none rfl) (hK _ _ (le8_refl _) rfl)
    · intro ac w' hF hL hP hU K hK
      have hB := below_undrew hL
      have e8 : ac.eval (.tmp 8) = .pointer (some ⟨B, 0, none⟩) := hF.at 8 (by kernel_rfl)
      have e98 : ac.eval (.tmp 98) = .bool true := hP 33 (by kernel_rfl)
      exact rop_move _ rfl e8 (wanted_of (j := 33) (b := true) rfl rfl e98) (hK _ _ (le8_refl _) rfl)
    · intro ac w' hF hL hP hU K hK
      have hB := below_undrew hL
      have e99 : ac.eval (.tmp 99) = .pointer (some ⟨B, 0, none⟩) := hP 34 (by kernel_rfl)
      have e98 : ac.eval (.tmp 98) = .bool true := hP 33 (by kernel_rfl)
      refine rop_call 10 _ _ rfl #[.pointer (some ⟨B, 0, none⟩)] (by simp [e99]) (by kernel_rfl) (wanted_of (j := 33) (b := true) rfl rfl e98) ?_
      refine (HNB.out w' hB).mono ?_
      rintro e w2 ⟨rfl, hb⟩
      exact ⟨_, rfl, hK _ _ hb rfl⟩
    · intro ac w' hF hL hP hU K hK
      have hB := below_undrew hL
      have e10 : ac.eval (.tmp 10) = .int .i64 (m : Int) := hF.at 10 (by kernel_rfl)
      have e98 : ac.eval (.tmp 98) = .bool true := hP 33 (by kernel_rfl)
      exact rop_move _ rfl e10 (wanted_of (j := 33) (b := true) rfl rfl e98) (hK _ _ (le8_refl _) rfl)
    · intro ac w' hF hL hP hU K hK
      have hB := below_undrew hL
      have e101 : ac.eval (.tmp 101) = .int .i64 (m : Int) := hP 36 (by kernel_rfl)
      have e98 : ac.eval (.tmp 98) = .bool true := hP 33 (by kernel_rfl)
      exact rop_bin _ _ _ _ _ rfl e101 rfl (guard_int _ _ _ _ _ _ _ w') ((add_iG _ 1 (IntWalk.i64_in _ (by omega)) w').trans (by rw [show (m : Int) + 1 = ((m + 1 : Nat) : Int) by omega])) (wanted_of (j := 33) (b := true) rfl rfl e98) (hK _ _ (le8_refl _) rfl)
    · intro ac w' hF hL hP hU K hK
      have hB := below_undrew hL
      have e100 : ac.eval (.tmp 100) = .int .i64 ((m + 1 : Nat) : Int) := hP 35 (by kernel_rfl)
      have e102 : ac.eval (.tmp 102) = .int .i64 ((m + 1 : Nat) : Int) := hP 37 (by kernel_rfl)
      have e98 : ac.eval (.tmp 98) = .bool true := hP 33 (by kernel_rfl)
      exact rop_bin _ _ _ _ _ rfl e100 e102 (guard_int _ _ _ _ _ _ _ w') (eql_iG _ _ true (by simp) w') (wanted_of (j := 33) (b := true) rfl rfl e98) (hK _ _ (le8_refl _) rfl)
    · intro ac w' hF hL hP hU K hK
      have hB := below_undrew hL
      have e98 : ac.eval (.tmp 98) = .bool true := hP 33 (by kernel_rfl)
      have e103 : ac.eval (.tmp 103) = .bool true := hP 38 (by kernel_rfl)
      exact rop_pick _ _ _ rfl true e98 (by simpa using e103) (wanted_none rfl) (hK _ _ (le8_refl _) rfl)
    · intro ac w' hF hL hP hU K hK
      have hB := below_undrew hL
      have e104 : ac.eval (.tmp 104) = .bool true := hP 39 (by kernel_rfl)
      exact rop_move _ rfl e104 (wanted_none rfl) (hK _ _ (le8_refl _) rfl)
    · intro ac w' hF hL hP hU K hK
      have hB := below_undrew hL
      have e9 : ac.eval (.tmp 9) = .pointer (some ⟨C, 0, none⟩) := hF.at 9 (by kernel_rfl)
      have e105 : ac.eval (.tmp 105) = .bool true := hP 40 (by kernel_rfl)
      exact rop_move _ rfl e9 (wanted_of (j := 40) (b := true) rfl rfl e105) (hK _ _ (le8_refl _) rfl)
    · intro ac w' hF hL hP hU K hK
      have hB := below_undrew hL
      have e106 : ac.eval (.tmp 106) = .pointer (some ⟨C, 0, none⟩) := hP 41 (by kernel_rfl)
      have e105 : ac.eval (.tmp 105) = .bool true := hP 40 (by kernel_rfl)
      refine rop_call 10 _ _ rfl #[.pointer (some ⟨C, 0, none⟩)] (by simp [e106]) (by kernel_rfl) (wanted_of (j := 40) (b := true) rfl rfl e105) ?_
      refine (HNC.out w' hB).mono ?_
      rintro e w2 ⟨rfl, hb⟩
      exact ⟨_, rfl, hK _ _ hb rfl⟩
    · intro ac w' hF hL hP hU K hK
      have hB := below_undrew hL
      have e10 : ac.eval (.tmp 10) = .int .i64 (m : Int) := hF.at 10 (by kernel_rfl)
      have e105 : ac.eval (.tmp 105) = .bool true := hP 40 (by kernel_rfl)
      exact rop_move _ rfl e10 (wanted_of (j := 40) (b := true) rfl rfl e105) (hK _ _ (le8_refl _) rfl)
    · intro ac w' hF hL hP hU K hK
      have hB := below_undrew hL
      have e108 : ac.eval (.tmp 108) = .int .i64 (m : Int) := hP 43 (by kernel_rfl)
      have e105 : ac.eval (.tmp 105) = .bool true := hP 40 (by kernel_rfl)
      exact rop_bin _ _ _ _ _ rfl e108 rfl (guard_int _ _ _ _ _ _ _ w') ((add_iG _ 1 (IntWalk.i64_in _ (by omega)) w').trans (by rw [show (m : Int) + 1 = ((m + 1 : Nat) : Int) by omega])) (wanted_of (j := 40) (b := true) rfl rfl e105) (hK _ _ (le8_refl _) rfl)
    · intro ac w' hF hL hP hU K hK
      have hB := below_undrew hL
      have e107 : ac.eval (.tmp 107) = .int .i64 ((m + 1 : Nat) : Int) := hP 42 (by kernel_rfl)
      have e109 : ac.eval (.tmp 109) = .int .i64 ((m + 1 : Nat) : Int) := hP 44 (by kernel_rfl)
      have e105 : ac.eval (.tmp 105) = .bool true := hP 40 (by kernel_rfl)
      exact rop_bin _ _ _ _ _ rfl e107 e109 (guard_int _ _ _ _ _ _ _ w') (eql_iG _ _ true (by simp) w') (wanted_of (j := 40) (b := true) rfl rfl e105) (hK _ _ (le8_refl _) rfl)
    · intro ac w' hF hL hP hU K hK
      have hB := below_undrew hL
      have e105 : ac.eval (.tmp 105) = .bool true := hP 40 (by kernel_rfl)
      have e110 : ac.eval (.tmp 110) = .bool true := hP 45 (by kernel_rfl)
      exact rop_pick _ _ _ rfl true e105 (by simpa using e110) (wanted_none rfl) (hK _ _ (le8_refl _) rfl)
    · intro ac w' hF hL hP hU K hK
      have hB := below_undrew hL
      have e111 : ac.eval (.tmp 111) = .bool true := hP 46 (by kernel_rfl)
      exact rop_move _ rfl e111 (wanted_none rfl) (hK _ _ (le8_refl _) rfl)
    · intro ac w' hF hL hP hU K hK
      have hB := below_undrew hL
      have e8 : ac.eval (.tmp 8) = .pointer (some ⟨B, 0, none⟩) := hF.at 8 (by kernel_rfl)
      have e112 : ac.eval (.tmp 112) = .bool true := hP 47 (by kernel_rfl)
      exact rop_move _ rfl e8 (wanted_of (j := 47) (b := true) rfl rfl e112) (hK _ _ (le8_refl _) rfl)
    · intro ac w' hF hL hP hU K hK
      have hB := below_undrew hL
      have e113 : ac.eval (.tmp 113) = .pointer (some ⟨B, 0, none⟩) := hP 48 (by kernel_rfl)
      have e112 : ac.eval (.tmp 112) = .bool true := hP 47 (by kernel_rfl)
      refine rop_call 13 _ _ rfl #[.pointer (some ⟨B, 0, none⟩)] (by simp [e113]) (by kernel_rfl) (wanted_of (j := 47) (b := true) rfl rfl e112) ?_
      refine (HRB2.out w' hB).mono ?_
      rintro e w2 ⟨rfl, hb⟩
      exact ⟨_, rfl, hK _ _ hb rfl⟩
    · intro ac w' hF hL hP hU K hK
      have hB := below_undrew hL
      have e8 : ac.eval (.tmp 8) = .pointer (some ⟨B, 0, none⟩) := hF.at 8 (by kernel_rfl)
      have e112 : ac.eval (.tmp 112) = .bool true := hP 47 (by kernel_rfl)
      exact rop_move _ rfl e8 (wanted_of (j := 47) (b := true) rfl rfl e112) (hK _ _ (le8_refl _) rfl)
    · intro ac w' hF hL hP hU K hK
      have hB := below_undrew hL
      have e115 : ac.eval (.tmp 115) = .pointer (some ⟨B, 0, none⟩) := hP 50 (by kernel_rfl)
      have e112 : ac.eval (.tmp 112) = .bool true := hP 47 (by kernel_rfl)
      refine rop_call 11 _ _ rfl #[.pointer (some ⟨B, 0, none⟩)] (by simp [e115]) (by kernel_rfl) (wanted_of (j := 47) (b := true) rfl rfl e112) ?_
      refine (HLB.out w' hB).mono ?_
      rintro e w2 ⟨v2, rfl, hr2, hb⟩
      exact ⟨_, rfl, hK _ _ hb hr2⟩
    · intro ac w' hF hL hP hU K hK
      have hB := below_undrew hL
      have e116 : Sums w' (ac.eval (.tmp 116)) LB := hP 51 (by kernel_rfl)
      have e112 : ac.eval (.tmp 112) = .bool true := hP 47 (by kernel_rfl)
      refine rop_call 18 _ _ rfl #[ac.eval (.tmp 116)] (by simp) (by kernel_rfl) (wanted_of (j := 47) (b := true) rfl rfl e112) ?_
      refine (HRRB.out _ w' e116).mono ?_
      rintro e w2 ⟨rfl, hb⟩
      exact ⟨_, rfl, hK _ _ hb rfl⟩
    · intro ac w' hF hL hP hU K hK
      have hB := below_undrew hL
      have e114 : ac.eval (.tmp 114) = sumV DB := hP 49 (by kernel_rfl)
      have e117 : ac.eval (.tmp 117) = sumV DB := hP 52 (by kernel_rfl)
      have e112 : ac.eval (.tmp 112) = .bool true := hP 47 (by kernel_rfl)
      exact rop_bin _ _ _ _ _ rfl e114 e117 (guard_run _ _ _ _ _ w') (eql_sum_tt DB DB HDBl.out HDBl.out rfl w') (wanted_of (j := 47) (b := true) rfl rfl e112) (hK _ _ (le8_refl _) rfl)
    · intro ac w' hF hL hP hU K hK
      have hB := below_undrew hL
      have e112 : ac.eval (.tmp 112) = .bool true := hP 47 (by kernel_rfl)
      have e118 : ac.eval (.tmp 118) = .bool true := hP 53 (by kernel_rfl)
      exact rop_pick _ _ _ rfl true e112 (by simpa using e118) (wanted_none rfl) (hK _ _ (le8_refl _) rfl)
    · intro ac w' hF hL hP hU K hK
      have hB := below_undrew hL
      have e119 : ac.eval (.tmp 119) = .bool true := hP 54 (by kernel_rfl)
      exact rop_move _ rfl e119 (wanted_none rfl) (hK _ _ (le8_refl _) rfl)
    · intro ac w' hF hL hP hU K hK
      have hB := below_undrew hL
      have e9 : ac.eval (.tmp 9) = .pointer (some ⟨C, 0, none⟩) := hF.at 9 (by kernel_rfl)
      have e120 : ac.eval (.tmp 120) = .bool true := hP 55 (by kernel_rfl)
      exact rop_move _ rfl e9 (wanted_of (j := 55) (b := true) rfl rfl e120) (hK _ _ (le8_refl _) rfl)
    · intro ac w' hF hL hP hU K hK
      have hB := below_undrew hL
      have e121 : ac.eval (.tmp 121) = .pointer (some ⟨C, 0, none⟩) := hP 56 (by kernel_rfl)
      have e120 : ac.eval (.tmp 120) = .bool true := hP 55 (by kernel_rfl)
      refine rop_call 13 _ _ rfl #[.pointer (some ⟨C, 0, none⟩)] (by simp [e121]) (by kernel_rfl) (wanted_of (j := 55) (b := true) rfl rfl e120) ?_
      refine (HRC2.out w' hB).mono ?_
      rintro e w2 ⟨rfl, hb⟩
      exact ⟨_, rfl, hK _ _ hb rfl⟩
    · intro ac w' hF hL hP hU K hK
      have hB := below_undrew hL
      have e9 : ac.eval (.tmp 9) = .pointer (some ⟨C, 0, none⟩) := hF.at 9 (by kernel_rfl)
      have e120 : ac.eval (.tmp 120) = .bool true := hP 55 (by kernel_rfl)
      exact rop_move _ rfl e9 (wanted_of (j := 55) (b := true) rfl rfl e120) (hK _ _ (le8_refl _) rfl)
    · intro ac w' hF hL hP hU K hK
      have hB := below_undrew hL
      have e123 : ac.eval (.tmp 123) = .pointer (some ⟨C, 0, none⟩) := hP 58 (by kernel_rfl)
      have e120 : ac.eval (.tmp 120) = .bool true := hP 55 (by kernel_rfl)
      refine rop_call 11 _ _ rfl #[.pointer (some ⟨C, 0, none⟩)] (by simp [e123]) (by kernel_rfl) (wanted_of (j := 55) (b := true) rfl rfl e120) ?_
      refine (HLC.out w' hB).mono ?_
      rintro e w2 ⟨v2, rfl, hr2, hb⟩
      exact ⟨_, rfl, hK _ _ hb hr2⟩
    · intro ac w' hF hL hP hU K hK
      have hB := below_undrew hL
      have e124 : Sums w' (ac.eval (.tmp 124)) LC := hP 59 (by kernel_rfl)
      have e120 : ac.eval (.tmp 120) = .bool true := hP 55 (by kernel_rfl)
      refine rop_call 18 _ _ rfl #[ac.eval (.tmp 124)] (by simp) (by kernel_rfl) (wanted_of (j := 55) (b := true) rfl rfl e120) ?_
      refine (HRRC.out _ w' e124).mono ?_
      rintro e w2 ⟨rfl, hb⟩
      exact ⟨_, rfl, hK _ _ hb rfl⟩
    · intro ac w' hF hL hP hU K hK
      have hB := below_undrew hL
      have e122 : ac.eval (.tmp 122) = sumV DC := hP 57 (by kernel_rfl)
      have e125 : ac.eval (.tmp 125) = sumV DC := hP 60 (by kernel_rfl)
      have e120 : ac.eval (.tmp 120) = .bool true := hP 55 (by kernel_rfl)
      exact rop_bin _ _ _ _ _ rfl e122 e125 (guard_run _ _ _ _ _ w') (eql_sum_tt DC DC HDCl.out HDCl.out rfl w') (wanted_of (j := 55) (b := true) rfl rfl e120) (hK _ _ (le8_refl _) rfl)
    · intro ac w' hF hL hP hU K hK
      have hB := below_undrew hL
      have e120 : ac.eval (.tmp 120) = .bool true := hP 55 (by kernel_rfl)
      have e126 : ac.eval (.tmp 126) = .bool true := hP 61 (by kernel_rfl)
      exact rop_pick _ _ _ rfl true e120 (by simpa using e126) (wanted_none rfl) (hK _ _ (le8_refl _) rfl)
    · intro ac w' hF hL hP hU K hK
      have hB := below_undrew hL
      have e127 : ac.eval (.tmp 127) = .bool true := hP 62 (by kernel_rfl)
      exact rop_assign _ rfl e127 (wanted_none rfl) (hK _ _ (le8_refl _) rfl)
    · intro ac w' hF hB hT
      have e6 : ac.eval (.tmp 6) = .bool true := hT 63 (by decide)
      rw [hF.setsG [65, 66, 67, 68, 69, 70, 71, 72, 73, 74, 75, 76, 77, 78, 79, 80, 81, 82, 83, 84, 85, 86, 87, 88, 89, 90, 91, 92, 93, 94, 95, 96, 97, 98, 99, 100, 101, 102, 103, 104, 105, 106, 107, 108, 109, 110, 111, 112, 113, 114, 115, 116, 117, 118, 119, 120, 121, 122, 123, 124, 125, 126, 127, 6] (by kernel_rfl)]
      simp only [List.foldl_cons, List.foldl_nil, List.setIfInBounds_toArray, List.set_cons_succ, List.set_cons_zero, e6]
      generalize ac.eval (.tmp 65) = u65
      generalize ac.eval (.tmp 66) = u66
      generalize ac.eval (.tmp 67) = u67
      generalize ac.eval (.tmp 68) = u68
      generalize ac.eval (.tmp 69) = u69
      generalize ac.eval (.tmp 70) = u70
      generalize ac.eval (.tmp 71) = u71
      generalize ac.eval (.tmp 72) = u72
      generalize ac.eval (.tmp 73) = u73
      generalize ac.eval (.tmp 74) = u74
      generalize ac.eval (.tmp 75) = u75
      generalize ac.eval (.tmp 76) = u76
      generalize ac.eval (.tmp 77) = u77
      generalize ac.eval (.tmp 78) = u78
      generalize ac.eval (.tmp 79) = u79
      generalize ac.eval (.tmp 80) = u80
      generalize ac.eval (.tmp 81) = u81
      generalize ac.eval (.tmp 82) = u82
      generalize ac.eval (.tmp 83) = u83
      generalize ac.eval (.tmp 84) = u84
      generalize ac.eval (.tmp 85) = u85
      generalize ac.eval (.tmp 86) = u86
      generalize ac.eval (.tmp 87) = u87
      generalize ac.eval (.tmp 88) = u88
      generalize ac.eval (.tmp 89) = u89
      generalize ac.eval (.tmp 90) = u90
      generalize ac.eval (.tmp 91) = u91
      generalize ac.eval (.tmp 92) = u92
      generalize ac.eval (.tmp 93) = u93
      generalize ac.eval (.tmp 94) = u94
      generalize ac.eval (.tmp 95) = u95
      generalize ac.eval (.tmp 96) = u96
      generalize ac.eval (.tmp 97) = u97
      generalize ac.eval (.tmp 98) = u98
      generalize ac.eval (.tmp 99) = u99
      generalize ac.eval (.tmp 100) = u100
      generalize ac.eval (.tmp 101) = u101
      generalize ac.eval (.tmp 102) = u102
      generalize ac.eval (.tmp 103) = u103
      generalize ac.eval (.tmp 104) = u104
      generalize ac.eval (.tmp 105) = u105
      generalize ac.eval (.tmp 106) = u106
      generalize ac.eval (.tmp 107) = u107
      generalize ac.eval (.tmp 108) = u108
      generalize ac.eval (.tmp 109) = u109
      generalize ac.eval (.tmp 110) = u110
      generalize ac.eval (.tmp 111) = u111
      generalize ac.eval (.tmp 112) = u112
      generalize ac.eval (.tmp 113) = u113
      generalize ac.eval (.tmp 114) = u114
      generalize ac.eval (.tmp 115) = u115
      generalize ac.eval (.tmp 116) = u116
      generalize ac.eval (.tmp 117) = u117
      generalize ac.eval (.tmp 118) = u118
      generalize ac.eval (.tmp 119) = u119
      generalize ac.eval (.tmp 120) = u120
      generalize ac.eval (.tmp 121) = u121
      generalize ac.eval (.tmp 122) = u122
      generalize ac.eval (.tmp 123) = u123
      generalize ac.eval (.tmp 124) = u124
      generalize ac.eval (.tmp 125) = u125
      generalize ac.eval (.tmp 126) = u126
      generalize ac.eval (.tmp 127) = u127
      clear e6 hT hF ac
      have HF := Lib.hid (below_step HBV.out (Nat.le_refl _) hB)
      clear hB
      go_wp2
      go_ret
      exact ⟨rfl, HF.out⟩
set_option maxRecDepth 100000 in
theorem lifted (os : Os) (started : os.Started) (H : Type) (enc : TypeId × Value → H) :
    ReturnsInHanded {} Tryd.checked os 5 .any (fun w args => (Rows.shardCopiesSpec.pre enc Tryd.prog Tryd.f5 [] false w args ∧ laidMetH Tryd.prog [("scrinium/sha.k", Rows.laid_scrinium_sha_k)] w) ∧ sizedMet enc Tryd.prog Tryd.f5 (OpenSpec.ofChange Rows.shardCopiesSpec) false w args)
      (Rows.shardCopiesSpec.post enc Tryd.prog Tryd.f5 false true false false) := by
  refine returnsInHanded_of_change_and (C := Tryd.checked) (X := fun w _ => laidMetH Tryd.prog [("scrinium/sha.k", Rows.laid_scrinium_sha_k)] w) (fun _ _ _ hh h => h.of_heap hh) lawOwn started (by kernel_rfl) Tryd.func5
    (ChangeSpec.witness_shaped (enc := enc) (C := Tryd.checked) (os := os) (X := fun w _ => laidMetH Tryd.prog [("scrinium/sha.k", Rows.laid_scrinium_sha_k)] w) false (World.doorLaid Tryd.prog 400 os) #[.slice none 0 0, .string .empty, .string .empty] 8 rfl (World.shaped_of_RefB (by kernel_rfl) (by kernel_rfl)) (by kernel_rfl) (by kernel_rfl) (by kernel_rfl) (door_met os _)) ?_
  intro W base args ds gs before hval0 hW _ _ hL _
  have hval : ∀ (j : Nat) t v, Tryd.f5.params[j]? = some t → args[j]? = some v → Value.okWide Tryd.prog W .any base t v := hval0
  have hW' := hW
  obtain ⟨p, q, hA0, hV, rfl, hfz, hnd⟩ := hW
  have hA : DataW.TrodAll enc Tryd.prog W 0 (fun _ => true) true Tryd.f5.params.toList args.toList ds p := hA0
  rw [Tryd.params5] at hA hval
  obtain ⟨v0, vs0, d0, ds0, p0, q0, hargs, rfl, rfl, h0, r0⟩ := trodAll_cons hA
  obtain ⟨v1, vs1, d1, ds1, p1, q1, rfl, rfl, rfl, h1, r1⟩ := trodAll_cons r0
  obtain ⟨v2, vs2, d2, ds2, p2, q2, rfl, rfl, rfl, h2, r2⟩ := trodAll_cons r1
  obtain ⟨rfl, rfl, rfl⟩ := trodAll_nil r2
  obtain rfl : args = #[v0, v1, v2] := by cases args; simp_all
  obtain ⟨rfl, rfl⟩ := trodVars_none hV
  have hKT := KT_of_laid hL
  obtain ⟨a0, len0, cap0, rfl⟩ := okWide_slice Tryd.underlying22 (hval 0 22 v0 rfl rfl)
  obtain ⟨l0, w0, k0⟩ := ops17_of h0
  obtain ⟨s1, rfl, rfl, rfl, w1⟩ := Go.ChangeMaps.open_string Tryd.underlying9 (hval 1 9 v1 rfl rfl) h1
  obtain ⟨s2, rfl, rfl, rfl, w2⟩ := Go.ChangeMaps.open_string Tryd.underlying9 (hval 2 9 v2 rfl rfl) h2
  clear hA0 hval0
  refine (walk (w := W) hKT _ l0 w0 k0 s1 w1 s2 w2).mono fun e W' ⟨he, bel⟩ => ?_
  subst he
  exact ⟨_, rfl, law_post rfl rfl (by kernel_rfl) hW' rfl bel⟩

theorem row_holds : Rows.ShardCopiesSaid :=
  OpenClaim.holds_of_wide 5 Tryd.f5 rfl rfl rfl rfl rfl rfl rfl ⟨rfl, rfl, rfl, rfl, rfl⟩ rfl rfl rfl rfl rfl (by kernel_rfl) Tryd.func5 (by kernel_rfl)
    (of_decide_eq_true (by kernel_rfl)) (by unfold Func.isWrapper; first | (rw [if_pos (by decide +kernel)]; kernel_rfl) | (rw [if_neg (by decide +kernel)]; exact ⟨rfl, rfl⟩))
    (fun os started H enc _ => lifted os started H enc)

theorem holds : Rows.ShardCopiesCardSaid :=
  Claim7.holds_tied_plain_at .later [] [.data] true Rows.shardCopiesCard.stood.harness false
    row_holds (fun _ h => by cases h) (by kernel_rfl) (fun _ h => by cases h) shardCopies_row_tie rfl ⟨rfl, rfl⟩ (by kernel_rfl) rfl
    (fun f fn hf hfn => by
      obtain rfl : f = 5 := Option.some.inj ((show Tryd.prog.funcNamed "scrinium/scriniumlaw17.ShardCopies" = some 5 by kernel_rfl).symm.trans hf) |>.symm
      obtain rfl : fn = Tryd.f5 := (Option.some.inj (Tryd.func5.symm.trans hfn)).symm
      exact ⟨by kernel_rfl, fun j t ht => by
        rw [Tryd.params5] at ht
        have hm : t ∈ [22, 9, 9] := by simpa using Array.mem_of_getElem? ht
        have hall : ([22, 9, 9].all fun u => !Tryd.prog.wantsStandIn u) = true := by kernel_rfl
        exact (show Tryd.prog.wantsStandIn t = false by simpa using List.all_eq_true.1 hall t hm)⟩)
    (by kernel_rfl)
end Go.Proofs.YtollcdalokhjaaaDoor.shardCopies

theorem Go.Proofs.YtollcdalokhjaaaDoor.shardCopies_holds : Go.Proofs.YtollcdalokhjaaaDoor.Rows.ShardCopiesCardSaid := Go.Proofs.YtollcdalokhjaaaDoor.shardCopies.holds
#print axioms Go.Proofs.YtollcdalokhjaaaDoor.shardCopies_holds
