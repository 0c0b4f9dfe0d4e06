/-
  MacParts: how a text is cut into parts does not matter, nor do bytes 0 behind a short key; a long key is as good as its hash. For every key, every two texts (their first 100 bytes each) and any number; the numbers K are as the program's text lays them.
-/
import Derived.Test.YtcecncbhfcoilaaDoorStrArg
import Derived.Test.YtcecncbhfcoilaaDoorMacAwake
import Derived.Test.YtcecncbhfcoilaaDoorRefMac
namespace Go.Proofs.YtcecncbhfcoilaaDoor.macParts
open Go.ChangeShapes Go.WideShapes Go.ChangeAt Go.RowKit

theorem flat_ab (a b : ByteArray) : flat [a ++ b] = flat [a, b] := by rw [flat_one, flat_two, app_data]
theorem flat_aeb (a b : ByteArray) : flat [a, ⟨#[]⟩, b] = flat [a, b] := by simp [flat]
theorem rem_nat (z : Int) (d : Nat) (hd : 0 < d) : ∃ r : Int, z.tmod (d : Int) = r ∧ r < d ∧ -(d : Int) < r := by
  have h := Int.natAbs_tmod z (d : Int)
  rw [Int.natAbs_natCast] at h
  have h2 := Nat.mod_lt z.natAbs hd
  generalize z.tmod (d : Int) = r at *
  refine ⟨r, rfl, ?_, ?_⟩ <;> rcases Int.natAbs_eq r with e | e <;> omega
theorem zb_size (N : Nat) : (⟨(List.replicate N (0 : UInt8)).toArray⟩ : ByteArray).size = N := by rw [Lib.size_eq]; simp

set_option maxHeartbeats 8000000 in
set_option maxRecDepth 100000 in
theorem walk {w : World} (hK : KT w) (s0 : ByteArray) (_ : s0.size ≤ maxLen) (x : ByteArray) (_ : x.size ≤ maxLen) (y : ByteArray) (_ : y.size ≤ maxLen) (z : Int) (hz1 : -9223372036854775808 ≤ z) (hz2 : z ≤ 9223372036854775807) :
    Calls Tryd.prog 9 #[.string s0, .agg #[.string x, .string y], .int .i64 z] w fun e w' => e = .returned (.bool true) ∧ Below w.heap.size w w' := by
  obtain ⟨kB, hkB⟩ : ∃ t, t = shortB s0 100 := ⟨_, rfl⟩
  obtain ⟨a, ha⟩ : ∃ t, t = shortB x 100 := ⟨_, rfl⟩
  obtain ⟨b, hb⟩ : ∃ t, t = shortB y 100 := ⟨_, rfl⟩
  have sk : kB.size ≤ 100 := by rw [hkB]; exact shortB_size s0 100
  have sa : a.size ≤ 100 := by rw [ha]; exact shortB_size x 100
  have sb : b.size ≤ 100 := by rw [hb]; exact shortB_size y 100
  have hab : a.size + b.size ≤ 9223372036854775807 := by omega
  obtain ⟨k, hk⟩ : ∃ k, k = kB.data.toList := ⟨_, rfl⟩
  have ekl : k.length = kB.size := by rw [hk, ← Lib.size_eq]
  obtain ⟨T, hT⟩ : ∃ T, T = flat [a, b] := ⟨_, rfl⟩
  have hkl : Hid (k.length < 288230376151711744) := Lib.hid (by omega)
  have hkl2 : Hid (k.length < 576460752303423488) := Lib.hid (by omega)
  have hkl3 : Hid (k.length < 1152921504606846976) := Lib.hid (by omega)
  have htl : Hid (T.length < 288230376151711744) := Lib.hid (by rw [hT, flat_two, List.length_append, ← Lib.size_eq, ← Lib.size_eq]; omega)
  obtain ⟨D, hD⟩ : ∃ D, D = Mac.mac k T := ⟨_, rfl⟩
  have hDl : D.length = 32 := by rw [hD]; exact Mac.mac_length _ _
  have Hk := Lib.hid hkB
  have Ha := Lib.hid ha
  have Hb := Lib.hid hb
  have HkB : Hid (kB.data.toList = k) := Lib.hid hk.symm
  have HT : Hid (flat [a, b] = T) := Lib.hid hT.symm
  have HD := Lib.hid hD
  have HDl := Lib.hid hDl
  clear hkB ha hb hk hT hD hDl
  go_enter Tryd.func9, Tryd.ntmps9
  go_upto_region 1 with (fail)
  obtain ⟨w0, hw0⟩ : ∃ w0, w0 = w.alloc (.cells #[.string x, .string y] 53) := ⟨_, rfl⟩
  have b0 : Below w.heap.size w w0 := by rw [hw0]; exact (Below.refl _ _).alloc (Nat.le_refl _) _
  have h0 : w0.heap[w.heap.size]? = some (.cells #[.string x, .string y] 53 (0, 0)) := by rw [hw0]; exact heap_alloc_last w _
  have l0 : w.heap.size < w0.heap.size := by rw [hw0]; simp
  rw [← hw0]
  have H0 := Lib.hid h0
  clear hw0 h0
  go_upto_region 2 with (first
    | (go_at_call 24; refine (awake3_any _ (hK.old b0)).mono ?_; rintro e w1 ⟨rfl, b1⟩))
  have h1 := (b1.block _ l0).trans H0.out
  have c0 := cell_of h1 0
  have c1 := cell_of h1 1
  simp only [List.getElem?_toArray, List.getElem?_cons_zero, List.getElem?_cons_succ] at c0 c1
  have bb1 := below_step b0 (Nat.le_refl _) b1
  have hK1 := hK.old bb1
  clear h1
  have ba : Below w1.heap.size w1 (w1.alloc (.cells #[.string a, .string b] 9)) := (Below.refl _ _).alloc (Nat.le_refl _) _
  have HOF := Lib.hid (macOf_any kB k HkB.out _ [a, b] T HT.out _ (StrRow.two w1 a b) (hK1.old ba) hkl.out htl.out)
  go_upto_region 6 with (first
    | (go_at_call 25; ((with_reducible refine (short3_any s0 100 100 rfl _).mono ?_); rintro e w2 ⟨rfl, rfl⟩; rw [← Hk.out]))
    | (go_at_call 25; ((with_reducible refine (short3_any x 100 100 rfl _).mono ?_); rintro e w2 ⟨rfl, rfl⟩; rw [← Ha.out]))
    | (go_at_call 25; ((with_reducible refine (short3_any y 100 100 rfl _).mono ?_); rintro e w2 ⟨rfl, rfl⟩; rw [← Hb.out]))
    | (go_at_call 29; refine HOF.out.mono ?_; rintro e w2 ⟨rfl, b2⟩; rw [← HD.out])
    | refine wpList_store_mid rfl 30 (.tmp 10) (.tmp 25) rfl w2.heap.size 0 (D.map u8V).toArray rfl rfl (sum_there (heap_alloc_last w2 _) HDl.out) (sum_info HDl.out) (sum_one D) ?_)
  obtain ⟨w3, hw3⟩ : ∃ w3, w3 = (w2.alloc (.cells ((List.replicate 32 (0 : UInt8)).map u8V).toArray 30)).setCells w2.heap.size 0 (D.map u8V) := ⟨_, rfl⟩
  have b3 : Below w2.heap.size w2 w3 := by rw [hw3]; exact below_setCells (Nat.le_refl _) _ _ _ ((Below.refl _ _).alloc (Nat.le_refl _) _)
  have h3 : w3.heap[w2.heap.size]? = some (.cells (D.map u8V).toArray 30 (0, 0)) := by
    rw [hw3]; exact heap_setCells_all w2 ((List.replicate 32 (0 : UInt8)).map u8V) (D.map u8V) (by rw [List.length_map, List.length_map, HDl.out]; rfl)
  change Code.wp _ _ _ _ ((w2.alloc (.cells ((List.replicate 32 (0 : UInt8)).map u8V).toArray 30)).setCells w2.heap.size 0 (D.map u8V))
  rw [← hw3]
  have l3 : w2.heap.size < w3.heap.size := (Array.getElem?_eq_some_iff.1 h3).1
  have bb3 := below_step (below_step (below_step bb1 (Nat.le_refl _) ba) (Nat.le_refl _) b2) (Nat.le_refl _) b3
  have hK3 := hK.old bb3
  have r10 : Hid (∀ w', Below w3.heap.size w3 w' → w'.rangeAt w2.heap.size 0 (D.map u8V)) := Lib.hid fun w' h j y hy => (h.cell (p := ⟨w2.heap.size, 0 + j, none⟩) l3).trans (by rw [Nat.zero_add, cell_of h3]; simpa using hy)
  have HO1 : Hid (∀ (v : Value) (w' : World), StrRow w' v [a ++ b] → KT w' → Calls Tryd.prog 29 #[.string kB, v] w' fun e w2 => e = .returned (sumV D) ∧ Below w'.heap.size w' w2) := Lib.hid fun v w' hr hk => by
    rw [HD.out]; exact macOf_any kB k HkB.out v [a ++ b] T (by rw [flat_ab]; exact HT.out) w' hr hk hkl.out htl.out
  have HO3 : Hid (∀ (v : Value) (w' : World), StrRow w' v [a, ⟨#[]⟩, b] → KT w' → Calls Tryd.prog 29 #[.string kB, v] w' fun e w2 => e = .returned (sumV D) ∧ Below w'.heap.size w' w2) := Lib.hid fun v w' hr hk => by
    rw [HD.out]; exact macOf_any kB k HkB.out v [a, ⟨#[]⟩, b] T (by rw [flat_aeb]; exact HT.out) w' hr hk hkl.out htl.out
  clear hw3 h3 c0 c1
  try simp only [Act.put]
  refine wp_region_tab [RT.is (sumV D), RT.is (.string kB), RT.is (.string a), RT.is (.string b), RT.is (.string (a ++ b)), RT.row [a ++ b], RT.is (sumV D), RT.is (.bool false), RT.is (.bool false), RT.is (sumV D), RT.is (.string kB), RT.is (.string a), RT.is (.string b), RT.row [a, ⟨#[]⟩, b], RT.is (sumV D), RT.is (.bool false), RT.is (.bool false)] (by kernel_rfl) (by kernel_rfl) (by kernel_rfl) (by kernel_rfl) ⟨?_, ?_, ?_, ?_, ?_, ?_, ?_, ?_, ?_, ?_, ?_, ?_, ?_, ?_, ?_, ?_, ?_, trivial⟩ ?_
  · intro ac w' hF hL hP hU K hK
    have hB := below_undrew hL
    have e10 : ac.eval (.tmp 10) = .pointer (some ⟨w2.heap.size, 0, none⟩) := hF.at 10 (by kernel_rfl)
    exact rop_load _ _ rfl w2.heap.size 0 e10 (D.map u8V) _ (r10.out w' hB) Tryd.underlying30 rfl (sum_info' HDl.out) (wanted_none rfl) (hK _ _ (le8_refl _) rfl)
  · intro ac w' hF hL hP hU K hK
    have hB := below_undrew hL
    have e0 : ac.eval (.tmp 0) = .string kB := hF.at 0 (by kernel_rfl)
    exact rop_move _ rfl e0 (wanted_none rfl) (hK _ _ (le8_refl _) rfl)
  · intro ac w' hF hL hP hU K hK
    have hB := below_undrew hL
    have e8 : ac.eval (.tmp 8) = .string a := hF.at 8 (by kernel_rfl)
    exact rop_move _ rfl e8 (wanted_none rfl) (hK _ _ (le8_refl _) rfl)
  · intro ac w' hF hL hP hU K hK
    have hB := below_undrew hL
    have e9 : ac.eval (.tmp 9) = .string b := hF.at 9 (by kernel_rfl)
    exact rop_move _ rfl e9 (wanted_none rfl) (hK _ _ (le8_refl _) rfl)
  · intro ac w' hF hL hP hU K hK
    have hB := below_undrew hL
    have e28 : ac.eval (.tmp 28) = .string a := hP 2 (by kernel_rfl)
    have e29 : ac.eval (.tmp 29) = .string b := hP 3 (by kernel_rfl)
    exact rop_bin _ _ _ _ _ rfl e28 e29 (guard_str _ _ _ _ _ _ w') (add_str a b hab w') (wanted_none rfl) (hK _ _ (le8_refl _) rfl)
  · intro ac w' hF hL hP hU K hK
    have hB := below_undrew hL
    have e30 : ac.eval (.tmp 30) = .string (a ++ b) := hP 4 (by kernel_rfl)
    refine rop_texts 1 _ rfl [a ++ b] ?_ rfl (by decide) (by decide) (wanted_none rfl) (fun v w2 hb hr => hK v w2 hb hr)
    simp [e30, List.range, List.range.loop]
  · intro ac w' hF hL hP hU K hK
    have hB := below_undrew hL
    have e27 : ac.eval (.tmp 27) = .string kB := hP 1 (by kernel_rfl)
    have e31 : StrRow w' (ac.eval (.tmp 31)) [a ++ b] := hP 5 (by kernel_rfl)
    refine rop_call 29 _ _ rfl #[.string kB, ac.eval (.tmp 31)] (by simp [e27]) (by kernel_rfl) (wanted_none rfl) ?_
    refine (HO1.out _ w' e31 (hK3.old hB)).mono ?_
    rintro e w2 ⟨rfl, hb⟩
    exact ⟨_, rfl, hK _ _ hb rfl⟩
  · intro ac w' hF hL hP hU K hK
    have hB := below_undrew hL
    have e26 : ac.eval (.tmp 26) = sumV D := hP 0 (by kernel_rfl)
    have e32 : ac.eval (.tmp 32) = sumV D := hP 6 (by kernel_rfl)
    exact rop_bin _ _ _ _ _ rfl e26 e32 (guard_run .neq _ _ D D w') (neq_sum_f D D HDl.out HDl.out rfl w') (wanted_none rfl) (hK _ _ (le8_refl _) rfl)
  · intro ac w' hF hL hP hU K hK
    have hB := below_undrew hL
    have e33 : ac.eval (.tmp 33) = .bool false := hP 7 (by kernel_rfl)
    exact rop_move _ rfl e33 (wanted_none rfl) (hK _ _ (le8_refl _) rfl)
  · intro ac w' hF hL hP hU K hK
    have hB := below_undrew hL
    have e10 : ac.eval (.tmp 10) = .pointer (some ⟨w2.heap.size, 0, none⟩) := hF.at 10 (by kernel_rfl)
    have e34 : ac.eval (.tmp 34) = .bool false := hP 8 (by kernel_rfl)
    exact rop_load _ _ rfl w2.heap.size 0 e10 (D.map u8V) _ (r10.out w' hB) Tryd.underlying30 rfl (sum_info' HDl.out) (wanted_of (j := 8) (b := false) rfl rfl e34) (hK _ _ (le8_refl _) rfl)
  · intro ac w' hF hL hP hU K hK
    have hB := below_undrew hL
    have e0 : ac.eval (.tmp 0) = .string kB := hF.at 0 (by kernel_rfl)
    have e34 : ac.eval (.tmp 34) = .bool false := hP 8 (by kernel_rfl)
    exact rop_move _ rfl e0 (wanted_of (j := 8) (b := false) rfl rfl e34) (hK _ _ (le8_refl _) rfl)
  · intro ac w' hF hL hP hU K hK
    have hB := below_undrew hL
    have e8 : ac.eval (.tmp 8) = .string a := hF.at 8 (by kernel_rfl)
    have e34 : ac.eval (.tmp 34) = .bool false := hP 8 (by kernel_rfl)
    exact rop_move _ rfl e8 (wanted_of (j := 8) (b := false) rfl rfl e34) (hK _ _ (le8_refl _) rfl)
  · intro ac w' hF hL hP hU K hK
    have hB := below_undrew hL
    have e9 : ac.eval (.tmp 9) = .string b := hF.at 9 (by kernel_rfl)
    have e34 : ac.eval (.tmp 34) = .bool false := hP 8 (by kernel_rfl)
    exact rop_move _ rfl e9 (wanted_of (j := 8) (b := false) rfl rfl e34) (hK _ _ (le8_refl _) rfl)
  · intro ac w' hF hL hP hU K hK
    have hB := below_undrew hL
    have e37 : ac.eval (.tmp 37) = .string a := hP 11 (by kernel_rfl)
    have e38 : ac.eval (.tmp 38) = .string b := hP 12 (by kernel_rfl)
    have e34 : ac.eval (.tmp 34) = .bool false := hP 8 (by kernel_rfl)
    refine rop_texts 3 _ rfl [a, ⟨#[]⟩, b] ?_ rfl (by decide) (by decide) (wanted_of (j := 8) (b := false) rfl rfl e34) (fun v w2 hb hr => hK v w2 hb hr)
    simp [e37, e38, eval_const, List.range, List.range.loop]
  · intro ac w' hF hL hP hU K hK
    have hB := below_undrew hL
    have e36 : ac.eval (.tmp 36) = .string kB := hP 10 (by kernel_rfl)
    have e39 : StrRow w' (ac.eval (.tmp 39)) [a, ⟨#[]⟩, b] := hP 13 (by kernel_rfl)
    have e34 : ac.eval (.tmp 34) = .bool false := hP 8 (by kernel_rfl)
    refine rop_call 29 _ _ rfl #[.string kB, ac.eval (.tmp 39)] (by simp [e36]) (by kernel_rfl) (wanted_of (j := 8) (b := false) rfl rfl e34) ?_
    refine (HO3.out _ w' e39 (hK3.old hB)).mono ?_
    rintro e w2 ⟨rfl, hb⟩
    exact ⟨_, rfl, hK _ _ hb rfl⟩
  · intro ac w' hF hL hP hU K hK
    have hB := below_undrew hL
    have e35 : ac.eval (.tmp 35) = sumV D := hP 9 (by kernel_rfl)
    have e40 : ac.eval (.tmp 40) = sumV D := hP 14 (by kernel_rfl)
    have e34 : ac.eval (.tmp 34) = .bool false := hP 8 (by kernel_rfl)
    exact rop_bin _ _ _ _ _ rfl e35 e40 (guard_run .neq _ _ D D w') (neq_sum_f D D HDl.out HDl.out rfl w') (wanted_of (j := 8) (b := false) rfl rfl e34) (hK _ _ (le8_refl _) rfl)
  · intro ac w' hF hL hP hU K hK
    have hB := below_undrew hL
    have e34 : ac.eval (.tmp 34) = .bool false := hP 8 (by kernel_rfl)
    have e41 : ac.eval (.tmp 41) = .bool false := hP 15 (by kernel_rfl)
    exact rop_pick _ _ _ rfl false e34 (by simpa using e41) (wanted_none rfl) (hK _ _ (le8_refl _) rfl)
  · intro ac w' hF hB hT
    have e42 : ac.eval (.tmp 42) = .bool false := hT 16 (by decide)
    rw [hF.lit 98 rfl]
    simp only [List.range, List.range.loop, List.map_cons, List.map_nil, e42, hF.at 0 (by kernel_rfl), hF.at 1 (by kernel_rfl), hF.at 2 (by kernel_rfl), hF.at 3 (by kernel_rfl), hF.at 4 (by kernel_rfl), hF.at 5 (by kernel_rfl), hF.at 6 (by kernel_rfl), hF.at 7 (by kernel_rfl), hF.at 8 (by kernel_rfl), hF.at 9 (by kernel_rfl), hF.at 10 (by kernel_rfl), hF.at 11 (by kernel_rfl), hF.at 12 (by kernel_rfl), hF.at 13 (by kernel_rfl), hF.at 14 (by kernel_rfl), hF.at 15 (by kernel_rfl), hF.at 16 (by kernel_rfl), hF.at 17 (by kernel_rfl), hF.at 18 (by kernel_rfl), hF.at 19 (by kernel_rfl), hF.at 20 (by kernel_rfl), hF.at 21 (by kernel_rfl), hF.at 22 (by kernel_rfl), hF.at 23 (by kernel_rfl), hF.at 24 (by kernel_rfl), hF.at 25 (by kernel_rfl), hF.at 43 (by kernel_rfl), hF.at 44 (by kernel_rfl), hF.at 45 (by kernel_rfl), hF.at 46 (by kernel_rfl), hF.at 47 (by kernel_rfl), hF.at 48 (by kernel_rfl), hF.at 49 (by kernel_rfl), hF.at 50 (by kernel_rfl), hF.at 51 (by kernel_rfl), hF.at 52 (by kernel_rfl), hF.at 53 (by kernel_rfl), hF.at 54 (by kernel_rfl), hF.at 55 (by kernel_rfl), hF.at 56 (by kernel_rfl), hF.at 57 (by kernel_rfl), hF.at 58 (by kernel_rfl), hF.at 59 (by kernel_rfl), hF.at 60 (by kernel_rfl), hF.at 61 (by kernel_rfl), hF.at 62 (by kernel_rfl), hF.at 63 (by kernel_rfl), hF.at 64 (by kernel_rfl), hF.at 65 (by kernel_rfl), hF.at 66 (by kernel_rfl), hF.at 67 (by kernel_rfl), hF.at 68 (by kernel_rfl), hF.at 69 (by kernel_rfl), hF.at 70 (by kernel_rfl), hF.at 71 (by kernel_rfl), hF.at 72 (by kernel_rfl), hF.at 73 (by kernel_rfl), hF.at 74 (by kernel_rfl), hF.at 75 (by kernel_rfl), hF.at 76 (by kernel_rfl), hF.at 77 (by kernel_rfl), hF.at 78 (by kernel_rfl), hF.at 79 (by kernel_rfl), hF.at 80 (by kernel_rfl), hF.at 81 (by kernel_rfl), hF.at 82 (by kernel_rfl), hF.at 83 (by kernel_rfl), hF.at 84 (by kernel_rfl), hF.at 85 (by kernel_rfl), hF.at 86 (by kernel_rfl), hF.at 87 (by kernel_rfl), hF.at 88 (by kernel_rfl), hF.at 89 (by kernel_rfl), hF.at 90 (by kernel_rfl), hF.at 91 (by kernel_rfl), hF.at 92 (by kernel_rfl), hF.at 93 (by kernel_rfl), hF.at 94 (by kernel_rfl), hF.at 95 (by kernel_rfl), hF.at 96 (by kernel_rfl), hF.at 97 (by kernel_rfl)]
    generalize ac.eval (.tmp 26) = u26
    generalize ac.eval (.tmp 27) = u27
    generalize ac.eval (.tmp 28) = u28
    generalize ac.eval (.tmp 29) = u29
    generalize ac.eval (.tmp 30) = u30
    generalize ac.eval (.tmp 31) = u31
    generalize ac.eval (.tmp 32) = u32
    generalize ac.eval (.tmp 33) = u33
    generalize ac.eval (.tmp 34) = u34
    generalize ac.eval (.tmp 35) = u35
    generalize ac.eval (.tmp 36) = u36
    generalize ac.eval (.tmp 37) = u37
    generalize ac.eval (.tmp 38) = u38
    generalize ac.eval (.tmp 39) = u39
    generalize ac.eval (.tmp 40) = u40
    generalize ac.eval (.tmp 41) = u41
    simp only [Act.eval, Array.getD_eq_getD_getElem?, List.getElem?_toArray, List.getElem?_cons_succ, List.getElem?_cons_zero, Option.getD_some]
    clear e42 hT hF ac
    obtain ⟨w4, hw4⟩ : ∃ w4, w4 = w' := ⟨_, rfl⟩
    rw [← hw4] at hB ⊢
    clear hw4
    have hB4 := hB
    clear hB
    have bb4 := below_step bb3 (Nat.le_refl _) hB4
    have hK4 := hK.old bb4
    by_cases hlong : 64 < kB.size
    · have hlong' : (64 : Int) < kB.size := by omega
      have HOL : Hid (∀ (v : Value) (w' : World), StrRow w' v [a ++ b] → KT w' → Calls Tryd.prog 29 #[.string ⟨(Sha.digest k).toArray⟩, v] w' fun e w2 => e = .returned (sumV D) ∧ Below w'.heap.size w' w2) := Lib.hid fun v w' hr hk => by
        rw [HD.out, ← Mac.mac_long k T (by omega)]; exact macOf_any ⟨(Sha.digest k).toArray⟩ (Sha.digest k) rfl v [a ++ b] T (by rw [flat_ab]; exact HT.out) w' hr hk (by rw [Sha.digest_length]; decide) htl.out
      have HPL : Hid (∀ (w' : World), KT w' → Calls Tryd.prog 27 #[.string ⟨(Sha.digest k).toArray⟩] w' fun e w2 => e = .returned (.string ⟨(Mac.pad k).toArray⟩) ∧ Below w'.heap.size w' w2) := Lib.hid fun w' hk => by
        rw [← Mac.pad_long k (by omega)]; exact pad_any ⟨(Sha.digest k).toArray⟩ (Sha.digest k) rfl w' hk (by rw [Sha.digest_length]; decide)
      go_upto_region 9 with (fail)
      try simp only [Act.put]
      refine wp_region_tab [RT.is (.bool true), RT.is (.bool true), RT.is (sumV D), RT.is (.string kB), RT.is (sumV (Sha.digest k)), RT.is (.string ⟨(Sha.digest k).toArray⟩), RT.is (.string a), RT.is (.string b), RT.is (.string (a ++ b)), RT.row [a ++ b], RT.is (sumV D), RT.is (.bool true), RT.is (.bool true), RT.is (.bool true), RT.is (.string kB), RT.is (.string ⟨(Mac.pad k).toArray⟩), RT.is (.string kB), RT.is (sumV (Sha.digest k)), RT.is (.string ⟨(Sha.digest k).toArray⟩), RT.is (.string ⟨(Mac.pad k).toArray⟩), RT.is (.bool true), RT.is (.bool true), RT.is (.bool true)] (by kernel_rfl) (by kernel_rfl) (by kernel_rfl) (by kernel_rfl) ⟨?_, ?_, ?_, ?_, ?_, ?_, ?_, ?_, ?_, ?_, ?_, ?_, ?_, ?_, ?_, ?_, ?_, ?_, ?_, ?_, ?_, ?_, ?_, trivial⟩ ?_
      · intro ac w' hF hL hP hU K hK
        have hB := below_undrew hL
        have e7 : ac.eval (.tmp 7) = .bool true := hF.at 7 (by kernel_rfl)
        exact rop_move _ rfl e7 (wanted_none rfl) (hK _ _ (le8_refl _) rfl)
      · intro ac w' hF hL hP hU K hK
        have hB := below_undrew hL
        have e46 : ac.eval (.tmp 46) = .bool true := hP 0 (by kernel_rfl)
        exact rop_move _ rfl e46 (wanted_none rfl) (hK _ _ (le8_refl _) rfl)
      · intro ac w' hF hL hP hU K hK
        have hB := below_undrew hL
        have e10 : ac.eval (.tmp 10) = .pointer (some ⟨w2.heap.size, 0, none⟩) := hF.at 10 (by kernel_rfl)
        have e47 : ac.eval (.tmp 47) = .bool true := hP 1 (by kernel_rfl)
        exact rop_load _ _ rfl w2.heap.size 0 e10 (D.map u8V) _ (r10.out w' (below_step hB4 (Nat.le_refl _) hB)) Tryd.underlying30 rfl (sum_info' HDl.out) (wanted_of (j := 1) (b := true) rfl rfl e47) (hK _ _ (le8_refl _) rfl)
      · intro ac w' hF hL hP hU K hK
        have hB := below_undrew hL
        have e0 : ac.eval (.tmp 0) = .string kB := hF.at 0 (by kernel_rfl)
        have e47 : ac.eval (.tmp 47) = .bool true := hP 1 (by kernel_rfl)
        exact rop_move _ rfl e0 (wanted_of (j := 1) (b := true) rfl rfl e47) (hK _ _ (le8_refl _) rfl)
      · intro ac w' hF hL hP hU K hK
        have hB := below_undrew hL
        have e49 : ac.eval (.tmp 49) = .string kB := hP 3 (by kernel_rfl)
        have e47 : ac.eval (.tmp 47) = .bool true := hP 1 (by kernel_rfl)
        refine rop_call 19 _ _ rfl #[.string kB] (by simp [e49]) (by kernel_rfl) (wanted_of (j := 1) (b := true) rfl rfl e47) ?_
        refine (rof_any kB k HkB.out w' hkl3.out).mono ?_
        rintro e w2 ⟨rfl, hb⟩
        exact ⟨_, rfl, hK _ _ hb rfl⟩
      · intro ac w' hF hL hP hU K hK
        have hB := below_undrew hL
        have e50 : ac.eval (.tmp 50) = sumV (Sha.digest k) := hP 4 (by kernel_rfl)
        have e47 : ac.eval (.tmp 47) = .bool true := hP 1 (by kernel_rfl)
        refine rop_call 23 _ _ rfl #[sumV (Sha.digest k)] (by simp [e50]) (by kernel_rfl) (wanted_of (j := 1) (b := true) rfl rfl e47) ?_
        refine (rbytes_any (Sha.digest k) w' (Sha.digest_length k)).mono ?_
        rintro e w2 ⟨rfl, hb⟩
        exact ⟨_, rfl, hK _ _ hb rfl⟩
      · intro ac w' hF hL hP hU K hK
        have hB := below_undrew hL
        have e8 : ac.eval (.tmp 8) = .string a := hF.at 8 (by kernel_rfl)
        have e47 : ac.eval (.tmp 47) = .bool true := hP 1 (by kernel_rfl)
        exact rop_move _ rfl e8 (wanted_of (j := 1) (b := true) rfl rfl e47) (hK _ _ (le8_refl _) rfl)
      · intro ac w' hF hL hP hU K hK
        have hB := below_undrew hL
        have e9 : ac.eval (.tmp 9) = .string b := hF.at 9 (by kernel_rfl)
        have e47 : ac.eval (.tmp 47) = .bool true := hP 1 (by kernel_rfl)
        exact rop_move _ rfl e9 (wanted_of (j := 1) (b := true) rfl rfl e47) (hK _ _ (le8_refl _) rfl)
      · intro ac w' hF hL hP hU K hK
        have hB := below_undrew hL
        have e52 : ac.eval (.tmp 52) = .string a := hP 6 (by kernel_rfl)
        have e53 : ac.eval (.tmp 53) = .string b := hP 7 (by kernel_rfl)
        have e47 : ac.eval (.tmp 47) = .bool true := hP 1 (by kernel_rfl)
        exact rop_bin _ _ _ _ _ rfl e52 e53 (guard_str _ _ _ _ _ _ w') (add_str a b hab w') (wanted_of (j := 1) (b := true) rfl rfl e47) (hK _ _ (le8_refl _) rfl)
      · intro ac w' hF hL hP hU K hK
        have hB := below_undrew hL
        have e54 : ac.eval (.tmp 54) = .string (a ++ b) := hP 8 (by kernel_rfl)
        have e47 : ac.eval (.tmp 47) = .bool true := hP 1 (by kernel_rfl)
        refine rop_texts 1 _ rfl [a ++ b] ?_ rfl (by decide) (by decide) (wanted_of (j := 1) (b := true) rfl rfl e47) (fun v w2 hb hr => hK v w2 hb hr)
        simp [e54, List.range, List.range.loop]
      · intro ac w' hF hL hP hU K hK
        have hB := below_undrew hL
        have e51 : ac.eval (.tmp 51) = .string ⟨(Sha.digest k).toArray⟩ := hP 5 (by kernel_rfl)
        have e55 : StrRow w' (ac.eval (.tmp 55)) [a ++ b] := hP 9 (by kernel_rfl)
        have e47 : ac.eval (.tmp 47) = .bool true := hP 1 (by kernel_rfl)
        refine rop_call 29 _ _ rfl #[.string ⟨(Sha.digest k).toArray⟩, ac.eval (.tmp 55)] (by simp [e51]) (by kernel_rfl) (wanted_of (j := 1) (b := true) rfl rfl e47) ?_
        refine (HOL.out _ w' e55 (hK4.old hB)).mono ?_
        rintro e w2 ⟨rfl, hb⟩
        exact ⟨_, rfl, hK _ _ hb rfl⟩
      · intro ac w' hF hL hP hU K hK
        have hB := below_undrew hL
        have e48 : ac.eval (.tmp 48) = sumV D := hP 2 (by kernel_rfl)
        have e56 : ac.eval (.tmp 56) = sumV D := hP 10 (by kernel_rfl)
        have e47 : ac.eval (.tmp 47) = .bool true := hP 1 (by kernel_rfl)
        exact rop_bin _ _ _ _ _ rfl e48 e56 (guard_run .eql _ _ D D w') (eql_sum_t D D HDl.out HDl.out rfl w') (wanted_of (j := 1) (b := true) rfl rfl e47) (hK _ _ (le8_refl _) rfl)
      · intro ac w' hF hL hP hU K hK
        have hB := below_undrew hL
        have e47 : ac.eval (.tmp 47) = .bool true := hP 1 (by kernel_rfl)
        have e57 : ac.eval (.tmp 57) = .bool true := hP 11 (by kernel_rfl)
        exact rop_pick _ _ _ rfl true e47 (by simpa using e57) (wanted_none rfl) (hK _ _ (le8_refl _) rfl)
      · intro ac w' hF hL hP hU K hK
        have hB := below_undrew hL
        have e58 : ac.eval (.tmp 58) = .bool true := hP 12 (by kernel_rfl)
        exact rop_move _ rfl e58 (wanted_none rfl) (hK _ _ (le8_refl _) rfl)
      · intro ac w' hF hL hP hU K hK
        have hB := below_undrew hL
        have e0 : ac.eval (.tmp 0) = .string kB := hF.at 0 (by kernel_rfl)
        have e59 : ac.eval (.tmp 59) = .bool true := hP 13 (by kernel_rfl)
        exact rop_move _ rfl e0 (wanted_of (j := 13) (b := true) rfl rfl e59) (hK _ _ (le8_refl _) rfl)
      · intro ac w' hF hL hP hU K hK
        have hB := below_undrew hL
        have e60 : ac.eval (.tmp 60) = .string kB := hP 14 (by kernel_rfl)
        have e59 : ac.eval (.tmp 59) = .bool true := hP 13 (by kernel_rfl)
        refine rop_call 27 _ _ rfl #[.string kB] (by simp [e60]) (by kernel_rfl) (wanted_of (j := 13) (b := true) rfl rfl e59) ?_
        refine (pad_any kB k HkB.out w' (hK4.old hB) hkl2.out).mono ?_
        rintro e w2 ⟨rfl, hb⟩
        exact ⟨_, rfl, hK _ _ hb rfl⟩
      · intro ac w' hF hL hP hU K hK
        have hB := below_undrew hL
        have e0 : ac.eval (.tmp 0) = .string kB := hF.at 0 (by kernel_rfl)
        have e59 : ac.eval (.tmp 59) = .bool true := hP 13 (by kernel_rfl)
        exact rop_move _ rfl e0 (wanted_of (j := 13) (b := true) rfl rfl e59) (hK _ _ (le8_refl _) rfl)
      · intro ac w' hF hL hP hU K hK
        have hB := below_undrew hL
        have e62 : ac.eval (.tmp 62) = .string kB := hP 16 (by kernel_rfl)
        have e59 : ac.eval (.tmp 59) = .bool true := hP 13 (by kernel_rfl)
        refine rop_call 19 _ _ rfl #[.string kB] (by simp [e62]) (by kernel_rfl) (wanted_of (j := 13) (b := true) rfl rfl e59) ?_
        refine (rof_any kB k HkB.out w' hkl3.out).mono ?_
        rintro e w2 ⟨rfl, hb⟩
        exact ⟨_, rfl, hK _ _ hb rfl⟩
      · intro ac w' hF hL hP hU K hK
        have hB := below_undrew hL
        have e63 : ac.eval (.tmp 63) = sumV (Sha.digest k) := hP 17 (by kernel_rfl)
        have e59 : ac.eval (.tmp 59) = .bool true := hP 13 (by kernel_rfl)
        refine rop_call 23 _ _ rfl #[sumV (Sha.digest k)] (by simp [e63]) (by kernel_rfl) (wanted_of (j := 13) (b := true) rfl rfl e59) ?_
        refine (rbytes_any (Sha.digest k) w' (Sha.digest_length k)).mono ?_
        rintro e w2 ⟨rfl, hb⟩
        exact ⟨_, rfl, hK _ _ hb rfl⟩
      · intro ac w' hF hL hP hU K hK
        have hB := below_undrew hL
        have e64 : ac.eval (.tmp 64) = .string ⟨(Sha.digest k).toArray⟩ := hP 18 (by kernel_rfl)
        have e59 : ac.eval (.tmp 59) = .bool true := hP 13 (by kernel_rfl)
        refine rop_call 27 _ _ rfl #[.string ⟨(Sha.digest k).toArray⟩] (by simp [e64]) (by kernel_rfl) (wanted_of (j := 13) (b := true) rfl rfl e59) ?_
        refine (HPL.out w' (hK4.old hB)).mono ?_
        rintro e w2 ⟨rfl, hb⟩
        exact ⟨_, rfl, hK _ _ hb rfl⟩
      · intro ac w' hF hL hP hU K hK
        have hB := below_undrew hL
        have e61 : ac.eval (.tmp 61) = .string ⟨(Mac.pad k).toArray⟩ := hP 15 (by kernel_rfl)
        have e65 : ac.eval (.tmp 65) = .string ⟨(Mac.pad k).toArray⟩ := hP 19 (by kernel_rfl)
        have e59 : ac.eval (.tmp 59) = .bool true := hP 13 (by kernel_rfl)
        exact rop_bin _ _ _ _ _ rfl e61 e65 (guard_str _ _ _ _ _ _ w') (eql_str_t _ _ rfl w') (wanted_of (j := 13) (b := true) rfl rfl e59) (hK _ _ (le8_refl _) rfl)
      · intro ac w' hF hL hP hU K hK
        have hB := below_undrew hL
        have e59 : ac.eval (.tmp 59) = .bool true := hP 13 (by kernel_rfl)
        have e66 : ac.eval (.tmp 66) = .bool true := hP 20 (by kernel_rfl)
        exact rop_pick _ _ _ rfl true e59 (by simpa using e66) (wanted_none rfl) (hK _ _ (le8_refl _) rfl)
      · intro ac w' hF hL hP hU K hK
        have hB := below_undrew hL
        have e67 : ac.eval (.tmp 67) = .bool true := hP 21 (by kernel_rfl)
        exact rop_assign _ rfl e67 (wanted_none rfl) (hK _ _ (le8_refl _) rfl)
      · intro ac w' hF hB hT
        have e6 : ac.eval (.tmp 6) = .bool true := hT 22 (by decide)
        rw [hF.lit 98 rfl]
        simp only [List.range, List.range.loop, List.map_cons, List.map_nil, e6]
        go_wp2
        go_ret
        exact ⟨rfl, below_step bb4 (Nat.le_refl _) hB⟩
    · have hlong' : ¬ (64 : Int) < kB.size := by omega
      obtain ⟨d, hd⟩ : ∃ d : Nat, d = 65 - kB.size := ⟨_, rfl⟩
      have hd0 : 0 < d := by omega
      have ed : (65 : Int) - kB.size = (d : Int) := by omega
      obtain ⟨r, er, hr1, hr2⟩ := rem_nat z d hd0
      obtain ⟨PB, hPBe⟩ : ∃ P : ByteArray, P = ⟨(Mac.pad k).toArray⟩ := ⟨_, rfl⟩
      have hPB : (PB.size : Int) = 64 := by rw [Lib.size_eq, hPBe]; show (((Mac.pad k).toArray.toList.length : Nat) : Int) = 64; rw [List.toList_toArray, Mac.pad_length]; rfl
      have HPS : Hid (∀ (w' : World), KT w' → Calls Tryd.prog 27 #[.string kB] w' fun e w2 => e = .returned (.string PB) ∧ Below w'.heap.size w' w2) := Lib.hid fun w' hk => by
        rw [hPBe]; exact pad_any kB k HkB.out w' hk hkl2.out
      have HZ : Hid (∀ N : Nat, N < d → ∀ (v : Value) (w' : World), StrRow w' v [a ++ b] → KT w' → Calls Tryd.prog 29 #[.string (kB ++ ⟨(List.replicate N (0 : UInt8)).toArray⟩), v] w' fun e w2 => e = .returned (sumV D) ∧ Below w'.heap.size w' w2) := Lib.hid fun N hN v w' hr hk => by
        rw [HD.out, ← Mac.mac_zeros k T N (by omega)]
        exact macOf_any _ (k ++ List.replicate N 0) (by rw [app_data, HkB.out]) v [a ++ b] T (by rw [flat_ab]; exact HT.out) w' hr hk (by rw [List.length_append, List.length_replicate]; omega) htl.out
      have HDD := Lib.hid hd
      clear hPBe hd
      by_cases hneg : r < 0
      · obtain ⟨N, hN⟩ : ∃ N : Nat, -r = (N : Int) := ⟨(-r).toNat, by omega⟩
        have hNd : N < d := by omega
        have hkz : kB.size + (⟨(List.replicate N (0 : UInt8)).toArray⟩ : ByteArray).size ≤ 9223372036854775807 := by rw [zb_size]; omega
        have HOZ := Lib.hid (HZ.out N hNd)
        have hN100 : N ≤ 1000 := by have := HDD.out; omega
        clear hlong hd0
        go_upto_region 13 with (fail)
        try simp only [Act.put]
        refine wp_region_tab [RT.is (.bool true), RT.is (.bool true), RT.is (sumV D), RT.is (.string kB), RT.is (.int .i64 (N : Int)), RT.zeros N, RT.is (.string ⟨(List.replicate N (0 : UInt8)).toArray⟩), RT.is (.string (kB ++ ⟨(List.replicate N (0 : UInt8)).toArray⟩)), RT.is (.string a), RT.is (.string b), RT.is (.string (a ++ b)), RT.row [a ++ b], RT.is (sumV D), RT.is (.bool true), RT.is (.bool true), RT.is (.bool true), RT.is (.string kB), RT.is (.string PB), RT.is (.int .i64 PB.size), RT.is (.bool true), RT.is (.bool true), RT.is (.bool true)] (by kernel_rfl) (by kernel_rfl) (by kernel_rfl) (by kernel_rfl) ⟨?_, ?_, ?_, ?_, ?_, ?_, ?_, ?_, ?_, ?_, ?_, ?_, ?_, ?_, ?_, ?_, ?_, ?_, ?_, ?_, ?_, ?_, trivial⟩ ?_
        · intro ac w' hF hL hP hU K hK
          have hB := below_undrew hL
          have e7 : ac.eval (.tmp 7) = .bool true := hF.at 7 (by kernel_rfl)
          exact rop_move _ rfl e7 (wanted_none rfl) (hK _ _ (le8_refl _) rfl)
        · intro ac w' hF hL hP hU K hK
          have hB := below_undrew hL
          have e77 : ac.eval (.tmp 77) = .bool true := hP 0 (by kernel_rfl)
          exact rop_move _ rfl e77 (wanted_none rfl) (hK _ _ (le8_refl _) rfl)
        · intro ac w' hF hL hP hU K hK
          have hB := below_undrew hL
          have e10 : ac.eval (.tmp 10) = .pointer (some ⟨w2.heap.size, 0, none⟩) := hF.at 10 (by kernel_rfl)
          have e78 : ac.eval (.tmp 78) = .bool true := hP 1 (by kernel_rfl)
          exact rop_load _ _ rfl w2.heap.size 0 e10 (D.map u8V) _ (r10.out w' (below_step hB4 (Nat.le_refl _) hB)) Tryd.underlying30 rfl (sum_info' HDl.out) (wanted_of (j := 1) (b := true) rfl rfl e78) (hK _ _ (le8_refl _) rfl)
        · intro ac w' hF hL hP hU K hK
          have hB := below_undrew hL
          have e0 : ac.eval (.tmp 0) = .string kB := hF.at 0 (by kernel_rfl)
          have e78 : ac.eval (.tmp 78) = .bool true := hP 1 (by kernel_rfl)
          exact rop_move _ rfl e0 (wanted_of (j := 1) (b := true) rfl rfl e78) (hK _ _ (le8_refl _) rfl)
        · intro ac w' hF hL hP hU K hK
          have hB := below_undrew hL
          have e11 : ac.eval (.tmp 11) = .int .i64 (N : Int) := hF.at 11 (by kernel_rfl)
          have e78 : ac.eval (.tmp 78) = .bool true := hP 1 (by kernel_rfl)
          exact rop_move _ rfl e11 (wanted_of (j := 1) (b := true) rfl rfl e78) (hK _ _ (le8_refl _) rfl)
        · intro ac w' hF hL hP hU K hK
          have hB := below_undrew hL
          have e81 : ac.eval (.tmp 81) = .int .i64 (N : Int) := hP 4 (by kernel_rfl)
          have e78 : ac.eval (.tmp 78) = .bool true := hP 1 (by kernel_rfl)
          exact rop_make _ _ rfl N (by omega) e81 e81 (wanted_of (j := 1) (b := true) rfl rfl e78) (fun v w2 hb hr => hK v w2 hb hr)
        · intro ac w' hF hL hP hU K hK
          have hB := below_undrew hL
          have e82 : (RT.zeros N).p (ac.eval (.tmp 82)) w' := hP 5 (by kernel_rfl)
          have e78 : ac.eval (.tmp 78) = .bool true := hP 1 (by kernel_rfl)
          exact rop_zeros_str _ rfl N e82 (wanted_of (j := 1) (b := true) rfl rfl e78) (hK _ _ (le8_refl _) rfl)
        · intro ac w' hF hL hP hU K hK
          have hB := below_undrew hL
          have e80 : ac.eval (.tmp 80) = .string kB := hP 3 (by kernel_rfl)
          have e83 : ac.eval (.tmp 83) = .string ⟨(List.replicate N (0 : UInt8)).toArray⟩ := hP 6 (by kernel_rfl)
          have e78 : ac.eval (.tmp 78) = .bool true := hP 1 (by kernel_rfl)
          exact rop_bin _ _ _ _ _ rfl e80 e83 (guard_str _ _ _ _ _ _ w') (add_str kB _ hkz w') (wanted_of (j := 1) (b := true) rfl rfl e78) (hK _ _ (le8_refl _) rfl)
        · intro ac w' hF hL hP hU K hK
          have hB := below_undrew hL
          have e8 : ac.eval (.tmp 8) = .string a := hF.at 8 (by kernel_rfl)
          have e78 : ac.eval (.tmp 78) = .bool true := hP 1 (by kernel_rfl)
          exact rop_move _ rfl e8 (wanted_of (j := 1) (b := true) rfl rfl e78) (hK _ _ (le8_refl _) rfl)
        · intro ac w' hF hL hP hU K hK
          have hB := below_undrew hL
          have e9 : ac.eval (.tmp 9) = .string b := hF.at 9 (by kernel_rfl)
          have e78 : ac.eval (.tmp 78) = .bool true := hP 1 (by kernel_rfl)
          exact rop_move _ rfl e9 (wanted_of (j := 1) (b := true) rfl rfl e78) (hK _ _ (le8_refl _) rfl)
        · intro ac w' hF hL hP hU K hK
          have hB := below_undrew hL
          have e85 : ac.eval (.tmp 85) = .string a := hP 8 (by kernel_rfl)
          have e86 : ac.eval (.tmp 86) = .string b := hP 9 (by kernel_rfl)
          have e78 : ac.eval (.tmp 78) = .bool true := hP 1 (by kernel_rfl)
          exact rop_bin _ _ _ _ _ rfl e85 e86 (guard_str _ _ _ _ _ _ w') (add_str a b hab w') (wanted_of (j := 1) (b := true) rfl rfl e78) (hK _ _ (le8_refl _) rfl)
        · intro ac w' hF hL hP hU K hK
          have hB := below_undrew hL
          have e87 : ac.eval (.tmp 87) = .string (a ++ b) := hP 10 (by kernel_rfl)
          have e78 : ac.eval (.tmp 78) = .bool true := hP 1 (by kernel_rfl)
          refine rop_texts 1 _ rfl [a ++ b] ?_ rfl (by decide) (by decide) (wanted_of (j := 1) (b := true) rfl rfl e78) (fun v w2 hb hr => hK v w2 hb hr)
          simp [e87, List.range, List.range.loop]
        · intro ac w' hF hL hP hU K hK
          have hB := below_undrew hL
          have e84 : ac.eval (.tmp 84) = .string (kB ++ ⟨(List.replicate N (0 : UInt8)).toArray⟩) := hP 7 (by kernel_rfl)
          have e88 : StrRow w' (ac.eval (.tmp 88)) [a ++ b] := hP 11 (by kernel_rfl)
          have e78 : ac.eval (.tmp 78) = .bool true := hP 1 (by kernel_rfl)
          refine rop_call 29 _ _ rfl #[.string (kB ++ ⟨(List.replicate N (0 : UInt8)).toArray⟩), ac.eval (.tmp 88)] (by simp [e84]) (by kernel_rfl) (wanted_of (j := 1) (b := true) rfl rfl e78) ?_
          refine (HOZ.out _ w' e88 (hK4.old hB)).mono ?_
          rintro e w2 ⟨rfl, hb⟩
          exact ⟨_, rfl, hK _ _ hb rfl⟩
        · intro ac w' hF hL hP hU K hK
          have hB := below_undrew hL
          have e79 : ac.eval (.tmp 79) = sumV D := hP 2 (by kernel_rfl)
          have e89 : ac.eval (.tmp 89) = sumV D := hP 12 (by kernel_rfl)
          have e78 : ac.eval (.tmp 78) = .bool true := hP 1 (by kernel_rfl)
          exact rop_bin _ _ _ _ _ rfl e79 e89 (guard_run .eql _ _ D D w') (eql_sum_t D D HDl.out HDl.out rfl w') (wanted_of (j := 1) (b := true) rfl rfl e78) (hK _ _ (le8_refl _) rfl)
        · intro ac w' hF hL hP hU K hK
          have hB := below_undrew hL
          have e78 : ac.eval (.tmp 78) = .bool true := hP 1 (by kernel_rfl)
          have e90 : ac.eval (.tmp 90) = .bool true := hP 13 (by kernel_rfl)
          exact rop_pick _ _ _ rfl true e78 (by simpa using e90) (wanted_none rfl) (hK _ _ (le8_refl _) rfl)
        · intro ac w' hF hL hP hU K hK
          have hB := below_undrew hL
          have e91 : ac.eval (.tmp 91) = .bool true := hP 14 (by kernel_rfl)
          exact rop_move _ rfl e91 (wanted_none rfl) (hK _ _ (le8_refl _) rfl)
        · intro ac w' hF hL hP hU K hK
          have hB := below_undrew hL
          have e0 : ac.eval (.tmp 0) = .string kB := hF.at 0 (by kernel_rfl)
          have e92 : ac.eval (.tmp 92) = .bool true := hP 15 (by kernel_rfl)
          exact rop_move _ rfl e0 (wanted_of (j := 15) (b := true) rfl rfl e92) (hK _ _ (le8_refl _) rfl)
        · intro ac w' hF hL hP hU K hK
          have hB := below_undrew hL
          have e93 : ac.eval (.tmp 93) = .string kB := hP 16 (by kernel_rfl)
          have e92 : ac.eval (.tmp 92) = .bool true := hP 15 (by kernel_rfl)
          refine rop_call 27 _ _ rfl #[.string kB] (by simp [e93]) (by kernel_rfl) (wanted_of (j := 15) (b := true) rfl rfl e92) ?_
          refine (HPS.out w' (hK4.old hB)).mono ?_
          rintro e w2 ⟨rfl, hb⟩
          exact ⟨_, rfl, hK _ _ hb rfl⟩
        · intro ac w' hF hL hP hU K hK
          have hB := below_undrew hL
          have e94 : ac.eval (.tmp 94) = .string PB := hP 17 (by kernel_rfl)
          have e92 : ac.eval (.tmp 92) = .bool true := hP 15 (by kernel_rfl)
          exact rop_len_str _ rfl _ e94 (wanted_of (j := 15) (b := true) rfl rfl e92) (hK _ _ (le8_refl _) rfl)
        · intro ac w' hF hL hP hU K hK
          have hB := below_undrew hL
          have e95 : ac.eval (.tmp 95) = .int .i64 PB.size := hP 18 (by kernel_rfl)
          have e92 : ac.eval (.tmp 92) = .bool true := hP 15 (by kernel_rfl)
          exact rop_bin _ _ _ _ _ rfl e95 rfl (guard_int _ _ _ _ _ _ _ w') (eql_int_t _ _ hPB w') (wanted_of (j := 15) (b := true) rfl rfl e92) (hK _ _ (le8_refl _) rfl)
        · intro ac w' hF hL hP hU K hK
          have hB := below_undrew hL
          have e92 : ac.eval (.tmp 92) = .bool true := hP 15 (by kernel_rfl)
          have e96 : ac.eval (.tmp 96) = .bool true := hP 19 (by kernel_rfl)
          exact rop_pick _ _ _ rfl true e92 (by simpa using e96) (wanted_none rfl) (hK _ _ (le8_refl _) rfl)
        · intro ac w' hF hL hP hU K hK
          have hB := below_undrew hL
          have e97 : ac.eval (.tmp 97) = .bool true := hP 20 (by kernel_rfl)
          exact rop_assign _ rfl e97 (wanted_none rfl) (hK _ _ (le8_refl _) rfl)
        · intro ac w' hF hB hT
          have e6 : ac.eval (.tmp 6) = .bool true := hT 21 (by decide)
          rw [hF.lit 98 rfl]
          simp only [List.range, List.range.loop, List.map_cons, List.map_nil, e6]
          go_wp2
          go_ret
          exact ⟨rfl, below_step bb4 (Nat.le_refl _) hB⟩
      · obtain ⟨N, hN⟩ : ∃ N : Nat, r = (N : Int) := ⟨r.toNat, by omega⟩
        have hNd : N < d := by omega
        have hkz : kB.size + (⟨(List.replicate N (0 : UInt8)).toArray⟩ : ByteArray).size ≤ 9223372036854775807 := by rw [zb_size]; omega
        have HOZ := Lib.hid (HZ.out N hNd)
        have hN100 : N ≤ 1000 := by have := HDD.out; omega
        rw [hN] at er
        clear hlong hd0 hneg hr1 hr2 hN
        go_upto_region 13 with (fail)
        try simp only [Act.put]
        refine wp_region_tab [RT.is (.bool true), RT.is (.bool true), RT.is (sumV D), RT.is (.string kB), RT.is (.int .i64 (N : Int)), RT.zeros N, RT.is (.string ⟨(List.replicate N (0 : UInt8)).toArray⟩), RT.is (.string (kB ++ ⟨(List.replicate N (0 : UInt8)).toArray⟩)), RT.is (.string a), RT.is (.string b), RT.is (.string (a ++ b)), RT.row [a ++ b], RT.is (sumV D), RT.is (.bool true), RT.is (.bool true), RT.is (.bool true), RT.is (.string kB), RT.is (.string PB), RT.is (.int .i64 PB.size), RT.is (.bool true), RT.is (.bool true), RT.is (.bool true)] (by kernel_rfl) (by kernel_rfl) (by kernel_rfl) (by kernel_rfl) ⟨?_, ?_, ?_, ?_, ?_, ?_, ?_, ?_, ?_, ?_, ?_, ?_, ?_, ?_, ?_, ?_, ?_, ?_, ?_, ?_, ?_, ?_, trivial⟩ ?_
        · intro ac w' hF hL hP hU K hK
          have hB := below_undrew hL
          have e7 : ac.eval (.tmp 7) = .bool true := hF.at 7 (by kernel_rfl)
          exact rop_move _ rfl e7 (wanted_none rfl) (hK _ _ (le8_refl _) rfl)
        · intro ac w' hF hL hP hU K hK
          have hB := below_undrew hL
          have e77 : ac.eval (.tmp 77) = .bool true := hP 0 (by kernel_rfl)
          exact rop_move _ rfl e77 (wanted_none rfl) (hK _ _ (le8_refl _) rfl)
        · intro ac w' hF hL hP hU K hK
          have hB := below_undrew hL
          have e10 : ac.eval (.tmp 10) = .pointer (some ⟨w2.heap.size, 0, none⟩) := hF.at 10 (by kernel_rfl)
          have e78 : ac.eval (.tmp 78) = .bool true := hP 1 (by kernel_rfl)
          exact rop_load _ _ rfl w2.heap.size 0 e10 (D.map u8V) _ (r10.out w' (below_step hB4 (Nat.le_refl _) hB)) Tryd.underlying30 rfl (sum_info' HDl.out) (wanted_of (j := 1) (b := true) rfl rfl e78) (hK _ _ (le8_refl _) rfl)
        · intro ac w' hF hL hP hU K hK
          have hB := below_undrew hL
          have e0 : ac.eval (.tmp 0) = .string kB := hF.at 0 (by kernel_rfl)
          have e78 : ac.eval (.tmp 78) = .bool true := hP 1 (by kernel_rfl)
          exact rop_move _ rfl e0 (wanted_of (j := 1) (b := true) rfl rfl e78) (hK _ _ (le8_refl _) rfl)
        · intro ac w' hF hL hP hU K hK
          have hB := below_undrew hL
          have e11 : ac.eval (.tmp 11) = .int .i64 (N : Int) := hF.at 11 (by kernel_rfl)
          have e78 : ac.eval (.tmp 78) = .bool true := hP 1 (by kernel_rfl)
          exact rop_move _ rfl e11 (wanted_of (j := 1) (b := true) rfl rfl e78) (hK _ _ (le8_refl _) rfl)
        · intro ac w' hF hL hP hU K hK
          have hB := below_undrew hL
          have e81 : ac.eval (.tmp 81) = .int .i64 (N : Int) := hP 4 (by kernel_rfl)
          have e78 : ac.eval (.tmp 78) = .bool true := hP 1 (by kernel_rfl)
          exact rop_make _ _ rfl N (by omega) e81 e81 (wanted_of (j := 1) (b := true) rfl rfl e78) (fun v w2 hb hr => hK v w2 hb hr)
        · intro ac w' hF hL hP hU K hK
          have hB := below_undrew hL
          have e82 : (RT.zeros N).p (ac.eval (.tmp 82)) w' := hP 5 (by kernel_rfl)
          have e78 : ac.eval (.tmp 78) = .bool true := hP 1 (by kernel_rfl)
          exact rop_zeros_str _ rfl N e82 (wanted_of (j := 1) (b := true) rfl rfl e78) (hK _ _ (le8_refl _) rfl)
        · intro ac w' hF hL hP hU K hK
          have hB := below_undrew hL
          have e80 : ac.eval (.tmp 80) = .string kB := hP 3 (by kernel_rfl)
          have e83 : ac.eval (.tmp 83) = .string ⟨(List.replicate N (0 : UInt8)).toArray⟩ := hP 6 (by kernel_rfl)
          have e78 : ac.eval (.tmp 78) = .bool true := hP 1 (by kernel_rfl)
          exact rop_bin _ _ _ _ _ rfl e80 e83 (guard_str _ _ _ _ _ _ w') (add_str kB _ hkz w') (wanted_of (j := 1) (b := true) rfl rfl e78) (hK _ _ (le8_refl _) rfl)
        · intro ac w' hF hL hP hU K hK
          have hB := below_undrew hL
          have e8 : ac.eval (.tmp 8) = .string a := hF.at 8 (by kernel_rfl)
          have e78 : ac.eval (.tmp 78) = .bool true := hP 1 (by kernel_rfl)
          exact rop_move _ rfl e8 (wanted_of (j := 1) (b := true) rfl rfl e78) (hK _ _ (le8_refl _) rfl)
        · intro ac w' hF hL hP hU K hK
          have hB := below_undrew hL
          have e9 : ac.eval (.tmp 9) = .string b := hF.at 9 (by kernel_rfl)
          have e78 : ac.eval (.tmp 78) = .bool true := hP 1 (by kernel_rfl)
          exact rop_move _ rfl e9 (wanted_of (j := 1) (b := true) rfl rfl e78) (hK _ _ (le8_refl _) rfl)
        · intro ac w' hF hL hP hU K hK
          have hB := below_undrew hL
          have e85 : ac.eval (.tmp 85) = .string a := hP 8 (by kernel_rfl)
          have e86 : ac.eval (.tmp 86) = .string b := hP 9 (by kernel_rfl)
          have e78 : ac.eval (.tmp 78) = .bool true := hP 1 (by kernel_rfl)
          exact rop_bin _ _ _ _ _ rfl e85 e86 (guard_str _ _ _ _ _ _ w') (add_str a b hab w') (wanted_of (j := 1) (b := true) rfl rfl e78) (hK _ _ (le8_refl _) rfl)
        · intro ac w' hF hL hP hU K hK
          have hB := below_undrew hL
          have e87 : ac.eval (.tmp 87) = .string (a ++ b) := hP 10 (by kernel_rfl)
          have e78 : ac.eval (.tmp 78) = .bool true := hP 1 (by kernel_rfl)
          refine rop_texts 1 _ rfl [a ++ b] ?_ rfl (by decide) (by decide) (wanted_of (j := 1) (b := true) rfl rfl e78) (fun v w2 hb hr => hK v w2 hb hr)
          simp [e87, List.range, List.range.loop]
        · intro ac w' hF hL hP hU K hK
          have hB := below_undrew hL
          have e84 : ac.eval (.tmp 84) = .string (kB ++ ⟨(List.replicate N (0 : UInt8)).toArray⟩) := hP 7 (by kernel_rfl)
          have e88 : StrRow w' (ac.eval (.tmp 88)) [a ++ b] := hP 11 (by kernel_rfl)
          have e78 : ac.eval (.tmp 78) = .bool true := hP 1 (by kernel_rfl)
          refine rop_call 29 _ _ rfl #[.string (kB ++ ⟨(List.replicate N (0 : UInt8)).toArray⟩), ac.eval (.tmp 88)] (by simp [e84]) (by kernel_rfl) (wanted_of (j := 1) (b := true) rfl rfl e78) ?_
          refine (HOZ.out _ w' e88 (hK4.old hB)).mono ?_
          rintro e w2 ⟨rfl, hb⟩
          exact ⟨_, rfl, hK _ _ hb rfl⟩
        · intro ac w' hF hL hP hU K hK
          have hB := below_undrew hL
          have e79 : ac.eval (.tmp 79) = sumV D := hP 2 (by kernel_rfl)
          have e89 : ac.eval (.tmp 89) = sumV D := hP 12 (by kernel_rfl)
          have e78 : ac.eval (.tmp 78) = .bool true := hP 1 (by kernel_rfl)
          exact rop_bin _ _ _ _ _ rfl e79 e89 (guard_run .eql _ _ D D w') (eql_sum_t D D HDl.out HDl.out rfl w') (wanted_of (j := 1) (b := true) rfl rfl e78) (hK _ _ (le8_refl _) rfl)
        · intro ac w' hF hL hP hU K hK
          have hB := below_undrew hL
          have e78 : ac.eval (.tmp 78) = .bool true := hP 1 (by kernel_rfl)
          have e90 : ac.eval (.tmp 90) = .bool true := hP 13 (by kernel_rfl)
          exact rop_pick _ _ _ rfl true e78 (by simpa using e90) (wanted_none rfl) (hK _ _ (le8_refl _) rfl)
        · intro ac w' hF hL hP hU K hK
          have hB := below_undrew hL
          have e91 : ac.eval (.tmp 91) = .bool true := hP 14 (by kernel_rfl)
          exact rop_move _ rfl e91 (wanted_none rfl) (hK _ _ (le8_refl _) rfl)
        · intro ac w' hF hL hP hU K hK
          have hB := below_undrew hL
          have e0 : ac.eval (.tmp 0) = .string kB := hF.at 0 (by kernel_rfl)
          have e92 : ac.eval (.tmp 92) = .bool true := hP 15 (by kernel_rfl)
          exact rop_move _ rfl e0 (wanted_of (j := 15) (b := true) rfl rfl e92) (hK _ _ (le8_refl _) rfl)
        · intro ac w' hF hL hP hU K hK
          have hB := below_undrew hL
          have e93 : ac.eval (.tmp 93) = .string kB := hP 16 (by kernel_rfl)
          have e92 : ac.eval (.tmp 92) = .bool true := hP 15 (by kernel_rfl)
          refine rop_call 27 _ _ rfl #[.string kB] (by simp [e93]) (by kernel_rfl) (wanted_of (j := 15) (b := true) rfl rfl e92) ?_
          refine (HPS.out w' (hK4.old hB)).mono ?_
          rintro e w2 ⟨rfl, hb⟩
          exact ⟨_, rfl, hK _ _ hb rfl⟩
        · intro ac w' hF hL hP hU K hK
          have hB := below_undrew hL
          have e94 : ac.eval (.tmp 94) = .string PB := hP 17 (by kernel_rfl)
          have e92 : ac.eval (.tmp 92) = .bool true := hP 15 (by kernel_rfl)
          exact rop_len_str _ rfl _ e94 (wanted_of (j := 15) (b := true) rfl rfl e92) (hK _ _ (le8_refl _) rfl)
        · intro ac w' hF hL hP hU K hK
          have hB := below_undrew hL
          have e95 : ac.eval (.tmp 95) = .int .i64 PB.size := hP 18 (by kernel_rfl)
          have e92 : ac.eval (.tmp 92) = .bool true := hP 15 (by kernel_rfl)
          exact rop_bin _ _ _ _ _ rfl e95 rfl (guard_int _ _ _ _ _ _ _ w') (eql_int_t _ _ hPB w') (wanted_of (j := 15) (b := true) rfl rfl e92) (hK _ _ (le8_refl _) rfl)
        · intro ac w' hF hL hP hU K hK
          have hB := below_undrew hL
          have e92 : ac.eval (.tmp 92) = .bool true := hP 15 (by kernel_rfl)
          have e96 : ac.eval (.tmp 96) = .bool true := hP 19 (by kernel_rfl)
          exact rop_pick _ _ _ rfl true e92 (by simpa using e96) (wanted_none rfl) (hK _ _ (le8_refl _) rfl)
        · intro ac w' hF hL hP hU K hK
          have hB := below_undrew hL
          have e97 : ac.eval (.tmp 97) = .bool true := hP 20 (by kernel_rfl)
          exact rop_assign _ rfl e97 (wanted_none rfl) (hK _ _ (le8_refl _) rfl)
        · intro ac w' hF hB hT
          have e6 : ac.eval (.tmp 6) = .bool true := hT 21 (by decide)
          rw [hF.lit 98 rfl]
          simp only [List.range, List.range.loop, List.map_cons, List.map_nil, e6]
          go_wp2
          go_ret
          exact ⟨rfl, below_step bb4 (Nat.le_refl _) hB⟩

set_option maxRecDepth 100000 in
theorem lifted (os : Os) (started : os.Started) (H : Type) (enc : TypeId × Value → H) :
    ReturnsInHanded {} Tryd.checked os 9 .any (fun w args => (Rows.macPartsSpec.pre enc Tryd.prog Tryd.f9 [] false w args ∧ laidMetH Tryd.prog [("scrinium/sha.k", Rows.laid_scrinium_sha_k)] w) ∧ sizedMet enc Tryd.prog Tryd.f9 (OpenSpec.ofChange Rows.macPartsSpec) false w args)
      (Rows.macPartsSpec.post enc Tryd.prog Tryd.f9 false true false false) := by
  refine returnsInHanded_of_change_and (C := Tryd.checked) (X := fun w _ => laidMetH Tryd.prog [("scrinium/sha.k", Rows.laid_scrinium_sha_k)] w) (fun _ _ _ hh h => h.of_heap hh) lawOwn started (by kernel_rfl) Tryd.func9
    (ChangeSpec.witness_shaped (enc := enc) (C := Tryd.checked) (os := os) (X := fun w _ => laidMetH Tryd.prog [("scrinium/sha.k", Rows.laid_scrinium_sha_k)] w) false (World.doorLaid Tryd.prog 400 os) #[.string .empty, .agg #[.string .empty, .string .empty], .int .i64 0] 8 rfl (World.shaped_of_RefB (by kernel_rfl) (by kernel_rfl)) (by kernel_rfl) (by kernel_rfl) (by kernel_rfl) (door_met os _)) ?_
  intro W base args ds gs before hval0 hW _ _ hL _
  have hval : ∀ (j : Nat) t v, Tryd.f9.params[j]? = some t → args[j]? = some v → Value.okWide Tryd.prog W .any base t v := hval0
  have hW' := hW
  obtain ⟨p, q, hA0, hV, rfl, hfz, hnd⟩ := hW
  have hA : DataW.TrodAll enc Tryd.prog W 0 (fun _ => true) true Tryd.f9.params.toList args.toList ds p := hA0
  rw [Tryd.params9] at hA hval
  obtain ⟨v0, vs0, d0, ds0, p0, q0, hargs, rfl, rfl, h0, r0⟩ := trodAll_cons hA
  obtain ⟨v1, vs1, d1, ds1, p1, q1, rfl, rfl, rfl, h1, r1⟩ := trodAll_cons r0
  obtain ⟨v2, vs2, d2, ds2, p2, q2, rfl, rfl, rfl, h2, r2⟩ := trodAll_cons r1
  obtain ⟨rfl, rfl, rfl⟩ := trodAll_nil r2
  obtain rfl : args = #[v0, v1, v2] := by cases args; simp_all
  obtain ⟨rfl, rfl⟩ := trodVars_none hV
  have hKT := KT_of_laid hL
  obtain ⟨s0, rfl, rfl, rfl, w0⟩ := Go.ChangeMaps.open_string Tryd.underlying9 (hval 0 9 v0 rfl rfl) h0
  obtain ⟨x1, y1, rfl, w1, u1⟩ := open_2str (hval 1 53 v1 rfl rfl) h1
  obtain ⟨a2, rfl, rfl, rfl, w2⟩ := open_int Tryd.underlying3 (hval 2 3 v2 rfl rfl) h2
  clear hA0 hval0
  obtain ⟨l2, m2⟩ := i64_bounds w2
  refine (walk (w := W) hKT s0 w0 x1 w1 y1 u1 a2 l2 m2).mono fun e W' ⟨he, bel⟩ => ?_
  subst he
  exact ⟨_, rfl, law_post rfl rfl (by kernel_rfl) hW' rfl bel⟩

theorem row_holds : Rows.MacPartsSaid :=
  OpenClaim.holds_of_wide 9 Tryd.f9 rfl rfl rfl rfl rfl rfl rfl ⟨rfl, rfl, rfl, rfl, rfl⟩ rfl rfl rfl rfl rfl (by kernel_rfl) Tryd.func9 (by kernel_rfl)
    (of_decide_eq_true (by kernel_rfl)) (by unfold Func.isWrapper; first | (rw [if_pos (by decide +kernel)]; kernel_rfl) | (rw [if_neg (by decide +kernel)]; exact ⟨rfl, rfl⟩))
    (fun os started H enc _ => lifted os started H enc)

theorem holds : Rows.MacPartsCardSaid :=
  Claim7.holds_tied_plain_at .later [] [.data] true Rows.macPartsCard.stood.harness false
    row_holds (fun _ h => by cases h) (by kernel_rfl) (fun _ h => by cases h) macParts_row_tie rfl ⟨rfl, rfl⟩ (by kernel_rfl) rfl
    (fun f fn hf hfn => by
      obtain rfl : f = 9 := Option.some.inj ((show Tryd.prog.funcNamed "scrinium/scriniumlaw03.MacParts" = some 9 by kernel_rfl).symm.trans hf) |>.symm
      obtain rfl : fn = Tryd.f9 := (Option.some.inj (Tryd.func9.symm.trans hfn)).symm
      exact ⟨by kernel_rfl, fun j t ht => by
        rw [Tryd.params9] at ht
        have hm : t ∈ [9, 53, 3] := by simpa using Array.mem_of_getElem? ht
        have hall : ([9, 53, 3].all fun u => !Tryd.prog.wantsStandIn u) = true := by kernel_rfl
        exact (show Tryd.prog.wantsStandIn t = false by simpa using List.all_eq_true.1 hall t hm)⟩)
    (by kernel_rfl)
end Go.Proofs.YtcecncbhfcoilaaDoor.macParts

theorem Go.Proofs.YtcecncbhfcoilaaDoor.macParts_holds : Go.Proofs.YtcecncbhfcoilaaDoor.Rows.MacPartsCardSaid := Go.Proofs.YtcecncbhfcoilaaDoor.macParts.holds
#print axioms Go.Proofs.YtcecncbhfcoilaaDoor.macParts_holds
