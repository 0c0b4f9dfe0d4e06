/-
  MacMakers: a maker makes its key's sums, again and again, whatever it made ahead. For every key (its first 200 bytes) and all texts (the first 8, their first 100 bytes); the numbers K are as the program's text lays them.
-/
import Derived.Test.YtcecncbhfcoilaaDoorStrArg
import Derived.Test.YtcecncbhfcoilaaDoorMacAwake
import Derived.Test.YtcecncbhfcoilaaDoorRegOps
namespace Go.Proofs.YtcecncbhfcoilaaDoor.macMakers
open Go.ChangeShapes Go.WideShapes Go.ChangeAt Go.RowKit

theorem turned_ne (D : List UInt8) (i : Nat) (h : i < D.length) : ¬ D = D.set i (D.getD i 0 ^^^ 1) := fun e => by
  have h1 := congrArg (·[i]?) e
  have ed : D.getD i 0 = D[i] := by rw [List.getD_eq_getElem?_getD, List.getElem?_eq_getElem h]; rfl
  simp only [List.getElem?_set_self h, List.getElem?_eq_getElem h, ed] at h1
  have h2 : D[i] = D[i] ^^^ 1 := Option.some.inj h1
  have h3 : D[i] ^^^ D[i] = D[i] ^^^ (D[i] ^^^ 1) := congrArg (D[i] ^^^ ·) h2
  rw [UInt8.xor_self, ← UInt8.xor_assoc, UInt8.xor_self, UInt8.zero_xor] at h3
  exact absurd h3 (by decide)
theorem append_data (a b : ByteArray) : (a ++ b).data.toList = a.data.toList ++ b.data.toList := by
  rw [ByteArray.data_append]; simp
/-- Ahead of text i. -/
def MkRel (p : Nat) (k : List UInt8) (n : Nat) (w : World) (si : Value) (wr : World) : Prop :=
  ∃ i : Nat, i ≤ 8 ∧ i ≤ n ∧ si = .int .i64 i ∧ IsMaker p k wr ∧ Below w.heap.size w wr

set_option maxHeartbeats 4000000 in
set_option maxRecDepth 100000 in
theorem walk {w : World} (hK : KT w) (s0 : ByteArray) (_ : s0.size ≤ maxLen) (v : Value) (ls : List ByteArray) (hr : StrRow w v ls) :
    Calls Tryd.prog 8 #[.string s0, v] w fun e w' => e = .returned (.bool true) ∧ Below w.heap.size w w' := by
  obtain ⟨kB, hkB⟩ : ∃ t, t = shortB s0 200 := ⟨_, rfl⟩
  obtain ⟨k, hk⟩ : ∃ k, k = kB.data.toList := ⟨_, rfl⟩
  have hkl : Hid (k.length < 288230376151711744) := Lib.hid (by have := shortB_size s0 200; rw [hk, ← Lib.size_eq, hkB]; omega)
  have hkl2 : Hid (k.length < 576460752303423488) := Lib.hid (by have := hkl.out; omega)
  have Hk := Lib.hid hkB
  have HkB : Hid (kB.data.toList = k) := Lib.hid hk.symm
  obtain ⟨av, cap, rfl, hl, hc⟩ := hr
  have HC := Lib.hid hc
  clear hkB hk hc
  go_enter Tryd.func8, Tryd.ntmps8
  go_upto_region 6 with (first
    | (go_at_call 24; refine (awake3_any _ hK).mono ?_; rintro e w1 ⟨rfl, b1⟩)
    | (go_at_call 25; ((with_reducible refine (short3_any s0 200 200 rfl _).mono ?_); rintro e w2 ⟨rfl, rfl⟩; rw [← Hk.out]))
    | (go_at_call 31; refine (macNew_any kB k HkB.out w1 (hK.old b1) hkl2.out).mono ?_; rintro e w2 ⟨⟨p, rfl, hp, hm⟩, b2⟩))
  have bb2 := below_step b1 (Nat.le_refl _) b2
  go_wp2
  go_loopw [7] (MkRel p k ls.length w) (fun i _ => ls.length - (intOf i).toNat)
  case atStart => exact ⟨0, by omega, by omega, rfl, hm, bb2⟩
  case round =>
    clear hm bb2 b1 b2
    obtain ⟨i, hi8, hin, rfl, hm, hbl⟩ := hrel
    have hKr := hK.old hbl
    by_cases hcond : i < ls.length ∧ i < 8
    · obtain ⟨hlt, hlt8⟩ := hcond
      have hi8' : (i : Int) < 8 := by omega
      have hin' : (i : Int) < ls.length := by omega
      obtain ⟨b, off, rfl, hb, hj⟩ := HC.out (by intro e; rw [e] at hlt; simp at hlt)
      have hcx := hj i hlt
      generalize ls.getD i ByteArray.empty = X at *
      have hcr : wr.cell? ⟨b, off + i, none⟩ = some (.string X) := (hbl.cell (p := ⟨b, off + i, none⟩) hb).trans hcx
      obtain ⟨t, ht⟩ : ∃ t, t = shortB X 100 := ⟨_, rfl⟩
      have ht100 : t.size ≤ 100 := by rw [ht]; exact shortB_size X 100
      have Ht := Lib.hid ht
      obtain ⟨D, hD⟩ : ∃ D, D = Mac.mac k (flat [t]) := ⟨_, rfl⟩
      have hDl : D.length = 32 := by rw [hD]; exact Mac.mac_length _ _
      have HD := Lib.hid hD
      have HDt : Hid (Mac.mac k (flat [t]) = D) := Lib.hid hD.symm
      have HDl := Lib.hid hDl
      obtain ⟨E, hE⟩ : ∃ E, E = Mac.mac k (flat [t, t]) := ⟨_, rfl⟩
      have HE := Lib.hid hE
      have HEl : Hid (E.length = 32) := Lib.hid (by rw [hE]; exact Mac.mac_length _ _)
      have htl : Hid ((flat [t]).length < 288230376151711744) := Lib.hid (by rw [flat_one, ← Lib.size_eq]; omega)
      have htl2 : Hid ((flat [t, t]).length < 288230376151711744) := Lib.hid (by rw [flat_two, List.length_append, ← Lib.size_eq]; omega)
      have htt : flat [t ++ t] = flat [t, t] := by rw [flat_one, flat_two, append_data]
      have HTT := Lib.hid htt
      have HJ := Lib.hid hj
      clear hj hcx ht hD hDl hE htt
      have ba : Below wr.heap.size wr (wr.alloc (.cells #[.string t] 9)) := (Below.refl _ _).alloc (Nat.le_refl _) _
      have HSUM := Lib.hid (macSum_any p k _ [t] _ (.inl (hm.old ba hm.lt)) (StrRow.one wr t) (hKr.old ba) htl.out)
      go_upto_region 11 with (first
        | (go_at_call 25; ((with_reducible refine (short3_any X 100 100 rfl _).mono ?_); rintro e w3 ⟨rfl, rfl⟩; rw [← Ht.out]))
        | (go_at_call 32; refine HSUM.out.mono ?_; rintro e w4 ⟨rfl, b4⟩; rw [← HD.out])
        | refine wpList_store_mid rfl 30 (.tmp 9) (.tmp 35) rfl w4.heap.size 0 (D.map u8V).toArray rfl rfl (sum_there (heap_alloc_last w4 _) HDl.out) (sum_info HDl.out) (sum_one D) ?_)
      obtain ⟨w5, hw5⟩ : ∃ w5, w5 = (w4.alloc (.cells ((List.replicate 32 (0 : UInt8)).map u8V).toArray 30)).setCells w4.heap.size 0 (D.map u8V) := ⟨_, rfl⟩
      have b5 : Below w4.heap.size w4 w5 := by rw [hw5]; exact below_setCells (Nat.le_refl _) _ _ _ ((Below.refl _ _).alloc (Nat.le_refl _) _)
      have h5 : w5.heap[w4.heap.size]? = some (.cells (D.map u8V).toArray 30 (0, 0)) := by
        rw [hw5]; exact heap_setCells_all w4 ((List.replicate 32 (0 : UInt8)).map u8V) (D.map u8V) (by rw [List.length_map, List.length_map, HDl.out]; rfl)
      change Code.wp _ _ _ _ ((w4.alloc (.cells ((List.replicate 32 (0 : UInt8)).map u8V).toArray 30)).setCells w4.heap.size 0 (D.map u8V))
      rw [← hw5]
      have l5 : w4.heap.size < w5.heap.size := (Array.getElem?_eq_some_iff.1 h5).1
      have br5 : Below wr.heap.size wr w5 := below_step (below_step ba (Nat.le_refl _) b4) (Nat.le_refl _) b5
      have bw5 : Below w.heap.size w w5 := below_step hbl (Nat.le_refl _) br5
      have hK5 := hK.old bw5
      have hm5 := hm.old br5 hm.lt
      have lr4 : w.heap.size ≤ w4.heap.size := Nat.le_trans hbl.size (Nat.le_trans ba.size b4.size)
      have H5 := Lib.hid h5
      clear hw5
      have r9 : Hid (∀ w', Below w5.heap.size w5 w' → w'.rangeAt w4.heap.size 0 (D.map u8V)) := Lib.hid fun w' h j y hy => (h.cell (p := ⟨w4.heap.size, 0 + j, none⟩) l5).trans (by rw [Nat.zero_add, cell_of h5]; simpa using hy)
      have HOF : Hid (∀ (v : Value) (w' : World), StrRow w' v [t] → KT w' → Calls Tryd.prog 29 #[.string kB, v] w' fun e w2 => e = .returned (sumV D) ∧ Below w'.heap.size w' w2) := Lib.hid fun v w' hr hk => by
        rw [HD.out]; exact macOf_any kB k HkB.out v [t] _ rfl w' hr hk hkl.out htl.out
      have HOE : Hid (∀ (v : Value) (w' : World), StrRow w' v [t ++ t] → KT w' → Calls Tryd.prog 29 #[.string kB, v] w' fun e w2 => e = .returned (sumV E) ∧ Below w'.heap.size w' w2) := Lib.hid fun v w' hr hk => by
        rw [HE.out]; exact macOf_any kB k HkB.out v [t ++ t] _ HTT.out w' hr hk hkl.out htl2.out
      have HSE : Hid (∀ (v : Value) (w' : World), IsMaker p k w' → StrRow w' v [t, t] → KT w' → Calls Tryd.prog 32 #[.pointer (some ⟨p, 0, none⟩), v] w' fun e w2 => e = .returned (sumV E) ∧ Below w'.heap.size w' w2) := Lib.hid fun v w' hmm hr hk => by
        rw [HE.out]; exact macSum_any p k v [t, t] w' (.inl hmm) hr hk htl2.out
      clear h5
      try simp only [Act.put]
      refine wp_region_tab [RT.is (sumV D), RT.is (.string kB), RT.is (.string t), RT.row [t], RT.is (sumV D), RT.is (.bool false), RT.is (.bool false), RT.is (.pointer (some ⟨p, 0, none⟩)), RT.is (sumV D), RT.is (.string t), RT.row [t], RT.is (.bool true), RT.is (.bool false), RT.is (.bool false), RT.is (.bool false), RT.is (.pointer (some ⟨p, 0, none⟩)), RT.is (.string t), RT.is (.string t), RT.row [t, t], RT.is (sumV E), RT.is (.string kB), RT.is (.string t), RT.is (.string t), RT.is (.string (t ++ t)), RT.row [t ++ t], RT.is (sumV E), RT.is (.bool false), RT.is (.bool false)] (by kernel_rfl) (by kernel_rfl) (by kernel_rfl) (by kernel_rfl) ⟨?_, ?_, ?_, ?_, ?_, ?_, ?_, ?_, ?_, ?_, ?_, ?_, ?_, ?_, ?_, ?_, ?_, ?_, ?_, ?_, ?_, ?_, ?_, ?_, ?_, ?_, ?_, ?_, trivial⟩ ?_
      · intro a w' hF hL hP hU K hK
        have hB := below_undrew hL
        have e9 : a.eval (.tmp 9) = .pointer (some ⟨w4.heap.size, 0, none⟩) := hF.at 9 (by kernel_rfl)
        exact rop_load _ _ rfl w4.heap.size 0 e9 (D.map u8V) _ (r9.out w' hB) Tryd.underlying30 rfl (sum_info' HDl.out) (wanted_none rfl) (hK _ _ (le8_refl _) rfl)
      · intro a w' hF hL hP hU K hK
        have hB := below_undrew hL
        have e0 : a.eval (.tmp 0) = .string kB := hF.at 0 (by kernel_rfl)
        exact rop_move _ rfl e0 (wanted_none rfl) (hK _ _ (le8_refl _) rfl)
      · intro a w' hF hL hP hU K hK
        have hB := below_undrew hL
        have e8 : a.eval (.tmp 8) = .string t := hF.at 8 (by kernel_rfl)
        exact rop_move _ rfl e8 (wanted_none rfl) (hK _ _ (le8_refl _) rfl)
      · intro a w' hF hL hP hU K hK
        have hB := below_undrew hL
        have e38 : a.eval (.tmp 38) = .string t := hP 2 (by kernel_rfl)
        refine rop_texts 1 _ rfl [t] ?_ rfl (by decide) (by decide) (wanted_none rfl) (fun v w2 hb hr => hK v w2 hb hr)
        simp [e38, List.range, List.range.loop]
      · intro a w' hF hL hP hU K hK
        have hB := below_undrew hL
        have e37 : a.eval (.tmp 37) = .string kB := hP 1 (by kernel_rfl)
        have e39 : StrRow w' (a.eval (.tmp 39)) [t] := hP 3 (by kernel_rfl)
        refine rop_call 29 _ _ rfl #[.string kB, a.eval (.tmp 39)] (by simp [e37]) (by kernel_rfl) (wanted_none rfl) ?_
        refine (HOF.out _ w' e39 (hK5.old hB)).mono ?_
        rintro e w2 ⟨rfl, hb⟩
        exact ⟨_, rfl, hK _ _ hb rfl⟩
      · intro a w' hF hL hP hU K hK
        have hB := below_undrew hL
        have e36 : a.eval (.tmp 36) = sumV D := hP 0 (by kernel_rfl)
        have e40 : a.eval (.tmp 40) = sumV D := hP 4 (by kernel_rfl)
        exact rop_bin _ _ _ _ _ rfl e36 e40 (guard_run .neq _ _ D D w') (neq_sum_f D D HDl.out HDl.out rfl w') (wanted_none rfl) (hK _ _ (le8_refl _) rfl)
      · intro a w' hF hL hP hU K hK
        have hB := below_undrew hL
        have e41 : a.eval (.tmp 41) = .bool false := hP 5 (by kernel_rfl)
        exact rop_move _ rfl e41 (wanted_none rfl) (hK _ _ (le8_refl _) rfl)
      · intro a w' hF hL hP hU K hK
        have hB := below_undrew hL
        have e6 : a.eval (.tmp 6) = .pointer (some ⟨p, 0, none⟩) := hF.at 6 (by kernel_rfl)
        have e42 : a.eval (.tmp 42) = .bool false := hP 6 (by kernel_rfl)
        exact rop_move _ rfl e6 (wanted_of (j := 6) (b := false) rfl rfl e42) (hK _ _ (le8_refl _) rfl)
      · intro a w' hF hL hP hU K hK
        have hB := below_undrew hL
        have e9 : a.eval (.tmp 9) = .pointer (some ⟨w4.heap.size, 0, none⟩) := hF.at 9 (by kernel_rfl)
        have e42 : a.eval (.tmp 42) = .bool false := hP 6 (by kernel_rfl)
        exact rop_load _ _ rfl w4.heap.size 0 e9 (D.map u8V) _ (r9.out w' hB) Tryd.underlying30 rfl (sum_info' HDl.out) (wanted_of (j := 6) (b := false) rfl rfl e42) (hK _ _ (le8_refl _) rfl)
      · intro a w' hF hL hP hU K hK
        have hB := below_undrew hL
        have e8 : a.eval (.tmp 8) = .string t := hF.at 8 (by kernel_rfl)
        have e42 : a.eval (.tmp 42) = .bool false := hP 6 (by kernel_rfl)
        exact rop_move _ rfl e8 (wanted_of (j := 6) (b := false) rfl rfl e42) (hK _ _ (le8_refl _) rfl)
      · intro a w' hF hL hP hU K hK
        have hB := below_undrew hL
        have e45 : a.eval (.tmp 45) = .string t := hP 9 (by kernel_rfl)
        have e42 : a.eval (.tmp 42) = .bool false := hP 6 (by kernel_rfl)
        refine rop_texts 1 _ rfl [t] ?_ rfl (by decide) (by decide) (wanted_of (j := 6) (b := false) rfl rfl e42) (fun v w2 hb hr => hK v w2 hb hr)
        simp [e45, List.range, List.range.loop]
      · intro a w' hF hL hP hU K hK
        have hB := below_undrew hL
        have e43 : a.eval (.tmp 43) = .pointer (some ⟨p, 0, none⟩) := hP 7 (by kernel_rfl)
        have e44 : a.eval (.tmp 44) = sumV D := hP 8 (by kernel_rfl)
        have e46 : StrRow w' (a.eval (.tmp 46)) [t] := hP 10 (by kernel_rfl)
        have e42 : a.eval (.tmp 42) = .bool false := hP 6 (by kernel_rfl)
        refine rop_call 33 _ _ rfl #[.pointer (some ⟨p, 0, none⟩), sumV D, a.eval (.tmp 46)] (by simp [e43, e44]) (by kernel_rfl) (wanted_of (j := 6) (b := false) rfl rfl e42) ?_
        refine (macRight_t p k D HDl.out _ [t] w' HDt.out (.inl (hm5.old hB hm5.lt)) e46 (hK5.old hB) htl.out).mono ?_
        rintro e w2 ⟨rfl, hb⟩
        exact ⟨_, rfl, hK _ _ hb rfl⟩
      · intro a w' hF hL hP hU K hK
        have hB := below_undrew hL
        have e47 : a.eval (.tmp 47) = .bool true := hP 11 (by kernel_rfl)
        have e42 : a.eval (.tmp 42) = .bool false := hP 6 (by kernel_rfl)
        exact rop_not _ _ rfl true e47 (wanted_of (j := 6) (b := false) rfl rfl e42) (hK _ _ (le8_refl _) rfl)
      · intro a w' hF hL hP hU K hK
        have hB := below_undrew hL
        have e42 : a.eval (.tmp 42) = .bool false := hP 6 (by kernel_rfl)
        have e48 : a.eval (.tmp 48) = .bool false := hP 12 (by kernel_rfl)
        exact rop_pick _ _ _ rfl false e42 (by simpa using e48) (wanted_none rfl) (hK _ _ (le8_refl _) rfl)
      · intro a w' hF hL hP hU K hK
        have hB := below_undrew hL
        have e49 : a.eval (.tmp 49) = .bool false := hP 13 (by kernel_rfl)
        exact rop_move _ rfl e49 (wanted_none rfl) (hK _ _ (le8_refl _) rfl)
      · intro a w' hF hL hP hU K hK
        have hB := below_undrew hL
        have e6 : a.eval (.tmp 6) = .pointer (some ⟨p, 0, none⟩) := hF.at 6 (by kernel_rfl)
        have e50 : a.eval (.tmp 50) = .bool false := hP 14 (by kernel_rfl)
        exact rop_move _ rfl e6 (wanted_of (j := 14) (b := false) rfl rfl e50) (hK _ _ (le8_refl _) rfl)
      · intro a w' hF hL hP hU K hK
        have hB := below_undrew hL
        have e8 : a.eval (.tmp 8) = .string t := hF.at 8 (by kernel_rfl)
        have e50 : a.eval (.tmp 50) = .bool false := hP 14 (by kernel_rfl)
        exact rop_move _ rfl e8 (wanted_of (j := 14) (b := false) rfl rfl e50) (hK _ _ (le8_refl _) rfl)
      · intro a w' hF hL hP hU K hK
        have hB := below_undrew hL
        have e8 : a.eval (.tmp 8) = .string t := hF.at 8 (by kernel_rfl)
        have e50 : a.eval (.tmp 50) = .bool false := hP 14 (by kernel_rfl)
        exact rop_move _ rfl e8 (wanted_of (j := 14) (b := false) rfl rfl e50) (hK _ _ (le8_refl _) rfl)
      · intro a w' hF hL hP hU K hK
        have hB := below_undrew hL
        have e52 : a.eval (.tmp 52) = .string t := hP 16 (by kernel_rfl)
        have e53 : a.eval (.tmp 53) = .string t := hP 17 (by kernel_rfl)
        have e50 : a.eval (.tmp 50) = .bool false := hP 14 (by kernel_rfl)
        refine rop_texts 2 _ rfl [t, t] ?_ rfl (by decide) (by decide) (wanted_of (j := 14) (b := false) rfl rfl e50) (fun v w2 hb hr => hK v w2 hb hr)
        simp [e52, e53, List.range, List.range.loop]
      · intro a w' hF hL hP hU K hK
        have hB := below_undrew hL
        have e51 : a.eval (.tmp 51) = .pointer (some ⟨p, 0, none⟩) := hP 15 (by kernel_rfl)
        have e54 : StrRow w' (a.eval (.tmp 54)) [t, t] := hP 18 (by kernel_rfl)
        have e50 : a.eval (.tmp 50) = .bool false := hP 14 (by kernel_rfl)
        refine rop_call 32 _ _ rfl #[.pointer (some ⟨p, 0, none⟩), a.eval (.tmp 54)] (by simp [e51]) (by kernel_rfl) (wanted_of (j := 14) (b := false) rfl rfl e50) ?_
        refine (HSE.out _ w' (hm5.old hB hm5.lt) e54 (hK5.old hB)).mono ?_
        rintro e w2 ⟨rfl, hb⟩
        exact ⟨_, rfl, hK _ _ hb rfl⟩
      · intro a w' hF hL hP hU K hK
        have hB := below_undrew hL
        have e0 : a.eval (.tmp 0) = .string kB := hF.at 0 (by kernel_rfl)
        have e50 : a.eval (.tmp 50) = .bool false := hP 14 (by kernel_rfl)
        exact rop_move _ rfl e0 (wanted_of (j := 14) (b := false) rfl rfl e50) (hK _ _ (le8_refl _) rfl)
      · intro a w' hF hL hP hU K hK
        have hB := below_undrew hL
        have e8 : a.eval (.tmp 8) = .string t := hF.at 8 (by kernel_rfl)
        have e50 : a.eval (.tmp 50) = .bool false := hP 14 (by kernel_rfl)
        exact rop_move _ rfl e8 (wanted_of (j := 14) (b := false) rfl rfl e50) (hK _ _ (le8_refl _) rfl)
      · intro a w' hF hL hP hU K hK
        have hB := below_undrew hL
        have e8 : a.eval (.tmp 8) = .string t := hF.at 8 (by kernel_rfl)
        have e50 : a.eval (.tmp 50) = .bool false := hP 14 (by kernel_rfl)
        exact rop_move _ rfl e8 (wanted_of (j := 14) (b := false) rfl rfl e50) (hK _ _ (le8_refl _) rfl)
      · intro a w' hF hL hP hU K hK
        have hB := below_undrew hL
        have e57 : a.eval (.tmp 57) = .string t := hP 21 (by kernel_rfl)
        have e58 : a.eval (.tmp 58) = .string t := hP 22 (by kernel_rfl)
        have e50 : a.eval (.tmp 50) = .bool false := hP 14 (by kernel_rfl)
        exact rop_bin _ _ _ _ _ rfl e57 e58 (guard_str _ _ _ _ _ _ w') (add_str t t (by omega) w') (wanted_of (j := 14) (b := false) rfl rfl e50) (hK _ _ (le8_refl _) rfl)
      · intro a w' hF hL hP hU K hK
        have hB := below_undrew hL
        have e59 : a.eval (.tmp 59) = .string (t ++ t) := hP 23 (by kernel_rfl)
        have e50 : a.eval (.tmp 50) = .bool false := hP 14 (by kernel_rfl)
        refine rop_texts 1 _ rfl [t ++ t] ?_ rfl (by decide) (by decide) (wanted_of (j := 14) (b := false) rfl rfl e50) (fun v w2 hb hr => hK v w2 hb hr)
        simp [e59, List.range, List.range.loop]
      · intro a w' hF hL hP hU K hK
        have hB := below_undrew hL
        have e56 : a.eval (.tmp 56) = .string kB := hP 20 (by kernel_rfl)
        have e60 : StrRow w' (a.eval (.tmp 60)) [t ++ t] := hP 24 (by kernel_rfl)
        have e50 : a.eval (.tmp 50) = .bool false := hP 14 (by kernel_rfl)
        refine rop_call 29 _ _ rfl #[.string kB, a.eval (.tmp 60)] (by simp [e56]) (by kernel_rfl) (wanted_of (j := 14) (b := false) rfl rfl e50) ?_
        refine (HOE.out _ w' e60 (hK5.old hB)).mono ?_
        rintro e w2 ⟨rfl, hb⟩
        exact ⟨_, rfl, hK _ _ hb rfl⟩
      · intro a w' hF hL hP hU K hK
        have hB := below_undrew hL
        have e55 : a.eval (.tmp 55) = sumV E := hP 19 (by kernel_rfl)
        have e61 : a.eval (.tmp 61) = sumV E := hP 25 (by kernel_rfl)
        have e50 : a.eval (.tmp 50) = .bool false := hP 14 (by kernel_rfl)
        exact rop_bin _ _ _ _ _ rfl e55 e61 (guard_run .neq _ _ E E w') (neq_sum_f E E HEl.out HEl.out rfl w') (wanted_of (j := 14) (b := false) rfl rfl e50) (hK _ _ (le8_refl _) rfl)
      · intro a w' hF hL hP hU K hK
        have hB := below_undrew hL
        have e50 : a.eval (.tmp 50) = .bool false := hP 14 (by kernel_rfl)
        have e62 : a.eval (.tmp 62) = .bool false := hP 26 (by kernel_rfl)
        exact rop_pick _ _ _ rfl false e50 (by simpa using e62) (wanted_none rfl) (hK _ _ (le8_refl _) rfl)
      · intro a w' hF hB hT
        have e63 : a.eval (.tmp 63) = .bool false := hT 27 (by decide)
        rw [hF.lit 84 rfl]
        simp only [List.range, List.range.loop, List.map_cons, List.map_nil, e63, hF.at 0 (by kernel_rfl), hF.at 1 (by kernel_rfl), hF.at 2 (by kernel_rfl), hF.at 3 (by kernel_rfl), hF.at 4 (by kernel_rfl), hF.at 5 (by kernel_rfl), hF.at 6 (by kernel_rfl), hF.at 7 (by kernel_rfl), hF.at 8 (by kernel_rfl), hF.at 9 (by kernel_rfl), hF.at 10 (by kernel_rfl), hF.at 11 (by kernel_rfl), hF.at 12 (by kernel_rfl), hF.at 13 (by kernel_rfl), hF.at 14 (by kernel_rfl), hF.at 15 (by kernel_rfl), hF.at 16 (by kernel_rfl), hF.at 17 (by kernel_rfl), hF.at 18 (by kernel_rfl), hF.at 19 (by kernel_rfl), hF.at 20 (by kernel_rfl), hF.at 21 (by kernel_rfl), hF.at 22 (by kernel_rfl), hF.at 23 (by kernel_rfl), hF.at 24 (by kernel_rfl), hF.at 25 (by kernel_rfl), hF.at 26 (by kernel_rfl), hF.at 27 (by kernel_rfl), hF.at 28 (by kernel_rfl), hF.at 29 (by kernel_rfl), hF.at 30 (by kernel_rfl), hF.at 31 (by kernel_rfl), hF.at 32 (by kernel_rfl), hF.at 33 (by kernel_rfl), hF.at 34 (by kernel_rfl), hF.at 35 (by kernel_rfl), hF.at 64 (by kernel_rfl), hF.at 65 (by kernel_rfl), hF.at 66 (by kernel_rfl), hF.at 67 (by kernel_rfl), hF.at 68 (by kernel_rfl), hF.at 69 (by kernel_rfl), hF.at 70 (by kernel_rfl), hF.at 71 (by kernel_rfl), hF.at 72 (by kernel_rfl), hF.at 73 (by kernel_rfl), hF.at 74 (by kernel_rfl), hF.at 75 (by kernel_rfl), hF.at 76 (by kernel_rfl), hF.at 77 (by kernel_rfl), hF.at 78 (by kernel_rfl), hF.at 79 (by kernel_rfl), hF.at 80 (by kernel_rfl), hF.at 81 (by kernel_rfl), hF.at 82 (by kernel_rfl), hF.at 83 (by kernel_rfl)]
        generalize a.eval (.tmp 36) = u36
        generalize a.eval (.tmp 37) = u37
        generalize a.eval (.tmp 38) = u38
        generalize a.eval (.tmp 39) = u39
        generalize a.eval (.tmp 40) = u40
        generalize a.eval (.tmp 41) = u41
        generalize a.eval (.tmp 42) = u42
        generalize a.eval (.tmp 43) = u43
        generalize a.eval (.tmp 44) = u44
        generalize a.eval (.tmp 45) = u45
        generalize a.eval (.tmp 46) = u46
        generalize a.eval (.tmp 47) = u47
        generalize a.eval (.tmp 48) = u48
        generalize a.eval (.tmp 49) = u49
        generalize a.eval (.tmp 50) = u50
        generalize a.eval (.tmp 51) = u51
        generalize a.eval (.tmp 52) = u52
        generalize a.eval (.tmp 53) = u53
        generalize a.eval (.tmp 54) = u54
        generalize a.eval (.tmp 55) = u55
        generalize a.eval (.tmp 56) = u56
        generalize a.eval (.tmp 57) = u57
        generalize a.eval (.tmp 58) = u58
        generalize a.eval (.tmp 59) = u59
        generalize a.eval (.tmp 60) = u60
        generalize a.eval (.tmp 61) = u61
        generalize a.eval (.tmp 62) = u62
        simp only [Act.eval, Array.getD_eq_getD_getElem?, List.getElem?_toArray, List.getElem?_cons_succ, List.getElem?_cons_zero, Option.getD_some]
        clear e63 hT hF a
        have h6 : w'.heap[w4.heap.size]? = some (.cells (D.map u8V).toArray 30 (0, 0)) := (hB.block _ l5).trans H5.out
        have hi32 : (i : Int) < 32 := by omega
        have c6 := cell_u8D h6 i (by rw [HDl.out]; omega)
        have f6 := fz_of h6 i
        have ex := xor_u8 (D.getD i 0) 1
        simp only [show ((1 : UInt8).toNat : Int) = 1 from rfl] at ex
        obtain ⟨D2, hD2⟩ : ∃ D2, D2 = D.set i (D.getD i 0 ^^^ 1) := ⟨_, rfl⟩
        have hD2l : D2.length = 32 := by rw [hD2, List.length_set, HDl.out]
        have hne : decide (D = D2) = false := decide_eq_false (by rw [hD2]; exact turned_ne D i (by rw [HDl.out]; omega))
        generalize hx : D.getD i 0 = x at *
        have H6 := Lib.hid h6
        have HD2 := Lib.hid hD2
        have HD2l := Lib.hid hD2l
        have HNE := Lib.hid hne
        clear h6 hD2 hD2l hne
        go_upto_region 14 with (fail)
        obtain ⟨w7, hw7⟩ : ∃ w7, w7 = w'.setCell ⟨w4.heap.size, i, none⟩ (.int .u8 ((x.toNat ^^^ 1 : Nat) : Int)) := ⟨_, rfl⟩
        have h7 : w7.heap[w4.heap.size]? = some (.cells (D2.map u8V).toArray 30 (0, 0)) := by
          rw [hw7, heap_set H6.out, show ((x.toNat ^^^ 1 : Nat) : Int) = ((x ^^^ 1 : UInt8).toNat : Int) by rw [UInt8.toNat_xor]; rfl, u8_set, HD2.out]
        have bs : Below w4.heap.size w' w7 := by rw [hw7]; exact (Below.refl w4.heap.size w').setCell (p := ⟨w4.heap.size, i, none⟩) (Nat.le_refl _) _
        have bw6 : Below w.heap.size w w' := below_step bw5 (Nat.le_refl _) hB
        have bw7 : Below w.heap.size w w7 := bw6.trans (bs.mono lr4)
        have hm7 : IsMaker p k w7 := (hm5.old hB hm5.lt).old bs (Nat.lt_of_lt_of_le hm.lt (Nat.le_trans ba.size b4.size))
        rw [← hw7]
        have ba7 : Below w7.heap.size w7 (w7.alloc (.cells #[.string t] 9)) := (Below.refl _ _).alloc (Nat.le_refl _) _
        have hri := macRight_any p k D2 HD2l.out _ [t] _ (.inl (hm7.old ba7 hm7.lt)) (StrRow.one w7 t) ((hK.old bw7).old ba7) htl.out
        rw [← HD.out, HNE.out] at hri
        have HRI := Lib.hid hri
        have hr7 : w7.rangeAt w4.heap.size 0 (D2.map u8V) := fun j x hx => by rw [Nat.zero_add, cell_of h7]; simpa using hx
        have HR7 := Lib.hid hr7
        clear hw7 h7 hri hr7 c6 f6 hcr
        go_wp2_with (first
          | refine wpList_load_mid rfl 30 (.tmp 9) rfl w4.heap.size 0 rfl (D2.map u8V) _ HR7.out Tryd.underlying30 rfl (sum_info' HD2l.out) ?_
          | (go_at_call 33; refine HRI.out.mono ?_; rintro e w8 ⟨rfl, b8⟩))
        have bb8 := below_step ba7 (Nat.le_refl _) b8
        refine ⟨⟨i + 1, by omega, by omega, by go_num, hm7.old bb8 hm7.lt, below_step bw7 (Nat.le_refl _) bb8⟩, by simp [intOf]; omega⟩
    · have ba : Below wr.heap.size wr (wr.alloc (.cells #[.string ⟨#[110, 97, 109, 101]⟩] 9)) := (Below.refl _ _).alloc (Nat.le_refl _) _
      obtain ⟨D, hD⟩ : ∃ D, D = Mac.mac k nameL := ⟨_, rfl⟩
      have hDl : D.length = 32 := by rw [hD]; exact Mac.mac_length _ _
      have hnm := macName_any p k wr (.inl hm) hKr
      rw [← hD] at hnm
      have HN := Lib.hid hnm
      have HOF : Hid (∀ (w' : World), KT w' → Calls Tryd.prog 29 #[.string kB, .slice (some ⟨w'.heap.size, 0, none⟩) 1 1] (w'.alloc (.cells #[.string ⟨#[110, 97, 109, 101]⟩] 9)) fun e w2 => e = .returned (sumV D) ∧ Below w'.heap.size w' w2) := Lib.hid fun w' hk => by
        rw [hD]
        have bq : Below w'.heap.size w' (w'.alloc (.cells #[.string ⟨#[110, 97, 109, 101]⟩] 9)) := (Below.refl _ _).alloc (Nat.le_refl _) _
        exact (macOf_any kB k HkB.out _ [⟨#[110, 97, 109, 101]⟩] nameL (by rw [flat_one]; rfl) _ (StrRow.one w' _) (hk.old bq) hkl.out (by decide)).mono fun e w2 ⟨he, hb⟩ => ⟨he, below_step bq (Nat.le_refl _) hb⟩
      have heq : ∀ W, (binOp .eql 30 (sumV D) (sumV D)).run Tryd.prog W = .ok (.bool true) W := fun W => eql_sum_t D D hDl hDl rfl W
      have hgd : ∀ o1 o2 W, (eqGuard .eql 30 o1 o2 (sumV D) (sumV D)).run Tryd.prog W = .ok () W := fun o1 o2 W => guard_run .eql o1 o2 D D W
      clear hD hDl hnm
      by_cases hlt : i < ls.length
      · have hge : ¬ i < 8 := fun h => hcond ⟨hlt, h⟩
        have hge' : ¬ (i : Int) < 8 := by omega
        go_wp2_with (first
          | (go_at_call 34; refine HN.out.mono ?_; rintro e w3 ⟨rfl, b3⟩)
          | (go_at_call 29; refine (HOF.out w3 (hKr.old b3)).mono ?_; rintro e w4 ⟨rfl, b4⟩))
        go_ret
        exact ⟨rfl, below_step (below_step hbl (Nat.le_refl _) b3) (Nat.le_refl _) b4⟩
      · have hge' : ¬ (i : Int) < ls.length := by omega
        go_wp2_with (first
          | (go_at_call 34; refine HN.out.mono ?_; rintro e w3 ⟨rfl, b3⟩)
          | (go_at_call 29; refine (HOF.out w3 (hKr.old b3)).mono ?_; rintro e w4 ⟨rfl, b4⟩))
        go_ret
        exact ⟨rfl, below_step (below_step hbl (Nat.le_refl _) b3) (Nat.le_refl _) b4⟩

set_option maxRecDepth 100000 in
theorem lifted (os : Os) (started : os.Started) (H : Type) (enc : TypeId × Value → H) :
    ReturnsInHanded {} Tryd.checked os 8 .any (fun w args => (Rows.macMakersSpec.pre enc Tryd.prog Tryd.f8 [] false w args ∧ laidMetH Tryd.prog [("scrinium/sha.k", Rows.laid_scrinium_sha_k)] w) ∧ sizedMet enc Tryd.prog Tryd.f8 (OpenSpec.ofChange Rows.macMakersSpec) false w args)
      (Rows.macMakersSpec.post enc Tryd.prog Tryd.f8 false true false false) := by
  refine returnsInHanded_of_change_and (C := Tryd.checked) (X := fun w _ => laidMetH Tryd.prog [("scrinium/sha.k", Rows.laid_scrinium_sha_k)] w) (fun _ _ _ hh h => h.of_heap hh) lawOwn started (by kernel_rfl) Tryd.func8
    (ChangeSpec.witness_shaped (enc := enc) (C := Tryd.checked) (os := os) (X := fun w _ => laidMetH Tryd.prog [("scrinium/sha.k", Rows.laid_scrinium_sha_k)] w) false (World.doorLaid Tryd.prog 400 os) #[.string .empty, .slice none 0 0] 8 rfl (World.shaped_of_RefB (by kernel_rfl) (by kernel_rfl)) (by kernel_rfl) (by kernel_rfl) (by kernel_rfl) (door_met os _)) ?_
  intro W base args ds gs before hval0 hW _ _ hL _
  have hval : ∀ (j : Nat) t v, Tryd.f8.params[j]? = some t → args[j]? = some v → Value.okWide Tryd.prog W .any base t v := hval0
  have hW' := hW
  obtain ⟨p, q, hA0, hV, rfl, hfz, hnd⟩ := hW
  have hA : DataW.TrodAll enc Tryd.prog W 0 (fun _ => true) true Tryd.f8.params.toList args.toList ds p := hA0
  rw [Tryd.params8] at hA hval
  obtain ⟨v0, vs0, d0, ds0, p0, q0, hargs, rfl, rfl, h0, r0⟩ := trodAll_cons hA
  obtain ⟨v1, vs1, d1, ds1, p1, q1, rfl, rfl, rfl, h1, r1⟩ := trodAll_cons r0
  obtain ⟨rfl, rfl, rfl⟩ := trodAll_nil r1
  obtain rfl : args = #[v0, v1] := by cases args; simp_all
  obtain ⟨rfl, rfl⟩ := trodVars_none hV
  have hKT := KT_of_laid hL
  obtain ⟨s0, rfl, rfl, rfl, w0⟩ := Go.ChangeMaps.open_string Tryd.underlying9 (hval 0 9 v0 rfl rfl) h0
  obtain ⟨a1, len1, cap1, rfl⟩ := okWide_slice Tryd.underlying47 (hval 1 47 v1 rfl rfl)
  obtain ⟨ss1, w1⟩ := strRow_of h1
  clear hA0 hval0
  refine (walk (w := W) hKT s0 w0 _ ss1 w1).mono fun e W' ⟨he, bel⟩ => ?_
  subst he
  exact ⟨_, rfl, law_post rfl rfl (by kernel_rfl) hW' rfl bel⟩

theorem row_holds : Rows.MacMakersSaid :=
  OpenClaim.holds_of_wide 8 Tryd.f8 rfl rfl rfl rfl rfl rfl rfl ⟨rfl, rfl, rfl, rfl, rfl⟩ rfl rfl rfl rfl rfl (by kernel_rfl) Tryd.func8 (by kernel_rfl)
    (of_decide_eq_true (by kernel_rfl)) (by unfold Func.isWrapper; first | (rw [if_pos (by decide +kernel)]; kernel_rfl) | (rw [if_neg (by decide +kernel)]; exact ⟨rfl, rfl⟩))
    (fun os started H enc _ => lifted os started H enc)

theorem holds : Rows.MacMakersCardSaid :=
  Claim7.holds_tied_plain_at .later [] [.data] true Rows.macMakersCard.stood.harness false
    row_holds (fun _ h => by cases h) (by kernel_rfl) (fun _ h => by cases h) macMakers_row_tie rfl ⟨rfl, rfl⟩ (by kernel_rfl) rfl
    (fun f fn hf hfn => by
      obtain rfl : f = 8 := Option.some.inj ((show Tryd.prog.funcNamed "scrinium/scriniumlaw03.MacMakers" = some 8 by kernel_rfl).symm.trans hf) |>.symm
      obtain rfl : fn = Tryd.f8 := (Option.some.inj (Tryd.func8.symm.trans hfn)).symm
      exact ⟨by kernel_rfl, fun j t ht => by
        rw [Tryd.params8] at ht
        have hm : t ∈ [9, 47] := by simpa using Array.mem_of_getElem? ht
        have hall : ([9, 47].all fun u => !Tryd.prog.wantsStandIn u) = true := by kernel_rfl
        exact (show Tryd.prog.wantsStandIn t = false by simpa using List.all_eq_true.1 hall t hm)⟩)
    (by kernel_rfl)
end Go.Proofs.YtcecncbhfcoilaaDoor.macMakers

theorem Go.Proofs.YtcecncbhfcoilaaDoor.macMakers_holds : Go.Proofs.YtcecncbhfcoilaaDoor.Rows.MacMakersCardSaid := Go.Proofs.YtcecncbhfcoilaaDoor.macMakers.holds
#print axioms Go.Proofs.YtcecncbhfcoilaaDoor.macMakers_holds
