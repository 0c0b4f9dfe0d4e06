/-
  CheckParts: how a text is cut into parts does not matter; sums go on from each other. For any three texts (the first 200 bytes of each) and any number; the table is as the program's text lays it.
-/
import Derived.Test.YthohdkpgckandaaDoorCrcLaw
import Derived.Test.YthohdkpgckandaaDoorCrcAwake
import Derived.Test.YthohdkpgckandaaDoorStrArg
namespace Go.Proofs.YthohdkpgckandaaDoor.checkParts
open Go.ChangeShapes Go.WideShapes Go.ChangeAt Go.RowKit

set_option maxHeartbeats 1000000 in
set_option maxRecDepth 100000 in
theorem walk {w : World} (hT : TW w) (x : ByteArray) (_ : x.size ≤ maxLen) (y : ByteArray) (_ : y.size ≤ maxLen) (z : ByteArray) (_ : z.size ≤ maxLen) (c : Nat) (hc : c < 4294967296) :
    Calls Tryd.prog 8 #[.agg #[.string x, .string y, .string z], .int .u32 c] w fun e w' => e = .returned (.bool true) ∧ Below w.heap.size w w' := by
  obtain ⟨A, hA⟩ : ∃ A, A = shortB x 200 := ⟨_, rfl⟩
  obtain ⟨B, hB⟩ : ∃ B, B = shortB y 200 := ⟨_, rfl⟩
  obtain ⟨D, hD⟩ : ∃ D, D = shortB z 200 := ⟨_, rfl⟩
  have lA : A.size ≤ 200 := by rw [hA]; exact shortB_size x 200
  have lB : B.size ≤ 200 := by rw [hB]; exact shortB_size y 200
  have lD : D.size ≤ 200 := by rw [hD]; exact shortB_size z 200
  obtain ⟨a, ha⟩ : ∃ a, a = A.data.toList := ⟨_, rfl⟩
  obtain ⟨b, hb⟩ : ∃ b, b = B.data.toList := ⟨_, rfl⟩
  obtain ⟨d, hd⟩ : ∃ d, d = D.data.toList := ⟨_, rfl⟩
  have na : a.length ≤ 200 := by rw [ha, ← Lib.size_eq]; exact lA
  have nb : b.length ≤ 200 := by rw [hb, ← Lib.size_eq]; exact lB
  have nd : d.length ≤ 200 := by rw [hd, ← Lib.size_eq]; exact lD
  obtain ⟨AB, hAB⟩ : ∃ X, X = A ++ B := ⟨_, rfl⟩
  obtain ⟨ABD, hABD⟩ : ∃ X, X = AB ++ D := ⟨_, rfl⟩
  obtain ⟨BD, hBD⟩ : ∃ X, X = B ++ D := ⟨_, rfl⟩
  have dAB : AB.data.toList = a ++ b := by rw [hAB, app_data, ha, hb]
  have dABD : ABD.data.toList = a ++ b ++ d := by rw [hABD, app_data, dAB, hd]
  have dBD : BD.data.toList = b ++ d := by rw [hBD, app_data, hb, hd]
  have sAB : AB.size ≤ 400 := by rw [Lib.size_eq, dAB, List.length_append]; omega
  obtain ⟨q, hq⟩ : ∃ q, q = Crc.of (a ++ b ++ d) := ⟨_, rfl⟩
  obtain ⟨p, hp⟩ : ∃ p, p = Crc.of a := ⟨_, rfl⟩
  obtain ⟨k, hk⟩ : ∃ k, k = Crc.add c a := ⟨_, rfl⟩
  obtain ⟨m, hm⟩ : ∃ m, m = Crc.add c (a ++ b) := ⟨_, rfl⟩
  have HAB : Hid (∀ w, (binOp .add 9 (.string A) (.string B)).run Tryd.prog w = .ok (.string AB) w) := Lib.hid fun w => by rw [hAB]; exact add_str A B (by omega) w
  have HABD : Hid (∀ w, (binOp .add 9 (.string AB) (.string D)).run Tryd.prog w = .ok (.string ABD) w) := Lib.hid fun w => by rw [hABD]; exact add_str AB D (by omega) w
  have HBD : Hid (∀ w, (binOp .add 9 (.string B) (.string D)).run Tryd.prog w = .ok (.string BD) w) := Lib.hid fun w => by rw [hBD]; exact add_str B D (by omega) w
  have HP : Hid (∀ v w, StrRow w v [A, B, D] → TW w → Calls Tryd.prog 12 #[v] w fun e w' => e = .returned (.int .u32 (q : Nat)) ∧ Below w.heap.size w w') := Lib.hid fun v w h hT => by
    rw [hq]; exact ofB_any v _ _ (by simp [flat, ha, hb, hd]) w h hT (by simp only [List.length_append]; omega)
  have HQ : Hid (∀ v w, StrRow w v [ABD] → TW w → Calls Tryd.prog 12 #[v] w fun e w' => e = .returned (.int .u32 (q : Nat)) ∧ Below w.heap.size w w') := Lib.hid fun v w h hT => by
    rw [hq]; exact ofB_any v _ _ (by rw [flat_one, dABD]) w h hT (by simp only [List.length_append]; omega)
  have HA : Hid (∀ v w, StrRow w v [A] → TW w → Calls Tryd.prog 12 #[v] w fun e w' => e = .returned (.int .u32 (p : Nat)) ∧ Below w.heap.size w w') := Lib.hid fun v w h hT => by
    rw [hp]; exact ofB_any v _ _ (by rw [flat_one, ha]) w h hT (by omega)
  have HR : Hid (∀ w, TW w → Calls Tryd.prog 14 #[.int .u32 (p : Nat), .string BD] w fun e w' => e = .returned (.int .u32 (q : Nat)) ∧ Below w.heap.size w w') := Lib.hid fun w hT => by
    rw [hq, List.append_assoc, Crc.of_append, ← hp]; exact addB_any p (by rw [hp]; exact Crc.of_lt _) BD _ dBD (by simp only [List.length_append]; omega) w hT
  have HK : Hid (∀ w, TW w → Calls Tryd.prog 14 #[.int .u32 (c : Nat), .string A] w fun e w' => e = .returned (.int .u32 (k : Nat)) ∧ Below w.heap.size w w') := Lib.hid fun w hT => by
    rw [hk]; exact addB_any c hc A _ ha.symm (by omega) w hT
  have HM : Hid (∀ w, TW w → Calls Tryd.prog 14 #[.int .u32 (k : Nat), .string B] w fun e w' => e = .returned (.int .u32 (m : Nat)) ∧ Below w.heap.size w w') := Lib.hid fun w hT => by
    rw [hm, Crc.add_append, ← hk]; exact addB_any k (by rw [hk]; exact Crc.add_lt _ _) B _ hb.symm (by omega) w hT
  have HN : Hid (∀ w, TW w → Calls Tryd.prog 14 #[.int .u32 (c : Nat), .string AB] w fun e w' => e = .returned (.int .u32 (m : Nat)) ∧ Below w.heap.size w w') := Lib.hid fun w hT => by
    rw [hm]; exact addB_any c hc AB _ dAB (by simp only [List.length_append]; omega) w hT
  have HC : Hid (∀ w, TW w → Calls Tryd.prog 14 #[.int .u32 (c : Nat), .string ⟨#[]⟩] w fun e w' => e = .returned (.int .u32 (c : Nat)) ∧ Below w.heap.size w w') := Lib.hid fun w hT => by
    have := addB_any c hc ⟨#[]⟩ [] rfl (by decide) w hT
    rwa [Crc.add_nil c hc] at this
  have H1 := Lib.hid hA
  have H2 := Lib.hid hB
  have H3 := Lib.hid hD
  clear hA hB hD lA lB lD ha hb hd na nb nd hAB hABD hBD dAB dABD dBD sAB hq hp hk hm
  go_enter Tryd.func8, Tryd.ntmps8
  go_upto_region 1 with (fail)
  obtain ⟨w0, hw0⟩ : ∃ w0, w0 = w.alloc (.cells #[.string x, .string y, .string z] 35) := ⟨_, rfl⟩
  have b0 : Below w.heap.size w w0 := by rw [hw0]; exact (Below.refl _ _).alloc (Nat.le_refl _) _
  have h0 : w0.heap[w.heap.size]? = some (.cells #[.string x, .string y, .string z] 35 (0, 0)) := by rw [hw0]; exact heap_alloc_last w _
  have l0 : w.heap.size < w0.heap.size := (Array.getElem?_eq_some_iff.1 h0).1
  rw [← hw0]
  have H0 := Lib.hid h0
  clear hw0 h0
  go_upto_region 5 with (first
    | (go_at_call 10; refine (awake4_any w0 (hT.old b0)).mono ?_; rintro e w1 ⟨rfl, b1⟩; have c0 := cell_of ((b1.block _ l0).trans H0.out) 0; have c1 := cell_of ((b1.block _ l0).trans H0.out) 1; have c2 := cell_of ((b1.block _ l0).trans H0.out) 2)
    | (go_at_call 11; ((with_reducible refine (short4_any x 200 200 rfl _).mono ?_); rintro e w2 ⟨rfl, rfl⟩; rw [← H1.out]))
    | (go_at_call 11; ((with_reducible refine (short4_any y 200 200 rfl _).mono ?_); rintro e w2 ⟨rfl, rfl⟩; rw [← H2.out]))
    | (go_at_call 11; ((with_reducible refine (short4_any z 200 200 rfl _).mono ?_); rintro e w2 ⟨rfl, rfl⟩; rw [← H3.out])))
  have bb := below_step b0 (Nat.le_refl _) b1
  have hT1 := hT.old bb
  try simp only [Act.put]
  refine wp_region_tab0 [RT.is (.bool true), RT.is (.bool true), RT.is (.string A), RT.is (.string B), RT.is (.string D), RT.row [A, B, D], RT.is (.int .u32 (q : Nat)), RT.is (.string A), RT.is (.string B), RT.is (.string AB), RT.is (.string D), RT.is (.string ABD), RT.row [ABD], RT.is (.int .u32 (q : Nat)), RT.is (.bool true), RT.is (.bool true), RT.is (.bool true), RT.is (.string A), RT.row [A], RT.is (.int .u32 (p : Nat)), RT.is (.string B), RT.is (.string D), RT.is (.string BD), RT.is (.int .u32 (q : Nat)), RT.is (.string A), RT.is (.string B), RT.is (.string AB), RT.is (.string D), RT.is (.string ABD), RT.row [ABD], RT.is (.int .u32 (q : Nat)), RT.is (.bool true), RT.is (.bool true), RT.is (.bool true), RT.is (.int .u32 c), RT.is (.string A), RT.is (.int .u32 (k : Nat)), RT.is (.string B), RT.is (.int .u32 (m : Nat)), RT.is (.int .u32 c), RT.is (.string A), RT.is (.string B), RT.is (.string AB), RT.is (.int .u32 (m : Nat)), RT.is (.bool true), RT.is (.bool true), RT.is (.bool true), RT.is (.int .u32 c), RT.is (.int .u32 (c : Nat)), RT.is (.int .u32 c), RT.is (.bool true), RT.is (.bool true), RT.is (.bool true)] (by kernel_rfl) (by kernel_rfl) (by kernel_rfl) ⟨?_, ?_, ?_, ?_, ?_, ?_, ?_, ?_, ?_, ?_, ?_, ?_, ?_, ?_, ?_, ?_, ?_, ?_, ?_, ?_, ?_, ?_, ?_, ?_, ?_, ?_, ?_, ?_, ?_, ?_, ?_, ?_, ?_, ?_, ?_, ?_, ?_, ?_, ?_, ?_, ?_, ?_, ?_, ?_, ?_, ?_, ?_, ?_, ?_, ?_, ?_, ?_, ?_, trivial⟩ ?_
  · intro ac w' hF hL hP hU K hK
    have hB : Below _ _ _ := hL
    have e5 : ac.eval (.tmp 5) = .bool true := hF.at 5 (by kernel_rfl)
    exact rop_move _ rfl e5 (wanted_none rfl) (hK _ _ (le8_refl _) rfl)
  · intro ac w' hF hL hP hU K hK
    have hB : Below _ _ _ := hL
    have e19 : ac.eval (.tmp 19) = .bool true := hP 0 (by kernel_rfl)
    exact rop_move _ rfl e19 (wanted_none rfl) (hK _ _ (le8_refl _) rfl)
  · intro ac w' hF hL hP hU K hK
    have hB : Below _ _ _ := hL
    have e6 : ac.eval (.tmp 6) = .string A := hF.at 6 (by kernel_rfl)
    have e20 : ac.eval (.tmp 20) = .bool true := hP 1 (by kernel_rfl)
    exact rop_move _ rfl e6 (wanted_of (j := 1) (b := true) rfl rfl e20) (hK _ _ (le8_refl _) rfl)
  · intro ac w' hF hL hP hU K hK
    have hB : Below _ _ _ := hL
    have e7 : ac.eval (.tmp 7) = .string B := hF.at 7 (by kernel_rfl)
    have e20 : ac.eval (.tmp 20) = .bool true := hP 1 (by kernel_rfl)
    exact rop_move _ rfl e7 (wanted_of (j := 1) (b := true) rfl rfl e20) (hK _ _ (le8_refl _) rfl)
  · intro ac w' hF hL hP hU K hK
    have hB : Below _ _ _ := hL
    have e8 : ac.eval (.tmp 8) = .string D := hF.at 8 (by kernel_rfl)
    have e20 : ac.eval (.tmp 20) = .bool true := hP 1 (by kernel_rfl)
    exact rop_move _ rfl e8 (wanted_of (j := 1) (b := true) rfl rfl e20) (hK _ _ (le8_refl _) rfl)
  · intro ac w' hF hL hP hU K hK
    have hB : Below _ _ _ := hL
    have e21 : ac.eval (.tmp 21) = .string A := hP 2 (by kernel_rfl)
    have e22 : ac.eval (.tmp 22) = .string B := hP 3 (by kernel_rfl)
    have e23 : ac.eval (.tmp 23) = .string D := hP 4 (by kernel_rfl)
    have e20 : ac.eval (.tmp 20) = .bool true := hP 1 (by kernel_rfl)
    refine rop_texts 3 _ rfl [A, B, D] ?_ rfl (by decide) (by decide) (wanted_of (j := 1) (b := true) rfl rfl e20) (fun v w2 hb hr => hK v w2 hb hr)
    simp [e21, e22, e23, List.range, List.range.loop]
  · intro ac w' hF hL hP hU K hK
    have hB : Below _ _ _ := hL
    have e24 : StrRow w' (ac.eval (.tmp 24)) [A, B, D] := hP 5 (by kernel_rfl)
    have e20 : ac.eval (.tmp 20) = .bool true := hP 1 (by kernel_rfl)
    refine rop_call 12 _ _ rfl #[ac.eval (.tmp 24)] (by simp [Act.eval]) (by kernel_rfl) (wanted_of (j := 1) (b := true) rfl rfl e20) ?_
    refine (HP.out _ w' e24 (hT1.old hB)).mono ?_
    rintro e w2 ⟨rfl, hb⟩
    exact ⟨_, rfl, hK _ _ hb rfl⟩
  · intro ac w' hF hL hP hU K hK
    have hB : Below _ _ _ := hL
    have e6 : ac.eval (.tmp 6) = .string A := hF.at 6 (by kernel_rfl)
    have e20 : ac.eval (.tmp 20) = .bool true := hP 1 (by kernel_rfl)
    exact rop_move _ rfl e6 (wanted_of (j := 1) (b := true) rfl rfl e20) (hK _ _ (le8_refl _) rfl)
  · intro ac w' hF hL hP hU K hK
    have hB : Below _ _ _ := hL
    have e7 : ac.eval (.tmp 7) = .string B := hF.at 7 (by kernel_rfl)
    have e20 : ac.eval (.tmp 20) = .bool true := hP 1 (by kernel_rfl)
    exact rop_move _ rfl e7 (wanted_of (j := 1) (b := true) rfl rfl e20) (hK _ _ (le8_refl _) rfl)
  · intro ac w' hF hL hP hU K hK
    have hB : Below _ _ _ := hL
    have e26 : ac.eval (.tmp 26) = .string A := hP 7 (by kernel_rfl)
    have e27 : ac.eval (.tmp 27) = .string B := hP 8 (by kernel_rfl)
    have e20 : ac.eval (.tmp 20) = .bool true := hP 1 (by kernel_rfl)
    exact rop_bin _ _ _ _ _ rfl e26 e27 (guard_str _ _ _ _ _ _ w') (HAB.out w') (wanted_of (j := 1) (b := true) rfl rfl e20) (hK _ _ (le8_refl _) rfl)
  · intro ac w' hF hL hP hU K hK
    have hB : Below _ _ _ := hL
    have e8 : ac.eval (.tmp 8) = .string D := hF.at 8 (by kernel_rfl)
    have e20 : ac.eval (.tmp 20) = .bool true := hP 1 (by kernel_rfl)
    exact rop_move _ rfl e8 (wanted_of (j := 1) (b := true) rfl rfl e20) (hK _ _ (le8_refl _) rfl)
  · intro ac w' hF hL hP hU K hK
    have hB : Below _ _ _ := hL
    have e28 : ac.eval (.tmp 28) = .string AB := hP 9 (by kernel_rfl)
    have e29 : ac.eval (.tmp 29) = .string D := hP 10 (by kernel_rfl)
    have e20 : ac.eval (.tmp 20) = .bool true := hP 1 (by kernel_rfl)
    exact rop_bin _ _ _ _ _ rfl e28 e29 (guard_str _ _ _ _ _ _ w') (HABD.out w') (wanted_of (j := 1) (b := true) rfl rfl e20) (hK _ _ (le8_refl _) rfl)
  · intro ac w' hF hL hP hU K hK
    have hB : Below _ _ _ := hL
    have e30 : ac.eval (.tmp 30) = .string ABD := hP 11 (by kernel_rfl)
    have e20 : ac.eval (.tmp 20) = .bool true := hP 1 (by kernel_rfl)
    refine rop_texts 1 _ rfl [ABD] ?_ rfl (by decide) (by decide) (wanted_of (j := 1) (b := true) rfl rfl e20) (fun v w2 hb hr => hK v w2 hb hr)
    simp [e30, List.range, List.range.loop]
  · intro ac w' hF hL hP hU K hK
    have hB : Below _ _ _ := hL
    have e31 : StrRow w' (ac.eval (.tmp 31)) [ABD] := hP 12 (by kernel_rfl)
    have e20 : ac.eval (.tmp 20) = .bool true := hP 1 (by kernel_rfl)
    refine rop_call 12 _ _ rfl #[ac.eval (.tmp 31)] (by simp [Act.eval]) (by kernel_rfl) (wanted_of (j := 1) (b := true) rfl rfl e20) ?_
    refine (HQ.out _ w' e31 (hT1.old hB)).mono ?_
    rintro e w2 ⟨rfl, hb⟩
    exact ⟨_, rfl, hK _ _ hb rfl⟩
  · intro ac w' hF hL hP hU K hK
    have hB : Below _ _ _ := hL
    have e25 : ac.eval (.tmp 25) = .int .u32 (q : Nat) := hP 6 (by kernel_rfl)
    have e32 : ac.eval (.tmp 32) = .int .u32 (q : Nat) := hP 13 (by kernel_rfl)
    have e20 : ac.eval (.tmp 20) = .bool true := hP 1 (by kernel_rfl)
    exact rop_bin _ _ _ _ _ rfl e25 e32 (guard_int _ _ _ _ _ _ _ w') (eql_u32_t _ _ rfl w') (wanted_of (j := 1) (b := true) rfl rfl e20) (hK _ _ (le8_refl _) rfl)
  · intro ac w' hF hL hP hU K hK
    have hB : Below _ _ _ := hL
    have e20 : ac.eval (.tmp 20) = .bool true := hP 1 (by kernel_rfl)
    have e33 : ac.eval (.tmp 33) = .bool true := hP 14 (by kernel_rfl)
    exact rop_pick _ _ _ rfl true e20 (by simpa using e33) (wanted_none rfl) (hK _ _ (le8_refl _) rfl)
  · intro ac w' hF hL hP hU K hK
    have hB : Below _ _ _ := hL
    have e34 : ac.eval (.tmp 34) = .bool true := hP 15 (by kernel_rfl)
    exact rop_move _ rfl e34 (wanted_none rfl) (hK _ _ (le8_refl _) rfl)
  · intro ac w' hF hL hP hU K hK
    have hB : Below _ _ _ := hL
    have e6 : ac.eval (.tmp 6) = .string A := hF.at 6 (by kernel_rfl)
    have e35 : ac.eval (.tmp 35) = .bool true := hP 16 (by kernel_rfl)
    exact rop_move _ rfl e6 (wanted_of (j := 16) (b := true) rfl rfl e35) (hK _ _ (le8_refl _) rfl)
  · intro ac w' hF hL hP hU K hK
    have hB : Below _ _ _ := hL
    have e36 : ac.eval (.tmp 36) = .string A := hP 17 (by kernel_rfl)
    have e35 : ac.eval (.tmp 35) = .bool true := hP 16 (by kernel_rfl)
    refine rop_texts 1 _ rfl [A] ?_ rfl (by decide) (by decide) (wanted_of (j := 16) (b := true) rfl rfl e35) (fun v w2 hb hr => hK v w2 hb hr)
    simp [e36, List.range, List.range.loop]
  · intro ac w' hF hL hP hU K hK
    have hB : Below _ _ _ := hL
    have e37 : StrRow w' (ac.eval (.tmp 37)) [A] := hP 18 (by kernel_rfl)
    have e35 : ac.eval (.tmp 35) = .bool true := hP 16 (by kernel_rfl)
    refine rop_call 12 _ _ rfl #[ac.eval (.tmp 37)] (by simp [Act.eval]) (by kernel_rfl) (wanted_of (j := 16) (b := true) rfl rfl e35) ?_
    refine (HA.out _ w' e37 (hT1.old hB)).mono ?_
    rintro e w2 ⟨rfl, hb⟩
    exact ⟨_, rfl, hK _ _ hb rfl⟩
  · intro ac w' hF hL hP hU K hK
    have hB : Below _ _ _ := hL
    have e7 : ac.eval (.tmp 7) = .string B := hF.at 7 (by kernel_rfl)
    have e35 : ac.eval (.tmp 35) = .bool true := hP 16 (by kernel_rfl)
    exact rop_move _ rfl e7 (wanted_of (j := 16) (b := true) rfl rfl e35) (hK _ _ (le8_refl _) rfl)
  · intro ac w' hF hL hP hU K hK
    have hB : Below _ _ _ := hL
    have e8 : ac.eval (.tmp 8) = .string D := hF.at 8 (by kernel_rfl)
    have e35 : ac.eval (.tmp 35) = .bool true := hP 16 (by kernel_rfl)
    exact rop_move _ rfl e8 (wanted_of (j := 16) (b := true) rfl rfl e35) (hK _ _ (le8_refl _) rfl)
  · intro ac w' hF hL hP hU K hK
    have hB : Below _ _ _ := hL
    have e39 : ac.eval (.tmp 39) = .string B := hP 20 (by kernel_rfl)
    have e40 : ac.eval (.tmp 40) = .string D := hP 21 (by kernel_rfl)
    have e35 : ac.eval (.tmp 35) = .bool true := hP 16 (by kernel_rfl)
    exact rop_bin _ _ _ _ _ rfl e39 e40 (guard_str _ _ _ _ _ _ w') (HBD.out w') (wanted_of (j := 16) (b := true) rfl rfl e35) (hK _ _ (le8_refl _) rfl)
  · intro ac w' hF hL hP hU K hK
    have hB : Below _ _ _ := hL
    have e38 : ac.eval (.tmp 38) = .int .u32 (p : Nat) := hP 19 (by kernel_rfl)
    have e41 : ac.eval (.tmp 41) = .string BD := hP 22 (by kernel_rfl)
    have e35 : ac.eval (.tmp 35) = .bool true := hP 16 (by kernel_rfl)
    refine rop_call 14 _ _ rfl #[.int .u32 (p : Nat), .string BD] (by simp [e38, e41]) (by kernel_rfl) (wanted_of (j := 16) (b := true) rfl rfl e35) ?_
    refine (HR.out w' (hT1.old hB)).mono ?_
    rintro e w2 ⟨rfl, hb⟩
    exact ⟨_, rfl, hK _ _ hb rfl⟩
  · intro ac w' hF hL hP hU K hK
    have hB : Below _ _ _ := hL
    have e6 : ac.eval (.tmp 6) = .string A := hF.at 6 (by kernel_rfl)
    have e35 : ac.eval (.tmp 35) = .bool true := hP 16 (by kernel_rfl)
    exact rop_move _ rfl e6 (wanted_of (j := 16) (b := true) rfl rfl e35) (hK _ _ (le8_refl _) rfl)
  · intro ac w' hF hL hP hU K hK
    have hB : Below _ _ _ := hL
    have e7 : ac.eval (.tmp 7) = .string B := hF.at 7 (by kernel_rfl)
    have e35 : ac.eval (.tmp 35) = .bool true := hP 16 (by kernel_rfl)
    exact rop_move _ rfl e7 (wanted_of (j := 16) (b := true) rfl rfl e35) (hK _ _ (le8_refl _) rfl)
  · intro ac w' hF hL hP hU K hK
    have hB : Below _ _ _ := hL
    have e43 : ac.eval (.tmp 43) = .string A := hP 24 (by kernel_rfl)
    have e44 : ac.eval (.tmp 44) = .string B := hP 25 (by kernel_rfl)
    have e35 : ac.eval (.tmp 35) = .bool true := hP 16 (by kernel_rfl)
    exact rop_bin _ _ _ _ _ rfl e43 e44 (guard_str _ _ _ _ _ _ w') (HAB.out w') (wanted_of (j := 16) (b := true) rfl rfl e35) (hK _ _ (le8_refl _) rfl)
  · intro ac w' hF hL hP hU K hK
    have hB : Below _ _ _ := hL
    have e8 : ac.eval (.tmp 8) = .string D := hF.at 8 (by kernel_rfl)
    have e35 : ac.eval (.tmp 35) = .bool true := hP 16 (by kernel_rfl)
    exact rop_move _ rfl e8 (wanted_of (j := 16) (b := true) rfl rfl e35) (hK _ _ (le8_refl _) rfl)
  · intro ac w' hF hL hP hU K hK
    have hB : Below _ _ _ := hL
    have e45 : ac.eval (.tmp 45) = .string AB := hP 26 (by kernel_rfl)
    have e46 : ac.eval (.tmp 46) = .string D := hP 27 (by kernel_rfl)
    have e35 : ac.eval (.tmp 35) = .bool true := hP 16 (by kernel_rfl)
    exact rop_bin _ _ _ _ _ rfl e45 e46 (guard_str _ _ _ _ _ _ w') (HABD.out w') (wanted_of (j := 16) (b := true) rfl rfl e35) (hK _ _ (le8_refl _) rfl)
  · intro ac w' hF hL hP hU K hK
    have hB : Below _ _ _ := hL
    have e47 : ac.eval (.tmp 47) = .string ABD := hP 28 (by kernel_rfl)
    have e35 : ac.eval (.tmp 35) = .bool true := hP 16 (by kernel_rfl)
    refine rop_texts 1 _ rfl [ABD] ?_ rfl (by decide) (by decide) (wanted_of (j := 16) (b := true) rfl rfl e35) (fun v w2 hb hr => hK v w2 hb hr)
    simp [e47, List.range, List.range.loop]
  · intro ac w' hF hL hP hU K hK
    have hB : Below _ _ _ := hL
    have e48 : StrRow w' (ac.eval (.tmp 48)) [ABD] := hP 29 (by kernel_rfl)
    have e35 : ac.eval (.tmp 35) = .bool true := hP 16 (by kernel_rfl)
    refine rop_call 12 _ _ rfl #[ac.eval (.tmp 48)] (by simp [Act.eval]) (by kernel_rfl) (wanted_of (j := 16) (b := true) rfl rfl e35) ?_
    refine (HQ.out _ w' e48 (hT1.old hB)).mono ?_
    rintro e w2 ⟨rfl, hb⟩
    exact ⟨_, rfl, hK _ _ hb rfl⟩
  · intro ac w' hF hL hP hU K hK
    have hB : Below _ _ _ := hL
    have e42 : ac.eval (.tmp 42) = .int .u32 (q : Nat) := hP 23 (by kernel_rfl)
    have e49 : ac.eval (.tmp 49) = .int .u32 (q : Nat) := hP 30 (by kernel_rfl)
    have e35 : ac.eval (.tmp 35) = .bool true := hP 16 (by kernel_rfl)
    exact rop_bin _ _ _ _ _ rfl e42 e49 (guard_int _ _ _ _ _ _ _ w') (eql_u32_t _ _ rfl w') (wanted_of (j := 16) (b := true) rfl rfl e35) (hK _ _ (le8_refl _) rfl)
  · intro ac w' hF hL hP hU K hK
    have hB : Below _ _ _ := hL
    have e35 : ac.eval (.tmp 35) = .bool true := hP 16 (by kernel_rfl)
    have e50 : ac.eval (.tmp 50) = .bool true := hP 31 (by kernel_rfl)
    exact rop_pick _ _ _ rfl true e35 (by simpa using e50) (wanted_none rfl) (hK _ _ (le8_refl _) rfl)
  · intro ac w' hF hL hP hU K hK
    have hB : Below _ _ _ := hL
    have e51 : ac.eval (.tmp 51) = .bool true := hP 32 (by kernel_rfl)
    exact rop_move _ rfl e51 (wanted_none rfl) (hK _ _ (le8_refl _) rfl)
  · intro ac w' hF hL hP hU K hK
    have hB : Below _ _ _ := hL
    have e1 : ac.eval (.tmp 1) = .int .u32 c := hF.at 1 (by kernel_rfl)
    have e52 : ac.eval (.tmp 52) = .bool true := hP 33 (by kernel_rfl)
    exact rop_move _ rfl e1 (wanted_of (j := 33) (b := true) rfl rfl e52) (hK _ _ (le8_refl _) rfl)
  · intro ac w' hF hL hP hU K hK
    have hB : Below _ _ _ := hL
    have e6 : ac.eval (.tmp 6) = .string A := hF.at 6 (by kernel_rfl)
    have e52 : ac.eval (.tmp 52) = .bool true := hP 33 (by kernel_rfl)
    exact rop_move _ rfl e6 (wanted_of (j := 33) (b := true) rfl rfl e52) (hK _ _ (le8_refl _) rfl)
  · intro ac w' hF hL hP hU K hK
    have hB : Below _ _ _ := hL
    have e53 : ac.eval (.tmp 53) = .int .u32 c := hP 34 (by kernel_rfl)
    have e54 : ac.eval (.tmp 54) = .string A := hP 35 (by kernel_rfl)
    have e52 : ac.eval (.tmp 52) = .bool true := hP 33 (by kernel_rfl)
    refine rop_call 14 _ _ rfl #[.int .u32 c, .string A] (by simp [e53, e54]) (by kernel_rfl) (wanted_of (j := 33) (b := true) rfl rfl e52) ?_
    refine (HK.out w' (hT1.old hB)).mono ?_
    rintro e w2 ⟨rfl, hb⟩
    exact ⟨_, rfl, hK _ _ hb rfl⟩
  · intro ac w' hF hL hP hU K hK
    have hB : Below _ _ _ := hL
    have e7 : ac.eval (.tmp 7) = .string B := hF.at 7 (by kernel_rfl)
    have e52 : ac.eval (.tmp 52) = .bool true := hP 33 (by kernel_rfl)
    exact rop_move _ rfl e7 (wanted_of (j := 33) (b := true) rfl rfl e52) (hK _ _ (le8_refl _) rfl)
  · intro ac w' hF hL hP hU K hK
    have hB : Below _ _ _ := hL
    have e55 : ac.eval (.tmp 55) = .int .u32 (k : Nat) := hP 36 (by kernel_rfl)
    have e56 : ac.eval (.tmp 56) = .string B := hP 37 (by kernel_rfl)
    have e52 : ac.eval (.tmp 52) = .bool true := hP 33 (by kernel_rfl)
    refine rop_call 14 _ _ rfl #[.int .u32 (k : Nat), .string B] (by simp [e55, e56]) (by kernel_rfl) (wanted_of (j := 33) (b := true) rfl rfl e52) ?_
    refine (HM.out w' (hT1.old hB)).mono ?_
    rintro e w2 ⟨rfl, hb⟩
    exact ⟨_, rfl, hK _ _ hb rfl⟩
  · intro ac w' hF hL hP hU K hK
    have hB : Below _ _ _ := hL
    have e1 : ac.eval (.tmp 1) = .int .u32 c := hF.at 1 (by kernel_rfl)
    have e52 : ac.eval (.tmp 52) = .bool true := hP 33 (by kernel_rfl)
    exact rop_move _ rfl e1 (wanted_of (j := 33) (b := true) rfl rfl e52) (hK _ _ (le8_refl _) rfl)
  · intro ac w' hF hL hP hU K hK
    have hB : Below _ _ _ := hL
    have e6 : ac.eval (.tmp 6) = .string A := hF.at 6 (by kernel_rfl)
    have e52 : ac.eval (.tmp 52) = .bool true := hP 33 (by kernel_rfl)
    exact rop_move _ rfl e6 (wanted_of (j := 33) (b := true) rfl rfl e52) (hK _ _ (le8_refl _) rfl)
  · intro ac w' hF hL hP hU K hK
    have hB : Below _ _ _ := hL
    have e7 : ac.eval (.tmp 7) = .string B := hF.at 7 (by kernel_rfl)
    have e52 : ac.eval (.tmp 52) = .bool true := hP 33 (by kernel_rfl)
    exact rop_move _ rfl e7 (wanted_of (j := 33) (b := true) rfl rfl e52) (hK _ _ (le8_refl _) rfl)
  · intro ac w' hF hL hP hU K hK
    have hB : Below _ _ _ := hL
    have e59 : ac.eval (.tmp 59) = .string A := hP 40 (by kernel_rfl)
    have e60 : ac.eval (.tmp 60) = .string B := hP 41 (by kernel_rfl)
    have e52 : ac.eval (.tmp 52) = .bool true := hP 33 (by kernel_rfl)
    exact rop_bin _ _ _ _ _ rfl e59 e60 (guard_str _ _ _ _ _ _ w') (HAB.out w') (wanted_of (j := 33) (b := true) rfl rfl e52) (hK _ _ (le8_refl _) rfl)
  · intro ac w' hF hL hP hU K hK
    have hB : Below _ _ _ := hL
    have e58 : ac.eval (.tmp 58) = .int .u32 c := hP 39 (by kernel_rfl)
    have e61 : ac.eval (.tmp 61) = .string AB := hP 42 (by kernel_rfl)
    have e52 : ac.eval (.tmp 52) = .bool true := hP 33 (by kernel_rfl)
    refine rop_call 14 _ _ rfl #[.int .u32 c, .string AB] (by simp [e58, e61]) (by kernel_rfl) (wanted_of (j := 33) (b := true) rfl rfl e52) ?_
    refine (HN.out w' (hT1.old hB)).mono ?_
    rintro e w2 ⟨rfl, hb⟩
    exact ⟨_, rfl, hK _ _ hb rfl⟩
  · intro ac w' hF hL hP hU K hK
    have hB : Below _ _ _ := hL
    have e57 : ac.eval (.tmp 57) = .int .u32 (m : Nat) := hP 38 (by kernel_rfl)
    have e62 : ac.eval (.tmp 62) = .int .u32 (m : Nat) := hP 43 (by kernel_rfl)
    have e52 : ac.eval (.tmp 52) = .bool true := hP 33 (by kernel_rfl)
    exact rop_bin _ _ _ _ _ rfl e57 e62 (guard_int _ _ _ _ _ _ _ w') (eql_u32_t _ _ rfl w') (wanted_of (j := 33) (b := true) rfl rfl e52) (hK _ _ (le8_refl _) rfl)
  · intro ac w' hF hL hP hU K hK
    have hB : Below _ _ _ := hL
    have e52 : ac.eval (.tmp 52) = .bool true := hP 33 (by kernel_rfl)
    have e63 : ac.eval (.tmp 63) = .bool true := hP 44 (by kernel_rfl)
    exact rop_pick _ _ _ rfl true e52 (by simpa using e63) (wanted_none rfl) (hK _ _ (le8_refl _) rfl)
  · intro ac w' hF hL hP hU K hK
    have hB : Below _ _ _ := hL
    have e64 : ac.eval (.tmp 64) = .bool true := hP 45 (by kernel_rfl)
    exact rop_move _ rfl e64 (wanted_none rfl) (hK _ _ (le8_refl _) rfl)
  · intro ac w' hF hL hP hU K hK
    have hB : Below _ _ _ := hL
    have e1 : ac.eval (.tmp 1) = .int .u32 c := hF.at 1 (by kernel_rfl)
    have e65 : ac.eval (.tmp 65) = .bool true := hP 46 (by kernel_rfl)
    exact rop_move _ rfl e1 (wanted_of (j := 46) (b := true) rfl rfl e65) (hK _ _ (le8_refl _) rfl)
  · intro ac w' hF hL hP hU K hK
    have hB : Below _ _ _ := hL
    have e66 : ac.eval (.tmp 66) = .int .u32 c := hP 47 (by kernel_rfl)
    have e65 : ac.eval (.tmp 65) = .bool true := hP 46 (by kernel_rfl)
    refine rop_call 14 _ _ rfl #[.int .u32 c, .string { data := #[] }] (by simp [e66, eval_const]) (by kernel_rfl) (wanted_of (j := 46) (b := true) rfl rfl e65) ?_
    refine (HC.out w' (hT1.old hB)).mono ?_
    rintro e w2 ⟨rfl, hb⟩
    exact ⟨_, rfl, hK _ _ hb rfl⟩
  · intro ac w' hF hL hP hU K hK
    have hB : Below _ _ _ := hL
    have e1 : ac.eval (.tmp 1) = .int .u32 c := hF.at 1 (by kernel_rfl)
    have e65 : ac.eval (.tmp 65) = .bool true := hP 46 (by kernel_rfl)
    exact rop_move _ rfl e1 (wanted_of (j := 46) (b := true) rfl rfl e65) (hK _ _ (le8_refl _) rfl)
  · intro ac w' hF hL hP hU K hK
    have hB : Below _ _ _ := hL
    have e67 : ac.eval (.tmp 67) = .int .u32 (c : Nat) := hP 48 (by kernel_rfl)
    have e68 : ac.eval (.tmp 68) = .int .u32 c := hP 49 (by kernel_rfl)
    have e65 : ac.eval (.tmp 65) = .bool true := hP 46 (by kernel_rfl)
    exact rop_bin _ _ _ _ _ rfl e67 e68 (guard_int _ _ _ _ _ _ _ w') (eql_u32_t _ _ rfl w') (wanted_of (j := 46) (b := true) rfl rfl e65) (hK _ _ (le8_refl _) rfl)
  · intro ac w' hF hL hP hU K hK
    have hB : Below _ _ _ := hL
    have e65 : ac.eval (.tmp 65) = .bool true := hP 46 (by kernel_rfl)
    have e69 : ac.eval (.tmp 69) = .bool true := hP 50 (by kernel_rfl)
    exact rop_pick _ _ _ rfl true e65 (by simpa using e69) (wanted_none rfl) (hK _ _ (le8_refl _) rfl)
  · intro ac w' hF hL hP hU K hK
    have hB : Below _ _ _ := hL
    have e70 : ac.eval (.tmp 70) = .bool true := hP 51 (by kernel_rfl)
    exact rop_assign _ rfl e70 (wanted_none rfl) (hK _ _ (le8_refl _) rfl)
  · intro ac w' hF hB hT
    have e4 : ac.eval (.tmp 4) = .bool true := hT 52 (by decide)
    rw [hF.lit 71 rfl]
    simp only [List.range, List.range.loop, List.map_cons, List.map_nil, e4]
    go_wp2
    go_ret
    exact ⟨rfl, below_step bb (Nat.le_refl _) hB⟩

set_option maxRecDepth 100000 in
theorem lifted (os : Os) (started : os.Started) (H : Type) (enc : TypeId × Value → H) :
    ReturnsInHanded {} Tryd.checked os 8 .any (fun w args => (Rows.checkPartsSpec.pre enc Tryd.prog Tryd.f8 [] false w args ∧ laidMetH Tryd.prog [("scrinium/check.fourSteps", Rows.laid_scrinium_check_fourSteps)] w) ∧ sizedMet enc Tryd.prog Tryd.f8 (OpenSpec.ofChange Rows.checkPartsSpec) false w args)
      (Rows.checkPartsSpec.post enc Tryd.prog Tryd.f8 false true false false) := by
  refine returnsInHanded_of_change_and (C := Tryd.checked) (X := fun w _ => laidMetH Tryd.prog [("scrinium/check.fourSteps", Rows.laid_scrinium_check_fourSteps)] w) (fun _ _ _ hh h => h.of_heap hh) lawOwn started (by kernel_rfl) Tryd.func8
    (ChangeSpec.witness_shaped (enc := enc) (C := Tryd.checked) (os := os) (X := fun w _ => laidMetH Tryd.prog [("scrinium/check.fourSteps", Rows.laid_scrinium_check_fourSteps)] w) false (World.doorLaid Tryd.prog 400 os) #[.agg #[.string .empty, .string .empty, .string .empty], .int .u32 0] 8 rfl (World.shaped_of_RefB (by kernel_rfl) (by kernel_rfl)) (by kernel_rfl) (by kernel_rfl) (by kernel_rfl) (door_met os _)) ?_
  intro W base args ds gs before hval0 hW _ _ hL _
  have hval : ∀ (j : Nat) t v, Tryd.f8.params[j]? = some t → args[j]? = some v → Value.okWide Tryd.prog W .any base t v := hval0
  have hW' := hW
  obtain ⟨p, q, hA0, hV, rfl, hfz, hnd⟩ := hW
  have hA : DataW.TrodAll enc Tryd.prog W 0 (fun _ => true) true Tryd.f8.params.toList args.toList ds p := hA0
  rw [Tryd.params8] at hA hval
  obtain ⟨v0, vs0, d0, ds0, p0, q0, hargs, rfl, rfl, h0, r0⟩ := trodAll_cons hA
  obtain ⟨v1, vs1, d1, ds1, p1, q1, rfl, rfl, rfl, h1, r1⟩ := trodAll_cons r0
  obtain ⟨rfl, rfl, rfl⟩ := trodAll_nil r1
  obtain rfl : args = #[v0, v1] := by cases args; simp_all
  obtain ⟨rfl, rfl⟩ := trodVars_none hV
  have hKT := KT_of_laid hL
  obtain ⟨x0, y0, z0, rfl, w0, u0, t0⟩ := open_3str (hval 0 35 v0 rfl rfl) h0
  obtain ⟨a1, rfl, rfl, rfl, w1⟩ := open_int Tryd.underlying22 (hval 1 22 v1 rfl rfl) h1
  obtain ⟨n1, rfl, l1⟩ := u32_nat w1
  clear hA0 hval0
  refine (walk (w := W) hKT x0 w0 y0 u0 z0 t0 n1 l1).mono fun e W' ⟨he, bel⟩ => ?_
  subst he
  exact ⟨_, rfl, law_post rfl rfl (by kernel_rfl) hW' rfl bel⟩

theorem row_holds : Rows.CheckPartsSaid :=
  OpenClaim.holds_of_wide 8 Tryd.f8 rfl rfl rfl rfl rfl rfl rfl ⟨rfl, rfl, rfl, rfl, rfl⟩ rfl rfl rfl rfl rfl (by kernel_rfl) Tryd.func8 (by kernel_rfl)
    (of_decide_eq_true (by kernel_rfl)) (by unfold Func.isWrapper; first | (rw [if_pos (by decide +kernel)]; kernel_rfl) | (rw [if_neg (by decide +kernel)]; exact ⟨rfl, rfl⟩))
    (fun os started H enc _ => lifted os started H enc)

theorem holds : Rows.CheckPartsCardSaid :=
  Claim7.holds_tied_plain_at .later [] [.data] true Rows.checkPartsCard.stood.harness false
    row_holds (fun _ h => by cases h) (by kernel_rfl) (fun _ h => by cases h) checkParts_row_tie rfl ⟨rfl, rfl⟩ (by kernel_rfl) rfl
    (fun f fn hf hfn => by
      obtain rfl : f = 8 := Option.some.inj ((show Tryd.prog.funcNamed "scrinium/scriniumlaw04.CheckParts" = some 8 by kernel_rfl).symm.trans hf) |>.symm
      obtain rfl : fn = Tryd.f8 := (Option.some.inj (Tryd.func8.symm.trans hfn)).symm
      exact ⟨by kernel_rfl, fun j t ht => by
        rw [Tryd.params8] at ht
        have hm : t ∈ [35, 22] := by simpa using Array.mem_of_getElem? ht
        have hall : ([35, 22].all fun u => !Tryd.prog.wantsStandIn u) = true := by kernel_rfl
        exact (show Tryd.prog.wantsStandIn t = false by simpa using List.all_eq_true.1 hall t hm)⟩)
    (by kernel_rfl)
end Go.Proofs.YthohdkpgckandaaDoor.checkParts

theorem Go.Proofs.YthohdkpgckandaaDoor.checkParts_holds : Go.Proofs.YthohdkpgckandaaDoor.Rows.CheckPartsCardSaid := Go.Proofs.YthohdkpgckandaaDoor.checkParts.holds
#print axioms Go.Proofs.YthohdkpgckandaaDoor.checkParts_holds
