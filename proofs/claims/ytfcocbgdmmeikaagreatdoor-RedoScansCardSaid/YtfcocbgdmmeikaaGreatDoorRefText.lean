/-
  The document's own look at a line (scriniumref07): text.
-/
import Derived.Test.YtfcocbgdmmeikaaGreatDoorRefLine
import Derived.Test.YtfcocbgdmmeikaaGreatDoorMRedA
import Derived.Test.YtfcocbgdmmeikaaGreatDoorMRedD
import Derived.Test.YtfcocbgdmmeikaaGreatDoorMGen
import Derived.Test.YtfcocbgdmmeikaaGreatDoorMOct
import Derived.Test.YtfcocbgdmmeikaaGreatDoorMDisk
import Derived.Test.YtfcocbgdmmeikaaGreatDoorMCrc
namespace Go.Proofs.YtfcocbgdmmeikaaGreatDoor
open Go.RowKit

theorem cut3_str (T : ByteArray) (h : 3 ≤ T.size) (w : World) : (Instr.sliceAt 9 (.string T) none (some (.int .i64 3)) none).run Tryz.prog w = .ok (.string (T.extract 0 3)) w := by
  have h' : ¬ (T.size : Int) < 3 := by omega
  go_simp
theorem neq_str_t (a b : ByteArray) (h : a ≠ b) (w : World) : (binOp .neq 9 (.string a) (.string b)).run Tryz.prog w = .ok (.bool true) w := by
  have hl : (a.toList == b.toList) = false := by
    have : a.toList ≠ b.toList := fun e => h (by rw [Lib.toList_data, Lib.toList_data] at e; exact ByteArray.ext (Array.toList_inj.1 e))
    simpa using this
  go_simp
theorem neq_str_f (a b : ByteArray) (h : a = b) (w : World) : (binOp .neq 9 (.string a) (.string b)).run Tryz.prog w = .ok (.bool false) w := by
  subst h
  go_simp
def mkB (c : UInt8) : ByteArray := ⟨#[83, 67, c]⟩
/-- What textOf says, by the text that the line holds. -/
theorem textOf_T (X : ByteArray) (c : UInt8) (T : ByteArray) (hT : T = copenB (openS X)) : (T.size < 3 → textOf X [83, 67, c] = none) ∧ (3 ≤ T.size → T.extract 0 3 ≠ mkB c → textOf X [83, 67, c] = none) ∧ (3 ≤ T.size → T.extract 0 3 = mkB c → textOf X [83, 67, c] = some (T.extract 3 T.size).data.toList) := by
  have hx : ∀ a b, (T.extract a b).data.toList = (T.data.toList.drop a).take (b - a) := fun a b => by
    rw [ByteArray.data_extract, Array.toList_extract]
  unfold textOf
  rw [← hT]
  refine ⟨fun h => ?_, fun h h2 => ?_, fun h h2 => ?_⟩
  · rw [if_neg]
    intro e
    have := congrArg List.length e
    rw [List.length_take, ← Lib.size_eq] at this
    simp at this
    omega
  · rw [if_neg]
    intro e
    apply h2
    apply ByteArray.ext
    apply Array.toList_inj.1
    rw [hx]
    simpa [mkB] using e
  · have e : T.data.toList.take 3 = [83, 67, c] := by
      have := congrArg (fun z : ByteArray => z.data.toList) h2
      rw [hx] at this
      simpa [mkB] using this
    rw [if_pos (by simpa using e), hx, List.take_of_length_le (by rw [List.length_drop, ← Lib.size_eq]; omega)]
    rfl
set_option maxHeartbeats 3200000 in
set_option maxRecDepth 100000 in
theorem refText7_any (X : ByteArray) (c : UInt8) (w : World) (hX : X.size ≤ 1000000) :
    Calls Tryz.prog 41 #[.string X, .string (mkB c)] w fun e w' => ∃ q S, e = .returned (.pointer (some ⟨q, 0, none⟩)) ∧ RScn q S (textOf X [83, 67, c]) w' ∧ S.size ≤ 1000000 ∧ w.heap.size ≤ q ∧ Below w.heap.size w w' := by
  obtain ⟨T, hT⟩ : ∃ T, T = copenB (openS X) := ⟨_, rfl⟩
  obtain ⟨M, hM⟩ : ∃ M, M = mkB c := ⟨_, rfl⟩
  obtain ⟨hr1, hr2, hr3⟩ := textOf_T X c T hT
  have ho := refOpen_any X w hX
  have hle := openS_le X
  have hop := fun u => ropen_any (openS X) u (by omega)
  have hTs : T.size ≤ 1000000 := by
    rw [hT]
    unfold copenB
    split
    · rw [ByteArray.size_extract]; omega
    · exact (by decide : (⟨#[]⟩ : ByteArray).size ≤ 1000000)
  have hseal : sealed (openS X) = false → T.size = 0 := fun h => by rw [hT]; unfold copenB; rw [h]; rfl
  rw [← hT] at hop
  rw [← hM] at hr2 hr3 ⊢
  generalize openS X = O at *
  generalize textOf X [83, 67, c] = st at *
  have HO := Lib.hid ho
  have HOP := Lib.hid hop
  have HR1 := Lib.hid hr1
  have HR2 := Lib.hid hr2
  have HR3 := Lib.hid hr3
  have HS := Lib.hid hseal
  clear hT hM ho hop hr1 hr2 hr3 hseal hle
  have none_ : ∀ (u : World), RScn u.heap.size ⟨#[]⟩ none (u.alloc (.cells #[.string ⟨#[]⟩, .int .i64 0, .bool true] 84)) := fun u => ⟨0, true, Nat.zero_le _, heap_alloc_last u _, rfl⟩
  obtain ⟨bs, hbs⟩ : ∃ bs, bs = sealed O := ⟨_, rfl⟩
  rw [← hbs] at HOP HS
  clear hbs
  cases bs
  · have hE : st = none := HR1.out (by have := HS.out rfl; omega)
    have HE := Lib.hid hE
    clear hE
    go_enter Tryz.func41, Tryz.ntmps41
    go_upto_region 3 with (first
      | (go_at_call 76; refine HO.out.mono ?_; rintro e w1 ⟨rfl, b1⟩)
      | (go_at_call 77; refine (HOP.out _).mono ?_; rintro e w2 ⟨rfl, b2⟩))
    have bw := below_step b1 (Nat.le_refl _) b2

    try simp only [Act.put]
    refine wp_region_tab0 [RT.is (.bool false), RT.is (.bool true), RT.is (.bool true), RT.any, RT.any, RT.any, RT.is (.bool true), RT.is (.bool true), RT.any, RT.any, RT.any, RT.any, RT.is (.bool true)] (by kernel_rfl) (by kernel_rfl) (by kernel_rfl) ⟨?_, ?_, ?_, ?_, ?_, ?_, ?_, ?_, ?_, ?_, ?_, ?_, ?_, trivial⟩ ?_
    · intro ac w' hF hL hP hU K hK
      have hB : Below _ _ _ := hL
      have e8 : ac.eval (.tmp 8) = .bool false := hF.at 8 (by kernel_rfl)
      exact rop_move _ rfl e8 (wanted_none rfl) (hK _ _ (le8_refl _) rfl)
    · intro ac w' hF hL hP hU K hK
      have hB : Below _ _ _ := hL
      have e19 : ac.eval (.tmp 19) = .bool false := hP 0 (by kernel_rfl)
      exact rop_not _ _ rfl false e19 (wanted_none rfl) (hK _ _ (le8_refl _) rfl)
    · intro ac w' hF hL hP hU K hK
      have hB : Below _ _ _ := hL
      have e20 : ac.eval (.tmp 20) = .bool true := hP 1 (by kernel_rfl)
      exact rop_move _ rfl e20 (wanted_none rfl) (hK _ _ (le8_refl _) rfl)
    · intro ac w' hF hL hP hU K hK
      have hB : Below _ _ _ := hL
      have e21 : ac.eval (.tmp 21) = .bool true := hP 2 (by kernel_rfl)
      exact rop_offG (j := 2) (b := false) rfl rfl e21 (by decide) (hK _ _ (le8_refl _) trivial)
    · intro ac w' hF hL hP hU K hK
      have hB : Below _ _ _ := hL
      have e21 : ac.eval (.tmp 21) = .bool true := hP 2 (by kernel_rfl)
      exact rop_offG (j := 2) (b := false) rfl rfl e21 (by decide) (hK _ _ (le8_refl _) trivial)
    · intro ac w' hF hL hP hU K hK
      have hB : Below _ _ _ := hL
      have e21 : ac.eval (.tmp 21) = .bool true := hP 2 (by kernel_rfl)
      exact rop_offG (j := 2) (b := false) rfl rfl e21 (by decide) (hK _ _ (le8_refl _) trivial)
    · intro ac w' hF hL hP hU K hK
      have hB : Below _ _ _ := hL
      have e21 : ac.eval (.tmp 21) = .bool true := hP 2 (by kernel_rfl)
      exact rop_pick _ _ _ rfl true e21 (by rfl) (wanted_none rfl) (hK _ _ (le8_refl _) rfl)
    · intro ac w' hF hL hP hU K hK
      have hB : Below _ _ _ := hL
      have e25 : ac.eval (.tmp 25) = .bool true := hP 6 (by kernel_rfl)
      exact rop_move _ rfl e25 (wanted_none rfl) (hK _ _ (le8_refl _) rfl)
    · intro ac w' hF hL hP hU K hK
      have hB : Below _ _ _ := hL
      have e26 : ac.eval (.tmp 26) = .bool true := hP 7 (by kernel_rfl)
      exact rop_offG (j := 7) (b := false) rfl rfl e26 (by decide) (hK _ _ (le8_refl _) trivial)
    · intro ac w' hF hL hP hU K hK
      have hB : Below _ _ _ := hL
      have e26 : ac.eval (.tmp 26) = .bool true := hP 7 (by kernel_rfl)
      exact rop_offG (j := 7) (b := false) rfl rfl e26 (by decide) (hK _ _ (le8_refl _) trivial)
    · intro ac w' hF hL hP hU K hK
      have hB : Below _ _ _ := hL
      have e26 : ac.eval (.tmp 26) = .bool true := hP 7 (by kernel_rfl)
      exact rop_offG (j := 7) (b := false) rfl rfl e26 (by decide) (hK _ _ (le8_refl _) trivial)
    · intro ac w' hF hL hP hU K hK
      have hB : Below _ _ _ := hL
      have e26 : ac.eval (.tmp 26) = .bool true := hP 7 (by kernel_rfl)
      exact rop_offG (j := 7) (b := false) rfl rfl e26 (by decide) (hK _ _ (le8_refl _) trivial)
    · intro ac w' hF hL hP hU K hK
      have hB : Below _ _ _ := hL
      have e26 : ac.eval (.tmp 26) = .bool true := hP 7 (by kernel_rfl)
      exact rop_pick _ _ _ rfl true e26 (by rfl) (wanted_none rfl) (hK _ _ (le8_refl _) rfl)
    · intro ac w' hF hB hT
      have e31 : ac.eval (.tmp 31) = .bool true := hT 12 (by decide)
      rw [hF.setsG [19, 20, 21, 22, 23, 24, 25, 26, 27, 28, 29, 30, 31] (by kernel_rfl)]
      simp only [List.foldl_cons, List.foldl_nil, List.setIfInBounds_toArray, List.set_cons_succ, List.set_cons_zero, e31]
      generalize ac.eval (.tmp 19) = u19
      generalize ac.eval (.tmp 20) = u20
      generalize ac.eval (.tmp 21) = u21
      generalize ac.eval (.tmp 22) = u22
      generalize ac.eval (.tmp 23) = u23
      generalize ac.eval (.tmp 24) = u24
      generalize ac.eval (.tmp 25) = u25
      generalize ac.eval (.tmp 26) = u26
      generalize ac.eval (.tmp 27) = u27
      generalize ac.eval (.tmp 28) = u28
      generalize ac.eval (.tmp 29) = u29
      generalize ac.eval (.tmp 30) = u30
      clear e31 hT hF ac
      have bw3 := below_step bw (Nat.le_refl _) hB
      go_wp2
      go_ret
      first
        | exact ⟨_, _, rfl, by rw [HE.out]; exact none_ _, by decide, bw3.size, bw3.alloc bw3.size _⟩
        | exact ⟨⟨_, by rw [HE.out]; exact none_ _, by decide⟩, bw3.size, bw3.alloc bw3.size _⟩
  · by_cases h3 : T.size < 3
    · have hE : st = none := HR1.out h3
      have HE := Lib.hid hE
      clear hE
      go_enter Tryz.func41, Tryz.ntmps41
      go_upto_region 3 with (first
        | (go_at_call 76; refine HO.out.mono ?_; rintro e w1 ⟨rfl, b1⟩)
        | (go_at_call 77; refine (HOP.out _).mono ?_; rintro e w2 ⟨rfl, b2⟩))
      have bw := below_step b1 (Nat.le_refl _) b2

      try simp only [Act.put]
      refine wp_region_tab0 [RT.is (.bool true), RT.is (.bool false), RT.is (.bool false), RT.is (.string T), RT.is (.int .i64 (T.size : Int)), RT.is (.bool true), RT.is (.bool true), RT.is (.bool true), RT.any, RT.any, RT.any, RT.any, RT.is (.bool true)] (by kernel_rfl) (by kernel_rfl) (by kernel_rfl) ⟨?_, ?_, ?_, ?_, ?_, ?_, ?_, ?_, ?_, ?_, ?_, ?_, ?_, trivial⟩ ?_
      · intro ac w' hF hL hP hU K hK
        have hB : Below _ _ _ := hL
        have e8 : ac.eval (.tmp 8) = .bool true := hF.at 8 (by kernel_rfl)
        exact rop_move _ rfl e8 (wanted_none rfl) (hK _ _ (le8_refl _) rfl)
      · intro ac w' hF hL hP hU K hK
        have hB : Below _ _ _ := hL
        have e19 : ac.eval (.tmp 19) = .bool true := hP 0 (by kernel_rfl)
        exact rop_not _ _ rfl true e19 (wanted_none rfl) (hK _ _ (le8_refl _) rfl)
      · intro ac w' hF hL hP hU K hK
        have hB : Below _ _ _ := hL
        have e20 : ac.eval (.tmp 20) = .bool false := hP 1 (by kernel_rfl)
        exact rop_move _ rfl e20 (wanted_none rfl) (hK _ _ (le8_refl _) rfl)
      · intro ac w' hF hL hP hU K hK
        have hB : Below _ _ _ := hL
        have e7 : ac.eval (.tmp 7) = .string T := hF.at 7 (by kernel_rfl)
        have e21 : ac.eval (.tmp 21) = .bool false := hP 2 (by kernel_rfl)
        exact rop_move _ rfl e7 (wanted_of (j := 2) (b := false) rfl rfl e21) (hK _ _ (le8_refl _) rfl)
      · intro ac w' hF hL hP hU K hK
        have hB : Below _ _ _ := hL
        have e22 : ac.eval (.tmp 22) = .string T := hP 3 (by kernel_rfl)
        have e21 : ac.eval (.tmp 21) = .bool false := hP 2 (by kernel_rfl)
        exact rop_len_str _ rfl _ e22 (wanted_of (j := 2) (b := false) rfl rfl e21) (hK _ _ (le8_refl _) rfl)
      · intro ac w' hF hL hP hU K hK
        have hB : Below _ _ _ := hL
        have e23 : ac.eval (.tmp 23) = .int .i64 (T.size : Int) := hP 4 (by kernel_rfl)
        have e21 : ac.eval (.tmp 21) = .bool false := hP 2 (by kernel_rfl)
        exact rop_bin _ _ _ _ _ rfl e23 rfl (guard_int _ _ _ _ _ _ _ w') (lss_iG _ _ _ (decide_eq_true (by omega)) w') (wanted_of (j := 2) (b := false) rfl rfl e21) (hK _ _ (le8_refl _) rfl)
      · intro ac w' hF hL hP hU K hK
        have hB : Below _ _ _ := hL
        have e21 : ac.eval (.tmp 21) = .bool false := hP 2 (by kernel_rfl)
        have e24 : ac.eval (.tmp 24) = .bool true := hP 5 (by kernel_rfl)
        exact rop_pick _ _ _ rfl false e21 (by simpa using e24) (wanted_none rfl) (hK _ _ (le8_refl _) rfl)
      · intro ac w' hF hL hP hU K hK
        have hB : Below _ _ _ := hL
        have e25 : ac.eval (.tmp 25) = .bool true := hP 6 (by kernel_rfl)
        exact rop_move _ rfl e25 (wanted_none rfl) (hK _ _ (le8_refl _) rfl)
      · intro ac w' hF hL hP hU K hK
        have hB : Below _ _ _ := hL
        have e26 : ac.eval (.tmp 26) = .bool true := hP 7 (by kernel_rfl)
        exact rop_offG (j := 7) (b := false) rfl rfl e26 (by decide) (hK _ _ (le8_refl _) trivial)
      · intro ac w' hF hL hP hU K hK
        have hB : Below _ _ _ := hL
        have e26 : ac.eval (.tmp 26) = .bool true := hP 7 (by kernel_rfl)
        exact rop_offG (j := 7) (b := false) rfl rfl e26 (by decide) (hK _ _ (le8_refl _) trivial)
      · intro ac w' hF hL hP hU K hK
        have hB : Below _ _ _ := hL
        have e26 : ac.eval (.tmp 26) = .bool true := hP 7 (by kernel_rfl)
        exact rop_offG (j := 7) (b := false) rfl rfl e26 (by decide) (hK _ _ (le8_refl _) trivial)
      · intro ac w' hF hL hP hU K hK
        have hB : Below _ _ _ := hL
        have e26 : ac.eval (.tmp 26) = .bool true := hP 7 (by kernel_rfl)
        exact rop_offG (j := 7) (b := false) rfl rfl e26 (by decide) (hK _ _ (le8_refl _) trivial)
      · intro ac w' hF hL hP hU K hK
        have hB : Below _ _ _ := hL
        have e26 : ac.eval (.tmp 26) = .bool true := hP 7 (by kernel_rfl)
        exact rop_pick _ _ _ rfl true e26 (by rfl) (wanted_none rfl) (hK _ _ (le8_refl _) rfl)
      · intro ac w' hF hB hT
        have e31 : ac.eval (.tmp 31) = .bool true := hT 12 (by decide)
        rw [hF.setsG [19, 20, 21, 22, 23, 24, 25, 26, 27, 28, 29, 30, 31] (by kernel_rfl)]
        simp only [List.foldl_cons, List.foldl_nil, List.setIfInBounds_toArray, List.set_cons_succ, List.set_cons_zero, e31]
        generalize ac.eval (.tmp 19) = u19
        generalize ac.eval (.tmp 20) = u20
        generalize ac.eval (.tmp 21) = u21
        generalize ac.eval (.tmp 22) = u22
        generalize ac.eval (.tmp 23) = u23
        generalize ac.eval (.tmp 24) = u24
        generalize ac.eval (.tmp 25) = u25
        generalize ac.eval (.tmp 26) = u26
        generalize ac.eval (.tmp 27) = u27
        generalize ac.eval (.tmp 28) = u28
        generalize ac.eval (.tmp 29) = u29
        generalize ac.eval (.tmp 30) = u30
        clear e31 hT hF ac
        have bw3 := below_step bw (Nat.le_refl _) hB
        go_wp2
        go_ret
        first
          | exact ⟨_, _, rfl, by rw [HE.out]; exact none_ _, by decide, bw3.size, bw3.alloc bw3.size _⟩
          | exact ⟨⟨_, by rw [HE.out]; exact none_ _, by decide⟩, bw3.size, bw3.alloc bw3.size _⟩
    · replace h3 : 3 ≤ T.size := by omega
      by_cases hne : T.extract 0 3 ≠ M
      · have hE : st = none := HR2.out h3 hne
        have HE := Lib.hid hE
        clear hE
        go_enter Tryz.func41, Tryz.ntmps41
        go_upto_region 3 with (first
          | (go_at_call 76; refine HO.out.mono ?_; rintro e w1 ⟨rfl, b1⟩)
          | (go_at_call 77; refine (HOP.out _).mono ?_; rintro e w2 ⟨rfl, b2⟩))
        have bw := below_step b1 (Nat.le_refl _) b2

        try simp only [Act.put]
        refine wp_region_tab0 [RT.is (.bool true), RT.is (.bool false), RT.is (.bool false), RT.is (.string T), RT.is (.int .i64 (T.size : Int)), RT.is (.bool false), RT.is (.bool false), RT.is (.bool false), RT.is (.string T), RT.is (.string (T.extract 0 3)), RT.is (.string M), RT.is (.bool true), RT.is (.bool true)] (by kernel_rfl) (by kernel_rfl) (by kernel_rfl) ⟨?_, ?_, ?_, ?_, ?_, ?_, ?_, ?_, ?_, ?_, ?_, ?_, ?_, trivial⟩ ?_
        · intro ac w' hF hL hP hU K hK
          have hB : Below _ _ _ := hL
          have e8 : ac.eval (.tmp 8) = .bool true := hF.at 8 (by kernel_rfl)
          exact rop_move _ rfl e8 (wanted_none rfl) (hK _ _ (le8_refl _) rfl)
        · intro ac w' hF hL hP hU K hK
          have hB : Below _ _ _ := hL
          have e19 : ac.eval (.tmp 19) = .bool true := hP 0 (by kernel_rfl)
          exact rop_not _ _ rfl true e19 (wanted_none rfl) (hK _ _ (le8_refl _) rfl)
        · intro ac w' hF hL hP hU K hK
          have hB : Below _ _ _ := hL
          have e20 : ac.eval (.tmp 20) = .bool false := hP 1 (by kernel_rfl)
          exact rop_move _ rfl e20 (wanted_none rfl) (hK _ _ (le8_refl _) rfl)
        · intro ac w' hF hL hP hU K hK
          have hB : Below _ _ _ := hL
          have e7 : ac.eval (.tmp 7) = .string T := hF.at 7 (by kernel_rfl)
          have e21 : ac.eval (.tmp 21) = .bool false := hP 2 (by kernel_rfl)
          exact rop_move _ rfl e7 (wanted_of (j := 2) (b := false) rfl rfl e21) (hK _ _ (le8_refl _) rfl)
        · intro ac w' hF hL hP hU K hK
          have hB : Below _ _ _ := hL
          have e22 : ac.eval (.tmp 22) = .string T := hP 3 (by kernel_rfl)
          have e21 : ac.eval (.tmp 21) = .bool false := hP 2 (by kernel_rfl)
          exact rop_len_str _ rfl _ e22 (wanted_of (j := 2) (b := false) rfl rfl e21) (hK _ _ (le8_refl _) rfl)
        · intro ac w' hF hL hP hU K hK
          have hB : Below _ _ _ := hL
          have e23 : ac.eval (.tmp 23) = .int .i64 (T.size : Int) := hP 4 (by kernel_rfl)
          have e21 : ac.eval (.tmp 21) = .bool false := hP 2 (by kernel_rfl)
          exact rop_bin _ _ _ _ _ rfl e23 rfl (guard_int _ _ _ _ _ _ _ w') (lss_iG _ _ _ (decide_eq_false (by omega)) w') (wanted_of (j := 2) (b := false) rfl rfl e21) (hK _ _ (le8_refl _) rfl)
        · intro ac w' hF hL hP hU K hK
          have hB : Below _ _ _ := hL
          have e21 : ac.eval (.tmp 21) = .bool false := hP 2 (by kernel_rfl)
          have e24 : ac.eval (.tmp 24) = .bool false := hP 5 (by kernel_rfl)
          exact rop_pick _ _ _ rfl false e21 (by simpa using e24) (wanted_none rfl) (hK _ _ (le8_refl _) rfl)
        · intro ac w' hF hL hP hU K hK
          have hB : Below _ _ _ := hL
          have e25 : ac.eval (.tmp 25) = .bool false := hP 6 (by kernel_rfl)
          exact rop_move _ rfl e25 (wanted_none rfl) (hK _ _ (le8_refl _) rfl)
        · intro ac w' hF hL hP hU K hK
          have hB : Below _ _ _ := hL
          have e7 : ac.eval (.tmp 7) = .string T := hF.at 7 (by kernel_rfl)
          have e26 : ac.eval (.tmp 26) = .bool false := hP 7 (by kernel_rfl)
          exact rop_move _ rfl e7 (wanted_of (j := 7) (b := false) rfl rfl e26) (hK _ _ (le8_refl _) rfl)
        · intro ac w' hF hL hP hU K hK
          have hB : Below _ _ _ := hL
          have e27 : ac.eval (.tmp 27) = .string T := hP 8 (by kernel_rfl)
          have e26 : ac.eval (.tmp 26) = .bool false := hP 7 (by kernel_rfl)
          exact rop_sliceG _ _ _ _ _ rfl e27 rfl rfl rfl (cut3_str T h3 w') (wanted_of (j := 7) (b := false) rfl rfl e26) (hK _ _ (le8_refl _) rfl)
        · intro ac w' hF hL hP hU K hK
          have hB : Below _ _ _ := hL
          have e1 : ac.eval (.tmp 1) = .string M := hF.at 1 (by kernel_rfl)
          have e26 : ac.eval (.tmp 26) = .bool false := hP 7 (by kernel_rfl)
          exact rop_move _ rfl e1 (wanted_of (j := 7) (b := false) rfl rfl e26) (hK _ _ (le8_refl _) rfl)
        · intro ac w' hF hL hP hU K hK
          have hB : Below _ _ _ := hL
          have e28 : ac.eval (.tmp 28) = .string (T.extract 0 3) := hP 9 (by kernel_rfl)
          have e29 : ac.eval (.tmp 29) = .string M := hP 10 (by kernel_rfl)
          have e26 : ac.eval (.tmp 26) = .bool false := hP 7 (by kernel_rfl)
          exact rop_bin _ _ _ _ _ rfl e28 e29 (guard_str _ _ _ _ _ _ w') (neq_str_t _ _ hne w') (wanted_of (j := 7) (b := false) rfl rfl e26) (hK _ _ (le8_refl _) rfl)
        · intro ac w' hF hL hP hU K hK
          have hB : Below _ _ _ := hL
          have e26 : ac.eval (.tmp 26) = .bool false := hP 7 (by kernel_rfl)
          have e30 : ac.eval (.tmp 30) = .bool true := hP 11 (by kernel_rfl)
          exact rop_pick _ _ _ rfl false e26 (by simpa using e30) (wanted_none rfl) (hK _ _ (le8_refl _) rfl)
        · intro ac w' hF hB hT
          have e31 : ac.eval (.tmp 31) = .bool true := hT 12 (by decide)
          rw [hF.setsG [19, 20, 21, 22, 23, 24, 25, 26, 27, 28, 29, 30, 31] (by kernel_rfl)]
          simp only [List.foldl_cons, List.foldl_nil, List.setIfInBounds_toArray, List.set_cons_succ, List.set_cons_zero, e31]
          generalize ac.eval (.tmp 19) = u19
          generalize ac.eval (.tmp 20) = u20
          generalize ac.eval (.tmp 21) = u21
          generalize ac.eval (.tmp 22) = u22
          generalize ac.eval (.tmp 23) = u23
          generalize ac.eval (.tmp 24) = u24
          generalize ac.eval (.tmp 25) = u25
          generalize ac.eval (.tmp 26) = u26
          generalize ac.eval (.tmp 27) = u27
          generalize ac.eval (.tmp 28) = u28
          generalize ac.eval (.tmp 29) = u29
          generalize ac.eval (.tmp 30) = u30
          clear e31 hT hF ac
          have bw3 := below_step bw (Nat.le_refl _) hB
          go_wp2
          go_ret
          first
            | exact ⟨_, _, rfl, by rw [HE.out]; exact none_ _, by decide, bw3.size, bw3.alloc bw3.size _⟩
            | exact ⟨⟨_, by rw [HE.out]; exact none_ _, by decide⟩, bw3.size, bw3.alloc bw3.size _⟩
      · have heq : T.extract 0 3 = M := Classical.not_not.1 hne
        have hE : st = some (T.extract 3 T.size).data.toList := HR3.out h3 heq
        have HE := Lib.hid hE
        have hEs : (T.extract 3 T.size).size ≤ 1000000 := by rw [ByteArray.size_extract]; omega
        have HEs := Lib.hid hEs
        clear hE hEs hne
        go_enter Tryz.func41, Tryz.ntmps41
        go_upto_region 3 with (first
          | (go_at_call 76; refine HO.out.mono ?_; rintro e w1 ⟨rfl, b1⟩)
          | (go_at_call 77; refine (HOP.out _).mono ?_; rintro e w2 ⟨rfl, b2⟩))
        have bw := below_step b1 (Nat.le_refl _) b2

        try simp only [Act.put]
        refine wp_region_tab0 [RT.is (.bool true), RT.is (.bool false), RT.is (.bool false), RT.is (.string T), RT.is (.int .i64 (T.size : Int)), RT.is (.bool false), RT.is (.bool false), RT.is (.bool false), RT.is (.string T), RT.is (.string (T.extract 0 3)), RT.is (.string M), RT.is (.bool false), RT.is (.bool false)] (by kernel_rfl) (by kernel_rfl) (by kernel_rfl) ⟨?_, ?_, ?_, ?_, ?_, ?_, ?_, ?_, ?_, ?_, ?_, ?_, ?_, trivial⟩ ?_
        · intro ac w' hF hL hP hU K hK
          have hB : Below _ _ _ := hL
          have e8 : ac.eval (.tmp 8) = .bool true := hF.at 8 (by kernel_rfl)
          exact rop_move _ rfl e8 (wanted_none rfl) (hK _ _ (le8_refl _) rfl)
        · intro ac w' hF hL hP hU K hK
          have hB : Below _ _ _ := hL
          have e19 : ac.eval (.tmp 19) = .bool true := hP 0 (by kernel_rfl)
          exact rop_not _ _ rfl true e19 (wanted_none rfl) (hK _ _ (le8_refl _) rfl)
        · intro ac w' hF hL hP hU K hK
          have hB : Below _ _ _ := hL
          have e20 : ac.eval (.tmp 20) = .bool false := hP 1 (by kernel_rfl)
          exact rop_move _ rfl e20 (wanted_none rfl) (hK _ _ (le8_refl _) rfl)
        · intro ac w' hF hL hP hU K hK
          have hB : Below _ _ _ := hL
          have e7 : ac.eval (.tmp 7) = .string T := hF.at 7 (by kernel_rfl)
          have e21 : ac.eval (.tmp 21) = .bool false := hP 2 (by kernel_rfl)
          exact rop_move _ rfl e7 (wanted_of (j := 2) (b := false) rfl rfl e21) (hK _ _ (le8_refl _) rfl)
        · intro ac w' hF hL hP hU K hK
          have hB : Below _ _ _ := hL
          have e22 : ac.eval (.tmp 22) = .string T := hP 3 (by kernel_rfl)
          have e21 : ac.eval (.tmp 21) = .bool false := hP 2 (by kernel_rfl)
          exact rop_len_str _ rfl _ e22 (wanted_of (j := 2) (b := false) rfl rfl e21) (hK _ _ (le8_refl _) rfl)
        · intro ac w' hF hL hP hU K hK
          have hB : Below _ _ _ := hL
          have e23 : ac.eval (.tmp 23) = .int .i64 (T.size : Int) := hP 4 (by kernel_rfl)
          have e21 : ac.eval (.tmp 21) = .bool false := hP 2 (by kernel_rfl)
          exact rop_bin _ _ _ _ _ rfl e23 rfl (guard_int _ _ _ _ _ _ _ w') (lss_iG _ _ _ (decide_eq_false (by omega)) w') (wanted_of (j := 2) (b := false) rfl rfl e21) (hK _ _ (le8_refl _) rfl)
        · intro ac w' hF hL hP hU K hK
          have hB : Below _ _ _ := hL
          have e21 : ac.eval (.tmp 21) = .bool false := hP 2 (by kernel_rfl)
          have e24 : ac.eval (.tmp 24) = .bool false := hP 5 (by kernel_rfl)
          exact rop_pick _ _ _ rfl false e21 (by simpa using e24) (wanted_none rfl) (hK _ _ (le8_refl _) rfl)
        · intro ac w' hF hL hP hU K hK
          have hB : Below _ _ _ := hL
          have e25 : ac.eval (.tmp 25) = .bool false := hP 6 (by kernel_rfl)
          exact rop_move _ rfl e25 (wanted_none rfl) (hK _ _ (le8_refl _) rfl)
        · intro ac w' hF hL hP hU K hK
          have hB : Below _ _ _ := hL
          have e7 : ac.eval (.tmp 7) = .string T := hF.at 7 (by kernel_rfl)
          have e26 : ac.eval (.tmp 26) = .bool false := hP 7 (by kernel_rfl)
          exact rop_move _ rfl e7 (wanted_of (j := 7) (b := false) rfl rfl e26) (hK _ _ (le8_refl _) rfl)
        · intro ac w' hF hL hP hU K hK
          have hB : Below _ _ _ := hL
          have e27 : ac.eval (.tmp 27) = .string T := hP 8 (by kernel_rfl)
          have e26 : ac.eval (.tmp 26) = .bool false := hP 7 (by kernel_rfl)
          exact rop_sliceG _ _ _ _ _ rfl e27 rfl rfl rfl (cut3_str T h3 w') (wanted_of (j := 7) (b := false) rfl rfl e26) (hK _ _ (le8_refl _) rfl)
        · intro ac w' hF hL hP hU K hK
          have hB : Below _ _ _ := hL
          have e1 : ac.eval (.tmp 1) = .string M := hF.at 1 (by kernel_rfl)
          have e26 : ac.eval (.tmp 26) = .bool false := hP 7 (by kernel_rfl)
          exact rop_move _ rfl e1 (wanted_of (j := 7) (b := false) rfl rfl e26) (hK _ _ (le8_refl _) rfl)
        · intro ac w' hF hL hP hU K hK
          have hB : Below _ _ _ := hL
          have e28 : ac.eval (.tmp 28) = .string (T.extract 0 3) := hP 9 (by kernel_rfl)
          have e29 : ac.eval (.tmp 29) = .string M := hP 10 (by kernel_rfl)
          have e26 : ac.eval (.tmp 26) = .bool false := hP 7 (by kernel_rfl)
          exact rop_bin _ _ _ _ _ rfl e28 e29 (guard_str _ _ _ _ _ _ w') (neq_str_f _ _ heq w') (wanted_of (j := 7) (b := false) rfl rfl e26) (hK _ _ (le8_refl _) rfl)
        · intro ac w' hF hL hP hU K hK
          have hB : Below _ _ _ := hL
          have e26 : ac.eval (.tmp 26) = .bool false := hP 7 (by kernel_rfl)
          have e30 : ac.eval (.tmp 30) = .bool false := hP 11 (by kernel_rfl)
          exact rop_pick _ _ _ rfl false e26 (by simpa using e30) (wanted_none rfl) (hK _ _ (le8_refl _) rfl)
        · intro ac w' hF hB hT
          have e31 : ac.eval (.tmp 31) = .bool false := hT 12 (by decide)
          rw [hF.setsG [19, 20, 21, 22, 23, 24, 25, 26, 27, 28, 29, 30, 31] (by kernel_rfl)]
          simp only [List.foldl_cons, List.foldl_nil, List.setIfInBounds_toArray, List.set_cons_succ, List.set_cons_zero, e31]
          generalize ac.eval (.tmp 19) = u19
          generalize ac.eval (.tmp 20) = u20
          generalize ac.eval (.tmp 21) = u21
          generalize ac.eval (.tmp 22) = u22
          generalize ac.eval (.tmp 23) = u23
          generalize ac.eval (.tmp 24) = u24
          generalize ac.eval (.tmp 25) = u25
          generalize ac.eval (.tmp 26) = u26
          generalize ac.eval (.tmp 27) = u27
          generalize ac.eval (.tmp 28) = u28
          generalize ac.eval (.tmp 29) = u29
          generalize ac.eval (.tmp 30) = u30
          clear e31 hT hF ac
          have bw3 := below_step bw (Nat.le_refl _) hB
          clear heq
          go_wp2
          go_ret
          first
            | exact ⟨_, _, rfl, by rw [HE.out]; exact RScn.alloc _ _, HEs.out, bw3.size, bw3.alloc bw3.size _⟩
            | exact ⟨⟨_, by rw [HE.out]; exact RScn.alloc _ _, HEs.out⟩, bw3.size, bw3.alloc bw3.size _⟩
end Go.Proofs.YtfcocbgdmmeikaaGreatDoor
