/-
  The statements' own helper awake (scriniumlaw04) answers true: the chapter's examples.
-/
import Derived.Test.YthohdkpgckandaaDoorCrcOpen
namespace Go.Proofs.YthohdkpgckandaaDoor
open Go.RowKit

theorem eql_u32_t (a b : Int) (h : a = b) (w : World) : (binOp .eql 22 (.int .u32 a) (.int .u32 b)).run Tryd.prog w = .ok (.bool true) w := by
  subst h
  go_simp
theorem neq_u32_t (a b : Int) (h : a ≠ b) (w : World) : (binOp .neq 22 (.int .u32 a) (.int .u32 b)).run Tryd.prog w = .ok (.bool true) w := by
  have : (a == b) = false := by simpa using h
  go_simp
/-- What of_any says, with less said of the world. -/
theorem ofB_any (v : Value) (ts : List ByteArray) (l : List UInt8) (hf : flat ts = l) (w : World) (h : StrRow w v ts) (hT : TW w) (hlen : l.length ≤ 9223372036854775807) :
    Calls Tryd.prog 12 #[v] w fun e w' => e = .returned (.int .u32 (Crc.of l : Nat)) ∧ Below w.heap.size w w' :=
  (of_any v ts l hf w h hT hlen).mono fun _ _ ⟨he, hw⟩ => ⟨he, hw ▸ Below.refl _ _⟩
theorem addB_any (c : Nat) (hc : c < 4294967296) (S : ByteArray) (s : List UInt8) (hs : S.data.toList = s) (hl : s.length ≤ 9223372036854775807) (w : World) (hT : TW w) :
    Calls Tryd.prog 14 #[.int .u32 c, .string S] w fun e w' => e = .returned (.int .u32 (Crc.add c s : Nat)) ∧ Below w.heap.size w w' :=
  (add_any c hc S s hs hl w hT).mono fun _ _ ⟨he, hw⟩ => ⟨he, hw ▸ Below.refl _ _⟩
theorem rofB_any (S : ByteArray) (s : List UInt8) (hs : S.data.toList = s) (hl : s.length ≤ 9223372036854775807) (w : World) :
    Calls Tryd.prog 13 #[.string S] w fun e w' => e = .returned (.int .u32 (Crc.of s : Nat)) ∧ Below w.heap.size w w' :=
  (rof_any S s hs hl w).mono fun _ _ ⟨he, hw⟩ => ⟨he, hw ▸ Below.refl _ _⟩
theorem raddB_any (c : Nat) (hc : c < 4294967296) (S : ByteArray) (s : List UInt8) (hs : S.data.toList = s) (hl : s.length ≤ 9223372036854775807) (w : World) :
    Calls Tryd.prog 15 #[.int .u32 c, .string S] w fun e w' => e = .returned (.int .u32 (Crc.add c s : Nat)) ∧ Below w.heap.size w w' :=
  (radd_any c hc S s hs hl w).mono fun _ _ ⟨he, hw⟩ => ⟨he, hw ▸ Below.refl _ _⟩
theorem of_nothing (w : World) (hT : TW w) : Calls Tryd.prog 12 #[.slice none 0 0] w fun e w' => e = .returned (.int .u32 0) ∧ Below w.heap.size w w' := by
  have := ofB_any _ [] [] rfl w (StrRow.nil w) hT (by decide)
  rwa [Crc.of_nil] at this
theorem of_digits (v : Value) (w : World) (h : StrRow w v [⟨#[49, 50, 51, 52]⟩, ⟨#[53, 54, 55, 56, 57]⟩]) (hT : TW w) : Calls Tryd.prog 12 #[v] w fun e w' => e = .returned (.int .u32 3421780262) ∧ Below w.heap.size w w' := by
  have := ofB_any v _ [49, 50, 51, 52, 53, 54, 55, 56, 57] rfl w h hT (by decide)
  rwa [Crc.of_digits] at this
theorem sealB_nil : sealB ⟨#[]⟩ = ⟨#[0, 0, 0, 0]⟩ := by
  apply ByteArray.ext
  apply Array.toList_inj.1
  rw [sealB_data]
  exact Crc.seals_nil
theorem seal_nothing (w : World) (hT : TW w) : Calls Tryd.prog 18 #[.string ⟨#[]⟩] w fun e w' => e = .returned (.string ⟨#[0, 0, 0, 0]⟩) ∧ Below w.heap.size w w' := by
  have := seal_any ⟨#[]⟩ (by decide) w hT
  rwa [sealB_nil] at this
theorem open_zeros (w : World) (hT : TW w) : Calls Tryd.prog 16 #[.string ⟨#[0, 0, 0, 0]⟩] w fun e w' => e = .returned (.tuple #[.string ⟨#[]⟩, .bool true]) ∧ Below w.heap.size w w' := by
  have := open_any (sealB ⟨#[]⟩) w hT (by rw [sealB_size]; decide)
  rwa [openB_sealB, sealed_sealB, sealB_nil] at this

set_option maxHeartbeats 1000000 in
set_option maxRecDepth 100000 in
theorem awake4_any (w : World) (hT : TW w) : Calls Tryd.prog 10 #[] w fun e w' => e = .returned (.bool true) ∧ Below w.heap.size w w' := by
  go_enter Tryd.func10, Tryd.ntmps10
  go_upto_region 2 with (go_at_call 16; refine (open_zeros w hT).mono ?_; rintro e w1 ⟨rfl, b1⟩)
  have hT1 := hT.old b1
  try simp only [Act.put]
  refine wp_region_tab0 [RT.is (.int .u32 0), RT.is (.bool true), RT.is (.bool true), RT.row [⟨#[49, 50, 51, 52]⟩, ⟨#[53, 54, 55, 56, 57]⟩], RT.is (.int .u32 3421780262), RT.is (.bool true), RT.is (.bool true), RT.is (.bool true), RT.is (.string ⟨#[0, 0, 0, 0]⟩), RT.is (.bool true), RT.is (.bool true), RT.is (.bool true), RT.is (.string ⟨#[]⟩), RT.is (.bool true), RT.is (.bool true), RT.is (.bool true), RT.is (.bool true), RT.is (.bool true), RT.is (.bool true)] (by kernel_rfl) (by kernel_rfl) (by kernel_rfl) ⟨?_, ?_, ?_, ?_, ?_, ?_, ?_, ?_, ?_, ?_, ?_, ?_, ?_, ?_, ?_, ?_, ?_, ?_, ?_, trivial⟩ ?_
  · intro ac w' hF hL hP hU K hK
    have hB : Below _ _ _ := hL
    refine rop_call 12 _ _ rfl #[.slice none 0 0] (by simp [eval_const]) (by kernel_rfl) (wanted_none rfl) ?_
    refine (of_nothing w' (hT1.old hB)).mono ?_
    rintro e w2 ⟨rfl, hb⟩
    exact ⟨_, rfl, hK _ _ hb rfl⟩
  · intro ac w' hF hL hP hU K hK
    have hB : Below _ _ _ := hL
    have e7 : ac.eval (.tmp 7) = .int .u32 0 := hP 0 (by kernel_rfl)
    exact rop_bin _ _ _ _ _ rfl e7 rfl (guard_int _ _ _ _ _ _ _ w') (eql_u32_t _ _ rfl w') (wanted_none rfl) (hK _ _ (le8_refl _) rfl)
  · intro ac w' hF hL hP hU K hK
    have hB : Below _ _ _ := hL
    have e8 : ac.eval (.tmp 8) = .bool true := hP 1 (by kernel_rfl)
    exact rop_move _ rfl e8 (wanted_none rfl) (hK _ _ (le8_refl _) rfl)
  · intro ac w' hF hL hP hU K hK
    have hB : Below _ _ _ := hL
    have e9 : ac.eval (.tmp 9) = .bool true := hP 2 (by kernel_rfl)
    refine rop_texts 2 _ rfl [⟨#[49, 50, 51, 52]⟩, ⟨#[53, 54, 55, 56, 57]⟩] ?_ rfl (by decide) (by decide) (wanted_of (j := 2) (b := true) rfl rfl e9) (fun v w2 hb hr => hK v w2 hb hr)
    simp [eval_const, List.range, List.range.loop]
  · intro ac w' hF hL hP hU K hK
    have hB : Below _ _ _ := hL
    have e10 : StrRow w' (ac.eval (.tmp 10)) [⟨#[49, 50, 51, 52]⟩, ⟨#[53, 54, 55, 56, 57]⟩] := hP 3 (by kernel_rfl)
    have e9 : ac.eval (.tmp 9) = .bool true := hP 2 (by kernel_rfl)
    refine rop_call 12 _ _ rfl #[ac.eval (.tmp 10)] (by simp [Act.eval]) (by kernel_rfl) (wanted_of (j := 2) (b := true) rfl rfl e9) ?_
    refine (of_digits _ w' e10 (hT1.old hB)).mono ?_
    rintro e w2 ⟨rfl, hb⟩
    exact ⟨_, rfl, hK _ _ hb rfl⟩
  · intro ac w' hF hL hP hU K hK
    have hB : Below _ _ _ := hL
    have e11 : ac.eval (.tmp 11) = .int .u32 3421780262 := hP 4 (by kernel_rfl)
    have e9 : ac.eval (.tmp 9) = .bool true := hP 2 (by kernel_rfl)
    exact rop_bin _ _ _ _ _ rfl e11 rfl (guard_int _ _ _ _ _ _ _ w') (eql_u32_t _ _ rfl w') (wanted_of (j := 2) (b := true) rfl rfl e9) (hK _ _ (le8_refl _) rfl)
  · intro ac w' hF hL hP hU K hK
    have hB : Below _ _ _ := hL
    have e9 : ac.eval (.tmp 9) = .bool true := hP 2 (by kernel_rfl)
    have e12 : ac.eval (.tmp 12) = .bool true := hP 5 (by kernel_rfl)
    exact rop_pick _ _ _ rfl true e9 (by simpa using e12) (wanted_none rfl) (hK _ _ (le8_refl _) rfl)
  · intro ac w' hF hL hP hU K hK
    have hB : Below _ _ _ := hL
    have e13 : ac.eval (.tmp 13) = .bool true := hP 6 (by kernel_rfl)
    exact rop_move _ rfl e13 (wanted_none rfl) (hK _ _ (le8_refl _) rfl)
  · intro ac w' hF hL hP hU K hK
    have hB : Below _ _ _ := hL
    have e14 : ac.eval (.tmp 14) = .bool true := hP 7 (by kernel_rfl)
    refine rop_call 18 _ _ rfl #[.string { data := #[] }] (by simp [eval_const]) (by kernel_rfl) (wanted_of (j := 7) (b := true) rfl rfl e14) ?_
    refine (seal_nothing w' (hT1.old hB)).mono ?_
    rintro e w2 ⟨rfl, hb⟩
    exact ⟨_, rfl, hK _ _ hb rfl⟩
  · intro ac w' hF hL hP hU K hK
    have hB : Below _ _ _ := hL
    have e15 : ac.eval (.tmp 15) = .string ⟨#[0, 0, 0, 0]⟩ := hP 8 (by kernel_rfl)
    have e14 : ac.eval (.tmp 14) = .bool true := hP 7 (by kernel_rfl)
    exact rop_bin _ _ _ _ _ rfl e15 rfl (guard_str _ _ _ _ _ _ w') (eql_str_t _ _ rfl w') (wanted_of (j := 7) (b := true) rfl rfl e14) (hK _ _ (le8_refl _) rfl)
  · intro ac w' hF hL hP hU K hK
    have hB : Below _ _ _ := hL
    have e14 : ac.eval (.tmp 14) = .bool true := hP 7 (by kernel_rfl)
    have e16 : ac.eval (.tmp 16) = .bool true := hP 9 (by kernel_rfl)
    exact rop_pick _ _ _ rfl true e14 (by simpa using e16) (wanted_none rfl) (hK _ _ (le8_refl _) rfl)
  · intro ac w' hF hL hP hU K hK
    have hB : Below _ _ _ := hL
    have e17 : ac.eval (.tmp 17) = .bool true := hP 10 (by kernel_rfl)
    exact rop_move _ rfl e17 (wanted_none rfl) (hK _ _ (le8_refl _) rfl)
  · intro ac w' hF hL hP hU K hK
    have hB : Below _ _ _ := hL
    have e1 : ac.eval (.tmp 1) = .string ⟨#[]⟩ := hF.at 1 (by kernel_rfl)
    have e18 : ac.eval (.tmp 18) = .bool true := hP 11 (by kernel_rfl)
    exact rop_move _ rfl e1 (wanted_of (j := 11) (b := true) rfl rfl e18) (hK _ _ (le8_refl _) rfl)
  · intro ac w' hF hL hP hU K hK
    have hB : Below _ _ _ := hL
    have e19 : ac.eval (.tmp 19) = .string ⟨#[]⟩ := hP 12 (by kernel_rfl)
    have e18 : ac.eval (.tmp 18) = .bool true := hP 11 (by kernel_rfl)
    exact rop_bin _ _ _ _ _ rfl e19 rfl (guard_str _ _ _ _ _ _ w') (eql_str_t _ _ rfl w') (wanted_of (j := 11) (b := true) rfl rfl e18) (hK _ _ (le8_refl _) rfl)
  · intro ac w' hF hL hP hU K hK
    have hB : Below _ _ _ := hL
    have e18 : ac.eval (.tmp 18) = .bool true := hP 11 (by kernel_rfl)
    have e20 : ac.eval (.tmp 20) = .bool true := hP 13 (by kernel_rfl)
    exact rop_pick _ _ _ rfl true e18 (by simpa using e20) (wanted_none rfl) (hK _ _ (le8_refl _) rfl)
  · intro ac w' hF hL hP hU K hK
    have hB : Below _ _ _ := hL
    have e21 : ac.eval (.tmp 21) = .bool true := hP 14 (by kernel_rfl)
    exact rop_move _ rfl e21 (wanted_none rfl) (hK _ _ (le8_refl _) rfl)
  · intro ac w' hF hL hP hU K hK
    have hB : Below _ _ _ := hL
    have e2 : ac.eval (.tmp 2) = .bool true := hF.at 2 (by kernel_rfl)
    have e22 : ac.eval (.tmp 22) = .bool true := hP 15 (by kernel_rfl)
    exact rop_move _ rfl e2 (wanted_of (j := 15) (b := true) rfl rfl e22) (hK _ _ (le8_refl _) rfl)
  · intro ac w' hF hL hP hU K hK
    have hB : Below _ _ _ := hL
    have e22 : ac.eval (.tmp 22) = .bool true := hP 15 (by kernel_rfl)
    have e23 : ac.eval (.tmp 23) = .bool true := hP 16 (by kernel_rfl)
    exact rop_pick _ _ _ rfl true e22 (by simpa using e23) (wanted_none rfl) (hK _ _ (le8_refl _) rfl)
  · intro ac w' hF hL hP hU K hK
    have hB : Below _ _ _ := hL
    have e24 : ac.eval (.tmp 24) = .bool true := hP 17 (by kernel_rfl)
    exact rop_assign _ rfl e24 (wanted_none rfl) (hK _ _ (le8_refl _) rfl)
  · intro ac w' hF hB hT
    have e0 : ac.eval (.tmp 0) = .bool true := hT 18 (by decide)
    rw [hF.lit 25 rfl]
    simp only [List.range, List.range.loop, List.map_cons, List.map_nil, e0]
    go_wp2
    go_ret
    exact ⟨rfl, below_step b1 (Nat.le_refl _) hB⟩
end Go.Proofs.YthohdkpgckandaaDoor
