/-
  ShaNil: of no hash (nil) each call tells nothing: 0 bytes, the hash of nothing, no copy; a zero hash is a new one. For every text (its first 100 bytes); the numbers K are as the program's text lays them.
-/
import Derived.Test.YtcodioodckojnaaDoorShaFew
import Derived.Test.YtcodioodckojnaaDoorShaEq
import Derived.Deep.RegionHeld3
namespace Go.Proofs.YtcodioodckojnaaDoor.shaNil
open Go.ChangeShapes Go.WideShapes Go.ChangeAt Go.RowKit

theorem write_s (p : Nat) (s : List UInt8) (T : ByteArray) (w : World) (h : IsHash p s w) (hK : KT w) (hlen : s.length + T.data.toList.length < 1152921504606846976) :
    Calls Tryd.prog 25 #[.pointer (some ⟨p, 0, none⟩), .string T] w fun e w' => e = .returned (.int .i64 T.size) ∧ IsHash p (s ++ T.data.toList) w' ∧ Only p w w' := by
  rw [Lib.size_eq T]
  exact write_any p s T T.data.toList rfl w h hK hlen
theorem len_is (p : Nat) (s : List UInt8) (w : World) (h : IsHash p s w) : Calls Tryd.prog 27 #[.pointer (some ⟨p, 0, none⟩)] w fun e w' => e = .returned (.int .i64 s.length) ∧ w = w' := by
  obtain ⟨v, b, hc, _⟩ := h
  exact len_any p v b s.length w hc
theorem of_row1 (v : Value) (t : ByteArray) (T : List UInt8) (hT : T = t.data.toList) (w : World) (h : StrRow w v [t]) (hK : KT w) (hl : T.length < 576460752303423488) : Calls Tryd.prog 16 #[v] w fun e w' => e = .returned (sumV (Sha.digest T)) ∧ Below w.heap.size w w' := by
  subst hT
  rw [← flat_one] at hl ⊢
  exact of_any v [t] w h hK hl
theorem range_old {w w' : World} {p : Nat} {cs : List Value} {B : Nat} (h : w.rangeAt p 0 cs) (hb : Below B w w') (hp : p < B) : w'.rangeAt p 0 cs := fun j v hv => (hb.cell (p := ⟨p, 0 + j, none⟩) hp).trans (h j v hv)

set_option maxHeartbeats 4000000 in
set_option maxRecDepth 100000 in
theorem walk {w : World} (hK : KT w) (s : ByteArray) (_ : s.size ≤ maxLen) :
    Calls Tryd.prog 8 #[.string s] w fun e w' => e = .returned (.bool true) ∧ Below w.heap.size w w' := by
  obtain ⟨t, ht⟩ : ∃ t, t = shortB s 100 := ⟨_, rfl⟩
  have ht100 : t.size ≤ 100 := by rw [ht]; exact shortB_size s 100
  obtain ⟨T, hT⟩ : ∃ T, T = t.data.toList := ⟨_, rfl⟩
  have hTl : T.length = t.size := by rw [hT]; exact (Lib.size_eq t).symm
  have Ht := Lib.hid ht
  have HT := Lib.hid hT
  have HTl := Lib.hid hTl
  have hz := (zero_of_info info_hash0).1
  clear ht hT hTl
  go_enter Tryd.func8, Tryd.ntmps8
  go_upto_region 3 with (fail)
  obtain ⟨w1, hw1⟩ : ∃ w1, w1 = w.alloc (.cells (hL zV zB 0).toArray 49) := ⟨_, rfl⟩
  have b1 : Below w.heap.size w w1 := by rw [hw1]; exact (Below.refl _ _).alloc (Nat.le_refl _) _
  have i1 : IsHash w.heap.size [] w1 := by rw [hw1]; exact isHash_zero (Cells.new w _ _ 0 (by simp [zB]) zero_ok)
  rw [← hw1]
  have hK1 := hK.old b1
  clear hw1 hz
  obtain ⟨D, hD⟩ : ∃ D, D = Sha.digest [] := ⟨_, rfl⟩
  have hDl : D.length = 32 := by rw [hD]; exact Sha.digest_length _
  have HD := Lib.hid hD
  have HDl := Lib.hid hDl
  clear hD hDl
  go_upto_region 6 with (first
    | (go_at_call 15; refine (short_any s 100 100 rfl _).mono ?_; rintro e w2 ⟨rfl, rfl⟩; rw [← Ht.out])
    | (go_at_call 25; refine (write_nil t _).mono ?_; rintro e w2 ⟨rfl, rfl⟩)
    | (go_at_call 26; refine (sum_any w.heap.size [] _ i1 hK1 (by decide)).mono ?_; rintro e w2 ⟨rfl, b2⟩; rw [← HD.out])
    | refine wpList_store_mid rfl 30 (.tmp 6) (.tmp 15) rfl w2.heap.size 0 (D.map u8V).toArray rfl rfl (sum_there (heap_alloc_last w2 _) HDl.out) (sum_info HDl.out) (sum_one D) ?_)
  obtain ⟨w3, hw3⟩ : ∃ w3, w3 = (w2.alloc (.cells #[.int .u8 0, .int .u8 0, .int .u8 0, .int .u8 0, .int .u8 0, .int .u8 0, .int .u8 0, .int .u8 0, .int .u8 0, .int .u8 0, .int .u8 0, .int .u8 0, .int .u8 0, .int .u8 0, .int .u8 0, .int .u8 0, .int .u8 0, .int .u8 0, .int .u8 0, .int .u8 0, .int .u8 0, .int .u8 0, .int .u8 0, .int .u8 0, .int .u8 0, .int .u8 0, .int .u8 0, .int .u8 0, .int .u8 0, .int .u8 0, .int .u8 0, .int .u8 0] 30)).setCells w2.heap.size 0 (D.map u8V) := ⟨_, rfl⟩
  have b3 : Below w2.heap.size w2 w3 := by rw [hw3]; exact below_setCells (Nat.le_refl _) _ _ _ ((Below.refl _ _).alloc (Nat.le_refl _) _)
  have r3 : w3.rangeAt w2.heap.size 0 (D.map u8V) := by rw [hw3]; exact sum_range (heap_alloc_last w2 _) HDl.out
  have l3 : w2.heap.size < w3.heap.size := by
    rw [hw3]
    exact Nat.lt_of_lt_of_le (by simp) (below_setCells (B := w2.heap.size) (Nat.le_refl _) (D.map u8V) 0 _ (Below.refl _ (w2.alloc (.cells #[.int .u8 0, .int .u8 0, .int .u8 0, .int .u8 0, .int .u8 0, .int .u8 0, .int .u8 0, .int .u8 0, .int .u8 0, .int .u8 0, .int .u8 0, .int .u8 0, .int .u8 0, .int .u8 0, .int .u8 0, .int .u8 0, .int .u8 0, .int .u8 0, .int .u8 0, .int .u8 0, .int .u8 0, .int .u8 0, .int .u8 0, .int .u8 0, .int .u8 0, .int .u8 0, .int .u8 0, .int .u8 0, .int .u8 0, .int .u8 0, .int .u8 0, .int .u8 0] 30)))).size
  rw [← hw3]
  have i3 := (i1.old b2 i1.lt).old b3 (Nat.lt_of_lt_of_le i1.lt b2.size)
  have hK3 := (hK1.old b2).old b3
  have bb3 : Below w.heap.size w w3 := below_step (below_step b1 (Nat.le_refl _) b2) (Nat.le_refl _) b3
  have hwq : w.heap.size < w2.heap.size := Nat.lt_of_lt_of_le i1.lt b2.size
  clear hw3 b2 b3 i1 hK1 b1
  go_upto_region 7 with (first
    | (go_at_call 25; refine (write_s w.heap.size [] t _ i3 hK3 (by rw [← HT.out]; have := HTl.out; simp only [List.length_nil]; omega)).mono ?_; rintro e w4 ⟨rfl, i4, o4⟩))
  rw [List.nil_append, ← HT.out] at i4
  have r4 : w4.rangeAt w2.heap.size 0 (D.map u8V) := fun j x hx => (o4.cell (k := w2.heap.size) (o := 0 + j) l3 (by omega)).trans (r3 j x hx)
  have l4 : w2.heap.size < w4.heap.size := Nat.lt_of_lt_of_le l3 o4.size
  have hK4 := hK3.only o4 (by obtain ⟨_, _, hx, _⟩ := i3; exact hx.pos hK3)
  have bb4 : Below w.heap.size w w4 := bb3.trans (o4.below (Nat.le_refl _) bb3.size)
  clear o4 r3 i3 hK3 bb3 l3
  have hT59 : T.length < 576460752303423488 := by have := HTl.out; omega
  have hgd := guard_run .eql
  have hq1 : ∀ W : World, (binOp .eql 30 (sumV D) (sumV D)).run Tryd.prog W = .ok (.bool true) W := fun W => by rw [eql_sum _ _ HDl.out HDl.out]; simp
  have hq2 : ∀ W : World, (binOp .eql 30 (sumV (Sha.digest T)) (sumV (Sha.digest T))).run Tryd.prog W = .ok (.bool true) W := fun W => by rw [eql_sum _ _ (Sha.digest_length _) (Sha.digest_length _)]; simp
  have hu := Tryd.underlying30
  have hi : (Tryd.prog.info? 30).map (·.size) = some (D.map u8V).length := sum_info' HDl.out
  have hTs : T.length = t.size := HTl.out
  have hnD : ∀ W : World, KT W → Calls Tryd.prog 16 #[.slice none 0 0] W fun e w' => e = .returned (sumV D) ∧ Below W.heap.size W w' := fun W hW => by rw [HD.out]; exact of_nothing W hW
  have hsD : ∀ W : World, KT W → Calls Tryd.prog 26 #[.pointer none] W fun e w' => e = .returned (sumV D) ∧ Below W.heap.size W w' := fun W hW => by rw [HD.out]; exact sum_nil W hW
  have HND := Lib.hid hnD
  have HSD := Lib.hid hsD
  clear hnD hsD
  have hgd2 : ∀ x y, ∀ W : World, (eqGuard .eql 30 x y (.agg (D.map u8V).toArray) (sumV D)).run Tryd.prog W = .ok () W := fun x y W => guard_run .eql x y D D W
  have hq3 : ∀ W : World, (binOp .eql 30 (.agg (D.map u8V).toArray) (sumV D)).run Tryd.prog W = .ok (.bool true) W := hq1
  go_region_held3 (fun w' => w'.rangeAt w2.heap.size 0 (D.map u8V)) (first | (apply World.rangeAt_alloc; assumption) | go_keep)
    (first
      | (go_at_call 10; refine (awake_any _ ?_).mono ?_; (first | exact hK4.drew | exact hK4); rintro e v1 ⟨rfl, b1⟩; have r1 : v1.rangeAt w2.heap.size 0 (D.map u8V) := range_old (w := w4) (B := w4.heap.size) r4 ⟨b1.os, b1.tape, b1.output, b1.size, b1.block⟩ l4; have c1 : Below w4.heap.size w4 v1 := ⟨b1.os, b1.tape, b1.output, b1.size, b1.block⟩; have k1 := hK4.old c1)
      | (go_at_call 27; ((with_reducible refine (len_nil _).mono ?_); rintro e v ⟨rfl, rfl⟩))
      | (go_at_call 24; ((with_reducible refine (copy_nil _).mono ?_); rintro e v ⟨rfl, rfl⟩))
      | (go_at_call 26; ((with_reducible refine (HSD.out v1 k1).mono ?_); rintro e v2 ⟨rfl, b2⟩; have r2 := range_old r1 b2 (Nat.lt_of_lt_of_le l4 c1.size); have c2 := below_step c1 (Nat.le_refl _) b2; have k2 := hK4.old c2))
      | (go_at_call 16; ((with_reducible refine (HND.out v2 k2).mono ?_); rintro e v3 ⟨rfl, b3⟩; have r3 := range_old r2 b3 (Nat.lt_of_lt_of_le l4 c2.size); have c3 := below_step c2 (Nat.le_refl _) b3; have k3 := hK4.old c3))
      | (go_at_call 16; ((with_reducible refine (HND.out v3 k3).mono ?_); rintro e v4 ⟨rfl, b4⟩; have r4' := range_old r3 b4 (Nat.lt_of_lt_of_le l4 c3.size); have c4 := below_step c3 (Nat.le_refl _) b4; have k4 := hK4.old c4; have i5 := i4.old c4 i4.lt))
      | (go_at_call 26; ((with_reducible refine (sum_any w.heap.size T v4 i5 k4 hT59).mono ?_); rintro e v5 ⟨rfl, b5⟩; have r5 := range_old r4' b5 (Nat.lt_of_lt_of_le l4 c4.size); have c5 := below_step c4 (Nat.le_refl _) b5; have k5 := hK4.old c5))
      | (go_at_call 26; ((with_reducible refine (sum_any w.heap.size T (v4.alloc (.cells #[.string t] 9)) (i5.old ((Below.refl _ _).alloc (Nat.le_refl _) _) i5.lt) (k4.alloc _) hT59).mono ?_); rintro e v5 ⟨rfl, b5⟩; have d5 := below_step ((Below.refl v4.heap.size v4).alloc (Nat.le_refl _) (.cells #[.string t] 9)) (Nat.le_refl _) b5; have r5 := range_old r4' d5 (Nat.lt_of_lt_of_le l4 c4.size); have c5 := below_step c4 (Nat.le_refl _) d5; have k5 := hK4.old c5; have sr5 := (StrRow.one v4 t).old b5))
      | (go_at_call 16; ((with_reducible refine (of_row1 (.slice (some ⟨v4.heap.size, 0, none⟩) 1 1) t T HT.out v5 sr5 k5 hT59).mono ?_); rintro e v6 ⟨rfl, b6⟩; have r6 := range_old r5 b6 (Nat.lt_of_lt_of_le l4 c5.size); have c6 := below_step c5 (Nat.le_refl _) b6; have i6 := i4.old c6 i4.lt))
      | (go_at_call 16; ((with_reducible refine (of_one t T HT.out.symm v5 k5 hT59).mono ?_); rintro e v6 ⟨rfl, b6⟩; have r6 := range_old r5 b6 (Nat.lt_of_lt_of_le l4 c5.size); have c6 := below_step c5 (Nat.le_refl _) b6; have i6 := i4.old c6 i4.lt))
      | (go_at_call 27; ((with_reducible refine (len_is w.heap.size T _ i6).mono ?_); rintro e v ⟨rfl, rfl⟩)))
  all_goals (
    go_wp2
    go_ret
    exact ⟨rfl, below_step bb4 (Nat.le_refl _) c6⟩)

set_option maxRecDepth 100000 in
theorem lifted (os : Os) (started : os.Started) (H : Type) (enc : TypeId × Value → H) :
    ReturnsInHanded {} Tryd.checked os 8 .any (fun w args => (Rows.shaNilSpec.pre enc Tryd.prog Tryd.f8 [] false w args ∧ laidMetH Tryd.prog [("scrinium/sha.k", Rows.laid_scrinium_sha_k)] w) ∧ sizedMet enc Tryd.prog Tryd.f8 (OpenSpec.ofChange Rows.shaNilSpec) false w args)
      (Rows.shaNilSpec.post enc Tryd.prog Tryd.f8 false true false false) := by
  refine returnsInHanded_of_change_and (C := Tryd.checked) (X := fun w _ => laidMetH Tryd.prog [("scrinium/sha.k", Rows.laid_scrinium_sha_k)] w) (fun _ _ _ hh h => h.of_heap hh) lawOwn started (by kernel_rfl) Tryd.func8
    (ChangeSpec.witness_shaped (enc := enc) (C := Tryd.checked) (os := os) (X := fun w _ => laidMetH Tryd.prog [("scrinium/sha.k", Rows.laid_scrinium_sha_k)] w) false (World.doorLaid Tryd.prog 400 os) #[.string .empty] 8 rfl (World.shaped_of_RefB (by kernel_rfl) (by kernel_rfl)) (by kernel_rfl) (by kernel_rfl) (by kernel_rfl) (door_met os _)) ?_
  intro W base args ds gs before hval0 hW _ _ hL _
  have hval : ∀ (j : Nat) t v, Tryd.f8.params[j]? = some t → args[j]? = some v → Value.okWide Tryd.prog W .any base t v := hval0
  have hW' := hW
  obtain ⟨p, q, hA0, hV, rfl, hfz, hnd⟩ := hW
  have hA : DataW.TrodAll enc Tryd.prog W 0 (fun _ => true) true Tryd.f8.params.toList args.toList ds p := hA0
  rw [Tryd.params8] at hA hval
  obtain ⟨v0, vs0, d0, ds0, p0, q0, hargs, rfl, rfl, h0, r0⟩ := trodAll_cons hA
  obtain ⟨rfl, rfl, rfl⟩ := trodAll_nil r0
  obtain rfl : args = #[v0] := by cases args; simp_all
  obtain ⟨rfl, rfl⟩ := trodVars_none hV
  have hKT := KT_of_laid hL
  obtain ⟨s0, rfl, rfl, rfl, w0⟩ := Go.ChangeMaps.open_string Tryd.underlying9 (hval 0 9 v0 rfl rfl) h0
  clear hA0 hval0
  refine (walk (w := W) hKT s0 w0).mono fun e W' ⟨he, bel⟩ => ?_
  subst he
  exact ⟨_, rfl, law_post rfl rfl (by kernel_rfl) hW' rfl bel⟩

theorem row_holds : Rows.ShaNilSaid :=
  OpenClaim.holds_of_wide 8 Tryd.f8 rfl rfl rfl rfl rfl rfl rfl ⟨rfl, rfl, rfl, rfl, rfl⟩ rfl rfl rfl rfl rfl (by kernel_rfl) Tryd.func8 (by kernel_rfl)
    (of_decide_eq_true (by kernel_rfl)) (by unfold Func.isWrapper; first | (rw [if_pos (by decide +kernel)]; kernel_rfl) | (rw [if_neg (by decide +kernel)]; exact ⟨rfl, rfl⟩))
    (fun os started H enc _ => lifted os started H enc)

theorem holds : Rows.ShaNilCardSaid :=
  Claim7.holds_tied_plain_at .later [] [.data] true Rows.shaNilCard.stood.harness false
    row_holds (fun _ h => by cases h) (by kernel_rfl) (fun _ h => by cases h) shaNil_row_tie rfl ⟨rfl, rfl⟩ (by kernel_rfl) rfl
    (fun f fn hf hfn => by
      obtain rfl : f = 8 := Option.some.inj ((show Tryd.prog.funcNamed "scrinium/scriniumlaw02.ShaNil" = some 8 by kernel_rfl).symm.trans hf) |>.symm
      obtain rfl : fn = Tryd.f8 := (Option.some.inj (Tryd.func8.symm.trans hfn)).symm
      exact ⟨by kernel_rfl, fun j t ht => by
        rw [Tryd.params8] at ht
        have hm : t ∈ [9] := by simpa using Array.mem_of_getElem? ht
        have hall : ([9].all fun u => !Tryd.prog.wantsStandIn u) = true := by kernel_rfl
        exact (show Tryd.prog.wantsStandIn t = false by simpa using List.all_eq_true.1 hall t hm)⟩)
    (by kernel_rfl)
end Go.Proofs.YtcodioodckojnaaDoor.shaNil

theorem Go.Proofs.YtcodioodckojnaaDoor.shaNil_holds : Go.Proofs.YtcodioodckojnaaDoor.Rows.ShaNilCardSaid := Go.Proofs.YtcodioodckojnaaDoor.shaNil.holds
#print axioms Go.Proofs.YtcodioodckojnaaDoor.shaNil_holds
