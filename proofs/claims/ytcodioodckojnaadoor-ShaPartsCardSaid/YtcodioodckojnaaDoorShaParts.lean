/-
  ShaParts: however a text is cut into parts, and written bit by bit, and asked between, its hash is that of the whole; a copy goes its own way. For every list of texts (its first 12, of each its first 150 bytes) and every place of the copy; the numbers K are as the program's text lays them.
-/
import Derived.Test.YtcodioodckojnaaDoorShaFew
import Derived.Test.YtcodioodckojnaaDoorShaEq
import Derived.Deep.RegionHeld3
namespace Go.Proofs.YtcodioodckojnaaDoor.shaParts
open Go.ChangeShapes Go.WideShapes Go.ChangeAt Go.RowKit

/-- Write, as the walk meets it. -/
theorem write_s (p : Nat) (s : List UInt8) (T : ByteArray) (w : World) (h : IsHash p s w) (hK : KT w) (hlen : s.length + T.data.toList.length < 1152921504606846976) :
    Calls Tryd.prog 25 #[.pointer (some ⟨p, 0, none⟩), .string T] w fun e w' => e = .returned (.int .i64 T.size) ∧ IsHash p (s ++ T.data.toList) w' ∧ Only p w w' := by
  rw [Lib.size_eq T]
  exact write_any p s T T.data.toList rfl w h hK hlen
theorem len_is (p : Nat) (s : List UInt8) (w : World) (h : IsHash p s w) : Calls Tryd.prog 27 #[.pointer (some ⟨p, 0, none⟩)] w fun e w' => e = .returned (.int .i64 s.length) ∧ w = w' := by
  obtain ⟨v, b, hc, _⟩ := h
  exact len_any p v b s.length w hc
theorem copy_is (p : Nat) (s : List UInt8) (w : World) (h : IsHash p s w) : Calls Tryd.prog 24 #[.pointer (some ⟨p, 0, none⟩)] w fun e w' => e = .returned (.pointer (some ⟨w.heap.size, 0, none⟩)) ∧ IsHash w.heap.size s w' ∧ Below w.heap.size w w' := by
  obtain ⟨v, b, hc, r⟩ := h
  exact (copy_any p v b s.length w hc).mono fun e w' ⟨he, h, hb⟩ => ⟨he, ⟨v, b, h, r⟩, hb⟩
theorem new_is (w : World) : Calls Tryd.prog 23 #[] w fun e w' => e = .returned (.pointer (some ⟨w.heap.size, 0, none⟩)) ∧ IsHash w.heap.size [] w' ∧ Below w.heap.size w w' :=
  (new_any w).mono fun e w' ⟨he, h, hb⟩ => ⟨he, isHash_zero h, hb⟩

theorem IsHash.pos {p : Nat} {s : List UInt8} {w : World} (h : IsHash p s w) (hK : KT w) : p ≠ 0 := by obtain ⟨_, _, hc, _⟩ := h; exact hc.pos hK
/-- Ahead of part k: all that was written; the copy, and what it had. Nothing that lay there ahead of the hash has turned. -/
def PartsRel (w2 : World) (ts : List ByteArray) (sa sc sh si : Value) (wr : World) : Prop :=
  ∃ (k : Nat) (A D : ByteArray) (pc : Nat), k ≤ ts.length ∧ si = .int .i64 k ∧ sa = .string A ∧ A.data.toList = flat (ts.take k) ∧ sc = .pointer (some ⟨pc, 0, none⟩) ∧ sh = .string D ∧ D.data.toList.length ≤ 1800
    ∧ IsHash w2.heap.size (flat (ts.take k)) wr ∧ IsHash pc D.data.toList wr ∧ w2.heap.size < pc ∧ Below w2.heap.size w2 wr

set_option maxHeartbeats 4000000 in
set_option maxRecDepth 100000 in
theorem walk {w : World} (hK : KT w) (v0 : Value) (ls : List ByteArray) (h0 : StrRow w v0 ls) (at_ : Int) (a1 : -9223372036854775808 ≤ at_) (a2 : at_ ≤ 9223372036854775807) :
    Calls Tryd.prog 5 #[v0, .int .i64 at_] w fun e w' => e = .returned (.bool true) ∧ Below w.heap.size w w' := by
  obtain ⟨ts, hts⟩ : ∃ ts, ts = fewL ls := ⟨_, rfl⟩
  have hfl : (flat ts).length ≤ 1800 := by rw [hts]; exact flat_few ls
  have Hts := Lib.hid hts
  clear hts
  go_enter Tryd.func5, Tryd.ntmps5
  go_upto_region 9 with (first
    | (go_at_call 10; refine (awake_any _ hK).mono ?_; rintro e w1 ⟨rfl, b1⟩)
    | (go_at_call 22; refine (few_any v0 ls _ (h0.old b1)).mono ?_; rintro e w2 ⟨v, rfl, r2, b2⟩; rw [← Hts.out] at r2)
    | (go_at_call 23; refine (new_is _).mono ?_; rintro e w3 ⟨rfl, i3, b3⟩)
    | (go_at_call 24; refine (copy_is _ _ _ i3).mono ?_; rintro e w4 ⟨rfl, i4, b4⟩))
  have hK2 := (hK.old b1).old b2
  have bb2 : Below w.heap.size w w2 := below_step b1 (Nat.le_refl _) b2
  have bb4 : Below w2.heap.size w2 w4 := below_step b3 (Nat.le_refl _) b4
  have i34 : IsHash w2.heap.size [] w4 := i3.old b4 i3.lt
  have hlt23 : w2.heap.size < w3.heap.size := i3.lt
  obtain ⟨a, cap, rfl, hl, hc⟩ := r2
  have HC := Lib.hid hc
  clear hc b3 b4 i3
  go_wp2
  go_loopw [8, 9, 10, 11] (PartsRel w2 ts) (fun _ _ _ i _ => ts.length - (intOf i).toNat)
  case atStart => exact ⟨0, ⟨#[]⟩, ⟨#[]⟩, w3.heap.size, by omega, rfl, rfl, rfl, rfl, rfl, by simp, i34, i4, hlt23, bb4⟩
  case round =>
    obtain ⟨k, A, D, pc, hk, rfl, rfl, hA, rfl, rfl, hD, ih, ic, hpc, hbr⟩ := hrel
    have hKr := hK2.old hbr
    by_cases hlt : k < ts.length
    · obtain ⟨b, off, rfl, hb, hj⟩ := HC.out (by intro e; rw [e] at hlt; simp at hlt)
      have hcx := hj k hlt
      have hft := flat_take ts k hlt
      have hfl1 := flat_le ts (k + 1)
      rw [hft, List.length_append] at hfl1
      generalize ts.getD k ByteArray.empty = X at *
      have hcr : wr.cell? ⟨b, off + k, none⟩ = some (.string X) := (hbr.cell (by exact hb)).trans hcx
      have hbw : b < wr.heap.size := Nat.lt_of_lt_of_le hb hbr.size
      have HFT := Lib.hid hft
      have HJ := Lib.hid hj
      have HA := Lib.hid hA
      clear hft hj hcx hA
      go_wp2
      go_region_held3 (fun w' => w'.cell? ⟨b, off + k, none⟩ = some (.string X)) (go_keep)
        (first
          | (go_at_call 25; refine (write_s w2.heap.size (flat (ts.take k)) X _ ?_ ?_ (by omega)).mono ?_; (first | exact ih | exact ih.old (Below.refl _ _) ih.lt); (first | exact hKr | exact hKr.drew); rintro e w5 ⟨rfl, i5, o5⟩; have hc5 : w5.cell? ⟨b, off + k, none⟩ = some (.string X) := (by rw [o5.cell (by exact hbw) (by omega)]; exact hcr)))
      obtain ⟨S, hS⟩ : ∃ S, S = flat (ts.take k) ++ X.data.toList := ⟨_, rfl⟩
      rw [← hS] at i5
      have o5' : Only w2.heap.size wr w5 := ⟨o5.os, o5.tape, o5.output, o5.size, o5.block⟩
      have ic5 := ic.kept o5' (by omega)
      have br5 : Below w2.heap.size w2 w5 := hbr.trans (o5'.below (Nat.le_refl _) hbr.size)
      have hK5 := hK2.old br5
      have hAX : (A ++ X).data.toList = S := by rw [hS, ← HA.out]; simp
      have hSl : S.length = A.size + X.size := by rw [hS, List.length_append, ← HA.out, ← Lib.size_eq, ← Lib.size_eq]
      have hS18 : S.length ≤ 1800 := by have := hS ▸ (show (flat (ts.take k) ++ X.data.toList).length ≤ 1800 by rw [List.length_append]; omega); exact this
      have hnx : flat (ts.take (k + 1)) = S := by rw [HFT.out, hS]
      have hns : ∀ W : World, (binOp .neq 30 (sumV (Sha.digest S)) (sumV (Sha.digest S))).run Tryd.prog W = .ok (.bool false) W := fun W => by rw [neq_sum _ _ (Sha.digest_length _) (Sha.digest_length _)]; simp
      have hgd := guard_run .neq
      have HAX := Lib.hid hAX
      have HNX := Lib.hid hnx
      have HS := Lib.hid hS
      have HS18 := Lib.hid hS18
      clear hAX hnx hS hS18 o5 hcr
      have hS59 : S.length < 576460752303423488 := by have := HS18.out; omega
      by_cases hat : (k : Int) = at_
      · have hat' : ((k : Int) == at_) = true := by simpa using hat
        clear hat
        go_wp2_with (first
          | (go_at_call 26; refine (sum_any w2.heap.size S _ i5 hK5 hS59).mono ?_; rintro e w6 ⟨rfl, b6⟩; have i6 := i5.old b6 i5.lt; have hK6 := hK5.old b6)
          | (go_at_call 16; refine (of_one (A ++ X) S HAX.out w6 hK6 hS59).mono ?_; rintro e w7 ⟨rfl, b7⟩; have i7 := i6.old b7 i6.lt)
          | (go_at_call 27; refine (len_is w2.heap.size S _ i7).mono ?_; rintro e w8 ⟨rfl, rfl⟩)
          | (go_at_call 24; refine (copy_is w2.heap.size S _ i7).mono ?_; rintro e w8 ⟨rfl, i8, b8⟩))
        have br7 : Below w2.heap.size w2 w7 := below_step (below_step br5 (Nat.le_refl _) b6) (Nat.le_refl _) b7
        exact ⟨⟨k + 1, A ++ X, A ++ X, w7.heap.size, by omega, by go_num, rfl, HAX.out.trans HNX.out.symm, rfl, rfl, by rw [HAX.out]; exact HS18.out, by rw [HNX.out]; exact i7.old b8 i7.lt, by rw [HAX.out]; exact i8, i7.lt, below_step br7 (Nat.le_refl _) b8⟩, by simp [intOf]; omega⟩
      · have hat' : ((k : Int) == at_) = false := by simpa using hat
        clear hat
        go_wp2_with (first
          | (go_at_call 26; refine (sum_any w2.heap.size S _ i5 hK5 hS59).mono ?_; rintro e w6 ⟨rfl, b6⟩; have i6 := i5.old b6 i5.lt; have hK6 := hK5.old b6)
          | (go_at_call 16; refine (of_one (A ++ X) S HAX.out w6 hK6 hS59).mono ?_; rintro e w7 ⟨rfl, b7⟩; have i7 := i6.old b7 i6.lt)
          | (go_at_call 27; refine (len_is w2.heap.size S _ i7).mono ?_; rintro e w8 ⟨rfl, rfl⟩))
        have br7 : Below w2.heap.size w2 w7 := below_step (below_step br5 (Nat.le_refl _) b6) (Nat.le_refl _) b7
        have ic7 := (ic5.old b6 ic5.lt).old b7 (Nat.lt_of_lt_of_le ic5.lt b6.size)
        exact ⟨⟨k + 1, A ++ X, D, pc, by omega, by go_num, rfl, HAX.out.trans HNX.out.symm, rfl, rfl, hD, by rw [HNX.out]; exact i7, ic7, hpc, br7⟩, by simp [intOf]; omega⟩
    · obtain rfl : ts.length = k := by omega
      rw [List.take_length] at hA ih
      have r2 : StrRow w2 (.slice a ts.length cap) ts := ⟨a, cap, rfl, hl, HC.out⟩
      obtain ⟨L, hL⟩ : ∃ L, L = flat ts := ⟨_, rfl⟩
      rw [← hL] at hA ih hfl
      obtain ⟨E, hE⟩ : ∃ E, E = D.data.toList ++ [109, 111, 114, 101] := ⟨_, rfl⟩
      have hEl : E.length ≤ 1804 := by rw [hE, List.length_append]; show D.data.toList.length + 4 ≤ 1804; omega
      have hL59 : L.length < 576460752303423488 := by omega
      have hE59 : E.length < 576460752303423488 := by omega
      have hDl : D.data.toList.length + (⟨#[109, 111, 114, 101]⟩ : ByteArray).data.toList.length < 1152921504606846976 := by show D.data.toList.length + 4 < 1152921504606846976; omega
      have hgd := guard_run .eql
      have hq1 : ∀ W : World, (binOp .eql 30 (sumV (Sha.digest L)) (sumV (Sha.digest L))).run Tryd.prog W = .ok (.bool true) W := fun W => by rw [eql_sum _ _ (Sha.digest_length _) (Sha.digest_length _)]; simp
      have hq2 : ∀ W : World, (binOp .eql 30 (sumV (Sha.digest E)) (sumV (Sha.digest E))).run Tryd.prog W = .ok (.bool true) W := fun W => by rw [eql_sum _ _ (Sha.digest_length _) (Sha.digest_length _)]; simp
      have hof : ∀ W : World, Below w2.heap.size w2 W → Calls Tryd.prog 16 #[.slice a ts.length cap] W fun e w' => e = .returned (sumV (Sha.digest L)) ∧ Below W.heap.size W w' := fun W hW => by
        rw [hL]
        exact of_any _ ts W (r2.old hW) (hK2.old hW) (by rw [← hL]; exact hL59)
      have HA := Lib.hid hA
      have HE := Lib.hid hE
      have HOF := Lib.hid hof
      have HDl := Lib.hid hDl
      clear hA hE hL hof hDl
      go_upto_region 23 with (first
        | (go_at_call 25; refine (write_s pc D.data.toList ⟨#[109, 111, 114, 101]⟩ wr ic hKr HDl.out).mono ?_; rintro e w5 ⟨rfl, i5, o5⟩))
      have i5' : IsHash pc E w5 := by rw [HE.out]; exact i5
      have ih5 := ih.kept o5 (by omega)
      have br5 : Below w2.heap.size w2 w5 := hbr.trans (o5.below (by omega) hbr.size)
      have hK5 := hK2.old br5
      clear i5 o5 ic ih
      go_wp2_with (first
        | (go_at_call 16; ((with_reducible refine (HOF.out w5 br5).mono ?_); rintro e w6 ⟨rfl, b6⟩; have hK6 := hK5.old b6))
        | (go_at_call 16; ((with_reducible refine (of_one A L HA.out w6 hK6 hL59).mono ?_); rintro e w7 ⟨rfl, b7⟩; have hK7 := hK6.old b7; have i7 := (i5'.old b6 i5'.lt).old b7 (Nat.lt_of_lt_of_le i5'.lt b6.size)))
        | (go_at_call 26; ((with_reducible refine (sum_any pc E w7 i7 hK7 hE59).mono ?_); rintro e w8 ⟨rfl, b8⟩; have hK8 := hK7.old b8))
        | (go_at_call 16; ((with_reducible refine (of_two D ⟨#[109, 111, 114, 101]⟩ E HE.out.symm w8 hK8 hE59).mono ?_); rintro e w9 ⟨rfl, b9⟩; have hK9 := hK8.old b9; have h79 := below_step (below_step b8 (Nat.le_refl _) b9) (Nat.le_refl _) (Below.refl _ _); have ih9 := ((ih5.old b6 ih5.lt).old b7 (Nat.lt_of_lt_of_le ih5.lt b6.size)).old h79 (Nat.lt_of_lt_of_le ih5.lt (Nat.le_trans b6.size b7.size))))
        | (go_at_call 26; ((with_reducible refine (sum_any w2.heap.size L w9 ih9 hK9 hL59).mono ?_); rintro e w10 ⟨rfl, b10⟩; have hK10 := hK9.old b10))
        | (go_at_call 16; ((with_reducible refine (of_one A L HA.out w10 hK10 hL59).mono ?_); rintro e w11 ⟨rfl, b11⟩)))
      go_ret
      refine ⟨rfl, ?_⟩
      have q5 : Below w.heap.size w w5 := bb2.trans (br5.mono bb2.size)
      exact below_step (below_step (below_step (below_step (below_step (below_step q5 (Nat.le_refl _) b6) (Nat.le_refl _) b7) (Nat.le_refl _) b8) (Nat.le_refl _) b9) (Nat.le_refl _) b10) (Nat.le_refl _) b11

set_option maxRecDepth 100000 in
theorem lifted (os : Os) (started : os.Started) (H : Type) (enc : TypeId × Value → H) :
    ReturnsInHanded {} Tryd.checked os 5 .any (fun w args => (Rows.shaPartsSpec.pre enc Tryd.prog Tryd.f5 [] false w args ∧ laidMetH Tryd.prog [("scrinium/sha.k", Rows.laid_scrinium_sha_k)] w) ∧ sizedMet enc Tryd.prog Tryd.f5 (OpenSpec.ofChange Rows.shaPartsSpec) false w args)
      (Rows.shaPartsSpec.post enc Tryd.prog Tryd.f5 false true false false) := by
  refine returnsInHanded_of_change_and (C := Tryd.checked) (X := fun w _ => laidMetH Tryd.prog [("scrinium/sha.k", Rows.laid_scrinium_sha_k)] w) (fun _ _ _ hh h => h.of_heap hh) lawOwn started (by kernel_rfl) Tryd.func5
    (ChangeSpec.witness_shaped (enc := enc) (C := Tryd.checked) (os := os) (X := fun w _ => laidMetH Tryd.prog [("scrinium/sha.k", Rows.laid_scrinium_sha_k)] w) false (World.doorLaid Tryd.prog 400 os) #[.slice none 0 0, .int .i64 0] 8 rfl (World.shaped_of_RefB (by kernel_rfl) (by kernel_rfl)) (by kernel_rfl) (by kernel_rfl) (by kernel_rfl) (door_met os _)) ?_
  intro W base args ds gs before hval0 hW _ _ hL _
  have hval : ∀ (j : Nat) t v, Tryd.f5.params[j]? = some t → args[j]? = some v → Value.okWide Tryd.prog W .any base t v := hval0
  have hW' := hW
  obtain ⟨p, q, hA0, hV, rfl, hfz, hnd⟩ := hW
  have hA : DataW.TrodAll enc Tryd.prog W 0 (fun _ => true) true Tryd.f5.params.toList args.toList ds p := hA0
  rw [Tryd.params5] at hA hval
  obtain ⟨v0, vs0, d0, ds0, p0, q0, hargs, rfl, rfl, h0, r0⟩ := trodAll_cons hA
  obtain ⟨v1, vs1, d1, ds1, p1, q1, rfl, rfl, rfl, h1, r1⟩ := trodAll_cons r0
  obtain ⟨rfl, rfl, rfl⟩ := trodAll_nil r1
  obtain rfl : args = #[v0, v1] := by cases args; simp_all
  obtain ⟨rfl, rfl⟩ := trodVars_none hV
  have hKT := KT_of_laid hL
  obtain ⟨a0, len0, cap0, rfl⟩ := okWide_slice Tryd.underlying36 (hval 0 36 v0 rfl rfl)
  obtain ⟨ss0, w0⟩ := strRow_of h0
  obtain ⟨a1, rfl, rfl, rfl, w1⟩ := open_int Tryd.underlying3 (hval 1 3 v1 rfl rfl) h1
  clear hA0 hval0
  obtain ⟨l1, m1⟩ := i64_bounds w1
  refine (walk (w := W) hKT _ ss0 w0 a1 l1 m1).mono fun e W' ⟨he, bel⟩ => ?_
  subst he
  exact ⟨_, rfl, law_post rfl rfl (by kernel_rfl) hW' rfl bel⟩

theorem row_holds : Rows.ShaPartsSaid :=
  OpenClaim.holds_of_wide 5 Tryd.f5 rfl rfl rfl rfl rfl rfl rfl ⟨rfl, rfl, rfl, rfl, rfl⟩ rfl rfl rfl rfl rfl (by kernel_rfl) Tryd.func5 (by kernel_rfl)
    (of_decide_eq_true (by kernel_rfl)) (by unfold Func.isWrapper; first | (rw [if_pos (by decide +kernel)]; kernel_rfl) | (rw [if_neg (by decide +kernel)]; exact ⟨rfl, rfl⟩))
    (fun os started H enc _ => lifted os started H enc)

theorem holds : Rows.ShaPartsCardSaid :=
  Claim7.holds_tied_plain_at .later [] [.data] true Rows.shaPartsCard.stood.harness false
    row_holds (fun _ h => by cases h) (by kernel_rfl) (fun _ h => by cases h) shaParts_row_tie rfl ⟨rfl, rfl⟩ (by kernel_rfl) rfl
    (fun f fn hf hfn => by
      obtain rfl : f = 5 := Option.some.inj ((show Tryd.prog.funcNamed "scrinium/scriniumlaw02.ShaParts" = some 5 by kernel_rfl).symm.trans hf) |>.symm
      obtain rfl : fn = Tryd.f5 := (Option.some.inj (Tryd.func5.symm.trans hfn)).symm
      exact ⟨by kernel_rfl, fun j t ht => by
        rw [Tryd.params5] at ht
        have hm : t ∈ [36, 3] := by simpa using Array.mem_of_getElem? ht
        have hall : ([36, 3].all fun u => !Tryd.prog.wantsStandIn u) = true := by kernel_rfl
        exact (show Tryd.prog.wantsStandIn t = false by simpa using List.all_eq_true.1 hall t hm)⟩)
    (by kernel_rfl)
end Go.Proofs.YtcodioodckojnaaDoor.shaParts

theorem Go.Proofs.YtcodioodckojnaaDoor.shaParts_holds : Go.Proofs.YtcodioodckojnaaDoor.Rows.ShaPartsCardSaid := Go.Proofs.YtcodioodckojnaaDoor.shaParts.holds
#print axioms Go.Proofs.YtcodioodckojnaaDoor.shaParts_holds
