/-
  RedoMakes: a journal is made and opened of a region of the disk, and of nothing else; of one that was not made nothing is opened. For every base and size, no condition.
-/
import Derived.Test.YteggaeopnljgnaaDoorRLaw
import Derived.Test.YteggaeopnljgnaaDoorMArg
namespace Go.Proofs.YteggaeopnljgnaaDoor.redoMakes
open Go.ChangeShapes Go.WideShapes Go.ChangeAt Go.RowKit Dsk

set_option maxHeartbeats 6400000 in
set_option maxRecDepth 100000 in
theorem walk {w : World} (hT : TW w) (base : Int) (l0 : -9223372036854775808 ≤ base) (m0 : base ≤ 9223372036854775807) (size : Int) (l1 : -9223372036854775808 ≤ size) (m1 : size ≤ 9223372036854775807) :
    Calls Tryd.prog 4 #[.int .i64 base, .int .i64 size] w fun e w' => e = .returned (.bool true) ∧ Below w.heap.size w w' := by
  have hpos := hT.pos
  go_enter Tryd.func4, Tryd.ntmps4
  go_upto_region 2 with (go_at_call 6; refine (awake_any _ hT).mono ?_; rintro e w1 ⟨rfl, b1⟩)
  have t1 := hT.old b1
  have hnew := new_hi 20 w.heap.size w1 (by decide) (by decide) b1.size 20 rfl
  go_upto_region 5 with (go_at_call 7; refine hnew.mono ?_; rintro e w2 ⟨p, rfl, b2, h2⟩)
  have s2 := b1.trans b2
  have t2 := hT.old s2
  clear hnew b1 b2 t1
  by_cases c0 : 0 ≤ base
  · by_cases c1 : base ≤ 16
    · have c1' : ¬ 16 < base := by omega
      by_cases c2 : 4 ≤ size
      · by_cases c3 : size ≤ 20 - base
        · obtain ⟨G, hG1, hG2, hG3⟩ : ∃ G : Jnl.Geo, G.N = 20 ∧ base = (G.base : Int) ∧ size = ((G.m + 1 : Nat) : Int) := ⟨⟨20, base.toNat, size.toNat - 1, by omega, by omega⟩, rfl, by show base = ((base.toNat : Nat) : Int); omega, by show size = ((size.toNat - 1 + 1 : Nat) : Int); omega⟩
          have h2' : DiskS (Hi w.heap.size) p (Dsk.new G.N) w2 := by rw [hG1]; exact h2
          have ho := open_new w.heap.size p G w2 h2' s2.size t2 (by omega) base size hG2 hG3
          have hfm := fun u (h : DiskS (Hi w.heap.size) p (Dsk.new G.N) u) (hb : Below w.heap.size w u) => format_hi w.heap.size p G u h hb.size hpos (hT.old hb) (by omega) (by omega) base size hG2 hG3
          have hop := fun d u (h : DiskS (Hi w.heap.size) p d u) (hb : Below w.heap.size w u) (hf : Flat G (imOf (Dsk.new G.N)) 1 3 d) (ha : d.armed = false) => open_free w.heap.size p G d _ 1 3 u h hb.size hpos (hT.old hb) (by omega) hf (by decide) (by decide) ha base size hG2 hG3
          have HFM := Lib.hid hfm
          have HOP := Lib.hid hop
          have HT := Lib.hid hT
          clear hfm hop hG1 hG2 hG3 hT h2
          go_upto_region 6 with fail
          go_upto_region 7 with (go_at_call 9; refine ho.mono ?_; rintro e w3 ⟨rfl, b3⟩)
          have s3 := below_step s2 (Nat.le_refl _) b3
          have hfm := HFM.out w3 (h2'.old b3) s3
          clear ho h2'
          go_upto_region 8 with (go_at_call 8; refine hfm.mono ?_; rintro e w4 ⟨d4, rfl, b4, h4, f4, a4⟩)
          have s4 := s3.trans b4
          have hop := HOP.out d4 w4 h4 s4 f4 a4
          clear hfm
          go_upto_region 9 with (go_at_call 9; refine hop.mono ?_; rintro e w5 ⟨l, d5, rfl, b5, lg5, _, _, _⟩)
          have s5 := s4.trans b5
          obtain ⟨pl, _, L⟩ := lg5
          have q1 := used_any _ l p G pl 1 0 w5 _ L
          have q2 := seq_any _ l p G pl 1 0 w5 _ L
          rw [show ((0 : Nat) : Int) = 0 from rfl] at q1
          rw [show ((1 : Nat) : Int) = 1 from rfl] at q2
          clear hop
          go_wp2_with (first
            | (go_at_call 13; refine q1.mono ?_; rintro e w9 ⟨rfl, rfl⟩)
            | (go_at_call 14; refine q2.mono ?_; rintro e w9 ⟨rfl, rfl⟩))
          go_ret
          exact ⟨rfl, s5⟩
        · have c3' : 20 - base < size := by omega
          have hr : regB (Dsk.new 20).lies.length base size = false := by
            rw [(Fine.new 20).len]
            unfold regB
            rw [Bool.and_eq_false_iff, Bool.and_eq_false_iff, decide_eq_false_iff_not, decide_eq_false_iff_not, decide_eq_false_iff_not]
            omega
          have ho := fun u (h : DiskS (Hi w.heap.size) p (Dsk.new 20) u) => Open_arg (Hi w.heap.size) p (Dsk.new 20) base size u h l0 m0 hr
          have hf := Format_bad (Hi w.heap.size) p (Dsk.new 20) base size w2 h2 l0 m0 hr
          go_upto_region 6 with fail
          go_upto_region 7 with (go_at_call 9; refine (ho _ h2).mono ?_; rintro e w3 ⟨rfl, rfl⟩)
          go_upto_region 8 with (go_at_call 8; refine hf.mono ?_; rintro e w3 ⟨rfl, rfl⟩)
          go_wp2_with (go_at_call 9; refine (ho _ h2).mono ?_; rintro e w3 ⟨rfl, rfl⟩)
          go_ret
          exact ⟨rfl, s2⟩
      · have c2' : size < 4 := by omega
        have hr : regB (Dsk.new 20).lies.length base size = false := by
          rw [(Fine.new 20).len]
          unfold regB
          rw [Bool.and_eq_false_iff, Bool.and_eq_false_iff, decide_eq_false_iff_not, decide_eq_false_iff_not, decide_eq_false_iff_not]
          omega
        have ho := fun u (h : DiskS (Hi w.heap.size) p (Dsk.new 20) u) => Open_arg (Hi w.heap.size) p (Dsk.new 20) base size u h l0 m0 hr
        have hf := Format_bad (Hi w.heap.size) p (Dsk.new 20) base size w2 h2 l0 m0 hr
        go_upto_region 6 with fail
        go_upto_region 7 with (go_at_call 9; refine (ho _ h2).mono ?_; rintro e w3 ⟨rfl, rfl⟩)
        go_upto_region 8 with (go_at_call 8; refine hf.mono ?_; rintro e w3 ⟨rfl, rfl⟩)
        go_wp2_with (go_at_call 9; refine (ho _ h2).mono ?_; rintro e w3 ⟨rfl, rfl⟩)
        go_ret
        exact ⟨rfl, s2⟩
    · have c1' : 16 < base := by omega
      have hr : regB (Dsk.new 20).lies.length base size = false := by
        rw [(Fine.new 20).len]
        unfold regB
        rw [Bool.and_eq_false_iff, Bool.and_eq_false_iff, decide_eq_false_iff_not, decide_eq_false_iff_not, decide_eq_false_iff_not]
        omega
      have ho := fun u (h : DiskS (Hi w.heap.size) p (Dsk.new 20) u) => Open_arg (Hi w.heap.size) p (Dsk.new 20) base size u h l0 m0 hr
      have hf := Format_bad (Hi w.heap.size) p (Dsk.new 20) base size w2 h2 l0 m0 hr
      go_upto_region 6 with fail
      go_upto_region 7 with (go_at_call 9; refine (ho _ h2).mono ?_; rintro e w3 ⟨rfl, rfl⟩)
      go_upto_region 8 with (go_at_call 8; refine hf.mono ?_; rintro e w3 ⟨rfl, rfl⟩)
      go_wp2_with (go_at_call 9; refine (ho _ h2).mono ?_; rintro e w3 ⟨rfl, rfl⟩)
      go_ret
      exact ⟨rfl, s2⟩
  · have c0' : base < 0 := by omega
    have hr : regB (Dsk.new 20).lies.length base size = false := by
      rw [(Fine.new 20).len]
      unfold regB
      rw [Bool.and_eq_false_iff, Bool.and_eq_false_iff, decide_eq_false_iff_not, decide_eq_false_iff_not, decide_eq_false_iff_not]
      omega
    have ho := fun u (h : DiskS (Hi w.heap.size) p (Dsk.new 20) u) => Open_arg (Hi w.heap.size) p (Dsk.new 20) base size u h l0 m0 hr
    have hf := Format_bad (Hi w.heap.size) p (Dsk.new 20) base size w2 h2 l0 m0 hr
    go_upto_region 6 with fail
    go_upto_region 7 with (go_at_call 9; refine (ho _ h2).mono ?_; rintro e w3 ⟨rfl, rfl⟩)
    go_upto_region 8 with (go_at_call 8; refine hf.mono ?_; rintro e w3 ⟨rfl, rfl⟩)
    go_wp2_with (go_at_call 9; refine (ho _ h2).mono ?_; rintro e w3 ⟨rfl, rfl⟩)
    go_ret
    exact ⟨rfl, s2⟩

set_option maxRecDepth 100000 in
theorem lifted (os : Os) (started : os.Started) (H : Type) (enc : TypeId × Value → H) :
    ReturnsInHanded {} Tryd.checked os 4 .any (fun w args => (Rows.redoMakesSpec.pre enc Tryd.prog Tryd.f4 [] false w args ∧ laidMetH Tryd.prog [("scrinium/check.fourSteps", Rows.laid_scrinium_check_fourSteps)] w) ∧ sizedMet enc Tryd.prog Tryd.f4 (OpenSpec.ofChange Rows.redoMakesSpec) false w args)
      (Rows.redoMakesSpec.post enc Tryd.prog Tryd.f4 false true false false) := by
  refine returnsInHanded_of_change_and (C := Tryd.checked) (X := fun w _ => laidMetH Tryd.prog [("scrinium/check.fourSteps", Rows.laid_scrinium_check_fourSteps)] w) (fun _ _ _ hh h => h.of_heap hh) lawOwn started (by kernel_rfl) Tryd.func4
    (ChangeSpec.witness_shaped (enc := enc) (C := Tryd.checked) (os := os) (X := fun w _ => laidMetH Tryd.prog [("scrinium/check.fourSteps", Rows.laid_scrinium_check_fourSteps)] w) false (World.doorLaid Tryd.prog 400 os) #[.int .i64 0, .int .i64 0] 8 rfl (World.shaped_of_RefB (by kernel_rfl) (by kernel_rfl)) (by kernel_rfl) (by kernel_rfl) (by kernel_rfl) (door_met os _)) ?_
  intro W base args ds gs before hval0 hW _ _ hL _
  have hval : ∀ (j : Nat) t v, Tryd.f4.params[j]? = some t → args[j]? = some v → Value.okWide Tryd.prog W .any base t v := hval0
  have hW' := hW
  obtain ⟨p, q, hA0, hV, rfl, hfz, hnd⟩ := hW
  have hA : DataW.TrodAll enc Tryd.prog W 0 (fun _ => true) true Tryd.f4.params.toList args.toList ds p := hA0
  rw [Tryd.params4] at hA hval
  obtain ⟨v0, vs0, d0, ds0, p0, q0, hargs, rfl, rfl, h0, r0⟩ := trodAll_cons hA
  obtain ⟨v1, vs1, d1, ds1, p1, q1, rfl, rfl, rfl, h1, r1⟩ := trodAll_cons r0
  obtain ⟨rfl, rfl, rfl⟩ := trodAll_nil r1
  obtain rfl : args = #[v0, v1] := by cases args; simp_all
  obtain ⟨rfl, rfl⟩ := trodVars_none hV
  have hKT := KT_of_laid hL
  obtain ⟨a0, rfl, rfl, rfl, w0⟩ := open_int Tryd.underlying3 (hval 0 3 v0 rfl rfl) h0
  obtain ⟨a1, rfl, rfl, rfl, w1⟩ := open_int Tryd.underlying3 (hval 1 3 v1 rfl rfl) h1
  clear hA0 hval0
  obtain ⟨l0, m0⟩ := i64_bounds w0
  obtain ⟨l1, m1⟩ := i64_bounds w1
  refine (walk (w := W) hKT a0 l0 m0 a1 l1 m1).mono fun e W' ⟨he, bel⟩ => ?_
  subst he
  exact ⟨_, rfl, law_post rfl rfl (by kernel_rfl) hW' rfl bel⟩

theorem row_holds : Rows.RedoMakesSaid :=
  OpenClaim.holds_of_wide 4 Tryd.f4 rfl rfl rfl rfl rfl rfl rfl ⟨rfl, rfl, rfl, rfl, rfl⟩ rfl rfl rfl rfl rfl (by kernel_rfl) Tryd.func4 (by kernel_rfl)
    (of_decide_eq_true (by kernel_rfl)) (by unfold Func.isWrapper; first | (rw [if_pos (by decide +kernel)]; kernel_rfl) | (rw [if_neg (by decide +kernel)]; exact ⟨rfl, rfl⟩))
    (fun os started H enc _ => lifted os started H enc)

theorem holds : Rows.RedoMakesCardSaid :=
  Claim7.holds_tied_plain_at .later [] [.data] true Rows.redoMakesCard.stood.harness false
    row_holds (fun _ h => by cases h) (by kernel_rfl) (fun _ h => by cases h) redoMakes_row_tie rfl ⟨rfl, rfl⟩ (by kernel_rfl) rfl
    (fun f fn hf hfn => by
      obtain rfl : f = 4 := Option.some.inj ((show Tryd.prog.funcNamed "scrinium/scriniumlaw07.RedoMakes" = some 4 by kernel_rfl).symm.trans hf) |>.symm
      obtain rfl : fn = Tryd.f4 := (Option.some.inj (Tryd.func4.symm.trans hfn)).symm
      exact ⟨by kernel_rfl, fun j t ht => by
        rw [Tryd.params4] at ht
        have hm : t ∈ [3, 3] := by simpa using Array.mem_of_getElem? ht
        have hall : ([3, 3].all fun u => !Tryd.prog.wantsStandIn u) = true := by kernel_rfl
        exact (show Tryd.prog.wantsStandIn t = false by simpa using List.all_eq_true.1 hall t hm)⟩)
    (by kernel_rfl)
end Go.Proofs.YteggaeopnljgnaaDoor.redoMakes

theorem Go.Proofs.YteggaeopnljgnaaDoor.redoMakes_holds : Go.Proofs.YteggaeopnljgnaaDoor.Rows.RedoMakesCardSaid := Go.Proofs.YteggaeopnljgnaaDoor.redoMakes.holds
#print axioms Go.Proofs.YteggaeopnljgnaaDoor.redoMakes_holds
