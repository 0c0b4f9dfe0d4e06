/-
  Package proof: Fold.
-/
import Derived.Test.YtjdhcncjcencbaaDoorProofMem
namespace Go.Proofs.YtjdhcncjcencbaaDoor
open Go.RowKit

theorem built_zeroP : Tryd.prog.built 23 [] = some ((List.replicate 32 (0 : UInt8)).map u8V).toArray := by kernel_rfl
/-- Has the path as many hashes as it should? -/
def foldLen (m n : Int) (P : Hs) : Bool := decide ((P.length : Int) = if okP m n then ((Tree.long m.toNat n.toNat : Nat) : Int) else -1)
/-- What Fold tells. -/
def foldZ (x : List UInt8) (m n : Int) (P : Hs) : List UInt8 × Bool := if foldLen m n P then (Tree.fold x P (turnsZ m n), true) else (List.replicate 32 0, false)
theorem foldLen_t {m n : Int} {P : Hs} (h : foldLen m n P = true) : okP m n = true ∧ P.length = Tree.long m.toNat n.toNat := by
  unfold foldLen at h
  rw [decide_eq_true_eq] at h
  cases e : okP m n with
  | true => rw [e, if_pos rfl] at h; exact ⟨rfl, by omega⟩
  | false => rw [e, if_neg (by decide)] at h; omega
theorem foldZ_length (x : List UInt8) (m n : Int) (P : Hs) (hx : x.length = 32) : (foldZ x m n P).1.length = 32 := by
  unfold foldZ
  split
  · exact Tree.fold_length _ _ _ hx
  · simp
/-- Ahead of hash i: what was come to, and what is left of the path, come to D. -/
def FoRel (P : Hs) (T : List Bool) (D : List UInt8) (q : Nat) (w0 : World) (s24 : Value) (wr : World) : Prop :=
  ∃ (i : Nat) (X : List UInt8), s24 = .int .i64 (i : Int) ∧ i ≤ T.length ∧ X.length = 32 ∧ Tree.fold X (P.drop i) (T.drop i) = D ∧ Only q w0 wr ∧ wr.heap[q]? = some (.cells (X.map u8V).toArray 23 (0, 0))
theorem foldP_cons (X p : List UInt8) (P : Hs) (b : Bool) (T : List Bool) : Tree.fold X (p :: P) (b :: T) = Tree.fold (Tree.step X p b) P T := rfl
theorem foldP_nil (X : List UInt8) (T : List Bool) : Tree.fold X [] T = X := by cases T <;> rfl
set_option maxHeartbeats 4000000 in
set_option maxRecDepth 100000 in
theorem fold_any (x : List UInt8) (hx : x.length = 32) (m n : Int) (l1 : m ≤ 9223372036854775807) (l2 : n ≤ 9223372036854775807) (v : Value) (P : Hs) (w : World) (hv : Sums w v P) (hP : P.length ≤ 1000) (hK : KT w) :
    Calls Tryd.prog 12 #[sumV x, .int .i64 m, .int .i64 n, v] w fun e w' => e = .returned (.tuple #[sumV (foldZ x m n P).1, .bool (foldZ x m n P).2]) ∧ Below w.heap.size w w' := by
  obtain ⟨va, cap, rfl, hlc, hcap⟩ := hv.slice
  obtain ⟨k, hk⟩ : ∃ k, k = P.length := ⟨_, rfl⟩
  obtain ⟨w0, hw0⟩ : ∃ w0, w0 = (w.alloc (.cells (x.map u8V).toArray 23)).alloc zSum := ⟨_, rfl⟩
  have b0 : Below w.heap.size w w0 := by rw [hw0]; exact ((Below.refl _ _).alloc (Nat.le_refl _) _).alloc (by simp) _
  have h1 : w0.heap[w.heap.size]? = some (.cells (x.map u8V).toArray 23 (0, 0)) := by
    rw [hw0]
    exact (((Below.refl (w.alloc (.cells (x.map u8V).toArray 23)).heap.size _).alloc (Nat.le_refl _) _).block w.heap.size (by simp)).trans (heap_alloc_last w _)
  have h2 : w0.heap[w.heap.size + 1]? = some (.cells ((List.replicate 32 (0 : UInt8)).map u8V).toArray 23 (0, 0)) := by
    have := heap_alloc_last (w.alloc (.cells (x.map u8V).toArray 23)) zSum
    rwa [World.size_alloc, ← hw0] at this
  have hsz : w0.heap.size = w.heap.size + 2 := by rw [hw0]; simp
  obtain ⟨z, hz⟩ : ∃ z, z = (if okP m n then ((Tree.long m.toNat n.toNat : Nat) : Int) else -1) := ⟨_, rfl⟩
  have HLO : Hid (∀ u, Calls Tryd.prog 30 #[.int .i64 m, .int .i64 n] u fun e w' => e = .returned (.int .i64 z) ∧ u = w') := Lib.hid fun u => by rw [hz]; exact long_any m n u l1 l2
  have hfl : foldLen m n P = decide ((k : Int) = z) := by unfold foldLen; rw [hz, hk]
  have hfz : foldZ x m n P = if decide ((k : Int) = z) then (Tree.fold x P (turnsZ m n), true) else (List.replicate 32 0, false) := by unfold foldZ; rw [hfl]
  have HV := Lib.hid hv
  have HB := Lib.hid b0
  have HX := Lib.hid hx
  have H1 := Lib.hid h1
  have H2 := Lib.hid h2
  have HKW := Lib.hid hK
  rw [← hk] at HV ⊢
  by_cases hkz : (k : Int) = z
  · obtain ⟨hok, hkl⟩ := foldLen_t (by rw [hfl]; exact decide_eq_true hkz)
    rw [hfz, if_pos (decide_eq_true hkz)]
    obtain ⟨T, hT⟩ : ∃ T, T = turnsZ m n := ⟨_, rfl⟩
    have hTl : T.length = k := by rw [hT, hk, hkl]; unfold turnsZ; rw [if_pos hok]; rfl
    have HTU : Hid (∀ u, Calls Tryd.prog 31 #[.int .i64 m, .int .i64 n] u fun e w' => ∃ b c, e = .returned (.slice b k c) ∧ OwnB u.heap.size w' (.slice b k c) T ∧ Below u.heap.size u w') := Lib.hid fun u => by
      have := turns_any m n u l1 l2
      rw [← hT] at this
      refine this.mono fun e w' ⟨v', he, ho, hb⟩ => ?_
      obtain ⟨b, c, rfl, -, -⟩ := ho.bools.slice
      have hs := ho
      rw [hTl] at he hs
      exact ⟨b, c, he, hs, hb⟩
    rw [← hT]
    obtain ⟨D, hD⟩ : ∃ D, D = Tree.fold x P T := ⟨_, rfl⟩
    rw [← hD]
    have HD := Lib.hid hD
    have HTl := Lib.hid hTl
    have Hk := Lib.hid hk
    have HPok := Lib.hid hv.ok
    have hsz1 : w.heap.size < w0.heap.size := by omega
    have hsz2 : w.heap.size + 1 < w0.heap.size := by omega
    obtain rfl : z = (k : Int) := hkz.symm
    clear hfz hfl hz hok hkl hT hTl hD hkz hk b0 h1 h2 hx hv hK l1 l2 hsz hcap hlc
    unfold sumV
    go_enter Tryd.func12, Tryd.ntmps12
    go_upto_region 1 with (fail)
    change Code.wp _ _ _ _ ((w.alloc (.cells (x.map u8V).toArray 23)).alloc zSum)
    rw [← hw0]
    clear hw0
    go_upto_region 4 with (first
      | (go_at_call 30; ((with_reducible refine (HLO.out _).mono ?_); rintro e w1 ⟨rfl, rfl⟩))
      | (go_at_call 31; ((with_reducible refine (HTU.out _).mono ?_); rintro e w3 ⟨aT, cT, rfl, hst, b3⟩; have HST := Lib.hid hst; clear hst)))
    have hbv : Below w.heap.size w w3 := below_step HB.out (Nat.le_refl _) b3
    have z1 := Lib.hid ((b3.block _ hsz1).trans H1.out)
    have z2 := Lib.hid ((b3.block _ hsz2).trans H2.out)
    have hq2 : w.heap.size + 1 < w3.heap.size := Nat.lt_of_lt_of_le hsz2 b3.size
    obtain ⟨V, hV⟩ : ∃ V, V = w3 := ⟨_, rfl⟩
    obtain ⟨r, hr⟩ : ∃ r, r = w.heap.size + 1 := ⟨_, rfl⟩
    obtain ⟨q, hq⟩ : ∃ q, q = w.heap.size := ⟨_, rfl⟩
    rw [← hV] at hbv z1 z2 hq2 HST ⊢
    have hK3 : KT V := HKW.out.old hbv
    have hs3 : Sums V (.slice va k cap) P := HV.out.old hbv
    have hsb : ∀ b off, va = some ⟨b, off, none⟩ → 0 < k → b < q := fun b off e h0 => by
      obtain ⟨b', off', e', hb, -⟩ := HV.out.at 0 (by rw [← Hk.out]; exact h0)
      rw [e] at e'
      injection e' with e'
      injection e' with e1
      omega
    rw [← hr] at z2 hq2 ⊢
    rw [← hq] at z1 ⊢
    have hqr : q < r := by omega
    have hqV : q < V.heap.size := by omega
    have hw02 : r < w0.heap.size := by omega
    have HKV := Lib.hid hK3
    have HS3 := Lib.hid hs3
    have Hq := Lib.hid hq
    have Hr := Lib.hid hr
    have HBV := Lib.hid hbv
    clear hK3 hs3 hV b3 hq hr hbv hsz1 hsz2
    go_wp2
    go_loopw [24] (FoRel P T D q V) (fun s24 _ => k - (intOf s24).toNat)
    case atStart => exact ⟨0, x, rfl, by omega, HX.out, HD.out.symm, Only.refl _ _, z1.out⟩
    case round =>
      obtain ⟨i, X, rfl, hi, hXl, hfo, honly, hqc⟩ := hrel
      rw [HTl.out] at hi
      have HXl := Lib.hid hXl
      have HFo := Lib.hid hfo
      have HO := Lib.hid honly
      have HQC := Lib.hid hqc
      have hzr : wr.heap[r]? = some (.cells ((List.replicate 32 (0 : UInt8)).map u8V).toArray 23 (0, 0)) := (honly.block r hq2 (by omega)).trans z2.out
      have HZR := Lib.hid hzr
      clear hXl hfo honly hqc hzr
      by_cases hik : i < k
      · have hik' : (i : Int) < (k : Int) := by omega
        obtain ⟨p, hp⟩ : ∃ p, P[i]? = some p := ⟨_, List.getElem?_eq_getElem (by rw [← Hk.out]; exact hik)⟩
        obtain ⟨tb, htb⟩ : ∃ tb, T[i]? = some tb := ⟨_, List.getElem?_eq_getElem (by rw [HTl.out]; exact hik)⟩
        have hpl : p.length = 32 := HPok.out p (List.mem_of_getElem? hp)
        obtain ⟨gT, rfl, hg1, hg2, -, hgc⟩ := HST.out.at0 htb
        obtain ⟨bp, op, rfl, hb2, -, hrp⟩ := HS3.out.at0 hp
        have hbq := hsb bp op rfl (by omega)
        have hct : wr.cell? ⟨gT, i, none⟩ = some (.bool tb) := (HO.out.cell hg2 (by omega)).trans hgc
        have hrp' : wr.rangeAt bp (op + i * 32) (p.map u8V) := fun j u hu => (HO.out.cell hb2 (by omega)).trans (hrp j u hu)
        have hidx1 := fun u => index_bools gT 0 k cT i (i : Int) rfl hik u
        have hidx2 := fun u => index_sums bp op k cap i hik u
        rw [Nat.zero_add] at hidx1
        obtain ⟨D2, hD2⟩ : ∃ D2, D2 = Tree.step X p tb := ⟨_, rfl⟩
        have hD2l : D2.length = 32 := by rw [hD2]; exact Tree.step_length _ _ _
        have hfo2 : Tree.fold D2 (P.drop (i + 1)) (T.drop (i + 1)) = D := by
          have e := HFo.out
          obtain ⟨hi1, hi2⟩ := List.getElem?_eq_some_iff.1 hp
          obtain ⟨hj1, hj2⟩ := List.getElem?_eq_some_iff.1 htb
          rw [List.drop_eq_getElem_cons hi1, List.drop_eq_getElem_cons hj1, hi2, hj2, foldP_cons, ← hD2] at e
          exact e
        have HRP := Lib.hid hrp'
        have HPl := Lib.hid hpl
        have HD2 := Lib.hid hD2
        have HD2l := Lib.hid hD2l
        have HFo2 := Lib.hid hfo2
        have hqw : q < wr.heap.size := Nat.lt_of_lt_of_le hqV HO.out.size
        have hKr : KT wr := HKV.out.oldB (HO.out.below (Nat.le_refl _) (Nat.le_of_lt hqV)) (by rw [Hq.out]; exact HKW.out.pos)
        have HKR := Lib.hid hKr
        have hwr := IntWalk.i64_in ((i : Int) + 1) (by have := Hk.out; omega)
        have hqca := HQC
        clear hp htb hpl hrp hrp' hgc hD2 hD2l hfo2 hKr hb2 hbq hg1 hg2 HFo hsb
        go_wp2_with (first
          | refine wpList_load_mid rfl 23 (.tmp 31) rfl bp (op + i * 32) rfl (p.map u8V) _ HRP.out Tryd.underlying23 rfl (sum_info' HPl.out) ?_
          | (go_at_call 32; (refine (beside_any p tb _).mono ?_); rintro e w4 ⟨ca, cx, rfl, hU, hl1, hl2, b4⟩; have HU := Lib.hid hU; have z4 := Lib.hid ((b4.block _ hqw).trans HQC.out); clear hU hl1 hl2)
          | refine wpList_load_mid rfl 23 (.tmp 4) rfl q 0 rfl (X.map u8V) _ (range_var z4.out) Tryd.underlying23 rfl (sum_info' HXl.out) ?_
          | (go_at_call 47; (refine (up_any X p tb HXl.out HPl.out ca cx _ HU.out (HKR.out.old b4)).mono ?_); rintro e w5 ⟨rfl, b5⟩; rw [← HD2.out]; have z5 := Lib.hid ((b5.block _ (Nat.lt_of_lt_of_le hqw b4.size)).trans z4.out))
          | refine wpList_store_mid rfl 23 (.tmp 4) (.tmp 37) rfl q 0 (D2.map u8V).toArray rfl rfl (sum_thereP z5.out HXl.out HD2l.out) (sum_info HD2l.out) (sum_one D2) ?_)
        refine ⟨⟨i + 1, D2, by simp, by rw [HTl.out]; omega, HD2l.out, HFo2.out, ?_, set_sumP w5 q X D2 HXl.out HD2l.out z5.out⟩, by simp [intOf]; omega⟩
        exact HO.out.trans (((Only.of_below b4).trans (Only.of_below b5)).trans (only_setCells (b := q) (D2.map u8V) 0 _ (Only.refl _ _)))
      · have hik' : ¬ (i : Int) < (k : Int) := by omega
        have hDX : X = D := by
          have e := HFo.out
          rw [List.drop_eq_nil_of_le (by rw [← Hk.out]; omega), foldP_nil] at e
          exact e
        subst hDX
        have hbf : Below q V wr := HO.out.below (Nat.le_refl _) (Nat.le_of_lt hqV)
        have HBF := Lib.hid hbf
        clear HFo HD hbf hsb
        go_wp2_with (first
          | refine wpList_load_mid rfl 23 (.tmp 4) rfl q 0 rfl (X.map u8V) _ (range_var HQC.out) Tryd.underlying23 rfl (sum_info' HXl.out) ?_
          | refine wpList_store_mid rfl 23 (.tmp 8) (.tmp 39) rfl r 0 (X.map u8V).toArray rfl rfl (sum_there HZR.out HXl.out) (sum_info HXl.out) (sum_one X) ?_)
        refine bodyPost_ret (results_ct (t := 8) (u := 9) (ty := 23) (b := r) (cs := X.map u8V) rfl _ _ _ rfl (sum_range HZR.out HXl.out) Tryd.underlying23 rfl (sum_info' HXl.out)) rfl ⟨rfl, below_setCells (by rw [← Hq.out]; omega) _ _ _ ?_⟩
        exact HBV.out.trans (by rw [← Hq.out]; exact HBF.out)
  · rw [hfz, if_neg (by simpa using hkz)]
    obtain ⟨Z, hZ⟩ : ∃ Z, Z = List.replicate 32 (0 : UInt8) := ⟨_, rfl⟩
    have HZB : Hid (Tryd.prog.built 23 [] = some (Z.map u8V).toArray) := Lib.hid (by rw [hZ]; exact built_zeroP)
    have HZl : Hid (Z.length = 32) := Lib.hid (by rw [hZ]; simp)
    rw [← hZ]
    clear hZ hfz hfl hz b0 h1 h2 hx hv hK l1 l2 hsz hcap hlc hk
    unfold sumV
    go_enter Tryd.func12, Tryd.ntmps12
    go_upto_region 1 with (fail)
    change Code.wp _ _ _ _ ((w.alloc (.cells (x.map u8V).toArray 23)).alloc zSum)
    rw [← hw0]
    clear hw0
    go_wp2_with (first
      | (go_at_call 30; ((with_reducible refine (HLO.out _).mono ?_); rintro e w1 ⟨rfl, rfl⟩))
      | refine wpList_build_at rfl 23 #[] rfl (Z.map u8V).toArray [] (by simp) HZB.out ?_
      | refine wpList_store_mid rfl 23 (.tmp 8) (.tmp 19) rfl (w.heap.size + 1) 0 (Z.map u8V).toArray rfl rfl (sum_there H2.out HZl.out) (sum_info HZl.out) (sum_one _) ?_)
    exact bodyPost_ret (results_ct (t := 8) (u := 9) (ty := 23) (b := w.heap.size + 1) (cs := Z.map u8V) rfl _ _ _ rfl (sum_range H2.out HZl.out) Tryd.underlying23 rfl (sum_info' HZl.out)) rfl ⟨rfl, below_setCells (Nat.le_succ _) _ _ _ HB.out⟩
end Go.Proofs.YtjdhcncjcencbaaDoor
