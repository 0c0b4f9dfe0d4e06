/-
  ExtentTurns: what is taken was free, and is not any more; given back, run by run, in whatever order, all is as it was. For every list of runs (of a longer one the first 20), every number and both orders, no condition.
-/
import Derived.Test.YtlbnopfbfnobnaaRunArg
namespace Go.Proofs.Ytlbnopfbfnobnaa.extentTurns
open Go.ChangeShapes Go.WideShapes Go.ChangeAt Go.RowKit Ext

theorem has_range {l : List Rn} (h : fileB l = true) {s : Int} (hs : hasB l s = true) : 0 ≤ s ∧ s ≤ 100000 := by
  induction l with
  | nil => simp [hasB] at hs
  | cons r t ih =>
    rw [fileB_cons, Bool.and_eq_true, sndB_iff] at h
    rcases (hasB_cons _ _ _).1 hs with e | e
    · omega
    · exact ih h.2 e
theorem has_at : ∀ {l : List Rn} (s : Int), fileB l = true → (hasB l s = true ↔ ∃ j, ∃ h : j < l.length, l[j].1 ≤ s ∧ s < l[j].1 + l[j].2)
  | [], s, _ => by simp [hasB]
  | r :: t, s, h => by
    rw [fileB_cons, Bool.and_eq_true, sndB_iff] at h
    rw [hasB_cons, has_at s h.2]
    constructor
    · rintro (e | ⟨j, hj, e⟩)
      · exact ⟨0, by simp, by simp; omega⟩
      · exact ⟨j + 1, by simpa using hj, by simpa using e⟩
    · rintro ⟨j, hj, e⟩
      cases j with
      | zero => simp at e; exact .inl (by omega)
      | succ j => exact .inr ⟨j, by simpa using hj, by simpa using e⟩
theorem chk_pair {l : List Rn} {n : Int} (hc : chk n l = true) : ∀ (d i : Nat) (h : i + d + 1 < l.length), l[i].1 + l[i].2 < l[i + d + 1].1
  | 0, i, h => adj_of_chk hc i h
  | d + 1, i, h => by
    have h1 := chk_pair hc d i (by omega)
    have h2 := adj_of_chk hc (i + d + 1) h
    have h3 := fileB_get (chk_file hc) (i + d + 1) (by omega)
    have e : i + (d + 1) + 1 = i + d + 1 + 1 := by omega
    simp only [e]
    omega
/-- bb: b, with the first i runs of a given back. -/
def Back (a b bb : List Rn) (ix : Nat → Nat) (i : Nat) : Prop := chk 0 bb = true ∧ ∀ s, hasB bb s = true ↔ hasB b s = true ∨ ∃ j, j < i ∧ ∃ h : ix j < a.length, a[ix j].1 ≤ s ∧ s < a[ix j].1 + a[ix j].2
theorem back_step {a b bb : List Rn} {ix : Nat → Nat} {i : Nat} (ha : chk 0 a = true) (hap : ∀ s, hasB a s = true → ¬ hasB b s = true) (hinj : ∀ j, j < i → ix j ≠ ix i) (hi : ix i < a.length) (h : Back a b bb ix i) (x n : Int) (hx : a[ix i] = (x, n)) :
    givB bb (x, n) = true ∧ Back a b (givV bb (x, n)) ix (i + 1) ∧ (givV bb (x, n)).length ≤ bb.length + 1 := by
  have hs := fileB_get (chk_file ha) (ix i) hi
  rw [hx] at hs
  simp only at hs
  have hsn : sndB (x, n) = true := (sndB_iff _).2 hs
  have hg : givO bb (x, n) = gv bb (x, n) := by unfold givO; rw [if_pos ⟨h.1, hsn⟩]
  have hsp := gv_spec (l := bb) (n := 0) (r := (x, n)) h.1 hs.1 hs.2.1 hs.2.2 hs.1
  cases hv : gv bb (x, n) with
  | none =>
    rw [hv] at hsp
    obtain ⟨s, s1, s2, s3⟩ := hsp
    simp only at s1 s2
    exfalso
    rcases (h.2 s).1 s3 with e | ⟨j, hj, hjl, e1, e2⟩
    · exact hap s ((has_at s (chk_file ha)).2 ⟨ix i, hi, by rw [hx]; exact ⟨s1, s2⟩⟩) e
    · have hne := hinj j hj
      rcases Nat.lt_or_gt_of_ne hne with hlt | hlt
      · have := chk_pair ha (ix i - ix j - 1) (ix j) (by omega)
        simp only [show ix j + (ix i - ix j - 1) + 1 = ix i by omega, hx] at this
        omega
      · have := chk_pair ha (ix j - ix i - 1) (ix i) (by omega)
        simp only [show ix i + (ix j - ix i - 1) + 1 = ix j by omega, hx] at this
        omega
  | some m' =>
    rw [hv] at hsp hg
    have e : givV bb (x, n) = m' := by unfold givV; rw [hg]; rfl
    refine ⟨by unfold givB; rw [hg]; rfl, ?_, by rw [e]; exact hsp.len⟩
    rw [e]
    refine ⟨hsp.chk, fun s => ?_⟩
    rw [hsp.has s, h.2 s, or_assoc]
    constructor
    · rintro (q | ⟨j, hj, hjl, q⟩ | q)
      · exact .inl q
      · exact .inr ⟨j, by omega, hjl, q⟩
      · exact .inr ⟨i, by omega, hi, by rw [hx]; exact q⟩
    · rintro (q | ⟨j, hj, hjl, q⟩)
      · exact .inl q
      · by_cases hji : j = i
        · subst hji
          rw [hx] at q
          exact .inr (.inr q)
        · exact .inr (.inl ⟨j, by omega, hjl, q⟩)
theorem back_all {a b bb m : List Rn} {ix : Nat → Nat} {i : Nat} (hm : chk 0 m = true) (hfa : fileB a = true) (h : Back a b bb ix i) (hsur : ∀ j, j < a.length → ∃ k, k < i ∧ ix k = j) {P1 P2 : List Rn} (hcut : ∀ s, hasB m s = true ↔ hasB P1 s = true ∨ hasB P2 s = true) (h2 : b = P2) (h1 : a = P1) : bb = m := by
  subst h1 h2
  refine free_ext h.1 hm fun s => ?_
  rw [h.2 s, hcut s, has_at s hfa]
  constructor
  · rintro (q | ⟨j, _, hjl, q⟩)
    · exact .inr q
    · exact .inl ⟨ix j, hjl, q⟩
  · rintro (⟨j, hjl, q⟩ | q)
    · obtain ⟨k, hk, rfl⟩ := hsur j hjl
      exact .inr ⟨k, hk, hjl, q⟩
    · exact .inl q
set_option maxHeartbeats 12800000 in
set_option maxRecDepth 100000 in
theorem walk {w : World} (v : Value) (l : List Rn) (hl : Runs w v l) (n : Int) (_n1 : -9223372036854775808 ≤ n) (_n2 : n ≤ 9223372036854775807) (tb : Bool) :
    Calls Try.prog 5 #[v, .int .i64 n, .bool tb] w fun e w' => e = .returned (.bool true) ∧ Below w.heap.size w w' := by
  obtain ⟨va, cap, rfl, hlc, hcap⟩ := hl.slice
  go_enter Try.func5, Try.ntmps5
  go_upto_region 3 with (first
    | (go_at_call 9; refine (awake_any _).mono ?_; rintro e w1 ⟨rfl, b1⟩)
    | (go_at_call 11; refine (free_any _ l _ (hl.old b1)).mono ?_; rintro e w2 ⟨v2, m, rfl, hm, hc, hm20, b2⟩))
  have fm := chk_file hc
  have htm := fun u v (hu : Runs u v m) => total_any v m u hu fm (by omega)
  have htt := tot_nonneg fm
  obtain ⟨A, hA⟩ : ∃ A : Nat, (A : Int) = tot m := ⟨(tot m).toNat, by omega⟩
  rw [← hA] at htm htt
  have hA4 : A ≤ 2000000 := by omega
  have HA := Lib.hid hA
  have HCM := Lib.hid hc
  clear hA htt hc
  obtain ⟨mv, mc, rfl, _, _⟩ := hm.slice
  obtain ⟨M, hM⟩ : ∃ M, M = m.length := ⟨_, rfl⟩
  rw [← hM] at hm ⊢
  clear hM
  obtain ⟨t0, ht0, t1, t2⟩ := rem_abs n A
  go_upto_if 29 with (go_at_call 26; refine (htm _ _ hm).mono ?_; rintro e w3 ⟨rfl, b3⟩)
  replace hm := hm.old b3
  have hb := below_step (below_step b1 (Nat.le_refl _) b2) (Nat.le_refl _) b3
  clear b1 b2 b3 ht0
  go_cut [9] (fun s9 wx => w3 = wx ∧ ∃ Kx : Nat, s9 = .int .i64 Kx ∧ Kx ≤ A)
  case first =>
    by_cases hneg : t0 < 0
    · go_wp2
      go_meet
      case rel => exact ⟨rfl, (-t0).toNat, by rw [show (((-t0).toNat : Nat) : Int) = -t0 by omega], by omega⟩
    · go_wp2
      go_meet
      case rel => exact ⟨rfl, t0.toNat, by rw [show ((t0.toNat : Nat) : Int) = t0 by omega], by omega⟩
  case rest =>
    obtain ⟨rfl, Kx, rfl, hKx⟩ := hcut
    clear t1 t2
    have hKt : (Kx : Int) ≤ tot m := by rw [← HA.out]; omega
    have htk := take_any _ m Kx w3 hm (by omega) (by omega) (by omega)
    have htkb : tkB m Kx = true := by unfold tkB; rw [HCM.out, decide_eq_true (show (0 : Int) ≤ Kx by omega), decide_eq_true hKt]; rfl
    rw [htkb, show tkA m Kx = sf m Kx by unfold tkA; rw [if_pos htkb], show tkR m Kx = sg m Kx by unfold tkR; rw [if_pos htkb]] at htk
    have ca := sf_chk HCM.out (Kx : Int)
    have cb := sg_chk HCM.out (Kx : Int)
    have la := sf_len m (Kx : Int)
    have lb := sg_len m (Kx : Int)
    have k1 := sf_tot fm (n := (Kx : Int)) (by omega) hKt
    have k2 := cut_tot m (Kx : Int)
    rw [k1, ← HA.out] at k2
    have hap := fun s => cut_apart HCM.out (Kx : Int) s
    have hin := fun s (h : hasB (sf m (Kx : Int)) s = true) => (cut_has fm (Kx : Int) s).2 (.inl h)
    obtain ⟨a, ha⟩ : ∃ a, a = sf m (Kx : Int) := ⟨_, rfl⟩
    obtain ⟨b, hbb⟩ : ∃ b, b = sg m (Kx : Int) := ⟨_, rfl⟩
    rw [← ha] at htk ca la k1 hap hin
    rw [← hbb] at htk cb lb k2 hap
    have HSF := Lib.hid ha
    have HSG := Lib.hid hbb
    have fa := chk_file ca
    have fb := chk_file cb
    have hta := fun u v (hu : Runs u v a) => total_any v a u hu fa (by omega)
    rw [k1] at hta
    have htb := fun u v (hu : Runs u v b) => total_any v b u hu fb (by omega)
    rw [show tot b = (A : Int) - (Kx : Int) by omega] at htb
    have hckb := fun u v (hu : Runs u v b) => check_any v b u hu
    rw [show chkE b = 0 by unfold chkE; rw [cb]; rfl] at hckb
    have hall := fun u v (hu : Runs u v a) => all_any v a u hu fa (by omega)
    have HCA := Lib.hid ca
    have HCB := Lib.hid cb
    have HFA := Lib.hid fa
    have HAP := Lib.hid hap
    have HIN := Lib.hid hin
    clear ha hbb k1 k2 ca cb htkb hap hin hKt
    go_upto_region 10 with (first
      | (go_at_call 12; refine htk.mono ?_; rintro e w4 ⟨v4, v5, rfl, h4, h5, b4⟩; replace hm := hm.old b4)
      | (go_at_call 26; ((with_reducible refine (hta _ _ h4).mono ?_); rintro e w5 ⟨rfl, b5⟩; replace hm := hm.old b5; replace h4 := h4.old b5; replace h5 := h5.old b5))
      | (go_at_call 26; ((with_reducible refine (htb _ _ h5).mono ?_); rintro e w6 ⟨rfl, b6⟩; replace hm := hm.old b6; replace h4 := h4.old b6; replace h5 := h5.old b6))
      | (go_at_call 26; ((with_reducible refine (htm _ _ hm).mono ?_); rintro e w7 ⟨rfl, b7⟩; replace hm := hm.old b7; replace h4 := h4.old b7; replace h5 := h5.old b7))
      | (go_at_call 27; refine (hckb _ _ h5).mono ?_; rintro e w8 ⟨rfl, b8⟩; replace hm := hm.old b8; replace h4 := h4.old b8; replace h5 := h5.old b8)
      | (go_at_call 18; refine (hall _ _ h4).mono ?_; rintro e w9 ⟨v9, rfl, h9, b9⟩; replace hm := hm.old b9; replace h4 := h4.old b9; replace h5 := h5.old b9))
    replace hb := below_step (below_step (below_step (below_step (below_step (below_step hb (Nat.le_refl _) b4) (Nat.le_refl _) b5) (Nat.le_refl _) b6) (Nat.le_refl _) b7) (Nat.le_refl _) b8) (Nat.le_refl _) b9
    clear b4 b5 b6 b7 b8 b9 htk hta htb htm hckb hall
    obtain ⟨x9, c9, rfl, h9l⟩ := h9.slice
    obtain ⟨xa, k4, rfl, _, _⟩ := h4.slice
    obtain ⟨xb, k5, rfl, _, _⟩ := h5.slice
    obtain ⟨S, hS⟩ : ∃ S, S = (allS a).length := ⟨_, rfl⟩
    obtain ⟨L, hL⟩ : ∃ L, L = a.length := ⟨_, rfl⟩
    obtain ⟨Lb, hLb⟩ : ∃ Lb, Lb = b.length := ⟨_, rfl⟩
    rw [← hS] at h9 h9l ⊢
    rw [← hL] at h4 ⊢
    rw [← hLb] at h5 ⊢
    have hL20 : L ≤ 20 := by omega
    have HS := Lib.hid hS
    have HL := Lib.hid hL
    clear hS hL hLb
    go_wp2
    go_loopw [14] (fun s14 wr => ∃ j : Nat, j ≤ S ∧ s14 = .int .i64 j ∧ Below w9.heap.size w9 wr) (fun s14 _ => S - (intOf s14).toNat)
    case atStart => exact ⟨0, by omega, rfl, Below.refl _ _⟩
    case round =>
      obtain ⟨j, hj, rfl, hbj⟩ := hrel
      by_cases hjk : j < S
      · have hjl : j < (allS a).length := by rw [← HS.out]; exact hjk
        obtain ⟨p, o, rfl, hp, -, c0⟩ := (h9.old hbj).at j hjl
        have hmem := (mem_allS HFA.out _).1 (List.getElem_mem hjl)
        obtain ⟨y, hy⟩ : ∃ y, y = (allS a)[j] := ⟨_, rfl⟩
        rw [← hy] at c0 hmem
        clear hy
        have hrg := has_range HFA.out hmem
        have hh1 := has_any _ m y wr (hm.old hbj) fm hrg.1 hrg.2
        rw [HIN.out y hmem] at hh1
        have hh2 := fun u (hu : Below wr.heap.size wr u) => has_any _ b y u ((h5.old hbj).old hu) fb hrg.1 hrg.2
        rw [show hasB b y = false by
          cases hq : hasB b y with
          | false => rfl
          | true => exact absurd hq (HAP.out y hmem)] at hh2
        clear hmem
        go_wp2_with (first
          | (go_at_call 28; ((with_reducible refine hh1.mono ?_); rintro e w10 ⟨rfl, b10⟩; have c1 := (b10.cell (p := ⟨p, _, none⟩) hp).trans c0))
          | (go_at_call 28; ((with_reducible refine (hh2 _ b10).mono ?_); rintro e w11 ⟨rfl, b11⟩)))
        go_roundw
        case rel => exact ⟨j + 1, by omega, by go_num, below_step (below_step hbj (Nat.le_refl _) b10) (Nat.le_refl _) b11⟩
        case measure => simp [intOf]; omega
      · replace hm := hm.old hbj
        replace h4 := h4.old hbj
        replace h5 := h5.old hbj
        replace hb := below_step hb (Nat.le_refl _) hbj
        clear h9 hbj
        obtain ⟨w12, hw12⟩ : ∃ w12, w12 = wr := ⟨_, rfl⟩
        subst hw12
        go_wp2
        cases tb with
        | false =>
          go_loopw [11, 15] (fun s11 s15 wr => ∃ (i : Nat) (bb : List Rn), i ≤ L ∧ s15 = .int .i64 i ∧ Runs wr s11 bb ∧ Back a b bb (fun j => j) i ∧ bb.length ≤ 20 + i ∧ Below w12.heap.size w12 wr) (fun _ s15 _ => L - (intOf s15).toNat)
          case atStart => exact ⟨0, b, by omega, rfl, h5, ⟨HCB.out, fun s => by simp⟩, by omega, Below.refl _ _⟩
          case round =>
            obtain ⟨i, bb, hi, rfl, hrb, hbk, hbl, hbr⟩ := hrel
            have HBK := Lib.hid hbk
            clear hbk
            by_cases hlt : i < L
            · have hJ : i < a.length := by rw [← HL.out]; omega
              obtain ⟨p, o, rfl, hp, -, e0, e1⟩ := (h4.old hbr).at i hJ
              have hsx := fileB_get fa i hJ
              obtain ⟨xx, hx⟩ : ∃ xx, xx = a[i] := ⟨_, rfl⟩
              have hst := back_step (ix := (fun j => j)) HCA.out HAP.out (fun j hj => by omega) hJ HBK.out xx.1 xx.2 (by rw [hx])
              rw [← hx] at e0 e1 hsx
              clear hx
              obtain ⟨x, N⟩ := xx
              simp only at e0 e1 hsx hst
              obtain ⟨s1, s2, s3⟩ := hsx
              obtain ⟨t1, t2, t3⟩ := hst
              obtain ⟨bv, bc, rfl, _, _⟩ := hrb.slice
              obtain ⟨B6, hB6⟩ : ∃ B6, B6 = wr.heap.size := ⟨_, rfl⟩
              obtain ⟨w6, hw6⟩ : ∃ w6, w6 = wr.alloc (.cells #[.int .i64 x, .int .i64 N] 24) := ⟨_, rfl⟩
              have b6 : Below wr.heap.size wr w6 := by rw [hw6]; exact below_box _ _
              have x6 : BoxAt w6 B6 x N := by rw [hw6, hB6]; exact BoxAt.new _ _ _
              have hgi := give_any _ bb x N w6 (hrb.old b6) (by unfold okR; simp only; omega) (by omega)
              rw [t1] at hgi
              obtain ⟨b2, hb2⟩ : ∃ b2, b2 = givV bb (x, N) := ⟨_, rfl⟩
              rw [← hb2] at hgi t2 t3
              have hck := fun u v (hu : Runs u v b2) => check_any v b2 u hu
              rw [show chkE b2 = 0 by unfold chkE; rw [t2.1]; rfl] at hck
              have HB6 := Lib.hid hB6
              have HT2 := Lib.hid t2
              clear t1 t2 hb2
              go_upto_region 21 with fail
              rw [← hw6, ← hB6]
              clear hw6 hB6 e0 e1
              have c0 := x6.c0
              have c1 := x6.c1
              go_wp2_with (first
                | (go_at_call 14; refine hgi.mono ?_; rintro e w7 ⟨v7, rfl, h7, b7⟩)
                | (go_at_call 27; refine (hck _ _ h7).mono ?_; rintro e w8 ⟨rfl, b8⟩; replace h7 := h7.old b8))
              go_roundw
              case rel => exact ⟨i + 1, b2, by omega, by go_num, h7, HT2.out, by omega, below_step (below_step (below_step hbr (Nat.le_refl _) b6) (Nat.le_refl _) b7) (Nat.le_refl _) b8⟩
              case measure => simp [intOf]; omega
            · obtain rfl : i = L := by omega
              have hfin : bb = m := by
                refine back_all HCM.out HFA.out HBK.out (fun j hj => ?_) (fun s => cut_has (chk_file HCM.out) (Kx : Int) s) HSG.out HSF.out
                exact ⟨j, by rw [HL.out]; exact hj, rfl⟩
              subst hfin
              have hsa := same_any _ _ bb _ hrb (hm.old hbr)
              obtain ⟨bv, bc, rfl, _, _⟩ := hrb.slice
              go_wp2_with (go_at_call 16; refine hsa.mono ?_; rintro e w7 ⟨rfl, b7⟩)
              go_ret
              exact ⟨rfl, below_step (below_step hb (Nat.le_refl _) hbr) (Nat.le_refl _) b7⟩
        | true =>
          go_loopw [11, 15] (fun s11 s15 wr => ∃ (i : Nat) (bb : List Rn), i ≤ L ∧ s15 = .int .i64 i ∧ Runs wr s11 bb ∧ Back a b bb (fun j => a.length - 1 - j) i ∧ bb.length ≤ 20 + i ∧ Below w12.heap.size w12 wr) (fun _ s15 _ => L - (intOf s15).toNat)
          case atStart => exact ⟨0, b, by omega, rfl, h5, ⟨HCB.out, fun s => by simp⟩, by omega, Below.refl _ _⟩
          case round =>
            obtain ⟨i, bb, hi, rfl, hrb, hbk, hbl, hbr⟩ := hrel
            have HBK := Lib.hid hbk
            clear hbk
            by_cases hlt : i < L
            · have hJ : (a.length - 1 - i) < a.length := by rw [← HL.out]; omega
              obtain ⟨p, o, rfl, hp, -, e0, e1⟩ := (h4.old hbr).at (a.length - 1 - i) hJ
              have hsx := fileB_get fa (a.length - 1 - i) hJ
              obtain ⟨p', o', ep, -, -, f0, f1⟩ := (h4.old hbr).at i (by rw [← HL.out]; exact hlt)
              injection ep with ep
              injection ep with ep1 ep2 _
              subst ep1 ep2
              obtain ⟨ff, hff⟩ : ∃ ff, ff = a[i]'(by rw [← HL.out]; exact hlt) := ⟨_, rfl⟩
              rw [← hff] at f0 f1
              clear hff
              obtain ⟨xx, hx⟩ : ∃ xx, xx = a[(a.length - 1 - i)] := ⟨_, rfl⟩
              have hst := back_step (ix := (fun j => a.length - 1 - j)) HCA.out HAP.out (fun j hj => by have h1 := HL.out; show a.length - 1 - j ≠ a.length - 1 - i; omega) hJ HBK.out xx.1 xx.2 (by rw [hx])
              rw [← hx] at e0 e1 hsx
              clear hx
              rw [← HL.out] at e0 e1
              obtain ⟨x, N⟩ := xx
              simp only at e0 e1 hsx hst
              obtain ⟨s1, s2, s3⟩ := hsx
              obtain ⟨t1, t2, t3⟩ := hst
              obtain ⟨bv, bc, rfl, _, _⟩ := hrb.slice
              obtain ⟨B6, hB6⟩ : ∃ B6, B6 = wr.heap.size := ⟨_, rfl⟩
              obtain ⟨w6, hw6⟩ : ∃ w6, w6 = wr.alloc (.cells #[.int .i64 x, .int .i64 N] 24) := ⟨_, rfl⟩
              have b6 : Below wr.heap.size wr w6 := by rw [hw6]; exact below_box _ _
              have x6 : BoxAt w6 B6 x N := by rw [hw6, hB6]; exact BoxAt.new _ _ _
              have hgi := give_any _ bb x N w6 (hrb.old b6) (by unfold okR; simp only; omega) (by omega)
              rw [t1] at hgi
              obtain ⟨b2, hb2⟩ : ∃ b2, b2 = givV bb (x, N) := ⟨_, rfl⟩
              rw [← hb2] at hgi t2 t3
              have hck := fun u v (hu : Runs u v b2) => check_any v b2 u hu
              rw [show chkE b2 = 0 by unfold chkE; rw [t2.1]; rfl] at hck
              have HB6 := Lib.hid hB6
              have HT2 := Lib.hid t2
              clear t1 t2 hb2
              go_upto_region 21 with fail
              rw [← hw6, ← hB6]
              clear hw6 hB6 e0 e1
              have c0 := x6.c0
              have c1 := x6.c1
              go_wp2_with (first
                | (go_at_call 14; refine hgi.mono ?_; rintro e w7 ⟨v7, rfl, h7, b7⟩)
                | (go_at_call 27; refine (hck _ _ h7).mono ?_; rintro e w8 ⟨rfl, b8⟩; replace h7 := h7.old b8))
              go_roundw
              case rel => exact ⟨i + 1, b2, by omega, by go_num, h7, HT2.out, by omega, below_step (below_step (below_step hbr (Nat.le_refl _) b6) (Nat.le_refl _) b7) (Nat.le_refl _) b8⟩
              case measure => simp [intOf]; omega
            · obtain rfl : i = L := by omega
              have hfin : bb = m := by
                refine back_all HCM.out HFA.out HBK.out (fun j hj => ?_) (fun s => cut_has (chk_file HCM.out) (Kx : Int) s) HSG.out HSF.out
                exact ⟨a.length - 1 - j, by rw [HL.out]; omega, by omega⟩
              subst hfin
              have hsa := same_any _ _ bb _ hrb (hm.old hbr)
              obtain ⟨bv, bc, rfl, _, _⟩ := hrb.slice
              go_wp2_with (go_at_call 16; refine hsa.mono ?_; rintro e w7 ⟨rfl, b7⟩)
              go_ret
              exact ⟨rfl, below_step (below_step hb (Nat.le_refl _) hbr) (Nat.le_refl _) b7⟩

set_option maxRecDepth 100000 in
theorem lifted (os : Os) (started : os.Started) (H : Type) (enc : TypeId × Value → H) :
    ReturnsInHanded {} Try.checked os 5 .any (Rows.extentTurnsSpec.pre6 enc Try.prog Try.f5 Rows.extentTurnsRow.domain false) (Rows.extentTurnsSpec.post enc Try.prog Try.f5 false true false false) := by
  refine returnsInHanded_of_change (C := Try.checked) lawOwn started (by kernel_rfl) Try.func5
    (ChangeSpec.witness6 (enc := enc) (C := Try.checked) false ⟨#[], #[.slice none 0 0, .int .i64 0, .bool false], []⟩ 8 (by kernel_rfl) (by kernel_rfl) (by kernel_rfl) (by kernel_rfl)) ?_
  intro W base args ds gs before hval0 hW hcnd _
  have hval : ∀ (j : Nat) t v, Try.f5.params[j]? = some t → args[j]? = some v → Value.okWide Try.prog W .any base t v := hval0
  have hW' := hW
  obtain ⟨p, q, hA0, hV, rfl, hfz, hnd⟩ := hW
  have hA : DataW.TrodAll enc Try.prog W 0 (fun _ => true) true Try.f5.params.toList args.toList ds p := hA0
  rw [Try.params5] at hA hval
  obtain ⟨v0, vs0, d0, ds0, p0, q0, hargs, rfl, rfl, h0, r0⟩ := trodAll_cons hA
  obtain ⟨v1, vs1, d1, ds1, p1, q1, rfl, rfl, rfl, h1, r1⟩ := trodAll_cons r0
  obtain ⟨v2, vs2, d2, ds2, p2, q2, rfl, rfl, rfl, h2, r2⟩ := trodAll_cons r1
  obtain ⟨rfl, rfl, rfl⟩ := trodAll_nil r2
  obtain rfl : args = #[v0, v1, v2] := by cases args; simp_all
  obtain ⟨rfl, rfl⟩ := trodVars_none hV
  obtain ⟨a0, len0, cap0, rfl⟩ := okWide_slice Try.underlying22 (hval 0 22 v0 rfl rfl)
  obtain ⟨l0, w0⟩ := runs_of h0
  obtain ⟨a1, rfl, rfl, rfl, w1⟩ := open_int Try.underlying3 (hval 1 3 v1 rfl rfl) h1
  obtain ⟨t2, rfl, rfl, rfl⟩ := open_bool Try.underlying4 (hval 2 4 v2 rfl rfl) h2
  clear hA0 hval0 hcnd
  obtain ⟨l1, m1⟩ := i64_bounds w1
  refine (walk (w := W) _ l0 w0 a1 l1 m1 t2).mono fun e W' ⟨he, bel⟩ => ?_
  subst he
  exact ⟨_, rfl, law_post rfl rfl (by kernel_rfl) hW' rfl bel⟩

theorem holds : Rows.ExtentTurnsSaid :=
  OpenClaim.holds_of_wide 5 Try.f5 rfl rfl rfl rfl rfl rfl rfl ⟨rfl, rfl, rfl, rfl, rfl⟩ rfl rfl rfl rfl rfl (by kernel_rfl) Try.func5 (by kernel_rfl)
    (of_decide_eq_true (by kernel_rfl)) (by unfold Func.isWrapper; first | (rw [if_pos (by decide +kernel)]; kernel_rfl) | (rw [if_neg (by decide +kernel)]; exact ⟨rfl, rfl⟩))
    (fun os started H enc _ => lifted os started H enc)
end Go.Proofs.Ytlbnopfbfnobnaa.extentTurns

theorem Go.Proofs.Ytlbnopfbfnobnaa.extentTurns_holds : Go.Proofs.Ytlbnopfbfnobnaa.Rows.ExtentTurnsSaid := Go.Proofs.Ytlbnopfbfnobnaa.extentTurns.holds
#print axioms Go.Proofs.Ytlbnopfbfnobnaa.extentTurns_holds
