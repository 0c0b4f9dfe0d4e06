/-
  RedoTells: transactions are refused, and slots used, as P7.4 says. For every size, list of writes (of a longer one the first 12) and number of transactions ahead, no condition.
-/
import Derived.Test.YteggaeopnljgnaaDoorRCkp
import Derived.Test.YteggaeopnljgnaaDoorMArg
import Derived.Test.YteggaeopnljgnaaDoorSecLaw
import Derived.Deep.DeepCutAuto
namespace Go.Proofs.YteggaeopnljgnaaDoor.redoTells
open Go.ChangeShapes Go.WideShapes Go.ChangeAt Go.RowKit Dsk

/-- The bytes that a write of the law has. -/
def sB (o : SpecR) : ByteArray := if o.byte = 9 then (withB o.byte).extract 0 255 else withB o.byte
def tz (l : List SpecR) : List (Int × ByteArray) := l.map fun o => (o.at_, sB o)
def tzCs (_n : Nat) (l : List SpecR) : List Value := l.flatMap fun o => [.int .i64 o.at_, .string (sB o)]
def badO (n : Nat) (o : SpecR) : Bool := decide (o.byte = 9) || decide (o.at_ < (n : Int)) || decide (39 < o.at_)
theorem put_one (w : World) (a : Int) (X : ByteArray) : ∀ j u, [Value.int .i64 a, .string X][j]? = some u → (w.alloc (.cells #[.int .i64 a, .string X] 35)).cell? ⟨w.heap.size, j, none⟩ = some u := by
  intro j u hu
  rw [cell_of (heap_alloc_last w _)]
  match j, hu with
  | 0, hu => simpa using hu
  | 1, hu => simpa using hu
theorem tz_get : ∀ (l : List SpecR) (n j : Nat), j < l.length → (tzCs n l)[j * 2]? = some (.int .i64 ((tz l).getD j (0, .empty)).1) ∧ (tzCs n l)[j * 2 + 1]? = some (.string ((tz l).getD j (0, .empty)).2)
  | [], _, j, h => by simp at h
  | o :: l, n, 0, _ => ⟨rfl, rfl⟩
  | o :: l, n, j + 1, h => by
    obtain ⟨h1, h2⟩ := tz_get l n j (by simpa using h)
    have e : tzCs n (o :: l) = .int .i64 o.at_ :: .string (sB o) :: tzCs n l := rfl
    have e' : (tz (o :: l)).getD (j + 1) (0, .empty) = (tz l).getD j (0, .empty) := rfl
    rw [e, e', show (j + 1) * 2 = j * 2 + 1 + 1 by omega]
    exact ⟨by simpa using h1, by simpa using h2⟩
theorem own_puts {cv : Value} {l : List SpecR} {n : Nat} {w : World} (h : w.ownsRow 0 35 2 cv l.length (tzCs n l)) : ∃ g, PutsR w cv (tz l) g ∧ (g < w.heap.size → cv.ownBlock = some g) := by
  have hln : (tz l).length = l.length := List.length_map _
  rcases h.2 with ⟨rfl, e0⟩ | ⟨g, cap, cur, rfl, _, hg, h1, h2, _⟩
  · refine ⟨w.heap.size, ⟨none, 0, by rw [hln, e0], by rw [hln, e0]; exact ⟨Nat.zero_le _, by decide⟩, fun hn => absurd (List.eq_nil_of_length_eq_zero (hln.trans e0)) hn⟩, fun hh => absurd hh (Nat.lt_irrefl _)⟩
  · refine ⟨g, ⟨_, cap, by rw [hln], by rw [hln]; exact ⟨h1, by unfold maxLen at h2; omega⟩, fun _ => ⟨0, rfl, (Array.getElem?_eq_some_iff.1 hg).1, fun j hj => ?_⟩⟩, fun _ => rfl⟩
    rw [hln] at hj
    obtain ⟨t1, t2⟩ := tz_get l n j hj
    have k1 := World.ownsRow.cells h (g := g) rfl (j * 2) _ t1
    have k2 := World.ownsRow.cells h (g := g) rfl (j * 2 + 1) _ t2
    rw [Addr.add_mid, Nat.zero_add] at k1 k2
    rw [Nat.zero_add]
    exact ⟨k1, k2⟩
theorem own_slice {cv : Value} {L : Nat} {xs : List Value} {w : World} (h : w.ownsRow 0 35 2 cv L xs) : ∃ va vc, cv = .slice va L vc := by
  rcases h.2 with ⟨rfl, e0⟩ | ⟨g, cap, cur, rfl, _⟩
  · exact ⟨none, 0, by rw [e0]⟩
  · exact ⟨_, cap, rfl⟩
theorem sB_size (o : SpecR) : (sB o).size = if o.byte = 9 then 255 else 256 := by
  unfold sB
  split
  · rw [ByteArray.size_extract, withB_size]; rfl
  · exact withB_size _
theorem bad_okP {G : Jnl.Geo} {n : Nat} (hN : G.N = 40) (hb : G.base = 0) (hm : G.m + 1 = n) (o : SpecR) : okP G (o.at_, sB o) = !badO n o := by
  unfold okP okAt badO
  rw [sB_size, hN, hb, Bool.eq_iff_iff]
  simp only [Bool.and_eq_true, Bool.not_eq_true', Bool.or_eq_false_iff, decide_eq_true_eq, decide_eq_false_iff_not]
  by_cases h9 : o.byte = 9
  · rw [if_pos h9]
    exact ⟨fun h => absurd h.1 (by decide), fun h => absurd h9 h.1.1⟩
  · rw [if_neg h9]
    constructor
    · rintro ⟨_, h⟩
      exact ⟨⟨h9, by omega⟩, by omega⟩
    · rintro ⟨⟨_, h1⟩, h2⟩
      exact ⟨rfl, by omega⟩
/-- Is it refused for what its writes are? -/
def badL (n : Nat) (l : List SpecR) : Bool := decide (l.length = 0) || l.any (badO n)
theorem allow_tz {G : Jnl.Geo} {n : Nat} (hN : G.N = 40) (hb : G.base = 0) (hm : G.m + 1 = n) (hr : roomN G = n - 4) (l : List SpecR) : allowE G (tz l) = if badL n l then 1 else if n - 4 < l.length then 11 else 0 := by
  unfold allowE badL
  have hln : (tz l).length = l.length := List.length_map _
  have hall : (tz l).all (okP G) = !l.any (badO n) := by
    unfold tz
    rw [List.all_map, List.not_any_eq_all_not]
    congr 1
    funext o
    exact bad_okP hN hb hm o
  rw [hln, hall, hr]
  by_cases h0 : l.length = 0
  · rw [if_pos h0, decide_eq_true h0]; rfl
  · rw [if_neg h0, decide_eq_false h0, Bool.false_or]
    cases l.any (badO n) <;> rfl
set_option maxHeartbeats 6400000 in
set_option maxRecDepth 100000 in
theorem walk {w : World} (hT : TW w) (size : Int) (_l0 : -9223372036854775808 ≤ size) (_m0 : size ≤ 9223372036854775807) (v1 : Value) (l : List SpecR) (hl : Specs w v1 l) (ahead : Int) (_l2 : -9223372036854775808 ≤ ahead) (_m2 : ahead ≤ 9223372036854775807) :
    Calls Tryd.prog 3 #[.int .i64 size, v1, .int .i64 ahead] w fun e w' => e = .returned (.bool true) ∧ Below w.heap.size w w' := by
  have hpos := hT.pos
  obtain ⟨⟨a, cap, rfl, hll, hrow⟩, hok⟩ := hl
  have HROW := Lib.hid hrow
  have HOK := Lib.hid hok
  obtain ⟨m, hm, hm16⟩ := mod_nat size 16 (by decide)
  rw [show ((16 : Nat) : Int) = 16 from rfl] at hm
  have hm2 : bits .and .i64 size 15 = (m : Int) := (and_mask size 4 15 (by decide) (by decide)).trans hm
  obtain ⟨n, hn⟩ : ∃ n, n = 5 + m := ⟨_, rfl⟩
  have hn5 : 5 ≤ n := by omega
  have hn20 : n ≤ 20 := by omega
  have hnm : (5 : Int) + (m : Int) = (n : Int) := by omega
  have HNM := Lib.hid hnm
  obtain ⟨G, hG1, hGb, hGm⟩ : ∃ G : Jnl.Geo, G.N = 40 ∧ G.base = 0 ∧ G.m + 1 = n := ⟨⟨40, 0, n - 1, by omega, by omega⟩, rfl, rfl, by show n - 1 + 1 = n; omega⟩
  have HG2 := Lib.hid (show (0 : Int) = (G.base : Int) by omega)
  have HG3 := Lib.hid (show (n : Int) = ((G.m + 1 : Nat) : Int) by omega)
  have hrm : roomN G = n - 4 := by unfold roomN; show min 60 (G.m - 3) = _; omega
  have HRM := Lib.hid hrm
  have HAL := Lib.hid (allow_tz hG1 hGb hGm hrm)
  have HD39 := Lib.hid (show G.Data 39 from ⟨by omega, by omega⟩)
  have hroom : 1 ≤ roomN G := by omega
  have hGle : G.N ≤ 1000 := by omega
  have hG0 : 1 ≤ G.N := by omega
  have HG1 := Lib.hid hG1
  have HGM := Lib.hid hGm
  obtain ⟨r, hr⟩ : ∃ r, ahead.tmod 21 = r := ⟨_, rfl⟩
  have hr1 : -21 < r := by rw [← hr]; have := Int.lt_tmod_of_pos ahead (show (0 : Int) < 21 by decide); omega
  have hr2 : r < 21 := by rw [← hr]; exact Int.tmod_lt_of_pos ahead (by decide)
  obtain ⟨K, hK⟩ : ∃ K, K = r.natAbs := ⟨_, rfl⟩
  have HK := Lib.hid hK
  have hK20 : K ≤ 20 := by omega
  have HT := Lib.hid hT
  have ha := awake_any w hT
  clear hK hG1 hGb hGm hrm hm hn hnm hrow hok hT
  go_enter Tryd.func3, Tryd.ntmps3
  go_upto_region 2 with (go_at_call 6; refine ha.mono ?_; rintro e w1 ⟨rfl, b1⟩)
  clear ha
  go_upto_region 3 with fail
  rw [HNM.out]
  clear hm2 hm16 HNM
  have hnew := new_hi 40 w.heap.size w1 (by decide) (by decide) b1.size 40 rfl
  go_upto_region 4 with (go_at_call 7; refine hnew.mono ?_; rintro e w2 ⟨p, rfl, b2, h2⟩)
  have s2 := b1.trans b2
  rw [← HG1.out] at h2
  have hfm := format_hi w.heap.size p G w2 h2 s2.size hpos (HT.out.old s2) hG0 hGle 0 (n : Int) HG2.out HG3.out
  clear hnew b1 b2
  go_upto_region 6 with (go_at_call 8; refine hfm.mono ?_; rintro e w3 ⟨d3, rfl, b3, h3, f3, a3⟩)
  have s3 := s2.trans b3
  generalize imOf (Dsk.new G.N) = S0 at f3
  have hop := open_free w.heap.size p G d3 S0 1 3 w3 h3 s3.size hpos (HT.out.old s3) hGle f3 (by decide) (by decide) a3 0 (n : Int) HG2.out HG3.out
  clear hfm h2 s2 b3
  go_upto_region 7 with (go_at_call 9; refine hop.mono ?_; rintro e w4 ⟨x, d4, rfl, b4, lg4, fi4, _, ar4⟩)
  have s4 := s3.trans b4
  have hro : Calls Tryd.prog 10 #[.pointer (some ⟨x, 0, none⟩)] w4 fun e w' => e = .returned (.int .i64 ((n : Int) - 4)) ∧ w4 = w' := by
    obtain ⟨pl, _, L⟩ := lg4
    have := room_any _ x p G pl 1 0 w4 _ L (by omega)
    rw [HRM.out, show ((n - 4 : Nat) : Int) = (n : Int) - 4 by omega] at this
    exact this
  clear hop h3 f3 a3 s3 b4
  go_upto_region 9 with (go_at_call 10; refine hro.mono ?_; rintro e w4' ⟨rfl, rfl⟩)
  clear hro
  go_upto_if 56 with fail
  go_cut [12] (fun s12 wx => w4 = wx ∧ s12 = .int .i64 (K : Int))
  case first =>
    by_cases hneg : r < 0
    · have e : -r = (K : Int) := by have := HK.out; omega
      go_wp2
      go_meet
      case rel => exact ⟨rfl, rfl⟩
    · obtain rfl : r = (K : Int) := by have := HK.out; omega
      go_wp2
      go_meet
      case rel => exact ⟨rfl, rfl⟩
  case rest =>
  obtain ⟨rfl, rfl⟩ := hcut
  clear hr hr1 hr2 HK
  go_upto_region 14 with fail
  go_loopw [13, 14] (fun us i wr => ∃ k : Nat, k ≤ K ∧ i = .int .i64 k ∧ ∃ (u : Nat) (S : Jnl.Im) (d : Dk), us = .int .i64 u ∧ u ≤ 100 ∧ LG (Hi w.heap.size) x p G d S (k + 1) u wr ∧ Fine G.N (2003 + 203 * k) d ∧ d.armed = false ∧ Below w.heap.size w wr) (fun _ i _ => K - (intOf i).toNat)
  case atStart => exact ⟨0, Nat.zero_le _, rfl, 0, S0, d4, rfl, by omega, lg4, fi4, ar4, s4⟩
  case round =>
  clear lg4 fi4 ar4 s4
  obtain ⟨k, hk, rfl, u, S, d, rfl, hu100, hlg, hfi, har, hb⟩ := hrel
  by_cases hlt : k < K
  · have hlt' : (k : Int) < (K : Int) := by omega
    have hw := fun u => with7_any (UInt8.ofNat k) u
    have hk8 : (((UInt8.ofNat k).toNat : Nat) : Int) = (k : Int) := by rw [UInt8.toNat_ofNat']; omega
    rw [hk8] at hw
    have hXs := withB_size (UInt8.ofNat k)
    generalize withB (UInt8.ofNat k) = X at hw hXs
    clear hk8
    have hcm := fun u' (hb' : Below wr.heap.size wr u') => commit_1 w.heap.size x p G d S (k + 1) u (2003 + 203 * k) 39 X u' (hlg.old hb') (Nat.le_trans hb.size hb'.size) hpos (HT.out.old (below_step hb (Nat.le_refl _) hb')) hGle hfi (by omega) (by omega) hroom HD39.out hXs har
    rw [show ((39 : Nat) : Int) = 39 from rfl] at hcm
    have HCM := Lib.hid hcm
    clear hcm
    have hua : (m' : Nat) → uAfter G.m u 1 = (if n - 1 < u + 4 then 3 else u + 3) := fun _ => by
      have := HGM.out
      unfold uAfter
      by_cases h : n - 1 < u + 4
      · rw [if_pos h, if_pos (by omega)]
      · rw [if_neg h, if_neg (by omega)]
    have HUA := Lib.hid (hua 0)
    clear hua
    go_upto_region 18 with (first
      | (go_at_call 12; refine (hw _).mono ?_; rintro e w5 ⟨rfl, b5⟩; have hcm := HCM.out w5 b5)
      | (go_at_call 11; refine hcm.mono ?_; rintro e w6 ⟨d6, rfl, b6, lg6, fi6, ar6⟩))
    have s6 : Below w.heap.size w w6 := (below_step hb (Nat.le_refl _) b5).trans b6
    clear hcm HCM hw hlg hfi har hb b6 b5
    by_cases hc : n - 1 < u + 4
    · rw [HUA.out, if_pos hc] at lg6
      have hc' : (n : Int) - 1 < (u : Int) + 4 := by omega
      have hq : Calls Tryd.prog 13 #[.pointer (some ⟨x, 0, none⟩)] w6 (fun e w' => e = .returned (.int .i64 3) ∧ w6 = w') ∧ Calls Tryd.prog 14 #[.pointer (some ⟨x, 0, none⟩)] w6 (fun e w' => e = .returned (.int .i64 ((k : Int) + 2)) ∧ w6 = w') := by
        obtain ⟨pl, _, L⟩ := lg6
        have h1 := used_any _ x p G pl (k + 1 + 1) 3 w6 _ L
        have h2 := seq_any _ x p G pl (k + 1 + 1) 3 w6 _ L
        rw [show (((k + 1 + 1 : Nat)) : Int) = (k : Int) + 2 by omega] at h2
        exact ⟨h1, h2⟩
      obtain ⟨q1, q2⟩ := hq
      go_wp2_with (first
        | (go_at_call 13; refine q1.mono ?_; rintro e w7 ⟨rfl, rfl⟩)
        | (go_at_call 14; refine q2.mono ?_; rintro e w7 ⟨rfl, rfl⟩))
      go_roundw
      case rel => exact ⟨k + 1, by omega, by go_num, 3, _, d6, by go_num, by omega, lg6, fi6.mono (by omega), ar6, s6⟩
      case measure => simp [intOf]; omega
    · rw [HUA.out, if_neg hc] at lg6
      have hc' : ¬ (n : Int) - 1 < (u : Int) + 4 := by omega
      have hq : Calls Tryd.prog 13 #[.pointer (some ⟨x, 0, none⟩)] w6 (fun e w' => e = .returned (.int .i64 ((u : Int) + 3)) ∧ w6 = w') ∧ Calls Tryd.prog 14 #[.pointer (some ⟨x, 0, none⟩)] w6 (fun e w' => e = .returned (.int .i64 ((k : Int) + 2)) ∧ w6 = w') := by
        obtain ⟨pl, _, L⟩ := lg6
        have h1 := used_any _ x p G pl (k + 1 + 1) (u + 3) w6 _ L
        have h2 := seq_any _ x p G pl (k + 1 + 1) (u + 3) w6 _ L
        rw [show (((k + 1 + 1 : Nat)) : Int) = (k : Int) + 2 by omega] at h2
        rw [show (((u + 3 : Nat)) : Int) = (u : Int) + 3 by omega] at h1
        exact ⟨h1, h2⟩
      obtain ⟨q1, q2⟩ := hq
      have hu2 : u + 3 ≤ 100 := by omega
      go_wp2_with (first
        | (go_at_call 13; refine q1.mono ?_; rintro e w7 ⟨rfl, rfl⟩)
        | (go_at_call 14; refine q2.mono ?_; rintro e w7 ⟨rfl, rfl⟩))
      go_roundw
      case rel => exact ⟨k + 1, by omega, by go_num, u + 3, _, d6, by go_num, hu2, lg6, fi6.mono (by omega), ar6, s6⟩
      case measure => simp [intOf]; omega
  · obtain rfl : K = k := by omega
    obtain ⟨wo, rfl⟩ : ∃ wo, wo = wr := ⟨_, rfl⟩
    clear hlt hk
    have e0 : ((l.length : Int) == 0) = decide (l.length = 0) := by rw [Bool.eq_iff_iff]; simp
    have HE0 := Lib.hid e0
    clear e0
    go_upto_region 26 with fail
    go_loopw [15, 16, 17] (fun v bd i wr => ∃ j : Nat, j ≤ l.length ∧ j ≤ 12 ∧ i = .int .i64 j ∧ wr.ownsRow 0 35 2 v j (tzCs n (l.take j)) ∧ (∀ j, v.ownBlock = some j → wo.heap.size ≤ j) ∧ bd = .bool (decide (l.length = 0) || (l.take j).any (badO n)) ∧ Below wo.heap.size wo wr) (fun _ _ i _ => l.length - (intOf i).toNat)
    case atStart =>
      refine ⟨0, Nat.zero_le _, Nat.zero_le _, rfl, World.ownsRow_nil wo 0 _ 2, fun j e => by simp [Value.ownBlock] at e, ?_, Below.refl _ _⟩
      first | rw [HE0.out] | skip
      simp
    case round =>
    obtain ⟨k, hk, hk12, rfl, hO, hge, rfl, hbq⟩ := hrel
    obtain ⟨va, vc, rfl⟩ := own_slice hO
    clear HE0
    obtain ⟨b0, hb0⟩ : ∃ b0, b0 = (decide (l.length = 0) || (l.take k).any (badO n)) := ⟨_, rfl⟩
    rw [← hb0]
    have s6 := below_step hb (Nat.le_refl _) hbq
    by_cases hlt : k < l.length ∧ k < 12
    · obtain ⟨hlt, hl12⟩ := hlt
      have hlt' : (k : Int) < (l.length : Int) := by omega
      have hl12' : (k : Int) < 12 := by omega
      obtain ⟨b, off, rfl, hbB, hcs⟩ := HROW.out k hlt
      have hcc : ∀ u, Below w.heap.size w u → u.cell? ⟨b, off + k * 2, none⟩ = some (.int .i64 l[k].at_) ∧ u.cell? ⟨b, off + k * 2 + 1, none⟩ = some (.int .u8 (l[k].byte.toNat : Int)) := fun u hu =>
        ⟨(hu.cell (p := ⟨b, off + k * 2, none⟩) hbB).trans (hcs 0 _ rfl), (hu.cell (p := ⟨b, off + k * 2 + 1, none⟩) hbB).trans (by rw [Nat.add_assoc]; exact hcs 1 _ rfl)⟩
      have hw := fun u => with7_any l[k].byte u
      have hXs := withB_size l[k].byte
      have htl : (l.take (k + 1)).length = (l.take k).length + 1 := by rw [List.length_take, List.length_take]; omega
      have htz : tzCs n (l.take (k + 1)) = tzCs n (l.take k) ++ [.int .i64 l[k].at_, .string (sB l[k])] := by
        unfold tzCs
        rw [List.take_succ_eq_append_getElem hlt, List.flatMap_append]
        rfl
      have hbd : (decide (l.length = 0) || (l.take (k + 1)).any (badO n)) = (b0 || badO n l[k]) := by
        rw [hb0, List.take_succ_eq_append_getElem hlt, List.any_append, Bool.or_assoc]
        simp
      have hkl : (l.take k).length = k := by rw [List.length_take]; omega
      have hsB : (l[k].byte = 9 ∧ sB l[k] = (withB l[k].byte).extract 0 255 ∧ ((l[k].byte.toNat : Nat) : Int) = 9 ∧ badO n l[k] = true) ∨ (¬ ((l[k].byte.toNat : Nat) : Int) = 9 ∧ sB l[k] = withB l[k].byte ∧ badO n l[k] = (decide (l[k].at_ < (n : Int)) || decide (39 < l[k].at_))) := by
        by_cases h9 : l[k].byte = 9
        · refine .inl ⟨h9, by unfold sB; rw [if_pos h9], by rw [h9]; rfl, by unfold badO; rw [decide_eq_true h9]; rfl⟩
        · refine .inr ⟨fun h => h9 ?_, by unfold sB; rw [if_neg h9], by unfold badO; rw [decide_eq_false h9, Bool.false_or]⟩
          apply UInt8.toNat_inj.1
          have : (9 : UInt8).toNat = 9 := rfl
          omega
      have hzb := HOK.out l[k] (List.getElem_mem _)
      unfold i64ok at hzb
      obtain ⟨y, hy⟩ : ∃ y : Int, y = ((l[k].byte.toNat : Nat) : Int) := ⟨_, rfl⟩
      rw [← hy] at hw hsB
      simp only [← hy] at hcc
      generalize withB l[k].byte = X0 at *
      generalize sB l[k] = X at *
      generalize badO n l[k] = bo at *
      generalize l[k].at_ = z at *
      have HCC := Lib.hid hcc
      have HTZ := Lib.hid htz
      have HTL := Lib.hid htl
      have HBD := Lib.hid hbd
      have HKL := Lib.hid hkl
      have HO := Lib.hid hO
      have HB0 := Lib.hid hb0
      have c1 := (HCC.out wr s6).2
      clear hcc htz htl hbd hkl hy hcs hO hb0
      go_upto_region 29 with (go_at_call 12; refine (hw _).mono ?_; rintro e wp ⟨rfl, b8⟩)
      clear hw c1
      have hO := own_old HO.out b8
      have s8 := below_step s6 (Nat.le_refl _) b8
      have hbp := below_step hbq (Nat.le_refl _) b8
      have c0 := (HCC.out wp s8).1
      have c1 := (HCC.out wp s8).2
      clear HO hbq s6
      rcases hsB with ⟨_, rfl, h9, rfl⟩ | ⟨h9, rfl, hbo⟩
      · cases b0 with
        | true =>
          go_upto_region 32 with fail
          have HP := Lib.hid (show (decide (l.length = 0) || (l.take (k + 1)).any (badO n)) = true by rw [HBD.out]; rfl)
          go_wp2_with (at_builtin; refine wpList_append_one Tryd.underlying36 info_put rfl (by decide) (by decide) rfl (.tmp 143) (.tmp 151) rfl (.slice va k vc) k (tzCs n (l.take k)) rfl (by exact World.ownsRow.alloc hO _) wp.heap.size rfl [.int .i64 z, .string (X0.extract 0 255)] rfl (by intro u hu; simp at hu; rcases hu with rfl | rfl <;> rfl) (put_one wp _ _) (by omega) ?_; intro v' w2 hO2 hg2 hgo)
          go_roundw
          case rel =>
            refine ⟨k + 1, by omega, by omega, by go_num, ?_, fun j e => ?_, by rw [HP.out], ?_⟩
            · rw [HTZ.out]
              exact hO2
            · rcases hgo j e with e' | e'
              · exact hge j e'
              · simp at e'; have := hbp.size; omega
            · exact below_grown (hbp.alloc hbp.size _) hg2 (by simp; have := hbp.size; omega) hge
          case measure => simp [intOf]; omega
        | false =>
          go_upto_region 32 with fail
          have HP := Lib.hid (show (decide (l.length = 0) || (l.take (k + 1)).any (badO n)) = true by rw [HBD.out]; rfl)
          go_wp2_with (at_builtin; refine wpList_append_one Tryd.underlying36 info_put rfl (by decide) (by decide) rfl (.tmp 143) (.tmp 151) rfl (.slice va k vc) k (tzCs n (l.take k)) rfl (by exact World.ownsRow.alloc hO _) wp.heap.size rfl [.int .i64 z, .string (X0.extract 0 255)] rfl (by intro u hu; simp at hu; rcases hu with rfl | rfl <;> rfl) (put_one wp _ _) (by omega) ?_; intro v' w2 hO2 hg2 hgo)
          go_roundw
          case rel =>
            refine ⟨k + 1, by omega, by omega, by go_num, ?_, fun j e => ?_, by rw [HP.out], ?_⟩
            · rw [HTZ.out]
              exact hO2
            · rcases hgo j e with e' | e'
              · exact hge j e'
              · simp at e'; have := hbp.size; omega
            · exact below_grown (hbp.alloc hbp.size _) hg2 (by simp; have := hbp.size; omega) hge
          case measure => simp [intOf]; omega
      · have HBO := Lib.hid hbo
        clear hbo
        cases b0 with
        | true =>
          go_upto_region 32 with fail
          have HP := Lib.hid (show (decide (l.length = 0) || (l.take (k + 1)).any (badO n)) = true by rw [HBD.out]; rfl)
          go_wp2_with (at_builtin; refine wpList_append_one Tryd.underlying36 info_put rfl (by decide) (by decide) rfl (.tmp 143) (.tmp 151) rfl (.slice va k vc) k (tzCs n (l.take k)) rfl (by exact World.ownsRow.alloc hO _) wp.heap.size rfl [.int .i64 z, .string X] rfl (by intro u hu; simp at hu; rcases hu with rfl | rfl <;> rfl) (put_one wp _ _) (by omega) ?_; intro v' w2 hO2 hg2 hgo)
          go_roundw
          case rel =>
            refine ⟨k + 1, by omega, by omega, by go_num, ?_, fun j e => ?_, by rw [HP.out], ?_⟩
            · rw [HTZ.out]
              exact hO2
            · rcases hgo j e with e' | e'
              · exact hge j e'
              · simp at e'; have := hbp.size; omega
            · exact below_grown (hbp.alloc hbp.size _) hg2 (by simp; have := hbp.size; omega) hge
          case measure => simp [intOf]; omega
        | false =>
          by_cases h1 : z < (n : Int)
          · go_upto_region 32 with fail
            have HP := Lib.hid (show (decide (l.length = 0) || (l.take (k + 1)).any (badO n)) = true by rw [HBD.out]; rw [HBO.out, decide_eq_true h1]; rfl)
            go_wp2_with (at_builtin; refine wpList_append_one Tryd.underlying36 info_put rfl (by decide) (by decide) rfl (.tmp 143) (.tmp 151) rfl (.slice va k vc) k (tzCs n (l.take k)) rfl (by exact World.ownsRow.alloc hO _) wp.heap.size rfl [.int .i64 z, .string X] rfl (by intro u hu; simp at hu; rcases hu with rfl | rfl <;> rfl) (put_one wp _ _) (by omega) ?_; intro v' w2 hO2 hg2 hgo)
            go_roundw
            case rel =>
              refine ⟨k + 1, by omega, by omega, by go_num, ?_, fun j e => ?_, by rw [HP.out], ?_⟩
              · rw [HTZ.out]
                exact hO2
              · rcases hgo j e with e' | e'
                · exact hge j e'
                · simp at e'; have := hbp.size; omega
              · exact below_grown (hbp.alloc hbp.size _) hg2 (by simp; have := hbp.size; omega) hge
            case measure => simp [intOf]; omega
          · have h1' : (n : Int) ≤ z := by omega
            by_cases h2 : 39 < z
            · go_upto_region 32 with fail
              have HP := Lib.hid (show (decide (l.length = 0) || (l.take (k + 1)).any (badO n)) = true by rw [HBD.out]; rw [HBO.out, decide_eq_true h2, Bool.or_true]; rfl)
              go_wp2_with (at_builtin; refine wpList_append_one Tryd.underlying36 info_put rfl (by decide) (by decide) rfl (.tmp 143) (.tmp 151) rfl (.slice va k vc) k (tzCs n (l.take k)) rfl (by exact World.ownsRow.alloc hO _) wp.heap.size rfl [.int .i64 z, .string X] rfl (by intro u hu; simp at hu; rcases hu with rfl | rfl <;> rfl) (put_one wp _ _) (by omega) ?_; intro v' w2 hO2 hg2 hgo)
              go_roundw
              case rel =>
                refine ⟨k + 1, by omega, by omega, by go_num, ?_, fun j e => ?_, by rw [HP.out], ?_⟩
                · rw [HTZ.out]
                  exact hO2
                · rcases hgo j e with e' | e'
                  · exact hge j e'
                  · simp at e'; have := hbp.size; omega
                · exact below_grown (hbp.alloc hbp.size _) hg2 (by simp; have := hbp.size; omega) hge
              case measure => simp [intOf]; omega
            · have h2' : z ≤ 39 := by omega
              go_upto_region 32 with fail
              have HP := Lib.hid (show (decide (l.length = 0) || (l.take (k + 1)).any (badO n)) = false by rw [HBD.out]; rw [HBO.out, decide_eq_false h1, decide_eq_false h2]; rfl)
              go_wp2_with (at_builtin; refine wpList_append_one Tryd.underlying36 info_put rfl (by decide) (by decide) rfl (.tmp 143) (.tmp 151) rfl (.slice va k vc) k (tzCs n (l.take k)) rfl (by exact World.ownsRow.alloc hO _) wp.heap.size rfl [.int .i64 z, .string X] rfl (by intro u hu; simp at hu; rcases hu with rfl | rfl <;> rfl) (put_one wp _ _) (by omega) ?_; intro v' w2 hO2 hg2 hgo)
              go_roundw
              case rel =>
                refine ⟨k + 1, by omega, by omega, by go_num, ?_, fun j e => ?_, by rw [HP.out], ?_⟩
                · rw [HTZ.out]
                  exact hO2
                · rcases hgo j e with e' | e'
                  · exact hge j e'
                  · simp at e'; have := hbp.size; omega
                · exact below_grown (hbp.alloc hbp.size _) hg2 (by simp; have := hbp.size; omega) hge
              case measure => simp [intOf]; omega
    · have hend : k = l.length ∨ (k < l.length ∧ k = 12) := by omega
      have hlcl : (l.take k).length = k := by rw [List.length_take]; omega
      have hlc0 : ((l.take k).length = 0) ↔ l.length = 0 := by omega
      have hbL : b0 = badL n (l.take k) := by
        rw [hb0]; unfold badL
        rw [show (decide (l.length = 0)) = decide ((l.take k).length = 0) from decide_eq_decide.2 hlc0.symm]
      obtain ⟨lc, hlc⟩ : ∃ lc, lc = l.take k := ⟨_, rfl⟩
      rw [← hlc] at hO hbL hlcl
      have hlc12 : lc.length ≤ 12 := by omega
      have hO : wr.ownsRow 0 35 2 (.slice va k vc) lc.length (tzCs n lc) := by rw [hlcl]; exact hO
      have hlgq := hlg.old hbq
      obtain ⟨g, hpr, hgo⟩ := own_puts hO
      have hgw : wo.heap.size ≤ g := by
        by_cases h : g < wr.heap.size
        · exact hge g (hgo h)
        · have := hbq.size; omega
      have hal := HAL.out lc
      have hlw := hlg
      have hkn : ∀ q : Int, (q < (k : Int) ↔ q < (lc.length : Int)) := fun q => by rw [hlcl]
      have HKN := Lib.hid hkn
      clear hlc hb0 hlc0 hgo hge hO HROW HOK hlcl hkn
      rcases hend with h1 | ⟨h1, h2⟩
      · have h1' : ¬ (k : Int) < (l.length : Int) := by omega
        clear h1 hlt
        cases hbb : b0 with
        | true =>
          rw [hbb] at hbL
          rw [← hbL, if_pos rfl] at hal
          clear hbL hbb
          obtain ⟨plC, AC, LC⟩ := hlgq
          have hcm := Commit_bad _ x p G plC (K + 1) u d _ g wr (tz lc) LC hpr (by unfold tz; rw [List.length_map]; omega) (hfi.len) (by omega) (fun y hy => by obtain ⟨o, _, rfl⟩ := List.mem_map.1 hy; show (sB o).size ≤ _; rw [sB_size]; split <;> decide) (by rw [hal]; decide)
          rw [hal] at hcm
          have hAC : ∀ u', Below wr.heap.size wr u' → LG (Hi w.heap.size) x p G d S (K + 1) u u' := fun u' hu' => ⟨plC, AC, LC.old hu'⟩
          have HAC := Lib.hid hAC
          clear hAC AC LC
          go_upto_region 34 with (go_at_call 11; refine hcm.mono ?_; rintro e wC ⟨_, rfl, rfl, bC'⟩)
          have lgC := HAC.out wC bC'
          have bC := below_step s6 (Nat.le_refl _) bC'
          have fiC : Fine G.N (3000 + 203 * K) d := hfi.mono (by omega)
          have arC := har
          obtain ⟨dC, hdC⟩ : ∃ dC, dC = d := ⟨_, rfl⟩
          obtain ⟨qC, hqCd⟩ : ∃ qC, qC = K + 1 := ⟨_, rfl⟩
          have hqC : qC ≤ 549755813888 := by omega
          rw [← hqCd, ← hdC] at lgC
          rw [← hdC] at fiC arC
          generalize S = SC at lgC
          generalize u = uC at lgC
          clear hcm HAC hqCd hdC hlg hlw hfi har hbq
          have hck := checkpoint_hi w.heap.size x p G dC SC qC uC (3000 + 203 * K) wC lgC bC.size hpos (HT.out.old bC) hGle fiC (by omega) hqC
          go_upto_region 39 with fail
          go_wp2_with (first
            | (go_at_call 15; refine hck.mono ?_; rintro e wE ⟨xE, rfl, bE, hE, fE, LE, nE, rE⟩; rw [(rE arC).1, show eOf true = 0 from rfl]; obtain ⟨plE, AE, LsE⟩ := LE.all (rE arC).1; have qE := used_any _ x p G plE qC 0 wE _ LsE; rw [show ((0 : Nat) : Int) = 0 from rfl] at qE)
            | (go_at_call 13; refine qE.mono ?_; rintro e wF ⟨rfl, rfl⟩))
          go_ret
          exact ⟨rfl, bC.trans bE⟩
        | false =>
          rw [hbb] at hbL
          rw [← hbL, if_neg Bool.false_ne_true] at hal
          clear hbL hbb
          by_cases hbig : n - 4 < lc.length
          · rw [if_pos hbig] at hal
            have hbig' : (n : Int) - 4 < (k : Int) := (HKN.out _).2 (by omega)
            obtain ⟨plC, AC, LC⟩ := hlgq
            have hcm := Commit_bad _ x p G plC (K + 1) u d _ g wr (tz lc) LC hpr (by unfold tz; rw [List.length_map]; omega) (hfi.len) (by omega) (fun y hy => by obtain ⟨o, _, rfl⟩ := List.mem_map.1 hy; show (sB o).size ≤ _; rw [sB_size]; split <;> decide) (by rw [hal]; decide)
            rw [hal] at hcm
            have hAC : ∀ u', Below wr.heap.size wr u' → LG (Hi w.heap.size) x p G d S (K + 1) u u' := fun u' hu' => ⟨plC, AC, LC.old hu'⟩
            have HAC := Lib.hid hAC
            clear hAC AC LC
            go_upto_region 34 with (go_at_call 11; refine hcm.mono ?_; rintro e wC ⟨_, rfl, rfl, bC'⟩)
            have lgC := HAC.out wC bC'
            have bC := below_step s6 (Nat.le_refl _) bC'
            have fiC : Fine G.N (3000 + 203 * K) d := hfi.mono (by omega)
            have arC := har
            obtain ⟨dC, hdC⟩ : ∃ dC, dC = d := ⟨_, rfl⟩
            obtain ⟨qC, hqCd⟩ : ∃ qC, qC = K + 1 := ⟨_, rfl⟩
            have hqC : qC ≤ 549755813888 := by omega
            rw [← hqCd, ← hdC] at lgC
            rw [← hdC] at fiC arC
            generalize S = SC at lgC
            generalize u = uC at lgC
            clear hcm HAC hqCd hdC hlg hlw hfi har hbq
            have hck := checkpoint_hi w.heap.size x p G dC SC qC uC (3000 + 203 * K) wC lgC bC.size hpos (HT.out.old bC) hGle fiC (by omega) hqC
            go_upto_region 39 with fail
            go_wp2_with (first
              | (go_at_call 15; refine hck.mono ?_; rintro e wE ⟨xE, rfl, bE, hE, fE, LE, nE, rE⟩; rw [(rE arC).1, show eOf true = 0 from rfl]; obtain ⟨plE, AE, LsE⟩ := LE.all (rE arC).1; have qE := used_any _ x p G plE qC 0 wE _ LsE; rw [show ((0 : Nat) : Int) = 0 from rfl] at qE)
              | (go_at_call 13; refine qE.mono ?_; rintro e wF ⟨rfl, rfl⟩))
            go_ret
            exact ⟨rfl, bC.trans bE⟩
          · rw [if_neg hbig] at hal
            have hbig' : ¬ (n : Int) - 4 < (k : Int) := fun h => by have := (HKN.out _).1 h; omega
            obtain ⟨t, htz, ht1, htr, hty⟩ := allow_zero hal
            rw [htz] at hpr
            have hcm := commit_hi w.heap.size x p G d S (K + 1) u (2003 + 203 * K) _ t g wo wr hlw hbq hb.size hgw hpos (HT.out.old s6) hpr hGle hfi (by omega) (by omega) ht1 htr hty
            clear hlgq hal htz ht1 htr hty hpr
            go_upto_region 34 with (go_at_call 11; refine hcm.mono ?_; rintro e wC ⟨xC, rfl, bC', _, _, fC, LC, _, rC⟩; rw [(rC har).1, show eOf true = 0 from rfl])
            have lgC := LC.all (rC har).1
            have arC := (rC har).2
            have bC := s6.trans bC'
            have fiC : Fine G.N (3000 + 203 * K) xC.1 := fC.mono (by omega)
            clear hcm LC rC fC hlg hlw hfi har hbq
            obtain ⟨dC, hdC⟩ : ∃ dC, dC = xC.1 := ⟨_, rfl⟩
            obtain ⟨qC, hqCd⟩ : ∃ qC, qC = K + 1 + 1 := ⟨_, rfl⟩
            have hqC : qC ≤ 549755813888 := by omega
            rw [← hqCd, ← hdC] at lgC
            rw [← hdC] at fiC arC
            generalize uAfter G.m u t.length = uC at lgC
            generalize (fun a => Jnl.after t a (S a)) = SC at lgC
            clear hqCd hdC
            have hck := checkpoint_hi w.heap.size x p G dC SC qC uC (3000 + 203 * K) wC lgC bC.size hpos (HT.out.old bC) hGle fiC (by omega) hqC
            go_upto_region 39 with fail
            go_wp2_with (first
              | (go_at_call 15; refine hck.mono ?_; rintro e wE ⟨xE, rfl, bE, hE, fE, LE, nE, rE⟩; rw [(rE arC).1, show eOf true = 0 from rfl]; obtain ⟨plE, AE, LsE⟩ := LE.all (rE arC).1; have qE := used_any _ x p G plE qC 0 wE _ LsE; rw [show ((0 : Nat) : Int) = 0 from rfl] at qE)
              | (go_at_call 13; refine qE.mono ?_; rintro e wF ⟨rfl, rfl⟩))
            go_ret
            exact ⟨rfl, bC.trans bE⟩
      · have h1' : (k : Int) < (l.length : Int) := by omega
        have h2' : ¬ (k : Int) < 12 := by omega
        clear h1 h2 hlt
        cases hbb : b0 with
        | true =>
          rw [hbb] at hbL
          rw [← hbL, if_pos rfl] at hal
          clear hbL hbb
          obtain ⟨plC, AC, LC⟩ := hlgq
          have hcm := Commit_bad _ x p G plC (K + 1) u d _ g wr (tz lc) LC hpr (by unfold tz; rw [List.length_map]; omega) (hfi.len) (by omega) (fun y hy => by obtain ⟨o, _, rfl⟩ := List.mem_map.1 hy; show (sB o).size ≤ _; rw [sB_size]; split <;> decide) (by rw [hal]; decide)
          rw [hal] at hcm
          have hAC : ∀ u', Below wr.heap.size wr u' → LG (Hi w.heap.size) x p G d S (K + 1) u u' := fun u' hu' => ⟨plC, AC, LC.old hu'⟩
          have HAC := Lib.hid hAC
          clear hAC AC LC
          go_upto_region 34 with (go_at_call 11; refine hcm.mono ?_; rintro e wC ⟨_, rfl, rfl, bC'⟩)
          have lgC := HAC.out wC bC'
          have bC := below_step s6 (Nat.le_refl _) bC'
          have fiC : Fine G.N (3000 + 203 * K) d := hfi.mono (by omega)
          have arC := har
          obtain ⟨dC, hdC⟩ : ∃ dC, dC = d := ⟨_, rfl⟩
          obtain ⟨qC, hqCd⟩ : ∃ qC, qC = K + 1 := ⟨_, rfl⟩
          have hqC : qC ≤ 549755813888 := by omega
          rw [← hqCd, ← hdC] at lgC
          rw [← hdC] at fiC arC
          generalize S = SC at lgC
          generalize u = uC at lgC
          clear hcm HAC hqCd hdC hlg hlw hfi har hbq
          have hck := checkpoint_hi w.heap.size x p G dC SC qC uC (3000 + 203 * K) wC lgC bC.size hpos (HT.out.old bC) hGle fiC (by omega) hqC
          go_upto_region 39 with fail
          go_wp2_with (first
            | (go_at_call 15; refine hck.mono ?_; rintro e wE ⟨xE, rfl, bE, hE, fE, LE, nE, rE⟩; rw [(rE arC).1, show eOf true = 0 from rfl]; obtain ⟨plE, AE, LsE⟩ := LE.all (rE arC).1; have qE := used_any _ x p G plE qC 0 wE _ LsE; rw [show ((0 : Nat) : Int) = 0 from rfl] at qE)
            | (go_at_call 13; refine qE.mono ?_; rintro e wF ⟨rfl, rfl⟩))
          go_ret
          exact ⟨rfl, bC.trans bE⟩
        | false =>
          rw [hbb] at hbL
          rw [← hbL, if_neg Bool.false_ne_true] at hal
          clear hbL hbb
          by_cases hbig : n - 4 < lc.length
          · rw [if_pos hbig] at hal
            have hbig' : (n : Int) - 4 < (k : Int) := (HKN.out _).2 (by omega)
            obtain ⟨plC, AC, LC⟩ := hlgq
            have hcm := Commit_bad _ x p G plC (K + 1) u d _ g wr (tz lc) LC hpr (by unfold tz; rw [List.length_map]; omega) (hfi.len) (by omega) (fun y hy => by obtain ⟨o, _, rfl⟩ := List.mem_map.1 hy; show (sB o).size ≤ _; rw [sB_size]; split <;> decide) (by rw [hal]; decide)
            rw [hal] at hcm
            have hAC : ∀ u', Below wr.heap.size wr u' → LG (Hi w.heap.size) x p G d S (K + 1) u u' := fun u' hu' => ⟨plC, AC, LC.old hu'⟩
            have HAC := Lib.hid hAC
            clear hAC AC LC
            go_upto_region 34 with (go_at_call 11; refine hcm.mono ?_; rintro e wC ⟨_, rfl, rfl, bC'⟩)
            have lgC := HAC.out wC bC'
            have bC := below_step s6 (Nat.le_refl _) bC'
            have fiC : Fine G.N (3000 + 203 * K) d := hfi.mono (by omega)
            have arC := har
            obtain ⟨dC, hdC⟩ : ∃ dC, dC = d := ⟨_, rfl⟩
            obtain ⟨qC, hqCd⟩ : ∃ qC, qC = K + 1 := ⟨_, rfl⟩
            have hqC : qC ≤ 549755813888 := by omega
            rw [← hqCd, ← hdC] at lgC
            rw [← hdC] at fiC arC
            generalize S = SC at lgC
            generalize u = uC at lgC
            clear hcm HAC hqCd hdC hlg hlw hfi har hbq
            have hck := checkpoint_hi w.heap.size x p G dC SC qC uC (3000 + 203 * K) wC lgC bC.size hpos (HT.out.old bC) hGle fiC (by omega) hqC
            go_upto_region 39 with fail
            go_wp2_with (first
              | (go_at_call 15; refine hck.mono ?_; rintro e wE ⟨xE, rfl, bE, hE, fE, LE, nE, rE⟩; rw [(rE arC).1, show eOf true = 0 from rfl]; obtain ⟨plE, AE, LsE⟩ := LE.all (rE arC).1; have qE := used_any _ x p G plE qC 0 wE _ LsE; rw [show ((0 : Nat) : Int) = 0 from rfl] at qE)
              | (go_at_call 13; refine qE.mono ?_; rintro e wF ⟨rfl, rfl⟩))
            go_ret
            exact ⟨rfl, bC.trans bE⟩
          · rw [if_neg hbig] at hal
            have hbig' : ¬ (n : Int) - 4 < (k : Int) := fun h => by have := (HKN.out _).1 h; omega
            obtain ⟨t, htz, ht1, htr, hty⟩ := allow_zero hal
            rw [htz] at hpr
            have hcm := commit_hi w.heap.size x p G d S (K + 1) u (2003 + 203 * K) _ t g wo wr hlw hbq hb.size hgw hpos (HT.out.old s6) hpr hGle hfi (by omega) (by omega) ht1 htr hty
            clear hlgq hal htz ht1 htr hty hpr
            go_upto_region 34 with (go_at_call 11; refine hcm.mono ?_; rintro e wC ⟨xC, rfl, bC', _, _, fC, LC, _, rC⟩; rw [(rC har).1, show eOf true = 0 from rfl])
            have lgC := LC.all (rC har).1
            have arC := (rC har).2
            have bC := s6.trans bC'
            have fiC : Fine G.N (3000 + 203 * K) xC.1 := fC.mono (by omega)
            clear hcm LC rC fC hlg hlw hfi har hbq
            obtain ⟨dC, hdC⟩ : ∃ dC, dC = xC.1 := ⟨_, rfl⟩
            obtain ⟨qC, hqCd⟩ : ∃ qC, qC = K + 1 + 1 := ⟨_, rfl⟩
            have hqC : qC ≤ 549755813888 := by omega
            rw [← hqCd, ← hdC] at lgC
            rw [← hdC] at fiC arC
            generalize uAfter G.m u t.length = uC at lgC
            generalize (fun a => Jnl.after t a (S a)) = SC at lgC
            clear hqCd hdC
            have hck := checkpoint_hi w.heap.size x p G dC SC qC uC (3000 + 203 * K) wC lgC bC.size hpos (HT.out.old bC) hGle fiC (by omega) hqC
            go_upto_region 39 with fail
            go_wp2_with (first
              | (go_at_call 15; refine hck.mono ?_; rintro e wE ⟨xE, rfl, bE, hE, fE, LE, nE, rE⟩; rw [(rE arC).1, show eOf true = 0 from rfl]; obtain ⟨plE, AE, LsE⟩ := LE.all (rE arC).1; have qE := used_any _ x p G plE qC 0 wE _ LsE; rw [show ((0 : Nat) : Int) = 0 from rfl] at qE)
              | (go_at_call 13; refine qE.mono ?_; rintro e wF ⟨rfl, rfl⟩))
            go_ret
            exact ⟨rfl, bC.trans bE⟩
set_option maxRecDepth 100000 in
theorem lifted (os : Os) (started : os.Started) (H : Type) (enc : TypeId × Value → H) :
    ReturnsInHanded {} Tryd.checked os 3 .any (fun w args => (Rows.redoTellsSpec.pre enc Tryd.prog Tryd.f3 [] false w args ∧ laidMetH Tryd.prog [("scrinium/check.fourSteps", Rows.laid_scrinium_check_fourSteps)] w) ∧ sizedMet enc Tryd.prog Tryd.f3 (OpenSpec.ofChange Rows.redoTellsSpec) false w args)
      (Rows.redoTellsSpec.post enc Tryd.prog Tryd.f3 false true false false) := by
  refine returnsInHanded_of_change_and (C := Tryd.checked) (X := fun w _ => laidMetH Tryd.prog [("scrinium/check.fourSteps", Rows.laid_scrinium_check_fourSteps)] w) (fun _ _ _ hh h => h.of_heap hh) lawOwn started (by kernel_rfl) Tryd.func3
    (ChangeSpec.witness_shaped (enc := enc) (C := Tryd.checked) (os := os) (X := fun w _ => laidMetH Tryd.prog [("scrinium/check.fourSteps", Rows.laid_scrinium_check_fourSteps)] w) false (World.doorLaid Tryd.prog 400 os) #[.int .i64 0, .slice none 0 0, .int .i64 0] 8 rfl (World.shaped_of_RefB (by kernel_rfl) (by kernel_rfl)) (by kernel_rfl) (by kernel_rfl) (by kernel_rfl) (door_met os _)) ?_
  intro W base args ds gs before hval0 hW _ _ hL _
  have hval : ∀ (j : Nat) t v, Tryd.f3.params[j]? = some t → args[j]? = some v → Value.okWide Tryd.prog W .any base t v := hval0
  have hW' := hW
  obtain ⟨p, q, hA0, hV, rfl, hfz, hnd⟩ := hW
  have hA : DataW.TrodAll enc Tryd.prog W 0 (fun _ => true) true Tryd.f3.params.toList args.toList ds p := hA0
  rw [Tryd.params3] at hA hval
  obtain ⟨v0, vs0, d0, ds0, p0, q0, hargs, rfl, rfl, h0, r0⟩ := trodAll_cons hA
  obtain ⟨v1, vs1, d1, ds1, p1, q1, rfl, rfl, rfl, h1, r1⟩ := trodAll_cons r0
  obtain ⟨v2, vs2, d2, ds2, p2, q2, rfl, rfl, rfl, h2, r2⟩ := trodAll_cons r1
  obtain ⟨rfl, rfl, rfl⟩ := trodAll_nil r2
  obtain rfl : args = #[v0, v1, v2] := by cases args; simp_all
  obtain ⟨rfl, rfl⟩ := trodVars_none hV
  have hKT := KT_of_laid hL
  obtain ⟨a0, rfl, rfl, rfl, w0⟩ := open_int Tryd.underlying3 (hval 0 3 v0 rfl rfl) h0
  obtain ⟨a1, len1, cap1, rfl⟩ := okWide_slice Tryd.underlying22 (hval 1 22 v1 rfl rfl)
  obtain ⟨l1, w1⟩ := specs_of h1
  obtain ⟨a2, rfl, rfl, rfl, w2⟩ := open_int Tryd.underlying3 (hval 2 3 v2 rfl rfl) h2
  clear hA0 hval0
  obtain ⟨l0, m0⟩ := i64_bounds w0
  obtain ⟨l2, m2⟩ := i64_bounds w2
  refine (walk (w := W) hKT a0 l0 m0 _ l1 w1 a2 l2 m2).mono fun e W' ⟨he, bel⟩ => ?_
  subst he
  exact ⟨_, rfl, law_post rfl rfl (by kernel_rfl) hW' rfl bel⟩

theorem row_holds : Rows.RedoTellsSaid :=
  OpenClaim.holds_of_wide 3 Tryd.f3 rfl rfl rfl rfl rfl rfl rfl ⟨rfl, rfl, rfl, rfl, rfl⟩ rfl rfl rfl rfl rfl (by kernel_rfl) Tryd.func3 (by kernel_rfl)
    (of_decide_eq_true (by kernel_rfl)) (by unfold Func.isWrapper; first | (rw [if_pos (by decide +kernel)]; kernel_rfl) | (rw [if_neg (by decide +kernel)]; exact ⟨rfl, rfl⟩))
    (fun os started H enc _ => lifted os started H enc)

theorem holds : Rows.RedoTellsCardSaid :=
  Claim7.holds_tied_plain_at .later [] [.data] true Rows.redoTellsCard.stood.harness false
    row_holds (fun _ h => by cases h) (by kernel_rfl) (fun _ h => by cases h) redoTells_row_tie rfl ⟨rfl, rfl⟩ (by kernel_rfl) rfl
    (fun f fn hf hfn => by
      obtain rfl : f = 3 := Option.some.inj ((show Tryd.prog.funcNamed "scrinium/scriniumlaw07.RedoTells" = some 3 by kernel_rfl).symm.trans hf) |>.symm
      obtain rfl : fn = Tryd.f3 := (Option.some.inj (Tryd.func3.symm.trans hfn)).symm
      exact ⟨by kernel_rfl, fun j t ht => by
        rw [Tryd.params3] at ht
        have hm : t ∈ [3, 22, 3] := by simpa using Array.mem_of_getElem? ht
        have hall : ([3, 22, 3].all fun u => !Tryd.prog.wantsStandIn u) = true := by kernel_rfl
        exact (show Tryd.prog.wantsStandIn t = false by simpa using List.all_eq_true.1 hall t hm)⟩)
    (by kernel_rfl)
end Go.Proofs.YteggaeopnljgnaaDoor.redoTells

theorem Go.Proofs.YteggaeopnljgnaaDoor.redoTells_holds : Go.Proofs.YteggaeopnljgnaaDoor.Rows.RedoTellsCardSaid := Go.Proofs.YteggaeopnljgnaaDoor.redoTells.holds
#print axioms Go.Proofs.YteggaeopnljgnaaDoor.redoTells_holds
