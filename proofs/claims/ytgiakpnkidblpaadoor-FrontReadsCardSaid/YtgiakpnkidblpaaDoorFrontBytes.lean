/-
  Package front: Bytes; the document's own.
-/
import Derived.Test.YtgiakpnkidblpaaDoorFrontRoot
import Derived.Test.YtgiakpnkidblpaaDoorMOctL
namespace Go.Proofs.YtgiakpnkidblpaaDoor
open Go.RowKit

/-- Hashes as texts. -/
def strS (P : Hs) : List ByteArray := P.map fun x => ⟨x.toArray⟩
theorem strS_length (P : Hs) : (strS P).length = P.length := by simp [strS]
theorem strS_take (P : Hs) (k : Nat) (h : k < P.length) : (strS (P.take (k + 1))).map Value.string = (strS (P.take k)).map Value.string ++ [.string ⟨P[k].toArray⟩] := by
  unfold strS
  rw [List.take_succ_eq_append_getElem h, List.map_append, List.map_append]
  rfl
theorem strS_small (P : Hs) (h : all32 P) : ∀ t ∈ strS P, t.size ≤ 1000 := by
  intro t ht
  obtain ⟨x, hx, rfl⟩ := List.mem_map.1 ht
  have := h x hx
  simp [ByteArray.size, this]
theorem row_keep {base : Nat} {e : TypeId} {size : Nat} {v : Value} {n : Nat} {xs : List Value} {w w' : World} (h : w.ownsRow base e size v n xs) (k : Below w.heap.size w w') : w'.ownsRow base e size v n xs := by
  obtain ⟨h1, h2⟩ := h
  refine ⟨h1, ?_⟩
  rcases h2 with h2 | ⟨g, cap, cur, hv, hg, hh, r⟩
  · exact Or.inl h2
  · exact Or.inr ⟨g, cap, cur, hv, hg, (k.block g (Array.getElem?_eq_some_iff.1 hh).1).trans hh, r⟩
/-- The bytes of a front. -/
def frontB (n : Nat) (P : Hs) : ByteArray := Oct.putB n ++ ⟨(listL (strS P)).toArray⟩
theorem list_size (P : Hs) (h : all32 P) (hl : P.length ≤ 1000) : (⟨(listL (strS P)).toArray⟩ : ByteArray).size ≤ 1100000 := by
  have h1 := txts_length (strS P) (strS_small P h)
  have h2 := putL_le (strS P).length (by rw [strS_length]; omega)
  rw [strS_length] at h1 h2
  rw [ByteArray.size, List.size_toArray, listL, List.length_append, strS_length]
  omega

set_option maxHeartbeats 3200000 in
set_option maxRecDepth 100000 in
theorem fbytes_gen (fv : Value) (n : Nat) (P : Hs) (w : World) (hP : ∀ u, Below w.heap.size w u → Calls Tryd.prog 14 #[fv] u fun e w' => ∃ v', e = .returned v' ∧ OwnS u.heap.size w' v' P ∧ Below u.heap.size u w')
    (hs : ∀ u, Below w.heap.size w u → Calls Tryd.prog 15 #[fv] u fun e w' => e = .returned (.int .i64 (n : Int)) ∧ u = w') (hn : n ≤ 1099511627776) (hl : P.length ≤ 40) (hok : all32 P) :
    Calls Tryd.prog 18 #[fv] w fun e w' => e = .returned (.string (frontB n P)) ∧ Below w.heap.size w w' := by
  obtain ⟨i0, hi, hz0, hz1, hz2⟩ := info_parts info_strL
  obtain ⟨k, hk⟩ : ∃ k, k = P.length := ⟨_, rfl⟩
  have hsz := list_size P hok (by omega)
  have hpz := Oct.putB_size n
  have hpn := Oct.need_le n (by omega)
  have hss := strS_small P hok
  have hfb : frontB n P = Oct.putB n ++ ⟨(listL (strS P)).toArray⟩ := rfl
  obtain ⟨L, hL⟩ : ∃ L : ByteArray, L = ⟨(listL (strS P)).toArray⟩ := ⟨_, rfl⟩
  rw [← hL] at hsz hfb
  have hu := (Int.emod_eq_of_lt (a := (n : Int)) (b := 18446744073709551616) (by omega) (by omega))
  have huw : IntKind.u64.wrap (n : Int) = (n : Int) := by rw [IntKind.wrap_u64]; exact hu
  have HP := Lib.hid hP
  have HS := Lib.hid hs
  have HOK := Lib.hid hok
  have HSS := Lib.hid hss
  have HFB := Lib.hid hfb
  have HL := Lib.hid hL
  have Hk := Lib.hid hk
  have hl40 : k ≤ 40 := by omega
  clear hP hs hok hss hfb hL hk hl hu
  go_enter Tryd.func18, Tryd.ntmps18
  go_wp2_with (first
    | (go_at_call 14; refine (HP.out _ (Below.refl _ _)).mono ?_; rintro e V ⟨v2, rfl, ho2, b2⟩; have HO2 := Lib.hid ho2.sums; obtain ⟨a2, c2, rfl, -, -⟩ := ho2.sums.slice; clear ho2; rw [← Hk.out] at HO2 ⊢))
  obtain ⟨B1, hB1⟩ : ∃ B1, B1 = V.heap.size := ⟨_, rfl⟩
  have HB1 := Lib.hid hB1
  have Hb2 := Lib.hid b2
  clear hB1 b2
  go_loopw [3, 5, 9] (fun s3 s5 s9 wr => ∃ i : Nat, i ≤ k ∧ s9 = .int .i64 i ∧ wr.ownsRow B1 9 1 s3 i ((strS (P.take i)).map Value.string) ∧ Below B1 V wr)
    (fun _ _ s9 _ => k - (intOf s9).toNat)
  case atStart => exact ⟨0, Nat.zero_le _, rfl, by simpa [strS] using World.ownsRow_nil _ _ _ _, Below.refl _ _⟩
  case round =>
    obtain ⟨i, hik, rfl, hown, hb⟩ := hrel
    have hB1w : B1 ≤ wr.heap.size := by have := hb.size; rw [HB1.out]; exact this
    have HBl := Lib.hid hb
    by_cases hlt : i < k
    · obtain ⟨b, off, rfl, hbl, -, hr⟩ := HO2.out.at i (by rw [← Hk.out]; exact hlt)
      obtain ⟨x, hx⟩ : ∃ x, x = P[i]'(by rw [← Hk.out]; exact hlt) := ⟨_, rfl⟩
      rw [← hx] at hr
      have hxl : x.length = 32 := by rw [hx]; exact HOK.out _ (List.getElem_mem _)
      have hrw := below_range' hb (by rw [HB1.out]; exact hbl) hr
      have hst := strS_take P i (by rw [← Hk.out]; exact hlt)
      rw [← hx] at hst
      have hlt' : (i : Int) < (k : Int) := by omega
      have hw1 := IntWalk.i64_in ((i : Int) + 1) (by omega)
      have hidx := fun u => index_sums b off k c2 i hlt u
      have HXl := Lib.hid hxl
      have HRW := Lib.hid hrw
      have HST := Lib.hid hst
      have hz := heap_alloc_last wr zSum
      have v1 : ((wr.alloc zSum).setCells wr.heap.size 0 (x.map u8V)).heap[wr.heap.size]? = some (.cells (x.map u8V).toArray 31 (0, 0)) := heap_setCells_all wr _ _ (by simp [hxl])
      have v2 : Below wr.heap.size wr ((wr.alloc zSum).setCells wr.heap.size 0 (x.map u8V)) := below_setCells (Nat.le_refl _) _ _ _ ((Below.refl _ _).alloc (Nat.le_refl _) _)
      have hk1 := row_keep hown v2
      have HV1 := Lib.hid v1
      have HV2 := Lib.hid v2
      have HOW := Lib.hid hk1
      clear hb hx hr hxl hrw hst hown v1 v2 hk1
      obtain ⟨V6, hV6⟩ : ∃ u, u = (wr.alloc zSum).setCells wr.heap.size 0 (x.map u8V) := ⟨_, rfl⟩
      go_upto_region 5 with (first
        | refine wpList_load_mid rfl 31 (.tmp 11) rfl b (off + i * 32) rfl (x.map u8V) _ HRW.out Tryd.underlying31 rfl (sum_info' HXl.out) ?_
        | refine wpList_store_mid rfl 31 (.tmp 5) (.tmp 12) rfl wr.heap.size 0 (x.map u8V).toArray rfl rfl (sum_there hz HXl.out) (sum_info HXl.out) (sum_one x) ?_)
      change Code.wp _ _ _ _ ((wr.alloc zSum).setCells wr.heap.size 0 (x.map u8V))
      rw [← hV6] at HV1 HV2 HOW ⊢
      clear hV6 hz
      obtain ⟨X, hX⟩ : ∃ X : ByteArray, X = ⟨x.toArray⟩ := ⟨_, rfl⟩
      have HBY : Hid (∀ u, Calls Tryd.prog 34 #[sumV x] u fun e w' => e = .returned (.string X) ∧ Below u.heap.size u w') := Lib.hid fun u => by rw [hX]; exact bytes_any x u HXl.out
      rw [← hX] at HST
      unfold sumV at HBY
      have hB6 : B1 ≤ V6.heap.size := Nat.le_trans hB1w HV2.out.size
      clear hX
      go_wp2_with (first
        | refine wpList_load_mid rfl 31 (.tmp 5) rfl wr.heap.size 0 rfl (x.map u8V) _ (range_of HV1.out) Tryd.underlying31 rfl (sum_info' HXl.out) ?_
        | (go_at_call 34; ((with_reducible refine (HBY.out _).mono ?_); rintro e w5 ⟨rfl, b5⟩))
        | (at_builtin; refine wpList_append_own _ rfl _ _ 56 rfl B1 9 i0 (.string ⟨#[]⟩) 1 16 Tryd.underlying56 hi hz0 hz1 hz2 rfl (by decide) _ _ _ rfl ((row_keep HOW.out b5).alloc _) ⟨w5.heap.size, 0, none⟩ 1 1 [.string X] rfl rfl (cell_one_new _ _ _) (by intro u hu; simp at hu; subst hu; rfl) (by unfold maxLen; omega) (by omega) (by have := b5.size; simp; omega) ?_; intro v' w3 hown' hgrow _))
      rw [← HST.out] at hown'
      have Bl : Below B1 w5 w3 := ((Below.refl _ w5).alloc (Nat.le_trans hB6 b5.size) _).grown hgrow (by have := b5.size; simp; omega) (fun g hg => (HOW.out.lt g hg).1)
      refine ⟨⟨i + 1, by omega, by go_num, hown', ((HBl.out.trans (HV2.out.mono hB1w)).trans (b5.mono hB6)).trans Bl⟩, by simp [intOf]; omega⟩
    · have hi' : i = k := by omega
      subst hi'
      have hsr : StrRow wr u3 (strS P) := by
        have := StrRow.of_own (ts := strS P) (n := i) (by have := hown; rwa [List.take_of_length_le (by rw [← Hk.out]; exact Nat.le_refl _)] at this) (by rw [strS_length, ← Hk.out]; omega)
        exact this
      have HSR := Lib.hid hsr
      have hk2 : Below w.heap.size w wr := below_step Hb2.out (Nat.le_refl _) (hb.mono (by rw [HB1.out]; exact Nat.le_refl _))
      have HK2 := Lib.hid hk2
      clear hb hown hsr hk2
      go_wp2_with (first
        | (go_at_call 15; refine (HS.out _ HK2.out).mono ?_; rintro e w6 ⟨rfl, rfl⟩)
        | (go_at_call 35; refine (put_any n _ (by omega)).mono ?_; rintro e w7 ⟨rfl, b7⟩)
        | (go_at_call 36; refine (listPut_any _ (strS P) _ (HSR.out.old b7) (by rw [strS_length, ← Hk.out]; omega) HSS.out).mono ?_; rw [← HL.out]; rintro e w8 ⟨rfl, b8⟩))
      go_ret
      exact ⟨by rw [HFB.out]; rfl, below_step (below_step HK2.out (Nat.le_refl _) b7) (Nat.le_refl _) b8⟩

set_option maxHeartbeats 3200000 in
set_option maxRecDepth 100000 in
theorem rbytes11_any (v : Value) (n : Nat) (P : Hs) (w : World) (hv : Sums w v P) (hn : n ≤ 1099511627777) (hl : P.length ≤ 40) :
    Calls Tryd.prog 19 #[.int .i64 (n : Int), v] w fun e w' => e = .returned (.string (frontB n P)) ∧ Below w.heap.size w w' := by
  obtain ⟨i0, hi, hz0, hz1, hz2⟩ := info_parts info_strL
  obtain ⟨k, hk⟩ : ∃ k, k = P.length := ⟨_, rfl⟩
  have hok := hv.ok
  have hsz := list_size P hok (by omega)
  have hpz := Oct.putB_size n
  have hpn := Oct.need_le n (by omega)
  have hss := strS_small P hok
  have hfb : frontB n P = Oct.putB n ++ ⟨(listL (strS P)).toArray⟩ := rfl
  obtain ⟨L, hL⟩ : ∃ L : ByteArray, L = ⟨(listL (strS P)).toArray⟩ := ⟨_, rfl⟩
  rw [← hL] at hsz hfb
  have hu := (Int.emod_eq_of_lt (a := (n : Int)) (b := 18446744073709551616) (by omega) (by omega))
  have huw : IntKind.u64.wrap (n : Int) = (n : Int) := by rw [IntKind.wrap_u64]; exact hu
  obtain ⟨va, vc, rfl, -, -⟩ := hv.slice
  rw [← hk] at hv ⊢
  have HV := Lib.hid hv
  have HOK := Lib.hid hok
  have HSS := Lib.hid hss
  have HFB := Lib.hid hfb
  have HL := Lib.hid hL
  have Hk := Lib.hid hk
  have hl40 : k ≤ 40 := by omega
  obtain ⟨B1, hB1⟩ : ∃ B1, B1 = w.heap.size := ⟨_, rfl⟩
  have HB1 := Lib.hid hB1
  clear hv hok hss hfb hL hk hl hu hB1
  go_enter Tryd.func19, Tryd.ntmps19
  go_wp2
  go_loopw [5, 6] (fun s3 s9 wr => ∃ i : Nat, i ≤ k ∧ s9 = .int .i64 i ∧ wr.ownsRow B1 9 1 s3 i ((strS (P.take i)).map Value.string) ∧ Below B1 w wr)
    (fun _ s9 _ => k - (intOf s9).toNat)
  case atStart => exact ⟨0, Nat.zero_le _, rfl, by simpa [strS] using World.ownsRow_nil _ _ _ _, Below.refl _ _⟩
  case round =>
    obtain ⟨i, hik, rfl, hown, hb⟩ := hrel
    have hB1w : B1 ≤ wr.heap.size := by have := hb.size; rw [HB1.out]; exact this
    have HBl := Lib.hid hb
    by_cases hlt : i < k
    · obtain ⟨b, off, rfl, hbl, -, hr⟩ := HV.out.at i (by rw [← Hk.out]; exact hlt)
      obtain ⟨x, hx⟩ : ∃ x, x = P[i]'(by rw [← Hk.out]; exact hlt) := ⟨_, rfl⟩
      rw [← hx] at hr
      have hxl : x.length = 32 := by rw [hx]; exact HOK.out _ (List.getElem_mem _)
      have hrw := below_range' hb (by rw [HB1.out]; exact hbl) hr
      have hst := strS_take P i (by rw [← Hk.out]; exact hlt)
      rw [← hx] at hst
      have hlt' : (i : Int) < (k : Int) := by omega
      have hw1 := IntWalk.i64_in ((i : Int) + 1) (by omega)
      have hidx := fun u => index_sums b off k vc i hlt u
      have HXl := Lib.hid hxl
      have HRW := Lib.hid hrw
      have HOW := Lib.hid hown
      obtain ⟨X, hX⟩ : ∃ X : ByteArray, X = ⟨x.toArray⟩ := ⟨_, rfl⟩
      have HBY : Hid (∀ u, Calls Tryd.prog 37 #[sumV x] u fun e w' => e = .returned (.string X) ∧ Below u.heap.size u w') := Lib.hid fun u => by rw [hX]; exact rbytes_any x u HXl.out
      rw [← hX] at hst
      have HST := Lib.hid hst
      unfold sumV at HBY
      clear hb hx hr hxl hrw hst hown hX
      go_wp2_with (first
        | refine wpList_load_mid rfl 31 (.tmp 16) rfl b (off + i * 32) rfl (x.map u8V) _ HRW.out Tryd.underlying31 rfl (sum_info' HXl.out) ?_
        | (go_at_call 37; ((with_reducible refine (HBY.out _).mono ?_); rintro e w5 ⟨rfl, b5⟩))
        | (at_builtin; refine wpList_append_own _ rfl _ _ 56 rfl B1 9 i0 (.string ⟨#[]⟩) 1 16 Tryd.underlying56 hi hz0 hz1 hz2 rfl (by decide) _ _ _ rfl ((row_keep HOW.out b5).alloc _) ⟨w5.heap.size, 0, none⟩ 1 1 [.string X] rfl rfl (cell_one_new _ _ _) (by intro u hu; simp at hu; subst hu; rfl) (by unfold maxLen; omega) (by omega) (by have := b5.size; simp; omega) ?_; intro v' w3 hown' hgrow _))
      rw [← HST.out] at hown'
      have Bl : Below B1 w5 w3 := ((Below.refl _ w5).alloc (Nat.le_trans hB1w b5.size) _).grown hgrow (by have := b5.size; simp; omega) (fun g hg => (HOW.out.lt g hg).1)
      refine ⟨⟨i + 1, by omega, by go_num, hown', (HBl.out.trans (b5.mono hB1w)).trans Bl⟩, by simp [intOf]; omega⟩
    · have hi' : i = k := by omega
      subst hi'
      have hsr : StrRow wr u5 (strS P) := by
        have := StrRow.of_own (ts := strS P) (n := i) (by have := hown; rwa [List.take_of_length_le (by rw [← Hk.out]; exact Nat.le_refl _)] at this) (by rw [strS_length, ← Hk.out]; omega)
        exact this
      have HSR := Lib.hid hsr
      have hk2 : Below w.heap.size w wr := hb.mono (by rw [HB1.out]; exact Nat.le_refl _)
      have HK2 := Lib.hid hk2
      clear hb hown hsr hk2
      go_wp2_with (first
        | (go_at_call 38; refine (refPut_any n _ (by omega)).mono ?_; rintro e w7 ⟨rfl, b7⟩)
        | (go_at_call 39; refine (refList_any _ (strS P) _ (HSR.out.old b7) (by rw [strS_length, ← Hk.out]; omega) HSS.out).mono ?_; rw [← HL.out]; rintro e w8 ⟨rfl, b8⟩))
      go_ret
      exact ⟨by rw [HFB.out]; rfl, below_step (below_step HK2.out (Nat.le_refl _) b7) (Nat.le_refl _) b8⟩
end Go.Proofs.YtgiakpnkidblpaaDoor
