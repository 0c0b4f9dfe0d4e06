/-
  The document's own Rest, Cut, Take.
-/
import Derived.Test.YtlbnopfbfnobnaaExtRefA
import Derived.Test.YtlbnopfbfnobnaaExtTake
namespace Go.Proofs.Ytlbnopfbfnobnaa
open Go.RowKit Ext

theorem rst_step {l : List Rn} {k : Nat} (hk : k < l.length) (f n : Int) : rst (l.drop k) f n = if l[k].2 ≤ f then rst (l.drop (k + 1)) (f - l[k].2) n else if (if n < l[k].2 - f then n else l[k].2 - f) < 1 then [] else (l[k].1 + f, if n < l[k].2 - f then n else l[k].2 - f) :: rst (l.drop (k + 1)) 0 (n - if n < l[k].2 - f then n else l[k].2 - f) := by
  rw [List.drop_eq_getElem_cons hk, rst]
theorem append_one {B : Nat} {w : World} {v : Value} {l : List Rn} (r : Rn) (hr : okR r) (h : Own B w v l) (hB : B ≤ w.heap.size) (hl : l.length + 1 ≤ 1000000000) :
    ∃ v' w', (Builtin.append_ #[22, 22] 22 #[v, .slice (some ⟨w.heap.size, 0, none⟩) 1 1]).run Try.prog (w.alloc (.cells #[.int .i64 r.1, .int .i64 r.2] 24)) = .ok v' w' ∧ Own B w' v' (l ++ [r]) ∧ Below B w w' ∧ ∀ k, k < w.heap.size → v.ownBlock ≠ some k → w'.heap[k]? = w.heap[k]? := by
  obtain ⟨v', w', h1, h2, h3, h4⟩ := append_own' (B := B) 22 (h.kept (below_box w (.cells #[.int .i64 r.1, .int .i64 r.2] 24))) (Runs.one w r hr) (by simp; omega) (by simp; omega)
  refine ⟨v', w', h1, h2, ((Below.refl _ _).alloc hB _).trans h3, fun k hk hne => ?_⟩
  rw [h4.block k (by simp; omega) (Ne.symm hne), Below.heap_alloc _ _ _ hk]
def BoxN (B : Nat) (w : World) (a n : Int) : Prop := w.heap[B]? = some (.cells #[.int .i64 a, .int .i64 n] 24 (0, 0))
set_option maxHeartbeats 6400000 in
set_option maxRecDepth 100000 in
theorem rrest_any (v : Value) (l : List Rn) (f n : Int) (w : World) (hl : Runs w v l) (hf : fileB l = true) (hf1 : -9223372036854775808 ≤ f) (hf2 : f ≤ 9223372036854775807) (hn1 : -9223372036854775808 ≤ n) (hn2 : n ≤ 9223372036854775807) (hln : l.length ≤ 1000) :
    Calls Try.prog 21 #[v, .int .i64 f, .int .i64 n] w fun e w' => ∃ v1, e = .returned v1 ∧ Runs w' v1 (rst l (max f 0) n) ∧ Below w.heap.size w w' := by
  obtain ⟨va, cap, rfl, hlc, hcap⟩ := hl.slice
  obtain ⟨F, hF⟩ : ∃ F, F = max f 0 := ⟨_, rfl⟩
  have hF0 : 0 ≤ F := by omega
  have hF1 : F ≤ 9223372036854775807 := by omega
  rw [← hF]
  have hcase : (0 ≤ f ∧ F = f) ∨ (f < 0 ∧ F = 0) := by omega
  clear hF
  go_enter Try.func21, Try.ntmps21
  go_upto_if 11 with fail
  go_cut [1] (fun s1 wx => w = wx ∧ s1 = .int .i64 F)
  case first =>
    rcases hcase with ⟨h0, rfl⟩ | ⟨h0, rfl⟩
    · go_wp2
      go_meet
      case rel => exact ⟨rfl, rfl⟩
    · go_wp2
      go_meet
      case rel => exact ⟨rfl, rfl⟩
  case rest =>
    obtain ⟨rfl, rfl⟩ := hcut
    clear hcase
    go_wp2
    go_loopw [1, 2, 7, 8] (fun s1 s2 s7 s8 wr => ∃ (k : Nat) (f' n' : Int) (acc : List Rn), k ≤ l.length ∧ s8 = .int .i64 k ∧ s1 = .int .i64 f' ∧ s2 = .int .i64 n' ∧ (0 ≤ f' ∧ f' ≤ 9223372036854775807) ∧ (-9223372036854775808 ≤ n' ∧ n' ≤ 9223372036854775807) ∧ acc.length ≤ k ∧ rst l F n = acc ++ rst (l.drop k) f' n' ∧ Own w.heap.size wr s7 acc ∧ Below w.heap.size w wr) (fun _ _ _ s8 _ => l.length - (intOf s8).toNat)
    case atStart => exact ⟨0, F, n, [], by omega, rfl, rfl, rfl, by omega, by omega, by simp, rfl, Own.nil _ _, Below.refl _ _⟩
    case round =>
      obtain ⟨k, f', n', acc, hk, rfl, rfl, rfl, ⟨g1, g2⟩, ⟨g3, g4⟩, hak, hc, ho, hb⟩ := hrel
      have HC := Lib.hid hc
      clear hc
      by_cases hlt : k < l.length
      · obtain ⟨b, off, rfl, hbB, -, e0, e1⟩ := (hl.old hb).at k hlt
        have hs := fileB_get hf k hlt
        have hst := rst_step hlt f' n'
        obtain ⟨xx, hx⟩ : ∃ xx, xx = l[k] := ⟨_, rfl⟩
        rw [← hx] at e0 e1 hs hst
        obtain ⟨a, m⟩ := xx
        simp only at e0 e1 hs hst
        obtain ⟨s1, s2, s3⟩ := hs
        have HST := Lib.hid hst
        clear hst hx
        by_cases c1 : m ≤ f'
        · go_wp2
          go_roundw
          case rel =>
            refine ⟨k + 1, f' - m, n', acc, by omega, by go_num, rfl, rfl, by omega, by omega, by omega, ?_, ho.kept (below_box _ _), below_step hb (Nat.le_refl _) (below_box _ _)⟩
            rw [HC.out, HST.out, if_pos c1]
          case measure => simp [intOf]; omega
        · by_cases c2 : n' < m - f'
          · by_cases c3 : n' < 1
            · go_wp2
              go_ret
              refine ⟨_, rfl, ?_, below_step hb (Nat.le_refl _) (below_box _ _)⟩
              rw [HC.out, HST.out, if_neg (by omega), if_pos c2, if_pos c3, List.append_nil]
              exact (ho.kept (below_box _ _)).runs
            · obtain ⟨B9, hB9⟩ : ∃ B9, B9 = wr.heap.size := ⟨_, rfl⟩
              obtain ⟨w5, hw5⟩ : ∃ w5, w5 = wr.alloc (.cells #[.int .i64 (a + f'), .int .i64 n'] 24) := ⟨_, rfl⟩
              have b5 : Below wr.heap.size wr w5 := by rw [hw5]; exact below_box _ _
              have x5 : BoxAt w5 B9 (a + f') n' := by rw [hw5, hB9]; exact BoxAt.new _ _ _
              obtain ⟨v', w', hr, ho', b', hk'⟩ := append_one (a + f', n') (by unfold okR; simp only; omega) (ho.kept b5) (by have := b5.size; have := hb.size; omega) (by omega)
              have x6 : BoxAt w' B9 (a + f') n' := (hk' B9 x5.lt (fun e => by have := (ho.lt _ e).2; omega)).trans x5
              simp only at hr
              have HR := Lib.hid hr
              have HO := Lib.hid ho'
              have hbt := (below_step hb (Nat.le_refl _) b5).trans b'
              have HB9 := Lib.hid hB9
              clear hr ho' b' ho hk'
              go_upto_region 17 with fail
              rw [← hw5, ← hB9]
              clear hw5 hB9 b5 hb e0 e1
              have k0 := x5.c0
              have k1 := x5.c1
              have j1 := x6.c1
              go_wp2_with (at_builtin; refine Lib.wpList_append_run _ rfl _ _ _ _ rfl _ _ rfl rfl _ _ HR.out ?_)
              go_roundw
              case rel =>
                refine ⟨k + 1, 0, n' - n', acc ++ [(a + f', n')], by omega, by go_num, rfl, by simp, by omega, by omega, by simp; omega, ?_, HO.out, hbt⟩
                rw [HC.out, HST.out, if_neg (by omega), if_pos c2, if_neg (by omega)]; simp
              case measure => simp [intOf]; omega
          · obtain ⟨B9, hB9⟩ : ∃ B9, B9 = wr.heap.size := ⟨_, rfl⟩
            obtain ⟨w5, hw5⟩ : ∃ w5, w5 = wr.alloc (.cells #[.int .i64 (a + f'), .int .i64 (m - f')] 24) := ⟨_, rfl⟩
            have b5 : Below wr.heap.size wr w5 := by rw [hw5]; exact below_box _ _
            have x5 : BoxAt w5 B9 (a + f') (m - f') := by rw [hw5, hB9]; exact BoxAt.new _ _ _
            obtain ⟨v', w', hr, ho', b', hk'⟩ := append_one (a + f', m - f') (by unfold okR; simp only; omega) (ho.kept b5) (by have := b5.size; have := hb.size; omega) (by omega)
            have x6 : BoxAt w' B9 (a + f') (m - f') := (hk' B9 x5.lt (fun e => by have := (ho.lt _ e).2; omega)).trans x5
            simp only at hr
            have HR := Lib.hid hr
            have HO := Lib.hid ho'
            have hbt := (below_step hb (Nat.le_refl _) b5).trans b'
            have HB9 := Lib.hid hB9
            clear hr ho' b' ho hk'
            go_upto_region 17 with fail
            rw [← hw5, ← hB9]
            clear hw5 hB9 b5 hb e0 e1
            have k0 := x5.c0
            have k1 := x5.c1
            have j1 := x6.c1
            go_wp2_with (at_builtin; refine Lib.wpList_append_run _ rfl _ _ _ _ rfl _ _ rfl rfl _ _ HR.out ?_)
            go_roundw
            case rel =>
              refine ⟨k + 1, 0, n' - (m - f'), acc ++ [(a + f', m - f')], by omega, by go_num, rfl, rfl, by omega, by omega, by simp; omega, ?_, HO.out, hbt⟩
              rw [HC.out, HST.out, if_neg (by omega), if_neg c2, if_neg (by omega)]; simp
            case measure => simp [intOf]; omega
      · go_wp2
        go_ret
        refine ⟨_, rfl, ?_, hb⟩
        rw [HC.out, List.drop_eq_nil_of_le (by omega), rst, List.append_nil]
        exact ho.runs
set_option maxHeartbeats 1600000 in
theorem rcut_any (v : Value) (l : List Rn) (n : Int) (w : World) (hl : Runs w v l) (hf : fileB l = true) (hn1 : -9223372036854775808 ≤ n) (hn2 : n ≤ 9223372036854775807) (hln : l.length ≤ 1000) :
    Calls Try.prog 25 #[v, .int .i64 n] w fun e w' => ∃ v1 v2, e = .returned (.tuple #[v1, v2]) ∧ Runs w' v1 (sf l n) ∧ Runs w' v2 (sg l (max n 0)) ∧ Below w.heap.size w w' := by
  obtain ⟨va, cap, rfl, hlc, hcap⟩ := hl.slice
  obtain ⟨N, hN⟩ : ∃ N, N = max n 0 := ⟨_, rfl⟩
  have hN0 : 0 ≤ N := by omega
  have hN1 : N ≤ 9223372036854775807 := by omega
  have hsf : sf l n = sf l N := by rw [hN, sf_max hf]
  rw [← hN, hsf]
  have hcase : (0 ≤ n ∧ N = n) ∨ (n < 0 ∧ N = 0) := by omega
  have ht := tot_nonneg hf
  have h1 := fun u (hu : Runs u (.slice va l.length cap) l) => rrest_any _ l 0 N u hu hf (by decide) (by decide) (by omega) hN1 hln
  rw [show max (0 : Int) 0 = 0 from rfl, rst_sf hf] at h1
  have h2 := fun u (hu : Runs u (.slice va l.length cap) l) => rrest_any _ l N 1125899906842624 u hu hf (by omega) hN1 (by decide) (by decide) hln
  rw [Int.max_eq_left hN0, rst_rest hf hN0 (by omega)] at h2
  clear hN hsf ht
  go_enter Try.func25, Try.ntmps25
  go_upto_if 7 with fail
  go_cut [1] (fun s1 wx => w = wx ∧ s1 = .int .i64 N)
  case first =>
    rcases hcase with ⟨h0, rfl⟩ | ⟨h0, rfl⟩
    · go_wp2
      go_meet
      case rel => exact ⟨rfl, rfl⟩
    · go_wp2
      go_meet
      case rel => exact ⟨rfl, rfl⟩
  case rest =>
    obtain ⟨rfl, rfl⟩ := hcut
    clear hcase
    go_wp2_with (first
      | (go_at_call 21; ((with_reducible refine (h1 _ hl).mono ?_); rintro e w1 ⟨v1, rfl, r1, b1⟩; replace hl := hl.old b1))
      | (go_at_call 21; ((with_reducible refine (h2 _ hl).mono ?_); rintro e w2 ⟨v2, rfl, r2, b2⟩; replace r1 := r1.old b2)))
    go_ret2
    exact ⟨v1, v2, rfl, r1, r2, below_step b1 (Nat.le_refl _) b2⟩
set_option maxHeartbeats 3200000 in
set_option maxRecDepth 100000 in
theorem rtake_any (v : Value) (l : List Rn) (n : Int) (w : World) (hl : Runs w v l) (hn1 : -9223372036854775808 ≤ n) (hn2 : n ≤ 9223372036854775807) (hln : l.length ≤ 1000) :
    Calls Try.prog 13 #[v, .int .i64 n] w fun e w' => ∃ v1 v2, e = .returned (.tuple #[v1, v2, .bool (tkB l n)]) ∧ Runs w' v1 (tkA l n) ∧ Runs w' v2 (tkR l n) ∧ Below w.heap.size w w' := by
  obtain ⟨va, cap, rfl, hlc, hcap⟩ := hl.slice
  have hck := rcheck_any _ l w hl
  cases hc : chk 0 l with
  | false =>
    have hb : tkB l n = false := by unfold tkB; rw [hc]; rfl
    have HK := Lib.hid (tk_no hb)
    have HB := Lib.hid hb
    rw [show chkE l = 1 by unfold chkE; rw [hc]; rfl] at hck
    clear hb
    go_enter Try.func13, Try.ntmps13
    go_wp2_with (go_at_call 31; refine hck.mono ?_; rintro e w2 ⟨rfl, b2⟩; replace hl := hl.old b2)
    exact bodyPost_ret (v := .tuple #[.slice none 0 0, .slice va l.length cap, .bool false]) (by simp [results, Try.results13, go_sem]) rfl ⟨_, _, by rw [HB.out], by rw [HK.out.1]; exact Runs.nil _, by rw [HK.out.2]; exact hl, b2⟩
  | true =>
    have hf := chk_file hc
    rw [show chkE l = 0 by unfold chkE; rw [hc]; rfl] at hck
    by_cases h0 : 0 ≤ n
    · have h0' : ¬ n < 0 := by omega
      by_cases ht : n ≤ tot l
      · have hb : tkB l n = true := by unfold tkB; rw [hc, decide_eq_true h0, decide_eq_true ht]; rfl
        have HB := Lib.hid hb
        obtain ⟨T, hT⟩ : ∃ T, T = tot l := ⟨_, rfl⟩
        have hto := fun u (hu : Runs u (.slice va l.length cap) l) => rtotal_any _ l u hu hf (by omega)
        rw [← hT] at hto ht
        have ht' : ¬ T < n := by omega
        have hsp := fun u (hu : Runs u (.slice va l.length cap) l) => rcut_any _ l n u hu hf hn1 hn2 hln
        rw [Int.max_eq_left h0] at hsp
        clear hb hT
        go_enter Try.func13, Try.ntmps13
        go_wp2_with (first
          | (go_at_call 31; refine hck.mono ?_; rintro e w2 ⟨rfl, b2⟩; replace hl := hl.old b2)
          | (go_at_call 32; refine (hto _ hl).mono ?_; rintro e w3 ⟨rfl, rfl⟩)
          | (go_at_call 25; refine (hsp _ hl).mono ?_; rintro e w4 ⟨v1, v2, rfl, h1, h2, b4⟩))
        exact bodyPost_ret (v := .tuple #[v1, v2, .bool true]) (by simp [results, Try.results13, go_sem]) rfl ⟨v1, v2, by rw [HB.out], by unfold tkA; rw [if_pos HB.out]; exact h1, by unfold tkR; rw [if_pos HB.out]; exact h2, below_step b2 (Nat.le_refl _) b4⟩
      · have hb : tkB l n = false := by unfold tkB; rw [decide_eq_false ht, Bool.and_false]
        have HK := Lib.hid (tk_no hb)
        have HB := Lib.hid hb
        obtain ⟨T, hT⟩ : ∃ T, T = tot l := ⟨_, rfl⟩
        have hto := fun u (hu : Runs u (.slice va l.length cap) l) => rtotal_any _ l u hu hf (by omega)
        rw [← hT] at hto ht
        have ht' : T < n := by omega
        clear hb hT
        go_enter Try.func13, Try.ntmps13
        go_wp2_with (first
          | (go_at_call 31; refine hck.mono ?_; rintro e w2 ⟨rfl, b2⟩; replace hl := hl.old b2)
          | (go_at_call 32; refine (hto _ hl).mono ?_; rintro e w3 ⟨rfl, rfl⟩))
        exact bodyPost_ret (v := .tuple #[.slice none 0 0, .slice va l.length cap, .bool false]) (by simp [results, Try.results13, go_sem]) rfl ⟨_, _, by rw [HB.out], by rw [HK.out.1]; exact Runs.nil _, by rw [HK.out.2]; exact hl, b2⟩
    · have hb : tkB l n = false := by unfold tkB; rw [decide_eq_false h0, Bool.and_false, Bool.false_and]
      have HK := Lib.hid (tk_no hb)
      have HB := Lib.hid hb
      have h0' : n < 0 := by omega
      clear hb
      go_enter Try.func13, Try.ntmps13
      go_wp2_with (go_at_call 31; refine hck.mono ?_; rintro e w2 ⟨rfl, b2⟩; replace hl := hl.old b2)
      exact bodyPost_ret (v := .tuple #[.slice none 0 0, .slice va l.length cap, .bool false]) (by simp [results, Try.results13, go_sem]) rfl ⟨_, _, by rw [HB.out], by rw [HK.out.1]; exact Runs.nil _, by rw [HK.out.2]; exact hl, b2⟩
end Go.Proofs.Ytlbnopfbfnobnaa
