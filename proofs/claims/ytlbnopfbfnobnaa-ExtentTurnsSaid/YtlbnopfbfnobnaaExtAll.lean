/-
  Package extent: All: a file's sectors; rows of numbers in memory.
-/
import Derived.Test.YtlbnopfbfnobnaaExtFile
namespace Go.Proofs.Ytlbnopfbfnobnaa
open Go.RowKit Ext

theorem info_num : (Try.prog.info? 3).map (fun i => (i.zero, i.size, i.bytes)) = some (some (.int .i64 0), 1, 8) := by kernel_rfl
/-- v is a slice that reads as the numbers l. -/
def Nums (w : World) (v : Value) (l : List Int) : Prop :=
  ∃ a cap, v = .slice a l.length cap ∧ l.length ≤ 9223372036854775807 ∧ (0 < l.length → ∃ b off, a = some ⟨b, off, none⟩ ∧ b < w.heap.size ∧ ∀ j (hj : j < l.length), w.cell? ⟨b, off + j, none⟩ = some (.int .i64 l[j]))
theorem Nums.old {w w' : World} {v : Value} {l : List Int} (h : Nums w v l) (k : Below w.heap.size w w') : Nums w' v l := by
  obtain ⟨a, cap, rfl, h1, h5⟩ := h
  refine ⟨a, cap, rfl, h1, fun hn => ?_⟩
  obtain ⟨b, off, rfl, hb, hj⟩ := h5 hn
  exact ⟨b, off, rfl, Nat.lt_of_lt_of_le hb k.size, fun j h => (k.cell (by exact hb)).trans (hj j h)⟩
theorem Nums.slice {w : World} {v : Value} {l : List Int} (h : Nums w v l) : ∃ a cap, v = .slice a l.length cap ∧ l.length ≤ 9223372036854775807 := by
  obtain ⟨a, cap, rfl, h1, h5⟩ := h
  exact ⟨a, cap, rfl, h1⟩
theorem Nums.at {w : World} {a : Option Addr} {n cap : Nat} {l : List Int} (h : Nums w (.slice a n cap) l) (k : Nat) (hk : k < l.length) : ∃ b off, a = some ⟨b, off, none⟩ ∧ b < w.heap.size ∧ n = l.length ∧ w.cell? ⟨b, off + k, none⟩ = some (.int .i64 l[k]) := by
  obtain ⟨a', cap', e, h1, h5⟩ := h
  injection e with e1 e2 e3
  subst e1 e2 e3
  obtain ⟨b, off, rfl, hb, hj⟩ := h5 (by omega)
  exact ⟨b, off, rfl, hb, rfl, hj k hk⟩
theorem Nums.nil (w : World) : Nums w (.slice none 0 0) [] := ⟨none, 0, rfl, by decide, fun h => absurd h (by simp)⟩
def OwnI (B : Nat) (w : World) (v : Value) (l : List Int) : Prop := w.ownsRow B 3 1 v l.length (l.map (Value.int .i64))
theorem OwnI.nums {B : Nat} {w : World} {v : Value} {l : List Int} (h : OwnI B w v l) (hl : l.length ≤ 9223372036854775807) : Nums w v l := by
  have h' := h
  obtain ⟨_, h | ⟨g, cap, cur, rfl, hbg, hg, hnc, hcm, hcs, htake⟩⟩ := h
  · obtain ⟨rfl, h0⟩ := h
    have := List.eq_nil_of_length_eq_zero h0
    subst this
    exact Nums.nil _
  · refine ⟨_, cap, rfl, hl, fun _ => ⟨g, 0, rfl, (Array.getElem?_eq_some_iff.1 hg).1, fun j hj => ?_⟩⟩
    have hc := h'.cells (g := g) rfl j (.int .i64 l[j]) (by simp [hj])
    rw [Addr.add_mid] at hc
    exact hc
theorem append_num {B : Nat} {w : World} {v : Value} {l : List Int} (x : Int) (h : OwnI B w v l) (hB : B ≤ w.heap.size) (hl : l.length + 1 ≤ 1000000000) :
    ∃ v' w', (Builtin.append_ #[34, 34] 34 #[v, .slice (some ⟨w.heap.size, 0, none⟩) 1 1]).run Try.prog (w.alloc (.cells #[.int .i64 x] 3)) = .ok v' w' ∧ OwnI B w' v' (l ++ [x]) ∧ Below B w w' ∧ ∀ k y n, BoxAt w k y n → BoxAt w' k y n := by
  obtain ⟨i0, hi, hz0, hz1, hz2⟩ := info_parts info_num
  have h0 : (w.alloc (.cells #[.int .i64 x] 3)).ownsRow B 3 1 v l.length (l.map (Value.int .i64)) := h.alloc _
  obtain ⟨v', w', h1, h2, h3, _⟩ := run_append_own_at (P := Try.prog) (w.alloc (.cells #[.int .i64 x] 3)) B _ 34 _ i0 _ 1 8 Try.underlying34 hi hz0 hz1 hz2 rfl (by decide) v l.length _ h0 ⟨w.heap.size, 0, none⟩ 1 1 [.int .i64 x] rfl (cell_one_new w _ _) (by intro u hu; simp at hu; subst hu; rfl) (by unfold maxLen; omega) (by omega) (by simp; omega)
  refine ⟨v', w', h1, by unfold OwnI; rw [List.length_append, List.map_append]; exact h2, ((Below.refl _ _).alloc hB _).trans (grown_below h3 (by simp; omega) fun g e => (World.ownsRow.lt h0 g e).1), fun k y n hk => ?_⟩
  have hk' : BoxAt (w.alloc (.cells #[.int .i64 x] 3)) k y n := hk.old (below_box _ _)
  refine (h3.block k hk'.lt fun e => ?_).trans hk'
  rcases h0.2 with ⟨rfl, _⟩ | ⟨g, cap, cur, rfl, hbg, hg, _⟩
  · simp [Value.ownBlock] at e
  · simp [Value.ownBlock] at e
    subst e
    unfold BoxAt at hk'
    rw [hk'] at hg
    simp at hg
theorem allS_take {l : List Rn} (k : Nat) (hk : k < l.length) : allS (l.take (k + 1)) = allS (l.take k) ++ rowS l[k].1 l[k].2.toNat := by
  rw [List.take_succ_eq_append_getElem hk, allS_append]; simp [allS]
theorem allS_len_take {l : List Rn} (hf : fileB l = true) (k : Nat) (hl : l.length ≤ 1000) : (allS (l.take k)).length ≤ 65536000 := by
  have h1 := allS_length (file_take hf k)
  have h2 := tot_nonneg (file_take hf k)
  have h3 : (l.take k).length ≤ l.length := by rw [List.length_take]; omega
  omega
set_option maxHeartbeats 3200000 in
set_option maxRecDepth 100000 in
theorem all_any (v : Value) (l : List Rn) (w : World) (hl : Runs w v l) (hf : fileB l = true) (hln : l.length ≤ 1000) :
    Calls Try.prog 18 #[v] w fun e w' => ∃ v', e = .returned v' ∧ Nums w' v' (allS l) ∧ Below w.heap.size w w' := by
  obtain ⟨va, cap, rfl, hlc, hcap⟩ := hl.slice
  have hif := isfile_any _ l w hl
  rw [hf] at hif
  go_enter Try.func18, Try.ntmps18
  go_wp2_with (go_at_call 38; refine hif.mono ?_; rintro e w1 ⟨rfl, b1⟩)
  go_loopw [3, 12] (fun s3 s12 wr => ∃ k : Nat, k ≤ l.length ∧ s12 = .int .i64 k ∧ OwnI w.heap.size wr s3 (allS (l.take k)) ∧ Below w.heap.size w wr) (fun _ s12 _ => l.length - (intOf s12).toNat)
  case atStart => exact ⟨0, by omega, rfl, World.ownsRow_nil _ _ _ _, b1⟩
  case round =>
    clear b1
    obtain ⟨k, hk, rfl, ho, hb⟩ := hrel
    by_cases hlt : k < l.length
    · obtain ⟨b, off, rfl, hbB, -, e0, e1⟩ := (hl.old hb).at k hlt
      have hs := fileB_get hf k hlt
      have hat := allS_take k hlt
      have hal := allS_len_take hf k hln
      obtain ⟨xx, hx⟩ : ∃ xx, xx = l[k] := ⟨_, rfl⟩
      rw [← hx] at e0 e1 hs hat
      obtain ⟨a, n⟩ := xx
      simp only at e0 e1 hs hat
      obtain ⟨s1, s2, s3⟩ := hs
      obtain ⟨A, hA⟩ : ∃ A, A = allS (l.take k) := ⟨_, rfl⟩
      rw [← hA] at hat hal ho
      have HAT := Lib.hid hat
      clear hat hx hA
      obtain ⟨N, rfl⟩ : ∃ N : Nat, n = N := ⟨n.toNat, by omega⟩
      obtain ⟨B5, hB5⟩ : ∃ B5, B5 = wr.heap.size := ⟨_, rfl⟩
      obtain ⟨w5, hw5⟩ : ∃ w5, w5 = wr.alloc (.cells #[.int .i64 a, .int .i64 (N : Int)] 24) := ⟨_, rfl⟩
      have b5 : Below wr.heap.size wr w5 := by rw [hw5]; exact below_box _ _
      have x5 : BoxAt w5 B5 a N := by rw [hw5, hB5]; exact BoxAt.new _ _ _
      have ho5 : OwnI w.heap.size w5 u3 A := by rw [hw5]; exact ho.alloc _
      replace hb := below_step hb (Nat.le_refl _) b5
      have HB5 := Lib.hid hB5
      go_upto_region 7 with fail
      rw [← hw5, ← hB5]
      clear hw5 hB5 b5 e0 e1 ho
      have c1 := x5.c1
      go_wp2
      clear c1
      go_loopw [3, 18] (fun s3 s18 wr => ∃ j : Nat, j ≤ N ∧ s18 = .int .i64 j ∧ OwnI w.heap.size wr s3 (A ++ rowS a j) ∧ BoxAt wr B5 a N ∧ Below w.heap.size w wr) (fun _ s18 _ => N - (intOf s18).toNat)
      case atStart => exact ⟨0, by omega, rfl, by rw [rowS, List.append_nil]; exact ho5, x5, hb⟩
      case round =>
        clear ho5 x5 hb
        rename_i wv
        obtain ⟨j, hj, rfl, hoj, x5, hb⟩ := hrel
        by_cases hjn : j < N
        · have hjn' : (j : Int) < (N : Int) := by omega
          obtain ⟨v', w', hr, ho', b', hx'⟩ := append_num (a + j) hoj hb.size (by rw [List.length_append, rowS_length]; omega)
          have x5' := hx' _ _ _ x5
          rw [List.append_assoc, ← rowS_snoc] at ho'
          have c0 := x5.c0
          have HR := Lib.hid hr
          have HO := Lib.hid ho'
          have hb' := hb.trans b'
          clear hr ho' hx' hoj b' hb
          go_wp2_with (at_builtin; refine Lib.wpList_append_run _ rfl _ _ _ _ rfl _ _ rfl rfl _ _ HR.out ?_)
          go_roundw
          case rel => exact ⟨j + 1, by omega, by go_num, HO.out, x5', hb'⟩
          case measure => simp [intOf]; omega
        · obtain rfl : j = N := by omega
          go_wp2
          go_roundw
          case rel => exact ⟨k + 1, by omega, by go_num, by rw [HAT.out]; exact hoj, hb⟩
          case measure => simp [intOf]; omega
    · obtain rfl : k = l.length := by omega
      rw [List.take_of_length_le (Nat.le_refl _)] at ho
      have hal := allS_len_take hf l.length hln
      rw [List.take_of_length_le (Nat.le_refl _)] at hal
      have HO := Lib.hid (ho.nums (by omega))
      clear ho
      go_wp2
      go_ret
      exact ⟨_, rfl, HO.out, hb⟩
end Go.Proofs.Ytlbnopfbfnobnaa
